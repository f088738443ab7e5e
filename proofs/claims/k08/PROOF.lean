import PyProof.Rows.All
import Wide.All
import OpenK.AllK
import Wide.FinOn
import HandS.ForMost
import HandS.More
import HandS.Sort
import HandS.Wide
import HandS.WideBits
import HandS.IsInst
import HandS.EndBits
import HandS.Exc
import HandS.ExcOwn
import HandS.ExcValue
import HandS.ExcInit
import HandS.ExcField
import HandS.WordsExc
import KE.KExcIs
import HandS.TupLe
import HandS.TupAny
import HandS.Zip
import HandS.Walk
import HandS.Star
import HandS.Style
import HandS.CallLocal
import HandS.Deep
import HandS.AnyAll
import HandS.GenOver
import HandS.EndTab
import HandS.Lambda
import PyProof.TupleOfGen
import PyProof.GenCompD
import PyProof.EqLayable
import HandS.SortInts
import HandS.RaiseMore
import HandS.SetFor
import HandS.Strs
import HandS.SortRule
import HandS.TryOnly
import HandS.Set
import HandS.Flow
import HandS.TupLen
import KE.KDictPairs
import KE.DataFind
import HandS.More
import HandS.Deep
import KE.GoesMore
import PySem.Challenge.RW_tiedcut_k08_whole_one_sort_of_papers
set_option Elab.async false
set_option linter.all false
set_option maxRecDepth 100000
set_option maxHeartbeats 4000000
namespace My
open PySem PySem.Spec PyProof.Rows L2
/-! ### a generator expression, consumed by all: its own frame -/
def gcx (X : Cx) (s : Shared) (H : Hp) (ge : Env) (fp : List Addr) (Ag : Around) : Cx :=
  { X with A := Ag, s_0 := s, H_0 := H, env := ge, outer := X.stack, stack := ge :: X.stack, ex := fp, fn := fun _ => false, pn := [], xe := fun _ _ => False }
section
variable {X : Cx} {pins : List (Addr × Obj)} {σ : L2.St} {H : Hp} {s : Shared}
theorem clo_in {scope : Scope} {own : List (Str × Nat)} (I : Inv X pins σ H s) (ok : BlkOk X.N X.env.scope scope own) {y : Str} {c : Addr} (hm : (y, c) ∈ cloFrom X.env.cells scope.names []) : X.env.cells.lookup y = some c ∧ c < s.heap.objs.size ∧ (y, NameKind.free) ∈ scope.names := by
  rcases cloFrom_mem hm with z | ⟨h1, rfl⟩
  · cases z
  · have hc : ∃ c, X.env.cells.lookup y = some c := by
      rcases ok.free _ h1 rfl with k | k
      · exact I.ok.has _ (.inl k)
      · exact I.ok.has _ (.inr k)
    obtain ⟨c, hc⟩ := hc
    obtain ⟨v, z⟩ := I.cell _ _ hc
    rw [hc]
    exact ⟨rfl, z.lt, h1⟩
theorem gen_start {scope : Scope} {own : List (Str × Nat)} {fp : List Addr} {ge : Env} {code : Value} {Ag : Around} {s5 : Shared} {m : Str → Option Value} {ga : Addr} {go : Obj} (I : Inv X pins σ H s) (ok : BlkOk X.N X.env.scope scope own) (hN : X.N.Nodup)
    (hfp : ∀ b ∈ fp, FpOk X pins H b ∧ b < s.heap.objs.size) (hge : ge = genEnv scope (cloFrom X.env.cells scope.names []) s.heap.objs.size code builtinsNs X.env) (nocell : ∀ y ∈ scope.names, y.2 ≠ .cell)
    (hA : Ag.handled = none) (hfr : Ag.frames = some (ge :: X.stack)) (k5 : ∀ b o, s.heap.get? b = some o → s5.heap.get? b = some o) (os5 : s5.os = s.os) (bare5 : AllBare s5.gens)
    (ns5 : s5.heap.Ns s.heap.objs.size m) (hga : s5.heap.get? ga = some go) (hgt : s.heap.objs.size < ga) (hgd : ∀ v, go.data ≠ .cell v) :
    Inv (gcx X s H ge fp Ag) [(ga, go)] (wipe σ (own.map (·.2))) H s5 := by
  have hL : ge.locals = s.heap.objs.size := by
    rw [hge]
    rfl
  have hC : ge.cells = cloFrom X.env.cells scope.names [] := by
    rw [hge]
    rfl
  have hS : ge.scope = scope := by
    rw [hge]
    rfl
  have inC : ∀ {y c}, ge.cells.lookup y = some c → X.env.cells.lookup y = some c ∧ c < s.heap.objs.size := fun {y c} e => by
    rw [hC] at e
    have z := clo_in I ok (PySem.mem_of_lookup e)
    exact ⟨z.1, z.2.1⟩
  have look : ∀ {y}, scope.names.lookup y = some .free → ∃ c, ge.cells.lookup y = some c ∧ X.env.cells.lookup y = some c := fun {y} hl => by
    have hm := cloFrom_has (cells := X.env.cells) (acc := []) (PySem.mem_of_lookup hl)
    obtain ⟨c, e⟩ := mem_lookup hm
    rw [← hC] at e
    exact ⟨c, e, (inC e).1⟩
  have kindF : ∀ {y k}, scope.names.lookup y = some k → (k = .cell ∨ k = .free) → scope.names.lookup y = some .free := fun {y k} e hk => by
    rcases hk with rfl | rfl
    · exact absurd rfl (nocell _ (PySem.mem_of_lookup e))
    · exact e
  have okG : (gcx X s H ge fp Ag).Ok := by
    refine ⟨I.ok.mod, ?_, ?_, ?_, ?_, ?_, ?_, ?_, fun _ => hA, hfr, .inr ⟨rfl, ?_⟩, ?_, I.bs, Nat.le_trans I.ok.bsz I.sz, ?_, ?_, I.stack, I.stkFree⟩
    · show ge.scope.kind = .function
      rw [hS]
      exact ok.kind
    · show ge.globals = mainGlobals
      rw [hge]
      exact I.ok.glob
    · show ge.builtins = builtinsNs
      rw [hge]
      rfl
    · show s.heap.objs.size ≤ ge.locals
      rw [hL]
      exact Nat.le_refl _
    · intro y z c e1 e2
      exact I.ok.inj y z c (inC e1).1 (inC e2).1
    · intro y hy
      have e : scope.names.lookup y = some .free := by
        rcases hy with hy | hy
        · have hy2 : ge.scope.names.lookup y = some .cell := hy
          rw [hS] at hy2
          exact kindF hy2 (.inl rfl)
        · have hy2 : ge.scope.names.lookup y = some .free := hy
          rw [hS] at hy2
          exact hy2
      obtain ⟨c, e1, _⟩ := look e
      exact ⟨c, e1⟩
    · intro y c z
      cases z
    · show ge.frame = some ge.locals
      rw [hge]
      rfl
    · intro b hb
      refine ⟨?_, fun y c e z => ?_⟩
      · show b ≠ ge.locals
        rw [hL]
        exact Nat.ne_of_lt (hfp b hb).2
      · exact (hfp b hb).1.2.2.2.2.1 y c (inC e).1 z
    · intro b o e hb
      rcases (hfp b hb).1.2.2.2.1 with z | z
      · exact I.ok.noex b o e z
      · exact absurd (Nat.lt_of_lt_of_le (Heap.lt_size e) (Nat.le_trans I.ok.bsz z)) (Nat.lt_irrefl _)
    · intro b hb z
      rcases List.mem_cons.mp (I.stkSub b z) with z | z
      · exact (hfp b hb).1.2.1 z
      · exact (hfp b hb).1.2.2.1 z
  have frL : H s.heap.objs.size = none := I.hok.fresh (Nat.le_refl _)
  refine ⟨okG, os5, bare5, Un.kept k5, ⟨m, ?_, fun i y av e1 e2 e3 => ?_⟩, fun y c e => ?_, ?_, fun y c e => I.freeC y c (inC e).1, fun p hp => ?_, I.hok.kept k5, by rw [wipe_length]; exact I.len⟩
  · show s5.heap.Ns ge.locals m
    rw [hL]
    exact ns5
  · obtain ⟨e2, hne⟩ := wipe_some e2
    have e3 : Vis ge.scope y := e3
    rw [hS] at e3
    have nol : scope.names.lookup y ≠ some .local := fun z => by
      rcases ok.own _ (PySem.mem_of_lookup z) (.inl rfl) with q | q
      · obtain ⟨p, hp, hpy⟩ := List.mem_map.mp q
        have e5 := ok.ix p hp
        have e6 : p.1 = y := hpy
        rw [e6] at e5
        exact hne (List.mem_map.mpr ⟨p, hp, nodup_ix hN e5 e1⟩)
      · exact q (List.mem_of_getElem? e1)
    have hf : scope.names.lookup y = some .free := by
      rcases e3 with z | z | z
      · exact absurd z nol
      · exact kindF z (.inl rfl)
      · exact z
    obtain ⟨m0, hn, hl⟩ := I.loc
    have hvis : Vis X.env.scope y := (ok.free _ (PySem.mem_of_lookup hf) rfl).elim (fun k => .inr (.inl k)) (fun k => .inr (.inr k))
    obtain ⟨u, r, q⟩ := hl i y av e1 e2 hvis
    obtain ⟨c, g1, g2⟩ := look hf
    refine ⟨u, r, .inr ⟨.inr ?_, c, g1, ?_⟩⟩
    · show ge.scope.names.lookup y = some .free
      rw [hS]
      exact hf
    · rcases q with ⟨k, _⟩ | ⟨_, c', e', z⟩
      · have k : X.env.scope.names.lookup y = some .local := k
        rcases ok.free _ (PySem.mem_of_lookup hf) rfl with k' | k'
        · have k2 : X.env.scope.names.lookup y = some .cell := k'
          rw [k2] at k
          cases k
        · have k2 : X.env.scope.names.lookup y = some .free := k'
          rw [k2] at k
          cases k
      · rw [g2] at e'
        cases e'
        exact z.keeps k5
  · obtain ⟨v, z⟩ := I.cell y c (inC e).1
    exact ⟨v, z.keeps k5⟩
  · show H ge.locals = none
    rw [hL]
    exact frL
  · have hp2 : p ∈ ([] : List (Addr × Obj)) ++ [(ga, go)] := hp
    rw [List.nil_append] at hp2
    rcases List.mem_cons.mp hp2 with e | e
    · subst e
      refine ⟨hga, I.hok.fresh (Nat.le_of_lt hgt), ?_, fun z => ?_, hgd⟩
      · show ga ≠ ge.locals
        rw [hL]
        exact Nat.ne_of_gt hgt
      · have z2 : ga ∈ frs X.stack := z
        obtain ⟨_, o, ho, _⟩ := I.stack.mem z2
        exact absurd (Nat.lt_trans (Heap.lt_size ho) hgt) (Nat.lt_irrefl _)
    · cases e
end
section
variable {X : Cx} {pins : List (Addr × Obj)} {σ : L2.St} {H : Hp} {s : Shared}
/-- the generator's object -/
def genO (X : Cx) (s4 : Shared) : Obj := { cls := .type "generator", data := .fields #[.int s4.gens.size 0, .str "<genexpr>" (s4.toks + 1), .str (X.env.qual ++ "<genexpr>") (s4.toks + 1 + 1)] }
/-- the generator is made: its source has come, the def's table may have grown -/
theorem gen_make {c P : Addr} {elt tg iter : Expr} {gpos : Pos} {scope : Scope} {own : List (Str × Nat)} {wi : TI} {k : Nat} {Q' : Value → Shared → Prop} {R : It → Hp → Prop} (hr : Room k X.A) (TB : GxR.TabB X.base X.mg c P) (hcode : X.env.code = .ref c)
    (ok : BlkOk X.N X.env.scope scope own) (hco : scope.isCoroutine = false) (nocell : ∀ y ∈ scope.names, y.2 ≠ .cell) (hdot : scope.names.lookup (".0" : Str) = some NameKind.local) (hi : PI X tg iter wi) (hs : ∀ v, genFold iter X.env v = pure v)
    (I : Inv X pins σ H s) (h : wi σ H fun J H1 => GxR.TabG H1 P ∧ R J H1)
    (hQ : ∀ (it : Addr) (fp : List Addr) (tn : Nat → Heap → Prop) (J : It) (H1 H2 : Hp) (code : Value) (s4 : Shared) (h5 : Heap), Inv X pins σ H2 s4 → GxR.Tabbed P H1 H2 → Turn X.prog X.w X.K tg J fp it tn → tn 0 s4.heap →
      (∀ b ∈ fp, FpOk X pins H2 b ∧ b < s4.heap.objs.size) → R J H1 → h5.Ns s4.heap.objs.size (fun y => if y = ".0" then some (.ref it) else none) → Heap.SameBut s4.heap.objs.size (s4.heap.push { cls := .type "frame", data := .dict #[] }) h5 →
      Q' (.ref h5.objs.size) { s4 with gens := s4.gens.push (.fresh (.compStart (.GeneratorExp elt [⟨tg, iter, [], 0⟩] scope gpos) 0 (.ref it) .none (genEnv scope (cloFrom X.env.cells scope.names []) s4.heap.objs.size code builtinsNs X.env))), toks := s4.toks + 1 + 1 + 1, heap := h5.push (genO X s4) }) :
    wpAny (model X.prog X.w) X.A (eval (.GeneratorExp elt [⟨tg, iter, [], 0⟩] scope gpos) X.env) Q' X.xe s := by
  have hfree : ∀ y ∈ scope.names, y.2 = .free → ∃ c, X.env.cells.lookup y.1 = some c := fun y hy e => by
    rcases ok.free y hy e with z | z
    · exact I.ok.has _ (.inl z)
    · exact I.ok.has _ (.inr z)
  refine wpAny_GeneratorExp_make hco (closure_ok hfree) nocell hdot ok.kind (by have := hr.dp; omega) ?_ hs
  refine thn (hi.run pins s σ H _ I h) fun xv s1 hx => thn hx fun itv s2 h2 => ?_
  obtain ⟨it, fp, tn, J, H1, rfl, I1, T, st, f1, ⟨ps, hP, ht⟩, q1⟩ := h2
  have hPs : s2.heap.get? P = some { cls := .none, data := .fields ps } := I1.hok P _ hP
  have cd : PySem.W.CodeHd s2.heap c P := TB.code.keeps fun b u e => I1.bk b u e
  have nP : ∀ b, H1 b = none → b ≠ P := fun b e z => by
    rw [z, hP] at e
    cases e
  have fsz : ∀ b ∈ fp, b < s2.heap.objs.size := fun b hb => by
    obtain ⟨o, e, _⟩ := T.obj _ _ st b hb
    exact Heap.lt_size e
  have cont : ∀ (code : Value) (h3 : Heap) (tk : Nat) (ps' : Array Value), Heap.ExtBut P s2.heap h3 → s2.heap.objs.size ≤ h3.objs.size → h3.get? P = some { cls := .none, data := .fields ps' } → (∃ more, ps' = ps ++ more) → TriplesOk ps'.toList →
      wpAny (model X.prog X.w) X.A (builtinsFor X.env.globals X.env.builtins) (fun bi s4 => ∀ h5, h5.Ns s4.heap.objs.size (fun y => if y = ".0" then some (.ref it) else none) → Heap.SameBut s4.heap.objs.size (s4.heap.push { cls := .type "frame", data := .dict #[] }) h5 →
        Q' (.ref h5.objs.size) { s4 with gens := s4.gens.push (.fresh (.compStart (.GeneratorExp elt [⟨tg, iter, [], 0⟩] scope gpos) 0 (.ref it) .none (genEnv scope (cloFrom X.env.cells scope.names []) s4.heap.objs.size code bi X.env))), toks := s4.toks + 1 + 1 + 1, heap := h5.push (genO X s4) }) X.xe { s2 with heap := h3, toks := tk } := by
    intro code h3 tk ps' hx hsz hP3 hmore ht3
    obtain ⟨bm, ob, e1, e2, e3, e4, e5, e6, e7, e8⟩ := TB.bm
    have keep3 : ∀ b u, b ≠ P → s2.heap.get? b = some u → h3.get? b = some u := fun b u hb e => hx b u hb e
    refine wpAny_builtinsFor (m := X.mg) (by rw [I1.ok.glob]; exact (I1.mod.glob.keeps I1.bk).extBut hx TB.gP) e1 e2 (keep3 _ _ e4 (I1.bk _ _ e5)) e6 e7 e8 ?_
    intro h5 n5 b5
    obtain ⟨more, em⟩ := hmore
    have J0 := GxR.inv_tab (more := more) (h' := h3) (g' := s2.gens) (d' := s2.drawn) (t' := tk) I1 hP keep3 (by rw [← em]; exact hP3) I1.bare
    refine hQ it fp tn J H1 (upd H1 P (.tbl (ps ++ more))) code { s2 with heap := h3, toks := tk } h5 J0 ⟨⟨ps ++ more, upd_same, by rw [← em]; exact ht3⟩, fun b hb => upd_ne hb⟩ T ?_ ?_ q1 n5 b5
    · refine T.keep _ _ _ st fun b hb o e => keep3 b o (nP b (f1 b hb).1) e
    · intro b hb
      refine ⟨⟨?_, (f1 b hb).2⟩, Nat.lt_of_lt_of_le (fsz b hb) hsz⟩
      rw [upd_ne (nP b (f1 b hb).1)]
      exact (f1 b hb).1
  refine ⟨I1.nolimit, ?_⟩
  cases hf : codeAmong gpos ps.toList with
  | none =>
    refine wpAny_genexprCodeX hcode (cd.code hPs ht) (cd.tab hPs) hf fun c' h' tk hx hge hlt hco' _ htab' _ => ?_
    obtain ⟨o1, vs, f1', tf, fl, tg', inF, tx, tt, op, _, _, _, _, _, _, _, _, _, htr, _⟩ := hco'
    exact cont _ h' tk _ hx (Nat.le_trans hge (Nat.le_of_lt hlt)) htab'.2 ⟨_, rfl⟩ htr
  | some cv =>
    refine wpAny_genexprCode_hit hcode (cd.code hPs ht) hf ?_
    exact cont cv s2.heap s2.toks ps (Heap.ExtBut.refl _ _) (Nat.le_refl _) hPs ⟨#[], by simp⟩ ht
end
/-- nothing but the table of generators has changed -/
structure Woke (s s2 : Shared) : Prop where
  hp : s2.heap = s.heap
  os : s2.os = s.os
  br : AllBare s2.gens
theorem inv_woke {X : Cx} {pins : List (Addr × Obj)} {σ : L2.St} {H : Hp} {s s2 : Shared} (I : Inv X pins σ H s) (k : Woke s s2) : Inv X pins σ H s2 := by
  obtain ⟨h2, g2, d2, t2, o2⟩ := s2
  obtain ⟨h1, g1, d1, t1, o1⟩ := s
  obtain ⟨e1, e2, br⟩ := k
  dsimp only at e1 e2
  subst e1 e2
  exact ⟨I.ok, I.os, br, I.base, I.loc, I.cell, I.free, I.freeC, I.pin, I.hok, I.len⟩
/-- what a generator expression under all is asked -/
def gTurns (J : It) (g : TG) (te : TE) (σw : L2.St) (vs : List Nat) (W : Nat → Nat → Hp → Prop) (Q : Bool → Hp → Prop) : Prop :=
  ∀ i m H, W i m H → (J.stop i H ∧ Q true H) ∨ (J.go i H ∧ ∀ x H', J.yld i H x H' → g x σw H' fun σ2 H2 => wipe σ2 vs = σw ∧ te σ2 H2 fun y H3 => ∃ b, y = .bl b ∧ if b = true then ∃ m', m' < m ∧ W (i + 1) m' H3 else Q false H3)
def gFin (G : Cx) (pn : Addr × Obj) (σw : L2.St) (Q : Bool → Hp → Prop) (b : Bool) (s : Shared) : Prop := ∃ H', Inv G [pn] σw H' s ∧ Q b H'
def gY (G : Cx) (pn : Addr × Obj) (σw : L2.St) (Q : Bool → Hp → Prop) : Protocol := fun _ _ v s kap =>
  ∃ b : Bool, v = .bool b ∧ (∃ H', Inv G [pn] σw H' s) ∧ (b = true → ∀ s2, Woke s s2 → kap (.send .none) s2) ∧ (b = false → gFin G pn σw Q false s)
section
variable {G : Cx} {pn : Addr × Obj} {σw : L2.St} {Q : Bool → Hp → Prop} {A2 : Around} {elt tg iter : Expr} {scope : Scope} {gpos : Pos} {it : Addr} {fp : List Addr} {tn : Nat → Heap → Prop} {J : It} {g : TG} {te : TE} {vs : List Nat} {W : Nat → Nat → Hp → Prop}
theorem gen_loop (hA : G.A = A2.over (.compLoop (.GeneratorExp elt [⟨tg, iter, [], 0⟩] scope gpos) 0 (.ref it) .none G.env) []) (hc : G.calm = true) (hex : G.ex = fp) (hpn : G.pn = []) (hxe : G.xe = fun _ _ => False) (hco : G.env.scope.isCoroutine = false)
    (T : Turn G.prog G.w G.K tg J fp it tn) (hgp : ∀ b ∈ fp, pn.1 ≠ b) (pg : PG G tg g) (pe : PE G elt te) (hsw : ∀ σ2 : L2.St, wipe σ2 vs = σw → σ2.length = σw.length ∧ ∀ (i : Nat) v, σw[i]? = some (some v) → σ2[i]? = some (some v)) (turn : gTurns J g te σw vs W Q) :
    ∀ (m n i : Nat) (s₀ s : Shared), m < n → (∃ H', Inv G [pn] σw H' s ∧ tn i s.heap ∧ (∀ b ∈ fp, H' b = none) ∧ W i m H') →
      Seg (model G.prog G.w) A2 (fun _ _ r s1 => r = .ok .next ∧ gFin G pn σw Q true s1) (gY G pn σw Q) n s₀ (.compLoop (.GeneratorExp elt [⟨tg, iter, [], 0⟩] scope gpos) 0 (.ref it) .none G.env)
        ((model G.prog G.w).den (.compLoop (.GeneratorExp elt [⟨tg, iter, [], 0⟩] scope gpos) 0 (.ref it) .none G.env)) [] s := by
  have stat : ∀ {σ' : L2.St} {H' : Hp} {s' : Shared}, Inv G [pn] σ' H' s' → (∀ b ∈ fp, H' b = none) → ∀ b ∈ fp, FpOk G [pn] H' b := fun {σ' H' s'} I' hn b hb => by
    have hb2 : b ∈ G.ex := by
      rw [hex]
      exact hb
    refine ⟨hn b hb, (I'.ok.exf b hb2).1, I'.ok.exfs b hb2, .inl hb2, fun x c e => (I'.ok.exf b hb2).2 x c e, fun p hp => ?_⟩
    rw [hpn] at hp
    have hp2 : p ∈ [pn] := hp
    rw [List.mem_singleton.mp hp2]
    exact hgp b hb
  intro m
  induction m using Nat.strongRecOn with
  | ind m ih =>
    rintro n i s₀ s hmn ⟨H', I, st, nf, w⟩
    obtain ⟨n, rfl⟩ : ∃ n', n = n' + 1 := ⟨n - 1, by omega⟩
    show Seg _ A2 _ _ _ s₀ _ ((compTurn (.GeneratorExp elt [⟨tg, iter, [], 0⟩] scope gpos) 0 (.ref it) .none G.env).onRaise (leaving G.env)) [] s
    rw [compTurn_gen, Sem.onRaise_eq_wrap]
    refine seg_bind_wrap (wpAny_standAt ?_)
    rcases turn i m H' w with ⟨stop, qq⟩ | ⟨gox, step⟩
    · have td := T.done G rfl rfl rfl hc i [pn] s σw H' (fun _ _ => False) I (stat I nf) st stop
      rw [hA] at td
      refine seg_bind_wrap (thnF td fun r s6 z => ?_)
      obtain ⟨hr, I6⟩ := z
      subst hr
      exact seg_end (.ok .next) ⟨rfl, H', I6, qq⟩
    · have ti := T.item G rfl rfl rfl hc i [pn] s σw H' (fun _ _ => False) I (stat I nf) st gox
      rw [hA] at ti
      refine seg_bind_wrap (thnF ti fun r s6 z => ?_)
      obtain ⟨u, hr, h6⟩ := z
      subst hr
      refine seg_bind_wrap (thnF h6 fun _ s7 z => ?_)
      obtain ⟨x, H7, I7, r7, y7, st7, n7⟩ := z
      have I7' := I7.pinned (stat I7 n7) (T.obj _ _ st7)
      have pr := pg.run _ s7 _ H7 x u _ I7' r7 (step x H7 y7)
      rw [hA, hxe] at pr
      refine seg_bind_wrap (thnF pr fun _ s8 z => ?_)
      obtain ⟨σ8, H8, I8, hw8, q8⟩ := z
      have hy : ∀ v, yieldOut G.env v = yieldValue v := fun v => by simp only [yieldOut, hco, Bool.false_eq_true, if_false]
      simp only [List.forIn_nil, hy]
      refine seg_bind_wrap (wpAny_pure ?_)
      simp only [if_true]
      rw [Sem.bind_eq_wrap', Sem.bind_eq_wrap', Sem.wrap_wrap, Sem.wrap_wrap]
      have er := pe.run _ s8 σ8 H8 _ I8 q8
      rw [hA, hxe] at er
      refine seg_wrap (thnF er fun z s10 zz => ?_)
      obtain ⟨yv, H10, I10, r10, b, rfl, nx⟩ := zz
      cases r10
      have pin' : ∀ b ∈ fp, ∀ o, s7.heap.get? b = some o → s10.heap.get? b = some o ∧ H10 b = none := fun b hb o e =>
        let z := I10.pin (b, o) (List.mem_append_right _ (List.mem_append_right _ (mem_pinsAt hb e)))
        ⟨z.1, z.2.1⟩
      obtain ⟨hl8, hk8⟩ := hsw σ8 hw8
      have J10 : Inv G [pn] σw H10 s10 := (I10.unpinned (pins := [pn])).weak hl8.symm hk8
      refine seg_at (seg_yield rfl rfl rfl ⟨b, rfl, ⟨H10, J10⟩, fun hb s2 wk => ?_, fun hb => ?_⟩)
      · subst hb
        rw [if_pos rfl] at nx
        obtain ⟨m', hm', w'⟩ := nx
        refine seg_again rfl (ih m' hm' n (i + 1) s2 s2 (by omega) ⟨H10, inv_woke J10 wk, ?_, fun b hb => ?_, w'⟩)
        · rw [wk.hp]
          exact T.keep _ _ _ st7 fun b hb o e => (pin' b hb o e).1
        · obtain ⟨o, e, _⟩ := T.obj _ _ st7 b hb
          exact (pin' b hb o e).2
      · subst hb
        exact ⟨H10, J10, nx⟩
end
section
variable {M : Model} {A2 : Around} {R : GenEnd} {Y : Protocol} {n : Nat} {s₀ s : Shared} {elt tg iter : Expr} {scope : Scope} {gpos : Pos} {it : Addr} {ge : Env}
/-- the first turn -/
theorem gen_first {P : Program} {w : World} (hself : ∀ (Q : Value → Shared → Prop) (E : Value → Shared → Prop), Q (.ref it) s → wpAny (model P w) (A2.over (.compStart (.GeneratorExp elt [⟨tg, iter, [], 0⟩] scope gpos) 0 (.ref it) .none ge) []) (pyIter (.ref it)) Q E s)
    (loop : Seg (model P w) A2 R Y n s₀ (.compLoop (.GeneratorExp elt [⟨tg, iter, [], 0⟩] scope gpos) 0 (.ref it) .none ge) ((model P w).den (.compLoop (.GeneratorExp elt [⟨tg, iter, [], 0⟩] scope gpos) 0 (.ref it) .none ge)) [] s) :
    Seg (model P w) A2 R Y n s₀ (.compStart (.GeneratorExp elt [⟨tg, iter, [], 0⟩] scope gpos) 0 (.ref it) .none ge) ((model P w).den (.compStart (.GeneratorExp elt [⟨tg, iter, [], 0⟩] scope gpos) 0 (.ref it) .none ge)) [] s := by
  show Seg _ A2 _ _ _ s₀ _ ((compStart (.GeneratorExp elt [⟨tg, iter, [], 0⟩] scope gpos) 0 (.ref it) .none ge).onRaise (leaving ge)) [] s
  unfold compStart
  rw [Sem.onRaise_eq_wrap]
  show Seg _ A2 _ _ _ s₀ _ ((ask >>= _).wrap _ _ _ _) [] s
  refine seg_bind_wrap (wpAny_askSetting ?_)
  split
  · exact seg_again rfl loop
  · first
      | exact seg_bind_wrap (wpAny_rule (seg_bind_wrap (wpAny_standAt (seg_bind_wrap (hself _ _ (seg_again rfl loop))))))
      | (refine seg_bind_wrap (wpAny_rule ?_)
         show Seg _ A2 _ _ _ s₀ _ ((standAt iter.pos >>= _).wrap _ _ _ _) [] s
         exact seg_bind_wrap (wpAny_standAt (seg_bind_wrap (hself _ _ (seg_again rfl loop)))))
end
theorem bare_set {gens : Array GenState} {x : GenState} (h : AllBare gens) (hx : x.bare = true) (i : Nat) : AllBare (gens.setIfInBounds i x) := fun y hy => by
  rw [Array.mem_iff_getElem?] at hy
  obtain ⟨j, hj⟩ := hy
  by_cases e : i = j
  · subst e
    by_cases hi : i < gens.size
    · rw [Array.getElem?_setIfInBounds_self_of_lt hi] at hj
      rw [← Option.some.inj hj]
      exact hx
    · rw [Array.getElem?_eq_none (by simpa using hi)] at hj
      cases hj
  · rw [Array.getElem?_setIfInBounds_ne e] at hj
    exact h y (Array.mem_iff_getElem?.mpr ⟨j, hj⟩)
/-- all over the generator at a, number gi: its turns by the protocol -/
theorem all_gen {G : Cx} {pn : Addr × Obj} {σw : L2.St} {Q : Bool → Hp → Prop} {A : Around} {gi : Nat} {RR : Result → Shared → Prop} (hh : A.handled = none) (hroom : A.depth < recursionLimit) (hgen : ∀ h : Heap, h.get? pn.1 = some pn.2 → h.IsGen pn.1 gi)
    (hR : ∀ b s1, gFin G pn σw Q b s1 → ∀ s2 : Shared, (∀ b o, s1.heap.get? b = some o → s2.heap.get? b = some o) → s2.os = s1.os → AllBare s2.gens → RR (.ok (.ret (.bool b))) s2) :
    ∀ (n : Nat) (s : Shared), (∃ H', Inv G [pn] σw H' s) → gi < s.gens.size → (∃ gs, s.gens[gi]? = some gs ∧ ∀ s2, Woke s s2 → gs.Goes (model G.prog G.w) A.in1.in1 (fun _ _ r s1 => r = .ok .next ∧ gFin G pn σw Q true s1) (gY G pn σw Q) n (.send .none) s2) →
      codeAny (model G.prog G.w) A (.builtin "all.loop" ⟨[.ref pn.1], []⟩) RR s := by
  intro n
  induction n using Nat.strongRecOn with
  | ind n ih =>
    rintro s ⟨H', I⟩ hgi ⟨gs, hgs, hgo⟩
    have hpin := (I.pin pn (List.mem_append_right _ (List.mem_singleton.mpr rfl))).1
    have brun : AllBare (s.setGen gi .running).gens := bare_set I.bare rfl gi
    refine codeAny_builtin F.entry_all_loop ?_
    rw [Around.under_plainId F.plain_all_loop _]
    show wpAny _ A.in1 (pyNext (.ref pn.1) >>= _) _ _ s
    refine wpAny_bind (GenW.wpAny_gsz (n := s.gens.size) (Nat.le_refl _) ?_)
    refine wpAny_pyNext_genexpQ (P := fun _ _ s1 => gFin G pn σw Q true s1) hh I.nolimit hroom (hgen _ hpin) hgs (hgo _ ⟨rfl, rfl, brun⟩) (fun v s₁ gs' hb hv hsz => ?_) (fun s₁ hp h' hk hsz => ?_)
    · obtain ⟨b, rfl, ⟨H1, I1⟩, ht, hf⟩ := hv
      have b1 : AllBare (s₁.setGen gi gs').gens := bare_set I1.bare hb gi
      refine wpAny_bind (wpAny_holding (wpAny_truthy_bool ?_))
      refine wpAny_bind (wpAny_letGo ?_)
      cases b with
      | false =>
        simp only [Bool.false_eq_true, if_false]
        refine wpAny_bind (wpAny_rule (wpAny_pure ?_))
        exact hR false s₁ (hf rfl) (s₁.setGen gi gs') (fun _ _ e => e) rfl b1
      | true =>
        simp only [if_true]
        have hlt : gi < (s₁.setGen gi gs').gens.size := Nat.lt_of_lt_of_le hgi hsz
        have hlt1 : gi < s₁.gens.size := by
          have e := GenW.setGen_size s₁ gi gs'
          omega
        cases n with
        | zero => exact absurd (ht rfl s₁ ⟨rfl, rfl, I1.bare⟩) id
        | succ n =>
          refine wpAny_pure ⟨plainId_quiet F.plain_all_loop _, ih n (Nat.lt_succ_self n) (s₁.setGen gi gs') ⟨H1, inv_woke I1 ⟨rfl, rfl, b1⟩⟩ hlt ⟨gs', ?_, fun s2 wk => ht rfl s2 ⟨wk.hp, wk.os, wk.br⟩⟩⟩
          show (s₁.gens.setIfInBounds gi gs')[gi]? = some gs'
          rw [Array.getElem?_setIfInBounds_self_of_lt hlt1]
    · refine wpAny_bind (wpAny_rule (wpAny_pure ?_))
      obtain ⟨H1, I1, q1⟩ := id hp
      exact hR true s₁ hp { s₁.setGen gi .finished with heap := h' } hk rfl (bare_set I1.bare rfl gi)
def tAllG (P : Addr) (wi : TI) (g : TG) (te : TE) (vs : List Nat) : TE := fun σ H Q => wi σ H fun J H1 => GxR.TabG H1 P ∧ ∀ H2, GxR.Tabbed P H1 H2 → ∃ W : Nat → Nat → Hp → Prop, (∃ m, W 0 m H2) ∧ gTurns J g te (wipe σ vs) vs W (fun b H' => Q (.bl b) H')
theorem pe_allG {X : Cx} {c P : Addr} {elt tg iter : Expr} {p pos gpos : Pos} {scope : Scope} {own : List (Str × Nat)} {wi : TI} {g : TG} {te : TE} {k : Nat} (hr : Room (k + 1) X.A) (hc : X.calm = true) (hN : X.N.Nodup) (hg : Gl X "all") (hm : X.mg "all" = none) (hb : bootBuiltins "all" = some (.builtin "all"))
    (TB : GxR.TabB X.base X.mg c P) (hcode : X.env.code = .ref c) (ok : BlkOk X.N X.env.scope scope own) (hco : scope.isCoroutine = false) (nocell : ∀ y ∈ scope.names, y.2 ≠ .cell) (hdot : scope.names.lookup (".0" : Str) = some NameKind.local) (hi : PI X tg iter wi)
    (hgt : ∀ (s : Shared) (H : Hp) (cl : List (Str × Addr)) (C : Addr) (code : Value) (fp : List Addr) (Ag : Around), PG (gcx X s H (genEnv scope cl C code builtinsNs X.env) fp Ag) tg g)
    (hel : ∀ (s : Shared) (H : Hp) (cl : List (Str × Addr)) (C : Addr) (code : Value) (fp : List Addr) (Ag : Around), Room k Ag → PE (gcx X s H (genEnv scope cl C code builtinsNs X.env) fp Ag) elt te)
    (hs : ∀ v, genFold iter X.env v = pure v := by intro _; rfl)
    (he : starEach [.GeneratorExp elt [⟨tg, iter, [], 0⟩] scope gpos] X.env = (false, eval (.GeneratorExp elt [⟨tg, iter, [], 0⟩] scope gpos) X.env) :: starEach [] X.env := by rfl) :
    PE X (.Call (.Name "all" p) [.GeneratorExp elt [⟨tg, iter, [], 0⟩] scope gpos] [] pos) (tAllG P wi g te (own.map (·.2))) := by
  constructor
  intro pins s σ H Q I h
  refine wpAny_Call_Name_kw (ld_blt I hg hm hb ?_)
  refine PyProof.Rows.callWith_builtin1 ?_ he (by rfl)
  rw [he]
  show wpAny _ _ (spliced ((false, eval (.GeneratorExp elt [⟨tg, iter, [], 0⟩] scope gpos) X.env) :: backTo pos (starEach [] X.env))) _ _ s
  refine Calls.spliced_cons (gen_make (hr.mono (Nat.le_succ k)) TB hcode ok hco nocell hdot hi hs I h fun it fp tn J H1 H2 code s4 h5 I4 tb T st f4 hR n5 b5 => ?_)
  refine Calls.spliced_nil ?_
  obtain ⟨W, ⟨m, w0⟩, turns⟩ := hR H2 tb
  show wpAny _ _ (call (.builtin "all") [.ref h5.objs.size]) _ _ _
  have sz5 : h5.objs.size = s4.heap.objs.size + 1 := by
    rw [b5.1, Heap.size_push]
  generalize hge : genEnv scope (cloFrom X.env.cells scope.names []) s4.heap.objs.size code builtinsNs X.env = ge
  have k5 : ∀ b o, s4.heap.get? b = some o → (h5.push (genO X s4)).get? b = some o := fun b o e =>
    Heap.get?_push_of_some _ (b5.extBut b o (Nat.ne_of_lt (Heap.lt_size e)) (Heap.get?_push_of_some _ e))
  have ga5 : (h5.push (genO X s4)).get? h5.objs.size = some (genO X s4) := Heap.get?_push_size _ rfl
  have hAg : (X.A.in1.in1.over (.compLoop (.GeneratorExp elt [⟨tg, iter, [], 0⟩] scope gpos) 0 (.ref it) .none ge) []).handled = none := hr.hd
  have hFr : (X.A.in1.in1.over (.compLoop (.GeneratorExp elt [⟨tg, iter, [], 0⟩] scope gpos) 0 (.ref it) .none ge) []).frames = some (ge :: X.stack) := by
    show pushEnvs [ge] (pushEnvs [] X.A.frames) = some (ge :: X.stack)
    rw [I4.ok.frames]
    rfl
  have hRm : Room k (X.A.in1.in1.over (.compLoop (.GeneratorExp elt [⟨tg, iter, [], 0⟩] scope gpos) 0 (.ref it) .none ge) []) := by
    have e1 : (X.A.in1.in1.over (.compLoop (.GeneratorExp elt [⟨tg, iter, [], 0⟩] scope gpos) 0 (.ref it) .none ge) []).depth = X.A.depth + 1 := rfl
    have e2 : (X.A.in1.in1.over (.compLoop (.GeneratorExp elt [⟨tg, iter, [], 0⟩] scope gpos) 0 (.ref it) .none ge) []).units = X.A.units + 5 := rfl
    have d1 := hr.dp
    have d2 := hr.un
    exact ⟨hr.hd, by rw [e1]; omega, by rw [e2]; omega⟩
  have I5 := gen_start (s5 := { s4 with gens := s4.gens.push (.fresh (.compStart (.GeneratorExp elt [⟨tg, iter, [], 0⟩] scope gpos) 0 (.ref it) .none ge)), toks := s4.toks + 1 + 1 + 1, heap := h5.push (genO X s4) }) I4 ok hN f4 hge.symm nocell hAg hFr k5 rfl (I4.bare.push rfl) (n5.keeps fun b o e => Heap.get?_push_of_some _ e) ga5 (by omega) (fun v z => by cases z)
  have st5 : tn 0 (h5.push (genO X s4)) := T.keep _ _ _ st fun b _ o e => k5 b o e
  refine call_function_tree F.kind_all F.plain_all F.entry_all (F.args_all1 _) ?_
  unfold Builtin.«all»
  refine wpAny_bind (m := oneArg "all" _) (wpAny_pure ?_)
  have isg : ∀ hh : Heap, hh.get? h5.objs.size = some (genO X s4) → hh.IsGen h5.objs.size s4.gens.size := fun hh e => ⟨_, _, _, e, rfl, rfl, rfl⟩
  refine wpAny_bind (wpAny_pyIter_gen (isg _ ga5) ?_)
  refine wpAny_pure ⟨plainId_quiet F.plain_all_loop _, ?_⟩
  refine all_gen (G := gcx X s4 H2 ge fp (X.A.in1.in1.over (.compLoop (.GeneratorExp elt [⟨tg, iter, [], 0⟩] scope gpos) 0 (.ref it) .none ge) [])) (pn := (h5.objs.size, genO X s4)) (σw := wipe σ (own.map (·.2))) (Q := fun b H' => Q (.bl b) H') (gi := s4.gens.size)
    hr.hd (by have := hr.dp; omega) isg (fun b s1 hf s2 hk ho hbr => ?_) (m + 1) _ ⟨H2, I5⟩ (by show s4.gens.size < (s4.gens.push _).size; rw [Array.size_push]; omega) ⟨.fresh (.compStart (.GeneratorExp elt [⟨tg, iter, [], 0⟩] scope gpos) 0 (.ref it) .none ge), by show (s4.gens.push _)[s4.gens.size]? = some _; rw [Array.getElem?_push_size], fun s2 wk => ⟨rfl, ?_⟩⟩
  · obtain ⟨H', I', q'⟩ := hf
    have un : Un (frs X.stack) fp H2 H' s4.heap s2.heap := Un.trans I'.base (Un.kept hk)
    have J' : Inv X pins σ H' s2 := I4.call' (ch := fp) (ho.trans I'.os) un (I'.hok.kept hk) hbr fun b hb => ⟨(f4 b hb).1.2.2.2.1, (f4 b hb).1.2.1, (f4 b hb).1.2.2.2.2.1, (f4 b hb).1.2.2.2.2.2⟩
    exact ⟨.bl b, H', J', rfl, q'⟩
  · have nfp : ∀ b ∈ fp, H2 b = none := fun b hb => (f4 b hb).1.1
    refine gen_first (fun Q1 E1 q1 => T.self _ 0 s2 Q1 E1 (by rw [wk.hp]; exact st5) q1) ?_
    refine gen_loop (G := gcx X s4 H2 ge fp (X.A.in1.in1.over (.compLoop (.GeneratorExp elt [⟨tg, iter, [], 0⟩] scope gpos) 0 (.ref it) .none ge) [])) (tn := tn) (vs := own.map (·.2)) (W := W) rfl hc rfl rfl rfl ?_ T (fun b hb => ?_) ?_ ?_ ?_ turns m (m + 1) 0 s2 s2 (Nat.lt_succ_self m) ⟨H2, inv_woke I5 wk, by rw [wk.hp]; exact st5, nfp, w0⟩
    · show ge.scope.isCoroutine = false
      rw [← hge]
      exact hco
    · have hb4 : b < s4.heap.objs.size := (f4 b hb).2
      intro z
      have z2 : h5.objs.size = b := z
      rw [← z2, sz5] at hb4
      exact absurd hb4 (Nat.not_lt.mpr (Nat.le_succ _))
    · rw [← hge]
      exact hgt _ _ _ _ _ _ _
    · subst hge
      exact hel _ _ _ _ _ _ _ hRm
    · intro σ2 e2
      refine ⟨?_, fun i v e3 => ?_⟩
      · rw [← wipe_length σ2 (own.map (·.2)), e2]
      · rw [← e2] at e3
        exact (wipe_some e3).1

/-- all over zip of two tuples of one length -/
theorem gturns_zipT {K : PySem.W.Frag} {a b : Addr} {xs ys : List V} {g : TG} {te : TE} {σw : L2.St} {vs : List Nat} {Q : Bool → Hp → Prop} {H : Hp} (hl : xs.length = ys.length) (Pv : Nat → Hp → Prop) (h0 : Pv 0 H) (hq : ∀ i H, Pv i H → SqT K H a xs ∧ SqT K H b ys)
    (hs : ∀ (i : Nat) (x y : V) (T : Addr) (H : Hp) (N : Hp → Prop), xs[i]? = some x → ys[i]? = some y → Pv i H → H T = none → (∀ H3, Pv (i + 1) H3 → N H3) → g (.ref T) σw (upd H T (.tup [x, y])) fun σ2 H2 => wipe σ2 vs = σw ∧ te σ2 H2 fun v H3 => ∃ b, v = .bl b ∧ if b = true then N H3 else Q false H3)
    (hd : ∀ H, Pv xs.length H → Q true H) : ∃ W : Nat → Nat → Hp → Prop, (∃ m, W 0 m H) ∧ gTurns (RZ.ItzT K a b) g te σw vs W Q := by
  refine ⟨fun i m H => m = xs.length - i ∧ i ≤ xs.length ∧ Pv i H, ⟨xs.length, rfl, Nat.zero_le _, h0⟩, fun i m H st => ?_⟩
  obtain ⟨em, le, pv⟩ := st
  have two := hq i H pv
  rcases Nat.lt_or_eq_of_le le with lt | eq
  · refine .inr ⟨⟨xs, ys, xs[i], ys[i], two.1, two.2, List.getElem?_eq_getElem lt, List.getElem?_eq_getElem (hl ▸ lt)⟩, fun v H' y => ?_⟩
    obtain ⟨tp, a1, a2, rfl, free, rfl, w1, w2⟩ := y
    exact hs i a1 a2 tp H _ (w1 xs two.1) (w2 ys two.2) pv free fun H3 p' => ⟨xs.length - (i + 1), by omega, rfl, lt, p'⟩
  · subst eq
    exact .inl ⟨⟨xs, ys, two.1, two.2, Or.inl (Nat.le_refl _)⟩, hd H pv⟩

/-! ### zip of a text and a tuple -/
def ItzS (K : PySem.W.Frag) (x : Str) (b : Addr) : It :=
  ⟨fun i H => ∃ (ys : List V) (c : Nat) (y : V), SqT K H b ys ∧ x.cps[i]? = some c ∧ ys[i]? = some y,
    fun i H v H' => ∃ (T : Addr) (c : Nat) (y : V), v = .ref T ∧ H T = none ∧ H' = upd H T (.tup [.str ⟨#[c]⟩, y]) ∧ x.cps[i]? = some c ∧ ∀ ys, SqT K H b ys → ys[i]? = some y,
    fun i H => ∃ ys : List V, SqT K H b ys ∧ i ≤ x.cps.size ∧ i ≤ ys.length ∧ (i = x.cps.size ∨ i = ys.length)⟩
theorem zip_sep {z TI TO i1 i2 b : Addr} (D : ZipApart z TI TO i1 i2 b b) : ZipSep2 z TI TO i1 i2 [i1] [i2, b] where
  TIz := D.TIz
  TOz := D.TOz
  TITO := D.TITO
  TIi1 := D.TIi1
  mem1 := List.mem_singleton.mpr rfl
  zf1 := fun h => D.i1z (List.mem_singleton.mp h).symm
  Tf1 := fun h => D.TOi1 (List.mem_singleton.mp h)
  TIi2 := D.TIi2
  mem2 := List.mem_cons_self
  zf2 := fun h => by
    rcases List.mem_cons.mp h with e | e
    · exact D.i2z e.symm
    · exact D.l1z (List.mem_singleton.mp e).symm
  Tf2 := fun h => by
    rcases List.mem_cons.mp h with e | e
    · exact D.TOi2 e
    · exact D.l1TO (List.mem_singleton.mp e).symm
  sep1_2 := fun h => by
    rcases List.mem_cons.mp h with e | e
    · exact D.i12 e
    · exact D.l1i1 (List.mem_singleton.mp e).symm
  sep2_1 := fun h => D.i12 (List.mem_singleton.mp h).symm
/-- the five cells of a running zip of the text x and the tuple at b, i turns done -/
structure ZipGo (x : Str) (t : Tok) (z TI TO i1 i2 b : Addr) (i : Nat) (h : Heap) : Prop where
  zp : IsZip h z TI TO .none
  ins : IsPair h TI (.ref i1) (.ref i2)
  out : ∃ p : Value × Value, IsPair h TO p.1 p.2
  txt : h.IsStrIter i1 (strIterType x) x t i
  tup : h.IsTupleIter i2 b i
theorem five {z TI TO i1 i2 c : Addr} {Pr : Addr → Prop} (h : c ∈ [z, TI, TO, i1, i2]) (pz : Pr z) (pI : Pr TI) (pO : Pr TO) (p1 : Pr i1) (p2 : Pr i2) : Pr c := by
  simp only [List.mem_cons, List.not_mem_nil, or_false] at h
  rcases h with rfl | rfl | rfl | rfl | rfl
  all_goals assumption
theorem apart5 {z TI TO i1 i2 c : Addr} (h : c ∉ [z, TI, TO, i1, i2]) : c ≠ z ∧ c ≠ TO ∧ c ≠ i1 ∧ c ≠ i2 := by
  simp only [List.mem_cons, List.not_mem_nil, or_false, not_or] at h
  exact ⟨h.1, h.2.2.1, h.2.2.2.1, h.2.2.2.2⟩
section
variable {x : Str} {t : Tok} {z TI TO i1 i2 b : Addr} {i : Nat} {h h' : Heap}
theorem ZipGo.obj (g : ZipGo x t z TI TO i1 i2 b i h) {c : Addr} (hc : c ∈ [z, TI, TO, i1, i2]) : ∃ o, h.get? c = some o ∧ ∀ v, o.data ≠ .cell v := by
  obtain ⟨p, hp⟩ := g.out
  obtain ⟨oa, ea, _, da⟩ := g.txt
  obtain ⟨ob, eb, _, db⟩ := g.tup
  refine five (Pr := fun c => ∃ o, h.get? c = some o ∧ ∀ v, o.data ≠ .cell v) hc ⟨_, g.zp, ?_⟩ ⟨_, g.ins, ?_⟩ ⟨_, hp, ?_⟩ ⟨oa, ea, ?_⟩ ⟨ob, eb, ?_⟩
  · intro v e; cases e
  · intro v e; cases e
  · intro v e; cases e
  · intro v e; rw [da] at e; cases e
  · intro v e; rw [db] at e; cases e
theorem ZipGo.lt (g : ZipGo x t z TI TO i1 i2 b i h) {c : Addr} (hc : c ∈ [z, TI, TO, i1, i2]) : c < h.objs.size := by
  obtain ⟨o, e, _⟩ := g.obj hc
  exact Heap.lt_size e
theorem ZipGo.on (g : ZipGo x t z TI TO i1 i2 b i h) (k : ∀ c ∈ [z, TI, TO, i1, i2], ∀ o, h.get? c = some o → h'.get? c = some o) : ZipGo x t z TI TO i1 i2 b i h' := by
  obtain ⟨p, hp⟩ := g.out
  obtain ⟨oa, ea, ra⟩ := g.txt
  exact ⟨k z (by simp) _ g.zp, k TI (by simp) _ g.ins, ⟨p, k TO (by simp) _ hp⟩, ⟨oa, k i1 (by simp) _ ea, ra⟩, g.tup.at (k i2 (by simp))⟩
end
theorem turn_zipS {P : Program} {w : World} {K : PySem.W.Frag} {elts : List Expr} {kk : Nat} {tpos : Pos} {x : Str} {t : Tok} {b z TI TO i1 i2 : Addr} (D : ZipApart z TI TO i1 i2 b b) :
    Turn P w K (.Tuple elts kk tpos) (ItzS K x b) [z, TI, TO, i1, i2] z (ZipGo x t z TI TO i1 i2 b) where
  mem := List.mem_cons_self
  obj := fun _ _ g _ hc => g.obj hc
  keep := fun _ _ _ g k => g.on k
  item := by
    intro X eP ew eK calm n pins s σ H E I fps g go
    subst eP ew eK
    obtain ⟨ys, c, y, tys, ec, ey⟩ := go
    obtain ⟨vs, rel, tupAt, _⟩ := I.tuple tys
    obtain ⟨u, eu, ru⟩ := rel.get ey
    obtain ⟨p, hp⟩ := g.out
    have zlt := g.lt (c := z) (by simp)
    have n1 : n < x.cps.size := Nat.lt_of_not_le fun le => by
      rw [Array.getElem?_eq_none le] at ec
      cases ec
    have n2 : n < vs.toArray.size := by simpa using (List.getElem?_eq_some_iff.mp eu).1
    have calmA : X.A.in1.handled = none := I.ok.hd calm
    refine wpAny_pyNext_zipD2_item (zip_sep D) (Draws.text calmA i1 x t) (Draws.tuple calmA i2 b D.l1i2 vs.toArray) g.zp g.ins hp g.txt ⟨g.tup, tupAt⟩ n1 n2 fun v1 v2 h1 tk P1 P2 zp1 out1 txt1 tup1 new1 _ kept1 => ?_
    obtain ⟨c', k, ec', rfl⟩ := P1
    obtain rfl : c = c' := Option.some.inj (ec.symm.trans ec')
    obtain rfl : u = v2 := Option.some.inj (eu.symm.trans (by simpa using P2))
    refine ⟨_, rfl, wpAny_letOwnedTupleGo_zip (s := { s with heap := h1, toks := tk }) zp1 fun h2 zp2 sb => ?_⟩
    have up : ∀ d, d ≠ z → h2.get? d = h1.get? d := fun d nd => sb.2 d nd
    have kept2 : ∀ d o, d ∉ [z, TI, TO, i1, i2] → s.heap.get? d = some o → h2.get? d = some o := fun d o nd e => by
      obtain ⟨a1, a2, a3, a4⟩ := apart5 nd
      rw [up d a1]
      exact kept1 d o a1 a2 a3 a4 e
    have new2 : h2.get? s.heap.objs.size = some { cls := .type "tuple", data := .seq #[.str ⟨#[c]⟩ k, u] } := (up _ (Nat.ne_of_gt zlt)).trans new1
    have I2 := I.turnedNew (t' := tk) (ch := [z, TI, TO, i1, i2]) (ob := .tup [.str ⟨#[c]⟩, y]) kept2 fps (Nat.le_refl _) ⟨show 2 ≤ sizeLine by decide, [.str ⟨#[c]⟩ k, u], .cons ⟨k, rfl⟩ (.cons ru .nil), ⟨_, new2, rfl, _, rfl⟩⟩
    refine ⟨.ref s.heap.objs.size, _, I2, rfl, ⟨_, c, y, rfl, I.hok.fresh (Nat.le_refl _), rfl, ec, fun l tl => (I.tuple_inj tl tys) ▸ ey⟩, ⟨zp2, ?_, ⟨(_, _), (up _ D.TOz).trans out1⟩, ?_, tup1.1.at fun o e => (up _ D.i2z).trans e⟩, fun d hd => ?_⟩
    · exact (up _ D.TIz).trans (kept1 TI _ D.TIz D.TITO D.TIi1 D.TIi2 g.ins)
    · obtain ⟨o, e, r⟩ := txt1
      exact ⟨o, (up _ D.i1z).trans e, r⟩
    · rw [upd_ne (Nat.ne_of_lt (g.lt hd))]
      exact (fps d hd).1
  done := by
    intro X eP ew eK calm n pins s σ H E I fps g stop
    subst eP ew eK
    obtain ⟨ys, tys, le1, le2, last⟩ := stop
    obtain ⟨vs, rel, tupAt, _⟩ := I.tuple tys
    obtain ⟨p, hp⟩ := g.out
    have lv : vs.toArray.size = ys.length := by simpa using rel.length.symm
    have calmA : X.A.in1.handled = none := I.ok.hd calm
    refine wpAny_pyNext_zipD2_end (zip_sep D) (Draws.text calmA i1 x t) (Draws.tuple calmA i2 b D.l1i2 vs.toArray) g.zp g.ins hp g.txt ⟨g.tup, tupAt⟩ le1 (by omega) (by omega) fun h1 tk kept1 => ⟨rfl, ?_⟩
    refine I.turnedL (t' := tk) (ch := [z, TI, TO, i1, i2]) (fun d o nd e => ?_) fps
    obtain ⟨a1, a2, a3, a4⟩ := apart5 nd
    exact kept1 d o a1 a2 a3 a4 e
  self := fun _ _ _ _ _ g q => wpAny_pyIter_zip g.zp q
def iZipS (K : PySem.W.Frag) (ta : TA) : TI := fun σ H R => ta σ H fun vs H1 => ∃ x b ys, vs = [.str x, .ref b] ∧ SqT K H1 b ys ∧ R (ItzS K x b) H1
theorem pi_zipS {X : Cx} {ea eb : Expr} {ta : TA} {p pos tpos : Pos} {elts : List Expr} {kk : Nat} (gl : Gl X "zip") (own : X.mg "zip" = none) (args : PA X [ea, eb] ta)
    (star : starEach [ea, eb] X.env = (false, eval ea X.env) :: starEach [eb] X.env := by rfl) (plain : (backTo pos (starEach [eb] X.env)).any (·.1) = false := by rfl) :
    PI X (.Tuple elts kk tpos) (.Call (.Name "zip" p) [ea, eb] [] pos) (iZipS X.K ta) := by
  constructor
  intro pins s σ H R I q
  refine Call_ (ld_blt I gl own PyProof.Rows.boot_zip (PyProof.Rows.callWith_type1 ?_ star plain))
  refine thn (args.run pos pins s σ H _ I q) fun us s1 ans => ?_
  obtain ⟨vs, H1, J, rel, x, b, ys, rfl, tys, go⟩ := ans
  obtain ⟨u1, u2, rfl, r1, r2⟩ := vals2 rel
  obtain ⟨t, rfl⟩ := r1
  obtain rfl : u2 = Value.ref b := r2
  obtain ⟨its, _, tupAt, _⟩ := J.tuple tys
  have blt : b < s1.heap.objs.size := by
    obtain ⟨_, e, _⟩ := id tupAt
    exact Heap.lt_size e
  have fresh : ∀ c, s1.heap.objs.size ≤ c → FpOk X pins H1 c := fun c le => J.fpOk le (J.hok.fresh le)
  refine zip_begins2 (begins_text x t) (begins_tuple b its.toArray) trivial tupAt fun h2 zp ins out o1 o2 _ kept => wpAny_pyIter_zip zp ?_
  refine ⟨_, [s1.heap.objs.size + 4, s1.heap.objs.size + 2, s1.heap.objs.size + 3, s1.heap.objs.size, s1.heap.objs.size + 1], _, _, H1, rfl, J.kept (t' := s1.toks) kept, turn_zipS (t := t) (PySem.W.ktu_apart s1.heap.objs.size b b blt blt), ?_, fun c hc => ?_, go⟩
  · exact ⟨zp, ins, ⟨(_, _), out⟩, ⟨_, o1, rfl, rfl⟩, ⟨_, o2, rfl, rfl⟩⟩
  · exact five (Pr := FpOk X pins H1) hc (fresh _ (by omega)) (fresh _ (by omega)) (fresh _ (by omega)) (fresh _ (by omega)) (fresh _ (by omega))
/-- a loop over zip of a text and a tuple of one length -/
theorem for_zipS {K : PySem.W.Frag} {x : Str} {b : Addr} {ys : List V} {g : TG} {tb : TS} {D : Ends} {σ : L2.St} {H : Hp} (hl : x.cps.size = ys.length) (Pv : Nat → L2.St → Hp → Prop) (h0 : Pv 0 σ H) (hq : ∀ i σ H, Pv i σ H → SqT K H b ys)
    (hs : ∀ (i c : Nat) (y : V) (T : Addr) (σ : L2.St) (H : Hp), x.cps[i]? = some c → ys[i]? = some y → Pv i σ H → H T = none → g (.ref T) σ (upd H T (.tup [.str ⟨#[c]⟩, y])) fun σ2 H2 => tb { D with nx := Pv (i + 1), ct := Pv (i + 1), bk := D.nx } σ2 H2) (hd : ∀ σ H, Pv ys.length σ H → D.nx σ H) :
    ∃ W : Nat → Nat → L2.St → Hp → Prop, (∃ m, W 0 m σ H) ∧ ∀ i m σ H, W i m σ H →
      ((ItzS K x b).stop i H ∧ D.nx σ H) ∨ ((ItzS K x b).go i H ∧ ∃ N : L2.St → Hp → Prop, (∀ σ' H', N σ' H' → ∃ m', m' < m ∧ W (i + 1) m' σ' H') ∧ ∀ v H', (ItzS K x b).yld i H v H' → g v σ H' fun σ2 H2 => tb { D with nx := N, ct := N, bk := D.nx } σ2 H2) := by
  refine ⟨fun i m σ H => m = ys.length - i ∧ i ≤ ys.length ∧ Pv i σ H, ⟨ys.length, rfl, Nat.zero_le _, h0⟩, fun i m σ H st => ?_⟩
  obtain ⟨em, le, pv⟩ := st
  have tys := hq i σ H pv
  rcases Nat.lt_or_eq_of_le le with lt | eq
  · refine .inr ⟨⟨ys, x.cps[i], ys[i], tys, Array.getElem?_eq_getElem (hl.symm ▸ lt), List.getElem?_eq_getElem lt⟩, Pv (i + 1), fun σ' H' p' => ⟨ys.length - (i + 1), by omega, rfl, lt, p'⟩, fun v H' y => ?_⟩
    obtain ⟨tp, c, a2, rfl, free, rfl, w1, w2⟩ := y
    exact hs i c a2 tp σ H w1 (w2 ys tys) pv free
  · subst eq
    exact .inl ⟨⟨ys, tys, Nat.le_of_eq hl.symm, Nat.le_refl _, .inr rfl⟩, hd σ H pv⟩
/-! ### d.update(e) -/
def tDUpd (td ty : TE) : TE := fun σ H Q => td σ H fun x H1 => ∃ a, x = .ref a ∧ IsD H1 a ∧ ty σ H1 fun y H2 => ∃ b kvs more, y = .ref b ∧ H2 a = some (.dK kvs) ∧ H2 b = some (.dK more) ∧ a ≠ b ∧ kvs.length + more.length ≤ sizeLine ∧ Q .non (upd H2 a (.dK (mergeK kvs more)))
theorem pe_dupd {X : Cx} {o e : Expr} {apos cpos : Pos} {td ty : TE} (ho : PE X o td) (he : PE X e ty) (m : M1 X o "update" apos e cpos) : PE X (.Call (.Attribute o "update" apos) [e] [] cpos) (tDUpd td ty) := by
  refine ⟨fun pins s σ H Q I h => ?_⟩
  refine wpAny_Call_method m.base m.few m.line PySem.F.plainAttrs_dict PySem.F.slot_dict_update PySem.F.type_dict_update (thn (ho.run pins s σ H _ I h) fun u s1 ⟨x, H1, I1, rx, a, ex, d, q1⟩ => ?_)
  subst ex
  obtain rfl : u = Value.ref a := rx
  obtain ⟨t1, t2, _⟩ := isD_at I1 d
  refine ⟨t1, t2, ?_⟩
  rw [m.trees]
  refine Calls.callWith_builtin rfl (Calls.evalArgs_plain (Calls.spliced_cons (thn (he.run pins s1 σ H1 _ I1 q1) fun iv s2 ⟨y, H2, I2, ry, b, kvs, more, ey, ea, eb, ne, hz, q2⟩ => Calls.spliced_nil ?_)))
  subst ey
  obtain rfl : iv = Value.ref b := ry
  obtain ⟨za, hda, vs, ra, dda⟩ := dk_of I2.hok ea
  obtain ⟨zb, hdb, ws, rb, ddb⟩ := dk_of I2.hok eb
  refine call_meetsIn PySem.F.slot_dict_update dda.typeIs PySem.F.entry_dict_update (PySem.F.args_dict_update_2 _ _) (meets_dict_update (mixKind X.prog X.w) a b ne hdb) ⟨vs, ws, dda, ddb, (by rw [← ra.length, ← rb.length]; exact hz), fun h' hmm _ hs => ?_⟩
  have he' : ∃ q, h'.get? a = some q := let ⟨q, _, _, hq, _⟩ := hmm; ⟨q, hq⟩
  exact ⟨.non, _, d_write I2 (by rw [ea]; exact True.intro) hs he' (dk_new (Nat.le_trans (length_mergeK more kvs) hz) hda (rb.merge ra) hmm), rfl, q2⟩
/-! ### list(text), tuple == () -/
def sgs (x : Str) : List V := x.cps.toList.map fun c => V.str ⟨#[c]⟩
theorem vals_at : ∀ {xs : List V} {us : List Value}, xs.length = us.length → (∀ (j : Nat) (v : V) (u : Value), xs[j]? = some v → us[j]? = some u → RelV v u) → Vals xs us
  | [], [], _, _ => .nil
  | [], _ :: _, h, _ => nomatch h
  | _ :: _, [], h, _ => nomatch h
  | v :: xs, u :: us, h, k => .cons (k 0 v u rfl rfl) (vals_at (Nat.succ.inj h) fun j a b ha hb => k (j + 1) a b ha hb)
theorem call_list_txt {X : Cx} (hc : X.calm = true) : CallR X (.type "list") (fun xs H Q => ∃ x : Str, xs = [.str x] ∧ x.cps.size ≤ sizeLine ∧ ∀ l, H l = none → Q (.ref l) (upd H l (.lst (sgs x)))) := by
  intro pins s σ H xs us Q I r h
  obtain ⟨x, rfl, hz, q⟩ := h
  obtain ⟨u, rfl, rx⟩ := vals1 r
  obtain ⟨t, rfl⟩ := rx
  refine call_list_str (I.ok.hd hc) x t (hn := hz) fun h' tk acc' c' hk hS' hacc => ?_
  have hl : (sgs x).length = acc'.toList.length := by
    unfold sgs
    rw [List.length_map, Array.length_toList, Array.length_toList]
    exact hacc.1.symm
  have rv : Vals (sgs x) acc'.toList := vals_at hl fun j v u hv hu => by
    obtain ⟨c, k, hc', rfl⟩ := hacc.2 j u (by simpa using hu)
    unfold sgs at hv
    rw [List.getElem?_map] at hv
    obtain ⟨c2, h2, rfl⟩ := Option.map_eq_some_iff.mp hv
    have z : x.cps.toList[j]? = some c := by simpa using hc'
    rw [z] at h2
    cases h2
    exact ⟨k, rfl⟩
  have hz2 : (sgs x).length ≤ sizeLine := by
    unfold sgs
    rw [List.length_map, Array.length_toList]
    exact hz
  exact ⟨.ref s.heap.objs.size, _, I.laid (t' := tk) hk (Nat.le_refl _) (show ObjOk X.prog X.w _ h' _ (.lst (sgs x)) from ⟨hz2, acc'.toList, c', rv, by simpa using hS'⟩), rfl, q _ (I.hok.fresh (Nat.le_refl _))⟩
def rEq0 (K : PySem.W.Frag) : R2 := fun x y H Q => ∃ a b xs, x = .ref a ∧ y = .ref b ∧ SqT K H a xs ∧ SqT K H b [] ∧ Q (.bl xs.isEmpty) H
theorem op_eq0 {X : Cx} (hu : X.A.units < cLine) : OpR X (compareOp .Eq) (rEq0 X.K) := by
  intro pins s σ H x y v u Q I rx ry h
  obtain ⟨a, b, xs, rfl, rfl, ha, hb, q⟩ := h
  cases rx
  cases ry
  obtain ⟨its, r1, p1, _⟩ := I.tuple ha
  obtain ⟨its2, r2, p2, _⟩ := I.tuple hb
  cases r2
  refine SeqAt.eq_tupleAt (e := fun _ => true) p1 p2 hu (fun j h1 h2 => by simp at h2) ?_
  have e : ((List.range (min its.toArray.size ([] : List Value).toArray.size)).all (fun _ => true) && its.toArray.size == ([] : List Value).toArray.size) = xs.isEmpty := by
    cases r1 with
    | nil => rfl
    | cons _ _ => simp
  rw [e]
  exact ⟨.bl _, H, I, rfl, q⟩

/-! ### the end of a law whose defs make generator expressions -/
/-- the def nm of the top, its code object's table empty -/
def TabAt (mg : Str → Option Value) (h : Heap) (nm : Str) : Prop := ∃ (f : Addr) (o : Obj) (fd : FuncData) (c P : Addr), mg nm = some (.ref f) ∧ h.get? f = some o ∧ o.data = .func fd ∧ fd.code = .ref c ∧ h.TableAt c P #[]
theorem tab_empty {K : PySem.W.Frag} {mg : Str → Option Value} {h : Heap} {nm : Str} {f c P : Addr} {o : Obj} {fd : FuncData} {e : Value} {dd : Option Addr} {vs : Array Value} {sl : Array (Option Value)} (t : TabAt mg h nm) (X : K.In h) (g : mg nm = some (.ref f))
    (lf : K.lookup f = some o) (df : o.data = .func fd) (cf : fd.code = .ref c) (lc : K.lookup c = some ⟨e, dd, .fields vs, sl⟩) (at11 : vs[11]? = some (.ref P)) : h.get? P = some { cls := .none, data := .fields #[] } := by
  obtain ⟨f', o', fd', c', P', m1, m2, m3, m4, ⟨oc, vc, w1, _, w3, w4⟩, tp⟩ := t
  have ef : f = f' := Value.ref.inj (Option.some.inj (g.symm.trans m1))
  subst ef
  have eo : o = o' := Option.some.inj ((X f o lf).symm.trans m2)
  subst eo
  have ed : fd = fd' := Data.func.inj (df.symm.trans m3)
  subst ed
  have ec : c = c' := Value.ref.inj (cf.symm.trans m4)
  subst ec
  have eq : (⟨e, dd, .fields vs, sl⟩ : Obj) = oc := Option.some.inj ((X c _ lc).symm.trans w1)
  subst eq
  have ev : vs = vc := Data.fields.inj w3
  subst ev
  have eP : P = P' := Value.ref.inj (Option.some.inj (at11.symm.trans w4))
  subst eP
  exact tp
theorem walk_tabs {l : PySem.W.OpenLaw} {most lv : Nat} {prog : Program} {lo : List Str} {XP : (Str → Option Value) → Heap → Prop} {YP : World → Heap → Prop} {df : DefRec} {K : Params → PySem.W.Frag} {par : Str} (names : List Str)
    (h1 : l.most = some most) (h2 : most ≤ sizeLine) (h3 : df.params.defaults = []) (room : Room lv callerA) (recs : (names.all fun nm => (recsOf prog).any fun r => r.name == nm) = true) (kin : ∀ (w : World) (h : Heap), YP w h → (K w.params).In h)
    (at_ : ∀ (w : World) (mg : Str → Option Value) (fa : Addr) (h : Heap), (K w.params).In h → h.Ns mainGlobals mg → mg df.name = some (.ref fa) → (∀ nm ∈ names, TabAt mg h nm) → LamX.LawAtS l w (K w.params) CX0 lv most par mg fa h) :
    PySem.W.WalkO prog lo XP YP l.row.toRowW df [] (fun f vs => PySem.call f vs) := by
  refine Att.attach_callB h1 h3 fun w s0 s mg mb fa o pm cd doc a vs ns Gr Y _ _ _ name ob iar len bits gens => ?_
  have tabs : ∀ nm ∈ names, TabAt mg s.heap nm := fun nm hm => by
    obtain ⟨r, hr, er⟩ := List.any_eq_true.mp (List.all_eq_true.mp recs nm hm)
    obtain ⟨x1, x2, x3, x4, x5, y1, y2, y3, y4, _, y6⟩ := Gr.T.tab r hr
    rw [beq_iff_eq.mp er] at y1
    exact ⟨x1, x2, x3, x4, x5, y1, y2, y3, y4, y6⟩
  obtain ⟨fd, cs, sp, t1, t2, t3, bind, asked, ok⟩ := at_ w mg fa _ (kin w _ Y) Gr.T.g name tabs
  exact LamX.law_callTs (kin w _ Y) Gr.T.g Gr.T.b Gr.T.builtins Gr.T.nolimit gens t1 t2 t3 Gr.T.bmain ob iar (Nat.le_trans len h2) room ok bind (fun H hH hS => asked H a ns len bits hH hS) fun _ _ _ z => z

end My
namespace My
open PySem L2
/-! ### a mid-condition behind a statement, an expression, a test -/
def sMid (t : TS) : TS := fun D σ H => ∃ M : L2.St → Hp → Prop, t { D with nx := M } σ H ∧ ∀ σ' H', M σ' H' → D.nx σ' H'
theorem ps_mid {X : Cx} {st : Stmt} {t : TS} (h : PS X st t) : PS X st (sMid t) := by
  refine ⟨fun pins s σ H D I z => ?_⟩
  obtain ⟨M, q, k⟩ := z
  refine thn (h.run pins s σ H { D with nx := M } I q) fun f s1 y => ?_
  cases f with
  | next =>
    obtain ⟨σ', H', I', y⟩ := y
    exact ⟨σ', H', I', k _ _ y⟩
  | ret v => exact y
  | brk => exact y
  | cont => exact y
def tMid (t : TT) : TT := fun σ H Q => ∃ M : Bool → Hp → Prop, t σ H M ∧ ∀ b H', M b H' → Q b H'
theorem pt_mid {X : Cx} {e : Expr} {t : TT} (h : PT X e t) : PT X e (tMid t) := by
  refine ⟨fun pins s σ H Q I z => ?_⟩
  obtain ⟨M, q, k⟩ := z
  exact thn (h.run pins s σ H M I q) fun b s1 ⟨H', I', y⟩ => ⟨H', I', k _ _ y⟩
def eMid (t : TE) : TE := fun σ H Q => ∃ M : V → Hp → Prop, t σ H M ∧ ∀ v H', M v H' → Q v H'
theorem pe_mid {X : Cx} {e : Expr} {t : TE} (h : PE X e t) : PE X e (eMid t) := by
  refine ⟨fun pins s σ H Q I z => ?_⟩
  obtain ⟨M, q, k⟩ := z
  exact thn (h.run pins s σ H M I q) fun u s1 ⟨v, H', I', r, y⟩ => ⟨v, H', I', r, k _ _ y⟩
theorem yes_ite {σ : L2.St} {H : Hp} {A B : Hp → Prop} (h : A H) : tYes σ H (fun b H3 => if b = true then A H3 else B H3) := by
  unfold tYes
  exact (show (if true = true then A H else B H) from iteT h)
/-- xs[i] op= e, the read -/
theorem get_list {X : Cx} : PGet X (rIxL X.K) := by
  intro pins s σ H x y v u Q I rx ry h
  obtain ⟨p, xs, i, z, rfl, rfl, hq, he, q⟩ := h
  cases rx
  obtain ⟨t, rfl⟩ := ry
  obtain ⟨its, r, pl, hz⟩ := I.list hq
  obtain ⟨j, h1, h2, h3, h4, h5⟩ := atI_get he
  obtain ⟨w, ew, rw'⟩ := r.get h2
  have hl := r.length
  have hn := line63
  have fin : EP X pins σ Q w s := ⟨z, H, I, rw', q⟩
  by_cases h0 : 0 ≤ i
  · have hj : i.toNat = j := by
      rw [PySem.seqIndex_of h0 h5] at h1
      exact Option.some.inj h1
    exact PySem.wpAny_getItem_list pl.isList h0 (by omega) (by rw [hj]; simpa using ew) fin
  · have hj : (i + (its.toArray.size : Int)).toNat = j := by
      rw [PySem.seqIndex_neg (by omega) h4] at h1
      rw [List.size_toArray, ← hl]
      exact Option.some.inj h1
    exact PySem.wpAny_getItem_list_neg pl.isList (by omega) (by rw [List.size_toArray] <;> omega) (by omega) (by rw [hj]; simpa using ew) fin
theorem same_new {H : Hp} {p : Addr} {o : HO} (h : H p = none) : Same H (upd H p o) := fun b u q => by rw [upd_ne (ne_of_none q h)]; exact q
/-- all but d as it was -/
def But (d : Addr) (H H' : Hp) : Prop := ∀ b o, H b = some o → b ≠ d → H' b = some o
theorem But.refl {d : Addr} {H : Hp} : But d H H := fun _ _ e _ => e
theorem But.trans {d : Addr} {H H1 H2 : Hp} (x : But d H H1) (y : But d H1 H2) : But d H H2 := fun b o e n => y b o (x b o e n) n
theorem But.put {d : Addr} {H H1 : Hp} {o : HO} (x : But d H H1) : But d H (upd H1 d o) := fun b u e n => by
  rw [upd_ne n]
  exact x b u e n
theorem But.new {d p : Addr} {H H1 : Hp} {o : HO} (x : But d H H1) (n : H1 p = none) : But d H (upd H1 p o) := fun b u e nb => by
  have q := x b u e nb
  rw [upd_ne (ne_of_none q n)]
  exact q
theorem But.same {d : Addr} {H H1 H2 : Hp} (x : But d H H1) (s : Same H1 H2) : But d H H2 := fun b u e nb => s _ _ (x b u e nb)
theorem at_map {ns : List Int} {k : Int} (h0 : 0 ≤ k) (h : k < (ns.length : Int)) : ∃ v : Int, atI (ns.map V.int) k = some (.int v) ∧ v ∈ ns := by
  have hk : k.toNat < ns.length := by omega
  have ek : k = ((k.toNat : Nat) : Int) := by omega
  have q : atI (ns.map V.int) ((k.toNat : Nat) : Int) = some (.int ns[k.toNat]) := atI_nat (by rw [List.getElem?_map, List.getElem?_eq_getElem hk] <;> rfl)
  rw [← ek] at q
  exact ⟨_, q, List.getElem_mem _⟩
theorem at_any {α : Type} {xs : List α} {k : Int} (h0 : 0 ≤ k) (h : k < (xs.length : Int)) : ∃ v : α, atI xs k = some v ∧ v ∈ xs := by
  have hk : k.toNat < xs.length := by omega
  have ek : k = ((k.toNat : Nat) : Int) := by omega
  have q : atI xs ((k.toNat : Nat) : Int) = some xs[k.toNat] := atI_nat (List.getElem?_eq_getElem hk)
  rw [← ek] at q
  exact ⟨_, q, List.getElem_mem _⟩
theorem wide_ok {i j : Int} (h : 0 < j) (h2 : j < 2 ^ 100) : CDivW i j := wide_div (b := 100) h (by
  have e : ((j.natAbs : Nat) : Int) < ((2 ^ 100 : Nat) : Int) := by
    rw [Int.natCast_pow]
    show (j.natAbs : Int) < 2 ^ 100
    omega
  exact_mod_cast e) (by decide) (by decide)
theorem cut_map (ns : List Int) (hi : Option Int) : ∃ k : Nat, cutV (ns.map V.int) none hi = (ns.take k).map V.int := by
  refine ⟨HT.sIx ns.length ns.length hi, ?_⟩
  unfold cutV
  rw [HT.sIx_none, List.drop_zero, Nat.sub_zero, List.length_map, List.map_take]
theorem cut_nat {α : Type} (xs : List V) (k : Nat) : cutV xs none (some (k : Int)) = xs.take k := by
  unfold cutV
  rw [HT.sIx_none, List.drop_zero, Nat.sub_zero, HT.sIx_nat]
  by_cases h : k ≤ xs.length
  · rw [Nat.min_eq_left h]
  · rw [Nat.min_eq_right (by omega), List.take_of_length_le (Nat.le_refl _), List.take_of_length_le (by omega)]
theorem sz {n : Nat} (h : n ≤ 100000) : n ≤ sizeLine := Nat.le_trans h (by decide)
theorem szl {n : Nat} (h : n < 100000) : n < sizeLine := Nat.lt_of_lt_of_le h (by decide)
def spLaw (K : PySem.W.Frag) : Sp := fun vs H Q _ => ∃ (a : Addr) (ns : List Int), vs = [.ref a] ∧ SqL K H a (ns.map V.int) ∧ ns.length ≤ 63 ∧ (∀ z ∈ ns, Builtin.Int.intBits z ≤ 1048576) ∧ ∀ H', Q (.bl true) H'
/-! ### data of tuples -/
mutual
inductive Td (K : PySem.W.Frag) (H : Hp) : V → PyData → Prop
  | non : Td K H .non .none
  | bl (b : Bool) : Td K H (.bl b) (.bool b)
  | int (i : Int) : Td K H (.int i) (.int i)
  | str (x : Str) : Td K H (.str x) (.str x)
  | tup {a : Addr} {xs : List V} {ds : List PyData} : SqT K H a xs → TdAll K H xs ds → Td K H (.ref a) (.tuple ds)
inductive TdAll (K : PySem.W.Frag) (H : Hp) : List V → List PyData → Prop
  | nil : TdAll K H [] []
  | cons {v : V} {vs : List V} {d : PyData} {ds : List PyData} : Td K H v d → TdAll K H vs ds → TdAll K H (v :: vs) (d :: ds)
end
/-- tuples stay -/
def Tups (K : PySem.W.Frag) (H H' : Hp) : Prop := ∀ a xs, SqT K H a xs → SqT K H' a xs
theorem Tups.of_same {K : PySem.W.Frag} {H H' : Hp} (s : Same H H') : Tups K H H' := fun a xs h => by
  rcases h with h | h
  · rcases h with h | ⟨o, h⟩
    · exact .inl (.inl (s _ _ h))
    · exact .inl (.inr ⟨o, s _ _ h⟩)
  · exact .inr h
theorem Tups.of_but {K : PySem.W.Frag} {H H' : Hp} {d : Addr} {l : List V} (s : But d H H') (e : H d = some (.lst l)) : Tups K H H' := fun a xs h => by
  rcases h with h | h
  · rcases h with h | ⟨o, h⟩
    · exact .inl (.inl (s _ _ h (ne_of h e (by intro z; cases z))))
    · exact .inl (.inr ⟨o, s _ _ h (ne_of h e (by intro z; cases z))⟩)
  · exact .inr h
theorem Tups.trans {K : PySem.W.Frag} {H H1 H2 : Hp} (a : Tups K H H1) (b : Tups K H1 H2) : Tups K H H2 := fun p xs h => b _ _ (a _ _ h)
mutual
theorem Td.mono {K : PySem.W.Frag} {H H' : Hp} (t : Tups K H H') : ∀ {v : V} {d : PyData}, Td K H v d → Td K H' v d
  | _, _, .non => .non
  | _, _, .bl b => .bl b
  | _, _, .int i => .int i
  | _, _, .str x => .str x
  | _, _, .tup h k => .tup (t _ _ h) (TdAll.mono t k)
theorem TdAll.mono {K : PySem.W.Frag} {H H' : Hp} (t : Tups K H H') : ∀ {vs : List V} {ds : List PyData}, TdAll K H vs ds → TdAll K H' vs ds
  | _, _, .nil => .nil
  | _, _, .cons h k => .cons (Td.mono t h) (TdAll.mono t k)
end
mutual
theorem Td.dp {K : PySem.W.Frag} {H : Hp} : ∀ {v : V} {d : PyData}, Td K H v d → Dp K H v d
  | _, _, .non => .non
  | _, _, .bl b => .bl b
  | _, _, .int i => .int i
  | _, _, .str x => .str x
  | _, _, .tup h k => .tup h (TdAll.dp k)
theorem TdAll.dp {K : PySem.W.Frag} {H : Hp} : ∀ {vs : List V} {ds : List PyData}, TdAll K H vs ds → DpAll K H vs ds
  | _, _, .nil => .nil
  | _, _, .cons h k => .cons (Td.dp h) (TdAll.dp k)
end
theorem TdAll.length {K : PySem.W.Frag} {H : Hp} : ∀ {vs : List V} {ds : List PyData}, TdAll K H vs ds → vs.length = ds.length
  | _, _, .nil => rfl
  | _, _, .cons _ k => congrArg (· + 1) (TdAll.length k)
theorem TdAll.append {K : PySem.W.Frag} {H : Hp} : ∀ {vs ws : List V} {ds es : List PyData}, TdAll K H vs ds → TdAll K H ws es → TdAll K H (vs ++ ws) (ds ++ es)
  | _, _, _, _, .nil, k => k
  | _, _, _, _, .cons h k, z => .cons h (TdAll.append k z)
theorem TdAll.get {K : PySem.W.Frag} {H : Hp} : ∀ {vs : List V} {ds : List PyData}, TdAll K H vs ds → ∀ {v : V}, v ∈ vs → ∃ d, d ∈ ds ∧ Td K H v d
  | _, _, .nil, _, h => nomatch h
  | _, _, .cons (d := d) h k, v, m => by
    rcases List.mem_cons.mp m with e | m
    · subst e
      exact ⟨d, List.mem_cons_self, h⟩
    · obtain ⟨d', hd, t⟩ := TdAll.get k m
      exact ⟨d', List.mem_cons_of_mem _ hd, t⟩
theorem inV_str (w : Str) : ∀ ws : List Str, inV (.str w) (ws.map V.str) = decide (w ∈ ws)
  | [] => rfl
  | x :: r => by
    have ih := inV_str w r
    unfold inV at ih ⊢
    rw [List.map_cons, List.any_cons, ih]
    by_cases e : x = w
    · subst e
      simp [eqV]
    · have e2 : ¬ w = x := fun z => e z.symm
      simp [eqV, e, e2]
theorem flat_strs : ∀ ws : List Str, (ws.map V.str).all flatV = true
  | [] => rfl
  | _ :: r => by
    rw [List.map_cons, List.all_cons, flat_strs r]
    rfl
/-- the kinds -/
def kinds : List Str := ["a", "b", "c", "d", "e", "f", "g", "h"]
/-- a tuple as a target, the table and the number as they are written -/
theorem pg_tupK {X : Cx} {K : PySem.W.Frag} {pos : Pos} {es : List Expr} {k : Nat} {t : TGs} {n : Nat} (hK : X.K = K) (hc : X.calm = true) (h : PGs X es t)
    (hn : (assignEach es X.env).length = n) (hst : (assignEach es X.env).findIdx? (·.1) = none := by rfl) : PG X (.Tuple es k pos) (gTup K n t) := by
  subst hK
  exact pg_tup hc h hn hst
theorem cut_tail (x : V) (ps : List V) : cutV (x :: ps) (some 1) none = ps := by
  unfold cutV
  rw [show (1 : Int) = ((1 : Nat) : Int) from rfl, HT.sIx_nat, HT.sIx_none, List.length_cons]
  have e : min 1 (ps.length + 1) = 1 := by omega
  rw [e, List.drop_succ_cons, List.drop_zero, Nat.add_sub_cancel, List.take_of_length_le (Nat.le_refl _)]
theorem u1 {k : Nat} {A : Around} (h : Room k A) : A.units + 1 < cLine := by
  have := h.units
  omega
theorem u0 {k : Nat} {A : Around} (h : Room k A) : A.units < cLine := by
  have := h.units
  omega
theorem u65 {k : Nat} {A : Around} (h : Room k A) : A.units + 65 < cLine := by
  have := h.un
  omega
theorem op_in_seqK {X : Cx} {K : PySem.W.Frag} (hK : X.K = K) : OpR X (compareOp .In) (rIn K false) := by
  subst hK
  exact op_in_seq
theorem op_notIn_seqK {X : Cx} {K : PySem.W.Frag} (hK : X.K = K) : OpR X (compareOp .NotIn) (rIn K true) := by
  subst hK
  exact op_notIn_seq

/-! ### own exceptions as values -/
def veB : List Value := [.type "ValueError", .type "Exception", .type "BaseException", .type "object"]
/-- an exception object of the class C, not raised, with or without fields -/
def ExAt (H : Hp) (a C : Addr) : Prop := H a = some (ExO (.ref C) a) ∨ ∃ (d : Addr) (fs : List (Str × V)), H a = some (exo a C (some d)) ∧ H d = some (exd d fs)
theorem ExAt.same {H H' : Hp} {a C : Addr} (s : Same H H') (h : ExAt H a C) : ExAt H' a C := by
  rcases h with h | ⟨d, fs, h, g⟩
  · exact .inl (s _ _ h)
  · exact .inr ⟨d, fs, s _ _ h, s _ _ g⟩
section
variable {X : Cx}
theorem ExAt.inst {pins : List (Addr × Obj)} {σ : L2.St} {H : Hp} {s : Shared} {a C : Addr} (I : Inv X pins σ H s) (h : ExAt H a C) : ∃ (oe : Obj) (od : Option Obj), PySem.W.InstAt s.heap a oe C od := by
  rcases h with h | ⟨d, fs, h, g⟩
  · obtain ⟨⟨oe, vs, ho, hz, hd, _⟩, _, _⟩ := I.hok a _ h
    refine ⟨oe, none, ho, hz.1, ?_, ?_⟩
    · unfold PySem.W.notCls
      rw [hd]
    · rw [hz.2]
      trivial
  · obtain ⟨t1, ho⟩ := exo_at I.hok h
    obtain ⟨mA, hm, _⟩ := exd_at I.hok g
    obtain ⟨od, hod, _⟩ := lookIn_ns hm
    exact ⟨_, some od, ho, rfl, rfl, hod⟩
theorem pe_exc0 {C : Addr} {x : Str} {p pos : Pos} (hc : PySem.W.excIn X.K C veB "ValueError.__new__" = true) (gC : X.mg x = some (.ref C)) (kC : PySem.W.keepIn X.K (.ref C) = true) (hg : Gl X x) (hdb : (x == ("__debug__" : Str)) = false := by decide) :
    PE X (.Call (.Name x p) [] [] pos) (fun _ H Q => ∀ a, H a = none → Q (.ref a) (upd H a (ExO (.ref C) a))) := by
  constructor
  intro pins st σ H Q I h
  refine wpAny_Call_Name_kw (ld_glob I hg gC ?_ hdb)
  refine PySem.W.callWith_K0 I.kIn kC ?_
  obtain ⟨bm, N, nm, qn, bs, hdct, sn, sub, ab, col, dd, k0, k1, k2, k3, k5, mN, hC, hN, hni, OT⟩ := exc_obj I.kIn hc
  refine wpAny_call_exc_subT PySem.F.excBase_ValueError OT hC hN hni (fun h' a hm => ?_) (Nat.zero_le _)
  have free : H a = none := I.hok.gone hm.new
  obtain ⟨t, ht, _, _⟩ := hm.there
  have ok : ObjOk X.prog X.w (upd H a (ExO (.ref C) a)) h' a (ExO (.ref C) a) := exO_ok ht ⟨rfl, rfl⟩ rfl rfl rfl (show 4 < 6 by decide)
  exact ⟨.ref a, _, I.laidN hm.keeps hm.new free ok, rfl, h a free⟩
/-- C(e, ..), C an own exception class with an own __init__, as a value -/
def tOexV (C : Addr) (sp : Sp) (ta : TA) : TE := fun σ H Q => ta σ H fun vs H1 => vs.length ≤ 1000 ∧ ∀ a, H1 a = none → sp (.ref a :: vs) (upd H1 a (exo a C none)) (fun v H2 => v = .non ∧ Q (.ref a) H2) (fun _ _ _ => False)
theorem pe_oexV {x : Str} {C fI : Addr} {k : Nat} {fd : FuncData} {ps : List Str} {sp : Sp} {e : Expr} {es : List Expr} {ta : TA} {p pos : Pos} (OC : OexC X.K C) (iC : PySem.W.findIn X.K (.ref C) "__init__" = some (some (.ref fI)))
    (tI : PySem.W.typeIn X.K (.ref fI) = some (.type "function")) (F1 : FnOk X.prog X.w X.K X.mg X.base CX0 k fI fd ps sp) (hr : Room (k + 1) X.A) (hb : Binds X.K fd ps []) (hg : Gl X x) (hm : X.mg x = some (.ref C)) (ha : PA X (e :: es) ta)
    (hdb : (x == ("__debug__" : Str)) = false := by decide) (he : starEach (e :: es) X.env = (false, eval e X.env) :: starEach es X.env := by rfl) (hpl : (backTo pos (starEach es X.env)).any (·.1) = false := by rfl) :
    PE X (.Call (.Name x p) (e :: es) [] pos) (tOexV C sp ta) := by
  constructor
  intro pins st σ H Q I h
  obtain ⟨nm, q, N, bs, bm, sn, sub, ab, col, dd, k0, k1, k2, k3, k5, hC, hbm⟩ := OC.cls
  refine wpAny_Call_Name_kw (ld_glob I hg hm ?_ hdb)
  refine PySem.W.callWith_K (h₀ := X.base) I.ok.mod.kin OC.kC (thn (ha.run pos pins st σ H _ I h) fun us s1 z => ?_) he hpl
  obtain ⟨vs, H1, I1, r1, hz, q1⟩ := z
  refine ⟨I1.kIn, ?_⟩
  obtain ⟨hp, g, dr, tk, os⟩ := s1
  have hn : H1 (hp.objs.size + 1) = none := I1.hok.fresh (Nat.le_succ _)
  have hq := q1 _ hn
  have kk : ∀ b o, hp.get? b = some o → ((hp.push (PySem.W.kdv_tup us)).push (PySem.HandSPX.excO C hp.objs.size)).get? b = some o := fun b o z =>
    Heap.get?_push_of_some _ (Heap.get?_push_of_some _ z)
  have hget : ((hp.push (PySem.W.kdv_tup us)).push (PySem.HandSPX.excO C hp.objs.size)).get? (hp.objs.size + 1) = some (PySem.HandSPX.excO C hp.objs.size) := by
    heap_get
  have I2 : Inv X pins σ (upd H1 (hp.objs.size + 1) (exo (hp.objs.size + 1) C none)) ⟨(hp.push (PySem.W.kdv_tup us)).push (PySem.HandSPX.excO C hp.objs.size), g, dr, tk, os⟩ :=
    I1.laid (t' := tk) (a := hp.objs.size + 1) (o := exo (hp.objs.size + 1) C none) (h' := (hp.push (PySem.W.kdv_tup us)).push (PySem.HandSPX.excO C hp.objs.size)) kk (Nat.le_succ _) (exo_ok hget)
  have r2 : Vals (V.ref (hp.objs.size + 1) :: vs) (Value.ref (hp.objs.size + 1) :: us) := .cons rfl r1
  have hl : (Value.ref (hp.objs.size + 1) :: us).length = ps.length := by
    rw [← r2.length]
    exact F1.len _ _ _ _ hq
  have hus : us.length ≤ sizeLine := by
    rw [← Paired.length r1, sizeLine_eq]
    omega
  have hb2 := hb ⟨(hp.push (PySem.W.kdv_tup us)).push (PySem.HandSPX.excO C hp.objs.size), g, dr, tk, os⟩ (Value.ref (hp.objs.size + 1) :: us) I2.kIn (by rw [List.append_nil]; exact hl)
  rw [List.append_nil] at hb2
  refine wpAny_call (PySem.HandSPX.call_own PySem.F.excBase_ValueError (fun Y => PySem.HandSPX.refsVE_contains Y bm hbm) (I1.kIn _ _ hC) (PySem.W.looks_findIn I1.kIn iC) (fun self => PySem.W.bind_fn I1.kIn self tI) hus
    (codeAny_mono (F1.run _ X.stack _ _ ⟨Value.ref (hp.objs.size + 1) :: us, []⟩ (Value.ref (hp.objs.size + 1) :: us) _ _ (fun _ _ _ => False) (hr.make C us []) (I2.env0.make C us []) hb2 r2 hq) fun r s' z => ?_))
  cases r with
  | error er => exact absurd z id
  | ok fl =>
    cases fl with
    | ret u =>
      obtain ⟨v, H', J, rv, ev, qq⟩ := I2.after z
      subst ev
      exact ⟨rv, .ref (hp.objs.size + 1), H', J, rfl, qq⟩
    | next => exact absurd z id
    | brk => exact absurd z id
    | cont => exact absurd z id
/-- what isinstance asks of the class of an exception -/
structure XcC (K : PySem.W.Frag) (C : Addr) : Prop where
  cl : (PySem.W.clsIn K C).isSome = true
  hg : PySem.W.findIn K (.ref C) "__getattribute__" = some (some (.builtin "BaseException.__getattribute__"))
  hk : PySem.W.findIn K (.ref C) "__getattr__" = some none
  hs : PySem.W.subIn K (.ref C) (.type "BaseException") = some true
  ha : PySem.W.findIn K (.ref C) "__class__" = some (some (.builtin "object.__class__"))
  hn : PySem.W.specialIn K (.builtin "object.__class__") "__get__" = some (some (.builtin "getset_descriptor.__get__"))
  ht : PySem.W.takesIn K (.builtin "object.__class__") = some true
  hm : PySem.W.mroIn K C (.type "object") = some true
def xcB (K : PySem.W.Frag) (C : Addr) : Bool := (PySem.W.clsIn K C).isSome && (decide (PySem.W.findIn K (.ref C) "__getattribute__" = some (some (.builtin "BaseException.__getattribute__"))) && (decide (PySem.W.findIn K (.ref C) "__getattr__" = some none) &&
  (decide (PySem.W.subIn K (.ref C) (.type "BaseException") = some true) && (decide (PySem.W.findIn K (.ref C) "__class__" = some (some (.builtin "object.__class__"))) && (decide (PySem.W.specialIn K (.builtin "object.__class__") "__get__" = some (some (.builtin "getset_descriptor.__get__"))) &&
  (decide (PySem.W.takesIn K (.builtin "object.__class__") = some true) && decide (PySem.W.mroIn K C (.type "object") = some true)))))))
theorem xcB_ok {K : PySem.W.Frag} {C : Addr} (h : xcB K C = true) : XcC K C := by
  unfold xcB at h
  simp only [Bool.and_eq_true, decide_eq_true_eq] at h
  obtain ⟨h1, h2, h3, h4, h5, h6, h7, h8⟩ := h
  exact ⟨h1, h2, h3, h4, h5, h6, h7, h8⟩
def rIsX (K : PySem.W.Frag) : List V → Hp → VK → Prop := fun xs H Q => ∃ (a C : Addr) (c : V) (cv : Value) (b : Bool), xs = [.ref a, c] ∧ ExAt H a C ∧ XcC K C ∧ ClsV c cv ∧ PySem.W.kitOne K (.ref C) cv = some b ∧ Q (.bl b) H
theorem call_isX : CallR X (.builtin "isinstance") (rIsX X.K) := by
  intro pins st σ H xs us Q I r h
  obtain ⟨a, C, c, cv, b, rfl, ex, xc, kc, e, q⟩ := h
  obtain ⟨u1, u2, rfl, r1, r2⟩ := vals2 r
  cases r1
  have e2 := kc.eq r2
  subst e2
  obtain ⟨oe, od, J⟩ := ex.inst I
  exact PySem.W.kia_one (PySem.W.kitx_exc xc.cl xc.hg xc.hk xc.hs xc.ha xc.hn xc.ht xc.hm) I.kIn J e (fun z => nomatch z) fun tk => ⟨.bl b, H, I.kept (t' := tk) fun _ _ z => z, rfl, q⟩
theorem call_isXK {K : PySem.W.Frag} (hK : X.K = K) : CallR X (.builtin "isinstance") (rIsX K) := by
  subst hK
  exact call_isX
/-- e.f of such an object -/
def tXv (K : PySem.W.Frag) (f : Str) (te : TE) : TE := fun σ H Q => te σ H fun x H1 => ∃ (a C d : Addr) (fs : List (Str × V)) (v : V), x = .ref a ∧ H1 a = some (exo a C (some d)) ∧ H1 d = some (exd d fs) ∧ XfC K C ∧ PySem.W.findIn K (.ref C) f = some none ∧ fs.lookup f = some v ∧ Q v H1
theorem pe_xv {e : Expr} {te : TE} {pos : Pos} {n : Str} (he : PE X e te) (hb : attributeBase e n X.env (eval e X.env) = eval e X.env := by rfl) : PE X (.Attribute e n pos) (tXv X.K n te) := by
  constructor
  intro pins st σ H Q I h
  refine attr_of hb (thn (he.run pins st σ H _ I h) fun u s1 z => ?_)
  obtain ⟨x, H1, I1, rx, a, C, d, fs, v, rfl, h1, h2, xf, hno, hl, q⟩ := z
  cases rx
  obtain ⟨t1, ho⟩ := exo_at I1.hok h1
  obtain ⟨mA, hns, hrel⟩ := exd_at I1.hok h2
  obtain ⟨od, hod, hlk⟩ := lookIn_ns hns
  obtain ⟨u, hu, ru⟩ := RelO.some_of (v := v) (o := mA n) (by rw [← hl]; exact hrel n)
  have J : PySem.W.InstAt s1.heap a _ C (some od) := ⟨ho, rfl, rfl, hod⟩
  exact HandSPX.exc_get I1.kIn J xf.ga xf.gg xf.exC (PySem.W.findObj_own xf.hdC hno rfl (by rw [hlk, hu])) (handed_of ru) ⟨v, H1, I1.tok _, ru, q⟩
end
/-! ### facts of the written part, by one kernel run each -/
/-- a written tuple of texts -/
def strOf : Value → Option Str
  | .str x _ => some x
  | _ => none
def tupB (K : PySem.W.Frag) (a : Addr) (ws : List Str) : Bool := match K.lookup a with
  | some o => decide (o.cls = .type "tuple") && (match o.data with
    | .seq its _ => decide (its.size ≤ 1000) && decide (its.toList.map strOf = ws.map some)
    | _ => false)
  | none => false
theorem vals_str : ∀ {us : List Value} {ws : List Str}, us.map strOf = ws.map some → Vals (ws.map V.str) us
  | [], [], _ => .nil
  | [], _ :: _, h => nomatch h
  | _ :: _, [], h => nomatch h
  | u :: us, w :: ws, h => by
    rw [List.map_cons, List.map_cons] at h
    obtain ⟨h1, h2⟩ := List.cons.inj h
    refine .cons ?_ (vals_str h2)
    cases u with
    | str x t =>
      have e : x = w := Option.some.inj h1
      subst e
      exact ⟨t, rfl⟩
    | _ => exact nomatch h1
theorem tupB_ok {K : PySem.W.Frag} {a : Addr} {ws : List Str} (h : tupB K a ws = true) (H : Hp) : SqT K H a (ws.map V.str) := by
  unfold tupB at h
  split at h
  · rename_i o ho
    rw [Bool.and_eq_true] at h
    obtain ⟨h1, h2⟩ := h
    split at h2
    · rename_i its n hd
      rw [Bool.and_eq_true] at h2
      exact .inr ⟨o, its, n, ho, of_decide_eq_true h1, hd, sz (Nat.le_trans (of_decide_eq_true h2.1) (by decide)), vals_str (of_decide_eq_true h2.2)⟩
    · cases h2
  · cases h
/-- the refusals among one another, and under the first of them -/
def kitsB (K : PySem.W.Frag) (t : Addr) (cs : List Addr) : Bool := (List.range cs.length).all fun i => decide (PySem.W.kitOne K (.ref (cs.getD i 0)) (.ref t) = some true) && (List.range cs.length).all fun j => decide (PySem.W.kitOne K (.ref (cs.getD i 0)) (.ref (cs.getD j 0)) = some (decide (i = j)))
theorem kitsB_top {K : PySem.W.Frag} {t : Addr} {cs : List Addr} (h : kitsB K t cs = true) {i : Nat} (hi : i < cs.length) : PySem.W.kitOne K (.ref (cs.getD i 0)) (.ref t) = some true := by
  unfold kitsB at h
  have z := List.all_eq_true.mp h i (List.mem_range.mpr hi)
  rw [Bool.and_eq_true] at z
  exact of_decide_eq_true z.1
theorem kitsB_two {K : PySem.W.Frag} {t : Addr} {cs : List Addr} (h : kitsB K t cs = true) {i j : Nat} (hi : i < cs.length) (hj : j < cs.length) : PySem.W.kitOne K (.ref (cs.getD i 0)) (.ref (cs.getD j 0)) = some (decide (i = j)) := by
  unfold kitsB at h
  have z := List.all_eq_true.mp h i (List.mem_range.mpr hi)
  rw [Bool.and_eq_true] at z
  exact of_decide_eq_true (List.all_eq_true.mp z.2 j (List.mem_range.mpr hj))
def dws : List Str := ["new", "put", "paint", "tie", "cut", "add", "spread"]

end My
namespace My
open PySem PySem.Spec PyProof.Rows L2
/-! ### an exception caught and kept -/
/-- at a stands an exception of the class cls that was raised -/
def ExC (cls : Value) (d : Option Addr) (a : Addr) : HO := .ext fun h => ∃ (oe : Obj) (vs : Array Value), h.get? a = some oe ∧ Zc cls d oe ∧ oe.data = .fields vs
theorem exC_ok {P : Program} {w : World} {H : Hp} {h : Heap} {a : Addr} {cls : Value} {d : Option Addr} {oe : Obj} {vs : Array Value} (e : h.get? a = some oe) (z : Zc cls d oe) (dd : oe.data = .fields vs) : ObjOk P w H h a (ExC cls d a) := by
  refine ⟨⟨oe, vs, e, z, dd⟩, ⟨oe, e⟩, ?_⟩
  rintro h1 h2 ⟨o, v, e1, z1, d1⟩ st
  exact ⟨o, v, st _ e1, z1, d1⟩
/-- what stood nowhere at sI is none of the context's own: it may be tracked -/
theorem inv_seen {X : Cx} {pins : List (Addr × Obj)} {σI σ : L2.St} {HI H : Hp} {sI s : Shared} {a : Addr} {o : HO} (J : Inv X pins σI HI sI) (new : sI.heap.get? a = none) (I : Inv X pins σ H s) (na : H a = none) (ok : ObjOk X.prog X.w (upd H a o) s.heap a o) :
    Inv X pins σ (upd H a o) s := by
  have old : ∀ {b : Addr} {ob : Obj}, sI.heap.get? b = some ob → upd H a o b = H b := fun {b ob} e => upd_ne fun z => by
    rw [z, new] at e
    cases e
  have trk : ∀ {b : Addr} {u : HO}, H b = some u → upd H a o b = some u := fun {b u} e => (upd_ne (ne_of_none e na)).trans e
  refine ⟨I.ok, I.os, I.bare, ⟨I.base.keep, I.base.slot, ?_, I.base.there, ?_, ?_, ?_⟩, I.loc, I.cell, ?_, ?_, ?_, ?_, I.len⟩
  · intro b ob e nb hx
    obtain ⟨o', e'⟩ := J.base.there b ob e hx
    rw [old e']
    exact I.base.free b ob e nb hx
  · intro b xs e
    exact trk (I.base.tups b xs e)
  · intro b ob u e
    exact trk (I.base.frzs b ob u e)
  · intro b ps e
    obtain ⟨more, q⟩ := I.base.tbls b ps e
    exact ⟨more, trk q⟩
  · obtain ⟨m, ⟨ol, _, _, el, _⟩, _⟩ := J.loc
    rw [old el]
    exact I.free
  · intro y c e
    obtain ⟨v, oc, ec, _⟩ := J.cell y c e
    rw [old ec]
    exact I.freeC y c e
  · intro p hp
    obtain ⟨p1, p2, p3⟩ := I.pin p hp
    exact ⟨p1, (old (J.pin p hp).1).trans p2, p3⟩
  · intro b u e
    by_cases hb : b = a
    · subst hb
      rw [upd_same] at e
      cases e
      exact ok
    · rw [upd_ne hb] at e
      exact (I.hok b u e).stay (fun _ _ _ q => q) (fun _ q => trk q) fun _ _ q => trk q
/-- what 'except x as n' wishes, the exception kept behind it -/
def wKeep (K : PySem.W.Frag) (c : Value) (i : Nat) (ts : Addr → TS) (D : Ends) : WX := fun cls d σ H =>
  PySem.W.exmOne K cls c = some true ∧ ∀ a, H a = none → ts a { nx := fun σ' H' => H' a = none ∧ D.nx (σ'.set i none) (upd H' a (ExC cls d a)), rt := fun _ _ => False, bk := fun _ _ => False, ct := fun _ _ => False } (σ.set i (some (.ref a))) H
theorem ps_try_keep {X : Cx} {x n : Str} {c : Value} {i : Nat} {body suite : List Stmt} {b0 : Stmt} {np pos pos' : Pos} {tb : WX → TS} {ts : Addr → TS} (stk : X.stack = X.env :: X.outer) (frm : X.env.frame = some X.env.locals) (nd : X.N.Nodup) (hi : X.N[i]? = some n) (loc : X.env.kindOf n = some .local) (nm : Names X x c)
    (hb : ∀ (W : WX) (pn : List (Addr × Obj)) (xe : Value → Shared → Prop), Takes (X.tr pn xe) W → PSs (X.tr pn xe) body (tb W))
    (hsu : ∀ (a : Addr) (pn : List (Addr × Obj)), PSs (X.suite a pn) (b0 :: suite) (ts a)) :
    PS X (.Try body [.ExceptHandler (some (.Name x np)) (some n) (b0 :: suite) pos'] [] [] pos) (fun D σ H => tb (wKeep X.K c i ts D) D σ H) := by
  constructor
  intro pins s σ H D I h
  have frs' : X.A.frames = some (X.env :: X.outer) := by rw [I.ok.frames, stk]
  refine wpAny_Try_except (wpAny_mono ((hb (wKeep X.K c i ts D) (X.pn ++ pins) _ fun u s' ex => ?_).run [] s σ H D (I.toTry _) h) (fun f s1 sp => ?_) fun e s1 q => q)
  · obtain ⟨a, B, sI, pins', σ', H', cls, d, rfl, JT, nb, up, sky, na, os, ag, hm, go⟩ := ex
    have J : Inv X pins σ' H' sI := JT.ofTry I.ok
    have sky2 : Sky B (X.env :: X.outer) a (Zc cls d) X.env.locals s'.heap := stk ▸ sky
    refine Sky.land Zc.steady frs' frm sky2 fun h3 fl3 up3 => ?_
    have J3 : Inv X pins σ' H' { s' with heap := h3 } := J.landed nb fl3.1 (up.trans up3) os ag
    have away : ∀ {hp : Heap} {o : Obj} {vs : Array Value}, hp.FunFrames B (X.env :: X.outer) → hp.get? a = some o → o.data = .fields vs → a ∉ frs (X.env :: X.outer) := fun {hp o vs} ff e dd m => by
      obtain ⟨_, o', e', nf⟩ := ff.mem m
      rw [e] at e'
      cases e'
      exact nf _ dd
    obtain ⟨oe3, vs3, he3, hz3, hd3⟩ := fl3.there
    have nfr := away fl3.2.2.1 he3 hd3
    have nl : a ≠ X.env.locals := fun z => nfr (List.mem_filterMap.mpr ⟨X.env, List.mem_cons_self, by rw [frm, z]⟩)
    have nfs : a ∉ X.fs := fun m => by
      obtain ⟨e, he, q⟩ := List.mem_filterMap.mp m
      exact nfr (List.mem_filterMap.mpr ⟨e, List.mem_cons_of_mem _ he, q⟩)
    have newI : sI.heap.get? a = none := by
      cases q : sI.heap.get? a with
      | none => rfl
      | some ob =>
        have z := nb a ob q (by rw [stk]; exact nfr)
        rw [fl3.2.1] at z
        cases z
    have S3 := J3.suite he3 hd3 na nl nfs
    refine wpAny_handleBy_cons (codeAny_handlers_test ?_) (fun z => nomatch z)
    have name : ∀ {Q' : Value → Shared → Prop} {E' : Value → Shared → Prop}, Q' c { s' with heap := h3 } → wpAny (model X.prog X.w) (X.A.mark (some (.ref a))) (eval (.Name x np) X.env) Q' E' { s' with heap := h3 } := fun {Q' E'} q => by
      obtain ⟨gl, dbg, hit | ⟨miss, bt, nn⟩⟩ := nm
      · exact ld_glob (X := X.suite a ((a, oe3) :: (X.pn ++ pins))) S3 gl hit q dbg
      · exact ld_blt (X := X.suite a ((a, oe3) :: (X.pn ++ pins))) S3 gl miss bt q nn dbg
    have looks : PySem.W.Looks (model X.prog X.w) h3 (typeOf (.ref a)) cls := fun A' Q' E' t k q => wpAny_typeOf_ref (k _ _ he3) (hz3.1.symm ▸ q)
    refine name ((PySem.W.exm_one (M := model X.prog X.w) J3.kIn looks hm).here (codeAny_handlers_suite_as (HandSPX.lands_againZ fl3 fun h4 fl4 up4 => ?_)))
    · have J4 : Inv X pins σ' H' { s' with heap := h4 } := J.landed nb fl4.1 ((up.trans up3).trans up4) os ag
      obtain ⟨oe4, vs4, he4, hz4, hd4⟩ := fl4.there
      refine store_ok (X := X.suite a ((a, oe4) :: (X.pn ++ pins))) (v := .ref a) (J4.suite he4 hd4 na nl nfs) nd hi (.inl loc) rfl (fun s5 S5 => ?_) (.inr loc)
      refine wpAny_mono ((hsu a ((a, oe4) :: (X.pn ++ pins))).run [] s5 _ H' _ S5 (go a na)) (fun f s6 sp => ?_) fun _ _ z => (show False from z).elim
      cases f with
      | next =>
        obtain ⟨σ6, H6, S6, n6, q6⟩ := sp
        refine gone_ok (X := X.suite a ((a, oe4) :: (X.pn ++ pins))) S6 nd hi loc fun s7 S7 => ?_
        have at7 := (S7.pin (a, oe4) (List.mem_append_left _ List.mem_cons_self)).1
        exact ⟨_, _, inv_seen J newI (S7.unsuite I.ok) n6 (exC_ok at7 hz4 hd4), q6⟩
      | brk =>
        obtain ⟨_, _, _, z⟩ := sp
        exact (show False from z).elim
      | cont =>
        obtain ⟨_, _, _, z⟩ := sp
        exact (show False from z).elim
      | ret u =>
        obtain ⟨_, _, _, _, _, z⟩ := sp
        exact (show False from z).elim
  · cases f with
    | next =>
      obtain ⟨σ', H', J, q⟩ := sp
      exact wpAny_execs_nil ⟨σ', H', J.ofTry I.ok, q⟩
    | brk =>
      obtain ⟨σ', H', J, q⟩ := sp
      exact ⟨σ', H', J.ofTry I.ok, q⟩
    | cont =>
      obtain ⟨σ', H', J, q⟩ := sp
      exact ⟨σ', H', J.ofTry I.ok, q⟩
    | ret u =>
      obtain ⟨v, σ', H', J, r, q⟩ := sp
      exact ⟨v, σ', H', J.ofTry I.ok, r, q⟩

/-! ### a lambda of one parameter -/
structure LamP (sc scope : Scope) (p : Str) : Prop where
  kind : scope.kind = .function
  co : scope.isCoroutine = false
  gen : scope.isGenerator = false
  par : scope.names.lookup p = some .local
  own : ∀ y ∈ scope.names, y.2 ≠ .cell ∧ (y.2 = .local → y.1 = p)
  free : ∀ y ∈ scope.names, y.2 = .free → sc.names.lookup y.1 = some .cell ∨ sc.names.lookup y.1 = some .free
def lamPB (sc scope : Scope) (p : Str) : Bool := decide (scope.kind = .function) && (!scope.isCoroutine && (!scope.isGenerator && (decide (scope.names.lookup p = some .local) && scope.names.all fun y => !decide (y.2 = .cell) && ((!decide (y.2 = .local) || decide (y.1 = p)) && (!decide (y.2 = .free) || (decide (sc.names.lookup y.1 = some .cell) || decide (sc.names.lookup y.1 = some .free)))))))
theorem lamP_by {sc scope : Scope} {p : Str} (h : lamPB sc scope p = true) : LamP sc scope p := by
  unfold lamPB at h
  simp only [Bool.and_eq_true, Bool.or_eq_true, Bool.not_eq_true', decide_eq_true_eq, decide_eq_false_iff_not, List.all_eq_true] at h
  obtain ⟨h1, h2, h3, h4, h5⟩ := h
  refine ⟨h1, h2, h3, h4, fun y hy => ⟨(h5 y hy).1, fun e => ?_⟩, fun y hy e => ?_⟩
  · rcases (h5 y hy).2.1 with z | z
    · exact absurd e z
    · exact z
  · rcases (h5 y hy).2.2 with z | z
    · exact absurd e z
    · exact z
theorem LamP.has {X : Cx} {scope : Scope} {p : Str} (L : LamP X.env.scope scope p) (ok : X.Ok) {y : Str × NameKind} (hy : y ∈ scope.names) (e : y.2 = .free) : ∃ c, X.env.cells.lookup y.1 = some c := ok.has _ (L.free y hy e)
/-- the context of its body -/
def cxP (X : Cx) (A : Around) (outer : List Env) (s : Shared) (H : Hp) (E : XK) (scope : Scope) (p : Str) (f c' : Addr) : Cx := { LamX.lamCx X A outer s H E scope f c' with N := X.N ++ [p] }
section
variable {X : Cx} {pins : List (Addr × Obj)} {σ : L2.St} {H HZ : Hp} {s s1 : Shared} {A : Around} {outer : List Env} {E : XK} {scope : Scope} {p : Str} {f c' : Addr}
theorem lamP_start {h1 : Heap} {tk : Nat} {v : V} {u : Value} (I : Inv X pins σ H s) (L : LamP X.env.scope scope p) (np : ∀ (i : Nat) (v : V), X.N[i]? = some p → σ[i]? = some (some v) → False) (e0 : Env0 X.prog X.w X.K X.mg X.base A outer s1 HZ) (calm : A.handled = none)
    (un : Un (frs X.stack) [] H HZ s.heap s1.heap) (ns : h1.Ns s1.heap.objs.size fun y => ([(p, u)] : List (Str × Value)).reverse.lookup y) (kp : ∀ b o, s1.heap.get? b = some o → h1.get? b = some o) (r : RelV v u) :
    Inv (cxP X A outer s1 HZ E scope p f c') [] (σ ++ [some v]) HZ { s1 with heap := h1, toks := tk } := by
  -- the closure's cells are the maker's
  have back : ∀ {y : Str} {c : Addr}, (cloFrom X.env.cells scope.names []).lookup y = some c → X.env.cells.lookup y = some c := fun {y c} e => by
    rcases cloFrom_mem (PySem.mem_of_lookup e) with z | ⟨z, ec⟩
    · cases z
    · obtain ⟨c1, e1⟩ := L.has I.ok z rfl
      rw [ec, e1]
      rfl
  have fwd : ∀ {y : Str}, scope.names.lookup y = some .free → ∃ c, (cloFrom X.env.cells scope.names []).lookup y = some c := fun {y} e =>
    mem_lookup (cloFrom_has (cells := X.env.cells) (acc := []) (show (y, NameKind.free) ∈ scope.names from PySem.mem_of_lookup e))
  have cellOn : ∀ {c : Addr} {x : Option Value}, H c = none → s.heap.IsCell c x → h1.IsCell c x := fun {c x} n z => by
    obtain ⟨o, ho, hd⟩ := z
    obtain ⟨sl, q⟩ := un.any ho n (fun z => nomatch z)
    exact ⟨_, kp _ _ q, hd⟩
  have noCell : ∀ {y : Str}, scope.names.lookup y ≠ some .cell := fun {y} e => (L.own _ (PySem.mem_of_lookup e)).1 rfl
  have isOwn : ∀ {y : Str}, scope.names.lookup y = some .local → y = p := fun {y} e => (L.own _ (PySem.mem_of_lookup e)).2 rfl
  have ok : (cxP X A outer s1 HZ E scope p f c').Ok :=
    { mod := e0.mod
      kind := L.kind
      glob := rfl
      blt := rfl
      above := Nat.le_refl _
      inj := fun y z c e1 e2 => I.ok.inj y z c (back e1) (back e2)
      has := fun y hy => by
        rcases hy with hy | hy
        · exact absurd hy noCell
        · exact fwd hy
      cab := fun y c z _ => absurd (show false = true from z) Bool.false_ne_true
      hd := fun _ => calm
      frames := Around.frames_deeper e0.frames
      stk := .inr ⟨rfl, rfl⟩
      exf := fun b z => absurd (show b ∈ ([] : List Addr) from z) List.not_mem_nil
      bs := e0.bs
      bsz := e0.bsz
      noex := fun b _ _ z => absurd (show b ∈ ([] : List Addr) from z) List.not_mem_nil
      exfs := fun b z => absurd (show b ∈ ([] : List Addr) from z) List.not_mem_nil
      funs := e0.funs
      frf := e0.frf }
  refine ⟨ok, rfl, e0.bare, Un.kept kp, ⟨_, ns, fun i y x e1 e2 e3 => ?_⟩, fun y c e => ?_, e0.hok.fresh (Nat.le_refl _), fun y c e => ?_, fun q hq => absurd (show q ∈ ([] : List (Addr × Obj)) ++ [] from hq) List.not_mem_nil, e0.hok.kept kp, ?_⟩
  · have e1 : (X.N ++ [p])[i]? = some y := e1
    have e3 : Vis scope y := e3
    have ll : σ.length = X.N.length := I.len
    by_cases lt : i < X.N.length
    · rw [List.getElem?_append_left lt] at e1
      rw [List.getElem?_append_left (by rw [ll]; exact lt)] at e2
      have ny : y ≠ p := fun z => np i x (z ▸ e1) e2
      rcases e3 with k | k | k
      · exact absurd (isOwn k) ny
      · exact absurd k noCell
      · obtain ⟨m, _, at_⟩ := I.loc
        have fr := L.free _ (PySem.mem_of_lookup k) rfl
        obtain ⟨u', r', q⟩ := at_ i y x e1 e2 (.inr fr)
        obtain ⟨c, ec⟩ := fwd k
        refine ⟨u', r', .inr ⟨.inr k, c, ec, ?_⟩⟩
        rcases q with ⟨k', _⟩ | ⟨_, c2, ec2, z⟩
        · have k' : X.env.scope.names.lookup y = some .local := k'
          rcases fr with k2 | k2
          · rw [k'] at k2
            cases k2
          · rw [k'] at k2
            cases k2
        · rw [back ec] at ec2
          cases ec2
          exact cellOn (I.freeC y c (back ec)) z
    · have ge : X.N.length ≤ i := Nat.le_of_not_lt lt
      rw [List.getElem?_append_right ge] at e1
      rw [List.getElem?_append_right (by rw [ll]; exact ge), ll] at e2
      cases hi : i - X.N.length with
      | zero =>
        rw [hi] at e1 e2
        have ey : p = y := Option.some.inj e1
        have ev : v = x := Option.some.inj (Option.some.inj e2)
        subst ey ev
        refine ⟨u, r, .inl ⟨L.par, ?_⟩⟩
        show ([(p, u)] : List (Str × Value)).lookup p = some u
        rw [List.lookup_cons, beq_self_eq_true]
      | succ n =>
        rw [hi] at e1
        cases e1
  · obtain ⟨x, z⟩ := I.cell y c (back e)
    exact ⟨x, cellOn (I.freeC y c (back e)) z⟩
  · obtain ⟨x, o, ho, _⟩ := I.cell y c (back e)
    exact un.free c o ho (I.freeC y c (back e)) (fun z => nomatch z)
  · show (σ ++ [some v]).length = (X.N ++ [p]).length
    rw [List.length_append, List.length_append, I.len]
    rfl
/-- the lambda at f called with one thing, at any time behind its making -/
theorem lamP_run {k : Nat} {params : Arguments} {b : Expr} {pm ctv : Value} {tb : TE} {v : V} {u : Value} {Q : VK} (I : Inv X pins σ H s) (L : LamP X.env.scope scope p) (np : ∀ (i : Nat) (v : V), X.N[i]? = some p → σ[i]? = some (some v) → False)
    (hf : s.heap.get? f = some (PySem.W.kla_obj "<lambda>" (X.env.qual ++ "<lambda>") params b scope (cloFrom X.env.cells scope.names []) pm c' ctv)) (hfn : H f = none) (hfr : f ∉ frs X.stack)
    (bind : ∀ u, bindArgs (PySem.W.kla_fn "<lambda>" (X.env.qual ++ "<lambda>") params b scope (cloFrom X.env.cells scope.names []) pm (.ref c') ctv) ⟨[u], []⟩ = pure [(p, u)]) (room : Room (k + 1) A) (e0 : Env0 X.prog X.w X.K X.mg X.base A outer s1 HZ)
    (un : Un (frs X.stack) [] H HZ s.heap s1.heap) (code : HZ c' = some (LamX.CodeO c' (X.env.qual ++ "<lambda>"))) (body : ∀ (A : Around) (outer : List Env) (s : Shared) (H : Hp), Room k (A.deeper (LamX.lamEnv X scope s.heap.objs.size f c')) → PE (cxP X A outer s H E scope p f c') b tb)
    (r : RelV v u) (t : tb (σ ++ [some v]) HZ Q) : codeAny (model X.prog X.w) A (.call (.ref f) ⟨[u], []⟩) (CR (L2.CX X.prog X.w) outer X.prog X.w HZ s1 Q E) s1 := by
  have here := un.keep f _ hf hfn hfr (fun z => nomatch z)
  obtain ⟨⟨oc, vs, tk, ho, hd, hv⟩, _, _⟩ := e0.hok c' _ code
  refine PySem.W.kla_callFunE room.depth here rfl L.co L.gen rfl ⟨c', oc, vs, tk, rfl, ho, hd, hv⟩ ?_
  rw [bind u]
  refine wpAny_pure (wpAny_newFunctionEnv (fun y hy => (L.own y hy).1) (fun y hy => ?_) (fun h1 ns sb => ⟨?_, ?_⟩) L.kind)
  · rw [List.mem_singleton.mp hy]
    exact L.par
  · have kin : s1.heap.NoLimit := e0.mod.nolimit.keeps fun b o e => (e0.bs b o e).1
    exact kin.fresh _ sb
  · have kp : ∀ b o, s1.heap.get? b = some o → h1.get? b = some o := fun b o e => sb.extBut b o (Nat.ne_of_lt (Heap.lt_size e)) (Heap.get?_push_of_some _ e)
    have J := lamP_start (E := E) (f := f) (c' := c') (tk := s1.toks + ([(p, u)] : List (Str × Value)).length) I L np e0 room.hd un ns kp r
    show codeAny _ _ (.expr b (LamX.lamEnv X scope s1.heap.objs.size f c')) _ _
    refine PySem.W.kla_codeExpr (wpAny_mono ((body _ _ s1 HZ (room.deeper _)).run [] _ _ HZ Q J t) (fun w' s' z => ?_) fun e s' z => z)
    obtain ⟨x, H', J', rx, q⟩ := z
    exact ⟨x, H', J'.os, J'.bare, J'.base, J'.hok, rx, q⟩
end
/-! ### it is called by the def that got it -/
/-- that def's context, entered at s -/
abbrev gotCx (X : Cx) (Ng : List Str) (x : Str) (sg : Scope) (g : Addr) (cdg : Value) (s : Shared) (H : Hp) : Cx := cxOf CX0 X.prog X.w X.K X.mg X.base Ng x sg g cdg X.A X.stack s H E0
/-- a(e), a's slot the i-th: e's reading, then the lambda's of e's value -/
def tAct (i : Nat) (f c' : Addr) (q : Str) (ta : TA) (W : WX) (tl : XK → V → Hp → VK → Prop) : TE := fun σ H Q => σ[i]? = some (some (.ref f)) ∧ ta σ H fun vs H1 => ∃ v, vs = [v] ∧ H1 c' = some (LamX.CodeO c' q) ∧ tl (fun cls d H' => W cls d σ H') v H1 Q
theorem pe_actP {X : Cx} {pins : List (Addr × Obj)} {σ : L2.St} {H : Hp} {s : Shared} {scope : Scope} {p x a : Str} {f c' g : Addr} {k i : Nat} {params : Arguments} {b e : Expr} {pm ctv cdg : Value} {tb : XK → TE} {ta : TA} {Ng : List Str} {sg : Scope} {pn : List (Addr × Obj)} {xe : Value → Shared → Prop} {W : WX} {p1 p2 : Pos}
    (I : Inv X pins σ H s) (L : LamP X.env.scope scope p) (np : ∀ (i : Nat) (v : V), X.N[i]? = some p → σ[i]? = some (some v) → False) (hf : s.heap.get? f = some (PySem.W.kla_obj "<lambda>" (X.env.qual ++ "<lambda>") params b scope (cloFrom X.env.cells scope.names []) pm c' ctv)) (hfn : H f = none) (hfr : f ∉ frs X.stack)
    (bind : ∀ u, bindArgs (PySem.W.kla_fn "<lambda>" (X.env.qual ++ "<lambda>") params b scope (cloFrom X.env.cells scope.names []) pm (.ref c') ctv) ⟨[u], []⟩ = pure [(p, u)])
    (tk : Takes ((gotCx X Ng x sg g cdg s H).tr pn xe) W) (room : Room (k + 1) (X.A.deeper (envOfC x sg s.heap.objs.size g cdg)))
    (body : ∀ (A : Around) (outer : List Env) (s : Shared) (H : Hp) (E : XK), Room k (A.deeper (LamX.lamEnv X scope s.heap.objs.size f c')) → PE (cxP X A outer s H E scope p f c') b (tb E))
    (at_ : Ng[i]? = some a) (vis : Vis sg a) (args : PA ((gotCx X Ng x sg g cdg s H).tr pn xe) [e] ta)
    (star : starEach [e] ((gotCx X Ng x sg g cdg s H).tr pn xe).env = (false, eval e ((gotCx X Ng x sg g cdg s H).tr pn xe).env) :: starEach [] ((gotCx X Ng x sg g cdg s H).tr pn xe).env := by rfl)
    (d1 : (a == ("__debug__" : Str)) = false := by decide) (d2 : (a == ("__classdict__" : Str)) = false := by decide) :
    PE ((gotCx X Ng x sg g cdg s H).tr pn xe) (.Call (.Name a p1) [e] [] p2) (tAct i f c' (X.env.qual ++ "<lambda>") ta W fun E v H1 Q => tb E (σ ++ [some v]) H1 Q) := by
  constructor
  intro pz sz σz Hz Q Iz h
  obtain ⟨slot, ht⟩ := h
  refine wpAny_Call_Name_kw (thn ((pe_var (pos := p1) (i := i) at_ vis d1 d2).run pz sz σz Hz (fun v H1 => v = .ref f ∧ H1 = Hz) Iz ⟨.ref f, slot, rfl, rfl⟩) fun u s1 z => ?_)
  obtain ⟨v0, H1, I1, r1, rfl, rfl⟩ := z
  obtain rfl : u = Value.ref f := r1
  have still : ∀ {σ' : L2.St} {H' : Hp} {s' : Shared}, Inv ((gotCx X Ng x sg g cdg s H).tr pn xe) pz σ' H' s' → s'.heap.get? f = some (PySem.W.kla_obj "<lambda>" (X.env.qual ++ "<lambda>") params b scope (cloFrom X.env.cells scope.names []) pm c' ctv) := fun J => J.base.keep f _ hf hfn hfr (fun z => nomatch z)
  refine PySem.W.callWith_F ⟨_, _, _, _, still I1⟩ (thn (args.run p2 pz s1 σz H1 _ I1 ht) fun us s2 z => ?_) star rfl
  obtain ⟨vs, H2, I2, rv, v, rfl, hc, tl⟩ := z
  obtain ⟨u, rfl, ru⟩ := vals1 rv
  have e2 : Env0 X.prog X.w X.K X.mg X.base (X.A.deeper (envOfC x sg s.heap.objs.size g cdg)) (envOfC x sg s.heap.objs.size g cdg :: X.stack) s2 H2 := I2.env0
  have un : Un (frs X.stack) [] H H2 s.heap s2.heap := I2.base
  have run := lamP_run (X := X) (E := fun cls d H' => W cls d σz H') (k := k) (u := u) (Q := Q) I L np hf hfn hfr bind room e2 un hc (fun A outer s H rm => body A outer s H _ rm) ru tl
  refine ⟨⟨_, _, _, _, still I2⟩, wpAny_call (codeAny_mono run fun res s3 z => ?_)⟩
  cases res with
  | error er => exact tk er s3 (XE.of_call I2 (fun _ _ _ w => w) z)
  | ok fl =>
    cases fl with
    | ret u' => exact I2.after z
    | next => exact (show False from z).elim
    | brk => exact (show False from z).elim
    | cont => exact (show False from z).elim
/-- what the def makes of the lambda's reading tl and of the thing v: TT -/
def GivesP (X : Cx) (k : Nat) (Ng : List Str) (x : Str) (sg : Scope) (g : Addr) (cdg : Value) (bg : List Stmt) (a : Str) (q : Str) (TT : V → (XK → V → Hp → VK → Prop) → Hp → VK → Prop) : Prop :=
  ∀ (f c' : Addr) (v : V) (s : Shared) (H : Hp) (Q : VK) (tl : XK → V → Hp → VK → Prop), Room k (X.A.deeper (envOfC x sg s.heap.objs.size g cdg)) →
    (∀ (W : WX) (pn : List (Addr × Obj)) (xe : Value → Shared → Prop) (p1 p2 : Pos) (e : Expr) (ta : TA), Takes ((gotCx X Ng x sg g cdg s H).tr pn xe) W → PA ((gotCx X Ng x sg g cdg s H).tr pn xe) [e] ta →
      starEach [e] ((gotCx X Ng x sg g cdg s H).tr pn xe).env = (false, eval e ((gotCx X Ng x sg g cdg s H).tr pn xe).env) :: starEach [] ((gotCx X Ng x sg g cdg s H).tr pn xe).env →
      PE ((gotCx X Ng x sg g cdg s H).tr pn xe) (.Call (.Name a p1) [e] [] p2) (tAct 0 f c' q ta W tl)) →
    H c' = some (LamX.CodeO c' q) → TT v tl H Q →
    ∃ t, PSs (gotCx X Ng x sg g cdg s H).nox bg t ∧ t { nx := fun _ H' => Q .non H', rt := Q } (L2.start Ng [.ref f, v]) H
/-- the lambda is made: all but the table at P is as it was -/
theorem lam_new {X : Cx} {pins : List (Addr × Obj)} {σ : L2.St} {H : Hp} {s : Shared} {c P : Addr} {params : Arguments} {b : Expr} {scope : Scope} {pos : Pos} {E Q : Value → Shared → Prop} (J : Inv X pins σ H s) (tab : LamX.TabB X.base X.mg c P) (own : X.env.code = .ref c)
    (t0 : LamX.TabS H P (X.env.qual ++ "<lambda>")) (nodef : defaultsOf params X.env = ([], [])) (has : ∀ y ∈ scope.names, y.2 = .free → ∃ c, X.env.cells.lookup y.1 = some c)
    (go : ∀ (f c' : Addr) (pm ctv : Value) (H1 : Hp) (s1 : Shared), Inv X pins σ H1 s1 → But P H H1 → LamX.TabS H1 P (X.env.qual ++ "<lambda>") → s1.heap.get? f = some (PySem.W.kla_obj "<lambda>" (X.env.qual ++ "<lambda>") params b scope (cloFrom X.env.cells scope.names []) pm c' ctv) →
      H1 f = none → f ∉ frs X.stack → H1 c' = some (LamX.CodeO c' (X.env.qual ++ "<lambda>")) → Q (.ref f) s1) : wpAny (model X.prog X.w) X.A (eval (.Lambda params b scope pos) X.env) Q E s := by
  have seen := t0
  obtain ⟨ps, atP, tri, each⟩ := seen
  have blt : s.heap.BuiltinsAt X.mg P := tab.bm.keeps J.bk
  have objP : s.heap.get? P = some { cls := .none, data := .fields ps } := J.hok P _ atP
  have far : ∀ f, s.heap.objs.size ≤ f → f ∉ frs X.stack := fun f le m => by
    rcases List.mem_cons.mp (J.stkSub _ m) with e | e
    · have lt := J.lt
      rw [← e] at lt
      exact absurd (Nat.lt_of_lt_of_le lt le) (Nat.lt_irrefl _)
    · exact J.nofs le e
  refine PySem.W.kla_eval nodef ?_
  cases found : codeAmong pos ps.toList with
  | some cv =>
    obtain ⟨c', rfl, here⟩ := each pos cv found
    refine PySem.W.kla_makeFunctionHit (P := P) (c := c) (mg := X.mg) (ps := ps) (closure_ok has) J.ok.glob (J.mod.glob.keeps J.bk) own (tab.code.keeps J.bk) objP tri found blt fun ctv h' tk kept le => ?_
    have J1 : Inv X pins σ H { s with heap := h'.push (PySem.W.kla_obj "<lambda>" (X.env.qual ++ "<lambda>") params b scope (cloFrom X.env.cells scope.names []) ((X.mg "__name__").getD .none) c' ctv), toks := tk } := J.kept fun _ _ e => Heap.get?_push_of_some _ (kept _ _ e)
    exact go _ c' _ ctv H _ J1 .refl t0 (Heap.get?_push_size _ rfl) (J.hok.fresh le) (far _ le) here
  | none =>
    refine PySem.W.kla_makeFunction (P := P) (c := c) (mg := X.mg) (ps := ps) (closure_ok has) J.ok.glob (J.mod.glob.keeps J.bk) own (tab.code.keeps J.bk) objP tri found tab.gP blt fun c' ctv h' tk kept ge lt rec_ grown => ?_
    obtain ⟨c2, oc, vs, tk2, e2, atC, dat, nm⟩ := rec_
    cases e2
    have le : s.heap.objs.size ≤ h'.objs.size := Nat.le_trans ge (Nat.le_of_lt lt)
    have newC : H c' = none := J.hok.fresh ge
    have J1 := LamX.inv_table (t' := tk) (more := #[rawInt pos.line, rawInt pos.col, .ref c']) (h' := h'.push (PySem.W.kla_obj "<lambda>" (X.env.qual ++ "<lambda>") params b scope (cloFrom X.env.cells scope.names []) ((X.mg "__name__").getD .none) c' ctv)) J atP
      (fun _ _ nb e => Heap.get?_push_of_some _ (kept _ _ nb e)) (Heap.get?_push_of_some _ grown) ge ⟨oc, vs, tk2, Heap.get?_push_of_some _ atC, dat, nm⟩
    have but : But P H (upd (upd H P (.tbl (ps ++ #[rawInt pos.line, rawInt pos.col, .ref c']))) c' (LamX.CodeO c' (X.env.qual ++ "<lambda>"))) := fun d o e n => by
      rw [upd_ne (ne_of_none e newC), upd_ne n]
      exact e
    have toL : (ps ++ #[rawInt pos.line, rawInt pos.col, .ref c']).toList = ps.toList ++ [rawInt pos.line, rawInt pos.col, .ref c'] := by simp
    have away : ∀ {d : Addr} {q : Str}, H d = some (LamX.CodeO d q) → d ≠ P := fun {d q} e z => by
      rw [z, atP] at e
      exact LamX.codeO_ne ps (Option.some.inj e).symm
    refine go h'.objs.size c' _ ctv _ _ J1 but ⟨ps ++ #[rawInt pos.line, rawInt pos.col, .ref c'], ?_, ?_, fun p' cv among => ?_⟩ (Heap.get?_push_size _ rfl) ?_ (far _ le) upd_same
    · rw [upd_ne (ne_of_none atP newC), upd_same]
    · rw [toL]
      exact PySem.TriplesOk_snoc _ _ _ _ tri
    · rw [toL] at among
      rcases LamX.among_app _ tri among with z | z
      · obtain ⟨c0, e1, e2⟩ := each p' cv z
        exact ⟨c0, e1, but _ _ e2 (away e2)⟩
      · exact ⟨c', z, upd_same⟩
    · rw [upd_ne (Nat.ne_of_gt lt), upd_ne (Nat.ne_of_gt (Nat.lt_of_lt_of_le (Heap.lt_size objP) le))]
      exact J.hok.fresh le
def tLamP (P : Addr) (qn : Str) (TT : V → (XK → V → Hp → VK → Prop) → Hp → VK → Prop) (t : XK → TE) (ta : TA) : TE := fun σ H Q => LamX.TabS H P qn ∧ ∀ H1, But P H H1 → LamX.TabS H1 P qn → ta σ H1 fun vs H2 => ∃ v, vs = [v] ∧ LamX.ExtN H1 H2 ∧ TT v (fun E v H' Q' => t E (σ ++ [some v]) H' Q') H2 Q
theorem pinned_one {X : Cx} {pins : List (Addr × Obj)} {σ : L2.St} {H : Hp} {s : Shared} {f : Addr} {o : Obj} {fd : FuncData} (I : Inv X pins σ H s) (hf : s.heap.get? f = some o) (hd : o.data = .func fd) (hn : H f = none) (hfr : f ∉ frs X.stack) : Inv X ((f, o) :: pins) σ H s := by
  refine ⟨I.ok, I.os, I.bare, I.base, I.loc, I.cell, I.free, I.freeC, fun q hq => ?_, I.hok, I.len⟩
  rcases List.mem_append.mp hq with z | z
  · exact I.pin q (List.mem_append_left _ z)
  · rcases List.mem_cons.mp z with e | z
    · subst e
      refine ⟨hf, hn, fun e => ?_, fun m => hfr ?_, fun v e => ?_⟩
      · obtain ⟨m, ⟨ol, es, ep, el, dl, _⟩, _⟩ := I.loc
        have e' : f = X.env.locals := e
        rw [← e', hf] at el
        cases el
        rw [hd] at dl
        cases dl
      · rcases I.ok.stk with st | ⟨st, _⟩
        · rw [st]
          exact m
        · rw [st]
          obtain ⟨e1, m1, m2⟩ := List.mem_filterMap.mp m
          exact List.mem_filterMap.mpr ⟨e1, List.mem_cons_of_mem _ m1, m2⟩
      · have e' : o.data = .cell v := e
        rw [hd] at e'
        cases e'
    · exact I.pin q (List.mem_append_right _ z)
theorem unpin_one {X : Cx} {pins : List (Addr × Obj)} {σ : L2.St} {H : Hp} {s : Shared} {q : Addr × Obj} (I : Inv X (q :: pins) σ H s) : Inv X pins σ H s := by
  refine ⟨I.ok, I.os, I.bare, I.base, I.loc, I.cell, I.free, I.freeC, fun z hz => I.pin z ?_, I.hok, I.len⟩
  rcases List.mem_append.mp hz with m | m
  · exact List.mem_append_left _ m
  · exact List.mem_append_right _ (List.mem_cons_of_mem _ m)
/-- x(lambda p: b, e) -/
theorem pe_lamP {X : Cx} {TT : V → (XK → V → Hp → VK → Prop) → Hp → VK → Prop} {x a a2 p : Str} {g c P : Addr} {k : Nat} {pg : Arguments} {bg : List Stmt} {sg : Scope} {dV kV doc pm cdv ct oc : Value} {an od : Option Addr} {osl : Array (Option Value)} {Ng : List Str} {params : Arguments} {b e : Expr} {scope : Scope} {t : XK → TE} {ta : TA} {pp lpos pos : Pos}
    (gl : Gl X x) (mg : X.mg x = some (.ref g)) (keep : PySem.W.keepIn X.K (.ref g) = true) (look : X.K.lookup g = some ⟨oc, od, .func (PySem.W.fnOf x x pg bg sg dV kV doc pm an cdv ct), osl⟩) (code : PySem.W.codeIn X.K cdv x = true)
    (binds : L2.Binds X.K (PySem.W.fnOf x x pg bg sg dV kV doc pm an cdv ct) [a, a2] []) (S : FnScope Ng [a, a2] sg) (at0 : Ng[0]? = some a) (vis : Vis sg a) (gives : GivesP X (k + 1) Ng x sg g cdv bg a (X.env.qual ++ "<lambda>") TT)
    (TB : LamX.TabB X.base X.mg c P) (own : X.env.code = .ref c) (room : Room (k + 2) X.A) (L : LamP X.env.scope scope p) (np : p ∉ X.N) (nodef : defaultsOf params X.env = ([], []))
    (bind : ∀ (q : Str) (cl : List (Str × Addr)) (pm cv ctv u : Value), bindArgs (PySem.W.kla_fn "<lambda>" q params b scope cl pm cv ctv) ⟨[u], []⟩ = pure [(p, u)])
    (body : ∀ (A : Around) (outer : List Env) (s : Shared) (H : Hp) (E : XK) (f c' : Addr), Room k (A.deeper (LamX.lamEnv X scope s.heap.objs.size f c')) → PE (cxP X A outer s H E scope p f c') b (t E)) (args : PA X [e] ta)
    (star : starEach (.Lambda params b scope lpos :: [e]) X.env = (false, eval (.Lambda params b scope lpos) X.env) :: starEach [e] X.env := by rfl) (plain : (backTo pos (starEach [e] X.env)).any (·.1) = false := by rfl)
    (d0 : (x == ("__debug__" : Str)) = false := by decide) (d1 : (a == ("__debug__" : Str)) = false := by decide) (d2 : (a == ("__classdict__" : Str)) = false := by decide) :
    PE X (.Call (.Name x pp) [.Lambda params b scope lpos, e] [] pos) (tLamP P (X.env.qual ++ "<lambda>") TT t ta) := by
  constructor
  intro pins s σ H Q I h
  obtain ⟨hT, h⟩ := h
  refine wpAny_Call_Name_kw (ld_glob I gl mg ?_ d0)
  refine PySem.W.callWith_K (h₀ := X.base) I.ok.mod.kin keep ?_ star plain
  rw [star]
  show wpAny _ _ (spliced ((false, eval (.Lambda params b scope lpos) X.env) :: backTo pos (starEach [e] X.env))) _ _ s
  refine Calls.spliced_cons (lam_new I TB own hT nodef (fun y hy z => L.has I.ok hy z) fun f c' pm' ctv H1 s1 I1 ext T1 hf hfn hfr hco => ?_)
  have Ip := pinned_one I1 hf rfl hfn hfr
  refine thn (args.run pos _ s1 σ H1 _ Ip (h H1 ext T1)) fun us s2 z => ?_
  obtain ⟨vs, H2, I2, rv, v, rfl, ext2, tt⟩ := z
  obtain ⟨u, rfl, ru⟩ := vals1 rv
  have f2 := I2.pin (f, _) (List.mem_append_right _ List.mem_cons_self)
  have co2 : H2 c' = some (LamX.CodeO c' (X.env.qual ++ "<lambda>")) := ext2 _ _ hco (LamX.codeO_ne)
  refine ⟨I2.kIn, ?_⟩
  have run : codeAny (model X.prog X.w) X.A (.call (.ref g) ⟨[.ref f, u], []⟩) (CR CX0 X.stack X.prog X.w H2 s2 Q E0) s2 := by
    refine LamX.run_ofS (N := Ng) (ps := [a, a2]) (us := [.ref f, u]) (vs := [.ref f, v]) look code S room I2.env0 (binds s2 [.ref f, u] I2.kIn rfl) (.cons rfl (.cons ru .nil)) rfl fun hr' => ?_
    obtain ⟨t', ht', q'⟩ := gives f c' v s2 H2 Q (fun E v H' Q' => t E (σ ++ [some v]) H' Q') hr' (fun W pn xe p1 p2 e ta tk args star => pe_actP (k := k) I2 L (fun i v e _ => np (List.mem_of_getElem? e)) f2.1 f2.2.1 hfr (fun u => bind _ _ _ _ _ u) tk hr' (fun A outer s H E rm => body A outer s H E f c' rm) at0 vis args star d1 d2) co2 tt
    exact ⟨t', ht'.nox, q'⟩
  refine wpAny_call (codeAny_mono run fun res s3 z => ?_)
  cases res with
  | error er => exact (show False from z).elim
  | ok fl =>
    cases fl with
    | ret u' =>
      obtain ⟨v', H', J, r', q'⟩ := I2.after z
      exact ⟨v', H', unpin_one J, r', q'⟩
    | next => exact (show False from z).elim
    | brk => exact (show False from z).elim
    | cont => exact (show False from z).elim
/-- the same by the def's own facts -/
theorem pe_lamF {X : Cx} {TT : V → (XK → V → Hp → VK → Prop) → Hp → VK → Prop} {x a a2 p : Str} {g c P : Addr} {k : Nat} {st : Stmt} {fd : FuncData} {Ng : List Str} {params : Arguments} {b e : Expr} {scope : Scope} {t : XK → TE} {ta : TA} {pp lpos pos : Pos}
    (gl : Gl X x) (mg : X.mg x = some (.ref g)) (F : Fun X.K x x st g fd) (binds : L2.Binds X.K fd [a, a2] []) (S : FnScope Ng [a, a2] (defScope st)) (at0 : Ng[0]? = some a) (vis : Vis (defScope st) a) (gives : ∀ cdg, GivesP X (k + 1) Ng x (defScope st) g cdg (defBody st) a (X.env.qual ++ "<lambda>") TT)
    (TB : LamX.TabB X.base X.mg c P) (own : X.env.code = .ref c) (room : Room (k + 2) X.A) (L : LamP X.env.scope scope p) (np : p ∉ X.N) (nodef : defaultsOf params X.env = ([], []))
    (bind : ∀ (q : Str) (cl : List (Str × Addr)) (pm cv ctv u : Value), bindArgs (PySem.W.kla_fn "<lambda>" q params b scope cl pm cv ctv) ⟨[u], []⟩ = pure [(p, u)])
    (body : ∀ (A : Around) (outer : List Env) (s : Shared) (H : Hp) (E : XK) (f c' : Addr), Room k (A.deeper (LamX.lamEnv X scope s.heap.objs.size f c')) → PE (cxP X A outer s H E scope p f c') b (t E)) (args : PA X [e] ta)
    (star : starEach (.Lambda params b scope lpos :: [e]) X.env = (false, eval (.Lambda params b scope lpos) X.env) :: starEach [e] X.env := by rfl) (plain : (backTo pos (starEach [e] X.env)).any (·.1) = false := by rfl)
    (d0 : (x == ("__debug__" : Str)) = false := by decide) (d1 : (a == ("__debug__" : Str)) = false := by decide) (d2 : (a == ("__classdict__" : Str)) = false := by decide) :
    PE X (.Call (.Name x pp) [.Lambda params b scope lpos, e] [] pos) (tLamP P (X.env.qual ++ "<lambda>") TT t ta) := by
  have keep := F.kp
  obtain ⟨oc, od, kV, doc, pm, an, cdv, ct, osl, rfl, lk, hcd⟩ := F.ex
  exact pe_lamP gl mg keep lk hcd binds S at0 vis (gives cdv) TB own room L np nodef bind body args star plain d0 d1 d2

/-! ### a law called from the caller itself: nothing is shown around it -/
/-- at the law's call: its tables are empty, the script is frozen (or known by K) -/
def lawH (K : PySem.W.Frag) (cs : List (Addr × Addr)) (a : Addr) (o : Obj) (ns : List Int) : Hp := fun b => if b ∈ cs.map (·.2) then some (.tbl #[]) else if b = a ∧ K.lookup a = none then some (.frz o (.lst (ns.map V.int))) else none
theorem lawH_some {K : PySem.W.Frag} {cs : List (Addr × Addr)} {a b : Addr} {o : Obj} {ns : List Int} {u : HO} (h : lawH K cs a o ns b = some u) : (b ∈ cs.map (·.2) ∧ u = .tbl #[]) ∨ (b = a ∧ K.lookup a = none ∧ u = .frz o (.lst (ns.map V.int))) := by
  unfold lawH at h
  split at h
  · rename_i m
    exact .inl ⟨m, (Option.some.inj h).symm⟩
  · split at h
    · rename_i m
      exact .inr ⟨m.1, m.2, (Option.some.inj h).symm⟩
    · cases h
theorem call_law {P : Program} {w : World} {K : PySem.W.Frag} {mg mb : Str → Option Value} {fa a : Addr} {cs : List (Addr × Addr)} {s : Shared} {vs : List Value} {ns : List Int} (kin : K.In s.heap) (gl : s.heap.Ns mainGlobals mg) (bi : s.heap.Ns builtinsNs mb)
    (boot : ∀ x : Str, x ≠ "__name__" → mb x = bootBuiltins x) (lim : s.heap.NoLimit) (gens : s.gens = #[]) (tabs : ∀ p ∈ cs, s.heap.get? p.2 = some { cls := .none, data := .fields #[] }) (away : ∀ p ∈ cs, K.lookup p.2 = none) (code : ∀ p ∈ cs, PySem.W.CodeHd s.heap p.1 p.2)
    (bm : ∃ (bm : Addr) (ob : Obj), mg "__builtins__" = some (.ref bm) ∧ bm ≠ builtinsNs ∧ s.heap.get? bm = some ob ∧ ob.cls = .type "module" ∧ ob.dict = some builtinsNs ∧ ob.data = .plain) (scr : s.heap.get? a = some { cls := .type "list", data := .seq vs.toArray }) (iar : IntsAre vs ns) (len : ns.length ≤ sizeLine)
    (run : ∀ (base : Heap) (H : Hp), (∀ p ∈ cs, LamX.TabB base mg p.1 p.2) → Env0 P w K mg base callerA [] s H → (∀ p ∈ cs, H p.2 = some (.tbl #[])) → SqL K H a (ns.map V.int) →
      codeAny (model P w) callerA (.call (.ref fa) ⟨[.ref a], []⟩) (CR CX0 [] P w H s (fun v _ => v = .bl true) E0) s) :
    codeAny (model P w) callerA (.call (.ref fa) ⟨[.ref a], []⟩) (fun r s' => r = .ok (.ret (.bool true)) ∧ OldK s.heap s'.heap ∧ s'.os = s.os ∧ AllBare s'.gens) s := by
  have rel := vals_ints iar
  have tabAt : ∀ {b : Addr}, b ∈ cs.map (·.2) → s.heap.get? b = some { cls := .none, data := .fields #[] } := fun {b} m => by
    obtain ⟨p, hp, rfl⟩ := List.mem_map.mp m
    exact tabs p hp
  have notTab : a ∉ cs.map (·.2) := fun m => by
    have z := (tabAt m).symm.trans scr
    have z2 := congrArg Obj.data (Option.some.inj z)
    cases z2
  generalize hH : lawH K cs a { cls := .type "list", data := .seq vs.toArray } ns = H
  have some_ : ∀ {b : Addr} {u : HO}, H b = some u → (b ∈ cs.map (·.2) ∧ u = .tbl #[]) ∨ (b = a ∧ K.lookup a = none ∧ u = .frz { cls := .type "list", data := .seq vs.toArray } (.lst (ns.map V.int))) := fun {b u} e => by
    rw [← hH] at e
    exact lawH_some e
  have tabH : ∀ p ∈ cs, H p.2 = some (.tbl #[]) := fun p hp => by
    rw [← hH]
    exact if_pos (List.mem_map.mpr ⟨p, hp, rfl⟩)
  -- what is neither a list nor an empty table isn't tracked
  have loose : ∀ {b : Addr} {ob : Obj}, s.heap.get? b = some ob → (∀ xs n, ob.data ≠ .seq xs n) → ob.data ≠ .fields #[] → H b = none := fun {b ob} e n1 n2 => by
    cases q : H b with
    | none => rfl
    | some u =>
      rcases some_ q with ⟨m, _⟩ | ⟨rfl, _⟩
      · rw [tabAt m] at e
        cases e
        exact absurd rfl n2
      · rw [scr] at e
        cases e
        exact absurd rfl (n1 _ _)
  have nsOn : ∀ {b : Addr} {m : Str → Option Value}, s.heap.Ns b m → (hidT s.heap H).Ns b m := fun {b m} z => by
    obtain ⟨o, es, ep, e, d, r⟩ := z
    refine ⟨o, es, ep, hidT_get e (loose e (fun _ _ q => ?_) fun q => ?_), d, r⟩
    · rw [d] at q
      cases q
    · rw [d] at q
      cases q
  have kin' : K.In (hidT s.heap H) := fun b o e => hidT_get (kin b o e) (by
    cases q : H b with
    | none => rfl
    | some u =>
      rcases some_ q with ⟨m, _⟩ | ⟨rfl, n, _⟩
      · obtain ⟨p, hp, rfl⟩ := List.mem_map.mp m
        rw [away p hp] at e
        cases e
      · rw [n] at e
        cases e)
  have hok : HOk P w H s.heap := fun b u e => by
    rcases some_ e with ⟨m, rfl⟩ | ⟨rfl, _, rfl⟩
    · exact tabAt m
    · exact ⟨scr, by rw [List.length_map]; exact len, vs, _, rel, scr⟩
  have sq : SqL K H a (ns.map V.int) := by
    cases q : K.lookup a with
    | none =>
      refine .inl (.inr ⟨{ cls := .type "list", data := .seq vs.toArray }, ?_⟩)
      rw [← hH]
      exact (if_neg notTab).trans (if_pos ⟨rfl, q⟩)
    | some o =>
      have e := kin a o q
      rw [scr] at e
      cases e
      exact .inr ⟨_, vs.toArray, _, q, rfl, rfl, rfl, by rw [List.size_toArray, iar.length]; exact len, rel⟩
  have tb : ∀ p ∈ cs, LamX.TabB (hidT s.heap H) mg p.1 p.2 := fun p hp => by
    have pt := tabs p hp
    refine ⟨?_, ?_, fun e => ?_⟩
    · obtain ⟨o, us, fl, tf, fg, tg, iF, tx, tt, g1, g2, g3, g4, g5⟩ := code p hp
      refine ⟨o, us, fl, tf, fg, tg, iF, tx, tt, hidT_get g1 (loose g1 (fun _ _ q => ?_) fun q => ?_), g2, g3, g4, g5⟩
      · rw [g3] at q
        cases q
      · rw [g3] at q
        cases q
        simp at g4
    · obtain ⟨b, ob, m1, m2, m3, m4, m5, m6⟩ := bm
      refine ⟨b, ob, m1, m2, fun e => ?_, fun e => ?_, hidT_get m3 (loose m3 (fun _ _ q => ?_) fun q => ?_), m4, m5, m6⟩
      · obtain ⟨o, es, ep, e1, d1, _⟩ := gl
        rw [e, e1] at m3
        cases m3
        rw [d1] at m6
        cases m6
      · rw [e, pt] at m3
        cases m3
        cases m6
      · rw [m6] at q
        cases q
      · rw [m6] at q
        cases q
    · obtain ⟨o, es, ep, e1, d1, _⟩ := gl
      rw [e, pt] at e1
      cases e1
      cases d1
  have limOn : (hidT s.heap H).NoLimit := by
    obtain ⟨mc, l1, l2⟩ := lim
    exact ⟨mc, nsOn l1, l2⟩
  have env : Env0 P w K mg (hidT s.heap H) callerA [] s H := ⟨rfl, ⟨kin', nsOn gl, ⟨mb, nsOn bi, boot⟩, limOn⟩, fun b o e => of_hidT e, Nat.le_of_eq (hidT_size _ _), trivial, fun b hb => absurd (show b ∈ ([] : List Addr) from hb) List.not_mem_nil, hok, .of_eq gens⟩
  refine codeAny_mono (run _ H tb env tabH sq) fun r s' z => ?_
  cases r with
  | error e => exact (show False from z).elim
  | ok fl =>
    cases fl with
    | next => exact (show False from z).elim
    | brk => exact (show False from z).elim
    | cont => exact (show False from z).elim
    | ret u =>
      obtain ⟨v, H', os, bare, un, hok', rv, ev⟩ := z
      have ev : v = .bl true := ev
      subst ev
      obtain rfl : u = Value.bool true := rv
      have grown : ∀ p ∈ cs, ∃ more : Array Value, s'.heap.get? p.2 = some { cls := .none, data := .fields more } := fun p hp => by
        obtain ⟨more, q⟩ := un.tbls p.2 #[] (tabH p hp)
        exact ⟨_, hok' p.2 _ q⟩
      have stays : ∀ b o, b ∉ cs.map (·.2) → s.heap.get? b = some o → s'.heap.get? b = some o := fun b o nb e => by
        cases q : H b with
        | none => exact un.keep b o e q (fun z => absurd (show b ∈ ([] : List Addr) from z) List.not_mem_nil) List.not_mem_nil
        | some u =>
          rcases some_ q with ⟨m, _⟩ | ⟨_, _, rfl⟩
          · exact absurd m nb
          · have e1 := (hok b _ q).1
            have e2 := (hok' b _ (un.frzs b _ _ q)).1
            rw [e] at e1
            rw [Option.some.inj e1]
            exact e2
      refine ⟨rfl, ⟨fun b o e => ?_, fun b o e => ?_⟩, os, bare⟩
      · by_cases m : b ∈ cs.map (·.2)
        · obtain ⟨p, hp, rfl⟩ := List.mem_map.mp m
          obtain ⟨more, hm⟩ := grown p hp
          rw [tabs p hp] at e
          cases e
          exact .inr (.inl ⟨((code p hp).tab (tabs p hp)).isCodeTable, rfl, #[], more, rfl, by rw [Array.empty_append]; exact hm⟩)
        · exact .inl (stays b o m e)
      · by_cases m : b ∈ cs.map (·.2)
        · obtain ⟨p, hp, rfl⟩ := List.mem_map.mp m
          obtain ⟨more, hm⟩ := grown p hp
          exact ⟨_, hm⟩
        · exact ⟨o, stays b o m e⟩
theorem walk_law0 {l : PySem.W.OpenLaw} {most : Nat} {prog : Program} {lo : List Str} {XP : (Str → Option Value) → Heap → Prop} {YP : World → Heap → Prop} {df : DefRec} {K : Params → PySem.W.Frag} (names : List Str)
    (h1 : l.most = some most) (h2 : most ≤ sizeLine) (h3 : df.params.defaults = []) (recs : (names.all fun nm => (recsOf prog).any fun r => r.name == nm) = true) (kin : ∀ (w : World) (h : Heap), YP w h → (K w.params).In h)
    (at_ : ∀ (w : World) (mg : Str → Option Value) (fa : Addr) (h : Heap), (K w.params).In h → h.Ns mainGlobals mg → mg df.name = some (.ref fa) → (∀ nm ∈ names, TabAt mg h nm) →
      ∃ cs : List (Addr × Addr), (∀ p ∈ cs, h.get? p.2 = some { cls := .none, data := .fields #[] }) ∧ (∀ p ∈ cs, (K w.params).lookup p.2 = none) ∧ (∀ p ∈ cs, PySem.W.CodeHd h p.1 p.2) ∧
        ∀ (s : Shared) (H : Hp) (base : Heap) (a : Addr) (ns : List Int), ns.length ≤ most → (∀ z ∈ ns, Builtin.Int.intBits z ≤ 1048576) → (∀ p ∈ cs, LamX.TabB base mg p.1 p.2) → Env0 l.prog w (K w.params) mg base callerA [] s H → (∀ p ∈ cs, H p.2 = some (.tbl #[])) → SqL (K w.params) H a (ns.map V.int) →
          codeAny (model l.prog w) callerA (.call (.ref fa) ⟨[.ref a], []⟩) (CR CX0 [] l.prog w H s (fun v _ => v = .bl true) E0) s) :
    PySem.W.WalkO prog lo XP YP l.row.toRowW df [] (fun f vs => PySem.call f vs) := by
  refine Att.attach_callB h1 h3 fun w s0 s mg mb fa o pm cd doc a vs ns Gr Y _ _ _ name ob iar len bits gens => ?_
  have tabs : ∀ nm ∈ names, TabAt mg s.heap nm := fun nm hm => by
    obtain ⟨r, hr, er⟩ := List.any_eq_true.mp (List.all_eq_true.mp recs nm hm)
    obtain ⟨x1, x2, x3, x4, x5, y1, y2, y3, y4, _, y6⟩ := Gr.T.tab r hr
    rw [beq_iff_eq.mp er] at y1
    exact ⟨x1, x2, x3, x4, x5, y1, y2, y3, y4, y6⟩
  obtain ⟨cs, t1, t2, t3, go⟩ := at_ w mg fa _ (kin w _ Y) Gr.T.g name tabs
  exact call_law (kin w _ Y) Gr.T.g Gr.T.b Gr.T.builtins Gr.T.nolimit gens t1 t2 t3 Gr.T.bmain ob iar (Nat.le_trans len h2) fun base H tb e0 th sq => go s H base a ns len bits tb e0 th sq

end My
namespace My
open PySem PySem.Spec PyProof.Rows L2
/-! ### a lambda given as the second thing: x(e, lambda p: b) -/
/-- what the def makes of the thing v and of the lambda's reading tl: TT -/
def GivesP2 (X : Cx) (k : Nat) (Ng : List Str) (x : Str) (sg : Scope) (g : Addr) (cdg : Value) (bg : List Stmt) (a : Str) (q : Str) (TT : V → (XK → V → Hp → VK → Prop) → Hp → VK → Prop) : Prop :=
  ∀ (f c' : Addr) (v : V) (s : Shared) (H : Hp) (Q : VK) (tl : XK → V → Hp → VK → Prop), Room k (X.A.deeper (envOfC x sg s.heap.objs.size g cdg)) →
    (∀ (W : WX) (pn : List (Addr × Obj)) (xe : Value → Shared → Prop) (p1 p2 : Pos) (e : Expr) (ta : TA), Takes ((gotCx X Ng x sg g cdg s H).tr pn xe) W → PA ((gotCx X Ng x sg g cdg s H).tr pn xe) [e] ta →
      starEach [e] ((gotCx X Ng x sg g cdg s H).tr pn xe).env = (false, eval e ((gotCx X Ng x sg g cdg s H).tr pn xe).env) :: starEach [] ((gotCx X Ng x sg g cdg s H).tr pn xe).env →
      PE ((gotCx X Ng x sg g cdg s H).tr pn xe) (.Call (.Name a p1) [e] [] p2) (tAct 1 f c' q ta W tl)) →
    H c' = some (LamX.CodeO c' q) → TT v tl H Q →
    ∃ t, PSs (gotCx X Ng x sg g cdg s H).nox bg t ∧ t { nx := fun _ H' => Q .non H', rt := Q } (L2.start Ng [v, .ref f]) H
/-- nothing stands in a slot of this name -/
def NoVal (p : Str) : List Str → L2.St → Prop
  | x :: N, o :: σ => (x = p → o = none) ∧ NoVal p N σ
  | _, _ => True
theorem NoVal.at {p : Str} : ∀ {N : List Str} {σ : L2.St}, NoVal p N σ → ∀ (i : Nat) (v : V), N[i]? = some p → σ[i]? = some (some v) → False
  | [], _, _, i, v, e, _ => by cases i <;> cases e
  | _ :: _, [], _, i, v, _, e => by cases i <;> cases e
  | x :: N, o :: σ, h, 0, v, e1, e2 => by
    have e1 : x = p := Option.some.inj e1
    have e2 : o = some v := Option.some.inj e2
    rw [h.1 e1] at e2
    cases e2
  | x :: N, o :: σ, h, i + 1, v, e1, e2 => NoVal.at (N := N) (σ := σ) h.2 i v e1 e2
def tLamP2 (N : List Str) (p : Str) (P : Addr) (qn : Str) (TT : V → (XK → V → Hp → VK → Prop) → Hp → VK → Prop) (t : XK → TE) (te : TE) : TE := fun σ H Q => NoVal p N σ ∧ te σ H fun v H1 => LamX.TabS H1 P qn ∧ ∀ H2, But P H1 H2 → LamX.TabS H2 P qn → TT v (fun E v H' Q' => t E (σ ++ [some v]) H' Q') H2 Q
theorem pe_lamP2 {X : Cx} {TT : V → (XK → V → Hp → VK → Prop) → Hp → VK → Prop} {x a a1 p : Str} {g c P : Addr} {k : Nat} {pg : Arguments} {bg : List Stmt} {sg : Scope} {dV kV doc pm cdv ct oc : Value} {an od : Option Addr} {osl : Array (Option Value)} {Ng : List Str} {params : Arguments} {b e : Expr} {scope : Scope} {t : XK → TE} {te : TE} {pp lpos pos : Pos}
    (gl : Gl X x) (mg : X.mg x = some (.ref g)) (keep : PySem.W.keepIn X.K (.ref g) = true) (look : X.K.lookup g = some ⟨oc, od, .func (PySem.W.fnOf x x pg bg sg dV kV doc pm an cdv ct), osl⟩) (code : PySem.W.codeIn X.K cdv x = true)
    (binds : L2.Binds X.K (PySem.W.fnOf x x pg bg sg dV kV doc pm an cdv ct) [a1, a] []) (S : FnScope Ng [a1, a] sg) (at1 : Ng[1]? = some a) (vis : Vis sg a) (gives : GivesP2 X (k + 1) Ng x sg g cdv bg a (X.env.qual ++ "<lambda>") TT)
    (TB : LamX.TabB X.base X.mg c P) (own : X.env.code = .ref c) (room : Room (k + 2) X.A) (L : LamP X.env.scope scope p) (nodef : defaultsOf params X.env = ([], []))
    (bind : ∀ (q : Str) (cl : List (Str × Addr)) (pm cv ctv u : Value), bindArgs (PySem.W.kla_fn "<lambda>" q params b scope cl pm cv ctv) ⟨[u], []⟩ = pure [(p, u)])
    (body : ∀ (A : Around) (outer : List Env) (s : Shared) (H : Hp) (E : XK) (f c' : Addr), Room k (A.deeper (LamX.lamEnv X scope s.heap.objs.size f c')) → PE (cxP X A outer s H E scope p f c') b (t E)) (arg : PE X e te)
    (star : starEach (e :: [.Lambda params b scope lpos]) X.env = (false, eval e X.env) :: starEach [.Lambda params b scope lpos] X.env := by rfl) (star2 : starEach [.Lambda params b scope lpos] X.env = (false, eval (.Lambda params b scope lpos) X.env) :: starEach [] X.env := by rfl) (plain : (backTo pos (starEach [.Lambda params b scope lpos] X.env)).any (·.1) = false := by rfl)
    (d0 : (x == ("__debug__" : Str)) = false := by decide) (d1 : (a == ("__debug__" : Str)) = false := by decide) (d2 : (a == ("__classdict__" : Str)) = false := by decide) :
    PE X (.Call (.Name x pp) [e, .Lambda params b scope lpos] [] pos) (tLamP2 X.N p P (X.env.qual ++ "<lambda>") TT t te) := by
  constructor
  intro pins s σ H Q I h
  obtain ⟨np, h⟩ := h
  refine wpAny_Call_Name_kw (ld_glob I gl mg ?_ d0)
  refine PySem.W.callWith_K (h₀ := X.base) I.ok.mod.kin keep ?_ star plain
  rw [star]
  show wpAny _ _ (spliced ((false, eval e X.env) :: backTo pos (starEach [.Lambda params b scope lpos] X.env))) _ _ s
  refine Calls.spliced_cons (thn (arg.run pins s σ H _ I h) fun u s1 z => ?_)
  obtain ⟨v, H1, I1, ru, hT, h1⟩ := z
  rw [star2]
  show wpAny _ _ (spliced ((false, eval (.Lambda params b scope lpos) X.env) :: backTo pos (starEach [] X.env))) _ _ s1
  refine Calls.spliced_cons (lam_new I1 TB own hT nodef (fun y hy z => L.has I1.ok hy z) fun f c' pm' ctv H2 s2 I2 ext T2 hf hfn hfr hco => ?_)
  refine Calls.spliced_nil ?_
  have tt := h1 H2 ext T2
  refine ⟨I2.kIn, ?_⟩
  have run : codeAny (model X.prog X.w) X.A (.call (.ref g) ⟨[u, .ref f], []⟩) (CR CX0 X.stack X.prog X.w H2 s2 Q E0) s2 := by
    refine LamX.run_ofS (N := Ng) (ps := [a1, a]) (us := [u, .ref f]) (vs := [v, .ref f]) look code S room I2.env0 (binds s2 [u, .ref f] I2.kIn rfl) (.cons ru (.cons rfl .nil)) rfl fun hr' => ?_
    obtain ⟨t', ht', q'⟩ := gives f c' v s2 H2 Q (fun E v H' Q' => t E (σ ++ [some v]) H' Q') hr' (fun W pn xe p1 p2 e ta tk args star => pe_actP (k := k) I2 L (NoVal.at np) hf hfn hfr (fun u => bind _ _ _ _ _ u) tk hr' (fun A outer s H E rm => body A outer s H E f c' rm) at1 vis args star d1 d2) hco tt
    exact ⟨t', ht'.nox, q'⟩
  refine wpAny_call (codeAny_mono run fun res s3 z => ?_)
  cases res with
  | error er => exact (show False from z).elim
  | ok fl =>
    cases fl with
    | ret u' => exact I2.after z
    | next => exact (show False from z).elim
    | brk => exact (show False from z).elim
    | cont => exact (show False from z).elim
theorem pe_lamF2 {X : Cx} {TT : V → (XK → V → Hp → VK → Prop) → Hp → VK → Prop} {x a a1 p : Str} {g c P : Addr} {k : Nat} {st : Stmt} {fd : FuncData} {Ng : List Str} {params : Arguments} {b e : Expr} {scope : Scope} {t : XK → TE} {te : TE} {pp lpos pos : Pos}
    (gl : Gl X x) (mg : X.mg x = some (.ref g)) (F : Fun X.K x x st g fd) (binds : L2.Binds X.K fd [a1, a] []) (S : FnScope Ng [a1, a] (defScope st)) (at1 : Ng[1]? = some a) (vis : Vis (defScope st) a) (gives : ∀ cdg, GivesP2 X (k + 1) Ng x (defScope st) g cdg (defBody st) a (X.env.qual ++ "<lambda>") TT)
    (TB : LamX.TabB X.base X.mg c P) (own : X.env.code = .ref c) (room : Room (k + 2) X.A) (L : LamP X.env.scope scope p) (nodef : defaultsOf params X.env = ([], []))
    (bind : ∀ (q : Str) (cl : List (Str × Addr)) (pm cv ctv u : Value), bindArgs (PySem.W.kla_fn "<lambda>" q params b scope cl pm cv ctv) ⟨[u], []⟩ = pure [(p, u)])
    (body : ∀ (A : Around) (outer : List Env) (s : Shared) (H : Hp) (E : XK) (f c' : Addr), Room k (A.deeper (LamX.lamEnv X scope s.heap.objs.size f c')) → PE (cxP X A outer s H E scope p f c') b (t E)) (arg : PE X e te)
    (star : starEach (e :: [.Lambda params b scope lpos]) X.env = (false, eval e X.env) :: starEach [.Lambda params b scope lpos] X.env := by rfl) (star2 : starEach [.Lambda params b scope lpos] X.env = (false, eval (.Lambda params b scope lpos) X.env) :: starEach [] X.env := by rfl) (plain : (backTo pos (starEach [.Lambda params b scope lpos] X.env)).any (·.1) = false := by rfl)
    (d0 : (x == ("__debug__" : Str)) = false := by decide) (d1 : (a == ("__debug__" : Str)) = false := by decide) (d2 : (a == ("__classdict__" : Str)) = false := by decide) :
    PE X (.Call (.Name x pp) [e, .Lambda params b scope lpos] [] pos) (tLamP2 X.N p P (X.env.qual ++ "<lambda>") TT t te) := by
  have keep := F.kp
  obtain ⟨oc, od, kV, doc, pm, an, cdv, ct, osl, rfl, lk, hcd⟩ := F.ex
  exact pe_lamP2 gl mg keep lk hcd binds S at1 vis (gives cdv) TB own room L nodef bind body arg star star2 plain d0 d1 d2

end My
namespace My
open PySem PySem.Spec PyProof.Rows L2
/-! ### tuple(x for x in t if x != y) -/
mutual
theorem reads_on {h h' : Heap} (up : ∀ b o, (o.cls = .type "list" ∨ o.cls = .type "tuple" ∨ o.cls = .type "dict") → h.get? b = some o → h'.get? b = some o) : ∀ {v : Value} {d : PyData} {as : List Addr}, Reads h v d as → Reads h' v d as
  | _, _, _, .none => .none
  | _, _, _, .bool b => .bool b
  | _, _, _, .int i t => .int i t
  | _, _, _, .str x t => .str x t
  | _, _, _, .list z1 z2 z3 z4 => .list (up _ _ (.inl z2) z1) z2 z3 (readsAll_on up z4)
  | _, _, _, .tuple z1 z2 z3 z4 => .tuple (up _ _ (.inr (.inl z2)) z1) z2 z3 (readsAll_on up z4)
  | _, _, _, .dict z1 z2 z3 z4 z5 => .dict (up _ _ (.inr (.inr z2)) z1) z2 z3 (readsAll_on up z4) (readsAll_on up z5)
theorem readsAll_on {h h' : Heap} (up : ∀ b o, (o.cls = .type "list" ∨ o.cls = .type "tuple" ∨ o.cls = .type "dict") → h.get? b = some o → h'.get? b = some o) : ∀ {vs : List Value} {ds : List PyData} {as : List Addr}, ReadsAll h vs ds as → ReadsAll h' vs ds as
  | _, _, _, .nil => .nil
  | _, _, _, .cons z1 z2 => .cons (reads_on up z1) (readsAll_on up z2)
end
theorem readsAll_at {h : Heap} : ∀ {vs : List Value} {ds : List PyData} {as : List Addr}, ReadsAll h vs ds as → ∀ {i : Nat} {v : Value}, vs[i]? = some v → ∃ d bs, ds[i]? = some d ∧ Reads h v d bs
  | _, _, _, .nil, i, v, e => by cases i <;> cases e
  | _, _, _, .cons (d := d) z1 z2, 0, v, e => by
    obtain rfl := Option.some.inj e
    exact ⟨d, _, rfl, z1⟩
  | _, _, _, .cons z1 z2, i + 1, v, e => readsAll_at z2 (i := i) e
theorem readsAll_len {h : Heap} : ∀ {vs : List Value} {ds : List PyData} {as : List Addr}, ReadsAll h vs ds as → vs.length = ds.length
  | _, _, _, .nil => rfl
  | _, _, _, .cons _ z2 => congrArg (· + 1) (readsAll_len z2)
/-- those whose turn it is -/
def keepB {α : Type} : List Bool → List α → List α
  | b :: bs, x :: xs => if b = true then x :: keepB bs xs else keepB bs xs
  | _, _ => []
theorem keep_vals : ∀ {bs : List Bool} {xs : List V} {us : List Value}, Vals xs us → Vals (keepB bs xs) (keepB bs us)
  | [], _, _, _ => by
    unfold keepB
    exact .nil
  | _ :: _, _, _, .nil => .nil
  | b :: bs, _, _, .cons h1 h2 => by
    unfold keepB
    split
    · exact .cons h1 (keep_vals h2)
    · exact keep_vals h2
theorem keep_len {α : Type} : ∀ (bs : List Bool) (xs : List α), (keepB bs xs).length ≤ xs.length
  | [], _ => by
    unfold keepB
    exact Nat.zero_le _
  | _ :: _, [] => Nat.le_refl _
  | b :: bs, x :: xs => by
    have z := keep_len bs xs
    unfold keepB
    split
    · exact Nat.succ_le_succ z
    · exact Nat.le_succ_of_le z
theorem keep_range {α : Type} : ∀ (bs : List Bool) (xs : List α), bs.length = xs.length → ((List.range xs.length).filter fun i => bs[i]?.getD false).filterMap (fun i => xs[i]?) = keepB bs xs
  | [], [], _ => rfl
  | [], _ :: _, h => nomatch h
  | _ :: _, [], h => nomatch h
  | b :: bs, x :: xs, h => by
    have ih := keep_range bs xs (Nat.succ.inj h)
    rw [List.length_cons, List.range_succ_eq_map]
    have tl : (((List.range xs.length).map Nat.succ).filter fun i => (b :: bs)[i]?.getD false).filterMap (fun i => (x :: xs)[i]?) = keepB bs xs := by
      rw [List.filter_map, List.filterMap_map, ← ih]
      rfl
    cases b with
    | true =>
      rw [List.filter_cons_of_pos (by rfl), List.filterMap_cons_some (b := x) (by rfl), tl]
      rfl
    | false =>
      rw [List.filter_cons_of_neg (fun z => Bool.false_ne_true z), tl]
      rfl
theorem fm_eq {α : Type} {f : Nat → Option α} : ∀ (L : List Nat) (acc : List α), acc.length = L.length → (∀ (j : Nat) v, acc[j]? = some v → ∃ i, L[j]? = some i ∧ f i = some v) → acc = L.filterMap f
  | [], [], _, _ => rfl
  | [], _ :: _, h, _ => nomatch h
  | _ :: _, [], h, _ => nomatch h
  | l :: L, v :: acc, h, g => by
    obtain ⟨i, e1, e2⟩ := g 0 v rfl
    obtain rfl := Option.some.inj e1
    rw [List.filterMap_cons_some e2, ← fm_eq L acc (Nat.succ.inj h) fun j w e => g (j + 1) w e]
section
variable {X : Cx} {pins : List (Addr × Obj)} {σ : L2.St} {H : Hp} {s : Shared}
/-- the generator's code and its builtins have come: the table may have grown -/
theorem code_bi {c P : Addr} {gpos : Pos} {q : Str} {scope : Scope} {ps : Array Value} {Post : Value → Addr → Shared → Prop} (TB : GxR.TabB X.base X.mg c P) (own : X.env.code = .ref c) (I : Inv X pins σ H s) (hP : H P = some (.tbl ps)) (ht : TriplesOk ps.toList)
    (h : ∀ (code : Value) (h3 : Heap) (tk : Nat) (more : Array Value), Heap.ExtBut P s.heap h3 → s.heap.objs.size ≤ h3.objs.size → h3.get? P = some { cls := .none, data := .fields (ps ++ more) } → TriplesOk (ps ++ more).toList → Post code builtinsNs { s with heap := h3, toks := tk }) :
    wpAny (model X.prog X.w) X.A (genexprCode X.env gpos q scope) (fun code s3 => wpAny (model X.prog X.w) X.A (builtinsFor X.env.globals X.env.builtins) (fun bi s4 => Post code bi s4) X.xe s3) X.xe s := by
  have hPs : s.heap.get? P = some { cls := .none, data := .fields ps } := I.hok P _ hP
  have cd : PySem.W.CodeHd s.heap c P := TB.code.keeps fun b u e => I.bk b u e
  have nxt : ∀ (code : Value) (h3 : Heap) (tk : Nat) (more : Array Value), Heap.ExtBut P s.heap h3 → s.heap.objs.size ≤ h3.objs.size → h3.get? P = some { cls := .none, data := .fields (ps ++ more) } → TriplesOk (ps ++ more).toList →
      wpAny (model X.prog X.w) X.A (builtinsFor X.env.globals X.env.builtins) (fun bi s4 => Post code bi s4) X.xe { s with heap := h3, toks := tk } := by
    intro code h3 tk more hx hsz hP3 ht3
    obtain ⟨bm, ob, e1, e2, e3, e4, e5, e6, e7, e8⟩ := TB.bm
    have kp : ∀ b u, b ≠ P → s.heap.get? b = some u → h3.get? b = some u := fun b u hb e => hx b u hb e
    refine wpAny_builtinsFor (m := X.mg) (by rw [I.ok.glob]; exact (I.mod.glob.keeps I.bk).extBut hx TB.gP) e1 e2 (kp _ _ e4 (I.bk _ _ e5)) e6 e7 e8 ?_
    exact h code h3 tk more hx hsz hP3 ht3
  cases hf : codeAmong gpos ps.toList with
  | none =>
    refine wpAny_genexprCodeX own (cd.code hPs ht) (cd.tab hPs) hf fun c' h' tk hx hge hlt hco' _ htab' _ => ?_
    obtain ⟨o1, vs, f1', tf, fl, tg', inF, tx, tt, op, _, _, _, _, _, _, _, _, _, htr, _⟩ := hco'
    exact nxt _ h' tk _ hx (Nat.le_trans hge (Nat.le_of_lt hlt)) htab'.2 htr
  | some cv =>
    refine wpAny_genexprCode_hit own (cd.code hPs ht) hf ?_
    have e0 : ps ++ #[] = ps := by simp
    exact nxt cv s.heap s.toks #[] (Heap.ExtBut.refl _ _) (Nat.le_refl _) (by rw [e0]; exact hPs) (by rw [e0]; exact ht)
end
/-- those that are unlike e -/
def keepNe (e : PyData) (xs : List V) (ds : List PyData) : List V := keepB (ds.map fun d => !PyData.eqv d e) xs
def tTupNe (K : PySem.W.Frag) (P : Addr) (yi : Nat) (te : TE) : TE := fun σ H Q => te σ H fun u H1 => ∃ (a : Addr) (xs : List V) (ds : List PyData) (yv : V) (e : PyData), u = .ref a ∧ SqT K H1 a xs ∧ DpAll K H1 xs ds ∧ (∀ d ∈ ds, SeqAt.shaped d = true) ∧ σ[yi]? = some (some yv) ∧ Dp K H1 yv e ∧ SeqAt.shaped e = true ∧ GxR.TabG H1 P ∧
  ∀ H2, GxR.Tabbed P H1 H2 → ∀ t, H2 t = none → Q (.ref t) (upd H2 t (.tup (keepNe e xs ds)))
theorem pe_tupNe {X : Cx} {c P : Addr} {iter : Expr} {x y : Str} {yi k : Nat} {p pos p1 p2 p3 p4 p5 gpos : Pos} {scope : Scope} {own : List (Str × Nat)} {te : TE} (hr : Room (k + 1) X.A) (hg : Gl X "tuple") (hm : X.mg "tuple" = none) (hb : bootBuiltins "tuple" = some (.type "tuple"))
    (TB : GxR.TabB X.base X.mg c P) (hcode : X.env.code = .ref c) (ok : BlkOk X.N X.env.scope scope own) (hco : scope.isCoroutine = false) (nocell : ∀ y ∈ scope.names, y.2 ≠ .cell) (hdot : scope.names.lookup (".0" : Str) = some NameKind.local)
    (hx : scope.names.lookup x = some NameKind.local) (hy : scope.names.lookup y = some NameKind.free) (hyi : X.N[yi]? = some y) (hi : PE X iter te) (hs : ∀ v, genFold iter X.env v = pure v := by intro _; rfl)
    (he : starEach [.GeneratorExp (.Name x p1) [⟨.Name x p2, iter, [.Compare (.Name x p3) [.NotEq] [.Name y p4] p5], 0⟩] scope gpos] X.env = (false, eval (.GeneratorExp (.Name x p1) [⟨.Name x p2, iter, [.Compare (.Name x p3) [.NotEq] [.Name y p4] p5], 0⟩] scope gpos) X.env) :: starEach [] X.env := by rfl)
    (d1 : (x == ("__debug__" : Str)) = false := by decide) (d2 : (y == ("__debug__" : Str)) = false := by decide) (d3 : (y == ("__classdict__" : Str)) = false := by decide) :
    PE X (.Call (.Name "tuple" p) [.GeneratorExp (.Name x p1) [⟨.Name x p2, iter, [.Compare (.Name x p3) [.NotEq] [.Name y p4] p5], 0⟩] scope gpos] [] pos) (tTupNe X.K P yi te) := by
  constructor
  intro pins s σ H Q I h
  refine wpAny_Call_Name_kw (ld_blt I hg hm hb ?_)
  refine PyProof.Rows.callWith_type1 ?_ he (by rfl)
  rw [he]
  show wpAny _ _ (spliced ((false, eval (.GeneratorExp (.Name x p1) [⟨.Name x p2, iter, [.Compare (.Name x p3) [.NotEq] [.Name y p4] p5], 0⟩] scope gpos) X.env) :: backTo pos (starEach [] X.env))) _ _ s
  have hfree : ∀ y ∈ scope.names, y.2 = .free → ∃ c, X.env.cells.lookup y.1 = some c := fun y hy e => by
    rcases ok.free y hy e with z | z
    · exact I.ok.has _ (.inl z)
    · exact I.ok.has _ (.inr z)
  refine Calls.spliced_cons (wpAny_GeneratorExp_walksQD hr.hd hco (closure_ok hfree) nocell hdot hx ok.kind (by have := hr.dp; omega) ?_ hs)
  refine thn (hi.run pins s σ H _ I h) fun xv s1 z => ?_
  obtain ⟨v0, H1, I1, r1, a, xs, ds, yv, e, rfl, hsq, hda, hsh, hsl, hde, hse, ⟨ps, hP, ht⟩, q1⟩ := z
  obtain rfl : xv = Value.ref a := r1
  obtain ⟨its, rv, hl, hz⟩ := I1.tuple hsq
  obtain ⟨as, hrd⟩ := Dp.readsAll I1 ds xs its hda rv
  have lds := readsAll_len hrd
  have lxs := rv.length
  have nol : ∀ {k : NameKind}, X.env.scope.names.lookup y = some k → k ≠ .local := fun {k} e1 z => by
    subst z
    rcases ok.free _ (PySem.mem_of_lookup hy) rfl with w | w
    · rw [show X.env.scope.names.lookup y = some .cell from w] at e1
      cases e1
    · rw [show X.env.scope.names.lookup y = some .free from w] at e1
      cases e1
  have hvis : Vis X.env.scope y := (ok.free _ (PySem.mem_of_lookup hy) rfl).elim (fun k => .inr (.inl k)) (fun k => .inr (.inr k))
  obtain ⟨uy, bs, cy, hcy, hcell, hry⟩ : ∃ (uy : Value) (bs : List Addr) (cy : Addr), X.env.cells.lookup y = some cy ∧ s1.heap.IsCell cy (some uy) ∧ Reads s1.heap uy e bs := by
    obtain ⟨m0, _, hloc⟩ := I1.loc
    obtain ⟨uy, ry, lk⟩ := hloc yi y yv hyi hsl hvis
    obtain ⟨bs, hry⟩ := Dp.reads I1 e yv uy hde ry
    rcases lk with ⟨k1, _⟩ | ⟨_, cy, e1, e2⟩
    · exact absurd rfl (nol k1)
    · exact ⟨uy, bs, cy, e1, e2, hry⟩
  obtain ⟨cy', hcl⟩ := mem_lookup (cloFrom_has (cells := X.env.cells) (acc := []) (PySem.mem_of_lookup hy))
  have hcl2 := (clo_in I1 ok (PySem.mem_of_lookup hcl)).1
  rw [hcy] at hcl2
  obtain rfl := Option.some.inj hcl2
  refine wpAny_pyIter_tuple hl ?_
  generalize ho : ({ cls := .type "tuple_iterator", data := .fields #[.ref a, .int 0 0] } : Obj) = o
  have hlt : a < s1.heap.objs.size := by
    obtain ⟨_, e1, _⟩ := _root_.id hl
    exact Heap.lt_size e1
  have I2 : Inv X pins σ H1 { s1 with heap := s1.heap.push o } := I1.kept (t' := s1.toks) fun b u e1 => Heap.get?_push_of_some _ e1
  have hPs : s1.heap.get? P = some { cls := .none, data := .fields ps } := I1.hok P _ hP
  refine ⟨I2.nolimit, code_bi TB hcode I2 hP ht fun code h3 tk more hx3 hsz3 hP3 ht3 => ?_⟩
  have sz2 : (s1.heap.push o).objs.size = s1.heap.objs.size + 1 := Heap.size_push ..
  have szA : s1.heap.objs.size < h3.objs.size := by
    have z : (s1.heap.push o).objs.size ≤ h3.objs.size := hsz3
    omega
  have up3 : ∀ b u, b ≠ P → s1.heap.get? b = some u → h3.get? b = some u := fun b u hb e1 => hx3 b u hb (Heap.get?_push_of_some _ e1)
  have aP : a ≠ P := fun z => by
    obtain ⟨_, e1, ec, _⟩ := _root_.id hl
    rw [z, hPs] at e1
    cases e1
    cases ec
  have tup3 : h3.IsTuple a its.toArray := by
    obtain ⟨u, e1, r⟩ := _root_.id hl
    exact ⟨u, up3 _ _ aP e1, r⟩
  have itP : s1.heap.objs.size ≠ P := Nat.ne_of_gt (Heap.lt_size hPs)
  have it3 : h3.IsTupleIter s1.heap.objs.size a 0 := by
    subst ho
    exact ⟨_, hx3 _ _ itP (Heap.get?_push_size _ rfl), rfl, rfl⟩
  have seqP : ∀ b u, (u.cls = .type "list" ∨ u.cls = .type "tuple" ∨ u.cls = .type "dict") → s1.heap.get? b = some u → b ≠ P := fun b u hc e1 z => by
    rw [z, hPs] at e1
    cases e1
    rcases hc with hc | hc | hc <;> cases hc
  have cyP : cy ≠ P := fun z => by
    obtain ⟨u, e1, ed⟩ := _root_.id hcell
    rw [z, hPs] at e1
    cases e1
    cases ed
  have cyL : cy < s1.heap.objs.size := hcell.lt
  have hcs : cStatics ≠ P := fun z => by
    obtain ⟨_, hns, _⟩ := I1.nolimit
    obtain ⟨o', es, ep, ho', hd', _⟩ := hns
    rw [z, hPs] at ho'
    cases ho'
    cases hd'
  have hcl3 : cStatics < s1.heap.objs.size := let ⟨_, hns, _⟩ := I1.nolimit; hns.lt
  refine ⟨s1.heap.objs.size, [s1.heap.objs.size, a], [s1.heap.objs.size], its.toArray.size, (fun i v => its.toArray[i]? = some v), (fun i h => h.IsTupleIter s1.heap.objs.size a i ∧ h.IsTuple a its.toArray), (fun i => (ds.map fun d => !PyData.eqv d e)[i]?.getD false),
    (fun i v => its[i]? = some v), rfl, (fun A' hA => Walks.tuple hA _ _ (Nat.ne_of_lt hlt) _), ⟨it3, tup3⟩, (fun b hb => ?_), I2.nolimit.extBut hx3 hcs, (fun z => ?_), (fun href hh => ⟨fun A' E' i v s2 m2 hA hD hU hPv hn hmx hk => ?_, fun A' E' i v s2 m2 hA hD hU hPv hpz hn hmx hk => ?_⟩), fun g h5 tk5 gs hgb hag hsz5 hk5 W5 hgat => ?_⟩
  · show b < h3.objs.size
    rcases List.mem_cons.mp hb with z | z
    · rw [z]
      exact szA
    · rw [List.mem_singleton.mp z]
      exact Nat.lt_trans hlt szA
  · exact Nat.ne_of_lt hcl3 (List.mem_singleton.mp z)
  · -- the test
    have hv : its[i]? = some v := by simpa using hPv
    have up : ∀ b u, b ≠ P → s1.heap.get? b = some u → s2.heap.get? b = some u := fun b u hb e1 => by
      have lb := Heap.lt_size e1
      exact hk b (List.mem_range.mpr (Nat.lt_trans lb szA)) (fun z => Nat.ne_of_lt lb (List.mem_singleton.mp z)) u (hh b u (up3 b u hb e1))
    obtain ⟨d, bs', hd, hrv⟩ := readsAll_at hrd hv
    have rv2 := reads_on (fun b u hc e1 => up b u (seqP b u hc e1) e1) hrv
    have ry2 := reads_on (fun b u hc e1 => up b u (seqP b u hc e1) e1) hry
    have cell2 : s2.heap.IsCell cy (some uy) := by
      obtain ⟨u, e1, r⟩ := _root_.id hcell
      exact ⟨u, up _ _ cyP e1, r⟩
    refine wpAny_tests_one (wpAny_isTrue_Compare1 (wpAny_Name (wpAny_loadName_local ok.kind hx hn hmx ?_) d1))
    refine wpAny_Name (wpAny_loadName_free ok.kind hy hcl cell2 ?_ d3) d2
    refine SeqAt.compareNe_shaped rv2 ry2 (hsh d (List.mem_of_getElem? hd)) hse (by have := hr.un; omega) ?_
    refine wpAny_truthy_bool ⟨?_, GxR.keeps_refl _⟩
    rw [List.getElem?_map, hd]
    rfl
  · have hv : its[i]? = some v := by simpa using hPv
    exact wpAny_Name (wpAny_loadName_local ok.kind hx hn hmx ⟨hv, GxR.keeps_refl _⟩) d1
  · -- the tuple
    refine Calls.spliced_nil ?_
    show wpAny _ _ (call (.type "tuple") [.ref g]) _ _ _
    have szg : h5.objs.size = g + 1 := hsz5
    have lg : h3.objs.size < g := hag
    have elen : (passing (fun i => (ds.map fun d => !PyData.eqv d e)[i]?.getD false) its.toArray.size 0).length ≤ sizeLine := by
      unfold passing
      refine Nat.le_trans (List.length_filter_le _ _) ?_
      rw [List.drop_zero, List.length_range, List.size_toArray, ← lxs]
      exact hz
    refine call_tuple_gen W5.in4_3 (fun i s9 h9 => ?_) hgat (fun b hb => ?_) List.mem_cons_self (fun s' acc hmv hio => ?_) elen
    · obtain ⟨hg9, _⟩ := h9
      exact hg9.typeIs
    · show b < h5.objs.size
      rcases List.mem_cons.mp hb with z | z
      · rw [z, szg]
        exact Nat.lt_succ_self g
      · rcases List.mem_cons.mp z with z | z
        · rw [z, szg]
          exact Nat.lt_succ_of_lt lg
        · have z2 : b < h3.objs.size := List.mem_range.mp z
          rw [szg]
          exact Nat.lt_succ_of_lt (Nat.lt_trans z2 lg)
    · have nwr : ∀ b u, s1.heap.get? b = some u → b ∉ h3.objs.size :: [s1.heap.objs.size] := fun b u e1 hb => by
        have lb := Heap.lt_size e1
        rcases List.mem_cons.mp hb with z | z
        · exact absurd (Nat.lt_trans lb szA) (by rw [z]; exact Nat.lt_irrefl _)
        · exact Nat.ne_of_lt lb (List.mem_singleton.mp z)
      have J := GxR.inv_tab (more := more) (h' := s'.heap) (g' := s'.gens) (d' := s'.drawn) (t' := s'.toks) I1 hP (fun b u hb e1 => hmv.heap b u (nwr b u e1) (hk5 b u (up3 b u hb e1))) (hmv.heap P _ (nwr P _ hPs) (hk5 P _ hP3)) (AllBare.movedS (I1.bare.push hgb) hmv)
      rw [GxR.sh_eta s1 s' hmv.os] at J
      have eacc : acc.toList = keepB (ds.map fun d => !PyData.eqv d e) its := by
        rw [← keep_range _ _ (by rw [List.length_map, lds])]
        refine fm_eq _ _ ?_ fun j v hj => ?_
        · have e1 : acc.size = (passing (fun i => (ds.map fun d => !PyData.eqv d e)[i]?.getD false) its.toArray.size 0).length := hio.1
          rw [Array.length_toList, e1]
          unfold passing
          rw [List.drop_zero, List.size_toArray]
        · obtain ⟨i, e1, e2⟩ := hio.2 j v (by simpa using hj)
          refine ⟨i, ?_, e2⟩
          unfold passing at e1
          rw [List.drop_zero, List.size_toArray] at e1
          exact e1
      have hv : Vals (keepNe e xs ds) acc.toList := by
        rw [eacc]
        exact keep_vals rv
      have J2 : Inv X pins σ (upd (upd H1 P (.tbl (ps ++ more))) s'.heap.objs.size (.tup (keepNe e xs ds))) { s' with heap := s'.heap.push { cls := .type "tuple", data := .seq acc } } :=
        J.laid (t' := s'.toks) (fun b o e1 => Heap.get?_push_of_some _ e1) (Nat.le_refl _) (show ObjOk X.prog X.w _ _ _ (.tup (keepNe e xs ds)) from ⟨Nat.le_trans (keep_len _ _) hz, acc.toList, hv, by rw [Array.toArray_toList]; exact IsTup.new _ _⟩)
      exact ⟨.ref s'.heap.objs.size, _, J2, rfl, q1 _ ⟨⟨ps ++ more, upd_same, ht3⟩, fun b hb => upd_ne hb⟩ _ (J.hok.fresh (Nat.le_refl _))⟩

end My
namespace My
open PySem PySem.Spec PyProof.Rows L2
/-! ### repr of what is nested; a list of truths counted; raise X() -/
def rRepr (K : PySem.W.Frag) : List V → Hp → VK → Prop := fun xs H Q => ∃ (v : V) (d : PyData), xs = [v] ∧ Dp K H v d ∧ isDisplay d = true ∧ d.showable = true ∧ d.hasDict = false ∧ d.depth ≤ 50 ∧ d.shown.length ≤ sizeLine ∧ Q (.str d.shown) H
theorem call_repr {X : Cx} (none_ : X.A.guards = some []) (room : X.A.units + 64 < cLine) : CallR X (.builtin "repr") (rRepr X.K) := by
  intro pins s σ H xs us Q I r h
  obtain ⟨v, d, rfl, dp, disp, shw, nod, dep, len, q⟩ := h
  obtain ⟨u, rfl, ru⟩ := vals1 r
  obtain ⟨as, rd⟩ := Dp.reads I d v u dp ru
  obtain ⟨a, rfl⟩ := isRef_of_reads rd disp
  exact repr_of_reads' rd shw (PyData.noDict_hsm nod) none_ (by omega) (fun _ _ e => e) (fun h' t tk hk => ⟨.str d.shown, H, I.kept (t' := tk) hk, ⟨t, rfl⟩, q⟩) len
/-- l.count(True), l a list of truths -/
def rCntB (K : PySem.W.Frag) : V → List V → Hp → VK → Prop := fun x xs H Q => ∃ (p : Addr) (bs : List Bool) (b : Bool), x = .ref p ∧ xs = [.bl b] ∧ SqL K H p (bs.map V.bl) ∧ Q (.int (bs.count b : Nat)) H
def isB (b : Bool) : Value → Bool
  | .bool c => c == b
  | _ => false
theorem bools_of {b : Bool} : ∀ {bs : List Bool} {us : List Value}, Vals (bs.map V.bl) us → (∀ y ∈ us, ∃ c, y = .bool c) ∧ us.countP (isB b) = bs.count b
  | [], _, r => by
    cases r
    exact ⟨fun y h => (nomatch h), rfl⟩
  | c :: bs, _, r => by
    rw [List.map_cons] at r
    cases r with
    | @cons a u as us ru rr =>
      obtain ⟨h1, h2⟩ := bools_of (b := b) rr
      obtain rfl : u = Value.bool c := ru
      refine ⟨fun y hy => ?_, ?_⟩
      · rcases List.mem_cons.mp hy with e | e
        · exact ⟨c, e⟩
        · exact h1 y e
      · rw [List.countP_cons, List.count_cons, h2]
        rfl
theorem mt_countB {X : Cx} : MtR X "list.count" (rCntB X.K) := by
  intro pins s σ H x xs v us Q I rx rxs h
  obtain ⟨p, bs, b, rfl, rfl, sq, q⟩ := h
  obtain rfl : v = Value.ref p := rx
  obtain ⟨u, rfl, ru⟩ := rxs.one
  obtain rfl : u = Value.bool b := ru
  obtain ⟨its, rel, ⟨ob, n, hob, cls, dct, dat⟩, _⟩ := I.list sq
  obtain ⟨oc, od, odt, osl⟩ := ob
  simp only at cls dat
  subst cls dat
  obtain ⟨all, cnt⟩ := bools_of (b := b) rel
  refine call_meets PySem.F.slot_list_count ⟨_, hob, rfl⟩ PySem.F.entry_list_count (PySem.F.args_list_count_2 _ _) (SeqAt.list_countAt p its.toArray n od osl (.bool b) (isB b)) ⟨hob, fun y hy => ?_, ?_⟩
  · obtain ⟨c, rfl⟩ := all y (by simpa using hy)
    exact SeqAt.EqAt.bool_bool c b
  · refine ⟨.int (bs.count b : Nat), H, I.tok _, ⟨s.toks, ?_⟩, q⟩
    show Value.int ((its.toArray.toList.countP (isB b) : Nat) : Int) s.toks = Value.int ((bs.count b : Nat) : Int) s.toks
    rw [← cnt]
/-- raise X() -/
theorem pmk_own0 {X : Cx} {C : Addr} {x : Str} {p pos : Pos} (ex : PySem.W.excIn X.K C veB "ValueError.__new__" = true) (gC : X.mg x = some (.ref C)) (kC : PySem.W.keepIn X.K (.ref C) = true) (rs : Raises X (.ref C)) (gl : Gl X x) (dbg : (x == ("__debug__" : Str)) = false := by decide) :
    PMk X (.Call (.Name x p) [] [] pos) (fun _ H Q => Q (.ref C) none H) := by
  intro pins st σ H Q I q
  refine wpAny_Call_Name_kw (ld_glob I gl gC ?_ dbg)
  refine PySem.W.callWith_K0 I.kIn kC ?_
  obtain ⟨bm, N, nm, qn, bs, hdct, sn, sub, ab, col, dd, k0, k1, k2, k3, k5, mN, hC, hN, hni, OT⟩ := exc_obj I.kIn ex
  exact wpAny_call_exc_subT PySem.F.excBase_ValueError OT hC hN hni (fun h' a made => mk_of I made rs q (I.hok.gone made.new)) (Nat.zero_le _)
/-- isinstance of a kept exception -/
def rIsC (K : PySem.W.Frag) : List V → Hp → VK → Prop := fun xs H Q => ∃ (a C : Addr) (c : V) (cv : Value) (b : Bool), xs = [.ref a, c] ∧ H a = some (ExC (.ref C) none a) ∧ XcC K C ∧ ClsV c cv ∧ PySem.W.kitOne K (.ref C) cv = some b ∧ Q (.bl b) H
theorem call_isC {X : Cx} : CallR X (.builtin "isinstance") (rIsC X.K) := by
  intro pins st σ H xs us Q I r h
  obtain ⟨a, C, c, cv, b, rfl, at_, xc, kc, e, q⟩ := h
  obtain ⟨u1, u2, rfl, r1, r2⟩ := vals2 r
  obtain rfl : u1 = Value.ref a := r1
  obtain rfl := kc.eq r2
  obtain ⟨⟨oe, vs, ho, hz, hd⟩, _, _⟩ := I.hok a _ at_
  have inst : PySem.W.InstAt st.heap a oe C none := by
    refine ⟨ho, hz.1, ?_, ?_⟩
    · unfold PySem.W.notCls
      rw [hd]
    · rw [hz.2]
      trivial
  exact PySem.W.kia_one (PySem.W.kitx_exc xc.cl xc.hg xc.hk xc.hs xc.ha xc.hn xc.ht xc.hm) I.kIn inst e (fun z => nomatch z) fun tk => ⟨.bl b, H, I.kept (t' := tk) fun _ _ z => z, rfl, q⟩

end My
namespace My
open PySem L2
inductive Sl | pt | oth | num | plc | knd
  deriving DecidableEq
def fit : Sl → V → Prop
  | .pt, v => ∃ i, v = .int i
  | .oth, v => v = .non ∨ ∃ i, v = .int i
  | .num, v => ∃ i, v = .int i
  | .plc, v => ∃ i : Int, v = .int i ∧ 0 ≤ i
  | .knd, v => ∃ k, v = .str k ∧ k ∈ kinds
inductive FitAll : List Sl → List V → Prop
  | nil : FitAll [] []
  | cons {s : Sl} {v : V} {ss : List Sl} {vs : List V} : fit s v → FitAll ss vs → FitAll (s :: ss) (v :: vs)
def forms : List (Str × List Sl) := [("new", [.num, .knd]), ("put", [.pt, .num]), ("paint", [.pt, .knd]), ("tie", [.pt, .pt]), ("cut", [.pt, .pt]), ("add", [.pt, .pt, .num]), ("spread", [.pt, .oth, .num]),
  ("joined", [.pt, .pt]), ("way", [.pt, .pt]), ("total", [.pt, .pt]), ("many", [.pt, .pt]), ("most", [.pt, .pt]), ("first", [.pt, .pt, .knd]), ("reach", [.pt, .pt, .num]), ("kth", [.pt, .pt, .plc]), ("meet", [.pt, .pt, .pt]), ("sum", [.pt, .oth]), ("size", [.pt, .oth]), ("top", [.pt, .oth]), ("least", [.pt, .oth, .knd])]
def evs : List Str := ["new", "put", "paint", "tie", "cut", "add", "spread", "joined", "way", "total", "many", "most", "first", "reach", "kth", "meet", "sum", "size", "top", "least"]

/-! ### a written dict from texts to tuples of texts -/
def formB (K : PySem.W.Frag) : List DictEntry → List (Str × List Str) → Bool
  | [], [] => true
  | e :: es, f :: fs => e.key.isStr f.1 && ((match e.val with | .ref a => tupB K a f.2 | _ => false) && formB K es fs)
  | _, _ => false
theorem isStr_key {v : Value} {x : Str} (h : v.isStr x = true) : ∃ t, v = .str x t := by
  cases v with
  | str y t =>
    have e : (y == x) = true := h
    exact ⟨t, by rw [beq_iff_eq.mp e]⟩
  | _ => exact nomatch h
theorem formB_ns {K : PySem.W.Frag} : ∀ {es : List DictEntry} {fs : List (Str × List Str)}, formB K es fs = true → es.any (·.refKey) = false ∧ ∀ z : Str, match fs.lookup z with
    | none => es.find? (·.key.isStr z) = none
    | some ws => ∃ e a, es.find? (·.key.isStr z) = some e ∧ e.val = .ref a ∧ tupB K a ws = true
  | [], [], _ => ⟨rfl, fun _ => rfl⟩
  | [], _ :: _, h => nomatch h
  | _ :: _, [], h => nomatch h
  | e :: es, f :: fs, h => by
    unfold formB at h
    rw [Bool.and_eq_true, Bool.and_eq_true] at h
    obtain ⟨h1, h2, h3⟩ := h
    obtain ⟨r1, r2⟩ := formB_ns h3
    obtain ⟨t, ek⟩ := isStr_key h1
    refine ⟨?_, fun z => ?_⟩
    · rw [List.any_cons, r1, Bool.or_false]
      obtain ⟨hs, k, v⟩ := e
      dsimp only at ek
      subst ek
      rfl
    · have q := r2 z
      rw [List.lookup_cons, List.find?_cons]
      by_cases ez : z = f.1
      · subst ez
        rw [beq_self_eq_true]
        dsimp only
        rw [h1]
        dsimp only
        cases ev : e.val with
        | ref a =>
          rw [ev] at h2
          exact ⟨e, a, rfl, ev, h2⟩
        | _ =>
          rw [ev] at h2
          exact nomatch h2
      · have e1 : (z == f.1) = false := beq_eq_false_iff_ne.mpr ez
        have e2 : e.key.isStr z = false := by
          rw [ek]
          show (f.1 == z) = false
          exact beq_eq_false_iff_ne.mpr fun y => ez y.symm
        rw [e1, e2]
        dsimp only
        exact q
theorem formB_get {K : PySem.W.Frag} {d : Addr} {c : Value} {od : Option Addr} {es : Array DictEntry} {n : Nat} {sl : Array (Option Value)} {fs : List (Str × List Str)} (hl : K.lookup d = some ⟨c, od, .dict es n, sl⟩) (h : formB K es.toList fs = true) (z : Str) :
    match fs.lookup z with
    | none => PySem.W.nsIn K d z = some none
    | some ws => ∃ a, PySem.W.nsIn K d z = some (some (.ref a)) ∧ tupB K a ws = true := by
  obtain ⟨r1, r2⟩ := formB_ns h
  have q := r2 z
  unfold PySem.W.nsIn
  rw [hl]
  cases e : fs.lookup z with
  | none =>
    rw [e] at q
    dsimp only at q ⊢
    rw [q]
    dsimp only
    rw [r1]
    rfl
  | some ws =>
    rw [e] at q
    obtain ⟨en, a, h1, h2, h3⟩ := q
    refine ⟨a, ?_, h3⟩
    dsimp only
    rw [h1]
    dsimp only
    rw [h2]
/-! ### anything -/
inductive AnyV (H : Hp) : V → Prop
  | non : AnyV H .non
  | bl (b : Bool) : AnyV H (.bl b)
  | int (i : Int) : AnyV H (.int i)
  | str (x : Str) : AnyV H (.str x)
  | tup {a : Addr} {xs : List V} (h : H a = some (.tup xs)) : AnyV H (.ref a)
  | lst {a : Addr} {xs : List V} (h : H a = some (.lst xs)) : AnyV H (.ref a)
  | dK {a : Addr} {kvs : List (Key × V)} (h : H a = some (.dK kvs)) : AnyV H (.ref a)
/-- all but tables of code objects stays -/
def Kp (H H' : Hp) : Prop := ∀ a o, H a = some o → (∀ ps, o ≠ .tbl ps) → H' a = some o
theorem Kp.refl (H : Hp) : Kp H H := fun _ _ e _ => e
theorem Kp.trans {H H1 H2 : Hp} (x : Kp H H1) (y : Kp H1 H2) : Kp H H2 := fun a o e n => y a o (x a o e n) n
theorem Kp.of_same {H H' : Hp} (s : Same H H') : Kp H H' := fun a o e _ => s a o e
theorem Kp.of_tab {H H' : Hp} {P : Addr} (g : GxR.TabG H P) (t : GxR.Tabbed P H H') : Kp H H' := fun a o e n => by
  by_cases h : a = P
  · subst h
    obtain ⟨ps, hp, _⟩ := g
    rw [hp] at e
    exact absurd (Option.some.inj e).symm (n ps)
  · rw [t.2 a h]
    exact e
theorem AnyV.kp {H H' : Hp} (k : Kp H H') {v : V} (h : AnyV H v) : AnyV H' v := by
  cases h with
  | non => exact .non
  | bl b => exact .bl b
  | int i => exact .int i
  | str x => exact .str x
  | tup h => exact .tup (k _ _ h (by intro ps z; cases z))
  | lst h => exact .lst (k _ _ h (by intro ps z; cases z))
  | dK h => exact .dK (k _ _ h (by intro ps z; cases z))
/-- isinstance with int, bool, str, tuple -/
def isIntV : V → Bool
  | .bl _ => true
  | .int _ => true
  | _ => false
def isBoolV : V → Bool
  | .bl _ => true
  | _ => false
def isStrV : V → Bool
  | .str _ => true
  | _ => false
theorem int_ok {K : PySem.W.Frag} {H : Hp} {v : V} (h : AnyV H v) : ∃ t, TyX K H v t ∧ PySem.W.kitOne K t (.type "int") = some (isIntV v) := by
  cases h with
  | non => exact ⟨_, .base .non, kit_ty (show kitB _ _ = some false by decide +kernel)⟩
  | bl b => exact ⟨_, .base (.bl b), kit_ty (show kitB _ _ = some true by decide +kernel)⟩
  | int i => exact ⟨_, .base (.int i), kit_ty (show kitB _ _ = some true by decide +kernel)⟩
  | str x => exact ⟨_, .base (.str x), kit_ty (show kitB _ _ = some false by decide +kernel)⟩
  | tup h => exact ⟨_, .base (.tup h), kit_ty (show kitB _ _ = some false by decide +kernel)⟩
  | lst h => exact ⟨_, .base (.lst h), kit_ty (show kitB _ _ = some false by decide +kernel)⟩
  | dK h => exact ⟨_, .base (.dK h), kit_ty (show kitB _ _ = some false by decide +kernel)⟩
theorem bool_ok {K : PySem.W.Frag} {H : Hp} {v : V} (h : AnyV H v) : ∃ t, TyX K H v t ∧ PySem.W.kitOne K t (.type "bool") = some (isBoolV v) := by
  cases h with
  | non => exact ⟨_, .base .non, kit_ty (show kitB _ _ = some false by decide +kernel)⟩
  | bl b => exact ⟨_, .base (.bl b), kit_ty (show kitB _ _ = some true by decide +kernel)⟩
  | int i => exact ⟨_, .base (.int i), kit_ty (show kitB _ _ = some false by decide +kernel)⟩
  | str x => exact ⟨_, .base (.str x), kit_ty (show kitB _ _ = some false by decide +kernel)⟩
  | tup h => exact ⟨_, .base (.tup h), kit_ty (show kitB _ _ = some false by decide +kernel)⟩
  | lst h => exact ⟨_, .base (.lst h), kit_ty (show kitB _ _ = some false by decide +kernel)⟩
  | dK h => exact ⟨_, .base (.dK h), kit_ty (show kitB _ _ = some false by decide +kernel)⟩
theorem str_ok {K : PySem.W.Frag} {H : Hp} {v : V} (h : AnyV H v) : ∃ t, TyX K H v t ∧ PySem.W.kitOne K t (.type "str") = some (isStrV v) := by
  cases h with
  | non => exact ⟨_, .base .non, kit_ty (show kitB _ _ = some false by decide +kernel)⟩
  | bl b => exact ⟨_, .base (.bl b), kit_ty (show kitB _ _ = some false by decide +kernel)⟩
  | int i => exact ⟨_, .base (.int i), kit_ty (show kitB _ _ = some false by decide +kernel)⟩
  | str x => exact ⟨_, .base (.str x), kit_ty (show kitB _ _ = some true by decide +kernel)⟩
  | tup h => exact ⟨_, .base (.tup h), kit_ty (show kitB _ _ = some false by decide +kernel)⟩
  | lst h => exact ⟨_, .base (.lst h), kit_ty (show kitB _ _ = some false by decide +kernel)⟩
  | dK h => exact ⟨_, .base (.dK h), kit_ty (show kitB _ _ = some false by decide +kernel)⟩
/-! ### rows by their form -/
def wholeB : V → Bool
  | .int _ => true
  | _ => false
def kindB : V → Bool
  | .str k => decide (k ∈ kinds)
  | _ => false
def fitB : Sl → V → Bool
  | .knd, v => kindB v
  | .oth, v => decide (v = .non) || wholeB v
  | .plc, .int i => decide (0 ≤ i)
  | .plc, _ => false
  | _, v => wholeB v
def slT : Sl → Str
  | .pt => "point"
  | .oth => "other"
  | .num => "number"
  | .plc => "place"
  | .knd => "kind"
def fitsB : List Sl → List V → Bool
  | [], [] => true
  | s :: ss, v :: vs => fitB s v && fitsB ss vs
  | _, _ => false
theorem fits_len : ∀ {ss : List Sl} {vs : List V}, vs.length ≠ ss.length → fitsB ss vs = false
  | [], [], h => absurd rfl h
  | [], _ :: _, _ => rfl
  | _ :: _, [], _ => rfl
  | s :: ss, v :: vs, h => by
    show (fitB s v && fitsB ss vs) = false
    rw [fits_len (ss := ss) (vs := vs) fun z => h (by rw [List.length_cons, List.length_cons, z]), Bool.and_false]
theorem drop_at {α : Type} {xs : List α} {i : Nat} {x : α} (h : xs[i]? = some x) : xs.drop i = x :: xs.drop (i + 1) := by
  obtain ⟨hl, e⟩ := List.getElem?_eq_some_iff.mp h
  rw [List.drop_eq_getElem_cons hl, e]
def rowB : List V → Bool
  | .str w :: ps => (match forms.lookup w with | some sl => fitsB sl ps | none => false)
  | _ => false
def formsT : List (Str × List Str) := forms.map fun f => (f.1, f.2.map slT)
theorem formsT_lookup (z : Str) : formsT.lookup z = (forms.lookup z).map fun sl => sl.map slT := by
  have g : ∀ l : List (Str × List Sl), (l.map fun f => (f.1, f.2.map slT)).lookup z = (l.lookup z).map fun sl => sl.map slT := by
    intro l
    induction l with
    | nil => rfl
    | cons f r ih =>
      obtain ⟨a, b⟩ := f
      rw [List.map_cons, List.lookup_cons, List.lookup_cons]
      cases e : z == a with
      | true => rfl
      | false => exact ih
  exact g forms
/-- a def by its body, its code object known -/
theorem okC {P : Program} {w : World} {K : PySem.W.Frag} {mg : Str → Option Value} {base : Heap} {x qual : Str} {st : Stmt} {f c : Addr} {fd : FuncData} {N ps : List Str} {k : Nat} {sp : Sp} (F : Fun K x qual st f fd) (hcd : fd.code = .ref c) (S : FnScope N ps (defScope st))
    (len : ∀ vs H Q E, sp vs H Q E → vs.length = ps.length)
    (body : ∀ (A : Around) (outer : List Env) (s : Shared) (H : Hp) (vs : List V) (Q : VK) (E : XK), Room k (A.deeper (PyProof.Rows.envOfC qual (defScope st) s.heap.objs.size f (.ref c))) → sp vs H Q E →
      ∃ t, PSs (cxOf CX0 P w K mg base N qual (defScope st) f (.ref c) A outer s H E).nox (defBody st) t ∧ t { nx := fun _ H' => Q .non H', rt := Q } (start N vs) H) : FnOk P w K mg base CX0 (k + 1) f fd ps sp := by
  obtain ⟨oc, od, kV, doc, pm, an, cdv, ct, osl, rfl, lk, hc⟩ := F.ex
  have e : cdv = .ref c := hcd
  subst e
  refine fn_of lk hc S len fun A outer s H vs Q E hr hsp => ?_
  obtain ⟨t, h, q⟩ := body A outer s H vs Q E hr hsp
  exact ⟨t, h.nox, q⟩

end My
namespace My
open PySem L2
/-! ### ties, ways, what is joined -/
abbrev Ties := List (Int × Int)
/-- a and b are a tied pair, either way about -/
def Adj (ts : Ties) (a b : Int) : Prop := (a, b) ∈ ts ∨ (b, a) ∈ ts
theorem Adj.symm {ts : Ties} {a b : Int} (h : Adj ts a b) : Adj ts b a := h.elim .inr .inl
theorem Adj.mono {ts us : Ties} {a b : Int} (s : ∀ t ∈ ts, t ∈ us) (h : Adj ts a b) : Adj us a b := h.imp (s _) (s _)
inductive Rch (ts : Ties) (a : Int) : Int → Prop
  | refl : Rch ts a a
  | step {b c : Int} : Rch ts a b → Adj ts b c → Rch ts a c
theorem Rch.trans {ts : Ties} {a b c : Int} (h : Rch ts a b) (g : Rch ts b c) : Rch ts a c := by
  induction g with
  | refl => exact h
  | step _ e ih => exact .step ih e
theorem Rch.one {ts : Ties} {a b : Int} (h : Adj ts a b) : Rch ts a b := .step .refl h
theorem Rch.symm {ts : Ties} {a b : Int} (h : Rch ts a b) : Rch ts b a := by
  induction h with
  | refl => exact .refl
  | step _ e ih => exact (Rch.one e.symm).trans ih
theorem Rch.mono {ts us : Ties} {a b : Int} (s : ∀ t ∈ ts, t ∈ us) (h : Rch ts a b) : Rch us a b := by
  induction h with
  | refl => exact .refl
  | step _ e ih => exact .step ih (e.mono s)
/-- gone along ties -/
inductive Wlk (ts : Ties) : Int → Int → List Int → Prop
  | one (a : Int) : Wlk ts a a [a]
  | cons {a b c : Int} {l : List Int} : Adj ts a b → Wlk ts b c l → Wlk ts a c (a :: l)
theorem Wlk.mono {ts us : Ties} (s : ∀ t ∈ ts, t ∈ us) {a b : Int} {l : List Int} (h : Wlk ts a b l) : Wlk us a b l := by
  induction h with
  | one a => exact .one a
  | cons e _ ih => exact .cons (e.mono s) ih
theorem Wlk.rch {ts : Ties} {a b : Int} {l : List Int} (h : Wlk ts a b l) : Rch ts a b := by
  induction h with
  | one a => exact .refl
  | cons e _ ih => exact (Rch.one e).trans ih
theorem Wlk.ne_nil {ts : Ties} {a b : Int} {l : List Int} (h : Wlk ts a b l) : l ≠ [] := by
  cases h <;> exact List.cons_ne_nil _ _
theorem Wlk.head {ts : Ties} {a b : Int} {l : List Int} (h : Wlk ts a b l) : l.head? = some a := by
  cases h <;> rfl
theorem Wlk.mem_a {ts : Ties} {a b : Int} {l : List Int} (h : Wlk ts a b l) : a ∈ l := by
  cases h <;> exact List.mem_cons_self
theorem Wlk.mem_b {ts : Ties} {a b : Int} {l : List Int} (h : Wlk ts a b l) : b ∈ l := by
  induction h with
  | one a => exact List.mem_cons_self
  | cons _ _ ih => exact List.mem_cons_of_mem _ ih
theorem Wlk.snoc {ts : Ties} {a b c : Int} {l : List Int} (h : Wlk ts a b l) (e : Adj ts b c) : Wlk ts a c (l ++ [c]) := by
  induction h with
  | one a => exact .cons e (.one c)
  | cons e' _ ih => exact .cons e' (ih e)
theorem Wlk.rev {ts : Ties} {a b : Int} {l : List Int} (h : Wlk ts a b l) : Wlk ts b a l.reverse := by
  induction h with
  | one a => exact .one a
  | cons e _ ih =>
    rw [List.reverse_cons]
    exact ih.snoc e.symm
/-- every point of it is joined with the first -/
theorem Wlk.rch_of_mem {ts : Ties} {a b : Int} {l : List Int} (h : Wlk ts a b l) : ∀ x ∈ l, Rch ts a x := by
  induction h with
  | one a =>
    intro x m
    rw [List.mem_singleton.mp m]
    exact .refl
  | cons e _ ih =>
    intro x m
    rcases List.mem_cons.mp m with rfl | m
    · exact .refl
    · exact (Rch.one e).trans (ih x m)
/-- a way: gone along ties, none twice -/
structure Way (ts : Ties) (a b : Int) (l : List Int) : Prop where
  wk : Wlk ts a b l
  nd : l.Nodup
/-- no tie can be gone round -/
def Tree (ts : Ties) : Prop := ∀ t ∈ ts, ¬ Rch (ts.filter fun u => decide (u ≠ t)) t.1 t.2
/-- whoever goes along a walk that hasn't a, doesn't use a's ties -/
theorem Wlk.avoid {ts : Ties} {b c a : Int} {l : List Int} (h : Wlk ts b c l) (n : a ∉ l) (t : Int × Int) (ht : t.1 = a ∨ t.2 = a) : Wlk (ts.filter fun u => decide (u ≠ t)) b c l := by
  induction h with
  | one x => exact .one x
  | @cons x y z l e w ih =>
    have nx : a ≠ x := fun q => n (q ▸ List.mem_cons_self)
    have nl : a ∉ l := fun q => n (List.mem_cons_of_mem _ q)
    have ny : a ≠ y := fun q => nl (q ▸ w.mem_a)
    refine .cons ?_ (ih nl)
    rcases e with e | e
    · refine .inl (List.mem_filter.mpr ⟨e, decide_eq_true fun q => ?_⟩)
      subst q
      rcases ht with q | q
      · exact nx q.symm
      · exact ny q.symm
    · refine .inr (List.mem_filter.mpr ⟨e, decide_eq_true fun q => ?_⟩)
      subst q
      rcases ht with q | q
      · exact ny q.symm
      · exact nx q.symm
theorem Way.self {ts : Ties} {a : Int} {l : List Int} (h : Way ts a a l) : l = [a] := by
  obtain ⟨w, nd⟩ := h
  cases w with
  | one => rfl
  | cons e w => exact absurd w.mem_b (List.nodup_cons.mp nd).1
/-- there is one way -/
theorem way_unique {ts : Ties} (T : Tree ts) : ∀ {l m : List Int} {a b : Int}, Way ts a b l → Way ts a b m → l = m := by
  intro l
  induction l with
  | nil =>
    intro m a b h _
    exact absurd rfl h.wk.ne_nil
  | cons x l ih =>
    intro m a b h g
    obtain ⟨w, nd⟩ := h
    cases w with
    | one => exact (Way.self g).symm
    | @cons _ y _ _ e w =>
      have nl := (List.nodup_cons.mp nd).1
      obtain ⟨w2, nd2⟩ := g
      cases w2 with
      | one => exact absurd w.mem_b nl
      | @cons _ z _ m e2 w2 =>
        have nm := (List.nodup_cons.mp nd2).1
        by_cases q : y = z
        · subst q
          rw [ih ⟨w, (List.nodup_cons.mp nd).2⟩ ⟨w2, (List.nodup_cons.mp nd2).2⟩]
        · exfalso
          -- the tie of x and y is gone round
          have go : ∀ t : Int × Int, (t = (x, y) ∨ t = (y, x)) → t ∈ ts → False := by
            intro t ht mt
            have h1 : t.1 = x ∨ t.2 = x := by
              rcases ht with rfl | rfl
              · exact .inl rfl
              · exact .inr rfl
            have r1 : Rch (ts.filter fun u => decide (u ≠ t)) y b := (w.avoid nl t h1).rch
            have r2 : Rch (ts.filter fun u => decide (u ≠ t)) z b := (w2.avoid nm t h1).rch
            have nxy : x ≠ y := fun q => nl (q ▸ w.mem_a)
            have e3 : Adj (ts.filter fun u => decide (u ≠ t)) x z := by
              rcases e2 with e2 | e2
              · refine .inl (List.mem_filter.mpr ⟨e2, decide_eq_true fun k => ?_⟩)
                rcases ht with rfl | rfl
                · exact q (Prod.mk.inj k).2.symm
                · exact nxy (Prod.mk.inj k).1
              · refine .inr (List.mem_filter.mpr ⟨e2, decide_eq_true fun k => ?_⟩)
                rcases ht with rfl | rfl
                · exact nxy (Prod.mk.inj k).2
                · exact q (Prod.mk.inj k).1.symm
            have r3 : Rch (ts.filter fun u => decide (u ≠ t)) x y := ((Rch.one e3).trans r2).trans r1.symm
            rcases ht with rfl | rfl
            · exact T _ mt r3
            · exact T _ mt r3.symm
          rcases e with e | e
          · exact go _ (.inl rfl) e
          · exact go _ (.inr rfl) e
theorem Way.rev {ts : Ties} {a b : Int} {l : List Int} (h : Way ts a b l) : Way ts b a l.reverse := ⟨h.wk.rev, List.pairwise_reverse.mpr (h.nd.imp fun n e => n e.symm)⟩
theorem Way.snoc {ts : Ties} {a b c : Int} {l : List Int} (h : Way ts a b l) (e : Adj ts b c) (n : c ∉ l) : Way ts a c (l ++ [c]) :=
  ⟨h.wk.snoc e, List.nodup_append.mpr ⟨h.nd, List.nodup_cons.mpr ⟨List.not_mem_nil, List.nodup_nil⟩, fun x m y k z => by
    rw [List.mem_singleton.mp k] at z
    exact n (z ▸ m)⟩⟩
/-- a way up to a point of it -/
theorem Wlk.upto {ts : Ties} {a b : Int} {l : List Int} (h : Wlk ts a b l) : ∀ {x : Int}, x ∈ l → ∃ p s, l = p ++ s ∧ Wlk ts a x p ∧ ∃ s', Wlk ts x b (x :: s') ∧ s = s' := by
  induction h with
  | one a =>
    intro x m
    have e := List.mem_singleton.mp m
    subst e
    exact ⟨[x], [], rfl, .one x, [], .one x, rfl⟩
  | @cons a c b l e w ih =>
    intro x m
    rcases List.mem_cons.mp m with rfl | m
    · exact ⟨[x], l, rfl, .one x, l, .cons e w, rfl⟩
    · obtain ⟨p, s, h1, h2, s', h3, h4⟩ := ih m
      exact ⟨a :: p, s, by rw [h1]; rfl, .cons e h2, s', h3, h4⟩
/-- where two are joined there is a way -/
theorem rch_way {ts : Ties} {a b : Int} (h : Rch ts a b) : ∃ l, Way ts a b l := by
  induction h with
  | refl => exact ⟨[a], .one a, by simp⟩
  | @step b c _ e ih =>
    obtain ⟨l, w⟩ := ih
    by_cases m : c ∈ l
    · obtain ⟨p, s, h1, h2, _⟩ := w.wk.upto m
      refine ⟨p, h2, ?_⟩
      have nd := w.nd
      rw [h1] at nd
      exact (List.nodup_append.mp nd).1
    · exact ⟨_, w.snoc e m⟩
/-! ### a tie that leads to a new point -/
theorem rch_contract {ts : Ties} {u v p q : Int} {k : Ties} (hv : ∀ t ∈ ts, t.1 ≠ v ∧ t.2 ≠ v) (hk : ∀ t ∈ k, t ∈ ts ∨ t = (u, v) ∨ t = (v, u)) (nuv : u ≠ v) (us : Ties) (hus : ∀ t ∈ k, t ∈ ts → t ∈ us) (h : Rch k p q) :
    Rch us (if p = v then u else p) (if q = v then u else q) := by
  induction h with
  | refl => exact .refl
  | @step b c _ e ih =>
    refine ih.trans ?_
    have one : ∀ {x y : Int}, (x, y) ∈ k → Rch us (if x = v then u else x) (if y = v then u else y) := by
      intro x y m
      rcases hk _ m with z | z | z
      · have n := hv _ z
        rw [if_neg n.1, if_neg n.2]
        exact .one (.inl (hus _ m z))
      · obtain ⟨rfl, rfl⟩ := Prod.mk.inj z
        rw [if_neg nuv, if_pos rfl]
        exact .refl
      · obtain ⟨rfl, rfl⟩ := Prod.mk.inj z
        rw [if_neg nuv, if_pos rfl]
        exact .refl
    rcases e with e | e
    · exact one e
    · exact (one e).symm
theorem tree_nil : Tree [] := fun _ m => absurd m List.not_mem_nil
theorem rch_isolated {ts : Ties} {a v : Int} (hv : ∀ t ∈ ts, t.1 ≠ v ∧ t.2 ≠ v) (h : Rch ts a v) : a = v := by
  cases h with
  | refl => rfl
  | step _ e =>
    rcases e with e | e
    · exact absurd rfl (hv _ e).2
    · exact absurd rfl (hv _ e).1
theorem tree_snoc {ts : Ties} {u v : Int} {t : Int × Int} (T : Tree ts) (hv : ∀ t ∈ ts, t.1 ≠ v ∧ t.2 ≠ v) (nuv : u ≠ v) (ht : t = (u, v) ∨ t = (v, u)) : Tree (ts ++ [t]) := by
  intro e me h
  have tv : t.1 = v ∨ t.2 = v := by
    rcases ht with rfl | rfl
    · exact .inr rfl
    · exact .inl rfl
  rcases List.mem_append.mp me with m | m
  · have ne : e ≠ t := fun q => by
      have z := hv e m
      rw [q] at z
      rcases tv with y | y
      · exact z.1 y
      · exact z.2 y
    have n := hv e m
    have r := rch_contract (ts := ts) (u := u) (v := v) (us := ts.filter fun x => decide (x ≠ e)) hv (fun x hx => ?_) nuv (fun x hx hm => ?_) h
    · rw [if_neg n.1, if_neg n.2] at r
      exact T e m r
    · rcases List.mem_append.mp (List.mem_filter.mp hx).1 with z | z
      · exact .inl z
      · rw [List.mem_singleton.mp z]
        exact .inr ht
    · exact List.mem_filter.mpr ⟨hm, (List.mem_filter.mp hx).2⟩
  · have q := List.mem_singleton.mp m
    subst q
    have iso : ∀ x ∈ ((ts ++ [e]).filter fun x => decide (x ≠ e)), x.1 ≠ v ∧ x.2 ≠ v := fun x hx => by
      obtain ⟨h1, h2⟩ := List.mem_filter.mp hx
      rcases List.mem_append.mp h1 with z | z
      · exact hv x z
      · exact absurd (List.mem_singleton.mp z) (of_decide_eq_true h2)
    rcases ht with rfl | rfl
    · exact nuv (rch_isolated iso h)
    · exact nuv (rch_isolated iso h.symm)
theorem rch_perm {ts us : Ties} (p : ∀ t, t ∈ ts ↔ t ∈ us) {a b : Int} (h : Rch ts a b) : Rch us a b := h.mono fun t m => (p t).mp m
theorem tree_perm {ts us : Ties} (p : ∀ t, t ∈ ts ↔ t ∈ us) (T : Tree ts) : Tree us := fun t m h => T t ((p t).mpr m) (h.mono fun x hx => by
  obtain ⟨h1, h2⟩ := List.mem_filter.mp hx
  exact List.mem_filter.mpr ⟨(p x).mpr h1, h2⟩)
/-- with a tie cut its two are apart, and each is with one of them -/
theorem rch_cut {ts : Ties} {t : Int × Int} (mt : t ∈ ts) {a b : Int} (h : Rch ts a b) : Rch (ts.filter fun u => decide (u ≠ t)) a b ∨ (Rch (ts.filter fun u => decide (u ≠ t)) a t.1 ∧ Rch (ts.filter fun u => decide (u ≠ t)) t.2 b) ∨ (Rch (ts.filter fun u => decide (u ≠ t)) a t.2 ∧ Rch (ts.filter fun u => decide (u ≠ t)) t.1 b) := by
  induction h with
  | refl => exact .inl .refl
  | @step b c _ e ih =>
    have key : Adj (ts.filter fun u => decide (u ≠ t)) b c ∨ (b = t.1 ∧ c = t.2) ∨ (b = t.2 ∧ c = t.1) := by
      rcases e with e | e
      · by_cases q : (b, c) = t
        · exact .inr (.inl (by rw [← q]; exact ⟨rfl, rfl⟩))
        · exact .inl (.inl (List.mem_filter.mpr ⟨e, decide_eq_true q⟩))
      · by_cases q : (c, b) = t
        · exact .inr (.inr (by rw [← q]; exact ⟨rfl, rfl⟩))
        · exact .inl (.inr (List.mem_filter.mpr ⟨e, decide_eq_true q⟩))
    rcases key with k | ⟨rfl, rfl⟩ | ⟨rfl, rfl⟩
    · rcases ih with h | ⟨h1, h2⟩ | ⟨h1, h2⟩
      · exact .inl (.step h k)
      · exact .inr (.inl ⟨h1, .step h2 k⟩)
      · exact .inr (.inr ⟨h1, .step h2 k⟩)
    · rcases ih with h | ⟨h1, h2⟩ | ⟨h1, h2⟩
      · exact .inr (.inl ⟨h, .refl⟩)
      · exact .inr (.inl ⟨h1, .refl⟩)
      · exact .inl h1
    · rcases ih with h | ⟨h1, h2⟩ | ⟨h1, h2⟩
      · exact .inr (.inr ⟨h, .refl⟩)
      · exact .inl h1
      · exact .inr (.inr ⟨h1, .refl⟩)

theorem Wlk.split {ts : Ties} {b x : Int} {l2 : List Int} : ∀ {l1 : List Int} {a : Int}, Wlk ts a b (l1 ++ x :: l2) → Wlk ts a x (l1 ++ [x]) ∧ Wlk ts x b (x :: l2)
  | [], a, h => by
    have e : x = a := Option.some.inj h.head
    subst e
    exact ⟨.one x, h⟩
  | y :: l1, a, h => by
    have h : Wlk ts a b (y :: (l1 ++ x :: l2)) := h
    generalize hl : l1 ++ x :: l2 = l at h
    cases h with
    | one =>
      have := congrArg List.length hl
      rw [List.length_append, List.length_cons] at this
      exact absurd this (by simp)
    | cons e w =>
      rw [← hl] at w
      obtain ⟨h1, h2⟩ := Wlk.split w
      exact ⟨.cons e h1, h2⟩

/-! ### ends left out again and again: the ties of the way -/
def inc (v : Int) (t : Int × Int) : Nat := (if t.1 = v then 1 else 0) + (if t.2 = v then 1 else 0)
def cnt (l : Ties) (v : Int) : Nat := (l.map (inc v)).sum
theorem cnt_app (l k : Ties) (v : Int) : cnt (l ++ k) v = cnt l v + cnt k v := by
  unfold cnt
  rw [List.map_append, List.sum_append]
theorem cnt_cons (t : Int × Int) (l : Ties) (v : Int) : cnt (t :: l) v = inc v t + cnt l v := by
  unfold cnt
  rw [List.map_cons, List.sum_cons]
theorem inc_pos {v : Int} {t : Int × Int} (h : t.1 = v ∨ t.2 = v) : 1 ≤ inc v t := by
  unfold inc
  rcases h with h | h
  · rw [if_pos h]
    omega
  · rw [if_pos h]
    omega
theorem inc_zero {v : Int} {t : Int × Int} (h : ¬ (t.1 = v ∨ t.2 = v)) : inc v t = 0 := by
  unfold inc
  rw [if_neg fun z => h (.inl z), if_neg fun z => h (.inr z)]
theorem inc_le {v : Int} {t : Int × Int} (h : t.1 ≠ t.2) : inc v t ≤ 1 := by
  unfold inc
  by_cases e : t.1 = v
  · rw [if_pos e, if_neg fun z => h (e.trans z.symm)]
    exact Nat.le_refl _
  · rw [if_neg e]
    split <;> omega
theorem cnt_pos {l : Ties} {v : Int} {t : Int × Int} (m : t ∈ l) (h : t.1 = v ∨ t.2 = v) : 1 ≤ cnt l v := by
  obtain ⟨l1, l2, rfl⟩ := List.append_of_mem m
  rw [cnt_app, cnt_cons]
  have := inc_pos h
  omega
theorem cnt_two {l : Ties} {v : Int} {t u : Int × Int} (m : t ∈ l) (n : u ∈ l) (ne : t ≠ u) (h : t.1 = v ∨ t.2 = v) (g : u.1 = v ∨ u.2 = v) : 2 ≤ cnt l v := by
  obtain ⟨l1, l2, rfl⟩ := List.append_of_mem m
  rw [cnt_app, cnt_cons]
  have := inc_pos h
  rcases List.mem_append.mp n with n | n
  · have := cnt_pos n g
    omega
  · rcases List.mem_cons.mp n with n | n
    · exact absurd n.symm ne
    · have := cnt_pos n g
      omega
theorem cnt_mem {l : Ties} {v : Int} (h : 1 ≤ cnt l v) : ∃ t ∈ l, t.1 = v ∨ t.2 = v := by
  induction l with
  | nil => exact absurd h (by show ¬ 1 ≤ 0; decide)
  | cons t r ih =>
    by_cases e : t.1 = v ∨ t.2 = v
    · exact ⟨t, List.mem_cons_self, e⟩
    · rw [cnt_cons, inc_zero e, Nat.zero_add] at h
      obtain ⟨u, hu, e⟩ := ih h
      exact ⟨u, List.mem_cons_of_mem _ hu, e⟩
theorem cnt_other {l : Ties} {v : Int} {t : Int × Int} (nd : l.Nodup) (m : t ∈ l) (ne : t.1 ≠ t.2) (h : 2 ≤ cnt l v) : ∃ u ∈ l, u ≠ t ∧ (u.1 = v ∨ u.2 = v) := by
  obtain ⟨l1, l2, rfl⟩ := List.append_of_mem m
  rw [cnt_app, cnt_cons] at h
  have := inc_le (v := v) ne
  obtain ⟨n1, n2, n3⟩ := List.nodup_append.mp nd
  by_cases z : 1 ≤ cnt l1 v
  · obtain ⟨u, hu, e⟩ := cnt_mem z
    exact ⟨u, List.mem_append_left _ hu, fun x => n3 u hu t List.mem_cons_self x, e⟩
  · obtain ⟨u, hu, e⟩ := cnt_mem (show 1 ≤ cnt l2 v by omega)
    exact ⟨u, List.mem_append_right _ (List.mem_cons_of_mem _ hu), fun x => (List.nodup_cons.mp n2).1 (x ▸ hu), e⟩
theorem adj_tie {ts : Ties} {x y : Int} (h : Adj ts x y) : ∃ t ∈ ts, (t.1 = x ∧ t.2 = y) ∨ (t.1 = y ∧ t.2 = x) := by
  rcases h with h | h
  · exact ⟨_, h, .inl ⟨rfl, rfl⟩⟩
  · exact ⟨_, h, .inr ⟨rfl, rfl⟩⟩
theorem Wlk.next {ts : Ties} {v b : Int} {l : List Int} (h : Wlk ts v b (v :: l)) (ne : v ≠ b) : ∃ y ∈ l, Adj ts v y := by
  cases h with
  | one => exact absurd rfl ne
  | cons e w => exact ⟨_, w.mem_a, e⟩
/-- a point within a way has two ties of it -/
theorem way_two {ts : Ties} {a b v : Int} {p : List Int} (h : Way ts a b p) (m : v ∈ p) (na : v ≠ a) (nb : v ≠ b) : ∃ t ∈ ts, ∃ u ∈ ts, t ≠ u ∧ (t.1 = v ∨ t.2 = v) ∧ (u.1 = v ∨ u.2 = v) ∧ (t.1 ∈ p ∧ t.2 ∈ p) ∧ u.1 ∈ p ∧ u.2 ∈ p := by
  obtain ⟨l1, l2, rfl⟩ := List.append_of_mem m
  obtain ⟨w1, w2⟩ := Wlk.split h.wk
  have w3 := w1.rev
  rw [List.reverse_append] at w3
  obtain ⟨x, hx, ex⟩ := Wlk.next (l := l1.reverse) w3 na
  obtain ⟨y, hy, ey⟩ := Wlk.next w2 nb
  have hx : x ∈ l1 := List.mem_reverse.mp hx
  obtain ⟨n1, n2, n3⟩ := List.nodup_append.mp h.nd
  have xy : x ≠ y := n3 x hx y (List.mem_cons_of_mem _ hy)
  have xv : x ≠ v := n3 x hx v List.mem_cons_self
  have yv : y ≠ v := fun e => (List.nodup_cons.mp n2).1 (e ▸ hy)
  have px : x ∈ l1 ++ v :: l2 := List.mem_append_left _ hx
  have py : y ∈ l1 ++ v :: l2 := List.mem_append_right _ (List.mem_cons_of_mem _ hy)
  obtain ⟨t, mt, et⟩ := adj_tie ex
  obtain ⟨u, mu, eu⟩ := adj_tie ey
  refine ⟨t, mt, u, mu, fun e => ?_, ?_, ?_, ?_, ?_⟩
  · subst e
    omega
  · omega
  · omega
  · rcases et with ⟨e1, e2⟩ | ⟨e1, e2⟩ <;> rw [e1, e2]
    · exact ⟨m, px⟩
    · exact ⟨px, m⟩
  · rcases eu with ⟨e1, e2⟩ | ⟨e1, e2⟩ <;> rw [e1, e2]
    · exact ⟨m, py⟩
    · exact ⟨py, m⟩
structure Strip (ts : Ties) (a b : Int) (l : Ties) : Prop where
  nd : l.Nodup
  sub : ∀ t ∈ l, t ∈ ts
  keep : ∀ p, Way ts a b p → ∀ t ∈ ts, t.1 ∈ p → t.2 ∈ p → t ∈ l
def endB (l : Ties) (a b v : Int) : Bool := decide (cnt l v = 1 ∧ v ≠ a ∧ v ≠ b)
def goesB (l : Ties) (a b : Int) (t : Int × Int) : Bool := !endB l a b t.1 && !endB l a b t.2
theorem Strip.step {ts : Ties} {a b : Int} {l : Ties} (h : Strip ts a b l) : Strip ts a b (l.filter (goesB l a b)) := by
  refine ⟨h.nd.filter _, fun t m => h.sub t (List.mem_filter.mp m).1, fun p hp t mt m1 m2 => List.mem_filter.mpr ⟨h.keep p hp t mt m1 m2, ?_⟩⟩
  have no : ∀ v ∈ p, endB l a b v = false := fun v hv => by
    refine decide_eq_false fun z => ?_
    obtain ⟨c1, na, nb⟩ := z
    obtain ⟨t, mt, u, mu, ne, i1, i2, ⟨p1, p2⟩, p3, p4⟩ := way_two hp hv na nb
    have := cnt_two (h.keep p hp t mt p1 p2) (h.keep p hp u mu p3 p4) ne i1 i2
    omega
  unfold goesB
  rw [no _ m1, no _ m2]
  rfl
def Stable (l : Ties) (a b : Int) : Prop := ∀ v, v ≠ a → v ≠ b → cnt l v ≠ 1
theorem stable_of {l : Ties} {a b : Int} (h : (l.filter (goesB l a b)).length = l.length) : Stable (l.filter (goesB l a b)) a b := by
  have all : ∀ t ∈ l, goesB l a b t = true := List.length_filter_eq_length_iff.mp h
  have e : l.filter (goesB l a b) = l := List.filter_eq_self.mpr all
  rw [e]
  intro v na nb c1
  obtain ⟨t, mt, i⟩ := cnt_mem (l := l) (v := v) (by omega)
  have z := all t mt
  unfold goesB at z
  have ev : endB l a b v = true := decide_eq_true ⟨c1, na, nb⟩
  rcases i with i | i
  · rw [i, ev] at z
    cases z
  · rw [i, ev] at z
    revert z
    cases endB l a b t.1 <;> intro z <;> cases z
theorem Way.two {ts : Ties} {x y : Int} (e : Adj ts x y) (ne : x ≠ y) : Way ts x y [x, y] := ⟨.cons e (.one y), List.nodup_cons.mpr ⟨fun z => ne (List.mem_singleton.mp z), List.nodup_cons.mpr ⟨List.not_mem_nil, List.nodup_nil⟩⟩⟩
/-- whoever stands beside the last point of a way, and on it, is the one ahead of it -/
theorem way_back {ts : Ties} (T : Tree ts) {x y w : Int} {p : List Int} (h : Way ts x y p) (e : Adj ts y w) (ne : w ≠ y) (m : w ∈ p) : ∃ p1, p = p1 ++ [w, y] := by
  obtain ⟨p1, p2, rfl⟩ := List.append_of_mem m
  obtain ⟨_, w2⟩ := Wlk.split h.wk
  have nd := (List.nodup_append.mp h.nd).2.1
  have z := way_unique T ⟨w2, nd⟩ (Way.two e.symm ne)
  exact ⟨p1, by rw [z]⟩
theorem snoc_two {α : Type} {p : List α} (h : 2 ≤ p.length) : ∃ p1 z y, p = p1 ++ [z, y] := by
  obtain ⟨q, y, rfl⟩ : ∃ q y, p = q ++ [y] := ⟨p.dropLast, p.getLast (by intro e; rw [e] at h; exact absurd h (by simp)), (List.dropLast_concat_getLast _).symm⟩
  rw [List.length_append] at h
  have h : 1 ≤ q.length := by
    have : [y].length = 1 := rfl
    omega
  obtain ⟨r, z, rfl⟩ : ∃ r z, q = r ++ [z] := ⟨q.dropLast, q.getLast (by intro e; rw [e] at h; exact absurd h (by simp)), (List.dropLast_concat_getLast _).symm⟩
  exact ⟨r, z, y, by simp⟩
theorem Wlk.last {ts : Ties} {a b : Int} {l : List Int} (h : Wlk ts a b l) : ∃ q, l = q ++ [b] := by
  induction h with
  | one a => exact ⟨[], rfl⟩
  | @cons a c b l e w ih =>
    obtain ⟨q, rfl⟩ := ih
    exact ⟨a :: q, rfl⟩
/-- where no end is left but a and b, a way goes on to one of these -/
theorem strip_on {ts l : Ties} {a b : Int} {N : Nat} (T : Tree ts) (S : Strip ts a b l) (st : Stable l a b) (ord : ∀ t ∈ ts, t.1 < t.2) (bd : ∀ x y p, Way l x y p → 2 ≤ p.length → p.length ≤ N) : ∀ (k : Nat) {x y : Int} {p : List Int}, Way l x y p → 2 ≤ p.length → N + 1 ≤ p.length + k → ∃ e q, (e = a ∨ e = b) ∧ Way l x e (p ++ q)
  | 0, x, y, p, h, h2, hk => absurd (bd x y p h h2) (by omega)
  | k + 1, x, y, p, h, h2, hk => by
    by_cases ya : y = a
    · exact ⟨y, [], .inl ya, by rw [List.append_nil]; exact h⟩
    by_cases yb : y = b
    · exact ⟨y, [], .inr yb, by rw [List.append_nil]; exact h⟩
    obtain ⟨p1, z, y', ep⟩ := snoc_two h2
    obtain ⟨q, eq⟩ := h.wk.last
    have ey : y' = y := by
      have e1 : (p1 ++ [z]) ++ [y'] = q ++ [y] := by
        rw [← eq, ep]
        simp
      exact List.singleton_inj.mp (List.append_inj' e1 rfl).2
    subst ey
    have hz : Adj l z y' := by
      have w := h.wk
      rw [ep, show p1 ++ [z, y'] = p1 ++ z :: [y'] from rfl] at w
      have w2 := (Wlk.split w).2
      cases w2 with
      | cons e w =>
        cases w with
        | one => exact e
        | cons _ w => exact absurd rfl w.ne_nil
    have hw : Way ts x y' p := ⟨h.wk.mono S.sub, h.nd⟩
    have adjts : ∀ {u v : Int}, Adj l u v → Adj ts u v := fun e => e.mono S.sub
    obtain ⟨t, mt, et⟩ := adj_tie hz
    have ot := ord t (S.sub t mt)
    have c1 := cnt_pos mt (v := y') (by omega)
    have c2 := st y' ya yb
    obtain ⟨u, mu, ne, iu⟩ := cnt_other S.nd mt (Int.ne_of_lt ot) (show 2 ≤ cnt l y' by omega)
    have ou := ord u (S.sub u mu)
    obtain ⟨w, ew, wn, wz⟩ : ∃ w, Adj l y' w ∧ w ≠ y' ∧ w ≠ z := by
      rcases iu with i | i
      · refine ⟨u.2, .inl (by rw [← i]; exact mu), by omega, fun e => ne ?_⟩
        have h1 : u.1 = t.1 ∧ u.2 = t.2 := by omega
        exact Prod.ext h1.1 h1.2
      · refine ⟨u.1, .inr (by rw [← i]; exact mu), by omega, fun e => ne ?_⟩
        have h1 : u.1 = t.1 ∧ u.2 = t.2 := by omega
        exact Prod.ext h1.1 h1.2
    have wp : w ∉ p := fun m => by
      obtain ⟨r, er⟩ := way_back T hw (adjts ew) wn m
      rw [ep] at er
      have z1 := (List.append_inj' er rfl).2
      exact wz (List.cons.inj z1).1.symm
    obtain ⟨e, q2, he, hq⟩ := strip_on T S st ord bd k (h.snoc ew wp) (by rw [List.length_append]; omega) (by rw [List.length_append]; show N + 1 ≤ p.length + 1 + k; omega)
    exact ⟨e, [w] ++ q2, he, by rw [← List.append_assoc]; exact hq⟩
theorem strip_way {ts l : Ties} {a b : Int} {N : Nat} (T : Tree ts) (S : Strip ts a b l) (st : Stable l a b) (ord : ∀ t ∈ ts, t.1 < t.2) (bd : ∀ x y p, Way l x y p → 2 ≤ p.length → p.length ≤ N) {t : Int × Int} (mt : t ∈ l) : ∃ p, Way ts a b p ∧ t.1 ∈ p ∧ t.2 ∈ p := by
  have ot := ord t (S.sub t mt)
  obtain ⟨e1, q1, h1, w1⟩ := strip_on T S st ord bd (N + 1) (Way.two (ts := l) (x := t.1) (y := t.2) (.inl mt) (Int.ne_of_lt ot)) (Nat.le_refl _) (by omega)
  have w1r := w1.rev
  obtain ⟨e2, q2, h2, w2⟩ := strip_on T S st ord bd (N + 1) w1r (by rw [List.length_reverse, List.length_append]; show 2 ≤ 2 + q1.length; omega) (by omega)
  have m1 : t.1 ∈ ([t.1, t.2] ++ q1).reverse ++ q2 := List.mem_append_left _ (List.mem_reverse.mpr (List.mem_append_left _ List.mem_cons_self))
  have m2 : t.2 ∈ ([t.1, t.2] ++ q1).reverse ++ q2 := List.mem_append_left _ (List.mem_reverse.mpr (List.mem_append_left _ (List.mem_cons_of_mem _ List.mem_cons_self)))
  have ne : e1 ≠ e2 := fun e => by
    subst e
    have z := w2.self
    rw [z] at m1 m2
    have := List.mem_singleton.mp m1
    have := List.mem_singleton.mp m2
    omega
  have up : ∀ {x y : Int} {p : List Int}, Way l x y p → Way ts x y p := fun h => ⟨h.wk.mono S.sub, h.nd⟩
  rcases h1 with rfl | rfl
  · rcases h2 with rfl | rfl
    · exact absurd rfl ne
    · exact ⟨_, up w2, m1, m2⟩
  · rcases h2 with rfl | rfl
    · exact ⟨_, (up w2).rev, List.mem_reverse.mpr m1, List.mem_reverse.mpr m2⟩
    · exact absurd rfl ne
theorem strip_iff {ts l : Ties} {a b : Int} {N : Nat} (T : Tree ts) (S : Strip ts a b l) (st : Stable l a b) (ord : ∀ t ∈ ts, t.1 < t.2) (bd : ∀ x y p, Way l x y p → 2 ≤ p.length → p.length ≤ N) {p : List Int} (hp : Way ts a b p) (t : Int × Int) : t ∈ l ↔ t ∈ ts ∧ t.1 ∈ p ∧ t.2 ∈ p := by
  constructor
  · intro m
    obtain ⟨q, hq, h1, h2⟩ := strip_way T S st ord bd m
    rw [way_unique T hp hq]
    exact ⟨S.sub t m, h1, h2⟩
  · rintro ⟨m, h1, h2⟩
    exact S.keep p hp t m h1 h2
theorem strip_nil {ts l : Ties} {a b : Int} {N : Nat} (T : Tree ts) (S : Strip ts a b l) (st : Stable l a b) (ord : ∀ t ∈ ts, t.1 < t.2) (bd : ∀ x y p, Way l x y p → 2 ≤ p.length → p.length ≤ N) (n : ¬ Rch ts a b) : l = [] := by
  cases l with
  | nil => rfl
  | cons t r =>
    obtain ⟨p, hp, _⟩ := strip_way T S st ord bd (t := t) List.mem_cons_self
    exact absurd hp.wk.rch n
theorem strip_ne {ts l : Ties} {a b : Int} (S : Strip ts a b l) {p : List Int} (hp : Way ts a b p) (ne : a ≠ b) : l ≠ [] := fun e => by
  obtain ⟨q, rfl⟩ : ∃ q, p = a :: q := by
    cases hp.wk with
    | one => exact ⟨[], rfl⟩
    | cons _ _ => exact ⟨_, rfl⟩
  obtain ⟨y, hy, ey⟩ := Wlk.next hp.wk ne
  obtain ⟨t, mt, et⟩ := adj_tie ey
  have ma : a ∈ a :: q := List.mem_cons_self
  have my : y ∈ a :: q := List.mem_cons_of_mem _ hy
  have z : t ∈ l := S.keep _ hp t mt (by rcases et with ⟨h, _⟩ | ⟨h, _⟩ <;> rw [h] <;> assumption) (by rcases et with ⟨_, h⟩ | ⟨_, h⟩ <;> rw [h] <;> assumption)
  rw [e] at z
  cases z
/-- the other point of a tie -/
def othr (c : Int) (t : Int × Int) : Int := if t.1 = c then t.2 else t.1
def incB (c : Int) (t : Int × Int) : Bool := decide (t.1 = c ∨ t.2 = c)
theorem only_one {α : Type} {l : List α} {x : α} (nd : l.Nodup) (m : x ∈ l) (h : ∀ y ∈ l, y = x) : l = [x] := by
  cases l with
  | nil => cases m
  | cons y r =>
    obtain rfl := h y List.mem_cons_self
    cases r with
    | nil => rfl
    | cons z s =>
      obtain rfl := h z (List.mem_cons_of_mem _ List.mem_cons_self)
      exact absurd List.mem_cons_self (List.nodup_cons.mp nd).1
/-- the ties left lead on to just the next point of the way -/
theorem strip_next {ts l : Ties} (T : Tree ts) {a b c y : Int} {q r : List Int} (nd : l.Nodup) (iff : ∀ t, t ∈ l ↔ t ∈ ts ∧ t.1 ∈ q ++ c :: y :: r ∧ t.2 ∈ q ++ c :: y :: r) (ord : ∀ t ∈ ts, t.1 < t.2) (hp : Way ts a b (q ++ c :: y :: r)) : ((l.filter (incB c)).map (othr c)).filter (fun x => decide (x ∉ q ++ [c])) = [y] := by
  obtain ⟨w1, w2⟩ := Wlk.split hp.wk
  obtain ⟨n1, n2, n3⟩ := List.nodup_append.mp hp.nd
  have cy : c ≠ y := fun e => (List.nodup_cons.mp n2).1 (e ▸ List.mem_cons_self)
  have adj : Adj ts c y := by
    cases w2 with
    | cons e w =>
      have z := w.head
      have z : y = _ := Option.some.inj z
      rw [z]
      exact e
  obtain ⟨t0, m0, e0⟩ := adj_tie adj
  have mc : c ∈ q ++ c :: y :: r := List.mem_append_right _ List.mem_cons_self
  have my : y ∈ q ++ c :: y :: r := List.mem_append_right _ (List.mem_cons_of_mem _ List.mem_cons_self)
  have yq : y ∉ q ++ [c] := fun z => by
    rcases List.mem_append.mp z with z | z
    · exact n3 y z y (List.mem_cons_of_mem _ List.mem_cons_self) rfl
    · exact cy (List.mem_singleton.mp z).symm
  rw [List.filter_map]
  have key : (l.filter (incB c)).filter ((fun x => decide (x ∉ q ++ [c])) ∘ othr c) = [t0] := by
    refine only_one ((nd.filter _).filter _) ?_ ?_
    · refine List.mem_filter.mpr ⟨List.mem_filter.mpr ⟨(iff t0).mpr ⟨m0, ?_⟩, ?_⟩, ?_⟩
      · rcases e0 with ⟨e1, e2⟩ | ⟨e1, e2⟩ <;> rw [e1, e2]
        · exact ⟨mc, my⟩
        · exact ⟨my, mc⟩
      · exact decide_eq_true (by omega)
      · show decide (othr c t0 ∉ q ++ [c]) = true
        have e : othr c t0 = y := by
          unfold othr
          split <;> omega
        rw [e]
        exact decide_eq_true yq
    · intro t ht
      obtain ⟨ht, hn⟩ := List.mem_filter.mp ht
      obtain ⟨ml, hi⟩ := List.mem_filter.mp ht
      have hi : t.1 = c ∨ t.2 = c := of_decide_eq_true hi
      have hn : othr c t ∉ q ++ [c] := of_decide_eq_true hn
      obtain ⟨mts, p1, p2⟩ := (iff t).mp ml
      have ot := ord t mts
      have o0 := ord t0 m0
      have ew : Adj ts c (othr c t) ∧ othr c t ≠ c ∧ othr c t ∈ q ++ c :: y :: r := by
        unfold othr
        by_cases e : t.1 = c
        · rw [if_pos e]
          exact ⟨.inl (by rw [← e]; exact mts), by omega, p2⟩
        · rw [if_neg e]
          have e2 : t.2 = c := by omega
          exact ⟨.inr (by rw [← e2]; exact mts), e, p1⟩
      obtain ⟨ea, en, em⟩ := ew
      have mw : othr c t ∈ c :: y :: r := (List.mem_append.mp em).resolve_left fun z => hn (List.mem_append_left _ z)
      -- from c backwards: a way whose last is c
      have wr : Way ts b c (c :: y :: r).reverse := Way.rev ⟨w2, n2⟩
      obtain ⟨p, ep⟩ := way_back T wr ea en (List.mem_reverse.mpr mw)
      have e2 : othr c t = y := by
        rw [List.reverse_cons, List.reverse_cons, List.append_assoc] at ep
        have z := (List.append_inj' ep rfl).2
        exact (List.cons.inj z).1.symm
      have h1 : t.1 = t0.1 ∧ t.2 = t0.2 := by
        unfold othr at e2
        split at e2 <;> omega
      exact Prod.ext h1.1 h1.2
  rw [key]
  have e : othr c t0 = y := by
    unfold othr
    split <;> omega
  rw [List.map_cons, e]
  rfl

end My
namespace My
open PySem PySem.Spec PyProof.Rows L2
/-! ### sorted of a dict's keys, of a tuple: ints, any number of them -/
section
variable {X : Cx}
theorem call_sortedDX (hcalm : X.calm = true) : CallR X (.builtin "sorted") (fun xs H Q => ∃ (a : Addr) (kvs : List (Key × V)) (ks : List Int), xs = [.ref a] ∧ Rd H a (.dK kvs) ∧ kvs.map (·.1) = ks.map Sum.inl ∧ ks.length ≤ 100000 ∧
    ∀ (ys : List Int) (p : Addr), ys.Perm ks → ys.Pairwise (· ≤ ·) → H p = none → Q (.ref p) (upd H p (.lst (ys.map V.int)))) := by
  intro pins s σ H xs us Q I r q
  obtain ⟨a, kvs, ks, ex, hd, hks, hz, q⟩ := q
  subst ex
  obtain ⟨u, eu, rx⟩ := vals1 r
  subst eu
  cases rx
  obtain ⟨z, lo, vs, rel, dd⟩ := dk_rd I.hok hd
  obtain ⟨ep, hat⟩ := dd.dictAt
  have hkeys : vs.map (·.1) = ks.map Sum.inl := rel.keys.symm.trans hks
  have hl : vs.length = ks.length := by
    have e := congrArg List.length hkeys
    rw [List.length_map, List.length_map] at e
    exact e
  refine Calls.call_function_entry PyProof.Rows.kind_sorted PyProof.Rows.plain_sorted PyProof.Rows.entry_sorted (PyProof.Rows.args_sorted1 _) ?_
  unfold Builtin.«sorted»
  refine wpAny_bind (m := checkCount "sorted" 1 1 _) (wpAny_pure ?_)
  refine wpAny_bind (PySem.W.kdu_collect (A := X.A.in1) (PySem.W.kdl_dict (knd := mixKind X.prog X.w) (kvs := vs) (ep := ep) lo) (I.ok.hd hcalm) hat (by rw [hl]; exact sz hz) fun h' tk acc hk hacc => ?_)
  have hal : acc.toList.length = ks.length := by rw [Array.length_toList, hacc.1, hl]
  have hS : PyProof.Rows.IntsAre acc.toList ks := ints_each hal fun j v e => by
    obtain ⟨k, x, e1, e2⟩ := hacc.2 j v (by rw [← Array.getElem?_toList]; exact e)
    have e3 : (vs.map (·.1))[j]? = some k := by rw [List.getElem?_map, e1]; rfl
    rw [hkeys, List.getElem?_map] at e3
    cases e4 : ks[j]? with
    | none => rw [e4] at e3; cases e3
    | some y =>
      rw [e4] at e3
      have e5 : Sum.inl y = k := Option.some.inj e3
      subst e5
      rcases keyIs_shape (show keyIs (Sum.inl y) v = true from e2) with ⟨i, t, ek, ev⟩ | ⟨z, t, ek, ev⟩
      · cases ek
        exact ⟨y, t, rfl, ev⟩
      · cases ek
  have I1 : Inv X pins σ H { s with heap := h', toks := tk } := I.kept hk
  refine wpAny_bind (wpAny_newList ?_ (by rw [hal]; exact sz hz))
  have hoL : (h'.push (seqObj "list" acc.toList.toArray 0)).get? h'.objs.size = some (seqObj "list" acc.toList.toArray 0) := Heap.get?_push_size _ rfl
  show wpAny _ _ _ _ _ { s with heap := h'.push (seqObj "list" acc.toList.toArray 0), toks := tk }
  refine wpAny_bind (wpAny_holding (wpAny_call_entry PyProof.Rows.slot_list_sort ⟨_, hoL, rfl⟩ PyProof.Rows.entry_list_sort
    (SrtO.list_sort_ord (s := { s with heap := h'.push (seqObj "list" acc.toList.toArray 0), toks := tk }) SrtO.swo_int hoL (by rw [hal]; exact sz hz) (fun h2 => SrtO.ints_sortable hS h2) fun out h1 h2 => ⟨_, rfl, ?_⟩) (PyProof.Rows.args_list_sort _)))
  obtain ⟨k1, k2, k3⟩ := SrtO.ints_out hS h1 h2
  obtain ⟨e', he'⟩ := PyProof.Rows.sortedHeap_at (vs := acc.toList) (out := out.toArray) hoL
  have hlen : ((out.map SrtO.iv).map V.int).length ≤ sizeLine := by
    rw [List.length_map, k2.length_eq]
    exact sz hz
  refine wpAny_pure ⟨_, rfl, .ref h'.objs.size, upd H h'.objs.size (.lst ((out.map SrtO.iv).map V.int)), I1.laid (t' := tk) (fun b u e => ?_) (Nat.le_refl _)
    (show ObjOk X.prog X.w _ _ _ (.lst ((out.map SrtO.iv).map V.int)) from ⟨hlen, out, e', vals_of_ints k1, he'⟩), rfl, q _ _ k2 k3 (I1.hok.fresh (Nat.le_refl _))⟩
  have hb : b < h'.objs.size := Heap.lt_size e
  rw [PyProof.Rows.sortedHeap_old (Nat.ne_of_lt hb) (by rw [size_push']; exact Nat.lt_succ_of_lt hb)]
  exact Heap.get?_push_of_some _ e
end

/-! ### t[::-1] of a pair, sorted(tuple of ints) -/
theorem sliceApplied_rev2 {prog : Program} {w : World} {A : Around} {E : Value → Shared → Prop} {s : Shared} {sl : Addr} {vl vu vs : Value} {Q : Int × Int × Nat → Shared → Prop} (hs : s.heap.IsSliceOf sl vl vu vs) (pl : IsPart vl none) (pu : IsPart vu none) (ps : IsPart vs (some (-1)))
    (h : Q (1, -1, 2) s) : wpAny (model prog w) A (Builtin.Slice.sliceApplied (.ref sl) (pure (2 : Int))) Q E s := by
  obtain ⟨os, hos, hcs, hds⟩ := id hs
  unfold Builtin.Slice.sliceApplied Builtin.Slice.sliceFields
  refine wpAny_bind (wpAny_bind (wpAny_field hos hds (x := vl) rfl (wpAny_bind (wpAny_field hos hds (x := vu) rfl (wpAny_bind (wpAny_field hos hds (x := vs) rfl (wpAny_pure ?_)))))))
  refine wpAny_bind (HT.slicePart_ ps ?_)
  show wpAny _ _ (if ((-1 : Int) == 0) = true then _ else _) _ _ s
  rw [if_neg (by decide)]
  refine wpAny_bind (HT.slicePart_ pl (wpAny_bind (HT.slicePart_ pu (wpAny_bind (wpAny_pure ?_)))))
  exact wpAny_pure h
theorem getItem_rev2 {prog : Program} {w : World} {A : Around} {E : Value → Shared → Prop} {s : Shared} {t sl : Addr} {u v : Value} {vl vu vs : Value} {Q : Value → Shared → Prop} (ht : IsTup s.heap t #[u, v]) (hs : s.heap.IsSliceOf sl vl vu vs) (pl : IsPart vl none) (pu : IsPart vu none) (ps : IsPart vs (some (-1)))
    (h : Q (.ref s.heap.objs.size) { s with heap := s.heap.push { cls := .type "tuple", data := .seq #[v, u] } }) : wpAny (model prog w) A (getItem (.ref t) (.ref sl)) Q E s := by
  obtain ⟨os, hos, hcs, hds⟩ := id hs
  have hTs : s.TypeIs (.ref sl) "slice" := ⟨os, hos, hcs⟩
  have htake : sizeOk (.seq #[v, u]) := by
    show (#[v, u] : Array Value).size ≤ sizeLine
    exact (by show 2 ≤ sizeLine; decide)
  unfold getItem
  try with_reducible refine wpAny_holding ?_
  first | refine wpAny_bind (wpAny_pure ?_) | skip
  refine wpAny_bind (wpAny_sequenceKey ht.typeIs (by decide) ?_)
  refine wpAny_bind (wpAny_callSpecial?_slot (name := Str.ofString "__getitem__") ht.typeIs PyProof.Rows.slot_tuple_getitem
    (wpAny_call_entry PyProof.Rows.slot_tuple_getitem ht.typeIs PyProof.Rows.entry_tuple_getitem ?_ (PyProof.Rows.args_tuple_getitem _ _)))
  show wpAny _ _ (Builtin.Tuple.tupleItemsOf (.ref t) >>= _) _ _ s
  refine wpAny_bind (tupleItemsOf_ ht ?_)
  refine wpAny_bind (wpAny_typeOf hTs ?_)
  rw [if_pos (by decide)]
  refine wpAny_bind (sliceApplied_rev2 hs pl pu ps ?_)
  show wpAny _ _ (if (((1 : Int) == 0) && ((-1 : Int) == 1) && ((2 : Nat) == 2)) = true then _ else _) _ _ s
  rw [if_neg (by decide)]
  first
    | exact wpAny_bind (m := Builtin.Tuple.tupleExact _) (wpAny_newObj_type (wpAny_pure ⟨_, rfl, wpAny_pure h⟩) htake)
    | exact wpAny_bind (m := Builtin.Tuple.tupleExact _) (wpAny_newObj_type (wpAny_bind (wpAny_pure (wpAny_pure ⟨_, rfl, wpAny_pure h⟩))) htake)
    | exact wpAny_bind (wpAny_bind (m := Builtin.Tuple.tupleExact _) (wpAny_newObj_type (wpAny_pure (wpAny_pure ⟨_, rfl, wpAny_pure h⟩)) htake))
    | exact wpAny_bind (wpAny_bind (m := Builtin.Tuple.tupleExact _) (wpAny_newObj_type (wpAny_pure ⟨_, rfl, wpAny_pure h⟩) htake))
section
variable {X : Cx}
def tRev2 (K : PySem.W.Frag) (te : TE) : TE := fun σ H Q => te σ H fun x H1 => ∃ a y z, x = .ref a ∧ SqT K H1 a [y, z] ∧ ∀ p, H1 p = none → Q (.ref p) (upd H1 p (.tup [z, y]))
theorem pe_rev2 {e : Expr} {te : TE} {k : Nat} {p1 p2 p3 pos : Pos} (he : PE X e te) : PE X (.Subscript e (.Slice none none (some (.UnaryOp .USub (.Constant (.int 1) k p1) p2)) p3) pos) (tRev2 X.K te) := by
  refine ⟨fun pins s σ H Q I h => ?_⟩
  refine Subscript_ (thn (he.run pins s σ H _ I h) fun v s1 ⟨x, H1, I1, r1, q1⟩ => ?_)
  obtain ⟨a, y, z, ex, hx, q⟩ := q1
  subst ex
  cases r1
  have hst : PO X (some (.UnaryOp .USub (.Constant (.int 1) k p1) p2)) (tPart (tUn (rU fun i => .int (-i)) (tC (.int 1)))) := po_some (pe_un un_neg pe_int)
  refine wpAny_Slice (thn (po_none.run pins s1 σ H1 (fun o H2 => o = none ∧ H2 = H1) I1 ⟨rfl, rfl⟩) fun vl s2 ⟨l, H2, I2, pl, el, e2⟩ => ?_)
  subst el e2
  refine thn (po_none.run pins s2 σ H2 (fun o H3 => o = none ∧ H3 = H2) I2 ⟨rfl, rfl⟩) fun vu s3 ⟨u, H3, I3, pu, eu, e3⟩ => ?_
  subst eu e3
  refine thn (hst.run pins s3 σ H3 (fun o H4 => o = some (-1) ∧ H4 = H3) I3 ⟨1, rfl, -1, rfl, rfl, rfl⟩) fun vs s4 ⟨o, H4, I4, ps, eo, e4⟩ => ?_
  subst eo e4
  have I5 : Inv X pins σ H4 { s4 with heap := s4.heap.push { cls := .type "slice", data := .fields #[vl, vu, vs] } } := I4.kept (t' := s4.toks) fun b ob q => Heap.get?_push_of_some _ q
  obtain ⟨its, r, ht, hz⟩ := I5.tuple hx
  obtain ⟨u1, u2, rfl, ry, rz⟩ := vals2 r
  show wpAny (model X.prog X.w) X.A (subscriptTail e (.Slice none none (some (.UnaryOp .USub (.Constant (.int 1) k p1) p2)) p3) (.ref a) (.ref s4.heap.objs.size)) (EP X pins σ Q) X.xe { s4 with heap := s4.heap.push { cls := .type "slice", data := .fields #[vl, vu, vs] } }
  refine tail_any (ops := [.ref a, .ref s4.heap.objs.size]) ht.typeIs (PyProof.Rows.slot_tuple_getitem.lookup) ?_ (by with_unfolding_all rfl)
  refine getItem_rev2 ht (Heap.IsSliceOf.new _ vl vu vs) pl pu ps ?_
  refine ⟨.ref _, _, I5.laid (t' := s4.toks) (o := .tup [z, y]) (fun b ob q => Heap.get?_push_of_some _ q) (Nat.le_refl _) ?_, rfl, q _ (I5.hok.fresh (Nat.le_refl _))⟩
  exact ⟨(by show 2 ≤ sizeLine; decide), _, .cons rz (.cons ry .nil), IsTup.new _ _⟩
/-- sorted(t), ints -/
theorem cr_sortedIT : CallR X (.builtin "sorted") (fun xs H Q => ∃ (a : Addr) (ks : List Int), xs = [.ref a] ∧ SqT X.K H a (ks.map V.int) ∧
    ∀ (ys : List Int) (p : Addr), ys.Perm ks → ys.Pairwise (· ≤ ·) → H p = none → Q (.ref p) (upd H p (.lst (ys.map V.int)))) := by
  intro pins s σ H xs us Q I r q
  obtain ⟨a, ks, ex, hd, q⟩ := q
  subst ex
  obtain ⟨u, eu, rx⟩ := vals1 r
  subst eu
  cases rx
  obtain ⟨its, rv, ht, hz⟩ := I.tuple hd
  have hS : PyProof.Rows.IntsAre its ks := rv.ints
  have hal : its.length = ks.length := by
    have := rv.length
    rw [List.length_map] at this
    exact this.symm
  rw [List.length_map] at hz
  obtain ⟨o, ho, hc, n, hdt⟩ := id ht
  refine Calls.call_function_entry PyProof.Rows.kind_sorted PyProof.Rows.plain_sorted PyProof.Rows.entry_sorted (PyProof.Rows.args_sorted1 _) ?_
  unfold Builtin.«sorted»
  refine wpAny_bind (m := checkCount "sorted" 1 1 _) (wpAny_pure ?_)
  refine wpAny_bind (wpAny_collect_seq a (T := "tuple") (.inr rfl) ho hc hdt (fun h' hk => ?_) (by rw [List.size_toArray, hal]; exact hz))
  have I1 : Inv X pins σ H { s with heap := h' } := I.kept (t' := s.toks) hk
  refine wpAny_bind (wpAny_newList ?_ (by rw [List.toList_toArray, hal]; exact hz))
  have hoL : (h'.push (seqObj "list" its.toArray.toList.toArray 0)).get? h'.objs.size = some (seqObj "list" its.toArray.toList.toArray 0) := Heap.get?_push_size _ rfl
  show wpAny _ _ _ _ _ { s with heap := h'.push (seqObj "list" its.toArray.toList.toArray 0) }
  refine wpAny_bind (wpAny_holding (wpAny_call_entry PyProof.Rows.slot_list_sort ⟨_, hoL, rfl⟩ PyProof.Rows.entry_list_sort
    (SrtO.list_sort_ord (s := { s with heap := h'.push (seqObj "list" its.toArray.toList.toArray 0) }) (vs := its) SrtO.swo_int hoL (by rw [hal]; exact hz) (fun h2 => SrtO.ints_sortable hS h2) fun out h1 h2 => ⟨_, rfl, ?_⟩) (PyProof.Rows.args_list_sort _)))
  obtain ⟨k1, k2, k3⟩ := SrtO.ints_out hS h1 h2
  obtain ⟨e', he'⟩ := PyProof.Rows.sortedHeap_at (vs := its) (out := out.toArray) hoL
  have hlen : ((out.map SrtO.iv).map V.int).length ≤ sizeLine := by
    rw [List.length_map, k2.length_eq]
    exact hz
  refine wpAny_pure ⟨_, rfl, .ref h'.objs.size, upd H h'.objs.size (.lst ((out.map SrtO.iv).map V.int)), I1.laid (t' := s.toks) (fun b u e => ?_) (Nat.le_refl _)
    (show ObjOk X.prog X.w _ _ _ (.lst ((out.map SrtO.iv).map V.int)) from ⟨hlen, out, e', vals_of_ints k1, he'⟩), rfl, q _ _ k2 k3 (I1.hok.fresh (Nat.le_refl _))⟩
  have hb : b < h'.objs.size := Heap.lt_size e
  rw [PyProof.Rows.sortedHeap_old (Nat.ne_of_lt hb) (by rw [size_push']; exact Nat.lt_succ_of_lt hb)]
  exact Heap.get?_push_of_some _ e
end

end My
namespace My
open PySem PySem.Spec PyProof.Rows L2
/-! ### t.index(x) of a tuple of flat things -/
def rTupIx (K : PySem.W.Frag) : V → List V → Hp → VK → Prop := fun x xs H Q => ∃ (p : Addr) (ys : List V) (y : V) (j : Nat) (z : V), x = .ref p ∧ xs = [y] ∧ SqT K H p ys ∧ flatV y = true ∧ ys.all flatV = true ∧ ys[j]? = some z ∧ eqV z y = true ∧ (∀ (m : Nat) (z' : V), m < j → ys[m]? = some z' → eqV z' y = false) ∧ Q (.int (j : Nat)) H
theorem mt_tupIx {X : Cx} {K : PySem.W.Frag} (hK : X.K = K) : MtR X "tuple.index" (rTupIx K) := by
  subst hK
  intro pins s σ H x xs v us Q I rx rs h
  obtain ⟨p, ys, y, j, z, rfl, rfl, hq, fy, fys, hz, hzj, hno, q⟩ := h
  cases rx
  obtain ⟨uy, rfl, ry⟩ := vals1 rs
  obtain ⟨its, rv, pl, hlen⟩ := I.tuple hq
  obtain ⟨⟨cls, dd, dt, sl⟩, ho, hc, n, hd⟩ := pl
  simp only at hc hd
  subst hc
  subst hd
  obtain ⟨u, hu, ru⟩ := rv.get hz
  obtain ⟨hjl, hje⟩ := List.getElem?_eq_some_iff.mp hu
  have hvl := rv.length
  have hj : j < its.toArray.size := by simpa using hjl
  refine call_meets PySem.F.slot_tuple_index ⟨_, ho, rfl⟩ PySem.F.entry_tuple_index (PySem.F.args_tuple_index_2 _ _) (TI.tuple_indexAt p its.toArray n dd sl uy (eqU y) j hj ?_ ?_)
    ⟨ho, fun u' hu' => mem_eqAt ry fy rv fys u' (by simpa using hu'), ⟨.int (j : Nat), H, I.tok _, ⟨_, rfl⟩, q⟩⟩
  · have e1 : its.toArray[j] = u := by simpa using hje
    rw [e1, eqU_of ru (flat_at fys hz)]
    exact hzj
  · intro m hm hmj
    have hml : m < its.length := by simpa using hm
    have hmy : m < ys.length := by omega
    have hy' : ys[m]? = some ys[m] := List.getElem?_eq_getElem hmy
    obtain ⟨u2, hu2, ru2⟩ := rv.get hy'
    obtain ⟨_, hme⟩ := List.getElem?_eq_some_iff.mp hu2
    have e1 : its.toArray[m] = u2 := by simpa using hme
    rw [e1, eqU_of ru2 (flat_at fys hy')]
    exact hno m _ hmj hy'

/-! ### tuples whose own object is known, and their methods -/
def tTupX (t : TA) : TE := fun σ H Q => t σ H fun xs H1 => xs.length ≤ sizeLine ∧ ∀ (p : Addr) (o : Obj), o.dict = none → H1 p = none → Q (.ref p) (upd H1 p (.frz o (.tup xs)))
theorem pe_tupX {X : Cx} {es : List Expr} {t : TA} {pos : Pos} {x1 : Nat} (h : PA X es t) : PE X (.Tuple es x1 pos) (tTupX t) := by
  refine ⟨fun pins s σ H Q I hq => ?_⟩
  refine wpAny_Tuple_spliced (thn (h.run pos pins s σ H _ I hq) fun us s1 ⟨xs, H1, I1, r, z, q⟩ => ⟨by rw [← r.length]; exact z, ?_⟩)
  have hf : H1 s1.heap.objs.size = none := I1.hok.fresh (Nat.le_refl _)
  refine ⟨.ref s1.heap.objs.size, upd H1 s1.heap.objs.size (.frz { cls := .type "tuple", data := .seq us.toArray } (.tup xs)), I1.laid (t' := s1.toks) (fun b u e => Heap.get?_push_of_some _ e) (Nat.le_refl _) ?_, rfl, q _ _ rfl hf⟩
  exact ⟨Heap.get?_push_size _ rfl, z, us, r, ⟨_, Heap.get?_push_size _ rfl, rfl, _, rfl⟩⟩
def tTM (r : V → List V → Hp → VK → Prop) (to : TE) (t : TA) : TE := fun σ H Q => to σ H fun x H1 => (∃ (p : Addr) (o : Obj) (ys : List V), x = .ref p ∧ o.dict = none ∧ H1 p = some (.frz o (.tup ys))) ∧ t σ H1 fun xs H2 => r x xs H2 Q
/-- a method of a tuple of H whose object is known -/
theorem pe_tm {X : Cx} {o e : Expr} {es : List Expr} {to : TE} {t : TA} {name : Str} {apos cpos : Pos} {id : String} {r : V → List V → Hp → VK → Prop} (slot : Slot "tuple" name id) (hty : typeOf (.builtin id) = pure (.type "method_descriptor")) (hm : MtR X id r) (ho : PE X o to) (ha : PA X (e :: es) t)
    (hbase : attributeBase o name X.env (eval o X.env) = eval o X.env := by rfl)
    (hfew : ((backTo cpos (starEach (e :: es) X.env)).all (fun x => !x.1) && (backToKw cpos (keywordEach [] X.env)).all (fun x => x.1.isSome)
      && decide ((e :: es).length + ([] : List Keyword).length + (if ([] : List Keyword).isEmpty then 0 else 1) < 30)) = true := by rfl)
    (hline : (apos.endLine == cpos.line) = true := by rfl) (hs : starEach (e :: es) X.env = (false, eval e X.env) :: starEach es X.env := by rfl) (hplain : (backTo cpos (starEach es X.env)).any (·.1) = false := by rfl) :
    PE X (.Call (.Attribute o name apos) (e :: es) [] cpos) (tTM r to t) := by
  refine ⟨fun pins s σ H Q I h => ?_⟩
  refine wpAny_Call_method_late hbase hfew hline rfl (thn (ho.run pins s σ H _ I h) fun v s1 ⟨x, H1, I1, r1, ty, q1⟩ => ?_)
  obtain ⟨p, ob, ys, rfl, hod, hp⟩ := ty
  obtain rfl : v = Value.ref p := r1
  obtain ⟨e1, z1, its, rv, ⟨o2, e2, c2, n2, d2⟩⟩ := I1.hok p _ hp
  refine ⟨"tuple", id, PySem.F.plainAttrs_tuple, slot, hty, ⟨o2, e2, c2⟩, fun a ea => ?_, ?_⟩
  · cases ea
    exact ⟨ob, e1, hod⟩
  · have hA := ha.run cpos pins s1 σ H1 _ I1 q1
    rw [hs] at hA ⊢
    refine Calls.callWith_builtin (by show (false || (backTo cpos (starEach es X.env)).any (·.1)) = false; rw [hplain] <;> rfl) (Calls.evalArgs_plain ?_)
    exact thn hA fun us s2 ⟨vs, H2, I2, r2, q2⟩ => hm pins s2 σ H2 (.ref p) vs (.ref p) us Q I2 rfl r2 q2

/-! ### repr of a display or of None -/
def rReprN (K : PySem.W.Frag) : List V → Hp → VK → Prop := fun xs H Q => ∃ (v : V) (d : PyData), xs = [v] ∧ Dp K H v d ∧ (d = .none ∨ (PyProof.Rows.isDisplay d = true ∧ d.showable = true ∧ d.hasDict = false ∧ d.depth ≤ 50 ∧ d.shown.length ≤ sizeLine)) ∧ Q (.str d.shown) H
theorem call_reprN {X : Cx} (none_ : X.A.guards = some []) (room : X.A.units + 64 < cLine) : CallR X (.builtin "repr") (rReprN X.K) := by
  intro pins s σ H xs us Q I r h
  obtain ⟨v, d, rfl, dp, c, q⟩ := h
  rcases c with rfl | ⟨disp, shw, nod, dep, len⟩
  · cases dp
    obtain ⟨u, rfl, ru⟩ := vals1 r
    obtain rfl : u = Value.none := ru
    exact PySem.P.repr_of_none ⟨.str "None", H, I.tok _, ⟨_, rfl⟩, q⟩
  · exact call_repr none_ room pins s σ H _ us Q I r ⟨v, d, rfl, dp, disp, shw, nod, dep, len, q⟩

/-! ### len(set(t)) of a tuple of whole numbers -/
def tLenSetT (K : PySem.W.Frag) (ta : TE) : TE := fun σ H Q => ta σ H fun x H1 => ∃ (p : Addr) (ns : List Int), x = .ref p ∧ SqT K H1 p (ns.map V.int) ∧ ns.length ≤ 1000 ∧ ∀ out : List Int, out.Nodup → (∀ k, k ∈ out ↔ k ∈ ns) → Q (.int (out.length : Nat)) H1
theorem pe_lenSetT {X : Cx} {a : Expr} {ta : TE} {p p2 q pos : Pos} (hc : X.calm = true) (hg : Gl X "len") (hm : X.mg "len" = none) (hg2 : Gl X "set") (hm2 : X.mg "set" = none) (ha : PE X a ta)
    (na : starEach [a] X.env = (false, eval a X.env) :: starEach [] X.env := by rfl) : PE X (.Call (.Name "len" p) [.Call (.Name "set" p2) [a] [] q] [] pos) (tLenSetT X.K ta) := by
  refine ⟨fun pins s σ H Q I h => ?_⟩
  refine Call_ (ld_blt I hg hm boot_len ?_)
  refine PyProof.Rows.callWith_builtin1 (PyProof.Rows.args_cons ?_ rfl) rfl rfl
  refine Call_ (ld_blt I hg2 hm2 boot_set ?_)
  refine PyProof.Rows.callWith_type1 (PyProof.Rows.args_cons (thn (ha.run pins s σ H _ I h) fun v s1 ⟨x, H1, I1, r1, q1⟩ => PyProof.Rows.args_nil ?_) na) na rfl
  obtain ⟨p0, ns, rfl, hq, hl, q1⟩ := q1
  cases r1
  obtain ⟨its, rv, pt, hz⟩ := I1.tuple hq
  have hi : IntsAre its.toArray.toList ns := ints_of_vals rv
  refine call_set_tupI ns (I1.ok.hd hc) (show s1.heap.IsTuple p0 its.toArray from pt) hi (by unfold scanBound; omega) fun h' tk c R1 hcn k => ?_
  refine PyProof.Rows.args_nil ?_
  obtain ⟨o, es, ep, t, ho, hex, hdt, g, nd, hm2, hb, hf, hn, hr, hl2⟩ := R1
  have I2 : Inv X pins σ H1 { s1 with heap := h', toks := tk } := I1.kept fun b o e => k b o e
  have z := q1 (es.toList.map keyOf) nd fun j => by rw [← hm2 j, decide_eq_true_eq]
  rw [List.length_map, Array.length_toList] at z
  exact call_len_set (s := { s1 with heap := h', toks := tk }) ho hex hdt hf (by rw [hn]; omega) ⟨.int es.size, H1, I2.tok _, ⟨_, rfl⟩, z⟩
/-! ### all of a generator expression, by a walk -/
theorem gturns_it {J : It} {n : Nat} {G : Hp → Prop} {Y : Nat → Hp → V → Hp → Prop} (wk : Walk J n G Y) {g : TG} {te : TE} {σw : L2.St} {vs : List Nat} {Q : Bool → Hp → Prop} {H : Hp} (Pv : Nat → Hp → Prop) (h0 : Pv 0 H) (hG : ∀ i H, i ≤ n → Pv i H → G H)
    (hs : ∀ (i : Nat) (x : V) (H H' : Hp) (N : Hp → Prop), i < n → Pv i H → Y i H x H' → (∀ H3, Pv (i + 1) H3 → N H3) → g x σw H' fun σ2 H2 => wipe σ2 vs = σw ∧ te σ2 H2 fun v H3 => ∃ b, v = .bl b ∧ if b = true then N H3 else Q false H3)
    (hd : ∀ H, Pv n H → Q true H) : ∃ W : Nat → Nat → Hp → Prop, (∃ m, W 0 m H) ∧ gTurns J g te σw vs W Q := by
  refine ⟨fun i m H => m = n - i ∧ i ≤ n ∧ Pv i H, ⟨n, rfl, Nat.zero_le _, h0⟩, fun i m H st => ?_⟩
  obtain ⟨em, le, pv⟩ := st
  have q := hG i H le pv
  rcases Nat.lt_or_eq_of_le le with lt | eq
  · refine .inr ⟨wk.goes i H lt q, fun v H' y => ?_⟩
    exact hs i v H H' _ lt pv (wk.yields i H v H' lt q y) fun H3 p' => ⟨n - (i + 1), by omega, rfl, lt, p'⟩
  · subst eq
    exact .inl ⟨wk.stops H q, hd H pv⟩
theorem walk_zipT {K : PySem.W.Frag} {a b : Addr} {xs ys : List V} {n : Nat} (hn : n = min xs.length ys.length) : Walk (RZ.ItzT K a b) n (fun H => SqT K H a xs ∧ SqT K H b ys) (YPair (fun i => xs[i]?) (fun i => ys[i]?)) := by
  subst hn
  refine ⟨fun i _ hi q => ?_, fun _ q => ⟨xs, ys, q.1, q.2, by omega⟩, fun i H v H' _ q y => ?_⟩
  · have h1 : i < xs.length := by omega
    have h2 : i < ys.length := by omega
    exact ⟨xs, ys, xs[i], ys[i], q.1, q.2, by simp [h1], by simp [h2]⟩
  · obtain ⟨T, x, z, h1, h2, h3, h4, h5⟩ := y
    exact ⟨T, x, z, h1, h2, h3, h4 xs q.1, h5 ys q.2⟩

/-! ### a list's method within a block -/
theorem mt_countBK {X : Cx} {K : PySem.W.Frag} (hK : X.K = K) : MtR X "list.count" (rCntB K) := by
  subst hK
  exact mt_countB
theorem call_isiK {X : Cx} {K : PySem.W.Frag} (hK : X.K = K) : CallR X (.builtin "isinstance") (rIsi K) := by
  subst hK
  exact call_isi
theorem pe_bmK {X : Cx} {K : PySem.W.Frag} (hK : X.K = K) {o e : Expr} {es : List Expr} {to : TE} {t : TA} {name : Str} {apos cpos : Pos} {T id : String} {r : V → List V → Hp → VK → Prop} (pa : PlainAttrs T) (slot : Slot T name id) (hty : typeOf (.builtin id) = pure (.type "method_descriptor")) (hm : MtR X id r) (ho : PE X o to) (ha : PA X (e :: es) t)
    (hbase : attributeBase o name X.env (eval o X.env) = eval o X.env := by rfl)
    (hfew : ((backTo cpos (starEach (e :: es) X.env)).all (fun x => !x.1) && (backToKw cpos (keywordEach [] X.env)).all (fun x => x.1.isSome)
      && decide ((e :: es).length + ([] : List Keyword).length + (if ([] : List Keyword).isEmpty then 0 else 1) < 30)) = true := by rfl)
    (hline : (apos.endLine == cpos.line) = true := by rfl) (hs : starEach (e :: es) X.env = (false, eval e X.env) :: starEach es X.env := by rfl) (hplain : (backTo cpos (starEach es X.env)).any (·.1) = false := by rfl) :
    PE X (.Call (.Attribute o name apos) (e :: es) [] cpos) (tBM K T r to t) := by
  subst hK
  exact pe_bm pa slot hty hm ho ha hbase hfew hline hs hplain

/-! ### rules within a block, the written part by its own letter -/
theorem ix_tupK {X : Cx} {K : PySem.W.Frag} (hK : X.K = K) : IxR X (rIxT K) := by
  subst hK
  exact ix_tup
theorem ix_listK {X : Cx} {K : PySem.W.Frag} (hK : X.K = K) : IxR X (rIxL K) := by
  subst hK
  exact ix_list
theorem call_len_seqK {X : Cx} {K : PySem.W.Frag} (hK : X.K = K) : CallR X (.builtin "len") (fun xs H Q => ∃ p ys, xs = [.ref p] ∧ (SqL K H p ys ∨ SqT K H p ys) ∧ Q (.int ys.length) H) := by
  subst hK
  exact call_len_seq

end My
namespace My
open PySem PySem.Spec PyProof.Rows L2
/-! ### dict(xs) of a list of pairs whose keys are tuples of whole numbers, the values all True -/
section
variable {κ : Type} [DecidableEq κ]
theorem atKey_mem {xs : List (κ × Addr × Value)} {k : κ} : (atKey xs k).isSome = decide (k ∈ xs.map (·.1)) := by
  induction xs with
  | nil => rfl
  | cons x r ih =>
    unfold atKey at ih ⊢
    rw [List.find?_cons]
    by_cases e : x.1 = k
    · simp [e]
    · have e' : ¬ k = x.1 := fun z => e z.symm
      simp only [e, decide_false]
      rw [ih]
      simp [e']
theorem storedH_keys (xs : List (κ × Addr × Value)) (k : κ) (a : Addr) (v : Value) (j : κ) : j ∈ (storedH xs k a v).map (·.1) ↔ j ∈ xs.map (·.1) ∨ j = k := by
  unfold storedH
  by_cases h : (atKey xs k).isSome = true
  · rw [if_pos h, List.map_map]
    have e : ((fun x : κ × Addr × Value => x.1) ∘ putAt k v) = fun x : κ × Addr × Value => x.1 := by
      funext x
      show (putAt k v x).1 = x.1
      unfold putAt
      split <;> rfl
    rw [e]
    refine ⟨.inl, fun z => z.elim id fun z => ?_⟩
    subst z
    rw [atKey_mem] at h
    exact of_decide_eq_true h
  · rw [if_neg h, List.map_append, List.mem_append]
    exact ⟨fun z => z.imp id fun z => List.mem_singleton.mp z, fun z => z.imp id fun z => List.mem_singleton.mpr z⟩
theorem storedAll_keys : ∀ (ps xs : List (κ × Addr × Value)) (j : κ), j ∈ (storedAllH xs ps).map (·.1) ↔ j ∈ xs.map (·.1) ∨ j ∈ ps.map (·.1)
  | [], xs, j => ⟨.inl, fun z => z.elim id fun z => nomatch z⟩
  | p :: ps, xs, j => by
    show j ∈ (storedAllH (storedH xs p.1 p.2.1 p.2.2) ps).map (·.1) ↔ _
    rw [storedAll_keys ps, storedH_keys, List.map_cons, List.mem_cons, or_assoc]
theorem storedAll_vals {u : Value} : ∀ {ps xs : List (κ × Addr × Value)}, (∀ x ∈ xs, x.2.2 = u) → (∀ x ∈ ps, x.2.2 = u) → ∀ x ∈ storedAllH xs ps, x.2.2 = u
  | [], _, h, _ => h
  | p :: ps, xs, h, hp => storedAll_vals (ps := ps) (fun x hx => by
      have hx : x ∈ storedH xs p.1 p.2.1 p.2.2 := hx
      unfold storedH at hx
      split at hx
      · obtain ⟨y, hy, rfl⟩ := List.mem_map.mp hx
        unfold putAt
        split
        · exact hp p List.mem_cons_self
        · exact h y hy
      · rcases List.mem_append.mp hx with hx | hx
        · exact h x hx
        · rw [List.mem_singleton.mp hx]
          exact hp p List.mem_cons_self) fun x hx => hp x (List.mem_cons_of_mem _ hx)
end
section
variable {X : Cx}
/-- the pairs in the heap -/
def TPairs (H : Hp) (ps : List Addr) (ks : List (List Key)) : Prop := ps.length = ks.length ∧ ∀ (j : Nat) (p : Addr) (k : List Key), ps[j]? = some p → ks[j]? = some k → ∃ b, H p = some (.tup [.ref b, .bl true]) ∧ H b = some (.tup (k.map kV))
theorem call_dictT (hcalm : X.calm = true) (hu : X.A.units + 2 < cLine) : CallR X (.type "dict") (fun xs H Q => ∃ (a : Addr) (ps : List Addr) (ks : List (List Key)), xs = [.ref a] ∧ H a = some (.lst (ps.map V.ref)) ∧ TPairs H ps ks ∧
    ∀ (p : Addr) (out : List (List Key)), out.Nodup → (∀ k, k ∈ out ↔ k ∈ ks) → H p = none → Q (.ref p) (upd H p (.dT (out.map fun k => (k, V.bl true))))) := by
  intro pins s σ H xs us Q I r q
  obtain ⟨a, ps, ks, ex, hq, ⟨hl, hp⟩, q⟩ := q
  subst ex
  obtain ⟨u, eu, rx⟩ := vals1 r
  subst eu
  cases rx
  obtain ⟨z0, its, n0, rv, g0⟩ := (show ObjOk X.prog X.w H s.heap a (.lst (ps.map V.ref)) from I.hok a _ hq)
  have ei := refs_at rv
  subst ei
  rw [List.length_map] at z0
  have hb : ∀ j, j < ps.length → ∃ (p b : Addr) (k : List Key), ps[j]? = some p ∧ ks[j]? = some k ∧ H p = some (.tup [.ref b, .bl true]) ∧ H b = some (.tup (k.map kV)) := fun j hj => by
    have e1 : ps[j]? = some ps[j] := List.getElem?_eq_getElem hj
    have e2 : ks[j]? = some (ks[j]'(hl ▸ hj)) := List.getElem?_eq_getElem _
    obtain ⟨b, h1, h2⟩ := hp j _ _ e1 e2
    exact ⟨_, b, _, e1, e2, h1, h2⟩
  let f : Nat → Addr := fun j => if h : j < ps.length then Classical.choose (Classical.choose_spec (hb j h)) else 0
  have hf : ∀ j, j < ps.length → ∃ (p : Addr) (k : List Key), ps[j]? = some p ∧ ks[j]? = some k ∧ H p = some (.tup [.ref (f j), .bl true]) ∧ H (f j) = some (.tup (k.map kV)) := fun j hj => by
    obtain ⟨k, h1, h2, h3, h4⟩ := Classical.choose_spec (Classical.choose_spec (hb j hj))
    refine ⟨_, k, h1, h2, ?_, ?_⟩
    · show H _ = some (.tup [.ref (if h : j < ps.length then _ else 0), .bl true])
      rw [dif_pos hj]
      exact h3
    · show H (if h : j < ps.length then _ else 0) = _
      rw [dif_pos hj]
      exact h4
  let ks3 : List (List Key × Addr × Value) := (List.range ps.length).map fun j => (ks.getD j [], f j, .bool true)
  let vps : List (Value × Value) := (List.range ps.length).map fun j => (.ref (f j), .bool true)
  have vl : vps.length = ps.length := by simp [vps]
  have kl : ks3.length = ps.length := by simp [ks3]
  have va : ∀ (j : Nat) (k v : Value), vps[j]? = some (k, v) → j < ps.length ∧ k = .ref (f j) ∧ v = .bool true := fun j k v e => by
    have hj : j < ps.length := vl ▸ (List.getElem?_eq_some_iff.mp e).1
    have e2 : vps[j]? = some (.ref (f j), .bool true) := by simp [vps, hj]
    rw [e2] at e
    cases Option.some.inj e
    exact ⟨hj, rfl, rfl⟩
  have ka : ∀ j, j < ps.length → ks3[j]? = some (ks.getD j [], f j, .bool true) := fun j hj => by simp [ks3, hj]
  have km : ∀ x ∈ ks3, x.2.2 = .bool true ∧ H x.2.1 = some (.tup (x.1.map kV)) ∧ x.1 ∈ ks := fun x hx => by
    obtain ⟨j, hj, rfl⟩ := List.mem_map.mp hx
    have hj := List.mem_range.mp hj
    obtain ⟨p, k, _, h2, _, h4⟩ := hf j hj
    have e : ks.getD j [] = k := by rw [List.getD_eq_getElem?_getD, h2]; rfl
    refine ⟨rfl, ?_, ?_⟩
    · show H (f j) = some (.tup ((ks.getD j []).map kV))
      rw [e]
      exact h4
    · show ks.getD j [] ∈ ks
      rw [e]
      exact List.mem_of_getElem? h2
  have ok : PlainSeq "list" s.heap a (ps.map Value.ref).toArray ∧ PairItems s.heap (ps.map Value.ref).toArray (fun j => ps.getD j 0) vps := by
    refine ⟨⟨_, n0, g0, rfl, rfl, rfl⟩, by simp [vl], fun j k v e => ?_⟩
    obtain ⟨hj, rfl, rfl⟩ := va j k v e
    obtain ⟨p, k, h1, _, h3, _⟩ := hf j hj
    have ep : ps.getD j 0 = p := by rw [List.getD_eq_getElem?_getD, h1]; rfl
    dsimp only
    rw [ep]
    refine ⟨by simp [h1], .inl ?_⟩
    obtain ⟨_, us2, rv2, tp⟩ := (show ObjOk X.prog X.w H s.heap p (.tup [.ref (f j), .bl true]) from I.hok p _ h3)
    obtain ⟨u1, u2, e1, r1, r2⟩ := vals2 rv2
    subst e1
    cases r1
    cases r2
    exact tp
  have lt : ∀ x ∈ ks3, x.2.1 < s.heap.objs.size := fun x hx => by
    obtain ⟨_, _, _, o, ho, _⟩ := (show ObjOk X.prog X.w H s.heap x.2.1 (.tup (x.1.map kV)) from I.hok _ _ (km x hx).2.1)
    exact Heap.lt_size ho
  refine call_dict_pairsH (knd := tupleKind (mixKind X.prog X.w)) (ps := ks3) (PairArg.list a (ps.map Value.ref).toArray (fun j => ps.getD j 0) vps) (I.ok.hd hcalm) (tupleKind_room_in1 (A := X.A.in1) (show X.A.units + 1 + 1 < cLine from hu)) ok ⟨by rw [kl, vl], fun i key v e => ?_⟩ (fun h' hk x hx => ?_) (by rw [vl]; exact z0) fun h' tk hd' hk => ?_
  · obtain ⟨hj, rfl, rfl⟩ := va i key v e
    exact ⟨_, _, ka i hj, rfl⟩
  · obtain ⟨o, its, n, h1, h2, h3, h4⟩ := key_of (P := X.prog) (w := X.w) I.hok (km x hx).2.1
    exact ⟨o, its, n, hk _ _ (Nat.ne_of_lt (lt x hx)) (fun z => nomatch z) h1, h2, h3, h4⟩
  · have hm : (s.heap.objs.size == sysModules) = false := beq_eq_false_iff_ne.mpr (Nat.ne_of_gt I.big)
    have fresh : H s.heap.objs.size = none := I.hok.fresh (Nat.le_refl _)
    have hs : ∀ x ∈ storedAllH [] ks3, x.2.2 = .bool true ∧ H x.2.1 = some (.tup (x.1.map kV)) := fun x hx =>
      ⟨storedAll_vals (u := .bool true) (xs := []) (fun _ z => absurd z List.not_mem_nil) (fun y hy => (km y hy).1) x hx, storedAllH_keys (P := fun k a => H a = some (.tup (k.map kV))) (xs := []) (fun _ z => absurd z List.not_mem_nil) (fun y hy => (km y hy).2.1) x hx⟩
    have pr : ∀ {H' : Hp} {l : List (List Key × Addr × Value)}, (∀ x ∈ l, x.2.2 = .bool true ∧ H' x.2.1 = some (.tup (x.1.map kV))) → Paired (fun (p : List Key × V) (q : List Key × Addr × Value) => p.1 = q.1 ∧ H' q.2.1 = some (.tup (p.1.map kV)) ∧ RelV p.2 q.2.2) ((l.map (·.1)).map fun k => (k, V.bl true)) l := by
      intro H' l
      induction l with
      | nil => intro _; exact .nil
      | cons x r ih =>
        intro h
        refine .cons ⟨rfl, (h x List.mem_cons_self).2, ?_⟩ (ih fun y hy => h y (List.mem_cons_of_mem _ hy))
        rw [(h x List.mem_cons_self).1]
        rfl
    obtain ⟨o, es, ep, d1, d2, d3, d4, _, d6⟩ := hd'
    have mem : ∀ k, k ∈ (storedAllH [] ks3).map (·.1) ↔ k ∈ ks := fun k => by
      rw [storedAll_keys]
      constructor
      · rintro (z | z)
        · exact nomatch z
        · obtain ⟨x, hx, rfl⟩ := List.mem_map.mp z
          exact (km x hx).2.2
      · intro z
        obtain ⟨j, hj, e⟩ := List.getElem_of_mem z
        have hj' : j < ps.length := hl ▸ hj
        refine .inr (List.mem_map.mpr ⟨_, List.mem_of_getElem? (ka j hj'), ?_⟩)
        show ks.getD j [] = k
        rw [List.getD_eq_getElem?_getD, List.getElem?_eq_getElem hj, e]
        rfl
    have zl : ((storedAllH [] ks3).map (·.1)).length ≤ sizeLine := by
      rw [List.length_map]
      have := storedAllH_length ks3 ([] : List (List Key × Addr × Value))
      rw [kl] at this
      exact Nat.le_trans this (by rw [List.length_nil, Nat.zero_add]; exact z0)
    refine ⟨.ref s.heap.objs.size, upd H s.heap.objs.size (.dT (((storedAllH [] ks3).map (·.1)).map fun k => (k, V.bl true))), I.laid (t' := tk) (fun b o e => hk b o (fun z => nomatch z) e) (Nat.le_refl _) ?_, rfl, q _ _ d6 mem fresh⟩
    refine ⟨by rw [List.length_map]; exact zl, hm, storedAllH [] ks3, pr fun x hx => ⟨(hs x hx).1, ?_⟩, o, es, ep, d1, d2, d3, d4, d6⟩
    rw [upd_ne (ne_of_none (hs x hx).2 fresh)]
    exact (hs x hx).2
end

theorem op_catAK {X : Cx} {K : PySem.W.Frag} (hK : X.K = K) : OpR X (binaryOp .Add) (rCatA K) := by
  subst hK
  exact op_catA
theorem call_tuple_ofK {X : Cx} {K : PySem.W.Frag} (hK : X.K = K) : CallR X (.type "tuple") (fun xs H Q => ∃ p ys, xs = [.ref p] ∧ ((SqL K H p ys ∧ ∀ l, H l = none → Q (.ref l) (upd H l (.tup ys))) ∨ (SqT K H p ys ∧ Q (.ref p) H))) := by
  subst hK
  exact call_tuple_of
theorem u2 {k : Nat} {A : Around} (h : Room k A) : A.units + 2 < cLine := by
  have := h.units
  omega
end My
namespace My
/-! ### all rising tuples, and how many of them keep whole parts -/
def subs : Nat → List (List Int)
  | 0 => [[]]
  | k + 1 => subs k ++ (subs k).map (· ++ [(k : Int)])
theorem subs_mem : ∀ {k : Nat} {S : List Int}, S ∈ subs k → S.Pairwise (· < ·) ∧ ∀ x ∈ S, 0 ≤ x ∧ x < (k : Int)
  | 0, S, h => by
    rw [List.mem_singleton.mp h]
    exact ⟨.nil, fun x m => nomatch m⟩
  | k + 1, S, h => by
    rcases List.mem_append.mp h with h | h
    · obtain ⟨h1, h2⟩ := subs_mem h
      exact ⟨h1, fun x m => by have := h2 x m; omega⟩
    · obtain ⟨R, hR, rfl⟩ := List.mem_map.mp h
      obtain ⟨h1, h2⟩ := subs_mem hR
      refine ⟨List.pairwise_append.mpr ⟨h1, List.pairwise_singleton .., fun x hx y hy => ?_⟩, fun x m => ?_⟩
      · rw [List.mem_singleton.mp hy]
        exact (h2 x hx).2
      · rcases List.mem_append.mp m with m | m
        · have := h2 x m
          omega
        · rw [List.mem_singleton.mp m]
          omega
theorem subs_len : ∀ k : Nat, (subs k).length = 2 ^ k
  | 0 => rfl
  | k + 1 => by
    show (subs k ++ (subs k).map (· ++ [(k : Int)])).length = _
    rw [List.length_append, List.length_map, subs_len k, Nat.pow_succ]
    omega
theorem subs_all : ∀ {k : Nat} {S : List Int}, S.Pairwise (· < ·) → (∀ x ∈ S, 0 ≤ x ∧ x < (k : Int)) → S ∈ subs k
  | 0, S, _, h => by
    cases S with
    | nil => exact List.mem_singleton.mpr rfl
    | cons x r =>
      have := h x List.mem_cons_self
      omega
  | k + 1, S, up, h => by
    by_cases m : (k : Int) ∈ S
    · have ne : S ≠ [] := fun e => by rw [e] at m; cases m
      obtain ⟨q, l, e⟩ : ∃ q l, S = q ++ [l] := ⟨S.dropLast, S.getLast ne, (List.dropLast_concat_getLast ne).symm⟩
      subst e
      obtain ⟨u1, _, u3⟩ := List.pairwise_append.mp up
      have hl := h l (List.mem_append_right _ List.mem_cons_self)
      have el : l = (k : Int) := by
        rcases List.mem_append.mp m with m | m
        · have := u3 _ m l List.mem_cons_self
          omega
        · exact (List.mem_singleton.mp m).symm
      subst el
      refine List.mem_append_right _ (List.mem_map.mpr ⟨q, subs_all u1 fun x hx => ?_, rfl⟩)
      have h1 := h x (List.mem_append_left _ hx)
      have h2 := u3 x hx _ List.mem_cons_self
      omega
    · refine List.mem_append_left _ (subs_all up fun x hx => ?_)
      have h1 := h x hx
      have h2 : x ≠ (k : Int) := fun e => m (e ▸ hx)
      omega
section
variable (rp : Nat → Nat) (A B : Nat)
def stepB (j : Nat) (S : List Int) : Bool := if rp j = j then (!decide (A = j) || decide ((j : Int) ∈ S)) && (!decide (B = j) || !decide ((j : Int) ∈ S)) else decide ((j : Int) ∈ S) == decide ((rp j : Int) ∈ S)
def goodB : Nat → List Int → Bool
  | 0, _ => true
  | k + 1, S => goodB k S && stepB rp A B k S
def wt (j : Nat) : Nat := if rp j = j then (if A = j then (if B = j then 0 else 1) else if B = j then 1 else 2) else 1
def wts : Nat → Nat
  | 0 => 1
  | k + 1 => wts k * wt rp A B k
theorem good_ext (le : ∀ j, rp j ≤ j) : ∀ {k : Nat} {S : List Int} {m : Nat}, k ≤ m → goodB rp A B k (S ++ [(m : Int)]) = goodB rp A B k S
  | 0, _, _, _ => rfl
  | k + 1, S, m, h => by
    have e : ∀ i : Nat, i ≤ k → decide ((i : Int) ∈ S ++ [(m : Int)]) = decide ((i : Int) ∈ S) := fun i hi => decide_eq_decide.mpr ⟨fun z => (List.mem_append.mp z).elim id fun z => by
      have := List.mem_singleton.mp z
      omega, fun z => List.mem_append_left _ z⟩
    show (goodB rp A B k (S ++ [(m : Int)]) && stepB rp A B k (S ++ [(m : Int)])) = (goodB rp A B k S && stepB rp A B k S)
    rw [good_ext le (by omega)]
    unfold stepB
    rw [e k (Nat.le_refl _), e (rp k) (le k)]
theorem len_split {α : Type} (p q : α → Bool) : ∀ l : List α, (l.filter fun x => p x && !q x).length + (l.filter fun x => p x && q x).length = (l.filter p).length
  | [] => rfl
  | x :: l => by
    have ih := len_split p q l
    rw [List.filter_cons, List.filter_cons, List.filter_cons]
    cases p x <;> cases q x <;> simp <;> omega
theorem count_good (le : ∀ j, rp j ≤ j) : ∀ k : Nat, ((subs k).filter (goodB rp A B k)).length = wts rp A B k
  | 0 => rfl
  | k + 1 => by
    have ih := count_good le k
    show ((subs k ++ (subs k).map (· ++ [(k : Int)])).filter (goodB rp A B (k + 1))).length = wts rp A B k * wt rp A B k
    rw [List.filter_append, List.length_append, List.filter_map, List.length_map]
    have e1 : (subs k).filter (goodB rp A B (k + 1)) = (subs k).filter fun S => goodB rp A B k S && (if rp k = k then !decide (A = k) else !decide ((rp k : Int) ∈ S)) := List.filter_congr fun S hS => by
      have nk : decide ((k : Int) ∈ S) = false := decide_eq_false fun m => by
        have := (subs_mem hS).2 _ m
        omega
      show (goodB rp A B k S && stepB rp A B k S) = _
      unfold stepB
      rw [nk]
      by_cases e : rp k = k
      · rw [if_pos e, if_pos e]
        simp
      · rw [if_neg e, if_neg e]
        cases decide ((rp k : Int) ∈ S) <;> rfl
    have e2 : (subs k).filter (goodB rp A B (k + 1) ∘ (· ++ [(k : Int)])) = (subs k).filter fun S => goodB rp A B k S && (if rp k = k then !decide (B = k) else decide ((rp k : Int) ∈ S)) := List.filter_congr fun S hS => by
      have yk : decide ((k : Int) ∈ S ++ [(k : Int)]) = true := decide_eq_true (List.mem_append_right _ List.mem_cons_self)
      show (goodB rp A B k (S ++ [(k : Int)]) && stepB rp A B k (S ++ [(k : Int)])) = _
      rw [good_ext rp A B le (Nat.le_refl _)]
      unfold stepB
      rw [yk]
      by_cases e : rp k = k
      · rw [if_pos e, if_pos e]
        simp
      · rw [if_neg e, if_neg e]
        have lt : rp k < k := Nat.lt_of_le_of_ne (le k) e
        have z : decide ((rp k : Int) ∈ S ++ [(k : Int)]) = decide ((rp k : Int) ∈ S) := decide_eq_decide.mpr ⟨fun z => (List.mem_append.mp z).elim id fun z => by
          have := List.mem_singleton.mp z
          omega, fun z => List.mem_append_left _ z⟩
        rw [z]
        cases decide ((rp k : Int) ∈ S) <;> rfl
    rw [e1, e2]
    unfold wt
    by_cases e : rp k = k
    · have f0 : ∀ b : Bool, ((subs k).filter fun S => goodB rp A B k S && b).length = if b = true then wts rp A B k else 0 := fun b => by
        cases b with
        | true =>
          rw [if_pos rfl, ← ih]
          congr 1
          exact List.filter_congr fun S _ => Bool.and_true _
        | false =>
          rw [if_neg (by decide)]
          have : ((subs k).filter fun S => goodB rp A B k S && false) = [] := List.filter_eq_nil_iff.mpr fun S _ => by rw [Bool.and_false]; decide
          rw [this]
          rfl
      simp only [if_pos e]
      rw [f0, f0]
      by_cases a : A = k
      · by_cases b : B = k
        · simp only [a, b, decide_true, Bool.not_true, if_true]
          simp
        · rw [decide_eq_true a, decide_eq_false b, if_pos a, if_neg b]
          simp
      · by_cases b : B = k
        · rw [decide_eq_false a, decide_eq_true b, if_neg a, if_pos b]
          simp
        · rw [decide_eq_false a, decide_eq_false b, if_neg a, if_neg b]
          simp
          omega
    · simp only [if_neg e]
      rw [len_split, ih, Nat.mul_one]
end

/-! ### parts by their least point -/
open Classical in
noncomputable def rpOf (ts : Ties) (j : Nat) : Nat := ((List.range (j + 1)).find? fun i : Nat => decide (Rch ts (j : Int) (i : Int))).getD j
section
variable {ts : Ties}
theorem rp_spec (j : Nat) : Rch ts (j : Int) (rpOf ts j : Int) ∧ rpOf ts j ≤ j ∧ ∀ i, i < rpOf ts j → ¬ Rch ts (j : Int) (i : Int) := by
  classical
  unfold rpOf
  cases e : (List.range (j + 1)).find? fun i : Nat => decide (Rch ts (j : Int) (i : Int)) with
  | none =>
    have := List.find?_eq_none.mp e j (List.mem_range.mpr (Nat.lt_succ_self j))
    exact absurd (decide_eq_true (Rch.refl (ts := ts) (a := (j : Int)))) (by simpa using this)
  | some i =>
    obtain ⟨h1, h2, h3⟩ := List.find?_range_eq_some.mp e
    have h2 := List.mem_range.mp h2
    refine ⟨by simpa using h1, by show i ≤ j; omega, fun k hk => ?_⟩
    have := h3 k hk
    simpa using this
theorem rp_eq {u v : Nat} (h : Rch ts (u : Int) (v : Int)) : rpOf ts u = rpOf ts v := by
  obtain ⟨u1, _, u3⟩ := rp_spec (ts := ts) u
  obtain ⟨v1, _, v3⟩ := rp_spec (ts := ts) v
  rcases Nat.lt_trichotomy (rpOf ts u) (rpOf ts v) with l | e | l
  · exact absurd (h.symm.trans u1) (v3 _ l)
  · exact e
  · exact absurd (h.trans v1) (u3 _ l)
theorem rp_iff {u v : Nat} : rpOf ts u = rpOf ts v ↔ Rch ts (u : Int) (v : Int) := ⟨fun e => by
  have h1 := (rp_spec (ts := ts) u).1
  have h2 := (rp_spec (ts := ts) v).1
  rw [e] at h1
  exact h1.trans h2.symm, rp_eq⟩
theorem rp_idem (j : Nat) : rpOf ts (rpOf ts j) = rpOf ts j := (rp_eq (rp_spec j).1).symm
theorem rp_le (j : Nat) : rpOf ts j ≤ j := (rp_spec j).2.1
end
theorem good_iff {rp : Nat → Nat} {A B : Nat} {S : List Int} : ∀ {k : Nat}, goodB rp A B k S = true ↔ ∀ j, j < k → stepB rp A B j S = true
  | 0 => ⟨fun _ j h => absurd h (Nat.not_lt_zero _), fun _ => rfl⟩
  | k + 1 => by
    show (goodB rp A B k S && stepB rp A B k S) = true ↔ _
    rw [Bool.and_eq_true, good_iff (k := k)]
    constructor
    · rintro ⟨h1, h2⟩ j hj
      rcases Nat.lt_or_eq_of_le (Nat.le_of_lt_succ hj) with l | e
      · exact h1 j l
      · subst e
        exact h2
    · intro h
      exact ⟨fun j hj => h j (by omega), h k (Nat.lt_succ_self k)⟩
theorem wts_zero {rp : Nat → Nat} {A B : Nat} {j : Nat} (z : wt rp A B j = 0) : ∀ {k : Nat}, j < k → wts rp A B k = 0
  | 0, h => absurd h (Nat.not_lt_zero _)
  | k + 1, h => by
    show wts rp A B k * wt rp A B k = 0
    rcases Nat.lt_or_eq_of_le (Nat.le_of_lt_succ h) with l | e
    · rw [wts_zero z l, Nat.zero_mul]
    · subst e
      rw [z, Nat.mul_zero]
/-- closed under ties: whole parts -/
theorem closedS_rch {ts : Ties} {S : List Int} (cl : ∀ t ∈ ts, t.1 ∈ S ↔ t.2 ∈ S) {u v : Int} (h : Rch ts u v) : u ∈ S ↔ v ∈ S := by
  induction h with
  | refl => exact Iff.rfl
  | step _ e ih =>
    rcases e with e | e
    · exact ih.trans (cl _ e)
    · exact ih.trans (cl _ e).symm
theorem closed_good {ts : Ties} {n a b : Nat} {S : List Int} (hin : ∀ t ∈ ts, 0 ≤ t.1 ∧ 0 ≤ t.2 ∧ t.1 < (n : Int) ∧ t.2 < (n : Int)) (ha : a < n) (hb : b < n) :
    ((a : Int) ∈ S ∧ (b : Int) ∉ S ∧ ∀ t ∈ ts, t.1 ∈ S ↔ t.2 ∈ S) ↔ goodB (rpOf ts) (rpOf ts a) (rpOf ts b) n S = true := by
  rw [good_iff]
  constructor
  · rintro ⟨h1, h2, cl⟩ j hj
    unfold stepB
    by_cases e : rpOf ts j = j
    · rw [if_pos e, Bool.and_eq_true]
      constructor
      · by_cases ea : rpOf ts a = j
        · have : (j : Int) ∈ S := ea ▸ (closedS_rch cl (rp_spec a).1).mp h1
          rw [decide_eq_true this, Bool.or_true]
        · rw [decide_eq_false ea]
          rfl
      · by_cases eb : rpOf ts b = j
        · have : (j : Int) ∉ S := fun m => h2 ((closedS_rch cl (rp_spec b).1).mpr (eb ▸ m))
          rw [decide_eq_false this, Bool.or_comm]
          rfl
        · rw [decide_eq_false eb]
          rfl
    · rw [if_neg e, beq_iff_eq]
      exact decide_eq_decide.mpr (closedS_rch cl (rp_spec j).1)
  · intro h
    have key : ∀ j, j < n → ((j : Int) ∈ S ↔ (rpOf ts j : Int) ∈ S) := fun j hj => by
      have z := h j hj
      unfold stepB at z
      by_cases e : rpOf ts j = j
      · rw [e]
      · rw [if_neg e, beq_iff_eq] at z
        exact decide_eq_decide.mp z
    have at_ : ∀ {c : Nat}, c < n → stepB (rpOf ts) (rpOf ts a) (rpOf ts b) (rpOf ts c) S = true := fun {c} hc => h _ (Nat.lt_of_le_of_lt (rp_le c) hc)
    refine ⟨(key a ha).mpr ?_, fun m => ?_, fun t m => ?_⟩
    · have z := at_ ha
      unfold stepB at z
      rw [if_pos (rp_idem a), Bool.and_eq_true, decide_eq_true rfl] at z
      simpa using z.1
    · have z := at_ hb
      have m2 := (key b hb).mp m
      unfold stepB at z
      rw [if_pos (rp_idem b), Bool.and_eq_true, decide_eq_true (show rpOf ts b = rpOf ts b from rfl), decide_eq_true m2] at z
      exact absurd z.2 (by decide)
    · have r := hin t m
      obtain ⟨u, eu⟩ : ∃ u : Nat, t.1 = (u : Int) := ⟨t.1.toNat, by omega⟩
      obtain ⟨v, ev⟩ : ∃ v : Nat, t.2 = (v : Int) := ⟨t.2.toNat, by omega⟩
      have ad : Rch ts (u : Int) (v : Int) := .one (.inl (by rw [← eu, ← ev]; exact m))
      rw [eu, ev, key u (by omega), key v (by omega), rp_eq ad]
/-! products -/
def prodL {α : Type} (f : α → Nat) (l : List α) : Nat := l.foldr (fun x acc => f x * acc) 1
theorem prodL_perm {α : Type} {f : α → Nat} {l m : List α} (p : l.Perm m) : prodL f l = prodL f m := by
  induction p with
  | nil => rfl
  | cons x _ ih =>
    show f x * prodL f _ = f x * prodL f _
    rw [ih]
  | swap x y l =>
    show f y * (f x * prodL f l) = f x * (f y * prodL f l)
    rw [← Nat.mul_assoc, ← Nat.mul_assoc, Nat.mul_comm (f y)]
  | trans _ _ h1 h2 => exact h1.trans h2
theorem prodL_snoc {α : Type} (f : α → Nat) (x : α) : ∀ l : List α, prodL f (l ++ [x]) = prodL f l * f x
  | [] => by show f x * 1 = 1 * f x; omega
  | y :: l => by
    show f y * prodL f (l ++ [x]) = f y * prodL f l * f x
    rw [prodL_snoc f x l, Nat.mul_assoc]
theorem prodL_app {α : Type} (f : α → Nat) (m : List α) : ∀ l : List α, prodL f (l ++ m) = prodL f l * prodL f m
  | [] => by show prodL f m = 1 * prodL f m; omega
  | y :: l => by
    show f y * prodL f (l ++ m) = f y * prodL f l * prodL f m
    rw [prodL_app f m l, Nat.mul_assoc]
theorem prodL_map {α β : Type} (f : β → Nat) (g : α → β) : ∀ l : List α, prodL f (l.map g) = prodL (fun x => f (g x)) l
  | [] => rfl
  | x :: l => by
    show f (g x) * prodL f (l.map g) = f (g x) * prodL (fun x => f (g x)) l
    rw [prodL_map f g l]
theorem prod_reps {rp : Nat → Nat} {A B : Nat} (ne : A ≠ B) (f : Nat → Nat) (hf : ∀ j, rp j = j → f j = if A = j ∨ B = j then 1 else 2) : ∀ k : Nat, prodL f ((List.range k).filter fun j => decide (rp j = j)) = wts rp A B k
  | 0 => rfl
  | k + 1 => by
    rw [List.range_succ, List.filter_append, prodL_app, prod_reps ne f hf k]
    show _ = wts rp A B k * wt rp A B k
    congr 1
    unfold wt
    by_cases e : rp k = k
    · rw [if_pos e, List.filter_cons, if_pos (decide_eq_true e)]
      show f k * 1 = _
      rw [hf k e, Nat.mul_one]
      by_cases a : A = k
      · by_cases b : B = k
        · exact absurd (a.trans b.symm) ne
        · rw [if_pos (.inl a), if_pos a, if_neg b]
      · by_cases b : B = k
        · rw [if_pos (.inr b), if_neg a, if_pos b]
        · rw [if_neg (fun z => z.elim a b), if_neg a, if_neg b]
    · rw [if_neg e, List.filter_cons, if_neg (by rw [decide_eq_false e]; decide)]
      rfl
/-! rows of points, gone further and further -/
def ext1 (p : List Int) (t : Int × Int) : Option (List Int) :=
  if p.getLast? = some t.1 then (if t.2 ∈ p then none else some (p ++ [t.2])) else if p.getLast? = some t.2 then (if t.1 ∈ p then none else some (p ++ [t.1])) else none
def ext (ts : Ties) (p : List Int) : List (List Int) := ts.filterMap (ext1 p)
theorem ext1_some {p q : List Int} {t : Int × Int} (h : ext1 p t = some q) : ∃ c d, p.getLast? = some c ∧ d ∉ p ∧ q = p ++ [d] ∧ (t = (c, d) ∨ t = (d, c)) := by
  unfold ext1 at h
  by_cases e1 : p.getLast? = some t.1
  · rw [if_pos e1] at h
    by_cases m : t.2 ∈ p
    · rw [if_pos m] at h
      cases h
    · rw [if_neg m] at h
      exact ⟨t.1, t.2, e1, m, (Option.some.inj h).symm, .inl rfl⟩
  · rw [if_neg e1] at h
    by_cases e2 : p.getLast? = some t.2
    · rw [if_pos e2] at h
      by_cases m : t.1 ∈ p
      · rw [if_pos m] at h
        cases h
      · rw [if_neg m] at h
        exact ⟨t.2, t.1, e2, m, (Option.some.inj h).symm, .inr rfl⟩
    · rw [if_neg e2] at h
      cases h
theorem last_mem {p : List Int} {c : Int} (h : p.getLast? = some c) : c ∈ p := List.mem_of_getLast? h
theorem ext_mem {ts : Ties} {p q : List Int} : q ∈ ext ts p ↔ ∃ c d, p.getLast? = some c ∧ Adj ts c d ∧ d ∉ p ∧ q = p ++ [d] := by
  unfold ext
  rw [List.mem_filterMap]
  constructor
  · rintro ⟨t, mt, h⟩
    obtain ⟨c, d, h1, h2, h3, h4⟩ := ext1_some h
    refine ⟨c, d, h1, ?_, h2, h3⟩
    rcases h4 with rfl | rfl
    · exact .inl mt
    · exact .inr mt
  · rintro ⟨c, d, h1, h2, h3, rfl⟩
    have ncd : c ≠ d := fun e => h3 (e ▸ last_mem h1)
    rcases h2 with m | m
    · refine ⟨_, m, ?_⟩
      unfold ext1
      rw [if_pos h1, if_neg h3]
    · refine ⟨_, m, ?_⟩
      unfold ext1
      rw [if_neg (fun e => ncd (Option.some.inj (h1.symm.trans e))), if_pos h1, if_neg h3]
theorem ext_nd {ts : Ties} (nd : ts.Nodup) (ord : ∀ t ∈ ts, t.1 ≤ t.2) (p : List Int) : (ext ts p).Nodup := by
  unfold ext
  have key : ts.Pairwise fun t u => t ∈ ts ∧ u ∈ ts ∧ t ≠ u := by
    refine List.pairwise_iff_getElem.mpr fun i j hi hj lt => ⟨List.getElem_mem _, List.getElem_mem _, ?_⟩
    exact List.pairwise_iff_getElem.mp nd i j hi hj lt
  refine List.Pairwise.filterMap (R := fun t u => t ∈ ts ∧ u ∈ ts ∧ t ≠ u) _ (fun t u h q hq q' hq' e => ?_) key
  subst e
  obtain ⟨c, d, h1, h2, h3, h4⟩ := ext1_some hq
  obtain ⟨c', d', k1, k2, k3, k4⟩ := ext1_some hq'
  rw [h1] at k1
  cases Option.some.inj k1
  have ed : d = d' := by
    have := List.append_cancel_left (h3.symm.trans k3)
    cases this
    rfl
  subst ed
  have o1 := ord t h.1
  have o2 := ord u h.2.1
  refine h.2.2 ?_
  have ncd : c ≠ d := fun e => h2 (e ▸ last_mem h1)
  rcases h4 with rfl | rfl
  · rcases k4 with rfl | rfl
    · rfl
    · dsimp only at o1 o2
      exact absurd (by omega : c = d) ncd
  · rcases k4 with rfl | rfl
    · dsimp only at o1 o2
      exact absurd (by omega : c = d) ncd
    · rfl
theorem Wlk.getLast {ts : Ties} {a b : Int} {l : List Int} (h : Wlk ts a b l) : l.getLast? = some b := by
  induction h with
  | one a => rfl
  | @cons a c b l e w ih =>
    rw [List.getLast?_cons, ih]
    rfl
structure Bfs (ts : Ties) (a : Int) (i : Nat) (qs : List (List Int)) : Prop where
  way : ∀ q ∈ qs, ∃ b, Way ts a b q
  nd : qs.Nodup
  org : ∀ q ∈ qs, q = [a] ∨ ∃ j p, j < i ∧ qs[j]? = some p ∧ q ∈ ext ts p
  cl : ∀ j p, j < i → qs[j]? = some p → ∀ q ∈ ext ts p, q ∈ qs
  root : [a] ∈ qs
theorem Bfs.start (ts : Ties) (a : Int) : Bfs ts a 0 [[a]] :=
  ⟨fun q m => by rw [List.mem_singleton.mp m]; exact ⟨a, .one a, List.nodup_cons.mpr ⟨List.not_mem_nil, List.nodup_nil⟩⟩, List.nodup_cons.mpr ⟨List.not_mem_nil, List.nodup_nil⟩, fun q m => .inl (List.mem_singleton.mp m), fun j p h => absurd h (Nat.not_lt_zero _), List.mem_cons_self⟩
theorem Bfs.step {ts : Ties} {a : Int} {i : Nat} {qs : List (List Int)} {p : List Int} (B : Bfs ts a i qs) (nd : ts.Nodup) (ord : ∀ t ∈ ts, t.1 ≤ t.2) (hp : qs[i]? = some p) : Bfs ts a (i + 1) (qs ++ ext ts p) := by
  have pre : ∀ {j : Nat} {q : List Int}, qs[j]? = some q → (qs ++ ext ts p)[j]? = some q := fun {j q} e => by
    rw [List.getElem?_append_left (List.getElem?_eq_some_iff.mp e).1]
    exact e
  have hpm := List.mem_of_getElem? hp
  refine ⟨fun q m => ?_, List.nodup_append.mpr ⟨B.nd, ext_nd nd ord p, fun q hq q' hq' e => ?_⟩, fun q m => ?_, fun j r hj hr q hq => ?_, List.mem_append_left _ B.root⟩
  · rcases List.mem_append.mp m with m | m
    · exact B.way q m
    · obtain ⟨c, d, h1, h2, h3, rfl⟩ := ext_mem.mp m
      obtain ⟨b, w⟩ := B.way p hpm
      have eb := w.wk.getLast
      rw [h1] at eb
      cases Option.some.inj eb
      refine ⟨d, w.wk.snoc h2, List.nodup_append.mpr ⟨w.nd, List.nodup_cons.mpr ⟨List.not_mem_nil, List.nodup_nil⟩, fun x hx y hy e => ?_⟩⟩
      rw [List.mem_singleton.mp hy] at e
      exact h3 (e ▸ hx)
  · subst e
    obtain ⟨c, d, h1, h2, h3, rfl⟩ := ext_mem.mp hq'
    rcases B.org _ hq with e | ⟨j, r, hj, hr, hq2⟩
    · have ln := congrArg List.length e
      rw [List.length_append] at ln
      have : p = [] := by simpa using ln
      rw [this] at h1
      cases h1
    · obtain ⟨c2, d2, _, _, _, e2⟩ := ext_mem.mp hq2
      have er : p = r := (List.append_inj' e2 rfl).1
      subst er
      have i1 := (List.getElem?_eq_some_iff.mp hp).1
      have j1 := (List.getElem?_eq_some_iff.mp hr).1
      have := List.pairwise_iff_getElem.mp B.nd j i j1 i1 hj
      rw [(List.getElem?_eq_some_iff.mp hr).2, (List.getElem?_eq_some_iff.mp hp).2] at this
      exact this rfl
  · rcases List.mem_append.mp m with m | m
    · rcases B.org q m with e | ⟨j, r, hj, hr, hq⟩
      · exact .inl e
      · exact .inr ⟨j, r, by omega, pre hr, hq⟩
    · exact .inr ⟨i, p, Nat.lt_succ_self i, pre hp, m⟩
  · rcases Nat.lt_or_eq_of_le (Nat.le_of_lt_succ hj) with l | e
    · have j1 : j < qs.length := Nat.lt_trans l (List.getElem?_eq_some_iff.mp hp).1
      rw [List.getElem?_append_left j1] at hr
      exact List.mem_append_left _ (B.cl j r l hr q hq)
    · subst e
      rw [pre hp] at hr
      cases Option.some.inj hr
      exact List.mem_append_right _ hq
theorem Bfs.all {ts : Ties} {a : Int} {i : Nat} {qs : List (List Int)} (B : Bfs ts a i qs) (fin : qs.length ≤ i) : ∀ (k : Nat) {b : Int} {l : List Int}, l.length = k → Way ts a b l → l ∈ qs := by
  intro k
  induction k with
  | zero =>
    intro b l e w
    exact absurd (List.eq_nil_of_length_eq_zero e) w.wk.ne_nil
  | succ k ih =>
    intro b l e w
    have ne := w.wk.ne_nil
    obtain ⟨q, z, el⟩ : ∃ q z, l = q ++ [z] := ⟨l.dropLast, l.getLast ne, (List.dropLast_concat_getLast ne).symm⟩
    subst el
    have gl := w.wk.getLast
    rw [List.getLast?_concat] at gl
    cases Option.some.inj gl
    by_cases qn : q = []
    · subst qn
      have hd := w.wk.head
      cases Option.some.inj hd
      exact B.root
    · -- the way up to the last but one
      have up : ∃ c, Way ts a c q ∧ Adj ts c b := by
        have wr := w.wk.rev
        rw [List.reverse_append] at wr
        have wr : Wlk ts b a (b :: q.reverse) := wr
        generalize er : q.reverse = r at wr
        cases wr with
        | one => exact absurd (List.reverse_eq_nil_iff.mp er) qn
        | @cons _ c _ _ e w2 =>
          have w3 := w2.rev
          rw [← er, List.reverse_reverse] at w3
          exact ⟨c, ⟨w3, (List.nodup_append.mp w.nd).1⟩, e.symm⟩
      obtain ⟨c, wq, ad⟩ := up
      have lq : q.length = k := by
        rw [List.length_append] at e
        simpa using e
      have mq := ih lq wq
      obtain ⟨j, hj, ej⟩ := List.getElem_of_mem mq
      refine B.cl j q (by omega) (by rw [List.getElem?_eq_getElem hj, ej]) _ (ext_mem.mpr ⟨c, b, wq.wk.getLast, ad, fun m => ?_, rfl⟩)
      exact (List.nodup_append.mp w.nd).2.2 b m b List.mem_cons_self rfl
theorem Bfs.ends {ts : Ties} (T : Tree ts) {a : Int} {i : Nat} {qs : List (List Int)} (B : Bfs ts a i qs) : (qs.map fun q => q.getLast?.getD 0).Nodup := by
  refine List.pairwise_map.mpr (List.pairwise_iff_getElem.mpr fun i j hi hj lt e => ?_)
  obtain ⟨b, w⟩ := B.way _ (List.getElem_mem hi)
  obtain ⟨c, u⟩ := B.way _ (List.getElem_mem hj)
  rw [w.wk.getLast, u.wk.getLast] at e
  have e : b = c := e
  subst e
  exact List.pairwise_iff_getElem.mp B.nd i j hi hj lt (way_unique T w u)

end My
namespace My
open PySem L2

/-! ### the text by places -/
def topS (i : Nat) : Stmt := PySem.Challenge.pw_tiedcut_k08_whole_one_sort_of_papers.main.body.getD i (.Pass ⟨0, 0, 0, 0⟩)
abbrev s_iswhole : Stmt := topS 1
abbrev s_arewholes : Stmt := topS 2
abbrev s_isrising : Stmt := topS 3
abbrev s_tieof : Stmt := topS 5
abbrev s_aretied : Stmt := topS 6
abbrev s_wayof : Stmt := topS 8
abbrev s_partof : Stmt := topS 9
abbrev s_stepstoward : Stmt := topS 10
abbrev s_neighbours : Stmt := topS 11
abbrev s_tiedpaper : Stmt := topS 13
abbrev s_showstied : Stmt := topS 14
abbrev s_isworded : Stmt := topS 15
abbrev s_isway : Stmt := topS 16
abbrev s_setsapart : Stmt := topS 17
abbrev s_Lbegin : Stmt := topS 19
abbrev s_Lnext : Stmt := topS 20
abbrev s_Lmany : Stmt := topS 21
abbrev s_Lworth : Stmt := topS 22
abbrev s_Lforest : Stmt := topS 23
abbrev s_Lpart : Stmt := topS 24
abbrev s_Lrows : Stmt := topS 25
abbrev s_Lalltuples : Stmt := topS 26
abbrev s_law : Stmt := topS 27
theorem sc_iswhole : FnScope ["thing"] ["thing"] (defScope s_iswhole) := ⟨rfl, rfl, rfl, by decide +kernel, rfl, by decide +kernel, by decide +kernel⟩
theorem sc_arewholes : FnScope ["thing", "part"] ["thing"] (defScope s_arewholes) := ⟨rfl, rfl, rfl, by decide +kernel, rfl, by decide +kernel, by decide +kernel⟩
theorem sc_isrising : FnScope ["row", "low", "high"] ["row"] (defScope s_isrising) := ⟨rfl, rfl, rfl, by decide +kernel, rfl, by decide +kernel, by decide +kernel⟩
theorem sc_tieof : FnScope ["a", "b"] ["a", "b"] (defScope s_tieof) := ⟨rfl, rfl, rfl, by decide +kernel, rfl, by decide +kernel, by decide +kernel⟩
theorem sc_aretied : FnScope ["forest", "a", "b"] ["forest", "a", "b"] (defScope s_aretied) := ⟨rfl, rfl, rfl, by decide +kernel, rfl, by decide +kernel, by decide +kernel⟩
theorem sc_wayof : FnScope ["forest", "a", "b", "toward", "way"] ["forest", "a", "b"] (defScope s_wayof) := ⟨rfl, rfl, rfl, by decide +kernel, rfl, by decide +kernel, by decide +kernel⟩
theorem sc_partof : FnScope ["forest", "a"] ["forest", "a"] (defScope s_partof) := ⟨rfl, rfl, rfl, by decide +kernel, rfl, by decide +kernel, by decide +kernel⟩
theorem sc_stepstoward : FnScope ["forest", "goal", "around", "toward", "waiting", "here", "there"] ["forest", "goal"] (defScope s_stepstoward) := ⟨rfl, rfl, rfl, by decide +kernel, rfl, by decide +kernel, by decide +kernel⟩
theorem sc_neighbours : FnScope ["forest", "points", "ties", "around", "point", "a", "b"] ["forest"] (defScope s_neighbours) := ⟨rfl, rfl, rfl, by decide +kernel, rfl, by decide +kernel, by decide +kernel⟩
theorem sc_tiedpaper : FnScope ["forest", "a", "b", "way"] ["forest", "a", "b"] (defScope s_tiedpaper) := ⟨rfl, rfl, rfl, by decide +kernel, rfl, by decide +kernel, by decide +kernel⟩
theorem sc_showstied : FnScope ["forest", "a", "b", "thing", "word", "numbers"] ["forest", "a", "b", "thing"] (defScope s_showstied) := ⟨rfl, rfl, rfl, by decide +kernel, rfl, by decide +kernel, by decide +kernel⟩
theorem sc_isworded : FnScope ["thing"] ["thing"] (defScope s_isworded) := ⟨rfl, rfl, rfl, by decide +kernel, rfl, by decide +kernel, by decide +kernel⟩
theorem sc_isway : FnScope ["forest", "a", "b", "numbers", "here", "there"] ["forest", "a", "b", "numbers"] (defScope s_isway) := ⟨rfl, rfl, rfl, by decide +kernel, rfl, by decide +kernel, by decide +kernel⟩
theorem sc_setsapart : FnScope ["forest", "a", "b", "numbers", "points", "ties", "low", "high"] ["forest", "a", "b", "numbers"] (defScope s_setsapart) := ⟨rfl, rfl, rfl, by decide +kernel, rfl, by decide +kernel, by decide +kernel⟩
theorem sc_Lbegin : FnScope ["_law_script"] ["_law_script"] (defScope s_Lbegin) := ⟨rfl, rfl, rfl, by decide +kernel, rfl, by decide +kernel, by decide +kernel⟩
theorem sc_Lnext : FnScope ["_law_draws", "_law_many_here", "_law_cell", "_law_digit"] ["_law_draws", "_law_many_here"] (defScope s_Lnext) := ⟨rfl, rfl, rfl, by decide +kernel, rfl, by decide +kernel, by decide +kernel⟩
theorem sc_Lmany : FnScope ["_law_draws", "_law_few", "_law_most"] ["_law_draws", "_law_few", "_law_most"] (defScope s_Lmany) := ⟨rfl, rfl, rfl, by decide +kernel, rfl, by decide +kernel, by decide +kernel⟩
theorem sc_Lworth : FnScope ["_law_draws", "_law_way"] ["_law_draws"] (defScope s_Lworth) := ⟨rfl, rfl, rfl, by decide +kernel, rfl, by decide +kernel, by decide +kernel⟩
theorem sc_Lforest : FnScope ["_law_draws", "_law_most", "_law_many_here", "_law_names", "_law_k", "_law_way", "_law_rare", "_law_ties", "_law_former", "_law_points"] ["_law_draws", "_law_most"] (defScope s_Lforest) := ⟨rfl, rfl, rfl, by decide +kernel, rfl, by decide +kernel, by decide +kernel⟩
theorem sc_Lpart : FnScope ["_law_forest_here", "_law_a", "_law_found", "_law_many_here", "_law_one", "_law_other"] ["_law_forest_here", "_law_a"] (defScope s_Lpart) := ⟨rfl, rfl, rfl, by decide +kernel, rfl, by decide +kernel, by decide +kernel⟩
theorem sc_Lrows : FnScope ["_law_forest_here", "_law_a", "_law_found", "_law_at", "_law_row", "_law_one", "_law_other", "_law_there"] ["_law_forest_here", "_law_a"] (defScope s_Lrows) := ⟨rfl, rfl, rfl, by decide +kernel, rfl, by decide +kernel, by decide +kernel⟩
theorem sc_Lalltuples : FnScope ["_law_many_here", "_law_found", "_law_point", "_law_some"] ["_law_many_here"] (defScope s_Lalltuples) := ⟨rfl, rfl, rfl, by decide +kernel, rfl, by decide +kernel, by decide +kernel⟩
theorem sc_law : FnScope ["_law_script", "_law_draws", "_law_turn", "_law_forest_here", "_law_many_here", "_law_parts", "_law_point", "_law_a", "_law_rows_here", "_law_tuples", "_law_b", "_law_ways", "_law_row", "_law_aparts", "_law_some", "_law_due", "_law_part_here"] ["_law_script"] (defScope s_law) := ⟨rfl, rfl, rfl, by decide +kernel, rfl, by decide +kernel, by decide +kernel⟩
/-- what the top has left -/
structure Top (K : PySem.W.Frag) (mg : Str → Option Value) where
  a_iswhole : Addr
  d_iswhole : FuncData
  F_iswhole : Fun K "is_whole" "is_whole" s_iswhole a_iswhole d_iswhole
  b_iswhole : Binds K d_iswhole ["thing"] []
  g_iswhole : mg "is_whole" = some (.ref a_iswhole)
  a_arewholes : Addr
  d_arewholes : FuncData
  F_arewholes : Fun K "are_wholes" "are_wholes" s_arewholes a_arewholes d_arewholes
  b_arewholes : Binds K d_arewholes ["thing"] []
  g_arewholes : mg "are_wholes" = some (.ref a_arewholes)
  a_isrising : Addr
  d_isrising : FuncData
  F_isrising : Fun K "is_rising" "is_rising" s_isrising a_isrising d_isrising
  b_isrising : Binds K d_isrising ["row"] []
  g_isrising : mg "is_rising" = some (.ref a_isrising)
  a_tieof : Addr
  d_tieof : FuncData
  F_tieof : Fun K "tie_of" "tie_of" s_tieof a_tieof d_tieof
  b_tieof : Binds K d_tieof ["a", "b"] []
  g_tieof : mg "tie_of" = some (.ref a_tieof)
  a_aretied : Addr
  d_aretied : FuncData
  F_aretied : Fun K "are_tied" "are_tied" s_aretied a_aretied d_aretied
  b_aretied : Binds K d_aretied ["forest", "a", "b"] []
  g_aretied : mg "are_tied" = some (.ref a_aretied)
  a_wayof : Addr
  d_wayof : FuncData
  F_wayof : Fun K "way_of" "way_of" s_wayof a_wayof d_wayof
  b_wayof : Binds K d_wayof ["forest", "a", "b"] []
  g_wayof : mg "way_of" = some (.ref a_wayof)
  a_partof : Addr
  d_partof : FuncData
  F_partof : Fun K "part_of" "part_of" s_partof a_partof d_partof
  b_partof : Binds K d_partof ["forest", "a"] []
  g_partof : mg "part_of" = some (.ref a_partof)
  a_stepstoward : Addr
  d_stepstoward : FuncData
  F_stepstoward : Fun K "steps_toward" "steps_toward" s_stepstoward a_stepstoward d_stepstoward
  b_stepstoward : Binds K d_stepstoward ["forest", "goal"] []
  g_stepstoward : mg "steps_toward" = some (.ref a_stepstoward)
  a_neighbours : Addr
  d_neighbours : FuncData
  F_neighbours : Fun K "neighbours" "neighbours" s_neighbours a_neighbours d_neighbours
  b_neighbours : Binds K d_neighbours ["forest"] []
  g_neighbours : mg "neighbours" = some (.ref a_neighbours)
  a_tiedpaper : Addr
  d_tiedpaper : FuncData
  F_tiedpaper : Fun K "tied_paper" "tied_paper" s_tiedpaper a_tiedpaper d_tiedpaper
  b_tiedpaper : Binds K d_tiedpaper ["forest", "a", "b"] []
  g_tiedpaper : mg "tied_paper" = some (.ref a_tiedpaper)
  a_showstied : Addr
  d_showstied : FuncData
  F_showstied : Fun K "shows_tied" "shows_tied" s_showstied a_showstied d_showstied
  b_showstied : Binds K d_showstied ["forest", "a", "b", "thing"] []
  g_showstied : mg "shows_tied" = some (.ref a_showstied)
  a_isworded : Addr
  d_isworded : FuncData
  F_isworded : Fun K "is_worded" "is_worded" s_isworded a_isworded d_isworded
  b_isworded : Binds K d_isworded ["thing"] []
  g_isworded : mg "is_worded" = some (.ref a_isworded)
  a_isway : Addr
  d_isway : FuncData
  F_isway : Fun K "is_way" "is_way" s_isway a_isway d_isway
  b_isway : Binds K d_isway ["forest", "a", "b", "numbers"] []
  g_isway : mg "is_way" = some (.ref a_isway)
  a_setsapart : Addr
  d_setsapart : FuncData
  F_setsapart : Fun K "sets_apart" "sets_apart" s_setsapart a_setsapart d_setsapart
  b_setsapart : Binds K d_setsapart ["forest", "a", "b", "numbers"] []
  g_setsapart : mg "sets_apart" = some (.ref a_setsapart)
  a_Lbegin : Addr
  d_Lbegin : FuncData
  F_Lbegin : Fun K "_law_begin" "_law_begin" s_Lbegin a_Lbegin d_Lbegin
  b_Lbegin : Binds K d_Lbegin ["_law_script"] []
  g_Lbegin : mg "_law_begin" = some (.ref a_Lbegin)
  a_Lnext : Addr
  d_Lnext : FuncData
  F_Lnext : Fun K "_law_next" "_law_next" s_Lnext a_Lnext d_Lnext
  b_Lnext : Binds K d_Lnext ["_law_draws", "_law_many_here"] []
  g_Lnext : mg "_law_next" = some (.ref a_Lnext)
  a_Lmany : Addr
  d_Lmany : FuncData
  F_Lmany : Fun K "_law_many" "_law_many" s_Lmany a_Lmany d_Lmany
  b_Lmany : Binds K d_Lmany ["_law_draws", "_law_few", "_law_most"] []
  g_Lmany : mg "_law_many" = some (.ref a_Lmany)
  a_Lworth : Addr
  d_Lworth : FuncData
  F_Lworth : Fun K "_law_worth" "_law_worth" s_Lworth a_Lworth d_Lworth
  b_Lworth : Binds K d_Lworth ["_law_draws"] []
  g_Lworth : mg "_law_worth" = some (.ref a_Lworth)
  a_Lforest : Addr
  d_Lforest : FuncData
  F_Lforest : Fun K "_law_forest" "_law_forest" s_Lforest a_Lforest d_Lforest
  b_Lforest : Binds K d_Lforest ["_law_draws", "_law_most"] []
  g_Lforest : mg "_law_forest" = some (.ref a_Lforest)
  a_Lpart : Addr
  d_Lpart : FuncData
  F_Lpart : Fun K "_law_part" "_law_part" s_Lpart a_Lpart d_Lpart
  b_Lpart : Binds K d_Lpart ["_law_forest_here", "_law_a"] []
  g_Lpart : mg "_law_part" = some (.ref a_Lpart)
  a_Lrows : Addr
  d_Lrows : FuncData
  F_Lrows : Fun K "_law_rows" "_law_rows" s_Lrows a_Lrows d_Lrows
  b_Lrows : Binds K d_Lrows ["_law_forest_here", "_law_a"] []
  g_Lrows : mg "_law_rows" = some (.ref a_Lrows)
  a_Lalltuples : Addr
  d_Lalltuples : FuncData
  F_Lalltuples : Fun K "_law_all_tuples" "_law_all_tuples" s_Lalltuples a_Lalltuples d_Lalltuples
  b_Lalltuples : Binds K d_Lalltuples ["_law_many_here"] []
  g_Lalltuples : mg "_law_all_tuples" = some (.ref a_Lalltuples)
  a_law : Addr
  d_law : FuncData
  F_law : Fun K "law" "law" s_law a_law d_law
  b_law : Binds K d_law ["_law_script"] []
  g_law : mg "law" = some (.ref a_law)
  m_all : mg "all" = none
  m_bool : mg "bool" = none
  m_dict : mg "dict" = none
  m_int : mg "int" = none
  m_isinstance : mg "isinstance" = none
  m_len : mg "len" = none
  m_list : mg "list" = none
  m_max : mg "max" = none
  m_min : mg "min" = none
  m_range : mg "range" = none
  m_set : mg "set" = none
  m_sorted : mg "sorted" = none
  m_str : mg "str" = none
  m_tuple : mg "tuple" = none
  m_zip : mg "zip" = none
  cA : Addr
  PA : Addr
  hcA : d_arewholes.code = .ref cA
  cR : Addr
  PR : Addr
  hcR : d_isrising.code = .ref cR
  cY : Addr
  PY : Addr
  hcY : d_isway.code = .ref cY
  cS : Addr
  PS : Addr
  hcS : d_setsapart.code = .ref cS
  neP : ([PA, PR, PY, PS] : List Addr).Nodup
end My
namespace My
open PySem L2
/-! ### the store of draws -/
def kv (c : Addr) (a l s : Int) : List (Key × V) := [(Sum.inr "cells", .ref c), (Sum.inr "at", .int a), (Sum.inr "left", .int l), (Sum.inr "seed", .int s)]
theorem m1 : ¬ (("cells" : Str) = "at") := by decide +kernel
theorem n1 : ¬ ((Sum.inr ("cells" : Str) : Key) = Sum.inr ("at" : Str)) := fun e => m1 (Sum.inr.inj e)
theorem m2 : ¬ (("cells" : Str) = "left") := by decide +kernel
theorem n2 : ¬ ((Sum.inr ("cells" : Str) : Key) = Sum.inr ("left" : Str)) := fun e => m2 (Sum.inr.inj e)
theorem m3 : ¬ (("cells" : Str) = "seed") := by decide +kernel
theorem n3 : ¬ ((Sum.inr ("cells" : Str) : Key) = Sum.inr ("seed" : Str)) := fun e => m3 (Sum.inr.inj e)
theorem m4 : ¬ (("at" : Str) = "left") := by decide +kernel
theorem n4 : ¬ ((Sum.inr ("at" : Str) : Key) = Sum.inr ("left" : Str)) := fun e => m4 (Sum.inr.inj e)
theorem m5 : ¬ (("at" : Str) = "seed") := by decide +kernel
theorem n5 : ¬ ((Sum.inr ("at" : Str) : Key) = Sum.inr ("seed" : Str)) := fun e => m5 (Sum.inr.inj e)
theorem m6 : ¬ (("left" : Str) = "seed") := by decide +kernel
theorem n6 : ¬ ((Sum.inr ("left" : Str) : Key) = Sum.inr ("seed" : Str)) := fun e => m6 (Sum.inr.inj e)
theorem m7 : ¬ (("seed" : Str) = "left") := by decide +kernel
theorem n7 : ¬ ((Sum.inr ("seed" : Str) : Key) = Sum.inr ("left" : Str)) := fun e => m7 (Sum.inr.inj e)
theorem m8 : ¬ (("seed" : Str) = "at") := by decide +kernel
theorem n8 : ¬ ((Sum.inr ("seed" : Str) : Key) = Sum.inr ("at" : Str)) := fun e => m8 (Sum.inr.inj e)
theorem m9 : ¬ (("left" : Str) = "at") := by decide +kernel
theorem n9 : ¬ ((Sum.inr ("left" : Str) : Key) = Sum.inr ("at" : Str)) := fun e => m9 (Sum.inr.inj e)
section
variable {H : Hp} {d c : Addr} {a l s : Int}
theorem g_cells (h : H d = some (.dK (kv c a l s))) : DGet H d (.str "cells") (some (.ref c)) := by
  have q := DGet.k (k := (Sum.inr "cells" : Key)) h
  unfold kv at q
  rw [valV_pos rfl] at q
  exact q
theorem g_at (h : H d = some (.dK (kv c a l s))) : DGet H d (.str "at") (some (.int a)) := by
  have q := DGet.k (k := (Sum.inr "at" : Key)) h
  unfold kv at q
  rw [valV_neg n1, valV_pos rfl] at q
  exact q
theorem g_left (h : H d = some (.dK (kv c a l s))) : DGet H d (.str "left") (some (.int l)) := by
  have q := DGet.k (k := (Sum.inr "left" : Key)) h
  unfold kv at q
  rw [valV_neg n2, valV_neg n4, valV_pos rfl] at q
  exact q
theorem g_seed (h : H d = some (.dK (kv c a l s))) : DGet H d (.str "seed") (some (.int s)) := by
  have q := DGet.k (k := (Sum.inr "seed" : Key)) h
  unfold kv at q
  rw [valV_neg n3, valV_neg n5, valV_neg n6, valV_pos rfl] at q
  exact q
theorem small4 : (kv c a l s).length < sizeLine := by
  show 4 < sizeLine
  decide
theorem p_at (h : H d = some (.dK (kv c a l s))) (x : Int) : DPut H d (.str "at") (.int x) (upd H d (.dK (kv c x l s))) := by
  have q := DPut.k (k := (Sum.inr "at" : Key)) (v := .int x) h small4
  have e : putK (kv c a l s) (Sum.inr "at" : Key) (.int x) = kv c x l s := by
    simp [putK, kv, m1, m9, m8]
  rw [e] at q
  exact q
theorem p_left (h : H d = some (.dK (kv c a l s))) (x : Int) : DPut H d (.str "left") (.int x) (upd H d (.dK (kv c a x s))) := by
  have q := DPut.k (k := (Sum.inr "left" : Key)) (v := .int x) h small4
  have e : putK (kv c a l s) (Sum.inr "left" : Key) (.int x) = kv c a x s := by
    simp [putK, kv, m2, m4, m7]
  rw [e] at q
  exact q
theorem p_seed (h : H d = some (.dK (kv c a l s))) (x : Int) : DPut H d (.str "seed") (.int x) (upd H d (.dK (kv c a l x))) := by
  have q := DPut.k (k := (Sum.inr "seed" : Key)) (v := .int x) h small4
  have e : putK (kv c a l s) (Sum.inr "seed" : Key) (.int x) = kv c a l x := by
    simp [putK, kv, m3, m5, m6]
  rw [e] at q
  exact q
end
structure Draw (H : Hp) (d c : Addr) (ns : List Int) : Prop where
  dc : ∃ a l s : Int, H d = some (.dK (kv c a l s)) ∧ 0 ≤ a ∧ 0 ≤ l ∧ 0 ≤ s ∧ s < 2305843009213693951
  cs : H c = some (.lst (ns.map V.int))
theorem Tups.of_butD {K : PySem.W.Frag} {H H' : Hp} {d : Addr} {l : List (Key × V)} (s : But d H H') (e : H d = some (.dK l)) : Tups K H H' := fun a xs h => by
  rcases h with h | h
  · rcases h with h | ⟨o, h⟩
    · exact .inl (.inl (s _ _ h (ne_of h e (by intro z; cases z))))
    · exact .inl (.inr ⟨o, s _ _ h (ne_of h e (by intro z; cases z))⟩)
  · exact .inr h
structure DrAt (H : Hp) (d c : Addr) : Prop where
  ex : ∃ ns : List Int, Draw H d c ns
theorem DrAt.dk {H : Hp} {d c : Addr} (B : DrAt H d c) : ∃ kvs, H d = some (.dK kvs) := by
  obtain ⟨ns, ⟨⟨a, l, s, h, _⟩, _⟩⟩ := B.ex
  exact ⟨_, h⟩
theorem DrAt.ls {H : Hp} {d c : Addr} (B : DrAt H d c) : ∃ xs, H c = some (.lst xs) := by
  obtain ⟨ns, ⟨_, h⟩⟩ := B.ex
  exact ⟨_, h⟩
theorem DrAt.same {H H' : Hp} {d c : Addr} (B : DrAt H d c) (s : Same H H') : DrAt H' d c := by
  obtain ⟨ns, ⟨⟨a, l, x, h, r⟩, k⟩⟩ := B.ex
  exact ⟨ns, ⟨a, l, x, s _ _ h, r⟩, s _ _ k⟩
theorem DrAt.new {H : Hp} {d c p : Addr} {o : HO} (B : DrAt H d c) (n : H p = none) : DrAt (upd H p o) d c := B.same (same_new n)
theorem DrAt.put {H : Hp} {d c p : Addr} {o : HO} (B : DrAt H d c) (n1 : p ≠ d) (n2 : p ≠ c) : DrAt (upd H p o) d c := by
  obtain ⟨ns, ⟨⟨a, l, x, h, r⟩, k⟩⟩ := B.ex
  refine ⟨ns, ⟨a, l, x, ?_, r⟩, ?_⟩
  · rw [upd_ne n1.symm]
    exact h
  · rw [upd_ne n2.symm]
    exact k
theorem DrAt.tups {K : PySem.W.Frag} {H H' : Hp} {d c : Addr} (B : DrAt H d c) (s : But d H H') : Tups K H H' := by
  obtain ⟨kvs, h⟩ := B.dk
  exact Tups.of_butD s h
theorem DrAt.ne {H : Hp} {d c p : Addr} (B : DrAt H d c) (n : H p = none) : p ≠ d := by
  obtain ⟨kvs, h⟩ := B.dk
  exact (ne_of_none h n).symm
theorem DrAt.neL {H : Hp} {d c p : Addr} (B : DrAt H d c) (n : H p = none) : p ≠ c := by
  obtain ⟨xs, h⟩ := B.ls
  exact (ne_of_none h n).symm
theorem DrAt.back {H H' : Hp} {d c p : Addr} (B : DrAt H' d c) (s : But d H H') (n : H' p = none) : H p = none := by
  cases e : H p with
  | none => rfl
  | some o =>
    have z := s _ _ e (B.ne n)
    rw [z] at n
    cases n
def spBegin (K : PySem.W.Frag) : Sp := fun vs H Q _ => ∃ (a : Addr) (ns : List Int), vs = [.ref a] ∧ SqL K H a (ns.map V.int) ∧ ∀ (d c : Addr) (ms : List Int) (H' : Hp), Same H H' → H d = none → Draw H' d c ms → Q (.ref d) H'
def spNext : Sp := fun vs H Q _ => ∃ (d c : Addr) (ns : List Int) (many : Int), vs = [.ref d, .int many] ∧ Draw H d c ns ∧ 0 < many ∧ many < 2 ^ 100 ∧
  ∀ (x : Int) (H' : Hp), 0 ≤ x → x < many → Draw H' d c ns → But d H H' → Q (.int x) H'
def spNextD : Sp := fun vs H Q _ => ∃ (d c : Addr) (many : Int), vs = [.ref d, .int many] ∧ DrAt H d c ∧ 0 < many ∧ many < 2 ^ 100 ∧
  ∀ (x : Int) (H' : Hp), 0 ≤ x → x < many → DrAt H' d c → But d H H' → Q (.int x) H'
def spManyD : Sp := fun vs H Q _ => ∃ (d c : Addr) (f m : Int), vs = [.ref d, .int f, .int m] ∧ DrAt H d c ∧ 0 ≤ f ∧ 0 ≤ m ∧ f < 1000 ∧ m < 1000 ∧ ∀ (x : Int) (H' : Hp), 0 ≤ x → (x ≤ f ∨ x ≤ m) → DrAt H' d c → But d H H' → Q (.int x) H'
theorem pow30 : (10 : Int) ^ (30 : Int).toNat = 1000000000000000000000000000000 := by decide +kernel
theorem pow18 : (10 : Int) ^ (18 : Int).toNat = 1000000000000000000 := by decide +kernel
section
variable {P : Program} {w : World} {K : PySem.W.Frag} {mg : Str → Option Value} {base : Heap}
theorem cut63 (ns : List Int) : ∃ ms : List Int, cutV (ns.map V.int) none (some 63) = ms.map V.int := by
  refine ⟨ns.take (HT.sIx ns.length ns.length (some 63)), ?_⟩
  unfold cutV
  rw [HT.sIx_none, List.drop_zero, Nat.sub_zero, List.length_map, List.map_take]
theorem ok_begin (T : Top K mg) : FnOk P w K mg base CX0 1 T.a_Lbegin T.d_Lbegin ["_law_script"] (spBegin K) := by
  refine T.F_Lbegin.ok sc_Lbegin (fun vs H Q E h => ?_) (fun cdv A outer s H vs Q E hr h => ?_)
  · obtain ⟨x, ns, rfl, _⟩ := h
    rfl
  · obtain ⟨a, ns, rfl, hS, q⟩ := h
    refine ⟨_, (pss_one (ps_ret (pe_disp (pps_cons pe_str (pe_callTy call_list_of (by rfl) T.m_list (by decide +kernel) (pa_cons (pe_slice sl_list (pv 0) po_none (po_some pe_int)) pa_nil)) (pps_cons pe_str pe_int (pps_cons pe_str pe_int (pps_cons pe_str pe_int pps_nil)))) (by rfl) (by rfl) (fun z => by cases z) (by decide)))), ?_⟩
    intro d nd
    have s1 : Same H (upd H d (.dK [])) := same_new nd
    obtain ⟨ms, em⟩ := cut63 ns
    refine ⟨_, rfl, 63, rfl, a, _, rfl, s1.seq hS, fun p np => ?_⟩
    have s2 := same_new (H := upd H d (.dK [])) (o := .lst (cutV (ns.map V.int) none (some 63))) np
    refine ⟨p, _, rfl, .inl (SqL.of upd_same), fun c nc => ?_⟩
    have s3 := same_new (H := upd (upd H d (.dK [])) p (.lst (cutV (ns.map V.int) none (some 63)))) (o := .lst (cutV (ns.map V.int) none (some 63))) nc
    have hd2 := s3 _ _ (s2 _ _ (upd_same (H := H) (a := d) (o := .dK [])))
    refine ⟨hd2, kv c 0 0 1000003, rfl, (by show 4 ≤ 15; decide), ?_⟩
    have em2 : mergeK [] (kv c 0 0 1000003) = kv c 0 0 1000003 := by
      simp [mergeK, kv, putK, m1, m2, m3, m4, m5, m6]
    rw [em2]
    have ncd : c ≠ d := fun e => by
      subst e
      rw [s2 _ _ (upd_same (H := H) (a := c) (o := .dK []))] at nc
      cases nc
    refine q d c ms _ ?_ nd ⟨⟨0, 0, 1000003, upd_same, by decide, by decide, by decide, by decide⟩, ?_⟩
    · intro b o e
      rw [upd_ne (ne_of_none e nd)]
      exact s3 _ _ (s2 _ _ (s1 _ _ e))
    · rw [upd_ne ncd, upd_same, em]
theorem ok_next (T : Top K mg) : FnOk P w K mg base CX0 1 T.a_Lnext T.d_Lnext ["_law_draws", "_law_many_here"] spNext := by
  refine T.F_Lnext.ok sc_Lnext (fun vs H Q E h => ?_) (fun cdv A outer s H vs Q E hr h => ?_)
  · obtain ⟨d, c, ns, many, rfl, _⟩ := h
    rfl
  · obtain ⟨d, c, ns, many, rfl, ⟨⟨a, l, sd, hd, ha, hl, hs0, hs1⟩, hc⟩, hm0, hm1, q⟩ := h
    have ndc : c ≠ d := ne_of hc hd (by intro z; cases z)
    refine ⟨_, (pss_cons (ps_mid (ps_if (PW.pt (pw_and (pt_cmpR op_eq (pe_dget (u1 hr) (pv 0) pe_str (fun _ _ => rfl)) pe_int (nomark _)) (pw_and1 (pt_cmpR op_lt (pe_dget (u1 hr) (pv 0) pe_str (fun _ _ => rfl)) (pe_callB call_len_seq (by rfl) T.m_len PySem.boot_len (pa_cons (pe_dget (u1 hr) (pv 0) pe_str (fun _ _ => rfl)) pa_nil)) (nomark _))))) (pss_cons (ps_set (i := 2) sc_Lnext.nd rfl (.inl rfl) (pe_ix ix_list (pe_dget (u1 hr) (pv 0) pe_str (fun _ _ => rfl)) (pe_dget (u1 hr) (pv 0) pe_str (fun _ _ => rfl)) (fun _ _ => rfl)))
      (pss_cons (ps_dput (u1 hr) (pv 0) pe_str (pe_op op_add (pe_dget (u1 hr) (pv 0) pe_str (fun _ _ => rfl)) pe_int) rfl)
      (pss_cons (ps_dput (u1 hr) (pv 0) pe_str (pe_op op_mod (pe_op op_add (pe_op op_add (pe_op op_mul (pe_dget (u1 hr) (pv 0) pe_str (fun _ _ => rfl)) pe_int) (pe_op op_mod (pv 2) (pe_op op_pow pe_int pe_int))) pe_int) pe_int) rfl)
      (pss_one (ps_dput (u1 hr) (pv 0) pe_str (pe_op op_mul (pv 2) (pe_callTy call_int1 (by rfl) T.m_int (by decide +kernel) (pa_cons (pe_cmpR op_ge (pv 2) (pe_op op_pow pe_int pe_int) (nomark _)) pa_nil))) rfl))))) pss_nil))
      (pss_cons (ps_if (pt_cmpR op_gt (pe_dget (u1 hr) (pv 0) pe_str (fun _ _ => rfl)) pe_int (nomark _)) (pss_cons (ps_set (i := 3) sc_Lnext.nd rfl (.inl rfl) (pe_op op_mod (pe_dget (u1 hr) (pv 0) pe_str (fun _ _ => rfl)) (pv 1)))
      (pss_cons (ps_dput (u1 hr) (pv 0) pe_str (pe_op op_fdivW (pe_dget (u1 hr) (pv 0) pe_str (fun _ _ => rfl)) (pv 1)) rfl)
      (pss_one (ps_ret (pv 3))))) pss_nil)
      (pss_cons (ps_dput (u1 hr) (pv 0) pe_str (pe_op op_mod (pe_op op_add (pe_op op_mul (pe_dget (u1 hr) (pv 0) pe_str (fun _ _ => rfl)) pe_int) pe_int) pe_int) rfl)
      (pss_one (ps_ret (pe_op op_mod (pe_op op_fdivW (pe_op op_mod (pe_op op_mul (pe_dget (u1 hr) (pv 0) pe_str (fun _ _ => rfl)) (pe_dget (u1 hr) (pv 0) pe_str (fun _ _ => rfl))) pe_int) pe_int) (pv 1))))))), ?_⟩
    refine ⟨fun σ1 H1 => ∃ (y2 : Option V) (a l sd : Int), σ1 = [some (.ref d), some (.int many), y2, none] ∧ H1 d = some (.dK (kv c a l sd)) ∧ 0 ≤ a ∧ 0 ≤ l ∧ 0 ≤ sd ∧ sd < 2305843009213693951 ∧ H1 c = some (.lst (ns.map V.int)) ∧ But d H H1, ?_, ?_⟩
    · have dflt : ∃ (y2 : Option V) (a l sd : Int), (start ["_law_draws", "_law_many_here", "_law_cell", "_law_digit"] [V.ref d, V.int many]) = [some (.ref d), some (.int many), y2, none] ∧ H d = some (.dK (kv c a l sd)) ∧ 0 ≤ a ∧ 0 ≤ l ∧ 0 ≤ sd ∧ sd < 2305843009213693951 ∧ H c = some (.lst (ns.map V.int)) ∧ But d H H :=
        ⟨none, a, l, sd, rfl, hd, ha, hl, hs0, hs1, hc, But.refl⟩
      refine ⟨_, rfl, d, _, rfl, g_left hd, rfl, _, rfl, ite2 (fun e1 => ?_) (fun e1 => iteF dflt)⟩
      refine ⟨_, rfl, d, _, rfl, g_at hd, _, rfl, d, _, rfl, g_cells hd, c, _, rfl, .inl (SqL.of hc), _, _, rfl, rfl, _, rfl, ?_⟩
      refine ite2 (fun e2 => ?_) (fun e2 => dflt)
      have e3 : a < ((ns.map V.int).length : Int) := of_decide_eq_true e2
      rw [List.length_map] at e3
      obtain ⟨v, hv, _⟩ := at_map ha e3
      refine ⟨_, rfl, d, _, rfl, g_cells hd, _, rfl, d, _, rfl, g_at hd, c, _, _, _, rfl, rfl, SqL.of hc, hv, ?_⟩
      refine ⟨_, rfl, d, _, rfl, g_at hd, _, _, rfl, rfl, _, rfl, d, _, rfl, p_at hd _, ?_⟩
      refine ⟨_, rfl, d, _, rfl, g_seed upd_same, _, _, rfl, rfl, .inr ⟨by decide, by decide⟩, _, rfl, _, _, rfl, rfl, ⟨by decide, by decide, by decide⟩, _, _, rfl, rfl, (by show (0 : Int) < 10 ^ (30 : Int).toNat; rw [pow30]; decide), _, _, rfl, rfl, _, _, rfl, rfl, _, _, rfl, rfl, (by show (0 : Int) < 2305843009213693951; decide), _, rfl, d, _, rfl, p_seed upd_same _, ?_⟩
      refine ⟨_, rfl, _, rfl, _, _, rfl, rfl, ⟨by decide, by decide, by decide⟩, _, _, rfl, rfl, .inr ⟨_, rfl, _, _, rfl, rfl, ?_, _, rfl, d, _, rfl, p_left upd_same _, ?_⟩⟩
      · right
        constructor <;> split <;> decide
      · refine ⟨some (.int v), _, _, _, rfl, upd_same, by omega, ?_, Int.emod_nonneg _ (by decide), Int.emod_lt_of_pos _ (by decide), ?_, ((But.refl.put).put).put⟩
        · rw [pow18]
          by_cases z : (1000000000000000000 : Int) ≤ v
          · rw [decide_eq_true z]
            simp
            omega
          · rw [decide_eq_false z]
            simp
        · rw [upd_ne ndc, upd_ne ndc, upd_ne ndc]
          exact hc
    · rintro σ1 H1 ⟨y2, a, l, sd, rfl, hd, ha, hl, hs0, hs1, hc, kp⟩
      refine ⟨_, rfl, d, _, rfl, g_left hd, _, _, rfl, rfl, _, rfl, ite2 (fun e1 => ?_) (fun e1 => ?_)⟩
      · refine ⟨_, rfl, d, _, rfl, g_left hd, _, rfl, _, _, rfl, rfl, hm0, ?_⟩
        refine ⟨_, rfl, d, _, rfl, g_left hd, _, rfl, _, _, rfl, rfl, wide_ok hm0 hm1, _, rfl, d, _, rfl, p_left hd _, _, rfl, ?_⟩
        exact q _ _ (Int.emod_nonneg _ (by omega)) (Int.emod_lt_of_pos _ hm0) ⟨⟨a, _, sd, upd_same, ha, Int.ediv_nonneg hl (by omega), hs0, hs1⟩, by rw [upd_ne ndc]; exact hc⟩ kp.put
      · refine ⟨_, rfl, d, _, rfl, g_seed hd, _, _, rfl, rfl, .inr ⟨by decide, by decide⟩, _, _, rfl, rfl, _, _, rfl, rfl, (by show (0 : Int) < 2305843009213693951; decide), _, rfl, d, _, rfl, p_seed hd _, ?_⟩
        refine ⟨_, rfl, d, _, rfl, g_seed upd_same, _, rfl, d, _, rfl, g_seed upd_same, _, _, rfl, rfl, .inl ?_, _, _, rfl, rfl, (by show (0 : Int) < 2305843009213693921; decide), _, _, rfl, rfl, ?_, _, rfl, _, _, rfl, rfl, hm0, ?_⟩
        · have z1 := Int.emod_nonneg (sd * 1181783497276652981 + 12345678910987) (show (2305843009213693951 : Int) ≠ 0 by decide)
          have z2 := Int.emod_lt_of_pos (sd * 1181783497276652981 + 12345678910987) (show (0 : Int) < 2305843009213693951 by decide)
          constructor <;> omega
        · exact wide_ok (by decide) (by decide)
        · exact q _ _ (Int.emod_nonneg _ (by omega)) (Int.emod_lt_of_pos _ hm0) ⟨⟨a, l, _, upd_same, ha, hl, Int.emod_nonneg _ (by decide), Int.emod_lt_of_pos _ (by decide)⟩, by rw [upd_ne ndc]; exact hc⟩ kp.put
theorem ok_nextD (T : Top K mg) : FnOk P w K mg base CX0 1 T.a_Lnext T.d_Lnext ["_law_draws", "_law_many_here"] spNextD := by
  refine (ok_next T).imp fun vs H Q E h => ?_
  obtain ⟨d, c, many, e, B, m0, m1, q⟩ := h
  obtain ⟨ns, D⟩ := B.ex
  exact ⟨d, c, ns, many, e, D, m0, m1, fun x H' x0 x1 D' k => q x H' x0 x1 ⟨ns, D'⟩ k⟩
theorem ok_manyD (T : Top K mg) : FnOk P w K mg base CX0 2 T.a_Lmany T.d_Lmany ["_law_draws", "_law_few", "_law_most"] spManyD := by
  have G_Lnext : FnOk P w K mg base CX0 1 _ _ _ _ := ok_nextD T
  refine T.F_Lmany.ok sc_Lmany (fun vs H Q E h => ?_) (fun cdv A outer s H vs Q E hr h => ?_)
  · obtain ⟨d, c, f, m, rfl, _⟩ := h
    rfl
  · obtain ⟨d, c, f, m, rfl, B, f0, m0, f1, m1, q⟩ := h
    refine ⟨_, (pss_cons (ps_if (pt_cmpR op_eq (pe_call G_Lnext hr (by rfl) T.g_Lnext T.F_Lnext.kp T.b_Lnext .nil pass0 (pa_cons (pv 0) (pa_cons pe_int pa_nil))) pe_int (nomark _)) (pss_one (ps_ret (pe_call G_Lnext hr (by rfl) T.g_Lnext T.F_Lnext.kp T.b_Lnext .nil pass0 (pa_cons (pv 0) (pa_cons (pe_op op_add (pv 2) pe_int) pa_nil))))) pss_nil)
      (pss_one (ps_ret (pe_call G_Lnext hr (by rfl) T.g_Lnext T.F_Lnext.kp T.b_Lnext .nil pass0 (pa_cons (pv 0) (pa_cons (pe_op op_add (pv 1) pe_int) pa_nil)))))), ?_⟩
    refine ⟨_, rfl, d, c, 8, rfl, B, by decide, by decide, fun x H1 x0 x1 B1 k1 => ?_⟩
    refine ⟨rfl, _, rfl, ite2 (fun _ => ?_) (fun _ => ?_)⟩
    · refine ⟨_, rfl, _, rfl, _, _, rfl, rfl, d, c, m + 1, rfl, B1, by omega, by omega, fun y H2 y0 y1 B2 k2 => ?_⟩
      exact q y H2 y0 (.inr (by omega)) B2 (k1.trans k2)
    · refine ⟨_, rfl, _, rfl, _, _, rfl, rfl, d, c, f + 1, rfl, B1, by omega, by omega, fun y H2 y0 y1 B2 k2 => ?_⟩
      exact q y H2 y0 (.inl (by omega)) B2 (k1.trans k2)
end

end My
namespace My
open PySem L2
/-! ### forests drawn from the store -/
def pdata (p : Int × Str) : PyData := .tuple [.int p.1, .str p.2]
def tdata (t : Int × Int) : PyData := .tuple [.int t.1, .int t.2]
def PtOk (p : Int × Str) : Prop := -(2 ^ 100) < p.1 ∧ p.1 < 2 ^ 100 ∧ p.2 ∈ kinds
def fdata (pts : List (Int × Str)) (ts : List (Int × Int)) : PyData := .tuple [.tuple (pts.map pdata), .tuple (ts.map tdata)]
structure FrOk (pts : List (Int × Str)) (ts : List (Int × Int)) : Prop where
  pos : 0 < pts.length
  few : pts.length ≤ 100
  pok : ∀ p ∈ pts, PtOk p
  tok : ∀ t ∈ ts, 0 ≤ t.1 ∧ 0 ≤ t.2 ∧ t.1 < (pts.length : Int) ∧ t.2 < (pts.length : Int)
  tl : ts.length ≤ pts.length
  tree : Tree ts
  nd : ts.Nodup
theorem Td.two {K : PySem.W.Frag} {H : Hp} {x y : Int} {t : Addr} (h : H t = some (.tup [.int x, .int y])) : Td K H (.ref t) (tdata (x, y)) := .tup (SqT.of h) (.cons (.int x) (.cons (.int y) .nil))
theorem Td.pt {K : PySem.W.Frag} {H : Hp} {x : Int} {y : Str} {t : Addr} (h : H t = some (.tup [.int x, .str y])) : Td K H (.ref t) (pdata (x, y)) := .tup (SqT.of h) (.cons (.int x) (.cons (.str y) .nil))
/-- the object at t has no dict of its own -/
structure XT (H : Hp) (t : Addr) (x y : Int) : Prop where
  ex : ∃ o : Obj, o.dict = none ∧ H t = some (.frz o (.tup [.int x, .int y]))
theorem XT.sq {K : PySem.W.Frag} {H : Hp} {t : Addr} {x y : Int} (h : XT H t x y) : SqT K H t [.int x, .int y] := by
  obtain ⟨o, _, e⟩ := h.ex
  exact .inl (.inr ⟨o, e⟩)
theorem XT.td {K : PySem.W.Frag} {H : Hp} {t : Addr} {x y : Int} (h : XT H t x y) : Td K H (.ref t) (tdata (x, y)) := .tup h.sq (.cons (.int x) (.cons (.int y) .nil))
theorem XT.mono {H H' : Hp} (s : ∀ (t : Addr) (o : Obj) (u : List V), H t = some (.frz o (.tup u)) → H' t = some (.frz o (.tup u))) {t : Addr} {x y : Int} (h : XT H t x y) : XT H' t x y := by
  obtain ⟨o, d, e⟩ := h.ex
  exact ⟨o, d, s _ _ _ e⟩
theorem XT.same {H H' : Hp} (s : Same H H') {t : Addr} {x y : Int} (h : XT H t x y) : XT H' t x y := h.mono fun _ _ _ e => s _ _ e
/-- tied pairs stand in H itself -/
inductive PAll (H : Hp) : List V → List (Int × Int) → Prop
  | nil : PAll H [] []
  | cons {t : Addr} {x y : Int} {vs : List V} {ts : List (Int × Int)} : XT H t x y → PAll H vs ts → PAll H (.ref t :: vs) ((x, y) :: ts)
theorem PAll.td {K : PySem.W.Frag} {H : Hp} : ∀ {vs : List V} {ts : List (Int × Int)}, PAll H vs ts → TdAll K H vs (ts.map tdata)
  | _, _, .nil => .nil
  | _, _, .cons h k => .cons h.td (PAll.td k)
theorem PAll.mono {H H' : Hp} (s : ∀ (t : Addr) (o : Obj) (u : List V), H t = some (.frz o (.tup u)) → H' t = some (.frz o (.tup u))) : ∀ {vs : List V} {ts : List (Int × Int)}, PAll H vs ts → PAll H' vs ts
  | _, _, .nil => .nil
  | _, _, .cons h k => .cons (h.mono s) (PAll.mono s k)
theorem PAll.same {H H' : Hp} (s : Same H H') {vs : List V} {ts : List (Int × Int)} (h : PAll H vs ts) : PAll H' vs ts := h.mono fun _ _ _ e => s _ _ e
theorem PAll.put {H : Hp} {l : Addr} {xs ys : List V} (e : H l = some (.lst xs)) {vs : List V} {ts : List (Int × Int)} (h : PAll H vs ts) : PAll (upd H l (.lst ys)) vs ts := h.mono fun t _ _ z => by
  rw [upd_ne (ne_of z e (by intro z; cases z))]
  exact z
theorem PAll.but {H H' : Hp} {b L : Addr} (B : DrAt H b L) (s : But b H H') {vs : List V} {ts : List (Int × Int)} (h : PAll H vs ts) : PAll H' vs ts := h.mono fun t _ _ z => by
  obtain ⟨kvs, h1⟩ := B.dk
  exact s _ _ z (ne_of z h1 (by intro z; cases z))
theorem PAll.snoc {H : Hp} {t : Addr} {x y : Int} (e : XT H t x y) : ∀ {vs : List V} {ts : List (Int × Int)}, PAll H vs ts → PAll H (vs ++ [.ref t]) (ts ++ [(x, y)])
  | _, _, .nil => .cons e .nil
  | _, _, .cons h k => .cons h (PAll.snoc e k)
theorem PAll.length {H : Hp} : ∀ {vs : List V} {ts : List (Int × Int)}, PAll H vs ts → vs.length = ts.length
  | _, _, .nil => rfl
  | _, _, .cons _ k => congrArg (· + 1) k.length
theorem PAll.at {H : Hp} : ∀ {vs : List V} {ts : List (Int × Int)} {i : Nat} {v : V}, PAll H vs ts → vs[i]? = some v → ∃ (t : Int × Int) (p : Addr), ts[i]? = some t ∧ v = .ref p ∧ XT H p t.1 t.2
  | _, _, _, _, .nil, h => nomatch h
  | _, _, 0, v, .cons h _, e => ⟨_, _, rfl, (Option.some.inj e).symm, h⟩
  | _, _, i + 1, _, .cons _ k, e => PAll.at (i := i) k e
theorem PAll.perm {H : Hp} {xs ys : List V} (p : ys.Perm xs) : ∀ {ts : List (Int × Int)}, PAll H xs ts → ∃ us : List (Int × Int), us.Perm ts ∧ PAll H ys us := by
  induction p with
  | nil =>
    intro ts h
    cases h
    exact ⟨[], .refl _, .nil⟩
  | cons x p ih =>
    intro ts h
    cases h with
    | cons h1 h2 =>
      obtain ⟨us, pu, hu⟩ := ih h2
      exact ⟨_ :: us, pu.cons _, .cons h1 hu⟩
  | swap x y l =>
    intro ts h
    cases h with
    | cons h1 h2 =>
      cases h2 with
      | cons h2 h3 => exact ⟨_, .swap .., .cons h2 (.cons h1 h3)⟩
  | trans p1 p2 ih1 ih2 =>
    intro ts h
    obtain ⟨us, pu, hu⟩ := ih2 h
    obtain ⟨vs, pv, hv⟩ := ih1 hu
    exact ⟨vs, pv.trans pu, hv⟩
/-- the list of names -/
def Names (n : Nat) (ns : List Int) : Prop := ns.length = n ∧ (∀ x ∈ ns, 0 ≤ x ∧ x < (n : Int)) ∧ ns.Nodup
theorem names_put {n : Nat} {ns : List Int} {k : Nat} (h : Names n ns) : Names (n + 1) (ns.take k ++ [(n : Int)] ++ ns.drop k) := by
  have hn : (n : Int) ∉ ns := fun m => by
    have := h.2.1 _ m
    omega
  refine ⟨?_, fun x m => ?_, ?_⟩
  · have z := List.take_append_drop k ns
    have z2 := congrArg List.length z
    rw [List.length_append] at z2
    rw [List.length_append, List.length_append]
    show (ns.take k).length + 1 + (ns.drop k).length = n + 1
    have := h.1
    omega
  · rcases List.mem_append.mp m with m | m
    · rcases List.mem_append.mp m with m | m
      · have := h.2.1 x (List.mem_of_mem_take m)
        omega
      · rcases List.mem_cons.mp m with e | m
        · omega
        · cases m
    · have := h.2.1 x (List.mem_of_mem_drop m)
      omega
  · have nd := h.2.2
    rw [← List.take_append_drop k ns] at nd
    obtain ⟨n1, n2, n3⟩ := List.nodup_append.mp nd
    refine List.nodup_append.mpr ⟨List.nodup_append.mpr ⟨n1, List.nodup_cons.mpr ⟨List.not_mem_nil, List.nodup_nil⟩, fun x m y k z => ?_⟩, n2, fun x m y k z => ?_⟩
    · rw [List.mem_singleton.mp k] at z
      exact hn (z ▸ List.mem_of_mem_take m)
    · rcases List.mem_append.mp m with m | m
      · exact n3 x m y k z
      · rw [List.mem_singleton.mp m] at z
        exact hn (z ▸ List.mem_of_mem_drop k)
/-- a tie to a name that has none yet -/
theorem tie_more {ns : List Int} {ts : List (Int × Int)} {i k : Nat} {v1 v2 : Int} {u : Nat} (nd : ns.Nodup) (hk : k = 1 + i) (h1 : ns[k]? = some v1) (h2 : ns[u]? = some v2) (hu : u < k) (tr : Tree ts) (tn : ts.Nodup) (hm : ∀ t ∈ ts, t.1 ∈ ns.take k ∧ t.2 ∈ ns.take k) :
    Tree (ts ++ [((if v2 < v1 then v2 else v1), (if v2 > v1 then v2 else v1))]) ∧ (ts ++ [((if v2 < v1 then v2 else v1), (if v2 > v1 then v2 else v1))]).Nodup ∧ ∀ t ∈ ts ++ [((if v2 < v1 then v2 else v1), (if v2 > v1 then v2 else v1))], t.1 ∈ ns.take (k + 1) ∧ t.2 ∈ ns.take (k + 1) := by
  have n1 : v1 ∉ ns.take k := fun m => by
    obtain ⟨j, hj⟩ := List.mem_iff_getElem?.mp m
    have jl := (List.getElem?_eq_some_iff.mp hj).1
    rw [List.length_take] at jl
    rw [List.getElem?_take_of_lt (by omega)] at hj
    have l1 := (List.getElem?_eq_some_iff.mp h1)
    obtain ⟨x1, y1⟩ := l1
    obtain ⟨x2, y2⟩ := List.getElem?_eq_some_iff.mp hj
    have z := List.pairwise_iff_getElem.mp nd j k x2 x1 (by omega)
    exact z (y2.trans y1.symm)
  have m2 : v2 ∈ ns.take k := List.mem_iff_getElem?.mpr ⟨u, by rw [List.getElem?_take_of_lt hu]; exact h2⟩
  have ne : v2 ≠ v1 := fun z => n1 (z ▸ m2)
  have hv : ∀ t ∈ ts, t.1 ≠ v1 ∧ t.2 ≠ v1 := fun t m => ⟨fun z => n1 (z ▸ (hm t m).1), fun z => n1 (z ▸ (hm t m).2)⟩
  have two : ((if v2 < v1 then v2 else v1), (if v2 > v1 then v2 else v1)) = (v2, v1) ∨ ((if v2 < v1 then v2 else v1), (if v2 > v1 then v2 else v1)) = (v1, v2) := by
    by_cases lt : v2 < v1
    · rw [if_pos lt, if_neg (by omega)]
      exact .inl rfl
    · rw [if_neg lt, if_pos (by omega)]
      exact .inr rfl
  have up : ∀ {x : Int}, x ∈ ns.take k → x ∈ ns.take (k + 1) := fun {x} m => by
    rw [List.take_succ]
    exact List.mem_append_left _ m
  have m1 : v1 ∈ ns.take (k + 1) := by
    rw [List.take_succ, h1]
    exact List.mem_append_right _ List.mem_cons_self
  refine ⟨tree_snoc tr hv ne two, List.nodup_append.mpr ⟨tn, List.nodup_cons.mpr ⟨List.not_mem_nil, List.nodup_nil⟩, fun x m y k z => ?_⟩, fun t m => ?_⟩
  · rw [List.mem_singleton.mp k] at z
    have w := hv x m
    rw [z] at w
    rcases two with e | e
    · rw [e] at w
      exact w.2 rfl
    · rw [e] at w
      exact w.1 rfl
  · rcases List.mem_append.mp m with m | m
    · exact ⟨up (hm t m).1, up (hm t m).2⟩
    · rw [List.mem_singleton.mp m]
      rcases two with e | e
      · rw [e]
        exact ⟨up m2, m1⟩
      · rw [e]
        exact ⟨m1, up m2⟩
def spWorthD : Sp := fun vs H Q _ => ∃ (d c : Addr), vs = [.ref d] ∧ DrAt H d c ∧ ∀ (x : Int) (H' : Hp), -(2 ^ 100) < x → x < 2 ^ 100 → DrAt H' d c → But d H H' → Q (.int x) H'
/-- a forest whose ties' own objects are known -/
structure FX (K : PySem.W.Frag) (H : Hp) (f : Addr) (pts : List (Int × Str)) (ts : List (Int × Int)) : Prop where
  ex : ∃ (pa ta : Addr) (xs ys : List V), SqT K H f [.ref pa, .ref ta] ∧ SqT K H pa xs ∧ TdAll K H xs (pts.map pdata) ∧ SqT K H ta ys ∧ PAll H ys ts
theorem FX.td {K : PySem.W.Frag} {H : Hp} {f : Addr} {pts : List (Int × Str)} {ts : List (Int × Int)} (h : FX K H f pts ts) : Td K H (.ref f) (fdata pts ts) := by
  obtain ⟨pa, ta, xs, ys, h1, h2, h3, h4, h5⟩ := h.ex
  exact .tup h1 (.cons (.tup h2 h3) (.cons (.tup h4 h5.td) .nil))
theorem FX.same {K : PySem.W.Frag} {H H' : Hp} {f : Addr} {pts : List (Int × Str)} {ts : List (Int × Int)} (s : Same H H') (h : FX K H f pts ts) : FX K H' f pts ts := by
  obtain ⟨pa, ta, xs, ys, h1, h2, h3, h4, h5⟩ := h.ex
  have t := Tups.of_same (K := K) s
  exact ⟨pa, ta, xs, ys, t _ _ h1, t _ _ h2, h3.mono t, t _ _ h4, h5.same s⟩
theorem FX.but {K : PySem.W.Frag} {H H' : Hp} {b L f : Addr} {pts : List (Int × Str)} {ts : List (Int × Int)} (B : DrAt H b L) (s : But b H H') (h : FX K H f pts ts) : FX K H' f pts ts := by
  obtain ⟨pa, ta, xs, ys, h1, h2, h3, h4, h5⟩ := h.ex
  have t := B.tups (K := K) s
  exact ⟨pa, ta, xs, ys, t _ _ h1, t _ _ h2, h3.mono t, t _ _ h4, h5.but B s⟩
def spForest (K : PySem.W.Frag) : Sp := fun vs H Q _ => ∃ (b L : Addr) (m : Int), vs = [.ref b, .int m] ∧ DrAt H b L ∧ 9 ≤ m ∧ m ≤ 100 ∧
  ∀ (p : Addr) (pts : List (Int × Str)) (ts : List (Int × Int)) (H' : Hp), FrOk pts ts → (pts.length : Int) ≤ m → (∀ t ∈ ts, t.1 ≤ t.2) → DrAt H' b L → But b H H' → FX K H' p pts ts → Q (.ref p) H'
theorem pow20 : (10 : Int) ^ (20 : Int).toNat = 100000000000000000000 := by decide +kernel
section
variable {P : Program} {w : World} {K : PySem.W.Frag} {mg : Str → Option Value} {base : Heap}
theorem ok_worthD (T : Top K mg) : FnOk P w K mg base CX0 2 T.a_Lworth T.d_Lworth ["_law_draws"] spWorthD := by
  have G_Lnext : FnOk P w K mg base CX0 1 _ _ _ _ := ok_nextD T
  refine T.F_Lworth.ok sc_Lworth (fun vs H Q E h => ?_) (fun cdv A outer s H vs Q E hr h => ?_)
  · obtain ⟨d, c, rfl, _⟩ := h
    rfl
  · obtain ⟨d, c, rfl, B, q⟩ := h
    refine ⟨_, (pss_cons (ps_set (i := 1) sc_Lworth.nd rfl (.inl rfl) (pe_call G_Lnext hr (by rfl) T.g_Lnext T.F_Lnext.kp T.b_Lnext .nil pass0 (pa_cons (pv 0) (pa_cons pe_int pa_nil))))
      (pss_cons (ps_if (pt_cmpR op_lt (pv 1) pe_int (nomark _)) (pss_one (ps_ret (pe_call G_Lnext hr (by rfl) T.g_Lnext T.F_Lnext.kp T.b_Lnext .nil pass0 (pa_cons (pv 0) (pa_cons pe_int pa_nil))))) pss_nil)
      (pss_cons (ps_if (pt_cmpR op_eq (pv 1) pe_int (nomark _)) (pss_one (ps_ret (pe_op op_sub (pe_un un_neg pe_int) (pe_call G_Lnext hr (by rfl) T.g_Lnext T.F_Lnext.kp T.b_Lnext .nil pass0 (pa_cons (pv 0) (pa_cons pe_int pa_nil)))))) pss_nil)
      (pss_one (ps_ret (pe_ix ix_list (pe_lst (pa_cons (pe_op op_sub (pe_op op_pow pe_int pe_int) pe_int) (pa_cons (pe_op op_sub pe_int (pe_op op_pow pe_int pe_int)) (pa_cons pe_int (pa_cons (pe_call G_Lnext hr (by rfl) T.g_Lnext T.F_Lnext.kp T.b_Lnext .nil pass0 (pa_cons (pv 0) (pa_cons (pe_op op_pow pe_int pe_int) pa_nil))) pa_nil))))) (pe_call G_Lnext hr (by rfl) T.g_Lnext T.F_Lnext.kp T.b_Lnext .nil pass0 (pa_cons (pv 0) (pa_cons pe_int pa_nil))) (fun _ _ => rfl))))))), ?_⟩
    refine ⟨_, rfl, d, c, 6, rfl, B, by decide, by decide, fun x H1 x0 x1 B1 k1 => ?_⟩
    refine ⟨_, rfl, _, _, rfl, rfl, _, rfl, ite2 (fun _ => ?_) (fun _ => ?_)⟩
    · exact ⟨_, rfl, d, c, 7, rfl, B1, by decide, by decide, fun y H2 y0 y1 B2 k2 => q y H2 (by omega) (by omega) B2 (k1.trans k2)⟩
    refine ⟨_, rfl, rfl, _, rfl, ite2 (fun _ => ?_) (fun _ => ?_)⟩
    · refine ⟨_, rfl, _, rfl, d, c, 9, rfl, B1, by decide, by decide, fun y H2 y0 y1 B2 k2 => ⟨_, _, rfl, rfl, q _ H2 (by omega) (by omega) B2 (k1.trans k2)⟩⟩
    refine ⟨_, _, rfl, rfl, ⟨by decide, by decide, by decide⟩, _, _, rfl, rfl, _, _, rfl, rfl, ⟨by decide, by decide, by decide⟩, _, _, rfl, rfl, _, rfl, _, _, rfl, rfl, ⟨by decide, by decide, by decide⟩, d, c, _, rfl, B1, (by show (0 : Int) < 10 ^ (20 : Int).toNat; rw [pow20]; decide), (by show (10 : Int) ^ (20 : Int).toNat < 2 ^ 100; rw [pow20]; decide), fun y H2 y0 y1 B2 k2 => ⟨(by show 4 ≤ sizeLine; decide), fun p np => ?_⟩⟩
    refine ⟨_, rfl, d, c, 4, rfl, B2.new np, by decide, by decide, fun z H3 z0 z1 B3 k3 => ?_⟩
    have hp := k3 _ _ upd_same ((B2.ne np))
    rw [pow20] at y1
    have pick : ∃ v : Int, atI [V.int (10 ^ (30 : Int).toNat - 1), V.int (1 - 10 ^ (30 : Int).toNat), V.int 0, V.int y] z = some (.int v) ∧ -(2 ^ 100) < v ∧ v < 2 ^ 100 := by
      rw [pow30]
      have hc : z = 0 ∨ z = 1 ∨ z = 2 ∨ z = 3 := by omega
      rcases hc with rfl | rfl | rfl | rfl
      all_goals exact ⟨_, rfl, by omega, by omega⟩
    obtain ⟨v, hv, v0, v1⟩ := pick
    refine ⟨p, _, _, _, rfl, rfl, SqL.of hp, hv, ?_⟩
    exact q v H3 v0 v1 B3 (((k1.trans k2).new np).trans k3)
end

end My
namespace My
open PySem PySem.Spec PyProof.Rows L2
/-! ### sorted of pairs, remove of a pair -/
/-- the two ints of the pair at u -/
def kkOf (h : Heap) (u : Value) : Int × Int := match u with
  | .ref a => match h.get? a with
    | some o => match o.data with
      | .seq vs _ => match vs.toList with
        | [.int i _, .int j _] => (i, j)
        | _ => (0, 0)
      | _ => (0, 0)
    | none => (0, 0)
  | _ => (0, 0)
theorem kk_pair {h : Heap} {u : Value} {i j : Int} (p : Srt.IsPair h u i j) : kkOf h u = (i, j) := by
  obtain ⟨a, o, t, w, n, rfl, h1, _, h3⟩ := p
  unfold kkOf
  simp only [h1, h3]
section
variable {X : Cx} {pins : List (Addr × Obj)} {σ : L2.St} {H : Hp} {s : Shared}
theorem pair_at (I : Inv X pins σ H s) {v : V} {u : Value} {t : Int × Int} (h : Td X.K H v (tdata t)) (r : RelV v u) : Srt.IsPair s.heap u t.1 t.2 ∧ v = backV u := by
  obtain ⟨i, j⟩ := t
  cases h with
  | @tup a xs ds h1 h2 =>
    obtain rfl : u = Value.ref a := r
    obtain ⟨its, rv, ⟨o, g1, g2, n, g3⟩, _⟩ := I.tuple h1
    cases h2 with
    | cons k1 h2 =>
      cases h2 with
      | cons k2 h2 =>
        cases h2
        cases k1
        cases k2
        cases rv with
        | cons r1 rv =>
          cases rv with
          | cons r2 rv =>
            cases rv
            obtain ⟨t1, rfl⟩ := r1
            obtain ⟨t2, rfl⟩ := r2
            exact ⟨⟨a, o, t1, t2, n, rfl, g1, g2, g3⟩, rfl⟩
theorem pairs_at (I : Inv X pins σ H s) : ∀ {xs : List V} {ts : List (Int × Int)} {us : List Value}, TdAll X.K H xs (ts.map tdata) → Vals xs us → us.map (kkOf s.heap) = ts ∧ ∀ u ∈ us, Srt.IsPair s.heap u (kkOf s.heap u).1 (kkOf s.heap u).2 ∧ Td X.K H (backV u) (tdata (kkOf s.heap u))
  | [], [], _, _, .nil => ⟨rfl, fun u m => nomatch m⟩
  | [], _ :: _, _, h, _ => nomatch h
  | _ :: _, [], _, h, _ => nomatch h
  | x :: xs, t :: ts, _ :: us, .cons h1 h2, .cons r1 r2 => by
    obtain ⟨e, f⟩ := pairs_at I h2 r2
    obtain ⟨p, b⟩ := pair_at I h1 r1
    have k := kk_pair p
    refine ⟨by rw [List.map_cons, e, k], fun u m => ?_⟩
    rcases List.mem_cons.mp m with rfl | m
    · rw [k]
      exact ⟨p, by rw [← b]; exact h1⟩
    · exact f u m
theorem td_back {h : Heap} {K : PySem.W.Frag} {H : Hp} : ∀ {us : List Value}, (∀ u ∈ us, Td K H (backV u) (tdata (kkOf h u))) → TdAll K H (us.map backV) ((us.map (kkOf h)).map tdata)
  | [], _ => .nil
  | u :: us, f => .cons (f u List.mem_cons_self) (td_back fun y m => f y (List.mem_cons_of_mem _ m))
/-- s is not behind t -/
def leT (s t : Int × Int) : Prop := s.1 < t.1 ∨ (s.1 = t.1 ∧ s.2 ≤ t.2)
def rSortedPS (K : PySem.W.Frag) : List V → Hp → VK → Prop := fun vs H Q => ∃ (l : Addr) (zs : List V) (ts : List (Int × Int)), vs = [V.ref l] ∧ SqL K H l zs ∧ TdAll K H zs (ts.map tdata) ∧
  ∀ (ys : List V) (us : List (Int × Int)) (c : Addr), TdAll K H ys (us.map tdata) → us.Perm ts → us.Pairwise leT → H c = none → Q (.ref c) (upd H c (.lst ys))
theorem cr_sortedPS : CallR X (.builtin "sorted") (rSortedPS X.K) := by
  intro pins s σ H vs us Q I r hh
  obtain ⟨l, zs, ts, rfl, sq, td, q⟩ := hh
  obtain ⟨its, rv, hl, hz⟩ := I.list sq
  obtain ⟨u, rfl, ru⟩ := vals1 r
  obtain rfl : u = Value.ref l := ru
  obtain ⟨e, f⟩ := pairs_at I td rv
  refine SrtO.sorted_pairsO (k := kkOf s.heap) hl.isList (by rw [← rv.length]; exact hz) (fun v m => (f v m).1) fun h' d out g1 g2 kp hd hn => ?_
  have back : ∀ v ∈ out, v ∈ its := fun v m => g2.perm.mem_iff.mp m
  have refs : ∀ v ∈ out, ∃ b, v = Value.ref b := fun v m => by
    obtain ⟨b, _, _, _, _, e1, _⟩ := (f v (back v m)).1
    exact ⟨b, e1⟩
  obtain ⟨n, hn⟩ := hn
  have len : (out.map backV).length ≤ sizeLine := by
    rw [List.length_map, g2.perm.length_eq, ← rv.length]
    exact hz
  refine ⟨.ref d, upd H d (.lst (out.map backV)), I.laid (t' := s.toks) kp hd ⟨len, out, n, vals_back refs, hn⟩, rfl, q _ (out.map (kkOf s.heap)) d (td_back fun v m => (f v (back v m)).2) ?_ ?_ (I.hok.fresh hd)⟩
  · rw [← e]
    exact g2.perm.map _
  · refine List.pairwise_map.mpr (g1.imp fun {x y} z => ?_)
    have z2 := SrtO.lexB_no.mp z
    unfold leT
    omega
def rRemD (K : PySem.W.Frag) : V → List V → Hp → VK → Prop := fun x xs H Q => ∃ (l : Addr) (y : V) (zs : List V) (ts : List (Int × Int)) (u : Int × Int) (j : Nat), x = V.ref l ∧ xs = [y] ∧ H l = some (.lst zs) ∧ TdAll K H zs (ts.map tdata) ∧ Td K H y (tdata u) ∧
  (ts.map tdata).findIdx? (fun z => PyData.eqv z (tdata u)) = some j ∧ Q .non (upd H l (.lst (zs.eraseIdx j)))
theorem plain_td : ∀ ts : List (Int × Int), PyData.plainAll (ts.map tdata) = true
  | [] => rfl
  | t :: r => by
    obtain ⟨i, j⟩ := t
    show (PyData.plain (tdata (i, j)) && PyData.plainAll (r.map tdata)) = true
    rw [plain_td r]
    rfl
theorem mt_removeD (hu : X.A.units + 65 < cLine) : MtR X "list.remove" (rRemD X.K) := by
  intro pins s σ H x xs v us Q I rx rxs hh
  obtain ⟨l, y, zs, ts, u, j, rfl, rfl, hl, td, ty, hj, q⟩ := hh
  obtain rfl : v = Value.ref l := rx
  obtain ⟨w, rfl, ry⟩ := vals1 rxs
  obtain ⟨z, its, n, r, le, eo⟩ := I.lstM hl
  obtain ⟨as, rds⟩ := Dp.readsAll I (ts.map tdata) zs its td.dp r
  obtain ⟨bs, rdy⟩ := Dp.reads I (tdata u) y w ty.dp ry
  have du : (tdata u).depth ≤ 1 := Nat.le_refl _
  refine SeqAt.remove_list_data (xs := ts.map tdata) (d := tdata u) (j := j) ⟨_, eo, rfl, _, rfl⟩ rds rdy (plain_td ts) rfl (by have := Nat.min_le_right (PyData.depthAll (ts.map tdata)) (tdata u).depth; omega) hj (by rw [List.size_toArray, ← le]; exact z) ?_
  refine ⟨.non, _, I.lset (its' := its.eraseIdx j) hl eo ?_ (r.eraseIdx j) ?_, rfl, q⟩
  · rw [List.eraseIdxIfInBounds_toArray]
  · exact Nat.le_trans (List.length_eraseIdx_le _ _) z
end

section
variable {X : Cx} {pins : List (Addr × Obj)} {σ : L2.St} {H : Hp} {s : Shared}
def rSortedPE (K : PySem.W.Frag) : List V → Hp → VK → Prop := fun vs H Q => ∃ (l : Addr) (zs : List V) (ts : List (Int × Int)), vs = [V.ref l] ∧ SqL K H l zs ∧ TdAll K H zs (ts.map tdata) ∧
  ∀ (ys : List V) (us : List (Int × Int)) (c : Addr), TdAll K H ys (us.map tdata) → us.Perm ts → us.Pairwise leT → ys.Perm zs → H c = none → Q (.ref c) (upd H c (.lst ys))
theorem cr_sortedPE : CallR X (.builtin "sorted") (rSortedPE X.K) := by
  intro pins s σ H vs us Q I r hh
  obtain ⟨l, zs, ts, rfl, sq, td, q⟩ := hh
  obtain ⟨its, rv, hl, hz⟩ := I.list sq
  obtain ⟨u, rfl, ru⟩ := vals1 r
  obtain rfl : u = Value.ref l := ru
  obtain ⟨e, f⟩ := pairs_at I td rv
  refine SrtO.sorted_pairsO (k := kkOf s.heap) hl.isList (by rw [← rv.length]; exact hz) (fun v m => (f v m).1) fun h' d out g1 g2 kp hd hn => ?_
  have back : ∀ v ∈ out, v ∈ its := fun v m => g2.perm.mem_iff.mp m
  have refs : ∀ v ∈ out, ∃ b, v = Value.ref b := fun v m => by
    obtain ⟨b, _, _, _, _, e1, _⟩ := (f v (back v m)).1
    exact ⟨b, e1⟩
  obtain ⟨n, hn⟩ := hn
  have len : (out.map backV).length ≤ sizeLine := by
    rw [List.length_map, g2.perm.length_eq, ← rv.length]
    exact hz
  refine ⟨.ref d, upd H d (.lst (out.map backV)), I.laid (t' := s.toks) kp hd ⟨len, out, n, vals_back refs, hn⟩, rfl, q _ (out.map (kkOf s.heap)) d (td_back fun v m => (f v (back v m)).2) ?_ ?_ ?_ (I.hok.fresh hd)⟩
  · rw [← e]
    exact g2.perm.map _
  · refine List.pairwise_map.mpr (g1.imp fun {x y} z => ?_)
    have z2 := SrtO.lexB_no.mp z
    unfold leT
    omega
  · have zr : ∀ x ∈ zs, ∃ b, x = V.ref b := fun x m => by
      obtain ⟨d, hd, t⟩ := td.get m
      obtain ⟨u, _, rfl⟩ := List.mem_map.mp hd
      obtain ⟨i, j⟩ := u
      cases t with
      | tup _ _ => exact ⟨_, rfl⟩
    rw [(refs_back rv zr).1]
    exact g2.perm.map _
end

end My
namespace My
open PySem L2
/-! ### forests drawn from the store -/
theorem kind_at {r : Int} (d0 : 0 ≤ r) (d1 : r < 8) : ∃ c : Nat, atI ("abcdefgh" : Str).cps.toList r = some c ∧ (⟨#[c]⟩ : Str) ∈ kinds := by
  have hc : r = 0 ∨ r = 1 ∨ r = 2 ∨ r = 3 ∨ r = 4 ∨ r = 5 ∨ r = 6 ∨ r = 7 := by omega
  rcases hc with h | h | h | h | h | h | h | h
  all_goals
    subst h
    exact ⟨_, rfl, by decide +kernel⟩
section
variable {P : Program} {w : World} {K : PySem.W.Frag} {mg : Str → Option Value} {base : Heap}
theorem ok_forest (T : Top K mg) : FnOk P w K mg base CX0 3 T.a_Lforest T.d_Lforest ["_law_draws", "_law_most"] (spForest K) := by
  have G_Lnext : FnOk P w K mg base CX0 1 _ _ _ _ := ok_nextD T
  have G_Lmany : FnOk P w K mg base CX0 2 _ _ _ _ := ok_manyD T
  have G_Lworth : FnOk P w K mg base CX0 2 _ _ _ _ := ok_worthD T
  refine T.F_Lforest.ok sc_Lforest (fun vs H Q E h => ?_) (fun cdv A outer s H vs Q E hr h => ?_)
  · obtain ⟨b, L, m, rfl, _⟩ := h
    rfl
  · obtain ⟨b, L, m, rfl, B, m0, m1, q⟩ := h
    refine ⟨_, (pss_cons (ps_set (i := 2) sc_Lforest.nd rfl (.inl rfl) (pe_op op_add pe_int (pe_call G_Lmany hr (by rfl) T.g_Lmany T.F_Lmany.kp T.b_Lmany .nil pass0 (pa_cons (pv 0) (pa_cons pe_int (pa_cons (pe_op op_sub (pv 1) pe_int) pa_nil))))))
      (pss_cons (ps_set (i := 3) sc_Lforest.nd rfl (.inl rfl) (pe_lst pa_nil))
      (pss_cons (ps_for PassesOwn.never rfl (pi_range1 (by rfl) T.m_range (pa_cons (pv 2) pa_nil)) (pg_name (i := 4) sc_Lforest.nd rfl (.inl rfl)) (pss_one (ps_expr (pe_bm PySem.F.plainAttrs_list PySem.F.slot_list_insert PySem.F.type_list_insert mt_insert (pv 3) (pa_cons (pe_call G_Lnext (hr.mono (by decide)) (by rfl) T.g_Lnext T.F_Lnext.kp T.b_Lnext .nil pass0 (pa_cons (pv 0) (pa_cons (pe_op op_add (pv 4) pe_int) pa_nil))) (pa_cons (pv 4) pa_nil))))))
      (pss_cons (ps_par (i := 5) (j := 6) (by rfl) sc_Lforest.nd rfl rfl (by decide) rfl rfl (pa_cons (pe_call G_Lnext (hr.mono (by decide)) (by rfl) T.g_Lnext T.F_Lnext.kp T.b_Lnext .nil pass0 (pa_cons (pv 0) (pa_cons pe_int pa_nil))) (pa_cons (pe_ix ix_list (pe_lst (pa_cons pe_int (pa_cons pe_int (pa_cons pe_int pa_nil)))) (pe_call G_Lnext (hr.mono (by decide)) (by rfl) T.g_Lnext T.F_Lnext.kp T.b_Lnext .nil pass0 (pa_cons (pv 0) (pa_cons pe_int pa_nil))) (fun _ _ => rfl)) pa_nil)) (by rfl))
      (pss_cons (ps_set (i := 7) sc_Lforest.nd rfl (.inl rfl) (pe_lst pa_nil))
      (pss_cons (ps_for PassesOwn.never rfl (pi_range2 (by rfl) T.m_range (pa_cons pe_int (pa_cons (pv 2) pa_nil))) (pg_name (i := 4) sc_Lforest.nd rfl (.inl rfl)) (pss_cons (ps_set (i := 8) sc_Lforest.nd rfl (.inl rfl) (pe_ix ix_list (pe_lst (pa_cons (pe_op op_sub (pv 4) pe_int) (pa_cons pe_int (pa_cons (pe_call G_Lnext (hr.mono (by decide)) (by rfl) T.g_Lnext T.F_Lnext.kp T.b_Lnext .nil pass0 (pa_cons (pv 0) (pa_cons (pv 4) pa_nil))) (pa_cons (pe_callB (call_max2 rfl) (by rfl) T.m_max (by decide +kernel) (pa_cons pe_int (pa_cons (pe_op op_sub (pe_op op_sub (pv 4) pe_int) (pe_call G_Lnext (hr.mono (by decide)) (by rfl) T.g_Lnext T.F_Lnext.kp T.b_Lnext .nil pass0 (pa_cons (pv 0) (pa_cons pe_int pa_nil)))) pa_nil))) (pa_cons (pe_op op_fdivW (pe_op op_sub (pv 4) pe_int) pe_int) pa_nil)))))) (pv 5) (fun _ _ => rfl)))
      (pss_one (ps_if (pt_mid (PW.pt (pw_or (pt_cmpR op_eq (pv 6) pe_int (nomark _)) (pw_or1 (pt_cmpR op_gt (pe_call G_Lnext (hr.mono (by decide)) (by rfl) T.g_Lnext T.F_Lnext.kp T.b_Lnext .nil pass0 (pa_cons (pv 0) (pa_cons (pv 6) pa_nil))) pe_int (nomark _)))))) (pss_one (ps_expr (pe_bm PySem.F.plainAttrs_list PySem.F.slot_list_append PySem.F.type_list_append mt_append (pv 7) (pa_cons (pe_tupX (pa_cons (pe_callB (call_min2 rfl) (by rfl) T.m_min (by decide +kernel) (pa_cons (pe_ix ix_list (pv 3) (pv 8) (fun _ _ => rfl)) (pa_cons (pe_ix ix_list (pv 3) (pv 4) (fun _ _ => rfl)) pa_nil))) (pa_cons (pe_callB (call_max2 rfl) (by rfl) T.m_max (by decide +kernel) (pa_cons (pe_ix ix_list (pv 3) (pv 8) (fun _ _ => rfl)) (pa_cons (pe_ix ix_list (pv 3) (pv 4) (fun _ _ => rfl)) pa_nil))) pa_nil))) pa_nil)))) pss_nil))))
      (pss_cons (ps_set (i := 9) sc_Lforest.nd rfl (.inl rfl) (pe_callTy call_tuple_of (by rfl) T.m_tuple (by decide +kernel) (pa_cons (pe_lc (own := [("_law_k", 4)]) (g := gName 4) (tt := tYes) (by rfl) sc_Lforest.nd (pi_range1 (by rfl) T.m_range (pa_cons (pv 2) pa_nil)) (blkOk_by (own := [("_law_k", 4)]) (N := ["_law_draws", "_law_most", "_law_many_here", "_law_names", "_law_k", "_law_way", "_law_rare", "_law_ties", "_law_former", "_law_points"]) (sc := defScope s_Lforest) (by decide +kernel)) (fun _ _ _ _ _ => (pg_name (i := 4) sc_Lforest.nd rfl (.inl rfl))) (fun _ _ _ _ _ => pts_nil) (fun _ _ _ _ _ => (pe_tup (pa_cons (pe_call G_Lworth hr (by rfl) T.g_Lworth T.F_Lworth.kp T.b_Lworth .nil pass0 (pa_cons (pv 0) pa_nil)) (pa_cons (pe_ix ix_str pe_str (pe_call G_Lnext (hr.mono (by decide)) (by rfl) T.g_Lnext T.F_Lnext.kp T.b_Lnext .nil pass0 (pa_cons (pv 0) (pa_cons pe_int pa_nil))) (fun _ _ => rfl)) pa_nil))))) pa_nil)))
      (pss_one (ps_ret (pe_tup (pa_cons (pv 9) (pa_cons (pe_callTy call_tuple_of (by rfl) T.m_tuple (by decide +kernel) (pa_cons (pe_callB cr_sortedPE (by rfl) T.m_sorted (by decide +kernel) (pa_cons (pv 7) pa_nil)) pa_nil)) pa_nil)))))))))))), ?_⟩
    refine ⟨_, rfl, _, rfl, _, _, rfl, rfl, b, L, 8, m - 1, rfl, B, by decide, by omega, by decide, by omega, fun x1 H1 a0 a1 B1 k1 => ⟨_, _, rfl, rfl, Nat.zero_le _, fun nm nnm => ?_⟩⟩
    have nnb : nm ≠ b := B1.ne nnm
    have nnL : nm ≠ L := B1.neL nnm
    have a2 : x1 ≤ m - 1 := by omega
    clear a1
    refine ⟨_, rfl, _, rfl, by omega, by omega, for_range (lo := 0) (n := (1 + x1).toNat) (fun i σ H3 => ∃ (ns : List Int) (y6 : Option V), σ = [some (.ref b), some (.int m), some (.int (1 + x1)), some (.ref nm), y6, none, none, none, none, none] ∧ DrAt H3 b L ∧ H3 nm = some (.lst (ns.map V.int)) ∧ Names i ns ∧ But b H1 H3)
      ⟨[], none, rfl, B1.new nnm, upd_same, ⟨rfl, (fun x z => nomatch z), List.nodup_nil⟩, But.refl.new nnm⟩ ?_ ?_⟩
    · rintro i σ H3 hi ⟨ns, y6, rfl, B3, hnm, hN, k3⟩
      have e0 : (0 : Int) + (i : Int) = (i : Int) := by omega
      refine ⟨_, rfl, .inl ⟨rfl, _, SqL.of hnm⟩, _, rfl, _, rfl, _, _, rfl, rfl, b, L, _, rfl, B3, (by show (0 : Int) < 0 + (i : Int) + 1; omega), (by show (0 : Int) + (i : Int) + 1 < 2 ^ 100; omega), fun x3 H4 z0 z1 B4 k4 => ⟨_, rfl, ?_⟩⟩
      have h4 := k4 _ _ hnm nnb
      refine ⟨nm, _, _, _, rfl, rfl, h4, szl (by rw [List.length_map, hN.1]; omega), z0, by omega, ?_⟩
      refine ⟨ns.take x3.toNat ++ [(i : Int)] ++ ns.drop x3.toNat, _, rfl, B4.put nnb nnL, ?_, names_put hN, fun a o e ne => ?_⟩
      · rw [upd_same, e0, List.map_append, List.map_append, List.map_take, List.map_drop]
        rfl
      · rw [upd_ne (ne_of_none e nnm)]
        exact k4 _ _ (k3 _ _ e ne) ne
    · rintro σ H3 ⟨ns, y6, rfl, B3, hnm, hN, k3⟩
      have nmy : (ns.length : Int) = 1 + x1 := by
        have := hN.1
        omega
      have pk : ∀ k : Int, 0 ≤ k → k < 1 + x1 → ∃ v : Int, atI (ns.map V.int) k = some (.int v) ∧ 0 ≤ v ∧ v < 1 + x1 ∧ ns[k.toNat]? = some v := fun k k0 k1 => by
        have hkl : k.toNat < ns.length := by omega
        have ek : k = ((k.toNat : Nat) : Int) := by omega
        have hg : ns[k.toNat]? = some ns[k.toNat] := List.getElem?_eq_getElem hkl
        have hv : atI (ns.map V.int) ((k.toNat : Nat) : Int) = some (.int ns[k.toNat]) := atI_nat (by rw [List.getElem?_map, hg]; rfl)
        rw [← ek] at hv
        have := hN.2.1 _ (List.mem_of_getElem? hg)
        have := hN.1
        exact ⟨_, hv, by omega, by omega, hg⟩
      refine ⟨_, rfl, b, L, 5, rfl, B3, by decide, by decide, fun sh H4 s0 s1 B4 k4 => ⟨(by show 3 ≤ sizeLine; decide), fun p np => ?_⟩⟩
      refine ⟨_, rfl, b, L, 3, rfl, B4.new np, by decide, by decide, fun rz H5 r0 r1 B5 k5 => ?_⟩
      have hp5 := k5 _ _ upd_same (B4.ne np)
      have pick : ∃ v : Int, atI [V.int 0, V.int 7, V.int 3] rz = some (.int v) ∧ 0 ≤ v ∧ v < 10 := by
        have hc : rz = 0 ∨ rz = 1 ∨ rz = 2 := by omega
        rcases hc with rfl | rfl | rfl
        all_goals exact ⟨_, rfl, by decide, by decide⟩
      obtain ⟨ra, hra, ra0, ra1⟩ := pick
      refine ⟨p, _, _, _, rfl, rfl, SqL.of hp5, hra, _, _, rfl, Nat.zero_le _, fun tl ntl => ?_⟩
      have k35 : But b H3 H5 := ((k4.new np).trans k5)
      have hnm5 := k35 _ _ hnm nnb
      have ntb : tl ≠ b := B5.ne ntl
      have ntL : tl ≠ L := B5.neL ntl
      have ntn : nm ≠ tl := ne_of_none hnm5 ntl
      have hnm' : (upd H5 tl (.lst [])) nm = some (.lst (ns.map V.int)) := by
        rw [upd_ne ntn]
        exact hnm5
      refine ⟨_, rfl, _, _, rfl, ⟨by decide, by decide, by omega, by omega⟩, for_range (lo := 1) (n := _) (fun i σ H6 => ∃ (xs : List V) (ts : List (Int × Int)) (y6 y9 : Option V), σ = [some (.ref b), some (.int m), some (.int (1 + x1)), some (.ref nm), y6, some (.int sh), some (.int ra), some (.ref tl), y9, none] ∧ DrAt H6 b L ∧ H6 nm = some (.lst (ns.map V.int)) ∧ H6 tl = some (.lst xs) ∧ PAll H6 xs ts ∧ ts.length ≤ i ∧ (∀ t ∈ ts, 0 ≤ t.1 ∧ 0 ≤ t.2 ∧ t.1 < 1 + x1 ∧ t.2 < 1 + x1 ∧ t.1 ≤ t.2) ∧ (Tree ts ∧ ts.Nodup ∧ ∀ t ∈ ts, t.1 ∈ ns.take (1 + i) ∧ t.2 ∈ ns.take (1 + i)) ∧ But b H5 H6)
        ⟨[], [], _, none, rfl, B5.new ntl, hnm', upd_same, .nil, Nat.zero_le _, (fun t z => nomatch z), ⟨tree_nil, List.nodup_nil, (fun t z => nomatch z)⟩, But.refl.new ntl⟩ ?_ ?_⟩
      · rintro i σ H5' hi ⟨xs, ts, y6, y9, rfl, B5', hnm5', htl5, pa5, hl5, ht5, ⟨tr5, tn5, tm5⟩, k5'⟩
        have hk0 : (1 : Int) ≤ 1 + (i : Int) := by omega
        have hk1 : (1 : Int) + (i : Int) < 1 + x1 := by omega
        generalize hk : (1 : Int) + (i : Int) = k at hk0 hk1
        refine ⟨_, rfl, _, _, rfl, rfl, _, rfl, _, rfl, b, L, k, rfl, B5', by omega, by omega, fun x5 H6 z0 z1 B6 k6 => ?_⟩
        refine ⟨_, rfl, _, _, rfl, rfl, _, rfl, b, L, 3, rfl, B6, by decide, by decide, fun x6 H7 w0 w1 B7 k7 => ⟨_, _, rfl, rfl, _, _, rfl, _, rfl, _, _, rfl, rfl, _, _, rfl, rfl, wide_ok (by decide) (by decide), (by show 5 ≤ sizeLine; decide), fun p np => ?_⟩⟩
        have pick : ∃ v : Int, atI [V.int (k - 1), V.int 0, V.int x5, V.int (if k - 1 - x6 > 0 then k - 1 - x6 else 0), V.int ((k - 1) / 2)] sh = some (.int v) ∧ 0 ≤ v ∧ v < k := by
          have hc : sh = 0 ∨ sh = 1 ∨ sh = 2 ∨ sh = 3 ∨ sh = 4 := by omega
          rcases hc with h | h | h | h | h
          all_goals subst h
          · exact ⟨_, rfl, by omega, by omega⟩
          · exact ⟨_, rfl, by omega, by omega⟩
          · exact ⟨_, rfl, by omega, by omega⟩
          · refine ⟨_, rfl, ?_, ?_⟩ <;> split <;> omega
          · exact ⟨_, rfl, by omega, by omega⟩
        obtain ⟨u, hu, u0, u1⟩ := pick
        refine ⟨_, rfl, p, _, _, _, rfl, rfl, SqL.of upd_same, hu, ?_⟩
        have B8 : DrAt (upd H7 p (.lst [V.int (k - 1), V.int 0, V.int x5, V.int (if k - 1 - x6 > 0 then k - 1 - x6 else 0), V.int ((k - 1) / 2)])) b L := B7.new np
        have k8 : But b H5' (upd H7 p (.lst [V.int (k - 1), V.int 0, V.int x5, V.int (if k - 1 - x6 > 0 then k - 1 - x6 else 0), V.int ((k - 1) / 2)])) := (k6.trans k7).new np
        generalize (upd H7 p (.lst [V.int (k - 1), V.int 0, V.int x5, V.int (if k - 1 - x6 > 0 then k - 1 - x6 else 0), V.int ((k - 1) / 2)])) = H8 at B8 k8
        have hnm8 := k8 _ _ hnm5' nnb
        have htl8 := k8 _ _ htl5 ntb
        have pa8 := pa5.but B5' k8
        refine ⟨fun _ H9 => DrAt H9 b L ∧ But b H8 H9, ?_, ?_⟩
        · refine ⟨_, rfl, rfl, _, rfl, ite2 (fun _ => ⟨B8, But.refl⟩) (fun e9 => ?_)⟩
          have ra2 : 0 < ra := by
            by_cases z : ra = 0
            · exfalso
              subst z
              exact absurd e9 (by decide)
            · omega
          exact ⟨_, rfl, _, rfl, b, L, ra, rfl, B8, ra2, by omega, fun x8 H9 _ _ B9 k9 => ⟨_, _, rfl, rfl, _, rfl, B9, k9⟩⟩
        · rintro bb H9 ⟨B9, k9⟩
          have hnm9 := k9 _ _ hnm8 nnb
          have htl9 := k9 _ _ htl8 ntb
          have pa9 := pa8.but B8 k9
          have k59 := (k5'.trans k8).trans k9
          refine ite2 (fun _ => ?_) (fun _ => ?_)
          · obtain ⟨v1, hv1, c1, b1, g1⟩ := pk k (by omega) hk1
            obtain ⟨v2, hv2, c2, b2, g2⟩ := pk u u0 (by omega)
            refine ⟨_, rfl, .inl ⟨rfl, _, SqL.of htl9⟩, _, rfl, _, rfl, nm, _, _, _, rfl, rfl, SqL.of hnm9, hv2, _, rfl, _, rfl, nm, _, _, _, rfl, rfl, SqL.of hnm9, hv1, _, _, rfl, _, rfl, _, rfl, nm, _, _, _, rfl, rfl, SqL.of hnm9, hv2, _, rfl, _, rfl, nm, _, _, _, rfl, rfl, SqL.of hnm9, hv1, _, _, rfl, (by show 2 ≤ sizeLine; decide), fun t ob od nt => ?_⟩
            have e1 : (if v1 < v2 then v1 else v2) = (if v2 < v1 then v2 else v1) := by
              split <;> split <;> omega
            have e2 : (if v1 > v2 then v1 else v2) = (if v2 > v1 then v2 else v1) := by
              split <;> split <;> omega
            rw [e1, e2]
            have nt1 : tl ≠ t := ne_of_none htl9 nt
            have nt2 : nm ≠ t := ne_of_none hnm9 nt
            have htl10 : (upd H9 t (.frz ob (.tup [.int (if v2 < v1 then v2 else v1), .int (if v2 > v1 then v2 else v1)]))) tl = some (.lst xs) := by
              rw [upd_ne nt1]
              exact htl9
            refine ⟨tl, _, _, rfl, rfl, htl10, szl ?_, ?_⟩
            · have := pa9.length
              omega
            · refine ⟨xs ++ [.ref t], ts ++ [((if v2 < v1 then v2 else v1), (if v2 > v1 then v2 else v1))], _, _, rfl, (B9.new nt).put ntb ntL, ?_, upd_same, ?_, ?_, ?_, ?_, ?_⟩
              · rw [upd_ne ntn, upd_ne nt2]
                exact hnm9
              · exact (PAll.snoc ⟨ob, od, upd_same⟩ (pa9.same (same_new nt))).put htl10
              · rw [List.length_append]
                show ts.length + 1 ≤ i + 1
                omega
              · intro t' m'
                rcases List.mem_append.mp m' with m' | m'
                · exact ht5 t' m'
                · rcases List.mem_cons.mp m' with e | m'
                  · subst e
                    dsimp only
                    refine ⟨?_, ?_, ?_, ?_, ?_⟩ <;> split <;> (try split) <;> omega
                  · cases m'
              · have ek : k.toNat = 1 + i := by omega
                have z := tie_more (i := i) (k := 1 + i) (u := u.toNat) hN.2.2 rfl (by rw [← ek]; exact g1) g2 (by omega) tr5 tn5 tm5
                exact z
              · intro a o e ne
                have z := k59 _ _ e ne
                rw [upd_ne (ne_of_none e ntl), upd_ne (ne_of_none z nt)]
                exact z
          · refine ⟨xs, ts, _, _, rfl, B9, hnm9, htl9, pa9, by omega, ht5, ⟨tr5, tn5, fun t m => ?_⟩, k59⟩
            have up : ∀ {x : Int}, x ∈ ns.take (1 + i) → x ∈ ns.take (1 + (i + 1)) := fun {x} m => by
              rw [show 1 + (i + 1) = (1 + i) + 1 from rfl, List.take_succ]
              exact List.mem_append_left _ m
            exact ⟨up (tm5 t m).1, up (tm5 t m).2⟩
      · rintro σ H5' ⟨xs, ts, y6, y9, rfl, B5', hnm5', htl5, pa5, hl5, ht5, ⟨tr5, tn5, tm5⟩, k5'⟩
        refine ⟨_, rfl, _, rfl, by omega, by omega, fun D nD => ?_⟩
        have nDb : D ≠ b := B5'.ne nD
        have nDL : D ≠ L := B5'.neL nD
        refine lc_range (lo := 0) (n := (1 + x1).toNat) (fun i H6 => DrAt H6 b L ∧ ∃ (pts : List (Int × Str)) (ys : List V), H6 D = some (.lst ys) ∧ TdAll K H6 ys (pts.map pdata) ∧ pts.length = i ∧ (∀ p ∈ pts, PtOk p) ∧ But b H5' H6) ⟨B5'.new nD, [], [], upd_same, .nil, rfl, (fun p z => nomatch z), But.refl.new nD⟩ ?_ ?_
        · rintro i H6 hi ⟨B6, pts, ys, hD6, hp6, hl6, ho6, k6⟩
          refine ⟨rfl, yes_ite ?_⟩
          refine ⟨_, rfl, b, L, rfl, B6, fun x H7 hx0 hx1 B7 k7 => ⟨_, rfl, b, L, 8, rfl, B7, by decide, by decide, fun kx H8 kx0 kx1 B8 k8 => ?_⟩⟩
          obtain ⟨c, hc, ck⟩ := kind_at kx0 kx1
          refine ⟨_, _, _, rfl, rfl, (by decide +kernel), hc, (by show 2 ≤ sizeLine; decide), fun p np => ?_⟩
          have s9 := same_new (o := .tup [.int x, .str ⟨#[c]⟩]) np
          have k69 : But b H6 (upd H8 p (.tup [.int x, .str ⟨#[c]⟩])) := (k7.trans k8).new np
          have B9 := B8.new (o := .tup [.int x, .str ⟨#[c]⟩]) np
          have hp9 : (upd H8 p (.tup [.int x, .str ⟨#[c]⟩])) p = some (.tup [.int x, .str ⟨#[c]⟩]) := upd_same
          generalize upd H8 p (.tup [.int x, .str ⟨#[c]⟩]) = H9 at s9 k69 B9 hp9
          have hD9 := k69 _ _ hD6 nDb
          have hl7 := hp6.length
          rw [List.length_map] at hl7
          refine ⟨ys, hD9, szl (by omega), B9.put nDb nDL, pts ++ [(x, ⟨#[c]⟩)], ys ++ [.ref p], upd_same, ?_, ?_, ?_, ?_⟩
          · have t7 : Tups K H9 (upd H9 D (.lst (ys ++ [V.ref p]))) := Tups.of_but (But.refl.put) hD9
            rw [List.map_append]
            exact TdAll.mono t7 ((hp6.mono (B6.tups k69)).append (.cons (Td.pt hp9) .nil))
          · rw [List.length_append, hl6]
            rfl
          · intro p' m'
            rcases List.mem_append.mp m' with m' | m'
            · exact ho6 p' m'
            · rcases List.mem_cons.mp m' with e | m'
              · subst e
                exact ⟨hx0, hx1, ck⟩
              · cases m'
          · intro a o e ne
            rw [upd_ne (ne_of_none e nD)]
            exact k69 _ _ (k6 _ _ e ne) ne
        · rintro H6 ⟨B6, pts, ys, hD6, hp6, hl6, ho6, k6⟩
          refine ⟨D, ys, rfl, .inl ⟨SqL.of hD6, fun a1 n1 => ?_⟩⟩
          have s7 := same_new (o := .tup ys) n1
          have htl7 := s7 _ _ (k6 _ _ htl5 ntb)
          have pa7 := (pa5.but B5' k6).same s7
          refine ⟨_, rfl, _, rfl, tl, xs, ts, rfl, SqL.of htl7, pa7.td, fun zs _ p8 _ _ _ pm n8 => ?_⟩
          have s8 := same_new (o := .lst zs) n8
          refine ⟨p8, zs, rfl, .inl ⟨SqL.of upd_same, fun a2 n2 => ?_⟩⟩
          have s9 := same_new (o := .tup zs) n2
          refine ⟨(by show 2 ≤ sizeLine; decide), fun r nr => ?_⟩
          have s10 := same_new (o := .tup [.ref a1, .ref a2]) nr
          obtain ⟨us, pu, pau⟩ := pa7.perm pm
          have tail : Same H6 _ := (((s7.trans s8).trans s9).trans s10)
          have hd1 := s10 _ _ (s9 _ _ (s8 _ _ (upd_same (H := H6) (a := a1) (o := .tup ys))))
          have hd2 := s10 _ _ (upd_same (H := upd (upd H6 a1 (.tup ys)) p8 (.lst zs)) (a := a2) (o := .tup zs))
          refine q r pts us _ ⟨by omega, by omega, ho6, fun t m' => ?_, ?_, tree_perm (fun t => (pu.mem_iff (a := t)).symm) tr5, pu.nodup_iff.mpr tn5⟩ ?_ ?_ ((B6.same tail)) ((((k1.trans k3).trans k35).trans k5').trans k6 |>.same tail) ?_
          · have := ht5 t (pu.mem_iff.mp m')
            omega
          · have := pu.length_eq
            omega
          · omega
          · exact fun t m' => (ht5 t (pu.mem_iff.mp m')).2.2.2.2
          · exact ⟨_, _, _, _, SqT.of upd_same, SqT.of hd1, hp6.mono (Tups.of_same tail), SqT.of hd2, pau.same ((s8.trans s9).trans s10)⟩
end

end My
namespace My
open PySem L2
theorem tabg_same {H H' : Hp} {P : Addr} (s : Same H H') (g : GxR.TabG H P) : GxR.TabG H' P := by
  obtain ⟨ps, h, t⟩ := g
  exact ⟨ps, s _ _ h, t⟩
/-! ### the tables of code made on the way: what is no table stays -/
theorem But.of_same {P : Addr} {H H' : Hp} (s : Same H H') : But P H H' := fun a o e _ => s a o e
theorem But.of_tab {P : Addr} {H H' : Hp} (t : GxR.Tabbed P H H') : But P H H' := fun a o e n => (t.2 a n).trans e
theorem Kp.of_but {P : Addr} {H H' : Hp} (g : GxR.TabG H P) (k : But P H H') : Kp H H' := fun a o e n => by
  refine k a o e fun h => ?_
  subst h
  obtain ⟨ps, hp, _⟩ := g
  rw [hp] at e
  exact n ps (Option.some.inj e).symm
theorem TabG.ne {P a : Addr} {H : Hp} {o : HO} (g : GxR.TabG H P) (e : H a = some o) (n : ∀ ps, o ≠ .tbl ps) : a ≠ P := fun h => by
  subst h
  obtain ⟨ps, hp, _⟩ := g
  rw [hp] at e
  exact n ps (Option.some.inj e).symm
/-! ### tables kept -/
theorem tabg_but {H H' : Hp} {b L P : Addr} (B : DrAt H b L) (k : But b H H') (g : GxR.TabG H P) : GxR.TabG H' P := by
  obtain ⟨kvs, h1⟩ := B.dk
  obtain ⟨ps, hp, t⟩ := g
  exact ⟨ps, k _ _ hp (ne_of hp h1 (by intro z; cases z)), t⟩
theorem tabs_but {H H' : Hp} {b L P : Addr} {q : Str} (B : DrAt H b L) (k : But b H H') (g : LamX.TabS H P q) : LamX.TabS H' P q := by
  obtain ⟨kvs, h1⟩ := B.dk
  obtain ⟨ps, hp, t, e⟩ := g
  refine ⟨ps, k _ _ hp (ne_of hp h1 (by intro z; cases z)), t, fun pos cv hc => ?_⟩
  obtain ⟨c, e1, e2⟩ := e pos cv hc
  exact ⟨c, e1, k _ _ e2 (ne_of e2 h1 (by intro z; cases z))⟩
theorem tabs_same {H H' : Hp} {P : Addr} {q : Str} (s : Same H H') (g : LamX.TabS H P q) : LamX.TabS H' P q := g.ext s
/-- the other table's writing -/
theorem tabs_other {H H' : Hp} {P R : Addr} {q : Str} (n : P ≠ R) (gR : GxR.TabG H R) (k : But R H H') (g : LamX.TabS H P q) : LamX.TabS H' P q := by
  obtain ⟨ps, hp, t, e⟩ := g
  refine ⟨ps, k _ _ hp n, t, fun pos cv hc => ?_⟩
  obtain ⟨c, e1, e2⟩ := e pos cv hc
  exact ⟨c, e1, k _ _ e2 (TabG.ne gR e2 LamX.codeO_ne)⟩
theorem tabg_other {H H' : Hp} {P R : Addr} (n : R ≠ P) (k : But P H H') (g : GxR.TabG H R) : GxR.TabG H' R := by
  obtain ⟨ps, hp, t⟩ := g
  exact ⟨ps, k _ _ hp n, t⟩
theorem TabS.g {H : Hp} {P : Addr} {q : Str} (g : LamX.TabS H P q) : GxR.TabG H P := by
  obtain ⟨ps, hp, t, _⟩ := g
  exact ⟨ps, hp, t⟩
theorem Tups.of_tab {K : PySem.W.Frag} {H H' : Hp} {P : Addr} (g : GxR.TabG H P) (k : But P H H') : Tups K H H' := fun a xs h => by
  rcases h with h | h
  · rcases h with h | ⟨o, h⟩
    · exact .inl (.inl (k _ _ h (TabG.ne g h (by intro ps z; cases z))))
    · exact .inl (.inr ⟨o, k _ _ h (TabG.ne g h (by intro ps z; cases z))⟩)
  · exact .inr h

theorem Tups.of_kp {K : PySem.W.Frag} {H H' : Hp} (k : Kp H H') : Tups K H H' := fun a xs h => by
  rcases h with h | h
  · rcases h with h | ⟨o, h⟩
    · exact .inl (.inl (k _ _ h (by intro ps z; cases z)))
    · exact .inl (.inr ⟨o, k _ _ h (by intro ps z; cases z)⟩)
  · exact .inr h
theorem Kp.same {H H1 H2 : Hp} (k : Kp H H1) (s : Same H1 H2) : Kp H H2 := k.trans (Kp.of_same s)
theorem DrAt.kp {H H' : Hp} {b L : Addr} (B : DrAt H b L) (k : Kp H H') : DrAt H' b L := by
  obtain ⟨ns, ⟨⟨a, l, x, h, r⟩, e⟩⟩ := B.ex
  exact ⟨ns, ⟨a, l, x, k _ _ h (by intro ps z; cases z), r⟩, k _ _ e (by intro ps z; cases z)⟩
/-- each table as it has to be: of generators (none), of lambdas that stand in one def (its name) -/
def Tb (ts : List (Addr × Option Str)) (H : Hp) : Prop := ∀ t ∈ ts, match t.2 with | none => GxR.TabG H t.1 | some q => LamX.TabS H t.1 q
section
variable {ts : List (Addr × Option Str)} {H H' : Hp}
theorem Tb.g {P : Addr} (h : Tb ts H) (m : (P, none) ∈ ts) : GxR.TabG H P := h _ m
theorem Tb.s {P : Addr} {q : Str} (h : Tb ts H) (m : (P, some q) ∈ ts) : LamX.TabS H P q := h _ m
theorem Tb.mk (h : ∀ P, (P, none) ∈ ts → GxR.TabG H P) (k : ∀ P q, (P, some q) ∈ ts → LamX.TabS H P q) : Tb ts H := fun t m => by
  obtain ⟨P, o⟩ := t
  cases o with
  | none => exact h P m
  | some q => exact k P q m
theorem Tb.same (h : Tb ts H) (s : Same H H') : Tb ts H' := .mk (fun P m => tabg_same s (h.g m)) (fun P q m => tabs_same s (h.s m))
theorem Tb.but {b L : Addr} (h : Tb ts H) (B : DrAt H b L) (k : But b H H') : Tb ts H' := .mk (fun P m => tabg_but B k (h.g m)) (fun P q m => tabs_but B k (h.s m))
theorem nd_fst : ∀ {ts : List (Addr × Option Str)}, (ts.map (·.1)).Nodup → ∀ {x y : Addr × Option Str}, x ∈ ts → y ∈ ts → x.1 = y.1 → x = y
  | [], _, _, _, hx, _, _ => nomatch hx
  | t :: r, nd, x, y, hx, hy, e => by
    rw [List.map_cons, List.nodup_cons] at nd
    rcases List.mem_cons.mp hx with e1 | h1
    · rcases List.mem_cons.mp hy with e2 | h2
      · rw [e1, e2]
      · exact absurd (List.mem_map.mpr ⟨y, h2, by rw [← e, e1]⟩) nd.1
    · rcases List.mem_cons.mp hy with e2 | h2
      · exact absurd (List.mem_map.mpr ⟨x, h1, by rw [e, e2]⟩) nd.1
      · exact nd_fst nd.2 h1 h2 e
/-- one of generators was written -/
theorem Tb.tab {P : Addr} (h : Tb ts H) (nd : (ts.map (·.1)).Nodup) (m : (P, none) ∈ ts) (k : But P H H') (g : GxR.TabG H' P) : Tb ts H' := by
  refine .mk (fun R mR => ?_) (fun R q mR => ?_)
  · by_cases e : R = P
    · subst e
      exact g
    · exact tabg_other e k (h.g mR)
  · refine tabs_other (fun e => ?_) (h.g m) k (h.s mR)
    subst e
    cases nd_fst nd m mR rfl
/-- one of lambdas was written -/
theorem Tb.lam {P : Addr} {q : Str} (h : Tb ts H) (nd : (ts.map (·.1)).Nodup) (m : (P, some q) ∈ ts) (k : But P H H') (g : LamX.TabS H' P q) : Tb ts H' := by
  refine .mk (fun R mR => ?_) (fun R q2 mR => ?_)
  · refine tabg_other (fun e => ?_) k (h.g mR)
    subst e
    cases nd_fst nd m mR rfl
  · by_cases e : R = P
    · subst e
      cases nd_fst nd m mR rfl
      exact g
    · exact tabs_other e (TabS.g (h.s m)) k (h.s mR)
end

section
variable {K : PySem.W.Frag} {mg : Str → Option Value}
def Top.tbs (T : Top K mg) : List (Addr × Option Str) := [(T.PA, none), (T.PR, none), (T.PY, none), (T.PS, none)]
theorem Top.mA (T : Top K mg) : (T.PA, none) ∈ T.tbs := List.mem_cons_self
theorem Top.mR (T : Top K mg) : (T.PR, none) ∈ T.tbs := (List.mem_cons_of_mem _ List.mem_cons_self)
theorem Top.mY (T : Top K mg) : (T.PY, none) ∈ T.tbs := (List.mem_cons_of_mem _ (List.mem_cons_of_mem _ List.mem_cons_self))
theorem Top.mS (T : Top K mg) : (T.PS, none) ∈ T.tbs := (List.mem_cons_of_mem _ (List.mem_cons_of_mem _ (List.mem_cons_of_mem _ List.mem_cons_self)))
theorem Top.nd (T : Top K mg) : (T.tbs.map (·.1)).Nodup := T.neP
structure TBs (T : Top K mg) (base : Heap) : Prop where
  A : GxR.TabB base mg T.cA T.PA
  R : GxR.TabB base mg T.cR T.PR
  Y : GxR.TabB base mg T.cY T.PY
  S : GxR.TabB base mg T.cS T.PS
theorem tbs0 (T : Top K mg) {H : Hp} (hA : H T.PA = some (.tbl #[])) (hR : H T.PR = some (.tbl #[])) (hY : H T.PY = some (.tbl #[])) (hS : H T.PS = some (.tbl #[])) : Tb T.tbs H := by
  intro t m
  rcases List.mem_cons.mp m with rfl | m
  · exact ⟨#[], hA, True.intro⟩
  rcases List.mem_cons.mp m with rfl | m
  · exact ⟨#[], hR, True.intro⟩
  rcases List.mem_cons.mp m with rfl | m
  · exact ⟨#[], hY, True.intro⟩
  rw [List.mem_singleton.mp m]
  exact ⟨#[], hS, True.intro⟩
end
theorem mem1 {α : Type} {p a : α} (h : p ∈ [a]) : p = a := List.mem_singleton.mp h
theorem mem2 {α : Type} {p a0 a1 : α} (h : p ∈ [a0, a1]) : p = a0 ∨ p = a1 := (List.mem_cons.mp h).imp id mem1
theorem mem3 {α : Type} {p a0 a1 a2 : α} (h : p ∈ [a0, a1, a2]) : p = a0 ∨ p = a1 ∨ p = a2 := (List.mem_cons.mp h).imp id mem2
theorem mem4 {α : Type} {p a0 a1 a2 a3 : α} (h : p ∈ [a0, a1, a2, a3]) : p = a0 ∨ p = a1 ∨ p = a2 ∨ p = a3 := (List.mem_cons.mp h).imp id mem3
end My
namespace My
open PySem L2
theorem Td.parts {K : PySem.W.Frag} {H : Hp} {f : V} {pts : List (Int × Str)} {ts : List (Int × Int)} (h : Td K H f (fdata pts ts)) : ∃ (a pa ta : Addr) (xs ys : List V), f = .ref a ∧ SqT K H a [.ref pa, .ref ta] ∧ SqT K H pa xs ∧ TdAll K H xs (pts.map pdata) ∧ SqT K H ta ys ∧ TdAll K H ys (ts.map tdata) := by
  unfold fdata at h
  cases h with
  | tup h k =>
    cases k with
    | cons k1 k2 =>
      cases k2 with
      | cons k2 k3 =>
        cases k3
        cases k1 with
        | tup h1 l1 =>
          cases k2 with
          | tup h2 l2 => exact ⟨_, _, _, _, _, rfl, h, h1, l1, h2, l2⟩
theorem tdata_inv {K : PySem.W.Frag} {H : Hp} {v : V} {t : Int × Int} (h : Td K H v (tdata t)) : ∃ a, v = .ref a ∧ SqT K H a [.int t.1, .int t.2] := by
  unfold tdata at h
  cases h with
  | tup h k =>
    cases k with
    | cons k1 k2 =>
      cases k2 with
      | cons k2 k3 =>
        cases k3
        cases k1
        cases k2
        exact ⟨_, rfl, h⟩

/-! ### what is found from a point: each one with the next toward it -/
abbrev Tw := List (Int × Option Int)
def keysT (l : Tw) : List Int := l.map Prod.fst
inductive Tow (ts : Ties) (g : Int) : Tw → Prop
  | base : Tow ts g [(g, none)]
  | snoc {l : Tw} {p v : Int} : Tow ts g l → p ∈ keysT l → v ∉ keysT l → Adj ts p v → Tow ts g (l ++ [(v, some p)])
theorem keysT_snoc (l : Tw) (v : Int) (o : Option Int) : keysT (l ++ [(v, o)]) = keysT l ++ [v] := by
  unfold keysT
  rw [List.map_append]
  rfl
theorem Tow.nd {ts : Ties} {g : Int} {l : Tw} (h : Tow ts g l) : (keysT l).Nodup := by
  induction h with
  | base => exact List.nodup_cons.mpr ⟨List.not_mem_nil, List.nodup_nil⟩
  | snoc _ _ nv _ ih =>
    rw [keysT_snoc]
    exact List.nodup_append.mpr ⟨ih, List.nodup_cons.mpr ⟨List.not_mem_nil, List.nodup_nil⟩, fun x m y k z => by
      rw [List.mem_singleton.mp k] at z
      exact nv (z ▸ m)⟩
theorem Tow.rch {ts : Ties} {g : Int} {l : Tw} (h : Tow ts g l) : ∀ v ∈ keysT l, Rch ts g v := by
  induction h with
  | base =>
    intro v m
    rw [List.mem_singleton.mp (show v ∈ [g] from m)]
    exact .refl
  | snoc _ hp _ e ih =>
    intro v m
    rw [keysT_snoc] at m
    rcases List.mem_append.mp m with m | m
    · exact ih v m
    · rw [List.mem_singleton.mp m]
      exact .step (ih _ hp) e
theorem Tow.mem {ts : Ties} {g : Int} {l : Tw} (h : Tow ts g l) : g ∈ keysT l := by
  induction h with
  | base => exact List.mem_cons_self
  | snoc _ _ _ _ ih =>
    rw [keysT_snoc]
    exact List.mem_append_left _ ih
/-- a way that goes on as it is told -/
inductive Fol (l : Tw) (g : Int) : List Int → Prop
  | one : Fol l g [g]
  | cons {v p : Int} {w : List Int} : (v, some p) ∈ l → v ≠ g → Fol l g (p :: w) → Fol l g (v :: p :: w)
theorem Fol.mono {l m : Tw} {g : Int} (s : ∀ x ∈ l, x ∈ m) {w : List Int} (h : Fol l g w) : Fol m g w := by
  induction h with
  | one => exact .one
  | cons e n _ ih => exact .cons (s _ e) n ih
theorem Tow.way {ts : Ties} {g : Int} {l : Tw} (h : Tow ts g l) : ∀ v ∈ keysT l, ∃ w, Way ts v g w ∧ Fol l g w ∧ ∀ x ∈ w, x ∈ keysT l := by
  induction h with
  | base =>
    intro v m
    have e := List.mem_singleton.mp (show v ∈ [g] from m)
    subst e
    refine ⟨[v], ⟨.one v, List.nodup_cons.mpr ⟨List.not_mem_nil, List.nodup_nil⟩⟩, .one, fun x hx => ?_⟩
    rw [List.mem_singleton.mp hx]
    exact List.mem_cons_self
  | @snoc l p v hl hp nv e ih =>
    intro u m
    rw [keysT_snoc] at m
    rcases List.mem_append.mp m with m | m
    · obtain ⟨w, h1, h2, h3⟩ := ih u m
      refine ⟨w, h1, h2.mono fun x hx => List.mem_append_left _ hx, fun x hx => ?_⟩
      rw [keysT_snoc]
      exact List.mem_append_left _ (h3 x hx)
    · have eu := List.mem_singleton.mp m
      subst eu
      obtain ⟨w, h1, h2, h3⟩ := ih p hp
      have nw : u ∉ w := fun z => nv (h3 u z)
      have ng : u ≠ g := fun z => nv (z ▸ hl.mem)
      refine ⟨u :: w, ⟨.cons e.symm h1.wk, List.nodup_cons.mpr ⟨nw, h1.nd⟩⟩, ?_, fun x hx => ?_⟩
      · have h2' := h2.mono fun x hx => List.mem_append_left [(u, some p)] hx
        cases w with
        | nil => exact absurd rfl h1.wk.ne_nil
        | cons y w =>
          have ey : y = p := Option.some.inj h1.wk.head
          subst ey
          exact .cons (List.mem_append_right _ List.mem_cons_self) ng h2'
      · rw [keysT_snoc]
        rcases List.mem_cons.mp hx with rfl | hx
        · exact List.mem_append_right _ List.mem_cons_self
        · exact List.mem_append_left _ (h3 x hx)
theorem closed_rch {ts : Ties} {g : Int} {S : List Int} (hg : g ∈ S) (cl : ∀ v ∈ S, ∀ u, Adj ts v u → u ∈ S) {v : Int} (h : Rch ts g v) : v ∈ S := by
  induction h with
  | refl => exact hg
  | step _ e ih => exact cl _ ih _ e
/-- as Python has it -/
def optV : Option Int → V
  | none => .non
  | some i => .int i
def kvT (l : Tw) : List (Key × V) := l.map fun x => (Sum.inl x.1, optV x.2)
theorem kvT_none {l : Tw} {v : Int} (h : v ∉ keysT l) : valV (kvT l) (Sum.inl v) = none := by
  induction l with
  | nil => rfl
  | cons x l ih =>
    obtain ⟨a, o⟩ := x
    have n1 : ¬ (Sum.inl a : Key) = Sum.inl v := fun z => h (by rw [Sum.inl.inj z]; exact List.mem_cons_self)
    show valV ((Sum.inl a, optV o) :: kvT l) (Sum.inl v) = none
    rw [valV_neg n1]
    exact ih fun z => h (List.mem_cons_of_mem _ z)
theorem kvT_some {l : Tw} {v : Int} {o : Option Int} (nd : (keysT l).Nodup) (h : (v, o) ∈ l) : valV (kvT l) (Sum.inl v) = some (optV o) := by
  induction l with
  | nil => exact nomatch h
  | cons x l ih =>
    obtain ⟨a, o'⟩ := x
    have nd : (a :: keysT l).Nodup := nd
    rw [List.nodup_cons] at nd
    show valV ((Sum.inl a, optV o') :: kvT l) (Sum.inl v) = _
    rcases List.mem_cons.mp h with e | h
    · cases e
      exact valV_pos (p := (Sum.inl v, optV o)) rfl
    · have n1 : ¬ (Sum.inl a : Key) = Sum.inl v := fun z => nd.1 (by rw [Sum.inl.inj z]; exact List.mem_map.mpr ⟨_, h, rfl⟩)
      rw [valV_neg n1]
      exact ih nd.2 h
theorem kvT_get {l : Tw} {v : Int} (nd : (keysT l).Nodup) : (valV (kvT l) (Sum.inl v)).isSome = decide (v ∈ keysT l) := by
  by_cases h : v ∈ keysT l
  · obtain ⟨x, hx, e⟩ := List.mem_map.mp h
    obtain ⟨a, o⟩ := x
    have e : a = v := e
    subst e
    rw [kvT_some nd hx, decide_eq_true h]
    rfl
  · rw [kvT_none h, decide_eq_false h]
    rfl
theorem kvT_put {l : Tw} {v : Int} {o : Option Int} (h : v ∉ keysT l) : putK (kvT l) (Sum.inl v) (optV o) = kvT (l ++ [(v, o)]) := by
  unfold putK
  rw [valV_any, kvT_none h, if_neg (by decide)]
  unfold kvT
  rw [List.map_append]
  rfl
theorem filter_ne_length {a : Int} : ∀ {l : List Int}, l.Nodup → l.length ≤ (l.filter fun x => decide (x ≠ a)).length + 1
  | [], _ => Nat.zero_le _
  | x :: l, nd => by
    rw [List.nodup_cons] at nd
    by_cases e : x = a
    · subst e
      have h : (l.filter fun y => decide (y ≠ x)) = l := List.filter_eq_self.mpr fun y hy => decide_eq_true fun z => nd.1 (z ▸ hy)
      rw [List.filter_cons_of_neg (by simp), h, List.length_cons]
      omega
    · rw [List.filter_cons_of_pos (by simpa using e), List.length_cons, List.length_cons]
      have := filter_ne_length (a := a) nd.2
      omega
/-- as many as are below n, and unlike -/
theorem nodup_le : ∀ {n : Nat} {l : List Int}, l.Nodup → (∀ x ∈ l, 0 ≤ x ∧ x < (n : Int)) → l.length ≤ n
  | 0, [], _, _ => Nat.le_refl _
  | 0, x :: l, _, h => by
    have := h x List.mem_cons_self
    omega
  | n + 1, l, nd, h => by
    have h1 := filter_ne_length (a := (n : Int)) nd
    have h2 := nodup_le (n := n) (l := l.filter fun x => decide (x ≠ (n : Int))) (nd.filter _) fun x hx => by
      obtain ⟨m1, m2⟩ := List.mem_filter.mp hx
      have := h x m1
      have := of_decide_eq_true m2
      omega
    omega

/-! ### deeds of one point -/
theorem TdAll.at {K : PySem.W.Frag} {H : Hp} : ∀ {vs : List V} {ds : List PyData} {i : Nat} {v : V}, TdAll K H vs ds → vs[i]? = some v → ∃ d, ds[i]? = some d ∧ Td K H v d
  | _, _, _, _, .nil, h => nomatch h
  | _, _, 0, v, .cons (d := d) h _, e => ⟨d, rfl, Option.some.inj e ▸ h⟩
  | _, _, i + 1, _, .cons _ k, e => TdAll.at (i := i) k e
theorem TdAll.take {K : PySem.W.Frag} {H : Hp} : ∀ {vs : List V} {ds : List PyData} (i : Nat), TdAll K H vs ds → TdAll K H (vs.take i) (ds.take i)
  | _, _, 0, _ => by
    rw [List.take_zero, List.take_zero]
    exact .nil
  | _, _, _ + 1, .nil => .nil
  | _, _, i + 1, .cons h k => .cons h (TdAll.take i k)
theorem TdAll.drop {K : PySem.W.Frag} {H : Hp} : ∀ {vs : List V} {ds : List PyData} (i : Nat), TdAll K H vs ds → TdAll K H (vs.drop i) (ds.drop i)
  | _, _, 0, k => k
  | _, _, _ + 1, .nil => .nil
  | _, _, i + 1, .cons _ k => TdAll.drop i k
theorem pdata_inv {K : PySem.W.Frag} {H : Hp} {v : V} {p : Int × Str} (h : Td K H v (pdata p)) : ∃ a, v = .ref a ∧ SqT K H a [.int p.1, .str p.2] := by
  cases h with
  | tup h k =>
    cases k with
    | cons k1 k =>
      cases k with
      | cons k2 k =>
        cases k
        cases k1
        cases k2
        exact ⟨_, rfl, h⟩
/-- slices and sums of tuples, by what they hold -/
theorem cat_td {K : PySem.W.Frag} {H : Hp} {a b : Addr} {xs ys : List V} {Q : VK} (ha : SqT K H a xs) (hb : SqT K H b ys) (hz : xs.length + ys.length ≤ sizeLine) (q : ∀ (p : Addr) (H' : Hp), Same H H' → SqT K H' p (xs ++ ys) → Q (.ref p) H') : rCatA K (.ref a) (.ref b) H Q := by
  refine ⟨a, b, xs, ys, rfl, rfl, ha, hb, hz, fun e => ?_, fun _ e => ?_, fun _ _ p np => q p _ (same_new np) (SqT.of upd_same)⟩
  · refine q b H (fun _ _ z => z) ?_
    rw [e, List.nil_append]
    exact hb
  · refine q a H (fun _ _ z => z) ?_
    rw [e, List.append_nil]
    exact ha
theorem sqs {K : PySem.W.Frag} {H H' : Hp} {a : Addr} {xs : List V} (h : SqT K H a xs) (s : Same H H') : SqT K H' a xs := Tups.of_same s _ _ h
theorem set_eq {α : Type} {xs : List α} {i : Nat} {x : α} (h : i < xs.length) : xs.take i ++ [x] ++ xs.drop (i + 1) = xs.set i x := by
  rw [List.set_eq_take_append_cons_drop, if_pos h, List.append_assoc]
  rfl
theorem take_at {α : Type} {xs : List α} {i : Nat} {x : α} (h : xs[i]? = some x) : xs.take (i + 1) = xs.take i ++ [x] := by
  rw [List.take_succ, h]
  rfl

end My
namespace My
open PySem L2
/-! ### neighbours -/
def nbOk (ts : Ties) (nbs : List (List Int)) : Prop := ∀ (i : Nat) (nb : List Int), nbs[i]? = some nb → ∀ j, j ∈ nb ↔ Adj ts (i : Int) j
/-- the lists of neighbours stand in H, all of them new since H0 -/
structure Arnd (H0 H : Hp) (L : Addr) (nbs : List (List Int)) : Prop where
  ex : ∃ ls : List Addr, H L = some (.lst (ls.map V.ref)) ∧ ls.Nodup ∧ ls.length = nbs.length ∧ H0 L = none ∧ (∀ a ∈ ls, H0 a = none ∧ a ≠ L) ∧ ∀ (i : Nat) (a : Addr), ls[i]? = some a → ∃ nb : List Int, nbs[i]? = some nb ∧ H a = some (.lst (nb.map V.int))
theorem Arnd.same {H0 H H' : Hp} {L : Addr} {nbs : List (List Int)} (h : Arnd H0 H L nbs) (s : Same H H') : Arnd H0 H' L nbs := by
  obtain ⟨ls, h1, h2, h3, h4, h5, h6⟩ := h.ex
  refine ⟨ls, s _ _ h1, h2, h3, h4, h5, fun i a e => ?_⟩
  obtain ⟨nb, e1, e2⟩ := h6 i a e
  exact ⟨nb, e1, s _ _ e2⟩
theorem nd_inj {α : Type} : ∀ {l : List α} {i j : Nat} {x : α}, l.Nodup → l[i]? = some x → l[j]? = some x → i = j
  | [], _, _, _, _, h, _ => nomatch h
  | y :: l, 0, 0, x, _, _, _ => rfl
  | y :: l, 0, j + 1, x, nd, h1, h2 => by
    have e : y = x := Option.some.inj h1
    subst e
    exact absurd (List.mem_of_getElem? (show l[j]? = some y from h2)) (List.nodup_cons.mp nd).1
  | y :: l, i + 1, 0, x, nd, h1, h2 => by
    have e : y = x := Option.some.inj h2
    subst e
    exact absurd (List.mem_of_getElem? (show l[i]? = some y from h1)) (List.nodup_cons.mp nd).1
  | y :: l, i + 1, j + 1, x, nd, h1, h2 => congrArg (· + 1) (nd_inj (l := l) (List.nodup_cons.mp nd).2 h1 h2)
def NB (nbs : List (List Int)) (R : Nat → Int → Prop) : Prop := ∀ (k : Nat) (nb : List Int), nbs[k]? = some nb → ∀ j, j ∈ nb ↔ R k j
theorem NB.put {nbs : List (List Int)} {R : Nat → Int → Prop} {i : Nat} {nb : List Int} {j : Int} (h : NB nbs R) (hn : nbs[i]? = some nb) : NB (nbs.set i (nb ++ [j])) (fun k m => R k m ∨ (k = i ∧ m = j)) := by
  intro k nb' e m
  by_cases hk : i = k
  · subst hk
    rw [List.getElem?_set_self (List.getElem?_eq_some_iff.mp hn).1] at e
    have e := Option.some.inj e
    subst e
    rw [List.mem_append, List.mem_singleton, h i nb hn m]
    constructor
    · rintro (z | z)
      · exact .inl z
      · exact .inr ⟨rfl, z⟩
    · rintro (z | ⟨_, z⟩)
      · exact .inl z
      · exact .inr z
  · rw [List.getElem?_set_ne hk] at e
    rw [h k nb' e m]
    constructor
    · exact .inl
    · rintro (z | ⟨z, _⟩)
      · exact z
      · exact absurd z.symm hk
theorem get_at {α : Type} {xs : List α} {i : Nat} (h : i < xs.length) : ∃ x, xs[i]? = some x := ⟨xs[i], List.getElem?_eq_getElem h⟩
/-- one list of them longer by one -/
theorem Arnd.put {H0 H : Hp} {L : Addr} {nbs : List (List Int)} {i : Nat} {a : Addr} {nb : List Int} {j : Int} (h : Arnd H0 H L nbs) (ls : List Addr) (hL : H L = some (.lst (ls.map V.ref))) (ha : ls[i]? = some a) (hn : nbs[i]? = some nb) (hA : H a = some (.lst (nb.map V.int))) :
    Arnd H0 (upd H a (.lst (nb.map V.int ++ [.int j]))) L (nbs.set i (nb ++ [j])) ∧ H0 a = none := by
  obtain ⟨ls', h1, h2, h3, h4, h5, h6⟩ := h.ex
  have eas : ls' = ls := by
    rw [hL] at h1
    have z := HO.lst.inj (Option.some.inj h1)
    have inj : ∀ {x y : List Addr}, x.map V.ref = y.map V.ref → x = y := by
      intro x
      induction x with
      | nil =>
        intro y e
        cases y with
        | nil => rfl
        | cons _ _ => exact nomatch e
      | cons b x ih =>
        intro y e
        cases y with
        | nil => exact nomatch e
        | cons c y =>
          obtain ⟨e1, e2⟩ := List.cons.inj e
          rw [V.ref.inj e1, ih e2]
    exact (inj z).symm
  subst eas
  have ma := List.mem_of_getElem? ha
  have il : i < nbs.length := (List.getElem?_eq_some_iff.mp hn).1
  refine ⟨⟨ls', ?_, h2, by rw [List.length_set]; exact h3, h4, h5, fun k b e => ?_⟩, (h5 a ma).1⟩
  · rw [upd_ne (h5 a ma).2.symm]
    exact h1
  · by_cases eb : b = a
    · subst eb
      have ek : k = i := nd_inj h2 e ha
      subst ek
      exact ⟨nb ++ [j], by rw [List.getElem?_set_self il], by rw [upd_same, List.map_append]; rfl⟩
    · obtain ⟨nb', e1, e2⟩ := h6 k b e
      have nk : i ≠ k := fun z => eb (by subst z; rw [ha] at e; exact (Option.some.inj e).symm)
      exact ⟨nb', by rw [List.getElem?_set_ne nk]; exact e1, by rw [upd_ne eb]; exact e2⟩
theorem Arnd.at_ {H0 H : Hp} {L : Addr} {nbs : List (List Int)} (h : Arnd H0 H L nbs) {i : Int} (h0 : 0 ≤ i) (h1 : i < (nbs.length : Int)) : ∃ (ls : List Addr) (a : Addr) (nb : List Int), H L = some (.lst (ls.map V.ref)) ∧ ls[i.toNat]? = some a ∧ atI (ls.map V.ref) i = some (.ref a) ∧ nbs[i.toNat]? = some nb ∧ H a = some (.lst (nb.map V.int)) := by
  obtain ⟨ls, g1, g2, g3, g4, g5, g6⟩ := h.ex
  obtain ⟨a, ha⟩ := get_at (xs := ls) (i := i.toNat) (by omega)
  obtain ⟨nb, e1, e2⟩ := g6 _ _ ha
  refine ⟨ls, a, nb, g1, ha, ?_, e1, e2⟩
  have ei : i = ((i.toNat : Nat) : Int) := by omega
  rw [ei]
  refine atI_nat ?_
  rw [List.getElem?_map, ha]
  rfl
def spNb (K : PySem.W.Frag) : Sp := fun vs H Q _ => ∃ (f : V) (pts : List (Int × Str)) (ts : List (Int × Int)), vs = [f] ∧ Td K H f (fdata pts ts) ∧ FrOk pts ts ∧
  ∀ (L : Addr) (nbs : List (List Int)) (H' : Hp), Same H H' → Arnd H H' L nbs → nbs.length = pts.length → nbOk ts nbs → Q (.ref L) H'
section
variable {P : Program} {w : World} {K : PySem.W.Frag} {mg : Str → Option Value} {base : Heap}
theorem ok_nb (T : Top K mg) : FnOk P w K mg base CX0 1 T.a_neighbours T.d_neighbours ["forest"] (spNb K) := by
  refine T.F_neighbours.ok sc_neighbours (fun vs H Q E h => ?_) (fun cdv A outer s H vs Q E hr h => ?_)
  · obtain ⟨f, pts, ts, rfl, _⟩ := h
    rfl
  · obtain ⟨f, pts, ts, rfl, hf, fok, q⟩ := h
    obtain ⟨fa, pa, ta, xs, ys, rfl, f1, f2, f3, f4, f5⟩ := Td.parts hf
    have lxs : xs.length = pts.length := by
      rw [f3.length, List.length_map]
    have lys : ys.length = ts.length := by
      rw [f5.length, List.length_map]
    refine ⟨_, (pss_cons (ps_asg (pv 0) (pg_tup rfl (pgs_cons (pg_name (i := 1) sc_neighbours.nd rfl (.inl rfl)) (pgs_cons (pg_name (i := 2) sc_neighbours.nd rfl (.inl rfl)) pgs_nil))))
      (pss_cons (ps_setLc (i := 3) (own := [("point", 4)]) (g := gName 4) (tt := tYes) (by rfl) sc_neighbours.nd rfl rfl (sw_true rfl rfl rfl (by decide +kernel)) (pi_tup (pv 1)) (blkOk_by (own := [("point", 4)]) (N := ["forest", "points", "ties", "around", "point", "a", "b"]) (sc := defScope s_neighbours) (by decide +kernel)) (fun _ _ _ _ _ => (pg_name (i := 4) sc_neighbours.nd rfl (.inl rfl))) (fun _ _ _ _ _ => pts_nil) (fun _ _ _ _ _ => (pe_lst pa_nil)))
      (pss_cons (ps_for PassesOwn.never rfl (pi_tup (pv 2)) (pg_tup rfl (pgs_cons (pg_name (i := 5) sc_neighbours.nd rfl (.inl rfl)) (pgs_cons (pg_name (i := 6) sc_neighbours.nd rfl (.inl rfl)) pgs_nil))) (pss_cons (ps_expr (pe_bm PySem.F.plainAttrs_list PySem.F.slot_list_append PySem.F.type_list_append mt_append (pe_ix ix_list (pv 3) (pv 5) (fun _ _ => rfl)) (pa_cons (pv 6) pa_nil)))
      (pss_one (ps_expr (pe_bm PySem.F.plainAttrs_list PySem.F.slot_list_append PySem.F.type_list_append mt_append (pe_ix ix_list (pv 3) (pv 6) (fun _ _ => rfl)) (pa_cons (pv 5) pa_nil))))))
      (pss_one (ps_ret (pv 3)))))), ?_⟩
    refine ⟨_, rfl, fa, _, rfl, f1, rfl, _, _, rfl, _, _, rfl, rfl, ?_⟩
    refine ⟨_, rfl, pa, rfl, ⟨_, f2⟩, fun D nD => ?_⟩
    have few := fok.few
    have tl := fok.tl
    refine lc_tup (xs := xs) (fun i H' => Same H H' ∧ Arnd H H' D (List.replicate i [])) ⟨same_new nD, ⟨[], upd_same, List.nodup_nil, rfl, nD, (fun a m => nomatch m), (fun i a e => nomatch e)⟩⟩ (fun i H' hi hq => sqs f2 hq.1) (fun i x H' hx hq => ?_) (fun H' hq => ?_)
    · obtain ⟨s1, ls, h1, h2, h3, h4, h5, h6⟩ := hq
      refine ⟨rfl, yes_ite ?_⟩
      refine ⟨Nat.zero_le _, fun p np => ?_⟩
      have sp := same_new (o := .lst []) np
      have nDp : D ≠ p := ne_of_none h1 np
      have hil := (List.getElem?_eq_some_iff.mp hx).1
      refine ⟨_, sp _ _ h1, szl (by rw [List.length_map, h3, List.length_replicate]; omega), ?_, ?_⟩
      · intro c o e
        rw [upd_ne (ne_of_none e nD)]
        exact sp _ _ (s1 _ _ e)
      · have np0 : H p = none := s1.free np
        have npas : p ∉ ls := fun m => by
          obtain ⟨k, hk⟩ := List.mem_iff_getElem?.mp m
          obtain ⟨nb, _, e2⟩ := h6 k p hk
          rw [np] at e2
          cases e2
        refine ⟨ls ++ [p], ?_, List.nodup_append.mpr ⟨h2, List.nodup_cons.mpr ⟨List.not_mem_nil, List.nodup_nil⟩, fun x m y k z => by rw [List.mem_singleton.mp k] at z; exact npas (z ▸ m)⟩, ?_, nD, ?_, ?_⟩
        · rw [upd_same, List.map_append]
          rfl
        · rw [List.length_append, h3, List.length_replicate, List.length_replicate]
          rfl
        · intro a m
          rcases List.mem_append.mp m with m | m
          · exact h5 a m
          · rw [List.mem_singleton.mp m]
            exact ⟨np0, nDp.symm⟩
        · intro k a e
          by_cases hk : k < ls.length
          · rw [List.getElem?_append_left hk] at e
            obtain ⟨nb, e1, e2⟩ := h6 k a e
            have e3 := List.eq_of_mem_replicate (List.mem_of_getElem? e1)
            subst e3
            refine ⟨[], ?_, ?_⟩
            · rw [List.getElem?_replicate, if_pos (by rw [h3, List.length_replicate] at hk; omega)]
            · rw [upd_ne (h5 a (List.mem_of_getElem? e)).2, upd_ne (show a ≠ p from fun z => npas (by rw [← z]; exact List.mem_of_getElem? e))]
              exact e2
          · rw [List.getElem?_append_right (by omega)] at e
            cases hk2 : k - ls.length with
            | zero =>
              rw [hk2] at e
              have ea : p = a := Option.some.inj e
              subst ea
              refine ⟨[], ?_, ?_⟩
              · rw [List.getElem?_replicate, if_pos (by rw [h3, List.length_replicate] at hk2 hk; omega)]
              · rw [upd_ne nDp.symm, upd_same]
                rfl
            | succ n =>
              rw [hk2] at e
              cases e
    · obtain ⟨s1, har⟩ := hq
      rw [lxs] at har
      refine ⟨_, rfl, ta, rfl, ⟨_, sqs f4 s1⟩, for_tup (xs := ys) (fun i σ H2 => (∃ y4 y5 y6, σ = [some (.ref fa), some (.ref pa), some (.ref ta), some (.ref D), y4, y5, y6]) ∧ Same H H2 ∧ ∃ nbs, Arnd H H2 D nbs ∧ nbs.length = pts.length ∧ nbOk (ts.take i) nbs ∧ ∀ nb ∈ nbs, nb.length ≤ 2 * i) ⟨⟨_, _, _, rfl⟩, s1, _, har, List.length_replicate, ?_, ?_⟩ (fun i σ H2 _ h => sqs f4 h.2.1) ?_ ?_⟩
      · intro k nb e j
        rw [List.eq_of_mem_replicate (List.mem_of_getElem? e), List.take_zero]
        constructor
        · intro z
          cases z
        · rintro (z | z)
          · cases z
          · cases z
      · intro nb m
        rw [List.eq_of_mem_replicate m]
        exact Nat.zero_le _
      · rintro i x σ H2 hx ⟨⟨y4, y5, y6, rfl⟩, s2, nbs, har2, hlen2, hnb2, hsm2⟩
        have hil := (List.getElem?_eq_some_iff.mp hx).1
        obtain ⟨dv, hdv, tdv⟩ := TdAll.at f5 hx
        rw [List.getElem?_map] at hdv
        obtain ⟨t0, ht0, rfl⟩ := Option.map_eq_some_iff.mp hdv
        obtain ⟨tp, rfl, htp⟩ := tdata_inv tdv
        obtain ⟨ta0, ta1, tb0, tb1⟩ : 0 ≤ t0.1 ∧ t0.1 < (nbs.length : Int) ∧ 0 ≤ t0.2 ∧ t0.2 < (nbs.length : Int) := by
          have z := fok.tok t0 (List.mem_of_getElem? ht0)
          rw [hlen2]
          exact ⟨z.1, z.2.2.1, z.2.1, z.2.2.2⟩
        refine ⟨tp, _, rfl, sqs htp s2, rfl, _, _, rfl, _, _, rfl, rfl, ?_⟩
        obtain ⟨ls, a, nb, hL, ha, hat, hn, hA⟩ := har2.at_ ta0 ta1
        have hs1 := hsm2 nb (List.mem_of_getElem? hn)
        refine ⟨_, rfl, _, rfl, D, _, _, _, rfl, rfl, SqL.of hL, hat, .inl ⟨rfl, _, SqL.of hA⟩, _, rfl, a, _, _, rfl, rfl, hA, szl (by rw [List.length_map]; omega), ?_⟩
        obtain ⟨har3, na⟩ := har2.put (j := t0.2) ls hL ha hn hA
        have s3 : Same H (upd H2 a (.lst (nb.map V.int ++ [.int t0.2]))) := fun c o e => by
          rw [upd_ne (ne_of_none e na)]
          exact s2 _ _ e
        have hnb3 := NB.put (j := t0.2) hnb2 hn
        obtain ⟨ls', a', nb', hL', ha', hat', hn', hA'⟩ := har3.at_ (i := t0.2) tb0 (by rw [List.length_set]; exact tb1)
        have hs2 : nb'.length ≤ 2 * i + 1 := by
          by_cases ek : t0.1.toNat = t0.2.toNat
          · rw [← ek, List.getElem?_set_self (List.getElem?_eq_some_iff.mp hn).1] at hn'
            rw [← Option.some.inj hn', List.length_append, List.length_singleton]
            omega
          · rw [List.getElem?_set_ne ek] at hn'
            have := hsm2 nb' (List.mem_of_getElem? hn')
            omega
        refine ⟨_, rfl, _, rfl, D, _, _, _, rfl, rfl, SqL.of hL', hat', .inl ⟨rfl, _, SqL.of hA'⟩, _, rfl, a', _, _, rfl, rfl, hA', szl (by rw [List.length_map]; omega), ?_⟩
        obtain ⟨har4, na'⟩ := har3.put (j := t0.1) ls' hL' ha' hn' hA'
        have hnb4 := NB.put (j := t0.1) hnb3 hn'
        refine ⟨⟨_, _, _, rfl⟩, ?_, _, har4, by rw [List.length_set, List.length_set]; exact hlen2, ?_, ?_⟩
        · intro c o e
          rw [upd_ne (ne_of_none e na')]
          exact s3 _ _ e
        · intro k nb2 e j
          rw [hnb4 k nb2 e j, take_at ht0]
          unfold Adj
          rw [List.mem_append, List.mem_append, List.mem_singleton, List.mem_singleton]
          constructor
          · rintro ((z | ⟨z1, z2⟩) | ⟨z1, z2⟩)
            · rcases z with z | z
              · exact .inl (.inl z)
              · exact .inr (.inl z)
            · refine .inl (.inr ?_)
              have : (k : Int) = t0.1 := by omega
              rw [this, z2]
            · refine .inr (.inr ?_)
              have : (k : Int) = t0.2 := by omega
              rw [this, z2]
          · rintro ((z | z) | (z | z))
            · exact .inl (.inl (.inl z))
            · refine .inl (.inr ?_)
              rw [← z]
              exact ⟨by simp, rfl⟩
            · exact .inl (.inl (.inr z))
            · refine .inr ?_
              rw [← z]
              exact ⟨by simp, rfl⟩
        · intro nb2 m
          have len1 : ∀ x ∈ nbs.set t0.1.toNat (nb ++ [t0.2]), x.length ≤ 2 * i + 1 := fun x hx => by
            rcases List.mem_or_eq_of_mem_set hx with z | z
            · have := hsm2 x z
              omega
            · rw [z, List.length_append, List.length_singleton]
              omega
          rcases List.mem_or_eq_of_mem_set m with z | z
          · have := len1 nb2 z
            omega
          · rw [z, List.length_append, List.length_singleton]
            omega
      · rintro σ H2 ⟨⟨y4, y5, y6, rfl⟩, s2, nbs, har2, hlen2, hnb2, _⟩
        rw [List.take_of_length_le (by omega)] at hnb2
        exact ⟨_, rfl, q D nbs H2 s2 har2 hlen2 hnb2⟩
end

end My
namespace My
open PySem L2
/-! ### steps_toward -/
def spSteps (K : PySem.W.Frag) : Sp := fun vs H Q _ => ∃ (f : V) (g : Int) (pts : List (Int × Str)) (ts : List (Int × Int)), vs = [f, .int g] ∧ Td K H f (fdata pts ts) ∧ FrOk pts ts ∧ 0 ≤ g ∧ g < (pts.length : Int) ∧
  ∀ (d : Addr) (l : Tw) (H' : Hp), Same H H' → H d = none → H' d = some (.dK (kvT l)) → Tow ts g l → (∀ v, v ∈ keysT l ↔ Rch ts g v) → (∀ v ∈ keysT l, 0 ≤ v ∧ v < (pts.length : Int)) → Q (.ref d) H'
theorem adj_in {pts : List (Int × Str)} {ts : List (Int × Int)} (fok : FrOk pts ts) {a b : Int} (h : Adj ts a b) : 0 ≤ b ∧ b < (pts.length : Int) := by
  rcases h with h | h
  · have := fok.tok _ h
    exact ⟨this.2.1, this.2.2.2⟩
  · have := fok.tok _ h
    exact ⟨this.1, this.2.2.1⟩
section
variable {P : Program} {w : World} {K : PySem.W.Frag} {mg : Str → Option Value} {base : Heap}
theorem ok_steps (T : Top K mg) : FnOk P w K mg base CX0 2 T.a_stepstoward T.d_stepstoward ["forest", "goal"] (spSteps K) := by
  have G_neighbours : FnOk P w K mg base CX0 1 _ _ _ _ := ok_nb T
  refine T.F_stepstoward.ok sc_stepstoward (fun vs H Q E h => ?_) (fun cdv A outer s H vs Q E hr h => ?_)
  · obtain ⟨f, g, pts, ts, rfl, _⟩ := h
    rfl
  · obtain ⟨f, g, pts, ts, rfl, hf, fok, g0, g1, q⟩ := h
    have few := fok.few
    refine ⟨_, (pss_cons (ps_set (i := 2) sc_stepstoward.nd rfl (.inl rfl) (pe_call G_neighbours hr (by rfl) T.g_neighbours T.F_neighbours.kp T.b_neighbours .nil pass0 (pa_cons (pv 0) pa_nil)))
      (pss_cons (ps_set (i := 3) sc_stepstoward.nd rfl (.inl rfl) (pe_disp (pps_cons (pv 1) pe_non pps_nil) (by rfl) (by rfl) (fun z => by cases z) (by decide)))
      (pss_cons (ps_set (i := 4) sc_stepstoward.nd rfl (.inl rfl) (pe_lst (pa_cons (pv 1) pa_nil)))
      (pss_cons (ps_while PassesOwn.never (pt_truth (pv 4) (by intro _; rfl)) (pss_cons (ps_set (i := 5) sc_stepstoward.nd rfl (.inl rfl) (pe_bm0 PySem.F.plainAttrs_list PySem.F.slot_list_pop PySem.F.type_list_pop mt_pop (pv 4)))
      (pss_one (ps_for PassesOwn.never rfl (pi_list (pe_ix ix_list (pv 2) (pv 5) (fun _ _ => rfl))) (pg_name (i := 6) sc_stepstoward.nd rfl (.inl rfl)) (pss_one (ps_if (pt_cmp (pc_dnotin (u1 hr) (pv 6) (pv 3))) (pss_cons (ps_dput (u1 hr) (pv 3) (pv 6) (pv 5) rfl)
      (pss_one (ps_expr (pe_bm PySem.F.plainAttrs_list PySem.F.slot_list_append PySem.F.type_list_append mt_append (pv 4) (pa_cons (pv 6) pa_nil))))) pss_nil))))))
      (pss_one (ps_ret (pv 3))))))), ?_⟩
    refine ⟨_, rfl, f, pts, ts, rfl, hf, fok, fun L nbs H1 s1 har hlen hnb => ?_⟩
    refine fun d nd => ⟨_, rfl, upd_same, [(Sum.inl g, .non)], rfl, (by show 1 ≤ 15; decide), ?_⟩
    rw [upd_upd]
    have ekv : mergeK [] [((Sum.inl g : Key), V.non)] = kvT [(g, none)] := rfl
    rw [ekv]
    have s2 : Same H1 (upd H1 d (.dK (kvT [(g, none)]))) := same_new nd
    have hd2 : upd H1 d (.dK (kvT [(g, none)])) d = some (.dK (kvT [(g, none)])) := upd_same
    generalize upd H1 d (.dK (kvT [(g, none)])) = H2 at s2 hd2 ⊢
    have nd0 : H d = none := s1.free nd
    refine ⟨_, rfl, (by show 1 ≤ sizeLine; decide), fun W nW => ?_⟩
    have nW1 : H1 W = none := s2.free nW
    have nW0 : H W = none := s1.free nW1
    have dW : d ≠ W := ne_of_none hd2 nW
    have s3 := same_new (o := .lst [.int g]) nW
    have hd3 := s3 _ _ hd2
    have har3 : Arnd H (upd H2 W (.lst [.int g])) L nbs := (har.same s2).same s3
    -- what stands but d and W
    refine ⟨fun m σ H4 => ∃ (l : Tw) (ws : List Int) (y5 y6 : Option V), σ = [some f, some (.int g), some (.ref L), some (.ref d), some (.ref W), y5, y6] ∧ (∀ c o, H1 c = some o → H4 c = some o) ∧ H4 d = some (.dK (kvT l)) ∧ H4 W = some (.lst (ws.map V.int)) ∧ Tow ts g l ∧ (∀ v ∈ ws, v ∈ keysT l) ∧ (∀ v ∈ keysT l, v ∉ ws → ∀ u, Adj ts v u → u ∈ keysT l) ∧ (∀ v ∈ keysT l, 0 ≤ v ∧ v < (pts.length : Int)) ∧ m = 2 * (pts.length - l.length) + ws.length ∧ l.length ≤ pts.length ∧ ws.length ≤ l.length, ⟨_, [(g, none)], [g], none, none, rfl, ?_, hd3, upd_same, .base, ?_, ?_, ?_, rfl, ?_, ?_⟩, ?_⟩
    · exact fun c o e => s3 _ _ (s2 _ _ e)
    · exact fun v m => m
    · intro v m n
      exact absurd m n
    · intro v m
      rw [List.mem_singleton.mp (show v ∈ [g] from m)]
      exact ⟨g0, g1⟩
    · show 1 ≤ pts.length
      omega
    · exact Nat.le_refl _
    · rintro m σ H4 ⟨l, ws, y5, y6, rfl, k4, hd4, hW4, tow, hws, hcl, hin, rfl, hlp, hwl⟩
      refine ⟨_, rfl, !ws.isEmpty, .inl ⟨_, SqL.of hW4, by cases ws <;> rfl⟩, ?_⟩
      rcases List.eq_nil_or_concat ws with rfl | ⟨ws', h0, rfl⟩
      · refine iteF ?_
        refine ⟨_, rfl, ?_⟩
        have hrch : ∀ v, v ∈ keysT l ↔ Rch ts g v := fun v => ⟨tow.rch v, closed_rch tow.mem fun v hv u e => hcl v hv (fun z => nomatch z) u e⟩
        exact q d l H4 (fun c o e => k4 _ _ (s1 _ _ e)) nd0 hd4 tow hrch hin
      · have ne : (!(ws' ++ [h0]).isEmpty) = true := by cases ws' <;> rfl
        rw [List.concat_eq_append] at *
        rw [ne]
        refine iteT ?_
        have hh : h0 ∈ keysT l := hws h0 (List.mem_append_right _ List.mem_cons_self)
        obtain ⟨hh0, hh1⟩ := hin h0 hh
        refine ⟨fun σ' H5 => ∃ (l' : Tw) (ws2 : List Int) (y6 : Option V), σ' = [some f, some (.int g), some (.ref L), some (.ref d), some (.ref W), some (.int h0), y6] ∧ (∀ c o, H1 c = some o → H5 c = some o) ∧ H5 d = some (.dK (kvT l')) ∧ H5 W = some (.lst (ws2.map V.int)) ∧ Tow ts g l' ∧ (∀ v ∈ ws2, v ∈ keysT l') ∧ (∀ v ∈ keysT l', v ∉ ws2 → ∀ u, Adj ts v u → u ∈ keysT l') ∧ (∀ v ∈ keysT l', 0 ≤ v ∧ v < (pts.length : Int)) ∧ (ws2.length + l.length = ws'.length + l'.length ∧ l.length ≤ l'.length) ∧ l'.length ≤ pts.length ∧ ws2.length ≤ l'.length, ?_, ?_⟩
        · rintro σ' H5 ⟨l', ws2, y6, rfl, k5, hd5, hW5, tow5, hws5, hcl5, hin5, hm5, hlp5, hwl5⟩
          refine ⟨_, ?_, l', ws2, _, _, rfl, k5, hd5, hW5, tow5, hws5, hcl5, hin5, rfl, hlp5, hwl5⟩
          rw [List.length_append, List.length_singleton]
          omega
        · have epop : ((ws' ++ [h0]).map V.int)[((ws' ++ [h0]).map V.int).length - 1]? = some (.int h0) := by
            rw [List.map_append, List.length_append]
            show ((ws'.map V.int) ++ [V.int h0])[(ws'.map V.int).length + 1 - 1]? = _
            rw [Nat.add_sub_cancel, List.getElem?_append_right (Nat.le_refl _), Nat.sub_self]
            rfl
          refine ⟨_, rfl, .inl ⟨rfl, _, SqL.of hW4⟩, W, _, _, rfl, rfl, hW4, epop, ?_⟩
          have edrop : ((ws' ++ [h0]).map V.int).dropLast = ws'.map V.int := by
            rw [List.map_append]
            exact List.dropLast_concat
          rw [edrop]
          have k5 : ∀ c o, H1 c = some o → upd H4 W (.lst (ws'.map V.int)) c = some o := fun c o e => by
            rw [upd_ne (ne_of_none e nW1)]
            exact k4 _ _ e
          have hd5 : upd H4 W (.lst (ws'.map V.int)) d = some (.dK (kvT l)) := by
            rw [upd_ne dW]
            exact hd4
          have hW5 : upd H4 W (.lst (ws'.map V.int)) W = some (.lst (ws'.map V.int)) := upd_same
          generalize upd H4 W (.lst (ws'.map V.int)) = H5 at k5 hd5 hW5 ⊢
          obtain ⟨ls, a, nb, hL, ha, hat, hn, hA⟩ := (har.same k5).at_ (i := h0) hh0 (by omega)
          have hnb0 : ∀ j, j ∈ nb ↔ Adj ts h0 j := fun j => by
            have z := hnb _ _ hn j
            have e : ((h0.toNat : Nat) : Int) = h0 := by omega
            rw [e] at z
            exact z
          have hA1 : ∃ o, H1 a = some o ∧ o = .lst (nb.map V.int) := by
            obtain ⟨ls1, g1', g2', g3', g4', g5', g6'⟩ := har.ex
            have e1 := k5 _ _ g1'
            rw [hL] at e1
            have inj : ls.map V.ref = ls1.map V.ref := HO.lst.inj (Option.some.inj e1)
            have e2 : (ls1.map V.ref)[h0.toNat]? = some (.ref a) := by
              rw [← inj, List.getElem?_map, ha]
              rfl
            rw [List.getElem?_map] at e2
            obtain ⟨a1, e3, e4⟩ := Option.map_eq_some_iff.mp e2
            cases e4
            obtain ⟨nb1, e5, e6⟩ := g6' _ _ e3
            rw [hn] at e5
            cases e5
            exact ⟨_, e6, rfl⟩
          obtain ⟨oA, hA1, rfl⟩ := hA1
          refine ⟨_, rfl, _, rfl, L, _, _, _, rfl, rfl, SqL.of hL, hat, a, rfl, ⟨_, SqL.of hA⟩, for_list (xs := nb.map V.int) (fun j σ' H6 => ∃ (l' : Tw) (ws2 : List Int) (y6 : Option V), σ' = [some f, some (.int g), some (.ref L), some (.ref d), some (.ref W), some (.int h0), y6] ∧ (∀ c o, H1 c = some o → H6 c = some o) ∧ H6 d = some (.dK (kvT l')) ∧ H6 W = some (.lst (ws2.map V.int)) ∧ Tow ts g l' ∧ h0 ∈ keysT l' ∧ (∀ v ∈ ws2, v ∈ keysT l') ∧ (∀ v ∈ keysT l', v ∉ ws2 → v ≠ h0 → ∀ u, Adj ts v u → u ∈ keysT l') ∧ (∀ u ∈ nb.take j, u ∈ keysT l') ∧ (∀ v ∈ keysT l', 0 ≤ v ∧ v < (pts.length : Int)) ∧ (ws2.length + l.length = ws'.length + l'.length ∧ l.length ≤ l'.length) ∧ l'.length ≤ pts.length ∧ ws2.length ≤ l'.length)
            ⟨l, ws', _, rfl, k5, hd5, hW5, tow, hh, fun v m => hws v (List.mem_append_left _ m), ?_, (fun u z => nomatch z), hin, ⟨rfl, Nat.le_refl _⟩, hlp, ?_⟩ (fun j σ' H6 _ hq => ?_) ?_ ?_⟩
          · intro v hv nv nh u e
            refine hcl v hv (fun z => ?_) u e
            rcases List.mem_append.mp z with z | z
            · exact nv z
            · exact nh (List.mem_singleton.mp z)
          · rw [List.length_append, List.length_singleton] at hwl
            omega
          · obtain ⟨l', ws2, y6, rfl, k6, _⟩ := hq
            exact SqL.of (k6 _ _ hA1)
          · rintro j x σ' H6 hx ⟨l', ws2, y6, rfl, k6, hd6, hW6, tow6, hh6, hws6, hcl6, hpr6, hin6, hm6, hlp6, hwl6⟩
            rw [List.getElem?_map] at hx
            obtain ⟨u, hu, rfl⟩ := Option.map_eq_some_iff.mp hx
            have adj : Adj ts h0 u := (hnb0 u).mp (List.mem_of_getElem? hu)
            have hget := kvT_get (v := u) tow6.nd
            refine ⟨_, rfl, _, rfl, d, _, rfl, DGet.k (k := Sum.inl u) hd6, _, rfl, ?_⟩
            rw [hget]
            by_cases mu : u ∈ keysT l'
            · rw [decide_eq_true mu]
              refine iteF ?_
              refine ⟨l', ws2, _, rfl, k6, hd6, hW6, tow6, hh6, hws6, hcl6, ?_, hin6, hm6, hlp6, hwl6⟩
              intro v m
              rw [take_at hu] at m
              rcases List.mem_append.mp m with m | m
              · exact hpr6 v m
              · rw [List.mem_singleton.mp m]
                exact mu
            · rw [decide_eq_false mu]
              refine iteT ?_
              have ll : (kvT l').length = l'.length := List.length_map ..
              refine ⟨_, rfl, _, rfl, _, rfl, d, _, rfl, DPut.k (k := Sum.inl u) (v := .int h0) hd6 (szl (by omega)), ?_⟩
              have eput : putK (kvT l') (Sum.inl u) (V.int h0) = kvT (l' ++ [(u, some h0)]) := kvT_put (o := some h0) mu
              rw [eput]
              have hd7 : upd H6 d (.dK (kvT (l' ++ [(u, some h0)]))) d = some (.dK (kvT (l' ++ [(u, some h0)]))) := upd_same
              have hW7 : upd H6 d (.dK (kvT (l' ++ [(u, some h0)]))) W = some (.lst (ws2.map V.int)) := by
                rw [upd_ne dW.symm]
                exact hW6
              have k7 : ∀ c o, H1 c = some o → upd H6 d (.dK (kvT (l' ++ [(u, some h0)]))) c = some o := fun c o e => by
                rw [upd_ne (ne_of_none e nd)]
                exact k6 _ _ e
              generalize upd H6 d (.dK (kvT (l' ++ [(u, some h0)]))) = H7 at hd7 hW7 k7 ⊢
              refine ⟨_, rfl, .inl ⟨rfl, _, SqL.of hW7⟩, _, rfl, W, _, _, rfl, rfl, hW7, szl (by rw [List.length_map]; omega), ?_⟩
              have tow8 : Tow ts g (l' ++ [(u, some h0)]) := .snoc tow6 hh6 mu adj
              have hin8 : ∀ v ∈ keysT (l' ++ [(u, some h0)]), 0 ≤ v ∧ v < (pts.length : Int) := fun v m => by
                rw [keysT_snoc] at m
                rcases List.mem_append.mp m with m | m
                · exact hin6 v m
                · rw [List.mem_singleton.mp m]
                  exact adj_in fok adj
              have hlp8 : (l' ++ [(u, some h0)]).length ≤ pts.length := by
                have z := nodup_le tow8.nd hin8
                have e : (keysT (l' ++ [(u, some h0)])).length = (l' ++ [(u, some h0)]).length := List.length_map ..
                omega
              refine ⟨l' ++ [(u, some h0)], ws2 ++ [u], _, rfl, ?_, ?_, ?_, tow8, ?_, ?_, ?_, ?_, hin8, ?_, hlp8, ?_⟩
              · intro c o e
                rw [upd_ne (ne_of_none e nW1)]
                exact k7 _ _ e
              · rw [upd_ne dW]
                exact hd7
              · rw [upd_same, List.map_append]
                rfl
              · rw [keysT_snoc]
                exact List.mem_append_left _ hh6
              · intro v m
                rw [keysT_snoc]
                rcases List.mem_append.mp m with m | m
                · exact List.mem_append_left _ (hws6 v m)
                · exact List.mem_append_right _ m
              · intro v hv nv nh y e
                rw [keysT_snoc] at hv ⊢
                rcases List.mem_append.mp hv with hv | hv
                · exact List.mem_append_left _ (hcl6 v hv (fun z => nv (List.mem_append_left _ z)) nh y e)
                · exact absurd (List.mem_append_right _ hv) nv
              · intro v m
                rw [keysT_snoc]
                rw [take_at hu] at m
                rcases List.mem_append.mp m with m | m
                · exact List.mem_append_left _ (hpr6 v m)
                · exact List.mem_append_right _ m
              · rw [List.length_append, List.length_append, List.length_singleton, List.length_singleton]
                omega
              · rw [List.length_append, List.length_append, List.length_singleton, List.length_singleton]
                omega
          · rintro σ' H6 ⟨l', ws2, y6, rfl, k6, hd6, hW6, tow6, hh6, hws6, hcl6, hpr6, hin6, hm6, hlp6, hwl6⟩
            rw [List.length_map, List.take_of_length_le (Nat.le_refl _)] at hpr6
            refine ⟨l', ws2, _, rfl, k6, hd6, hW6, tow6, hws6, fun v hv nv u e => ?_, hin6, hm6, hlp6, hwl6⟩
            by_cases ev : v = h0
            · subst ev
              exact hpr6 u ((hnb0 u).mpr e)
            · exact hcl6 v hv nv ev u e
end

end My
namespace My
open PySem L2
/-! ### way_of -/
def spWayOf (K : PySem.W.Frag) : Sp := fun vs H Q _ => ∃ (f : V) (a b : Int) (pts : List (Int × Str)) (ts : List (Int × Int)), vs = [f, .int a, .int b] ∧ Td K H f (fdata pts ts) ∧ FrOk pts ts ∧ 0 ≤ a ∧ a < (pts.length : Int) ∧ 0 ≤ b ∧ b < (pts.length : Int) ∧
  (∀ H', Same H H' → ¬ Rch ts a b → Q .non H') ∧ ∀ (t : Addr) (l : List Int) (H' : Hp), Same H H' → H t = none → Way ts a b l → l.length ≤ pts.length → H' t = some (.tup (l.map V.int)) → Q (.ref t) H'
section
variable {P : Program} {w : World} {K : PySem.W.Frag} {mg : Str → Option Value} {base : Heap}
theorem ok_wayof (T : Top K mg) : FnOk P w K mg base CX0 3 T.a_wayof T.d_wayof ["forest", "a", "b"] (spWayOf K) := by
  have G_stepstoward : FnOk P w K mg base CX0 2 _ _ _ _ := ok_steps T
  refine T.F_wayof.ok sc_wayof (fun vs H Q E h => ?_) (fun cdv A outer s H vs Q E hr h => ?_)
  · obtain ⟨f, a, b, pts, ts, rfl, _⟩ := h
    rfl
  · obtain ⟨f, a, b, pts, ts, rfl, hf, fok, a0, a1, b0, b1, qn, qw⟩ := h
    have few := fok.few
    refine ⟨_, (pss_cons (ps_set (i := 3) sc_wayof.nd rfl (.inl rfl) (pe_call G_stepstoward hr (by rfl) T.g_stepstoward T.F_stepstoward.kp T.b_stepstoward .nil pass0 (pa_cons (pv 0) (pa_cons (pv 2) pa_nil))))
      (pss_cons (ps_if (pt_cmp (pc_dnotin (u1 hr) (pv 1) (pv 3))) (pss_one (ps_ret pe_non)) pss_nil)
      (pss_cons (ps_set (i := 4) sc_wayof.nd rfl (.inl rfl) (pe_lst (pa_cons (pv 1) pa_nil)))
      (pss_cons (ps_while PassesOwn.never (pt_cmpR op_ne (pe_ix ix_list (pv 4) (pe_un un_neg pe_int) (fun _ _ => rfl)) (pv 2) (nomark _)) (pss_one (ps_expr (pe_bm PySem.F.plainAttrs_list PySem.F.slot_list_append PySem.F.type_list_append mt_append (pv 4) (pa_cons (pe_dget (u1 hr) (pv 3) (pe_ix ix_list (pv 4) (pe_un un_neg pe_int) (fun _ _ => rfl)) (fun _ _ => rfl)) pa_nil)))))
      (pss_one (ps_ret (pe_callTy call_tuple_of (by rfl) T.m_tuple (by decide +kernel) (pa_cons (pv 4) pa_nil)))))))), ?_⟩
    refine ⟨_, rfl, _, rfl, f, b, pts, ts, rfl, hf, fok, b0, b1, fun d l H1 s1 nd hd tow hk hin => ?_⟩
    have hget := kvT_get (v := a) tow.nd
    refine ⟨_, rfl, _, rfl, d, _, rfl, DGet.k (k := Sum.inl a) hd, _, rfl, ?_⟩
    rw [hget]
    by_cases ma : a ∈ keysT l
    · rw [decide_eq_true ma]
      refine iteF ?_
      obtain ⟨wy, hway, hfol, hwk⟩ := tow.way a ma
      have hwl : wy.length ≤ pts.length := nodup_le hway.nd fun x hx => hin x (hwk x hx)
      refine ⟨_, rfl, (by show 1 ≤ sizeLine; decide), fun W nW => ?_⟩
      have dW : d ≠ W := ne_of_none hd nW
      have nW0 : H W = none := s1.free nW
      refine ⟨fun m σ H2 => ∃ (pre : List Int) (cur : Int) (rest : List Int), σ = [some f, some (.int a), some (.int b), some (.ref d), some (.ref W)] ∧ (∀ c o, H1 c = some o → H2 c = some o) ∧ H2 W = some (.lst (pre.map V.int ++ [.int cur])) ∧ wy = pre ++ cur :: rest ∧ Fol l b (cur :: rest) ∧ m = rest.length, ⟨_, [], a, wy.tail, rfl, fun c o e => same_new nW _ _ e, upd_same, ?_, ?_, rfl⟩, ?_⟩
      · cases wy with
        | nil => exact absurd rfl hway.wk.ne_nil
        | cons y r =>
          have ey : y = a := Option.some.inj hway.wk.head
          rw [ey]
          rfl
      · cases wy with
        | nil => exact absurd rfl hway.wk.ne_nil
        | cons y r =>
          have ey : y = a := Option.some.inj hway.wk.head
          rw [← ey]
          exact hfol
      · rintro m σ H2 ⟨pre, cur, rest, rfl, k2, hW2, ewy, fol, rfl⟩
        have hat : atI (pre.map V.int ++ [V.int cur]) (-1) = some (.int cur) := atI_last _ _
        refine ⟨_, rfl, _, rfl, W, _, _, _, rfl, rfl, SqL.of hW2, hat, _, rfl, rfl, _, rfl, ?_⟩
        by_cases ec : cur = b
        · have er : rest = [] := by
            cases fol with
            | one => rfl
            | cons _ n _ => exact absurd ec n
          subst er
          rw [ec]
          refine ite2 (fun e => absurd e (by simp)) (fun _ => ?_)
          refine ⟨_, rfl, W, _, rfl, .inl ⟨SqL.of hW2, fun t nt => ?_⟩⟩
          have st := same_new (o := .tup (pre.map V.int ++ [V.int cur])) nt
          have s13 : Same H (upd H2 t (.tup (pre.map V.int ++ [V.int cur]))) := fun c o e => st _ _ (k2 _ _ (s1 _ _ e))
          refine qw t wy _ s13 ?_ hway hwl ?_
          · cases hq : H t with
            | none => rfl
            | some o =>
              rw [k2 _ _ (s1 _ _ hq)] at nt
              cases nt
          · rw [upd_same, ewy, List.map_append]
            rfl
        · refine ite2 (fun _ => ?_) (fun e => absurd (show (!decide (V.int cur = V.int b)) = true by rw [decide_eq_false fun z => ec (V.int.inj z)]; rfl) e)
          cases fol with
          | one => exact absurd rfl ec
          | @cons _ p w' mem _ fol' =>
            have hval := kvT_some tow.nd mem
            have hl : pre.length + 1 ≤ pts.length := by
              rw [ewy, List.length_append, List.length_cons] at hwl
              omega
            refine ⟨fun σ' H3 => ∃ (pre : List Int) (cur : Int) (rest : List Int), σ' = [some f, some (.int a), some (.int b), some (.ref d), some (.ref W)] ∧ (∀ c o, H1 c = some o → H3 c = some o) ∧ H3 W = some (.lst (pre.map V.int ++ [.int cur])) ∧ wy = pre ++ cur :: rest ∧ Fol l b (cur :: rest) ∧ rest.length = w'.length, ?_, ?_⟩
            · rintro σ' H3 ⟨pre, cur, rest, rfl, k3, hW3, ewy3, fol3, hlen3⟩
              refine ⟨rest.length, ?_, pre, cur, rest, rfl, k3, hW3, ewy3, fol3, rfl⟩
              rw [hlen3, List.length_cons]
              omega
            · have hd2 := k2 _ _ hd
              have hdg : DGet H2 d (.int cur) (some (.int p)) := by
                have z := DGet.k (k := Sum.inl cur) hd2
                rw [hval] at z
                exact z
              have hsz : (pre.map V.int ++ [V.int cur]).length < sizeLine := szl (by rw [List.length_append, List.length_map, List.length_singleton]; omega)
              refine ⟨_, rfl, .inl ⟨rfl, _, SqL.of hW2⟩, _, rfl, _, rfl, _, rfl, W, _, _, _, rfl, rfl, SqL.of hW2, hat, d, _, rfl, hdg, W, _, _, rfl, rfl, hW2, hsz, ?_⟩
              refine ⟨pre ++ [cur], p, w', rfl, ?_, ?_, ?_, fol', rfl⟩
              · intro c o e
                rw [upd_ne (ne_of_none e nW)]
                exact k2 _ _ e
              · rw [upd_same, List.map_append]
                rfl
              · rw [ewy, List.append_assoc]
                rfl
    · rw [decide_eq_false ma]
      refine iteT ?_
      refine qn H1 s1 fun r => ma ?_
      exact (hk a).mpr r.symm
end

end My
namespace My
open PySem L2
def ptAt (pts : List (Int × Str)) (p : Int) : Int × Str := (pts[p.toNat]?).getD (0, "")
def InP (pts : List (Int × Str)) (l : List Int) : Prop := ∀ x ∈ l, 0 ≤ x ∧ x < (pts.length : Int)
theorem way_in {pts : List (Int × Str)} {ts : List (Int × Int)} (fok : FrOk pts ts) {a b : Int} {l : List Int} (w : Wlk ts a b l) (a0 : 0 ≤ a) (a1 : a < (pts.length : Int)) : InP pts l := by
  induction w with
  | one a =>
    intro x hx
    rw [List.mem_singleton.mp hx]
    exact ⟨a0, a1⟩
  | @cons a b c l e _ ih =>
    intro x hx
    rcases List.mem_cons.mp hx with rfl | hx
    · exact ⟨a0, a1⟩
    · have hb : 0 ≤ b ∧ b < (pts.length : Int) := by
        rcases e with e | e
        · have z := fok.tok _ e
          exact ⟨z.2.1, z.2.2.2⟩
        · have z := fok.tok _ e
          exact ⟨z.1, z.2.2.1⟩
      exact ih hb.1 hb.2 x hx

theorem inV_ints (x : Int) : ∀ l : List Int, inV (.int x) (l.map V.int) = decide (x ∈ l)
  | [] => rfl
  | y :: r => by
    have ih := inV_ints x r
    unfold inV at ih ⊢
    rw [List.map_cons, List.any_cons, ih]
    by_cases e : y = x
    · subst e
      simp [eqV]
    · have e2 : ¬ x = y := fun z => e z.symm
      simp [eqV, e, e2]
theorem flat_ints : ∀ l : List Int, (l.map V.int).all flatV = true
  | [] => rfl
  | _ :: r => by
    rw [List.map_cons, List.all_cons, flat_ints r]
    rfl

/-! ### tied pairs, cut forests, parts and sides -/
section
variable {X : Cx}
def rInT (K : PySem.W.Frag) (neg : Bool) : R2 := fun x y H Q => ∃ d ds, Dp K H x d ∧ Dp K H y (.tuple ds) ∧ SeqAt.shaped d = true ∧ SeqAt.shaped (.tuple ds) = true ∧ Q (.bl (if neg then !ds.any (fun z => PyData.eqv z d) else ds.any fun z => PyData.eqv z d)) H
theorem op_inT (hu : X.A.units + 65 < cLine) : OpR X (compareOp .In) (rInT X.K false) := by
  intro pins s σ H x y v u Q I rx ry h
  obtain ⟨d, ds, hd, he, sd, se, q⟩ := h
  obtain ⟨as, z1⟩ := Dp.reads I d x v hd rx
  obtain ⟨bs, z2⟩ := Dp.reads I (.tuple ds) y u he ry
  exact SeqAt.in_tuple_reads z2 z1 (SeqAt.canLay_of_shaped se) (SeqAt.canLay_of_shaped sd) (PyProof.Rows.room_in_shaped sd hu) ⟨.bl _, H, I, rfl, q⟩
theorem op_notInT (hu : X.A.units + 65 < cLine) : OpR X (compareOp .NotIn) (rInT X.K true) := by
  intro pins s σ H x y v u Q I rx ry h
  obtain ⟨d, ds, hd, he, sd, se, q⟩ := h
  obtain ⟨as, z1⟩ := Dp.reads I d x v hd rx
  obtain ⟨bs, z2⟩ := Dp.reads I (.tuple ds) y u he ry
  exact SeqAt.notIn_tuple_reads z2 z1 (SeqAt.canLay_of_shaped se) (SeqAt.canLay_of_shaped sd) (PyProof.Rows.room_in_shaped sd hu) ⟨.bl _, H, I, rfl, q⟩
end
theorem op_neDK {X : Cx} {K : PySem.W.Frag} (hK : X.K = K) (hu : X.A.units + 64 < cLine) : OpR X (compareOp .NotEq) (rNeD K) := by
  subst hK
  exact op_neD hu
theorem op_eqDK {X : Cx} {K : PySem.W.Frag} (hK : X.K = K) (hu : X.A.units + 64 < cLine) : OpR X (compareOp .Eq) (rEqD K) := by
  subst hK
  exact op_eqD hu
def pairOf (a b : Int) : Int × Int := (if b < a then b else a, if b > a then b else a)
def cutT (ts : Ties) (a b : Int) : Ties := ts.filter fun u => decide (u ≠ pairOf a b)
theorem eqv_td (t u : Int × Int) : PyData.eqv (tdata t) (tdata u) = decide (t = u) := by
  obtain ⟨a, b⟩ := t
  obtain ⟨c, d⟩ := u
  show (PyData.eqv (.int a) (.int c) && (PyData.eqv (.int b) (.int d) && true)) = _
  have e : ∀ x y : Int, PyData.eqv (.int x) (.int y) = decide (x = y) := fun x y => by
    rfl
  rw [e, e, Bool.and_true, ← Bool.decide_and]
  exact decide_eq_decide.mpr ⟨fun ⟨h1, h2⟩ => by rw [h1, h2], fun h => ⟨congrArg Prod.fst h, congrArg Prod.snd h⟩⟩
theorem shaped_td (t : Int × Int) : SeqAt.shaped (tdata t) = true := by
  obtain ⟨a, b⟩ := t
  rfl
theorem lay_tds : ∀ ts : Ties, PyData.canLayAll0 (ts.map tdata) = true ∧ PyData.depthAll (ts.map tdata) ≤ 1
  | [] => ⟨rfl, Nat.zero_le _⟩
  | t :: r => by
    have ih := lay_tds r
    obtain ⟨a, b⟩ := t
    refine ⟨?_, ?_⟩
    · show (PyData.canLay0 (tdata (a, b)) && PyData.canLayAll0 (r.map tdata)) = true
      rw [ih.1, Bool.and_true]
      rfl
    · show max (PyData.depth (tdata (a, b))) (PyData.depthAll (r.map tdata)) ≤ 1
      exact Nat.max_le.mpr ⟨Nat.le_refl _, ih.2⟩
theorem shaped_tds (ts : Ties) : SeqAt.shaped (.tuple (ts.map tdata)) = true := by
  obtain ⟨h1, h2⟩ := lay_tds ts
  show (PyData.canLayAll0 (ts.map tdata) && decide (PyData.depthAll (ts.map tdata) + 1 ≤ 64)) = true
  rw [h1, decide_eq_true (show PyData.depthAll (ts.map tdata) + 1 ≤ 64 by omega)]
  rfl
theorem any_td (ts : Ties) (u : Int × Int) : ((ts.map tdata).any fun z => PyData.eqv z (tdata u)) = decide (u ∈ ts) := by
  induction ts with
  | nil => rfl
  | cons t r ih =>
    rw [List.map_cons, List.any_cons, ih, eqv_td, ← Bool.decide_or]
    exact decide_eq_decide.mpr ⟨fun h => h.elim (fun e => e ▸ List.mem_cons_self) (fun h => List.mem_cons_of_mem _ h), fun h => (List.mem_cons.mp h).imp Eq.symm id⟩
theorem keep_td {K : PySem.W.Frag} {H : Hp} {u : Int × Int} : ∀ {xs : List V} {ts : Ties}, TdAll K H xs (ts.map tdata) → TdAll K H (keepNe (tdata u) xs (ts.map tdata)) ((ts.filter fun t => decide (t ≠ u)).map tdata)
  | [], [], _ => .nil
  | [], _ :: _, h => nomatch h
  | _ :: _, [], h => nomatch h
  | x :: xs, t :: ts, .cons h1 h2 => by
    have ih := keep_td (u := u) h2
    show TdAll K H (if (!PyData.eqv (tdata t) (tdata u)) = true then x :: keepNe (tdata u) xs (ts.map tdata) else keepNe (tdata u) xs (ts.map tdata)) _
    rw [eqv_td]
    by_cases e : t = u
    · rw [decide_eq_true e, if_neg (by decide), List.filter_cons_of_neg (by simp [e])]
      exact ih
    · rw [decide_eq_false e, if_pos (show (!false) = true from rfl), List.filter_cons_of_pos (by simp [e]), List.map_cons]
      exact .cons h1 ih
theorem FrOk.cut {pts : List (Int × Str)} {ts : Ties} (h : FrOk pts ts) (a b : Int) : FrOk pts (cutT ts a b) := by
  have sub : ∀ t ∈ cutT ts a b, t ∈ ts := fun t m => (List.mem_filter.mp m).1
  refine ⟨h.pos, h.few, h.pok, fun t m => h.tok t (sub t m), Nat.le_trans (List.length_filter_le _ _) h.tl, fun t m r => h.tree t (sub t m) (r.mono fun u hu => ?_), h.nd.filter _⟩
  obtain ⟨h1, h2⟩ := List.mem_filter.mp hu
  exact List.mem_filter.mpr ⟨sub u h1, h2⟩
/-- all that are joined with a, rising -/
structure IsPart (ts : Ties) (a : Int) (l : List Int) : Prop where
  up : l.Pairwise (· < ·)
  mem : ∀ v, v ∈ l ↔ Rch ts a v
theorem rising_ext : ∀ {l m : List Int}, l.Pairwise (· < ·) → m.Pairwise (· < ·) → (∀ v, v ∈ l ↔ v ∈ m) → l = m
  | [], [], _, _, _ => rfl
  | [], y :: _, _, _, h => nomatch (h y).mpr List.mem_cons_self
  | x :: _, [], _, _, h => nomatch (h x).mp List.mem_cons_self
  | x :: l, y :: m, hl, hm, h => by
    rw [List.pairwise_cons] at hl hm
    have e : x = y := by
      rcases List.mem_cons.mp ((h x).mp List.mem_cons_self) with e | e
      · exact e
      · rcases List.mem_cons.mp ((h y).mpr List.mem_cons_self) with e2 | e2
        · exact e2.symm
        · have z1 := hm.1 x e
          have z2 := hl.1 y e2
          omega
    subst e
    have t : l = m := rising_ext hl.2 hm.2 fun v => ⟨fun hv => by
      rcases List.mem_cons.mp ((h v).mp (List.mem_cons_of_mem _ hv)) with e | e
      · have := hl.1 v hv
        omega
      · exact e, fun hv => by
      rcases List.mem_cons.mp ((h v).mpr (List.mem_cons_of_mem _ hv)) with e | e
      · have := hm.1 v hv
        omega
      · exact e⟩
    rw [t]
theorem part_unique {ts : Ties} {a : Int} {l m : List Int} (h : IsPart ts a l) (g : IsPart ts a m) : l = m := rising_ext h.up g.up fun v => (h.mem v).trans (g.mem v).symm
theorem part_of_sorted {ts : Ties} {a : Int} {ks ns : List Int} (nd : ks.Nodup) (mem : ∀ v, v ∈ ks ↔ Rch ts a v) (pm : ns.Perm ks) (srt : ns.Pairwise (· ≤ ·)) : IsPart ts a ns := by
  have nd2 : ns.Nodup := pm.nodup_iff.mpr nd
  refine ⟨?_, fun v => (pm.mem_iff).trans (mem v)⟩
  have both := List.Pairwise.and srt nd2
  exact both.imp fun ⟨h1, h2⟩ => Int.lt_iff_le_and_ne.mpr ⟨h1, h2⟩
theorem rch_in {pts : List (Int × Str)} {ts : Ties} (fok : FrOk pts ts) {a v : Int} (a0 : 0 ≤ a) (a1 : a < (pts.length : Int)) (h : Rch ts a v) : 0 ≤ v ∧ v < (pts.length : Int) := by
  obtain ⟨l, hl⟩ := rch_way h
  exact way_in fok hl.wk a0 a1 v hl.wk.mem_b
theorem IsPart.inP {pts : List (Int × Str)} {ts : Ties} {a : Int} {l : List Int} (h : IsPart ts a l) (fok : FrOk pts ts) (a0 : 0 ≤ a) (a1 : a < (pts.length : Int)) : InP pts l := fun v m => rch_in fok a0 a1 ((h.mem v).mp m)
theorem IsPart.nd {ts : Ties} {a : Int} {l : List Int} (h : IsPart ts a l) : l.Nodup := h.up.imp fun h => Int.ne_of_lt h
theorem IsPart.ne {ts : Ties} {a : Int} {l : List Int} (h : IsPart ts a l) : l ≠ [] := fun e => by
  have := (h.mem a).mpr .refl
  rw [e] at this
  cases this
theorem IsPart.len {pts : List (Int × Str)} {ts : Ties} {a : Int} {l : List Int} (h : IsPart ts a l) (fok : FrOk pts ts) (a0 : 0 ≤ a) (a1 : a < (pts.length : Int)) : l.length ≤ pts.length := nodup_le h.nd (h.inP fok a0 a1)
theorem Td.ties {K : PySem.W.Frag} {H : Hp} {a : Addr} {ys : List V} {ts : Ties} (h : SqT K H a ys) (k : TdAll K H ys (ts.map tdata)) : Dp K H (.ref a) (.tuple (ts.map tdata)) := (Td.tup h k).dp
section
variable {P : Program} {w : World} {K : PySem.W.Frag} {mg : Str → Option Value} {base : Heap}
def spTieOf : Sp := fun vs H Q _ => ∃ a b : Int, vs = [.int a, .int b] ∧ ∀ t, H t = none → Q (.ref t) (upd H t (.tup [.int (pairOf a b).1, .int (pairOf a b).2]))
theorem ok_tieof (T : Top K mg) : FnOk P w K mg base CX0 1 T.a_tieof T.d_tieof ["a", "b"] spTieOf := by
  refine T.F_tieof.ok sc_tieof (fun vs H Q E h => ?_) (fun cdv A outer s H vs Q E hr h => ?_)
  · obtain ⟨a, b, rfl, _⟩ := h
    rfl
  · obtain ⟨a, b, rfl, q⟩ := h
    refine ⟨_, (pss_one (ps_ret (pe_tup (pa_cons (pe_callB (call_min2 rfl) (by rfl) T.m_min (by decide +kernel) (pa_cons (pv 0) (pa_cons (pv 1) pa_nil))) (pa_cons (pe_callB (call_max2 rfl) (by rfl) T.m_max (by decide +kernel) (pa_cons (pv 0) (pa_cons (pv 1) pa_nil))) pa_nil))))), ?_⟩
    exact ⟨_, rfl, _, rfl, a, b, rfl, _, rfl, _, rfl, a, b, rfl, (by show 2 ≤ sizeLine; decide), fun t nt => q t nt⟩
end
section
variable {P : Program} {w : World} {K : PySem.W.Frag} {mg : Str → Option Value} {base : Heap}
def spPart (K : PySem.W.Frag) : Sp := fun vs H Q _ => ∃ (f : V) (a : Int) (pts : List (Int × Str)) (ts : Ties), vs = [f, .int a] ∧ Td K H f (fdata pts ts) ∧ FrOk pts ts ∧ 0 ≤ a ∧ a < (pts.length : Int) ∧
  ∀ (t : Addr) (l : List Int) (H' : Hp), Same H H' → IsPart ts a l → H' t = some (.tup (l.map V.int)) → Q (.ref t) H'
theorem ok_partof (T : Top K mg) : FnOk P w K mg base CX0 3 T.a_partof T.d_partof ["forest", "a"] (spPart K) := by
  have G_stepstoward : FnOk P w K mg base CX0 2 _ _ _ _ := ok_steps T
  refine T.F_partof.ok sc_partof (fun vs H Q E h => ?_) (fun cdv A outer s H vs Q E hr h => ?_)
  · obtain ⟨f, a, pts, ts, rfl, _⟩ := h
    rfl
  · obtain ⟨f, a, pts, ts, rfl, hf, fok, a0, a1, q⟩ := h
    refine ⟨_, (pss_one (ps_ret (pe_callTy call_tuple_of (by rfl) T.m_tuple (by decide +kernel) (pa_cons (pe_callB cr_sortedI (by rfl) T.m_sorted (by decide +kernel) (pa_cons (pe_callTy (call_listD rfl) (by rfl) T.m_list (by decide +kernel) (pa_cons (pe_call G_stepstoward hr (by rfl) T.g_stepstoward T.F_stepstoward.kp T.b_stepstoward .nil pass0 (pa_cons (pv 0) (pa_cons (pv 1) pa_nil))) pa_nil)) pa_nil)) pa_nil)))), ?_⟩
    refine ⟨_, rfl, _, rfl, f, a, pts, ts, rfl, hf, fok, a0, a1, fun d l H1 s1 nd hd tow hk hin => ?_⟩
    refine ⟨d, _, rfl, .inl hd, fun p np => ?_⟩
    have ek : (kvT l).map (fun kv => kV kv.1) = (keysT l).map V.int := by
      unfold kvT keysT
      rw [List.map_map, List.map_map]
      rfl
    rw [ek]
    have s2 := same_new (o := .lst ((keysT l).map V.int)) np
    refine ⟨p, keysT l, rfl, SqL.of upd_same, fun ns p2 pm srt np2 => ?_⟩
    have s3 := same_new (o := .lst (ns.map V.int)) np2
    refine ⟨p2, _, rfl, .inl ⟨SqL.of upd_same, fun p3 np3 => ?_⟩⟩
    have s4 := same_new (o := .tup (ns.map V.int)) np3
    exact q p3 ns _ (((s1.trans s2).trans s3).trans s4) (part_of_sorted tow.nd hk pm srt) upd_same
end

end My
namespace My
open PySem L2
/-! ### the law's own part: a closure over the ties -/
def kvF (ks : List Int) : List (Key × V) := ks.map fun k => ((Sum.inl k : Key), V.bl true)
def addK (ks : List Int) (x : Int) : List Int := if x ∈ ks then ks else ks ++ [x]
theorem kvF_some {ks : List Int} {x : Int} (h : x ∈ ks) : valV (kvF ks) (Sum.inl x) = some (.bl true) := by
  induction ks with
  | nil => cases h
  | cons k r ih =>
    by_cases e : k = x
    · exact valV_pos (p := ((Sum.inl k : Key), V.bl true)) (congrArg Sum.inl e)
    · show valV (((Sum.inl k : Key), V.bl true) :: kvF r) (Sum.inl x) = _
      rw [valV_neg (fun z => e (Sum.inl.inj z))]
      rcases List.mem_cons.mp h with z | z
      · exact absurd z.symm e
      · exact ih z
theorem kvF_none {ks : List Int} {x : Int} (h : x ∉ ks) : valV (kvF ks) (Sum.inl x) = none := by
  induction ks with
  | nil => rfl
  | cons k r ih =>
    show valV (((Sum.inl k : Key), V.bl true) :: kvF r) (Sum.inl x) = _
    have n1 : ¬ ((Sum.inl k : Key) = Sum.inl x) := fun z => h (Sum.inl.inj z ▸ List.mem_cons_self)
    rw [valV_neg n1]
    exact ih fun m => h (List.mem_cons_of_mem _ m)
theorem kvF_is (ks : List Int) (x : Int) : (valV (kvF ks) (Sum.inl x)).isSome = decide (x ∈ ks) := by
  by_cases h : x ∈ ks
  · rw [kvF_some h, decide_eq_true h]
    rfl
  · rw [kvF_none h, decide_eq_false h]
    rfl
theorem kvF_put (ks : List Int) (x : Int) : putK (kvF ks) (Sum.inl x) (.bl true) = kvF (addK ks x) := by
  unfold putK addK
  rw [valV_any]
  by_cases h : x ∈ ks
  · rw [kvF_some h, if_pos (show (some (V.bl true)).isSome = true from rfl), if_pos h]
    unfold kvF
    rw [List.map_map]
    refine List.map_congr_left fun k _ => ?_
    show (if (Sum.inl k : Key) = Sum.inl x then ((Sum.inl k : Key), V.bl true) else ((Sum.inl k : Key), V.bl true)) = _
    split <;> rfl
  · rw [kvF_none h, if_neg (by decide), if_neg h]
    unfold kvF
    rw [List.map_append]
    rfl
theorem addK_mem {ks : List Int} {x y : Int} : y ∈ addK ks x ↔ y ∈ ks ∨ y = x := by
  unfold addK
  by_cases h : x ∈ ks
  · rw [if_pos h]
    exact ⟨.inl, fun z => z.elim id fun e => e ▸ h⟩
  · rw [if_neg h, List.mem_append, List.mem_singleton]
theorem addK_nd {ks : List Int} {x : Int} (h : ks.Nodup) : (addK ks x).Nodup := by
  unfold addK
  by_cases m : x ∈ ks
  · rw [if_pos m]
    exact h
  · rw [if_neg m]
    refine List.nodup_append.mpr ⟨h, List.nodup_cons.mpr ⟨List.not_mem_nil, List.nodup_nil⟩, fun a ha b hb e => ?_⟩
    rw [List.mem_singleton.mp hb] at e
    exact m (e ▸ ha)
theorem addK_pre {ks0 ks : List Int} {x : Int} (h : ∃ r, ks = ks0 ++ r) : ∃ r, addK ks x = ks0 ++ r := by
  obtain ⟨r, rfl⟩ := h
  unfold addK
  split
  · exact ⟨r, rfl⟩
  · exact ⟨r ++ [x], List.append_assoc ..⟩
theorem same_put {H H1 : Hp} {d : Addr} {o : HO} (s : Same H H1) (n : H d = none) : Same H (upd H1 d o) := fun b u z => by
  rw [upd_ne (ne_of_none z n)]
  exact s b u z
/-- what is closed holds all that is joined -/
theorem closedT_rch {ts : Ties} {a : Int} {ks : List Int} (ha : a ∈ ks) (cl : ∀ t ∈ ts, (t.1 ∈ ks ∨ t.2 ∈ ks) → t.1 ∈ ks ∧ t.2 ∈ ks) {v : Int} (h : Rch ts a v) : v ∈ ks := by
  induction h with
  | refl => exact ha
  | step _ e ih =>
    rcases e with e | e
    · exact (cl _ e (.inl ih)).2
    · exact (cl _ e (.inr ih)).1
def spLPart (K : PySem.W.Frag) : Sp := fun vs H Q _ => ∃ (f : V) (a : Int) (pts : List (Int × Str)) (ts : Ties), vs = [f, .int a] ∧ Td K H f (fdata pts ts) ∧ FrOk pts ts ∧ 0 ≤ a ∧ a < (pts.length : Int) ∧
  ∀ (D : Addr) (l : List Int) (H' : Hp), Same H H' → IsPart ts a l → H' D = some (.lst (l.map V.int)) → Q (.ref D) H'
section
variable {P : Program} {w : World} {K : PySem.W.Frag} {mg : Str → Option Value} {base : Heap}
theorem ok_lpart (T : Top K mg) : FnOk P w K mg base CX0 1 T.a_Lpart T.d_Lpart ["_law_forest_here", "_law_a"] (spLPart K) := by
  refine T.F_Lpart.ok sc_Lpart (fun vs H Q E h => ?_) (fun cdv A outer s H vs Q E hr h => ?_)
  · obtain ⟨f, a, pts, ts, rfl, _⟩ := h
    rfl
  · obtain ⟨f, a, pts, ts, rfl, hf, fok, a0, a1, q⟩ := h
    obtain ⟨fa, pa, ta, xs, ys, rfl, f1, f2, f3, f4, f5⟩ := Td.parts hf
    have ly := f5.length
    rw [List.length_map] at ly
    have few := fok.few
    have inN : ∀ {ks : List Int}, ks.Nodup → (∀ v ∈ ks, Rch ts a v) → ks.length ≤ pts.length := fun {ks} nd hr => nodup_le nd fun v hv => rch_in fok a0 a1 (hr v hv)
    refine ⟨_, (pss_cons (ps_set (i := 2) sc_Lpart.nd rfl (.inl rfl) (pe_disp (pps_cons (pv 1) pe_bl pps_nil) (by rfl) (by rfl) (fun z => by cases z) (by decide)))
      (pss_cons (ps_set (i := 3) sc_Lpart.nd rfl (.inl rfl) pe_int)
      (pss_cons (ps_while PassesOwn.never (pt_cmpR op_gt (pe_callB call_lenD (by rfl) T.m_len PySem.boot_len (pa_cons (pv 2) pa_nil)) (pv 3) (nomark _)) (pss_cons (ps_set (i := 3) sc_Lpart.nd rfl (.inl rfl) (pe_callB call_lenD (by rfl) T.m_len PySem.boot_len (pa_cons (pv 2) pa_nil)))
      (pss_one (ps_for PassesOwn.never rfl (pi_tup (pe_ix ix_tup (pv 0) pe_int (fun _ _ => rfl))) (pg_tup rfl (pgs_cons (pg_name (i := 4) sc_Lpart.nd rfl (.inl rfl)) (pgs_cons (pg_name (i := 5) sc_Lpart.nd rfl (.inl rfl)) pgs_nil))) (pss_one (ps_if (pt_mid (PW.pt (pw_or (pt_cmp (pc_din (u1 hr) (pv 4) (pv 2))) (pw_or1 (pt_cmp (pc_din (u1 hr) (pv 5) (pv 2))))))) (pss_cons (ps_dput (u1 hr) (pv 2) (pv 4) pe_bl rfl)
      (pss_one (ps_dput (u1 hr) (pv 2) (pv 5) pe_bl rfl))) pss_nil))))))
      (pss_one (ps_ret (pe_callB (call_sortedDX rfl) (by rfl) T.m_sorted (by decide +kernel) (pa_cons (pv 2) pa_nil))))))), ?_⟩
    refine fun d nd => ⟨_, rfl, upd_same, [(.inl a, .bl true)], rfl, (by show 1 ≤ 15; decide), ?_⟩
    rw [upd_upd]
    have s1 : Same H (upd H d (.dK (kvF [a]))) := same_new nd
    refine ⟨fun m σ H1 => ∃ (ks : List Int) (mh : Int) (y4 y5 : Option V), σ = [some (.ref fa), some (.int a), some (.ref d), some (.int mh), y4, y5] ∧ H1 d = some (.dK (kvF ks)) ∧ ks.Nodup ∧ (∀ v ∈ ks, Rch ts a v) ∧ a ∈ ks ∧ Same H H1 ∧ 0 ≤ mh ∧ mh ≤ (ks.length : Int) ∧ (mh = (ks.length : Int) → ∀ t ∈ ts, (t.1 ∈ ks ∨ t.2 ∈ ks) → t.1 ∈ ks ∧ t.2 ∈ ks) ∧ m = pts.length - mh.toNat, ⟨_, [a], 0, none, none, rfl, upd_same, List.nodup_cons.mpr ⟨List.not_mem_nil, List.nodup_nil⟩, fun v hv => (List.mem_singleton.mp hv) ▸ .refl, List.mem_cons_self, s1, Int.le_refl _, (by show (0 : Int) ≤ 1; decide), fun z => absurd z (by show ¬ (0 : Int) = 1; decide), rfl⟩, ?_⟩
    rintro m σ H1 ⟨ks, mh, y4, y5, rfl, hd, ndk, hrk, ak, sm, mh0, mhl, cl, rfl⟩
    have lk : (kvF ks).length = ks.length := List.length_map ..
    refine ⟨_, rfl, d, _, rfl, hd, _, rfl, _, _, rfl, rfl, _, rfl, ite2 (fun e => ?_) (fun e => ?_)⟩
    · have gt : mh < (ks.length : Int) := by
        have z := of_decide_eq_true e
        rw [lk] at z
        omega
      have ln := inN ndk hrk
      refine ⟨fun σ' H' => ∃ (ks' : List Int) (y4 y5 : Option V), σ' = [some (.ref fa), some (.int a), some (.ref d), some (.int (ks.length : Int)), y4, y5] ∧ H' d = some (.dK (kvF ks')) ∧ ks'.Nodup ∧ (∀ v ∈ ks', Rch ts a v) ∧ a ∈ ks' ∧ Same H H' ∧ (∃ r, ks' = ks ++ r) ∧ ∀ t ∈ ts, (t.1 ∈ ks ∨ t.2 ∈ ks) → t.1 ∈ ks' ∧ t.2 ∈ ks', ?_, ?_⟩
      · rintro σ' H' ⟨ks', z4, z5, rfl, hd', nd', hr', ak', sm', ⟨r, er⟩, cl'⟩
        refine ⟨pts.length - ks.length, by omega, ks', _, z4, z5, rfl, hd', nd', hr', ak', sm', by omega, ?_, fun el => ?_, rfl⟩
        · rw [er, List.length_append]
          omega
        · have r0 : r = [] := by
            rw [er, List.length_append] at el
            exact List.eq_nil_of_length_eq_zero (by omega)
          rw [r0, List.append_nil] at er
          subst er
          exact cl'
      · refine ⟨_, rfl, d, _, rfl, hd, ?_⟩
        rw [lk]
        refine ⟨_, rfl, fa, _, _, _, rfl, rfl, sqs f1 sm, atI_nat (j := 1) rfl, ta, rfl, ⟨ys, sqs f4 sm⟩, for_tup (xs := ys) (fun i σ H2 => ∃ (ks' : List Int) (z4 z5 : Option V), σ = [some (.ref fa), some (.int a), some (.ref d), some (.int (ks.length : Int)), z4, z5] ∧ H2 d = some (.dK (kvF ks')) ∧ ks'.Nodup ∧ (∀ v ∈ ks', Rch ts a v) ∧ a ∈ ks' ∧ Same H H2 ∧ (∃ r, ks' = ks ++ r) ∧ ∀ t ∈ ts.take i, (t.1 ∈ ks ∨ t.2 ∈ ks) → t.1 ∈ ks' ∧ t.2 ∈ ks') ⟨ks, _, _, rfl, hd, ndk, hrk, ak, sm, ⟨[], (List.append_nil _).symm⟩, fun t m => nomatch m⟩ (fun i σ H2 _ z => by obtain ⟨_, _, _, _, _, _, _, _, z, _⟩ := z; exact sqs f4 z) ?_ ?_⟩
        · rintro i x σ H2 hx ⟨ks', z4, z5, rfl, hd2, nd2, hr2, ak2, sm2, pre2, cl2⟩
          obtain ⟨dd, hdd, tx⟩ := f5.at hx
          rw [List.getElem?_map] at hdd
          obtain ⟨t, ht, et⟩ : ∃ t, ts[i]? = some t ∧ dd = tdata t := by
            cases e : ts[i]? with
            | none =>
              rw [e] at hdd
              cases hdd
            | some t =>
              rw [e] at hdd
              exact ⟨t, rfl, (Option.some.inj hdd).symm⟩
          subst et
          obtain ⟨tp, rfl, htp⟩ := tdata_inv tx
          obtain ⟨u, v⟩ := t
          have mt : (u, v) ∈ ts := List.mem_of_getElem? ht
          refine ⟨tp, _, rfl, sqs htp sm2, rfl, _, _, rfl, _, _, rfl, rfl, ?_⟩
          refine ⟨fun b H3 => H3 = H2 ∧ (b = true ↔ (u ∈ ks' ∨ v ∈ ks')), ?_, ?_⟩
          · refine ⟨_, rfl, _, rfl, d, _, rfl, DGet.k (k := Sum.inl u) hd2, _, rfl, ite2 (fun e => ?_) (fun e => ?_)⟩
            · have mu : u ∈ ks' := of_decide_eq_true ((kvF_is ks' u).symm.trans e)
              exact ⟨rfl, fun _ => .inl mu, fun _ => rfl⟩
            · have mu : u ∉ ks' := fun m => e ((kvF_is ks' u).trans (decide_eq_true m))
              refine ⟨_, rfl, _, rfl, d, _, rfl, DGet.k (k := Sum.inl v) hd2, _, rfl, rfl, ?_⟩
              rw [kvF_is]
              exact ⟨fun z => .inr (of_decide_eq_true z), fun z => decide_eq_true (z.resolve_left mu)⟩
          · rintro b H3 ⟨rfl, hb⟩
            have upc : ∀ {ks2 : List Int}, (∀ y ∈ ks', y ∈ ks2) → ((u ∈ ks ∨ v ∈ ks) → u ∈ ks2 ∧ v ∈ ks2) → ∀ t ∈ ts.take (i + 1), (t.1 ∈ ks ∨ t.2 ∈ ks) → t.1 ∈ ks2 ∧ t.2 ∈ ks2 := by
              intro ks2 sub new t m c
              rw [take_at ht] at m
              rcases List.mem_append.mp m with m | m
              · have z := cl2 t m c
                exact ⟨sub _ z.1, sub _ z.2⟩
              · rw [List.mem_singleton.mp m] at c ⊢
                exact new c
            refine ite2 (fun e => ?_) (fun e => ?_)
            · have both := hb.mp e
              have ru : Rch ts a u := both.elim (hr2 u) fun m => (hr2 v m).trans (.one (.inr mt))
              have rv : Rch ts a v := both.elim (fun m => (hr2 u m).trans (.one (.inl mt))) (hr2 v)
              have l2 := inN nd2 hr2
              have nd3 : (addK ks' u).Nodup := addK_nd nd2
              have hr3 : ∀ y ∈ addK ks' u, Rch ts a y := fun y m => (addK_mem.mp m).elim (hr2 y) fun e => e ▸ ru
              have l3 := inN nd3 hr3
              refine ⟨_, rfl, _, rfl, d, _, rfl, DPut.k (k := Sum.inl u) (v := .bl true) hd2 (szl (by unfold kvF; rw [List.length_map]; omega)), ?_⟩
              rw [kvF_put]
              refine ⟨_, rfl, _, rfl, d, _, rfl, DPut.k (k := Sum.inl v) (v := .bl true) upd_same (szl (by unfold kvF; rw [List.length_map]; omega)), ?_⟩
              rw [kvF_put]
              refine ⟨addK (addK ks' u) v, _, _, rfl, upd_same, addK_nd nd3, fun y m => (addK_mem.mp m).elim (hr3 y) fun e => e ▸ rv, addK_mem.mpr (.inl (addK_mem.mpr (.inl ak2))), same_put (same_put sm2 nd) nd, addK_pre (addK_pre pre2), ?_⟩
              exact upc (fun y m => addK_mem.mpr (.inl (addK_mem.mpr (.inl m)))) fun _ => ⟨addK_mem.mpr (.inl (addK_mem.mpr (.inr rfl))), addK_mem.mpr (.inr rfl)⟩
            · refine ⟨ks', _, _, rfl, hd2, nd2, hr2, ak2, sm2, pre2, upc (fun _ m => m) fun c => ?_⟩
              obtain ⟨r, er⟩ := pre2
              exact absurd (hb.mpr (c.imp (fun m => er ▸ List.mem_append_left _ m) fun m => er ▸ List.mem_append_left _ m)) e
        · rintro σ H2 ⟨ks', z4, z5, rfl, hd2, nd2, hr2, ak2, sm2, pre2, cl2⟩
          rw [ly, List.take_length] at cl2
          exact ⟨ks', _, _, rfl, hd2, nd2, hr2, ak2, sm2, pre2, cl2⟩
    · have el : mh = (ks.length : Int) := by
        have z : ¬ _ := fun y => e (decide_eq_true y)
        rw [lk] at z
        omega
      have ln := inN ndk hrk
      refine ⟨_, rfl, d, kvF ks, ks, rfl, .inl hd, ?_, by omega, fun ns p pm srt np => ?_⟩
      · unfold kvF
        rw [List.map_map]
        rfl
      · exact q p ns _ (sm.trans (same_new np)) (part_of_sorted ndk (fun v => ⟨hrk v, closedT_rch ak (cl el)⟩) pm srt) upd_same
end

end My
namespace My
open PySem L2
/-- anything but a tuple -/
inductive NoTup (H : Hp) : V → Prop
  | non : NoTup H .non
  | bl (b : Bool) : NoTup H (.bl b)
  | int (i : Int) : NoTup H (.int i)
  | str (x : Str) : NoTup H (.str x)
  | lst {a : Addr} {xs : List V} (h : H a = some (.lst xs)) : NoTup H (.ref a)
  | dK {a : Addr} {kvs : List (Key × V)} (h : H a = some (.dK kvs)) : NoTup H (.ref a)
theorem NoTup.kp {H H' : Hp} (k : Kp H H') {v : V} (h : NoTup H v) : NoTup H' v := by
  cases h with
  | non => exact .non
  | bl b => exact .bl b
  | int i => exact .int i
  | str x => exact .str x
  | lst h => exact .lst (k _ _ h (by intro ps z; cases z))
  | dK h => exact .dK (k _ _ h (by intro ps z; cases z))
theorem notup_ok {K : PySem.W.Frag} {H : Hp} {v : V} (h : NoTup H v) : ∃ t, TyX K H v t ∧ PySem.W.kitOne K t (.type "tuple") = some false := by
  cases h with
  | non => exact ⟨_, .base .non, kit_ty (show kitB _ _ = some false by decide +kernel)⟩
  | bl b => exact ⟨_, .base (.bl b), kit_ty (show kitB _ _ = some false by decide +kernel)⟩
  | int i => exact ⟨_, .base (.int i), kit_ty (show kitB _ _ = some false by decide +kernel)⟩
  | str x => exact ⟨_, .base (.str x), kit_ty (show kitB _ _ = some false by decide +kernel)⟩
  | lst h => exact ⟨_, .base (.lst h), kit_ty (show kitB _ _ = some false by decide +kernel)⟩
  | dK h => exact ⟨_, .base (.dK h), kit_ty (show kitB _ _ = some false by decide +kernel)⟩
theorem not_whole {x : V} {ps : List V} : ¬ (HT.sIx (x :: ps).length 0 (some 1) = 0 ∧ HT.sIx (x :: ps).length (x :: ps).length none = (x :: ps).length) := by
  rintro ⟨z1, _⟩
  have e1 : HT.sIx (x :: ps).length 0 (some 1) = 1 := by
    rw [show (1 : Int) = ((1 : Nat) : Int) from rfl, HT.sIx_nat, List.length_cons]
    omega
  rw [e1] at z1
  exact nomatch z1
theorem Kp.of_tabd {P : Addr} {H H' : Hp} (g : GxR.TabG H P) (t : GxR.Tabbed P H H') : Kp H H' := Kp.of_but g (But.of_tab t)
theorem Kp.tup {H H' : Hp} (k : Kp H H') {t : Addr} {xs : List V} (e : H t = some (.tup xs)) : H' t = some (.tup xs) := k _ _ e (by intro ps z; cases z)

/-! ### papers of anything: what is a paper -/
def chainB (p : Int → Int → Bool) : List Int → Bool
  | x :: y :: r => p x y && chainB p (y :: r)
  | _ => true
def linkB (ts : Ties) (ns : List Int) : Bool := chainB (fun x y => decide (pairOf x y ∈ ts)) ns
theorem chain_ris : ∀ ns : List Int, chainB (fun x y => decide (x < y)) ns = decide (ns.Pairwise (· < ·))
  | [] => (decide_eq_true List.Pairwise.nil).symm
  | [x] => (decide_eq_true (List.pairwise_singleton ..)).symm
  | x :: y :: r => by
    show (decide (x < y) && chainB _ (y :: r)) = _
    rw [chain_ris (y :: r), ← Bool.decide_and]
    refine decide_eq_decide.mpr ⟨fun ⟨h1, h2⟩ => List.pairwise_cons.mpr ⟨fun z hz => ?_, h2⟩, fun h => ?_⟩
    · rcases List.mem_cons.mp hz with rfl | hz
      · exact h1
      · have := (List.pairwise_cons.mp h2).1 z hz
        omega
    · have h' := List.pairwise_cons.mp h
      exact ⟨h'.1 y List.mem_cons_self, h'.2⟩
theorem chain_at {p : Int → Int → Bool} {ns : List Int} {i : Nat} {u v : Int} (hu : ns[i]? = some u) (hv : ns[i + 1]? = some v) : chainB p (ns.drop i) = (p u v && chainB p (ns.drop (i + 1))) := by
  rw [drop_at hu, drop_at hv]
  rfl
theorem chain_end {p : Int → Int → Bool} {n0 : Int} {nr : List Int} : chainB p ((n0 :: nr).drop nr.length) = true := by
  have l1 : ((n0 :: nr).drop nr.length).length = 1 := by
    rw [List.length_drop, List.length_cons]
    omega
  match h : (n0 :: nr).drop nr.length, l1 with
  | [_], _ => rfl
theorem nd_le : ∀ {out ns : List Int}, out.Nodup → (∀ k ∈ out, k ∈ ns) → out.length ≤ ns.length
  | [], _, _, _ => Nat.zero_le _
  | x :: r, ns, nd, h => by
    have nd' := List.nodup_cons.mp nd
    have mx := h x List.mem_cons_self
    have z := nd_le (ns := ns.erase x) nd'.2 fun k hk => (List.mem_erase_of_ne (a := k) (b := x) (fun e : k = x => nd'.1 (e ▸ hk))).mpr (h k (List.mem_cons_of_mem _ hk))
    have z2 := List.length_erase_of_mem mx
    have z3 : 0 < ns.length := List.length_pos_of_mem mx
    rw [List.length_cons]
    omega
theorem nd_dup : ∀ {ns : List Int}, ¬ ns.Nodup → ∃ l : List Int, l.length + 1 = ns.length ∧ ∀ k ∈ ns, k ∈ l
  | [], h => absurd List.nodup_nil h
  | x :: r, h => by
    by_cases m : x ∈ r
    · exact ⟨r, rfl, fun k hk => (List.mem_cons.mp hk).elim (fun e => e ▸ m) id⟩
    · obtain ⟨l, ll, hl⟩ := nd_dup (fun z => h (List.nodup_cons.mpr ⟨m, z⟩))
      exact ⟨x :: l, by rw [List.length_cons, List.length_cons, ← ll], fun k hk => (List.mem_cons.mp hk).elim (fun e => e ▸ List.mem_cons_self) fun z => List.mem_cons_of_mem _ (hl k z)⟩
theorem nd_len {out ns : List Int} (nd : out.Nodup) (mem : ∀ k, k ∈ out ↔ k ∈ ns) : out.length = ns.length ↔ ns.Nodup := by
  constructor
  · intro e
    by_cases h : ns.Nodup
    · exact h
    · obtain ⟨l, ll, hl⟩ := nd_dup h
      have := nd_le nd fun k hk => hl k ((mem k).mp hk)
      omega
  · intro h
    exact Nat.le_antisymm (nd_le nd fun k hk => (mem k).mp hk) (nd_le h fun k hk => (mem k).mpr hk)
def wayB (ts : Ties) (a b : Int) (ns : List Int) : Bool := decide (ns.head? = some a ∧ ns.getLast? = some b ∧ ns.Nodup) && linkB ts ns
def apartB (n : Nat) (ts : Ties) (a b : Int) (ns : List Int) : Bool := decide (ns.Pairwise (· < ·) ∧ a ∈ ns ∧ b ∉ ns ∧ ∀ x ∈ ns, 0 ≤ x ∧ x < (n : Int)) && ts.all fun t => decide (t.1 ∈ ns) == decide (t.2 ∈ ns)
def papB (n : Nat) (ts : Ties) (a b : Int) : Option (Str × List Int) → Bool
  | none => false
  | some (w, ns) => if w = "way" then wayB ts a b ns else if w = "apart" then apartB n ts a b ns else false
theorem wayB_no {ts : Ties} {a b : Int} {ns : List Int} (h : ¬ (ns.head? = some a ∧ ns.getLast? = some b ∧ ns.Nodup)) : wayB ts a b ns = false := by
  unfold wayB
  rw [decide_eq_false h]
  rfl
theorem wayB_yes {ts : Ties} {a b : Int} {ns : List Int} (h : ns.head? = some a ∧ ns.getLast? = some b ∧ ns.Nodup) : wayB ts a b ns = linkB ts ns := by
  unfold wayB
  rw [decide_eq_true h]
  rfl
theorem apartB_no {n : Nat} {ts : Ties} {a b : Int} {ns : List Int} (h : ¬ (ns.Pairwise (· < ·) ∧ a ∈ ns ∧ b ∉ ns ∧ ∀ x ∈ ns, 0 ≤ x ∧ x < (n : Int))) : apartB n ts a b ns = false := by
  unfold apartB
  rw [decide_eq_false h]
  rfl
theorem apartB_yes {n : Nat} {ts : Ties} {a b : Int} {ns : List Int} (h : ns.Pairwise (· < ·) ∧ a ∈ ns ∧ b ∉ ns ∧ ∀ x ∈ ns, 0 ≤ x ∧ x < (n : Int)) : apartB n ts a b ns = ts.all fun t => decide (t.1 ∈ ns) == decide (t.2 ∈ ns) := by
  unfold apartB
  rw [decide_eq_true h]
  rfl
theorem pair_adj {ts : Ties} {a b : Int} (h : pairOf a b ∈ ts) : Adj ts a b := by
  unfold pairOf at h
  by_cases e : b < a
  · rw [if_pos e, if_neg (by omega)] at h
    exact .inr h
  · rw [if_neg e] at h
    by_cases e2 : b > a
    · rw [if_pos e2] at h
      exact .inl h
    · rw [if_neg e2] at h
      have : a = b := by omega
      subst this
      exact .inl h
theorem link_rng {ts : Ties} {R : Int → Prop} (hR : ∀ t ∈ ts, R t.1 ∧ R t.2) : ∀ ns : List Int, linkB ts ns = true → (∀ h, ns.head? = some h → R h) → ∀ x ∈ ns, R x
  | [], _, _, x, m => nomatch m
  | [y], _, h, x, m => by
    rw [List.mem_singleton.mp m]
    exact h y rfl
  | y :: z :: r, l, h, x, m => by
    have l : (decide (pairOf y z ∈ ts) && linkB ts (z :: r)) = true := l
    rw [Bool.and_eq_true] at l
    have rz : R z := by
      rcases pair_adj (of_decide_eq_true l.1) with e | e
      · exact (hR _ e).2
      · exact (hR _ e).1
    rcases List.mem_cons.mp m with rfl | m
    · exact h _ rfl
    · exact link_rng hR (z :: r) l.2 (fun h e => by cases Option.some.inj e; exact rz) x m
/-- a way's points are the forest's -/
theorem way_rng {pts : List (Int × Str)} {ts : Ties} (fok : FrOk pts ts) {a b : Int} {ns : List Int} (a0 : 0 ≤ a) (a1 : a < (pts.length : Int)) (h : wayB ts a b ns = true) : ∀ x ∈ ns, 0 ≤ x ∧ x < (pts.length : Int) := by
  unfold wayB at h
  rw [Bool.and_eq_true] at h
  have h1 := of_decide_eq_true h.1
  refine link_rng (R := fun x => 0 ≤ x ∧ x < (pts.length : Int)) (fun t m => ?_) ns h.2 fun z e => ?_
  · have := fok.tok t m
    exact ⟨⟨this.1, this.2.2.1⟩, this.2.1, this.2.2.2⟩
  · rw [h1.1] at e
    cases Option.some.inj e
    exact ⟨a0, a1⟩
/-! whole numbers among anything -/
def intsOf : List V → Option (List Int)
  | [] => some []
  | .int i :: r => (intsOf r).map (i :: ·)
  | _ :: _ => none
theorem intsOf_some : ∀ {vs : List V} {ns : List Int}, intsOf vs = some ns → vs = ns.map V.int
  | [], ns, h => by cases Option.some.inj h; rfl
  | .int i :: r, ns, h => by
    obtain ⟨ms, e1, e2⟩ := Option.map_eq_some_iff.mp (show (intsOf r).map (i :: ·) = some ns from h)
    subst e2
    rw [intsOf_some e1]
    rfl
  | .non :: _, _, h => nomatch h
  | .bl _ :: _, _, h => nomatch h
  | .str _ :: _, _, h => nomatch h
  | .ref _ :: _, _, h => nomatch h
  | .byt _ :: _, _, h => nomatch h
  | .flt _ :: _, _, h => nomatch h
  | .ty _ :: _, _, h => nomatch h
theorem intsOf_all : ∀ vs : List V, (intsOf vs).isSome = vs.all wholeB
  | [] => rfl
  | .int i :: r => by
    show ((intsOf r).map (i :: ·)).isSome = (true && r.all wholeB)
    rw [Option.isSome_map, intsOf_all r, Bool.true_and]
  | .non :: _ => rfl
  | .bl _ :: _ => rfl
  | .str _ :: _ => rfl
  | .ref _ :: _ => rfl
  | .byt _ :: _ => rfl
  | .flt _ :: _ => rfl
  | .ty _ :: _ => rfl
theorem intsOf_map : ∀ ns : List Int, intsOf (ns.map V.int) = some ns
  | [] => rfl
  | n :: r => by
    show (intsOf (r.map V.int)).map (n :: ·) = _
    rw [intsOf_map r]
    rfl
/-! things in the heap, all at places told -/
def KpN (N : Addr → Prop) (H H' : Hp) : Prop := ∀ a o, N a → H a = some o → (∀ ps, o ≠ .tbl ps) → H' a = some o
def Nx (d D : Addr) : Addr → Prop := fun a => a ≠ d ∧ a ≠ D
theorem KpN.of_same {N : Addr → Prop} {H H' : Hp} (s : Same H H') : KpN N H H' := fun a o _ e _ => s a o e
theorem KpN.of_but {d D : Addr} {H H' : Hp} (s : But d H H') : KpN (Nx d D) H H' := fun a o n e _ => s a o e n.1
theorem KpN.of_put {d D : Addr} {H : Hp} {u : HO} : KpN (Nx d D) H (upd H D u) := fun a o n e _ => by
  rw [upd_ne n.2]
  exact e
theorem KpN.of_kp {N : Addr → Prop} {H H' : Hp} (s : Kp H H') : KpN N H H' := fun a o _ e n => s a o e n
theorem KpN.tup {N : Addr → Prop} {H H' : Hp} (k : KpN N H H') {a : Addr} {xs : List V} (n : N a) (h : H a = some (.tup xs)) : H' a = some (.tup xs) := k _ _ n h (by intro ps z; cases z)
inductive NoT (N : Addr → Prop) (H : Hp) : V → Prop
  | non : NoT N H .non
  | bl (b : Bool) : NoT N H (.bl b)
  | int (i : Int) : NoT N H (.int i)
  | str (x : Str) : NoT N H (.str x)
  | lst {a : Addr} {xs : List V} (n : N a) (h : H a = some (.lst xs)) : NoT N H (.ref a)
  | dK {a : Addr} {kvs : List (Key × V)} (n : N a) (h : H a = some (.dK kvs)) : NoT N H (.ref a)
inductive AnyD (N : Addr → Prop) (H : Hp) : V → Prop
  | no {v : V} (h : NoT N H v) : AnyD N H v
  | tup {a : Addr} {xs : List V} (n : N a) (h : H a = some (.tup xs)) : AnyD N H (.ref a)
section
variable {N : Addr → Prop} {H H' : Hp} {v : V}
theorem NoT.nt (h : NoT N H v) : NoTup H v := by
  cases h with
  | non => exact .non
  | bl b => exact .bl b
  | int i => exact .int i
  | str x => exact .str x
  | lst n h => exact .lst h
  | dK n h => exact .dK h
theorem NoT.mono (k : KpN N H H') (h : NoT N H v) : NoT N H' v := by
  cases h with
  | non => exact .non
  | bl b => exact .bl b
  | int i => exact .int i
  | str x => exact .str x
  | lst n h => exact .lst n (k _ _ n h (by intro ps z; cases z))
  | dK n h => exact .dK n (k _ _ n h (by intro ps z; cases z))
theorem AnyD.mono (k : KpN N H H') (h : AnyD N H v) : AnyD N H' v := by
  cases h with
  | no h => exact .no (h.mono k)
  | tup n h => exact .tup n (k.tup n h)
theorem AnyD.any (h : AnyD N H v) : AnyV H v := by
  cases h with
  | no h =>
    cases h with
    | non => exact .non
    | bl b => exact .bl b
    | int i => exact .int i
    | str x => exact .str x
    | lst n h => exact .lst h
    | dK n h => exact .dK h
  | tup n h => exact .tup h
end
/-- anything, and what it is as a paper -/
inductive PapV (N : Addr → Prop) (H : Hp) : V → Option (Str × List Int) → Prop
  | no {v : V} (h : NoT N H v) : PapV N H v none
  | sht {p : Addr} {xs : List V} (n : N p) (h : H p = some (.tup xs)) (al : ∀ x ∈ xs, AnyD N H x) (ns : ∀ w u, xs ≠ [.str w, u]) : PapV N H (.ref p) none
  | one {p : Addr} {w : Str} {u : V} (n : N p) (h : H p = some (.tup [.str w, u])) (hu : NoT N H u) : PapV N H (.ref p) none
  | two {p t : Addr} {w : Str} {ys : List V} (n : N p) (n2 : N t) (h : H p = some (.tup [.str w, .ref t])) (ht : H t = some (.tup ys)) (al : ∀ y ∈ ys, AnyD N H y) (l : ys.length ≤ 1000) : PapV N H (.ref p) ((intsOf ys).map fun ns => (w, ns))
theorem PapV.mono {N : Addr → Prop} {H H' : Hp} {v : V} {r : Option (Str × List Int)} (k : KpN N H H') (h : PapV N H v r) : PapV N H' v r := by
  cases h with
  | no h => exact .no (h.mono k)
  | sht n h al ns => exact .sht n (k.tup n h) (fun x m => (al x m).mono k) ns
  | one n h hu => exact .one n (k.tup n h) (hu.mono k)
  | two n n2 h ht al l => exact .two n n2 (k.tup n h) (k.tup n2 ht) (fun x m => (al x m).mono k) l
theorem ne_int {x y : Int} (z : (!decide (V.int x = V.int y)) = true) : x ≠ y := fun e => by
  subst e
  rw [decide_eq_true rfl] at z
  cases z
theorem eq_int {x y : Int} (z : ¬ (!decide (V.int x = V.int y)) = true) : x = y := by
  by_cases e : x = y
  · exact e
  · exact absurd (by rw [decide_eq_false fun h => e (V.int.inj h)]; rfl) z

end My
namespace My
open PySem L2
/-! ### papers of anything: the program's look -/
theorem nil_whole : HT.sIx ([] : List V).length 0 (some 1) = 0 ∧ HT.sIx ([] : List V).length ([] : List V).length none = ([] : List V).length := by decide
section
variable {P : Program} {w : World} {K : PySem.W.Frag} {mg : Str → Option Value} {base : Heap}
def spWhole : Sp := fun vs H Q _ => ∃ v, vs = [v] ∧ AnyV H v ∧ Q (.bl (wholeB v)) H
theorem ok_whole (T : Top K mg) : FnOk P w K mg base CX0 1 T.a_iswhole T.d_iswhole ["thing"] spWhole := by
  refine T.F_iswhole.ok sc_iswhole (fun vs H Q E h => ?_) (fun cdv A outer s H vs Q E hr h => ?_)
  · obtain ⟨v, rfl, _⟩ := h
    rfl
  · obtain ⟨v, rfl, hv, q⟩ := h
    refine ⟨_, (pss_one (ps_ret (pe_and (pe_callB call_isi (by rfl) T.m_isinstance (by decide +kernel) (pa_cons (pv 0) (pa_cons (pe_bltn (v := .ty "int") (by rfl) T.m_int (by decide +kernel) rfl) pa_nil))) (pe_one (pe_not (pe_callB call_isi (by rfl) T.m_isinstance (by decide +kernel) (pa_cons (pv 0) (pa_cons (pe_bltn (v := .ty "bool") (by rfl) T.m_bool (by decide +kernel) rfl) pa_nil)))))))), ?_⟩
    obtain ⟨t, ty, kt⟩ := int_ok (K := K) hv
    refine ⟨_, rfl, _, _, _, _, _, rfl, ClsV.ty _, ty, kt, _, rfl, ?_⟩
    obtain ⟨t2, ty2, kt2⟩ := bool_ok (K := K) hv
    have fin : isIntV v = true → ∀ b, b = isBoolV v → Q (.bl (!b)) H := fun e b eb => by
      have z : (!b) = wholeB v := by
        subst eb
        cases v <;> first | rfl | exact nomatch e
      rw [z]
      exact q
    refine ite2 (fun e => ?_) (fun e => ?_)
    · exact ⟨_, rfl, _, _, _, _, _, rfl, ClsV.ty _, ty2, kt2, _, rfl, fin e _ rfl⟩
    · have z : wholeB v = false := by
        cases v <;> first | rfl | exact absurd rfl e
      rw [z] at q
      exact q
def spWholesA (T : Top K mg) : Sp := fun vs H Q _ => ∃ (v : V) (b : Bool), vs = [v] ∧ Tb T.tbs H ∧ ((∃ (a : Addr) (ys : List V), v = .ref a ∧ H a = some (.tup ys) ∧ (∀ y ∈ ys, AnyV H y) ∧ b = ys.all wholeB) ∨ (NoTup H v ∧ b = false)) ∧ ∀ H', Kp H H' → Tb T.tbs H' → Q (.bl b) H'
theorem ok_wholesA (T : Top K mg) (TB : GxR.TabB base mg T.cA T.PA) : FnOk P w K mg base CX0 3 T.a_arewholes T.d_arewholes ["thing"] (spWholesA T) := by
  have G_iswhole : FnOk P w K mg base CX0 1 _ _ _ _ := ok_whole T
  refine okC T.F_arewholes T.hcA sc_arewholes (fun vs H Q E h => ?_) (fun A outer s H vs Q E hr h => ?_)
  · obtain ⟨v, b, rfl, _⟩ := h
    rfl
  · obtain ⟨v, b, rfl, tb, hx, q⟩ := h
    refine ⟨_, (pss_one (ps_ret (pe_and (pe_callB call_isi (by rfl) T.m_isinstance (by decide +kernel) (pa_cons (pv 0) (pa_cons (pe_bltn (v := .ty "tuple") (by rfl) T.m_tuple (by decide +kernel) rfl) pa_nil))) (pe_one (pe_allG (own := [("part", 1)]) hr rfl sc_arewholes.nd (by rfl) T.m_all (by decide +kernel) TB rfl (blkOk_by (own := [("part", 1)]) (N := ["thing", "part"]) (sc := defScope s_arewholes) (by decide +kernel)) (by rfl) (by decide +kernel) (by rfl) (pi_tup (pv 0)) (fun _ _ _ _ _ _ _ => (pg_name (i := 1) sc_arewholes.nd rfl (.inl rfl) (hf := Or.inr rfl))) (fun _ _ _ _ _ _ _ hr' => (pe_call G_iswhole hr' (by rfl) T.g_iswhole T.F_iswhole.kp T.b_iswhole .nil pass0 (pa_cons (pv 1) pa_nil)))))))), ?_⟩
    rcases hx with ⟨a, ys, rfl, ha, al, rfl⟩ | ⟨nt, rfl⟩
    · refine ⟨_, rfl, _, _, _, _, true, rfl, ClsV.ty _, .base (.tup ha), kit_ty (by decide +kernel), _, rfl, iteT ?_⟩
      refine ⟨_, rfl, a, rfl, ⟨_, SqT.of ha⟩, tb.g T.mA, fun H2 tab => ?_⟩
      have k2 := Kp.of_tabd (tb.g T.mA) tab
      have tb2 := tb.tab T.nd T.mA (But.of_tab tab) tab.1
      refine gturns_it (walk_tup (xs := ys)) (fun i H3 => Kp H H3 ∧ Tb T.tbs H3 ∧ (ys.take i).all wholeB = true) ⟨k2, tb2, rfl⟩ (fun i H3 _ z => SqT.of (z.1.tup ha)) ?_ (fun H3 z => ?_)
      · rintro i x H3 H4 N hi ⟨k3, tb3, al3⟩ ⟨rfl, hx⟩ nx
        have mx := List.mem_of_getElem? hx
        refine ⟨rfl, _, rfl, x, rfl, (al x mx).kp k3, wholeB x, rfl, ?_⟩
        cases e : wholeB x with
        | true =>
          refine iteT (nx _ ⟨k3, tb3, ?_⟩)
          rw [List.take_succ, hx, List.all_append, al3]
          show (true && (wholeB x && true)) = true
          rw [e]
          rfl
        | false =>
          refine iteF ?_
          have z := q _ k3 tb3
          have z1 : ys.all wholeB = false := by
            rw [List.all_eq_false]
            exact ⟨x, mx, by rw [e]; exact Bool.false_ne_true⟩
          rw [z1] at z
          exact z
      · obtain ⟨k3, tb3, al3⟩ := z
        rw [List.take_of_length_le (Nat.le_refl _)] at al3
        have z := q H3 k3 tb3
        rw [al3] at z
        exact z
    · obtain ⟨t, ty, kt⟩ := notup_ok (K := K) nt
      exact ⟨_, rfl, _, _, _, _, false, rfl, ClsV.ty _, ty, kt, _, rfl, iteF (q H (Kp.refl H) tb)⟩
def spRisA (T : Top K mg) : Sp := fun vs H Q _ => ∃ (a : Addr) (ns : List Int), vs = [.ref a] ∧ H a = some (.tup (ns.map V.int)) ∧ Tb T.tbs H ∧ ∀ H', Kp H H' → Tb T.tbs H' → Q (.bl (decide (ns.Pairwise (· < ·)))) H'
theorem ok_risA (T : Top K mg) (TB : GxR.TabB base mg T.cR T.PR) : FnOk P w K mg base CX0 2 T.a_isrising T.d_isrising ["row"] (spRisA T) := by
  refine okC T.F_isrising T.hcR sc_isrising (fun vs H Q E h => ?_) (fun A outer s H vs Q E hr h => ?_)
  · obtain ⟨a, ns, rfl, _⟩ := h
    rfl
  · obtain ⟨a, ns, rfl, ha, tb, q⟩ := h
    refine ⟨_, (pss_one (ps_ret (pe_allG (own := [("low", 1), ("high", 2)]) hr rfl sc_isrising.nd (by rfl) T.m_all (by decide +kernel) TB rfl (blkOk_by (own := [("low", 1), ("high", 2)]) (N := ["row", "low", "high"]) (sc := defScope s_isrising) (by decide +kernel)) (by rfl) (by decide +kernel) (by rfl) (RZ.pi_zipA (by rfl) T.m_zip (pa_cons (pv 0) (pa_cons (pe_slice sl_tupA (pv 0) (po_some pe_int) po_none) pa_nil))) (fun _ _ _ _ _ _ _ => (pg_tupK (K := K) (n := 2) rfl rfl (pgs_cons (pg_name (i := 1) sc_isrising.nd rfl (.inl rfl) (hf := Or.inr rfl)) (pgs_cons (pg_name (i := 2) sc_isrising.nd rfl (.inl rfl) (hf := Or.inr rfl)) pgs_nil)) rfl)) (fun _ _ _ _ _ _ _ hr' => (pe_cmpR op_lt (pv 1) (pv 2) (nomark _)))))), ?_⟩
    cases ns with
    | nil =>
      refine ⟨_, rfl, _, rfl, 1, rfl, a, _, rfl, SqT.of ha, fun _ => ?_, fun nw => absurd nil_whole nw⟩
      refine ⟨a, a, _, _, rfl, .inr ⟨SqT.of ha, SqT.of ha, tb.g T.mR, fun H2 tab => ?_⟩⟩
      have k2 := Kp.of_tabd (tb.g T.mR) tab
      have tb2 := tb.tab T.nd T.mR (But.of_tab tab) tab.1
      refine gturns_it (walk_zipT (xs := []) (ys := []) (n := 0) rfl) (fun i H3 => Kp H H3 ∧ Tb T.tbs H3) ⟨k2, tb2⟩ (fun i H3 _ z => ⟨SqT.of (z.1.tup ha), SqT.of (z.1.tup ha)⟩) (fun i x H3 H4 N hi => absurd hi (Nat.not_lt_zero _)) (fun H3 z => ?_)
      have y := q H3 z.1 z.2
      rw [decide_eq_true List.Pairwise.nil] at y
      exact y
    | cons n0 nr =>
    refine ⟨_, rfl, _, rfl, 1, rfl, a, _, rfl, SqT.of ha, fun wh => absurd wh not_whole, fun _ p np => ?_⟩
    have ec : cutV ((n0 :: nr).map V.int) (some 1) none = nr.map V.int := cut_tail _ _
    rw [ec]
    have sp := same_new (o := .tup (nr.map V.int)) np
    have hp : upd H p (.tup (nr.map V.int)) p = some (.tup (nr.map V.int)) := upd_same
    have ha1 := sp _ _ ha
    have tb1 := tb.same sp
    have k1 := Kp.of_same sp
    generalize upd H p (.tup (nr.map V.int)) = H1 at sp hp ha1 tb1 k1 ⊢
    refine ⟨a, p, _, _, rfl, .inr ⟨SqT.of ha1, SqT.of hp, tb1.g T.mR, fun H2 tab => ?_⟩⟩
    have k2 := Kp.of_tabd (tb1.g T.mR) tab
    have tb2 := tb1.tab T.nd T.mR (But.of_tab tab) tab.1
    have q : ∀ H', Kp H H' → Tb T.tbs H' → Q (.bl (chainB (fun x y => decide (x < y)) (n0 :: nr))) H' := fun H' k' t' => by
      rw [chain_ris]
      exact q H' k' t'
    refine gturns_it (walk_zipT (xs := (n0 :: nr).map V.int) (ys := nr.map V.int) (n := nr.length) (by rw [List.length_map, List.length_map, List.length_cons]; omega)) (fun i H3 => Kp H1 H3 ∧ Tb T.tbs H3 ∧ chainB (fun x y => decide (x < y)) (n0 :: nr) = chainB (fun x y => decide (x < y)) ((n0 :: nr).drop i)) ⟨k2, tb2, rfl⟩ (fun i H3 _ z => ⟨SqT.of (z.1.tup ha1), SqT.of (z.1.tup hp)⟩) ?_ (fun H3 z => ?_)
    · rintro i x H3 H4 N hi ⟨k3, tb3, e3⟩ ⟨t, x, y, rfl, nt, rfl, hx, hy⟩ nx
      dsimp only at hx hy
      rw [List.getElem?_map] at hx hy
      obtain ⟨u, hu, rfl⟩ := Option.map_eq_some_iff.mp hx
      obtain ⟨v, hv, rfl⟩ := Option.map_eq_some_iff.mp hy
      have st := same_new (o := .tup [V.int u, V.int v]) nt
      have hv' : (n0 :: nr)[i + 1]? = some v := hv
      have ed := e3.trans (chain_at hu hv')
      refine ⟨t, _, rfl, SqT.of upd_same, rfl, _, _, rfl, _, _, rfl, rfl, rfl, _, rfl, _, rfl, _, _, rfl, rfl, decide (u < v), rfl, ?_⟩
      cases e : decide (u < v) with
      | true =>
        rw [e, Bool.true_and] at ed
        exact iteT (nx _ ⟨k3.same st, tb3.same st, ed⟩)
      | false =>
        rw [e, Bool.false_and] at ed
        refine iteF ?_
        have z := q _ (k1.trans (k3.same st)) (tb3.same st)
        rw [ed] at z
        exact z
    · obtain ⟨k3, tb3, e3⟩ := z
      have z := q H3 (k1.trans k3) tb3
      rw [e3, chain_end] at z
      exact z
def spTied (K : PySem.W.Frag) : Sp := fun vs H Q _ => ∃ (f : V) (a b : Int) (pts : List (Int × Str)) (ts : Ties), vs = [f, .int a, .int b] ∧ Td K H f (fdata pts ts) ∧ ∀ H', Same H H' → Q (.bl (decide (pairOf a b ∈ ts))) H'
theorem ok_aretied (T : Top K mg) : FnOk P w K mg base CX0 2 T.a_aretied T.d_aretied ["forest", "a", "b"] (spTied K) := by
  have G_tieof : FnOk P w K mg base CX0 1 _ _ _ _ := ok_tieof T
  refine T.F_aretied.ok sc_aretied (fun vs H Q E h => ?_) (fun cdv A outer s H vs Q E hr h => ?_)
  · obtain ⟨f, a, b, pts, ts, rfl, _⟩ := h
    rfl
  · obtain ⟨f, a, b, pts, ts, rfl, hf, q⟩ := h
    obtain ⟨fa, pa, ta, xs, ys, rfl, f1, f2, f3, f4, f5⟩ := Td.parts hf
    refine ⟨_, (pss_one (ps_ret (pe_cmpR (op_inT (u65 hr)) (pe_call G_tieof hr (by rfl) T.g_tieof T.F_tieof.kp T.b_tieof .nil pass0 (pa_cons (pv 1) (pa_cons (pv 2) pa_nil))) (pe_ix ix_tup (pv 0) pe_int (fun _ _ => rfl)) (by rfl)))), ?_⟩
    refine ⟨_, rfl, _, rfl, a, b, rfl, fun t nt => ?_⟩
    have st := same_new (o := .tup [.int (pairOf a b).1, .int (pairOf a b).2]) nt
    refine ⟨_, rfl, fa, _, _, _, rfl, rfl, sqs f1 st, atI_nat (j := 1) rfl, tdata (pairOf a b), ts.map tdata, (Td.two upd_same).dp, (Td.ties (sqs f4 st) (f5.mono (Tups.of_same st))), shaped_td _, shaped_tds _, ?_⟩
    have q1 := q _ st
    rw [← any_td] at q1
    exact q1
def spIsWayA (T : Top K mg) : Sp := fun vs H Q _ => ∃ (f : V) (a b : Int) (t : Addr) (ns : List Int) (pts : List (Int × Str)) (ts : Ties), vs = [f, .int a, .int b, .ref t] ∧ Td K H f (fdata pts ts) ∧ H t = some (.tup (ns.map V.int)) ∧ ns.length ≤ 1000 ∧ Tb T.tbs H ∧ ∀ H', Kp H H' → Tb T.tbs H' → Q (.bl (wayB ts a b ns)) H'
theorem ok_iswayA (T : Top K mg) (TB : GxR.TabB base mg T.cY T.PY) : FnOk P w K mg base CX0 4 T.a_isway T.d_isway ["forest", "a", "b", "numbers"] (spIsWayA T) := by
  have G_aretied : FnOk P w K mg base CX0 2 _ _ _ _ := ok_aretied T
  refine okC T.F_isway T.hcY sc_isway (fun vs H Q E h => ?_) (fun A outer s H vs Q E hr h => ?_)
  · obtain ⟨f, a, b, t, ns, pts, ts, rfl, _⟩ := h
    rfl
  · obtain ⟨f, a, b, t, ns, pts, ts, rfl, hf, ht, len, tb, q⟩ := h
    refine ⟨_, (pss_cons (ps_if (PW.pt (pw_or (pt_cmpR op_eq (pe_callB call_len_seq (by rfl) T.m_len PySem.boot_len (pa_cons (pv 3) pa_nil)) pe_int (nomark _)) (pw_or (pt_cmpR op_ne (pe_ix ix_tup (pv 3) pe_int (fun _ _ => rfl)) (pv 1) (nomark _)) (pw_or1 (pt_cmpR op_ne (pe_ix ix_tup (pv 3) (pe_un un_neg pe_int) (fun _ _ => rfl)) (pv 2) (nomark _)))))) (pss_one (ps_ret pe_bl)) pss_nil)
      (pss_cons (ps_if (pt_cmpR op_ne (pe_lenSetT rfl (by rfl) T.m_len (by rfl) T.m_set (pv 3)) (pe_callB call_len_seq (by rfl) T.m_len PySem.boot_len (pa_cons (pv 3) pa_nil)) (nomark _)) (pss_one (ps_ret pe_bl)) pss_nil)
      (pss_one (ps_ret (pe_allG (own := [("here", 4), ("there", 5)]) hr rfl sc_isway.nd (by rfl) T.m_all (by decide +kernel) TB rfl (blkOk_by (own := [("here", 4), ("there", 5)]) (N := ["forest", "a", "b", "numbers", "here", "there"]) (sc := defScope s_isway) (by decide +kernel)) (by rfl) (by decide +kernel) (by rfl) (RZ.pi_zipA (by rfl) T.m_zip (pa_cons (pv 3) (pa_cons (pe_slice sl_tup (pv 3) (po_some pe_int) po_none) pa_nil))) (fun _ _ _ _ _ _ _ => (pg_tupK (K := K) (n := 2) rfl rfl (pgs_cons (pg_name (i := 4) sc_isway.nd rfl (.inl rfl) (hf := Or.inr rfl)) (pgs_cons (pg_name (i := 5) sc_isway.nd rfl (.inl rfl) (hf := Or.inr rfl)) pgs_nil)) rfl)) (fun _ _ _ _ _ _ _ hr' => (pe_call G_aretied hr' (by rfl) T.g_aretied T.F_aretied.kp T.b_aretied .nil pass0 (pa_cons (pv 0) (pa_cons (pv 4) (pa_cons (pv 5) pa_nil)))))))))), ?_⟩
    have no : ∀ {H'}, Kp H H' → Tb T.tbs H' → ¬ (ns.head? = some a ∧ ns.getLast? = some b ∧ ns.Nodup) → Q (.bl false) H' := fun {H'} k t' z => by
      have y := q H' k t'
      rw [wayB_no z] at y
      exact y
    cases ns with
    | nil =>
      refine ⟨_, rfl, t, _, rfl, .inr (SqT.of ht), rfl, _, rfl, iteT (iteT ?_)⟩
      exact no (Kp.refl H) tb fun z => nomatch z.1
    | cons n0 nr =>
    have hfirst : atI ((n0 :: nr).map V.int) 0 = some (.int n0) := atI_nat (j := 0) rfl
    obtain ⟨qq, nl, el⟩ : ∃ q l, n0 :: nr = q ++ [l] := ⟨(n0 :: nr).dropLast, (n0 :: nr).getLast (by intro z; cases z), (List.dropLast_concat_getLast (by intro z; cases z)).symm⟩
    have hlast : atI ((n0 :: nr).map V.int) (-1) = some (.int nl) := by
      rw [el, List.map_append]
      exact atI_last _ _
    have glast : (n0 :: nr).getLast? = some nl := by
      rw [el]
      exact List.getLast?_concat
    refine ⟨_, rfl, t, _, rfl, .inr (SqT.of ht), rfl, _, rfl, ?_⟩
    refine ite2 (fun z => ?_) (fun _ => ?_)
    · exfalso
      have z := V.int.inj (of_decide_eq_true z)
      rw [List.length_map, List.length_cons] at z
      omega
    refine ⟨_, rfl, t, _, _, _, rfl, rfl, SqT.of ht, hfirst, _, rfl, rfl, _, rfl, ite2 (fun z => iteT ?_) (fun z => ?_)⟩
    · exact no (Kp.refl H) tb fun y => ne_int z (Option.some.inj y.1)
    have ea := eq_int z
    clear z
    refine ⟨_, rfl, _, rfl, t, _, _, _, rfl, rfl, SqT.of ht, hlast, _, rfl, rfl, _, rfl, ite2 (fun z => ?_) (fun z => ?_)⟩
    · exact no (Kp.refl H) tb fun y => ne_int z (Option.some.inj (glast.symm.trans y.2.1))
    have eb := eq_int z
    clear z
    refine ⟨_, rfl, t, n0 :: nr, rfl, SqT.of ht, len, fun out nod mem => ⟨_, rfl, t, _, rfl, .inr (SqT.of ht), rfl, _, rfl, ite2 (fun z => ?_) (fun z => ?_)⟩⟩
    · refine no (Kp.refl H) tb fun y => ne_int z ?_
      rw [List.length_map, (nd_len nod mem).mpr y.2.2]
    have nd : (n0 :: nr).Nodup := (nd_len nod mem).mp (by
      have := eq_int z
      rw [List.length_map] at this
      omega)
    clear z
    subst ea eb
    have q : ∀ H', Kp H H' → Tb T.tbs H' → Q (.bl (linkB ts (n0 :: nr))) H' := fun H' k' t' => by
      have y := q H' k' t'
      rw [wayB_yes ⟨rfl, glast, nd⟩] at y
      exact y
    refine ⟨_, rfl, _, rfl, 1, rfl, t, _, rfl, SqT.of ht, not_whole, fun p np => ?_⟩
    have ec : cutV ((n0 :: nr).map V.int) (some 1) none = nr.map V.int := cut_tail _ _
    rw [ec]
    have sp := same_new (o := .tup (nr.map V.int)) np
    have hp : upd H p (.tup (nr.map V.int)) p = some (.tup (nr.map V.int)) := upd_same
    have ht1 := sp _ _ ht
    have tb1 := tb.same sp
    have k1 := Kp.of_same sp
    generalize upd H p (.tup (nr.map V.int)) = H1 at sp hp ht1 tb1 k1 ⊢
    refine ⟨t, p, _, _, rfl, .inr ⟨SqT.of ht1, SqT.of hp, tb1.g T.mY, fun H2 tab => ?_⟩⟩
    have k2 := Kp.of_tabd (tb1.g T.mY) tab
    have tb2 := tb1.tab T.nd T.mY (But.of_tab tab) tab.1
    refine gturns_it (walk_zipT (xs := (n0 :: nr).map V.int) (ys := nr.map V.int) (n := nr.length) (by rw [List.length_map, List.length_map, List.length_cons]; omega)) (fun i H3 => Kp H1 H3 ∧ Tb T.tbs H3 ∧ linkB ts (n0 :: nr) = linkB ts ((n0 :: nr).drop i)) ⟨k2, tb2, rfl⟩ (fun i H3 _ z => ⟨SqT.of (z.1.tup ht1), SqT.of (z.1.tup hp)⟩) ?_ ?_
    · rintro i x H3 H4 N hi ⟨k3, tb3, e3⟩ ⟨tt, x, y, rfl, nt, rfl, hx, hy⟩ nx
      dsimp only at hx hy
      rw [List.getElem?_map] at hx hy
      obtain ⟨u, hu, rfl⟩ := Option.map_eq_some_iff.mp hx
      obtain ⟨v, hv, rfl⟩ := Option.map_eq_some_iff.mp hy
      have st := same_new (o := .tup [V.int u, V.int v]) nt
      have hv' : (n0 :: nr)[i + 1]? = some v := hv
      have ed : linkB ts (n0 :: nr) = (decide (pairOf u v ∈ ts) && linkB ts ((n0 :: nr).drop (i + 1))) := e3.trans (chain_at hu hv')
      have k4 := k3.same st
      refine ⟨tt, _, rfl, SqT.of upd_same, rfl, _, _, rfl, _, _, rfl, rfl, rfl, _, rfl, _, rfl, _, rfl, f, u, v, pts, ts, rfl, hf.mono (Tups.of_kp (k1.trans k4)), fun H5 s5 => ⟨_, rfl, ?_⟩⟩
      by_cases m : pairOf u v ∈ ts
      · rw [decide_eq_true m, Bool.true_and] at ed
        rw [decide_eq_true m]
        exact iteT (nx _ ⟨k4.same s5, (tb3.same st).same s5, ed⟩)
      · rw [decide_eq_false m, Bool.false_and] at ed
        rw [decide_eq_false m]
        refine iteF ?_
        have z := q H5 ((k1.trans k4).same s5) ((tb3.same st).same s5)
        rw [ed] at z
        exact z
    · rintro H3 ⟨k3, tb3, e3⟩
      have z := q H3 (k1.trans k3) tb3
      rw [e3, show linkB ts ((n0 :: nr).drop nr.length) = true from chain_end] at z
      exact z
def spApartA (T : Top K mg) : Sp := fun vs H Q _ => ∃ (f : V) (a b : Int) (t : Addr) (ns : List Int) (pts : List (Int × Str)) (ts : Ties), vs = [f, .int a, .int b, .ref t] ∧ Td K H f (fdata pts ts) ∧ H t = some (.tup (ns.map V.int)) ∧ Tb T.tbs H ∧ ∀ H', Kp H H' → Tb T.tbs H' → Q (.bl (apartB pts.length ts a b ns)) H'
theorem ok_setsapartA (T : Top K mg) (TBR : GxR.TabB base mg T.cR T.PR) (TB : GxR.TabB base mg T.cS T.PS) : FnOk P w K mg base CX0 3 T.a_setsapart T.d_setsapart ["forest", "a", "b", "numbers"] (spApartA T) := by
  have G_isrising : FnOk P w K mg base CX0 2 _ _ _ _ := ok_risA T TBR
  refine okC T.F_setsapart T.hcS sc_setsapart (fun vs H Q E h => ?_) (fun A outer s H vs Q E hr h => ?_)
  · obtain ⟨f, a, b, t, ns, pts, ts, rfl, _⟩ := h
    rfl
  · obtain ⟨f, a, b, t, ns, pts, ts, rfl, hf, ht, tb, q⟩ := h
    obtain ⟨fa, pa, ta, xs, ys, rfl, f1, f2, f3, f4, f5⟩ := Td.parts hf
    have lx := f3.length
    rw [List.length_map] at lx
    have no : ∀ {H'}, Kp H H' → Tb T.tbs H' → ¬ (ns.Pairwise (· < ·) ∧ a ∈ ns ∧ b ∉ ns ∧ ∀ x ∈ ns, 0 ≤ x ∧ x < (pts.length : Int)) → Q (.bl false) H' := fun {H'} k t' z => by
      have y := q H' k t'
      rw [apartB_no z] at y
      exact y
    refine ⟨_, (pss_cons (ps_asg (pv 0) (pg_tup rfl (pgs_cons (pg_name (i := 4) sc_setsapart.nd rfl (.inl rfl)) (pgs_cons (pg_name (i := 5) sc_setsapart.nd rfl (.inl rfl)) pgs_nil))))
      (pss_cons (ps_if (PW.pt (pw_or (pt_not (pt_val (pe_call G_isrising hr (by rfl) T.g_isrising T.F_isrising.kp T.b_isrising .nil pass0 (pa_cons (pv 3) pa_nil)))) (pw_or (pt_cmpR op_notIn_seq (pv 1) (pv 3) (by rfl)) (pw_or1 (pt_cmpR op_in_seq (pv 2) (pv 3) (by rfl)))))) (pss_one (ps_ret pe_bl)) pss_nil)
      (pss_cons (ps_if (PW.pt (pw_or (pt_cmpR op_lt (pe_ix ix_tup (pv 3) pe_int (fun _ _ => rfl)) pe_int (nomark _)) (pw_or1 (pt_cmpR op_ge (pe_ix ix_tup (pv 3) (pe_un un_neg pe_int) (fun _ _ => rfl)) (pe_callB call_len_seq (by rfl) T.m_len PySem.boot_len (pa_cons (pv 4) pa_nil)) (nomark _))))) (pss_one (ps_ret pe_bl)) pss_nil)
      (pss_one (ps_ret (pe_allG (own := [("low", 6), ("high", 7)]) hr rfl sc_setsapart.nd (by rfl) T.m_all (by decide +kernel) TB rfl (blkOk_by (own := [("low", 6), ("high", 7)]) (N := ["forest", "a", "b", "numbers", "points", "ties", "low", "high"]) (sc := defScope s_setsapart) (by decide +kernel)) (by rfl) (by decide +kernel) (by rfl) (pi_tup (pv 5)) (fun _ _ _ _ _ _ _ => (pg_tupK (K := K) (n := 2) rfl rfl (pgs_cons (pg_name (i := 6) sc_setsapart.nd rfl (.inl rfl) (hf := Or.inr rfl)) (pgs_cons (pg_name (i := 7) sc_setsapart.nd rfl (.inl rfl) (hf := Or.inr rfl)) pgs_nil)) rfl)) (fun _ _ _ _ _ _ _ hr' => (pe_cmpR op_eq (pe_cmpR (op_in_seqK (K := K) rfl) (pv 6) (pv 3) (by rfl)) (pe_cmpR (op_in_seqK (K := K) rfl) (pv 7) (pv 3) (by rfl)) (nomark _))))))))), ?_⟩
    refine ⟨_, rfl, fa, _, rfl, f1, rfl, _, _, rfl, _, _, rfl, rfl, ?_⟩
    refine ⟨_, rfl, t, ns, rfl, ht, tb, fun H1 k1 tb1 => ⟨_, rfl, ?_⟩⟩
    by_cases up : ns.Pairwise (· < ·)
    case neg =>
      rw [decide_eq_false up]
      exact iteT (iteT (no k1 tb1 fun y => up y.1))
    rw [decide_eq_true up]
    refine iteF ?_
    have ht1 := k1.tup ht
    refine ⟨_, rfl, _, rfl, t, _, rfl, .inr (SqT.of ht1), rfl, flat_ints _, !decide (a ∈ ns), congrArg (fun z => V.bl (!z)) (inV_ints a ns), ?_⟩
    by_cases ma : a ∈ ns
    case neg =>
      rw [decide_eq_false ma]
      exact iteT (iteT (no k1 tb1 fun y => ma y.2.1))
    rw [decide_eq_true ma]
    refine iteF ?_
    refine ⟨_, rfl, _, rfl, t, _, rfl, .inr (SqT.of ht1), rfl, flat_ints _, decide (b ∈ ns), congrArg V.bl (inV_ints b ns), ?_⟩
    by_cases mb : b ∈ ns
    case pos =>
      rw [decide_eq_true mb]
      exact iteT (no k1 tb1 fun y => y.2.2.1 mb)
    rw [decide_eq_false mb]
    refine iteF ?_
    have ne : ns ≠ [] := fun z => by
      rw [z] at ma
      cases ma
    obtain ⟨n0, nr, en⟩ : ∃ n0 nr, ns = n0 :: nr := by
      cases ns with
      | nil => exact absurd rfl ne
      | cons n0 nr => exact ⟨n0, nr, rfl⟩
    obtain ⟨qq, nl, el⟩ : ∃ q l, ns = q ++ [l] := ⟨ns.dropLast, ns.getLast ne, (List.dropLast_concat_getLast ne).symm⟩
    have hfirst : atI (ns.map V.int) 0 = some (.int n0) := by
      rw [en]
      exact atI_nat (j := 0) rfl
    have hlast : atI (ns.map V.int) (-1) = some (.int nl) := by
      rw [el, List.map_append]
      exact atI_last _ _
    have m0 : n0 ∈ ns := by rw [en]; exact List.mem_cons_self
    have ml : nl ∈ ns := by rw [el]; exact List.mem_append_right _ List.mem_cons_self
    refine ⟨_, rfl, t, _, _, _, rfl, rfl, SqT.of ht1, hfirst, _, _, rfl, rfl, _, rfl, ite2 (fun z => iteT ?_) (fun z => ?_)⟩
    · refine no k1 tb1 fun y => ?_
      have z := of_decide_eq_true z
      have := y.2.2.2 n0 m0
      omega
    have g0 : 0 ≤ n0 := by
      by_cases g : n0 < 0
      · exact absurd (decide_eq_true g) z
      · omega
    clear z
    refine ⟨_, rfl, _, rfl, t, _, _, _, rfl, rfl, SqT.of ht1, hlast, _, rfl, pa, xs, rfl, .inr (Tups.of_kp k1 _ _ f2), _, _, rfl, rfl, _, rfl, ite2 (fun z => ?_) (fun z => ?_)⟩
    · refine no k1 tb1 fun y => ?_
      have z := of_decide_eq_true z
      have := y.2.2.2 nl ml
      omega
    have gl : nl < (pts.length : Int) := by
      by_cases g : nl ≥ (xs.length : Int)
      · exact absurd (decide_eq_true g) z
      · omega
    clear z
    have rng : ∀ x ∈ ns, 0 ≤ x ∧ x < (pts.length : Int) := fun x mx => by
      constructor
      · rw [en] at mx up
        rcases List.mem_cons.mp mx with rfl | mx
        · exact g0
        · have := (List.pairwise_cons.mp up).1 x mx
          omega
      · rw [el] at mx up
        rcases List.mem_append.mp mx with mx | mx
        · have := (List.pairwise_append.mp up).2.2 x mx nl List.mem_cons_self
          omega
        · rw [List.mem_singleton.mp mx]
          exact gl
    have q : ∀ H', Kp H H' → Tb T.tbs H' → Q (.bl (ts.all fun t => decide (t.1 ∈ ns) == decide (t.2 ∈ ns))) H' := fun H' k' t' => by
      have y := q H' k' t'
      rw [apartB_yes ⟨up, ma, mb, rng⟩] at y
      exact y
    have f41 := Tups.of_kp (K := K) k1 _ _ f4
    have f51 := f5.mono (Tups.of_kp (K := K) k1)
    have ly := f5.length
    rw [List.length_map] at ly
    refine ⟨_, rfl, ta, rfl, ⟨ys, f41⟩, tb1.g T.mS, fun H2 tab => ?_⟩
    have k2 := Kp.of_tabd (tb1.g T.mS) tab
    have tb2 := tb1.tab T.nd T.mS (But.of_tab tab) tab.1
    refine gturns_it (walk_tup (xs := ys)) (fun i H3 => Kp H1 H3 ∧ Tb T.tbs H3 ∧ ((ts.take i).all fun t => decide (t.1 ∈ ns) == decide (t.2 ∈ ns)) = true) ⟨k2, tb2, rfl⟩ (fun i H3 _ z => Tups.of_kp z.1 _ _ f41) ?_ (fun H3 z => ?_)
    · rintro i x H3 H4 N hi ⟨k3, tb3, al3⟩ ⟨rfl, hx⟩ nx
      obtain ⟨dd, hdd, tx⟩ := f51.at hx
      rw [List.getElem?_map] at hdd
      obtain ⟨u, hu, rfl⟩ := Option.map_eq_some_iff.mp hdd
      obtain ⟨tp, rfl, htp⟩ := tdata_inv tx
      have mu := List.mem_of_getElem? hu
      have ht3 := k3.tup ht1
      have eb : V.bl (decide (V.bl (inV (.int u.1) (ns.map V.int)) = V.bl (inV (.int u.2) (ns.map V.int)))) = V.bl (decide (u.1 ∈ ns) == decide (u.2 ∈ ns)) := by
        rw [inV_ints, inV_ints]
        cases decide (u.1 ∈ ns) <;> cases decide (u.2 ∈ ns) <;> rfl
      refine ⟨tp, _, rfl, Tups.of_kp k3 _ _ htp, rfl, _, _, rfl, _, _, rfl, rfl, rfl, _, rfl, _, rfl, t, _, rfl, .inr (SqT.of ht3), rfl, flat_ints _, _, rfl, _, rfl, t, _, rfl, .inr (SqT.of ht3), rfl, flat_ints _, rfl, decide (u.1 ∈ ns) == decide (u.2 ∈ ns), eb, ?_⟩
      cases e : (decide (u.1 ∈ ns) == decide (u.2 ∈ ns)) with
      | true =>
        refine iteT (nx _ ⟨k3, tb3, ?_⟩)
        rw [List.take_succ, hu, List.all_append, al3]
        show (true && ((decide (u.1 ∈ ns) == decide (u.2 ∈ ns)) && true)) = true
        rw [e]
        rfl
      | false =>
        refine iteF ?_
        have z := q _ (k1.trans k3) tb3
        have z1 : (ts.all fun t => decide (t.1 ∈ ns) == decide (t.2 ∈ ns)) = false := by
          rw [List.all_eq_false]
          exact ⟨u, mu, by rw [e]; exact Bool.false_ne_true⟩
        rw [z1] at z
        exact z
    · obtain ⟨k3, tb3, al3⟩ := z
      rw [ly, List.take_length] at al3
      have z := q H3 (k1.trans k3) tb3
      rw [al3] at z
      exact z
def spWordedA (T : Top K mg) : Sp := fun vs H Q _ => ∃ (v : V) (N : Addr → Prop) (r : Option (Str × List Int)), vs = [v] ∧ PapV N H v r ∧ Tb T.tbs H ∧ ∀ H', Kp H H' → Tb T.tbs H' → Q (.bl r.isSome) H'
theorem ok_wordedA (T : Top K mg) (TBA : GxR.TabB base mg T.cA T.PA) : FnOk P w K mg base CX0 4 T.a_isworded T.d_isworded ["thing"] (spWordedA T) := by
  have G_arewholes : FnOk P w K mg base CX0 3 _ _ _ _ := ok_wholesA T TBA
  refine T.F_isworded.ok sc_isworded (fun vs H Q E h => ?_) (fun cdv A outer s H vs Q E hr h => ?_)
  · obtain ⟨v, N, r, rfl, _⟩ := h
    rfl
  · obtain ⟨v, N, r, rfl, hpv, tb, q⟩ := h
    refine ⟨_, (pss_one (ps_ret (pe_and (pe_callB call_isi (by rfl) T.m_isinstance (by decide +kernel) (pa_cons (pv 0) (pa_cons (pe_bltn (v := .ty "tuple") (by rfl) T.m_tuple (by decide +kernel) rfl) pa_nil))) (pe_and (pe_cmpR op_eq (pe_callB call_len_seq (by rfl) T.m_len PySem.boot_len (pa_cons (pv 0) pa_nil)) pe_int (nomark _)) (pe_and (pe_callB call_isi (by rfl) T.m_isinstance (by decide +kernel) (pa_cons (pe_ix ix_tup (pv 0) pe_int (fun _ _ => rfl)) (pa_cons (pe_bltn (v := .ty "str") (by rfl) T.m_str (by decide +kernel) rfl) pa_nil))) (pe_one (pe_call G_arewholes hr (by rfl) T.g_arewholes T.F_arewholes.kp T.b_arewholes .nil pass0 (pa_cons (pe_ix ix_tup (pv 0) pe_int (fun _ _ => rfl)) pa_nil)))))))), ?_⟩
    cases hpv with
    | no h =>
      obtain ⟨t, ty, kt⟩ := notup_ok (K := K) h.nt
      exact ⟨_, rfl, _, _, _, _, false, rfl, ClsV.ty _, ty, kt, _, rfl, iteF (q H (Kp.refl H) tb)⟩
    | @sht p xs n hp al ns =>
      refine ⟨_, rfl, _, _, _, _, true, rfl, ClsV.ty _, .base (.tup hp), kit_ty (by decide +kernel), _, rfl, iteT ?_⟩
      refine ⟨_, rfl, p, _, rfl, .inr (SqT.of hp), rfl, _, rfl, ite2 (fun z => ?_) (fun z => ?_)⟩
      · have l2 : xs.length = 2 := by
          have := V.int.inj (of_decide_eq_true z)
          omega
        match xs, l2 with
        | [x, u], _ =>
          obtain ⟨t, ty, kt⟩ := str_ok (K := K) (al x List.mem_cons_self).any
          refine ⟨_, rfl, p, _, _, _, rfl, rfl, SqT.of hp, atI_nat (j := 0) rfl, _, _, _, _, _, rfl, ClsV.ty _, ty, kt, _, rfl, ?_⟩
          cases x with
          | str w => exact absurd rfl (ns w u)
          | _ => exact iteF (q H (Kp.refl H) tb)
      · exact q H (Kp.refl H) tb
    | @one p x u n hp hu =>
      refine ⟨_, rfl, _, _, _, _, true, rfl, ClsV.ty _, .base (.tup hp), kit_ty (by decide +kernel), _, rfl, iteT ?_⟩
      refine ⟨_, rfl, p, _, rfl, .inr (SqT.of hp), rfl, _, rfl, iteT ?_⟩
      refine ⟨_, rfl, p, _, _, _, rfl, rfl, SqT.of hp, atI_nat (j := 0) rfl, _, _, _, _, true, rfl, ClsV.ty _, .base (.str x), kit_ty (by decide +kernel), _, rfl, iteT ?_⟩
      exact ⟨_, rfl, p, _, _, _, rfl, rfl, SqT.of hp, atI_nat (j := 1) rfl, u, false, rfl, tb, .inr ⟨hu.nt, rfl⟩, fun H1 k1 tb1 => q H1 k1 tb1⟩
    | @two p t x ys n n2 hp ht al l =>
      refine ⟨_, rfl, _, _, _, _, true, rfl, ClsV.ty _, .base (.tup hp), kit_ty (by decide +kernel), _, rfl, iteT ?_⟩
      refine ⟨_, rfl, p, _, rfl, .inr (SqT.of hp), rfl, _, rfl, iteT ?_⟩
      refine ⟨_, rfl, p, _, _, _, rfl, rfl, SqT.of hp, atI_nat (j := 0) rfl, _, _, _, _, true, rfl, ClsV.ty _, .base (.str x), kit_ty (by decide +kernel), _, rfl, iteT ?_⟩
      refine ⟨_, rfl, p, _, _, _, rfl, rfl, SqT.of hp, atI_nat (j := 1) rfl, .ref t, _, rfl, tb, .inl ⟨t, ys, rfl, ht, fun y m => (al y m).any, rfl⟩, fun H1 k1 tb1 => ?_⟩
      have y := q H1 k1 tb1
      rw [Option.isSome_map, intsOf_all] at y
      exact y
def spShowsA (T : Top K mg) : Sp := fun vs H Q _ => ∃ (f : V) (a b : Int) (v : V) (N : Addr → Prop) (r : Option (Str × List Int)) (pts : List (Int × Str)) (ts : Ties), vs = [f, .int a, .int b, v] ∧ Td K H f (fdata pts ts) ∧ PapV N H v r ∧ Tb T.tbs H ∧ ∀ H', Kp H H' → Tb T.tbs H' → Q (.bl (papB pts.length ts a b r)) H'
theorem ok_showsA (T : Top K mg) (B : TBs T base) : FnOk P w K mg base CX0 5 T.a_showstied T.d_showstied ["forest", "a", "b", "thing"] (spShowsA T) := by
  have G_isworded : FnOk P w K mg base CX0 4 _ _ _ _ := ok_wordedA T B.A
  have G_isway : FnOk P w K mg base CX0 4 _ _ _ _ := ok_iswayA T B.Y
  have G_setsapart : FnOk P w K mg base CX0 3 _ _ _ _ := ok_setsapartA T B.R B.S
  refine T.F_showstied.ok sc_showstied (fun vs H Q E h => ?_) (fun cdv A outer s H vs Q E hr h => ?_)
  · obtain ⟨f, a, b, v, N, r, pts, ts, rfl, _⟩ := h
    rfl
  · obtain ⟨f, a, b, v, N, r, pts, ts, rfl, hf, hpv, tb, q⟩ := h
    refine ⟨_, (pss_cons (ps_if (pt_not (pt_val (pe_call G_isworded hr (by rfl) T.g_isworded T.F_isworded.kp T.b_isworded .nil pass0 (pa_cons (pv 3) pa_nil)))) (pss_one (ps_ret pe_bl)) pss_nil)
      (pss_cons (ps_asg (pv 3) (pg_tup rfl (pgs_cons (pg_name (i := 4) sc_showstied.nd rfl (.inl rfl)) (pgs_cons (pg_name (i := 5) sc_showstied.nd rfl (.inl rfl)) pgs_nil))))
      (pss_cons (ps_if (pt_cmpR op_eq (pv 4) pe_str (nomark _)) (pss_one (ps_ret (pe_call G_isway hr (by rfl) T.g_isway T.F_isway.kp T.b_isway .nil pass0 (pa_cons (pv 0) (pa_cons (pv 1) (pa_cons (pv 2) (pa_cons (pv 5) pa_nil))))))) pss_nil)
      (pss_one (ps_ret (pe_and (pe_cmpR op_eq (pv 4) pe_str (nomark _)) (pe_one (pe_call G_setsapart (hr.mono (by decide)) (by rfl) T.g_setsapart T.F_setsapart.kp T.b_setsapart .nil pass0 (pa_cons (pv 0) (pa_cons (pv 1) (pa_cons (pv 2) (pa_cons (pv 5) pa_nil)))))))))))), ?_⟩
    refine ⟨_, rfl, v, N, r, rfl, hpv, tb, fun H1 k1 tb1 => ⟨_, rfl, ?_⟩⟩
    cases r with
    | none => exact iteT (q H1 k1 tb1)
    | some wn =>
      obtain ⟨x, ns⟩ := wn
      refine iteF ?_
      obtain ⟨p, t, hp, ht, ln⟩ : ∃ (p t : Addr), v = .ref p ∧ (H p = some (.tup [.str x, .ref t]) ∧ H t = some (.tup (ns.map V.int))) ∧ ns.length ≤ 1000 := by
        generalize er : some (x, ns) = r at hpv
        cases hpv with
        | no _ => cases er
        | sht _ _ _ _ => cases er
        | one _ _ _ => cases er
        | @two p t x' ys n n2 hp ht al l =>
          obtain ⟨ms, e1, e2⟩ := Option.map_eq_some_iff.mp er.symm
          cases e2
          have ey := intsOf_some e1
          subst ey
          rw [List.length_map] at l
          exact ⟨p, t, rfl, ⟨hp, ht⟩, l⟩
      subst hp
      obtain ⟨hp, ht⟩ := ht
      refine ⟨_, rfl, p, _, rfl, SqT.of (k1.tup hp), rfl, _, _, rfl, _, _, rfl, rfl, ?_⟩
      refine ⟨_, rfl, rfl, _, rfl, ite2 (fun z => ?_) (fun z => ?_)⟩
      · have ex : x = "way" := V.str.inj (of_decide_eq_true z)
        subst ex
        exact ⟨_, rfl, _, rfl, _, rfl, _, rfl, f, a, b, t, ns, pts, ts, rfl, hf.mono (Tups.of_kp k1), k1.tup ht, ln, tb1, fun H2 k2 tb2 => q H2 (k1.trans k2) tb2⟩
      · have nx : x ≠ "way" := fun e => z (by rw [e]; exact decide_eq_true rfl)
        have q : ∀ H', Kp H H' → Tb T.tbs H' → Q (.bl (if x = "apart" then apartB pts.length ts a b ns else false)) H' := fun H' k' t' => by
          have y := q H' k' t'
          rw [show papB pts.length ts a b (some (x, ns)) = (if x = "apart" then apartB pts.length ts a b ns else false) from if_neg nx] at y
          exact y
        refine ⟨_, rfl, rfl, _, rfl, ite2 (fun z2 => ?_) (fun z2 => ?_)⟩
        · have ex : x = "apart" := V.str.inj (of_decide_eq_true z2)
          subst ex
          exact ⟨_, rfl, _, rfl, _, rfl, _, rfl, f, a, b, t, ns, pts, ts, rfl, hf.mono (Tups.of_kp k1), k1.tup ht, tb1, fun H2 k2 tb2 => q H2 (k1.trans k2) tb2⟩
        · have nx2 : x ≠ "apart" := fun e => z2 (by rw [e]; exact decide_eq_true rfl)
          have y := q H1 k1 tb1
          rw [if_neg nx2] at y
          exact y
end

end My
namespace My
open PySem L2
/-! ### the program's paper -/
section
variable {P : Program} {w : World} {K : PySem.W.Frag} {mg : Str → Option Value} {base : Heap}
def spPaper (K : PySem.W.Frag) : Sp := fun vs H Q _ => ∃ (f : V) (a b : Int) (pts : List (Int × Str)) (ts : Ties), vs = [f, .int a, .int b] ∧ Td K H f (fdata pts ts) ∧ FrOk pts ts ∧ 0 ≤ a ∧ a < (pts.length : Int) ∧ 0 ≤ b ∧ b < (pts.length : Int) ∧
  (∀ (p t : Addr) (l : List Int) (H' : Hp), Same H H' → ¬ Rch ts a b → IsPart ts a l → H' t = some (.tup (l.map V.int)) → H' p = some (.tup [.str "apart", .ref t]) → Q (.ref p) H') ∧
  (∀ (p t : Addr) (l : List Int) (H' : Hp), Same H H' → Way ts a b l → H' t = some (.tup (l.map V.int)) → H' p = some (.tup [.str "way", .ref t]) → Q (.ref p) H')
theorem ok_paper (T : Top K mg) : FnOk P w K mg base CX0 4 T.a_tiedpaper T.d_tiedpaper ["forest", "a", "b"] (spPaper K) := by
  have G_wayof : FnOk P w K mg base CX0 3 _ _ _ _ := ok_wayof T
  have G_partof : FnOk P w K mg base CX0 3 _ _ _ _ := ok_partof T
  refine T.F_tiedpaper.ok sc_tiedpaper (fun vs H Q E h => ?_) (fun cdv A outer s H vs Q E hr h => ?_)
  · obtain ⟨f, a, b, pts, ts, rfl, _⟩ := h
    rfl
  · obtain ⟨f, a, b, pts, ts, rfl, hf, fok, a0, a1, b0, b1, qa, qw⟩ := h
    refine ⟨_, (pss_cons (ps_set (i := 3) sc_tiedpaper.nd rfl (.inl rfl) (pe_call G_wayof hr (by rfl) T.g_wayof T.F_wayof.kp T.b_wayof .nil pass0 (pa_cons (pv 0) (pa_cons (pv 1) (pa_cons (pv 2) pa_nil)))))
      (pss_cons (ps_if (pt_cmpR op_isN (pv 3) pe_non (nomark _)) (pss_one (ps_ret (pe_tup (pa_cons pe_str (pa_cons (pe_call G_partof hr (by rfl) T.g_partof T.F_partof.kp T.b_partof .nil pass0 (pa_cons (pv 0) (pa_cons (pv 1) pa_nil))) pa_nil))))) pss_nil)
      (pss_one (ps_ret (pe_tup (pa_cons pe_str (pa_cons (pv 3) pa_nil))))))), ?_⟩
    refine ⟨_, rfl, _, rfl, _, rfl, f, a, b, pts, ts, rfl, hf, fok, a0, a1, b0, b1, fun H1 s1 nr => ?_, fun t1 l1 H1 s1 n1 w1 len1 h1 => ?_⟩
    · refine ⟨_, rfl, rfl, _, rfl, iteT ?_⟩
      refine ⟨_, rfl, _, rfl, f, a, pts, ts, rfl, hf.mono (Tups.of_same s1), fok, a0, a1, fun t l H2 s2 hl h2 => ⟨(by show 2 ≤ sizeLine; decide), fun p np => ?_⟩⟩
      have sp := same_new (o := .tup [V.str "apart", V.ref t]) np
      exact qa p t l _ ((s1.trans s2).trans sp) nr hl (sp _ _ h2) upd_same
    · refine ⟨_, rfl, rfl, _, rfl, iteF ?_⟩
      refine ⟨_, rfl, (by show 2 ≤ sizeLine; decide), fun p np => ?_⟩
      have sp := same_new (o := .tup [V.str "way", V.ref t1]) np
      exact qw p t1 l1 _ (s1.trans sp) w1 (sp _ _ h1) upd_same
end

/-! ### tuples of ints as data -/
theorem td_ints {K : PySem.W.Frag} {H : Hp} : ∀ l : List Int, TdAll K H (l.map V.int) (l.map PyData.int)
  | [] => .nil
  | x :: l => .cons (.int x) (td_ints l)
theorem dp_ints {K : PySem.W.Frag} {H : Hp} {a : Addr} {l : List Int} (h : SqT K H a (l.map V.int)) : Dp K H (.ref a) (.tuple (l.map .int)) := (Td.tup h (td_ints l)).dp
theorem lay_ints : ∀ l : List Int, PyData.canLayAll0 (l.map .int) = true ∧ PyData.depthAll (l.map .int) ≤ 1
  | [] => ⟨rfl, Nat.zero_le _⟩
  | x :: r => by
    have ih := lay_ints r
    refine ⟨?_, ?_⟩
    · show (PyData.canLay0 (.int x) && PyData.canLayAll0 (r.map .int)) = true
      rw [ih.1, Bool.and_true]
      rfl
    · show max (PyData.depth (.int x)) (PyData.depthAll (r.map .int)) ≤ 1
      exact Nat.max_le.mpr ⟨Nat.zero_le _, ih.2⟩
theorem shaped_ints (l : List Int) : SeqAt.shaped (.tuple (l.map .int)) = true := by
  obtain ⟨h1, h2⟩ := lay_ints l
  show (PyData.canLayAll0 (l.map .int) && decide (PyData.depthAll (l.map .int) + 1 ≤ 64)) = true
  rw [h1, decide_eq_true (show PyData.depthAll (l.map PyData.int) + 1 ≤ 64 by omega)]
  rfl
theorem same_ints (l : List Int) : PyData.eqv (.tuple (l.map .int)) (.tuple (l.map .int)) = true := SeqAt.eqv_refl (.tuple (l.map .int)) (show PyData.canLayAll0 (l.map .int) = true from (lay_ints l).1)
theorem same_lints (l : List Int) : PyData.eqv (.list (l.map .int)) (.list (l.map .int)) = true := SeqAt.eqv_refl (.list (l.map .int)) (show PyData.canLayAll0 (l.map .int) = true from (lay_ints l).1)

end My
namespace My
open PySem L2
/-! ### lists of tuples of whole numbers -/
theorem no_part {σ : L2.St} {H : Hp} {Q : Option Int → Hp → Prop} (h : Q none H) : tNoPart σ H Q := h
theorem catA {K : PySem.W.Frag} {x y : V} {H : Hp} {Q : VK} {a b : Addr} {xs ys : List V} (ex : x = .ref a) (ey : y = .ref b) (h1 : H a = some (.tup xs)) (h2 : H b = some (.tup ys)) (l : xs.length + ys.length ≤ sizeLine) (k : ∀ (p : Addr) (H' : Hp), Same H H' → H' p = some (.tup (xs ++ ys)) → Q (.ref p) H') : rCatA K x y H Q :=
  ⟨a, b, xs, ys, ex, ey, SqT.of h1, SqT.of h2, l, fun e => k b H (fun _ _ e => e) (by rw [e]; exact h2), fun _ e => k a H (fun _ _ e => e) (by rw [e, List.append_nil]; exact h1), fun _ _ p np => k p _ (same_new np) upd_same⟩
/-- tuples stay -/
def TK (H H' : Hp) : Prop := ∀ a xs, H a = some (.tup xs) → H' a = some (.tup xs)
theorem TK.same {H H' : Hp} (s : Same H H') : TK H H' := fun a xs e => s _ _ e
theorem TK.kp {H H' : Hp} (s : Kp H H') : TK H H' := fun a xs e => s _ _ e (by intro ps z; cases z)
theorem TK.put {H : Hp} {D : Addr} {us : List V} {o : HO} (e : H D = some (.lst us)) : TK H (upd H D o) := fun a xs h => by
  rw [upd_ne (ne_of h e (by intro z; cases z))]
  exact h
theorem TK.trans {H H1 H2 : Hp} (x : TK H H1) (y : TK H1 H2) : TK H H2 := fun a xs e => y _ _ (x _ _ e)
inductive Rws (H : Hp) : List V → List (List Int) → Prop
  | nil : Rws H [] []
  | cons {r : Addr} {q : List Int} {vs : List V} {qs : List (List Int)} : H r = some (.tup (q.map V.int)) → Rws H vs qs → Rws H (.ref r :: vs) (q :: qs)
section
variable {H H' : Hp}
theorem Rws.mono (t : TK H H') : ∀ {vs : List V} {qs : List (List Int)}, Rws H vs qs → Rws H' vs qs
  | _, _, .nil => .nil
  | _, _, .cons h k => .cons (t _ _ h) (k.mono t)
theorem Rws.append : ∀ {vs us : List V} {qs rs : List (List Int)}, Rws H vs qs → Rws H us rs → Rws H (vs ++ us) (qs ++ rs)
  | _, _, _, _, .nil, k => k
  | _, _, _, _, .cons h k, z => .cons h (k.append z)
theorem Rws.len : ∀ {vs : List V} {qs : List (List Int)}, Rws H vs qs → vs.length = qs.length
  | _, _, .nil => rfl
  | _, _, .cons _ k => congrArg (· + 1) k.len
theorem Rws.get : ∀ {vs : List V} {qs : List (List Int)}, Rws H vs qs → ∀ {i : Nat} {v : V}, vs[i]? = some v → ∃ r q, v = .ref r ∧ qs[i]? = some q ∧ H r = some (.tup (q.map V.int))
  | _, _, .nil, i, v, e => by simp at e
  | _, _, .cons h k, 0, v, e => by
    cases Option.some.inj e
    exact ⟨_, _, rfl, rfl, h⟩
  | _, _, .cons h k, i + 1, v, e => k.get (i := i) e
theorem Rws.one {r : Addr} {q : List Int} (h : H r = some (.tup (q.map V.int))) : Rws H [.ref r] [q] := .cons h .nil
end
def rowsD (qs : List (List Int)) : List PyData := qs.map fun q => .tuple (q.map .int)

/-! ### all rows of points from one -/
def spLRows (K : PySem.W.Frag) : Sp := fun vs H Q _ => ∃ (f : V) (a : Int) (pts : List (Int × Str)) (ts : Ties), vs = [f, .int a] ∧ Td K H f (fdata pts ts) ∧ FrOk pts ts ∧ (∀ t ∈ ts, t.1 ≤ t.2) ∧ 0 ≤ a ∧ a < (pts.length : Int) ∧
  ∀ (D : Addr) (vs : List V) (qs : List (List Int)) (i : Nat) (H' : Hp), Same H H' → H' D = some (.lst vs) → Rws H' vs qs → Bfs ts a i qs → qs.length ≤ i → qs.length ≤ pts.length → Q (.ref D) H'
theorem Bfs.len {pts : List (Int × Str)} {ts : Ties} (fok : FrOk pts ts) {a : Int} (a0 : 0 ≤ a) (a1 : a < (pts.length : Int)) {i : Nat} {qs : List (List Int)} (B : Bfs ts a i qs) : qs.length ≤ pts.length := by
  have z := nodup_le (n := pts.length) (B.ends fok.tree) fun v hv => by
    obtain ⟨q, hq, rfl⟩ := List.mem_map.mp hv
    obtain ⟨b, w⟩ := B.way q hq
    rw [w.wk.getLast]
    exact rch_in fok a0 a1 w.wk.rch
  rw [List.length_map] at z
  exact z
theorem way_len {pts : List (Int × Str)} {ts : Ties} (fok : FrOk pts ts) {a b : Int} (a0 : 0 ≤ a) (a1 : a < (pts.length : Int)) {q : List Int} (w : Way ts a b q) : q.length ≤ pts.length := nodup_le (n := pts.length) w.nd fun v hv => way_in fok w.wk a0 a1 v hv
section
variable {P : Program} {w : World} {K : PySem.W.Frag} {mg : Str → Option Value} {base : Heap}
theorem ok_lrows (T : Top K mg) : FnOk P w K mg base CX0 1 T.a_Lrows T.d_Lrows ["_law_forest_here", "_law_a"] (spLRows K) := by
  refine T.F_Lrows.ok sc_Lrows (fun vs H Q E h => ?_) (fun cdv A outer s H vs Q E hr h => ?_)
  · obtain ⟨f, a, pts, ts, rfl, _⟩ := h
    rfl
  · obtain ⟨f, a, pts, ts, rfl, hf, fok, ord, a0, a1, q⟩ := h
    obtain ⟨fa, pa, ta, xs, ys, rfl, f1, f2, f3, f4, f5⟩ := Td.parts hf
    have ly := f5.length
    rw [List.length_map] at ly
    have few := fok.few
    have tl := fok.tl
    refine ⟨_, (pss_cons (ps_set (i := 2) sc_Lrows.nd rfl (.inl rfl) (pe_lst (pa_cons (pe_tup (pa_cons (pv 1) pa_nil)) pa_nil)))
      (pss_cons (ps_set (i := 3) sc_Lrows.nd rfl (.inl rfl) pe_int)
      (pss_cons (ps_while PassesOwn.never (pt_cmpR op_lt (pv 3) (pe_callB call_len_seq (by rfl) T.m_len PySem.boot_len (pa_cons (pv 2) pa_nil)) (nomark _)) (pss_cons (ps_set (i := 4) sc_Lrows.nd rfl (.inl rfl) (pe_ix ix_list (pv 2) (pv 3) (fun _ _ => rfl)))
      (pss_cons (ps_for PassesOwn.never rfl (pi_tup (pe_ix ix_tup (pv 0) pe_int (fun _ _ => rfl))) (pg_tup rfl (pgs_cons (pg_name (i := 5) sc_Lrows.nd rfl (.inl rfl)) (pgs_cons (pg_name (i := 6) sc_Lrows.nd rfl (.inl rfl)) pgs_nil))) (pss_one (ps_if (pt_cmpR op_in_seq (pe_ix ix_tup (pv 4) (pe_un un_neg pe_int) (fun _ _ => rfl)) (pe_tup (pa_cons (pv 5) (pa_cons (pv 6) pa_nil))) (by rfl)) (pss_cons (ps_set (i := 7) sc_Lrows.nd rfl (.inl rfl) (pe_ifExp (pt_cmpR op_eq (pe_ix ix_tup (pv 4) (pe_un un_neg pe_int) (fun _ _ => rfl)) (pv 5) (nomark _)) (pv 6) (pv 5)))
      (pss_one (ps_if (pt_cmpR op_notIn_seq (pv 7) (pv 4) (by rfl)) (pss_one (ps_expr (pe_bm PySem.F.plainAttrs_list PySem.F.slot_list_append PySem.F.type_list_append mt_append (pv 2) (pa_cons (pe_op op_catA (pv 4) (pe_tup (pa_cons (pv 7) pa_nil))) pa_nil)))) pss_nil))) pss_nil)))
      (pss_one (ps_set (i := 3) sc_Lrows.nd rfl (.inl rfl) (pe_op op_add (pv 3) pe_int))))))
      (pss_one (ps_ret (pv 2)))))), ?_⟩
    refine ⟨_, rfl, (by show 1 ≤ sizeLine; decide), fun p0 np0 => ⟨(by show 1 ≤ sizeLine; decide), fun D nD => ?_⟩⟩
    have s0 := same_new (o := .tup [V.int a]) np0
    have nDH : H D = none := by
      cases e : H D with
      | none => rfl
      | some o =>
        rw [s0 _ _ e] at nD
        cases nD
    have s1 := s0.trans (same_new (o := .lst [V.ref p0]) nD)
    have R0 : Rws (upd (upd H p0 (.tup [V.int a])) D (.lst [V.ref p0])) [V.ref p0] [[a]] := .one (same_new nD _ _ upd_same)
    refine ⟨fun m σ H1 => ∃ (i : Nat) (vs : List V) (qs : List (List Int)) (y4 y5 y6 y7 : Option V), σ = [some (.ref fa), some (.int a), some (.ref D), some (.int (i : Int)), y4, y5, y6, y7] ∧ H1 D = some (.lst vs) ∧ Rws H1 vs qs ∧ Bfs ts a i qs ∧ i ≤ qs.length ∧ Same H H1 ∧ m = pts.length - i, ⟨_, 0, _, _, none, none, none, none, rfl, upd_same, R0, Bfs.start ts a, Nat.zero_le _, s1, rfl⟩, ?_⟩
    rintro m σ H1 ⟨i, vs, qs, y4, y5, y6, y7, rfl, hD, R, B, le, sm, rfl⟩
    have qn := B.len fok a0 a1
    have lv := R.len
    refine ⟨_, rfl, _, rfl, D, _, rfl, .inl (SqL.of hD), _, _, rfl, rfl, _, rfl, ite2 (fun e => ?_) (fun e => ?_)⟩
    · have lt : i < vs.length := by
        have := of_decide_eq_true e
        omega
      have ev : vs[i]? = some vs[i] := List.getElem?_eq_getElem lt
      obtain ⟨r, p, er, ep, hr⟩ := R.get ev
      obtain ⟨c, wp⟩ := B.way p (List.mem_of_getElem? ep)
      have lp := way_len fok a0 a1 wp
      have gl := wp.wk.getLast
      have hlast : atI (p.map V.int) (-1) = some (.int c) := by
        have ne := wp.wk.ne_nil
        obtain ⟨q1, z, ez⟩ : ∃ q z, p = q ++ [z] := ⟨p.dropLast, p.getLast ne, (List.dropLast_concat_getLast ne).symm⟩
        rw [ez, List.getLast?_concat] at gl
        cases Option.some.inj gl
        rw [ez, List.map_append]
        exact atI_last _ _
      refine ⟨fun σ' H' => ∃ (vs : List V) (y4 y5 y6 y7 : Option V), σ' = [some (.ref fa), some (.int a), some (.ref D), some (.int ((i + 1 : Nat) : Int)), y4, y5, y6, y7] ∧ H' D = some (.lst vs) ∧ Rws H' vs (qs ++ ext ts p) ∧ Same H H', ?_, ?_⟩
      · rintro σ' H' ⟨vs', z4, z5, z6, z7, rfl, hD', R', s'⟩
        have B' := B.step fok.nd ord ep
        refine ⟨pts.length - (i + 1), by omega, i + 1, vs', _, z4, z5, z6, z7, rfl, hD', R', B', by rw [List.length_append]; omega, s', rfl⟩
      refine ⟨_, rfl, _, rfl, D, _, _, _, rfl, rfl, SqL.of hD, atI_nat ev, ?_⟩
      rw [er]
      refine ⟨_, rfl, fa, _, _, _, rfl, rfl, sqs f1 sm, atI_nat (j := 1) rfl, ta, rfl, ⟨ys, sqs f4 sm⟩, for_tup (xs := ys) (fun j σ H2 => ∃ (ws : List V) (z5 z6 z7 : Option V), σ = [some (.ref fa), some (.int a), some (.ref D), some (.int (i : Int)), some (.ref r), z5, z6, z7] ∧ H2 D = some (.lst ws) ∧ Rws H2 ws (qs ++ (ts.take j).filterMap (ext1 p)) ∧ H2 r = some (.tup (p.map V.int)) ∧ ws.length ≤ 200 + j ∧ Same H H2) ⟨vs, _, _, _, rfl, hD, by rw [List.take_zero]; show Rws H1 vs (qs ++ []); rw [List.append_nil]; exact R, hr, by omega, sm⟩ (fun j σ H2 _ h => ?_) ?_ ?_⟩
      · obtain ⟨_, _, _, _, _, _, _, _, _, s2⟩ := h
        exact sqs f4 s2
      · rintro j x σ H2 hx ⟨ws, z5, z6, z7, rfl, hD2, R2, hr2, lw, s2⟩
        have hj := (List.getElem?_eq_some_iff.mp hx).1
        obtain ⟨dd, hdd, tx⟩ := f5.at hx
        rw [List.getElem?_map] at hdd
        obtain ⟨t, ht, rfl⟩ := Option.map_eq_some_iff.mp hdd
        obtain ⟨tp, rfl, htp⟩ := tdata_inv tx
        obtain ⟨u, v⟩ := t
        have skip : ext1 p (u, v) = none → ∀ {H3 : Hp}, Same H2 H3 → ∃ (ws : List V), H3 D = some (.lst ws) ∧ Rws H3 ws (qs ++ (ts.take (j + 1)).filterMap (ext1 p)) ∧ H3 r = some (.tup (p.map V.int)) ∧ ws.length ≤ 200 + (j + 1) ∧ Same H H3 := fun e0 {H3} s3 => by
          refine ⟨ws, s3 _ _ hD2, ?_, s3 _ _ hr2, by omega, s2.trans s3⟩
          rw [take_at ht, List.filterMap_append]
          show Rws H3 ws (qs ++ ((ts.take j).filterMap (ext1 p) ++ [(u, v)].filterMap (ext1 p)))
          rw [List.filterMap_cons, e0]
          show Rws H3 ws (qs ++ ((ts.take j).filterMap (ext1 p) ++ []))
          rw [List.append_nil]
          exact R2.mono (.same s3)
        refine ⟨tp, _, rfl, sqs htp s2, rfl, _, _, rfl, _, _, rfl, rfl, ?_⟩
        refine ⟨_, rfl, _, rfl, r, _, _, _, rfl, rfl, SqT.of hr2, hlast, _, rfl, _, rfl, (by show 2 ≤ sizeLine; decide), fun w0 nw => ⟨w0, _, rfl, .inr (SqT.of upd_same), rfl, rfl, decide (c ∈ [u, v]), congrArg V.bl (inV_ints c [u, v]), ?_⟩⟩
        have sw := same_new (o := .tup [V.int u, V.int v]) nw
        have hr3 := sw _ _ hr2
        have hD3 := sw _ _ hD2
        generalize upd H2 w0 (.tup [V.int u, V.int v]) = H3 at sw hr3 hD3 ⊢
        by_cases mc : c ∈ [u, v]
        case neg =>
          rw [decide_eq_false mc]
          have n1 : c ≠ u := fun e => mc (e ▸ List.mem_cons_self)
          have n2 : c ≠ v := fun e => mc (e ▸ List.mem_cons_of_mem _ List.mem_cons_self)
          have e0 : ext1 p (u, v) = none := by
            unfold ext1
            rw [gl, if_neg (fun e => n1 (Option.some.inj e)), if_neg (fun e => n2 (Option.some.inj e))]
          refine iteF ?_
          obtain ⟨ws2, g1, g2, g3, g4, g5⟩ := skip e0 sw
          exact ⟨ws2, _, _, _, rfl, g1, g2, g3, g4, g5⟩
        rw [decide_eq_true mc]
        refine iteT ?_
        refine ⟨_, rfl, _, rfl, r, _, _, _, rfl, rfl, SqT.of hr3, hlast, _, rfl, rfl, _, rfl, ite2 (fun z => ?_) (fun z => ?_)⟩
        · have e1 : c = u := V.int.inj (of_decide_eq_true z)
          have es : v ∉ p → ext1 p (u, v) = some (p ++ [v]) := fun n => by
            unfold ext1
            rw [gl, if_pos (congrArg some e1), if_neg n]
          have en : v ∈ p → ext1 p (u, v) = none := fun n => by
            unfold ext1
            rw [gl, if_pos (congrArg some e1), if_pos n]
          refine ⟨_, rfl, ?_⟩
          refine ⟨_, rfl, _, rfl, r, _, rfl, .inr (SqT.of hr3), rfl, flat_ints _, !decide (v ∈ p), congrArg (fun z => V.bl (!z)) (inV_ints v p), ?_⟩
          by_cases md : v ∈ p
          · rw [decide_eq_true md]
            refine iteF ?_
            obtain ⟨ws2, g1, g2, g3, g4, g5⟩ := skip (en md) sw
            exact ⟨ws2, _, _, _, rfl, g1, g2, g3, g4, g5⟩
          · rw [decide_eq_false md]
            refine iteT ?_
            refine ⟨_, rfl, .inl ⟨rfl, _, SqL.of hD3⟩, _, rfl, _, rfl, (by show 1 ≤ sizeLine; decide), fun w1 nw1 => ?_⟩
            have s4 := same_new (o := .tup [V.int v]) nw1
            refine catA rfl rfl (s4 _ _ hr3) upd_same (sz (by rw [List.length_map]; show _ + 1 ≤ _; omega)) fun g H5 s5 h5 => ?_
            have s25 := sw.trans (s4.trans s5)
            have hD5 := s25 _ _ hD2
            refine ⟨D, _, _, rfl, rfl, hD5, szl (by omega), ?_⟩
            refine ⟨ws ++ [.ref g], _, _, _, rfl, upd_same, ?_, TK.put hD5 _ _ (s25 _ _ hr2), by rw [List.length_append]; show _ + 1 ≤ _; omega, same_put (s2.trans s25) nDH⟩
            rw [take_at ht, List.filterMap_append]
            show Rws _ (ws ++ [V.ref g]) (qs ++ ((ts.take j).filterMap (ext1 p) ++ [(u, v)].filterMap (ext1 p)))
            rw [List.filterMap_cons, es md]
            show Rws _ _ (qs ++ (_ ++ [p ++ [v]]))
            rw [← List.append_assoc]
            refine ((R2.mono (.same s25)).append (.one ?_)).mono (TK.put hD5)
            rw [List.map_append]
            exact h5
        · have e1 : c ≠ u := fun e => z (by rw [e]; exact decide_eq_true rfl)
          have e2 : c = v := by
            rcases List.mem_cons.mp mc with e | e
            · exact absurd e e1
            · exact List.mem_singleton.mp e
          have es : u ∉ p → ext1 p (u, v) = some (p ++ [u]) := fun n => by
            unfold ext1
            rw [gl, if_neg (fun e => e1 (Option.some.inj e)), if_pos (congrArg some e2), if_neg n]
          have en : u ∈ p → ext1 p (u, v) = none := fun n => by
            unfold ext1
            rw [gl, if_neg (fun e => e1 (Option.some.inj e)), if_pos (congrArg some e2), if_pos n]
          refine ⟨_, rfl, ?_⟩
          refine ⟨_, rfl, _, rfl, r, _, rfl, .inr (SqT.of hr3), rfl, flat_ints _, !decide (u ∈ p), congrArg (fun z => V.bl (!z)) (inV_ints u p), ?_⟩
          by_cases md : u ∈ p
          · rw [decide_eq_true md]
            refine iteF ?_
            obtain ⟨ws2, g1, g2, g3, g4, g5⟩ := skip (en md) sw
            exact ⟨ws2, _, _, _, rfl, g1, g2, g3, g4, g5⟩
          · rw [decide_eq_false md]
            refine iteT ?_
            refine ⟨_, rfl, .inl ⟨rfl, _, SqL.of hD3⟩, _, rfl, _, rfl, (by show 1 ≤ sizeLine; decide), fun w1 nw1 => ?_⟩
            have s4 := same_new (o := .tup [V.int u]) nw1
            refine catA rfl rfl (s4 _ _ hr3) upd_same (sz (by rw [List.length_map]; show _ + 1 ≤ _; omega)) fun g H5 s5 h5 => ?_
            have s25 := sw.trans (s4.trans s5)
            have hD5 := s25 _ _ hD2
            refine ⟨D, _, _, rfl, rfl, hD5, szl (by omega), ?_⟩
            refine ⟨ws ++ [.ref g], _, _, _, rfl, upd_same, ?_, TK.put hD5 _ _ (s25 _ _ hr2), by rw [List.length_append]; show _ + 1 ≤ _; omega, same_put (s2.trans s25) nDH⟩
            rw [take_at ht, List.filterMap_append]
            show Rws _ (ws ++ [V.ref g]) (qs ++ ((ts.take j).filterMap (ext1 p) ++ [(u, v)].filterMap (ext1 p)))
            rw [List.filterMap_cons, es md]
            show Rws _ _ (qs ++ (_ ++ [p ++ [u]]))
            rw [← List.append_assoc]
            refine ((R2.mono (.same s25)).append (.one ?_)).mono (TK.put hD5)
            rw [List.map_append]
            exact h5
      · rintro σ H2 ⟨ws, z5, z6, z7, rfl, hD2, R2, hr2, lw, s2⟩
        rw [ly, List.take_length] at R2
        refine ⟨_, rfl, _, _, rfl, rfl, ws, _, _, _, _, rfl, hD2, R2, s2⟩
    · have ge : qs.length ≤ i := by
        have z : ¬ (i : Int) < (vs.length : Int) := fun y => e (decide_eq_true y)
        omega
      exact ⟨_, rfl, q D vs qs i H1 sm hD R B ge qn⟩
end

end My
namespace My
open PySem L2
/-! ### all rising tuples -/
def spLTuples : Sp := fun vs H Q _ => ∃ n : Nat, vs = [.int (n : Int)] ∧ n ≤ 9 ∧ ∀ (D : Addr) (vs : List V) (H' : Hp), Same H H' → H' D = some (.lst vs) → Rws H' vs (subs n) → Q (.ref D) H'
theorem subs_few {k : Nat} (h : k ≤ 9) : (subs k).length ≤ 512 := by
  rw [subs_len]
  exact Nat.pow_le_pow_right (by decide) h
theorem subs_short : ∀ {k : Nat} {S : List Int}, S ∈ subs k → S.length ≤ k
  | 0, S, h => by
    rw [List.mem_singleton.mp h]
    exact Nat.le_refl _
  | k + 1, S, h => by
    rcases List.mem_append.mp h with h | h
    · exact Nat.le_succ_of_le (subs_short h)
    · obtain ⟨R, hR, rfl⟩ := List.mem_map.mp h
      rw [List.length_append]
      exact Nat.succ_le_succ (subs_short hR)
section
variable {P : Program} {w : World} {K : PySem.W.Frag} {mg : Str → Option Value} {base : Heap}
theorem ok_ltuples (T : Top K mg) : FnOk P w K mg base CX0 1 T.a_Lalltuples T.d_Lalltuples ["_law_many_here"] spLTuples := by
  refine T.F_Lalltuples.ok sc_Lalltuples (fun vs H Q E h => ?_) (fun cdv A outer s H vs Q E hr h => ?_)
  · obtain ⟨n, rfl, _⟩ := h
    rfl
  · obtain ⟨n, rfl, n9, q⟩ := h
    refine ⟨_, (pss_cons (ps_set (i := 1) sc_Lalltuples.nd rfl (.inl rfl) (pe_lst (pa_cons (pe_tup pa_nil) pa_nil)))
      (pss_cons (ps_for PassesOwn.never rfl (pi_range1 (by rfl) T.m_range (pa_cons (pv 0) pa_nil)) (pg_name (i := 2) sc_Lalltuples.nd rfl (.inr rfl)) (pss_one (ps_set (i := 1) sc_Lalltuples.nd rfl (.inl rfl) (pe_op op_cat (pv 1) (pe_lc (own := [("_law_some", 3)]) (g := gName 3) (tt := tYes) (by rfl) sc_Lalltuples.nd (pi_list (pv 1)) (blkOk_by (own := [("_law_some", 3)]) (N := ["_law_many_here", "_law_found", "_law_point", "_law_some"]) (sc := defScope s_Lalltuples) (by decide +kernel)) (fun _ _ _ _ _ => (pg_name (i := 3) sc_Lalltuples.nd rfl (.inl rfl))) (fun _ _ _ _ _ => pts_nil) (fun _ _ _ _ _ => (pe_op (op_catAK (K := K) rfl) (pv 3) (pe_tup (pa_cons (pv 2) pa_nil)))))))))
      (pss_one (ps_ret (pv 1))))), ?_⟩
    refine ⟨(by show 0 ≤ sizeLine; decide), fun p0 np0 => ⟨(by show 1 ≤ sizeLine; decide), fun D nD => ?_⟩⟩
    have s1 := (same_new (o := .tup ([] : List V)) np0).trans (same_new (o := .lst [V.ref p0]) nD)
    have R0 : Rws (upd (upd H p0 (.tup [])) D (.lst [V.ref p0])) [V.ref p0] (subs 0) := .cons (q := []) (same_new nD _ _ upd_same) .nil
    refine ⟨_, rfl, _, rfl, (by omega), (by omega), for_range (lo := 0) (n := n) (fun k σ H1 => ∃ (D : Addr) (vs : List V) (y2 : Option V), σ = [some (.int (n : Int)), some (.ref D), y2, none] ∧ H1 D = some (.lst vs) ∧ Rws H1 vs (subs k) ∧ Same H H1) ⟨D, _, none, rfl, upd_same, R0, s1⟩ ?_ ?_⟩
    · rintro k σ H1 hk ⟨D, vs, y2, rfl, hD, R, sm⟩
      have lv := R.len
      have few := subs_few (k := k) (by omega)
      refine ⟨_, rfl, ?_⟩
      refine ⟨_, rfl, D, rfl, ⟨_, SqL.of hD⟩, fun E nE => ?_⟩
      have nDE : D ≠ E := ne_of_none hD nE
      refine lc_list (xs := vs) (fun i H2 => ∃ ws : List V, H2 E = some (.lst ws) ∧ Rws H2 ws (((subs k).take i).map (· ++ [(k : Int)])) ∧ ws.length ≤ i ∧ Same H1 H2) ⟨[], upd_same, by rw [List.take_zero]; exact .nil, Nat.le_refl _, same_new nE⟩ (fun i H2 _ z => ?_) ?_ ?_
      · obtain ⟨_, _, _, _, s2⟩ := z
        exact SqL.of (s2 _ _ hD)
      · rintro i x H2 hx ⟨ws, hE, R2, lw, s2⟩
        have hi := (List.getElem?_eq_some_iff.mp hx).1
        obtain ⟨r, S, rfl, eS, hS⟩ := R.get hx
        have short := subs_short (List.mem_of_getElem? eS)
        refine ⟨rfl, yes_ite ?_⟩
        refine ⟨_, rfl, _, rfl, (by show 1 ≤ sizeLine; decide), fun w0 nw => ?_⟩
        have sw := same_new (o := .tup [V.int (0 + (k : Int))]) nw
        refine catA rfl rfl (sw _ _ (s2 _ _ hS)) upd_same (sz (by rw [List.length_map]; show _ + 1 ≤ _; omega)) fun g H4 s4 h4 => ?_
        have s24 := sw.trans s4
        have hE4 := s24 _ _ hE
        refine ⟨_, hE4, szl (by omega), ws ++ [.ref g], upd_same, ?_, by rw [List.length_append]; exact Nat.succ_le_succ lw, same_put (s2.trans s24) nE⟩
        rw [take_at eS, List.map_append]
        refine ((R2.mono (.same s24)).append (.one ?_)).mono (TK.put hE4)
        rw [List.map_append, h4]
        show some (HO.tup (S.map V.int ++ [V.int (0 + (k : Int))])) = some (HO.tup (S.map V.int ++ [V.int (k : Int)]))
        rw [Int.zero_add]
      · rintro H2 ⟨ws, hE, R2, lw, s2⟩
        rw [lv, List.take_length] at R2
        refine ⟨D, E, _, _, rfl, rfl, s2 _ _ hD, hE, sz (by omega), fun g ng => ?_⟩
        have sg := same_new (o := .lst (vs ++ ws)) ng
        exact ⟨g, _, _, rfl, upd_same, (((R.mono (.same s2)).append R2).mono (.same sg)), (sm.trans s2).trans sg⟩
    · rintro σ H1 ⟨D, vs, y2, rfl, hD, R, sm⟩
      exact ⟨_, rfl, q D vs H1 sm hD R⟩
end

end My
namespace My
open PySem L2
/-! ### what the law counts -/
theorem adj_pair {ts : Ties} (ord : ∀ t ∈ ts, t.1 ≤ t.2) {a b : Int} (h : Adj ts a b) : pairOf a b ∈ ts := by
  unfold pairOf
  rcases h with h | h
  · have o := ord _ h
    dsimp only at o
    have e1 : (if b < a then b else a) = a := if_neg (by omega)
    have e2 : (if b > a then b else a) = b := by
      split <;> omega
    rw [e1, e2]
    exact h
  · have o := ord _ h
    dsimp only at o
    have e1 : (if b < a then b else a) = b := by
      split <;> omega
    have e2 : (if b > a then b else a) = a := if_neg (by omega)
    rw [e1, e2]
    exact h
theorem Wlk.linked {ts : Ties} (ord : ∀ t ∈ ts, t.1 ≤ t.2) {a b : Int} {l : List Int} (h : Wlk ts a b l) : linkB ts l = true := by
  induction h with
  | one => rfl
  | @cons a c b l e w ih =>
    obtain ⟨r, rfl⟩ : ∃ r, l = c :: r := by
      cases w with
      | one => exact ⟨[], rfl⟩
      | cons _ _ => exact ⟨_, rfl⟩
    show (decide (pairOf a c ∈ ts) && linkB ts (c :: r)) = true
    rw [ih, decide_eq_true (adj_pair ord e)]
    rfl
theorem way_q {ts : Ties} (ord : ∀ t ∈ ts, t.1 ≤ t.2) {a b : Int} {i n : Nat} {qs : List (List Int)} (B : Bfs ts a i qs) {q : List Int} (m : q ∈ qs) : papB n ts a b (some ("way", q)) = decide (q.getLast? = some b) := by
  obtain ⟨c, w⟩ := B.way q m
  unfold papB
  dsimp only
  rw [if_pos rfl]
  by_cases e : q.getLast? = some b
  · rw [wayB_yes ⟨w.wk.head, e, w.nd⟩, w.wk.linked ord, decide_eq_true e]
  · rw [wayB_no fun z => e z.2.1, decide_eq_false e]
def lastB (b : Int) (q : List Int) : Bool := decide (q.getLast? = some b)
theorem few_one {α : Type} {l : List α} (nd : l.Nodup) (h : ∀ x ∈ l, ∀ y ∈ l, x = y) : l.length ≤ 1 := by
  match l with
  | [] => exact Nat.zero_le _
  | [x] => exact Nat.le_refl _
  | x :: y :: r => exact absurd (h x List.mem_cons_self y (List.mem_cons_of_mem _ List.mem_cons_self) ▸ List.mem_cons_self) (List.nodup_cons.mp nd).1
theorem ways_le {ts : Ties} (T : Tree ts) {a : Int} {i : Nat} {qs : List (List Int)} (B : Bfs ts a i qs) (b : Int) : (qs.filter (lastB b)).length ≤ 1 := by
  have key : ∀ x ∈ qs.filter (lastB b), Way ts a b x := fun x m => by
    obtain ⟨m1, m2⟩ := List.mem_filter.mp m
    obtain ⟨c, w⟩ := B.way x m1
    have e := of_decide_eq_true m2
    rw [w.wk.getLast] at e
    cases Option.some.inj e
    exact w
  exact few_one (B.nd.filter _) fun x mx y my => way_unique T (key x mx) (key y my)
theorem ways_is {ts : Ties} (T : Tree ts) {a b : Int} {i : Nat} {qs : List (List Int)} (B : Bfs ts a i qs) (fin : qs.length ≤ i) {l : List Int} (w : Way ts a b l) : qs.filter (lastB b) = [l] := by
  have m : l ∈ qs.filter (lastB b) := List.mem_filter.mpr ⟨B.all fin _ rfl w, decide_eq_true w.wk.getLast⟩
  have le := ways_le T B b
  match h : qs.filter (lastB b), m, le with
  | [x], m, _ => rw [List.mem_singleton.mp m]
  | [], m, _ => exact nomatch m
  | x :: y :: r, _, le => exact absurd le (by simp [List.length_cons])
theorem ways_none {ts : Ties} {a b : Int} {i : Nat} {qs : List (List Int)} (B : Bfs ts a i qs) (n : ¬ Rch ts a b) : qs.filter (lastB b) = [] := List.filter_eq_nil_iff.mpr fun q m e => by
  obtain ⟨c, w⟩ := B.way q m
  have e := of_decide_eq_true e
  rw [w.wk.getLast] at e
  cases Option.some.inj e
  exact n w.wk.rch
theorem pap_apart {n : Nat} {ts : Ties} {a b : Int} {S : List Int} : papB n ts a b (some ("apart", S)) = apartB n ts a b S := by
  unfold papB
  dsimp only
  rw [if_neg (by decide), if_pos rfl]
theorem apart_good {pts : List (Int × Str)} {ts : Ties} (fok : FrOk pts ts) {a b : Nat} (ha : a < pts.length) (hb : b < pts.length) {S : List Int} (m : S ∈ subs pts.length) :
    papB pts.length ts (a : Int) (b : Int) (some ("apart", S)) = goodB (rpOf ts) (rpOf ts a) (rpOf ts b) pts.length S := by
  rw [pap_apart, Bool.eq_iff_iff, ← closed_good fok.tok ha hb]
  obtain ⟨up, rng⟩ := subs_mem m
  unfold apartB
  rw [Bool.and_eq_true, List.all_eq_true]
  constructor
  · rintro ⟨h1, h2⟩
    have h1 := of_decide_eq_true h1
    exact ⟨h1.2.1, h1.2.2.1, fun t mt => decide_eq_decide.mp (beq_iff_eq.mp (h2 t mt))⟩
  · rintro ⟨h1, h2, h3⟩
    exact ⟨decide_eq_true ⟨up, h1, h2, rng⟩, fun t mt => beq_iff_eq.mpr (decide_eq_decide.mpr (h3 t mt))⟩
def apartQ (n : Nat) (ts : Ties) (a b : Int) (S : List Int) : Bool := papB n ts a b (some ("apart", S))
theorem apart_count {pts : List (Int × Str)} {ts : Ties} (fok : FrOk pts ts) {a b : Nat} (ha : a < pts.length) (hb : b < pts.length) :
    ((subs pts.length).filter (apartQ pts.length ts (a : Int) (b : Int))).length = wts (rpOf ts) (rpOf ts a) (rpOf ts b) pts.length := by
  rw [← count_good _ _ _ (fun j => rp_le j)]
  congr 1
  exact List.filter_congr fun S m => apart_good fok ha hb m
open Classical in
noncomputable def partL (ts : Ties) (n : Nat) (j : Int) : List Int := ((List.range n).map fun i : Nat => (i : Int)).filter fun x => decide (Rch ts j x)
theorem is_partL {pts : List (Int × Str)} {ts : Ties} (fok : FrOk pts ts) {j : Int} (j0 : 0 ≤ j) (j1 : j < (pts.length : Int)) : IsPart ts j (partL ts pts.length j) := by
  classical
  refine ⟨?_, fun v => ?_⟩
  · unfold partL
    refine List.Pairwise.filter _ (List.pairwise_map.mpr (List.pairwise_lt_range.imp fun h => ?_))
    omega
  · unfold partL
    rw [List.mem_filter, List.mem_map]
    constructor
    · rintro ⟨_, h⟩
      exact of_decide_eq_true h
    · intro h
      have r := rch_in fok j0 j1 h
      exact ⟨⟨v.toNat, List.mem_range.mpr (by omega), by omega⟩, decide_eq_true h⟩
def keyL (l : List Int) : List Key := l.map Sum.inl
theorem keyL_kV (l : List Int) : (keyL l).map kV = l.map V.int := by
  unfold keyL
  rw [List.map_map]
  rfl
theorem keyL_inj {l m : List Int} (h : keyL l = keyL m) : l = m := by
  have := congrArg (List.map kV) h
  rw [keyL_kV, keyL_kV] at this
  exact (List.map_inj_right (fun x y e => V.int.inj e)).mp this
theorem mem_keyL {x : Int} {l : List Int} : (Sum.inl x : Key) ∈ keyL l ↔ x ∈ l := by
  unfold keyL
  rw [List.mem_map]
  exact ⟨fun ⟨y, m, e⟩ => Sum.inl.inj e ▸ m, fun m => ⟨x, m, rfl⟩⟩
open Classical in
noncomputable def fK (a b : Int) (k : List Key) : Nat := if (Sum.inl a : Key) ∈ k ∨ (Sum.inl b : Key) ∈ k then 1 else 2
theorem parts_prod {pts : List (Int × Str)} {ts : Ties} (fok : FrOk pts ts) {a b : Nat} (ha : a < pts.length) (hb : b < pts.length) (n : ¬ Rch ts (a : Int) (b : Int)) {out : List (List Key)} (nd : out.Nodup)
    (mem : ∀ k, k ∈ out ↔ k ∈ (List.range pts.length).map fun j : Nat => keyL (partL ts pts.length (j : Int))) : prodL (fK (a : Int) (b : Int)) out = wts (rpOf ts) (rpOf ts a) (rpOf ts b) pts.length := by
  have isP : ∀ j : Nat, j < pts.length → IsPart ts (j : Int) (partL ts pts.length (j : Int)) := fun j hj => is_partL fok (by omega) (by omega)
  have perm : out.Perm (((List.range pts.length).filter fun j => decide (rpOf ts j = j)).map fun j : Nat => keyL (partL ts pts.length (j : Int))) := by
    refine (List.perm_ext_iff_of_nodup nd ?_).mpr fun k => (mem k).trans ?_
    · refine List.pairwise_map.mpr (List.pairwise_iff_getElem.mpr fun i j hi hj lt e => ?_)
      have mi := List.mem_filter.mp (List.getElem_mem hi)
      have mj := List.mem_filter.mp (List.getElem_mem hj)
      have li := List.mem_range.mp mi.1
      have lj := List.mem_range.mp mj.1
      have e := keyL_inj e
      have m1 := ((isP _ li).mem _).mpr .refl
      rw [e] at m1
      have r := ((isP _ lj).mem _).mp m1
      have e2 := rp_eq r
      rw [of_decide_eq_true mi.2, of_decide_eq_true mj.2] at e2
      have nr : ((List.range pts.length).filter fun j => decide (rpOf ts j = j)).Nodup := List.nodup_range.filter _
      exact List.pairwise_iff_getElem.mp nr i j hi hj lt e2.symm
    · constructor
      · intro h
        obtain ⟨j, hj, rfl⟩ := List.mem_map.mp h
        have hj := List.mem_range.mp hj
        have lr : rpOf ts j < pts.length := Nat.lt_of_le_of_lt (rp_le j) hj
        refine List.mem_map.mpr ⟨rpOf ts j, List.mem_filter.mpr ⟨List.mem_range.mpr lr, decide_eq_true (rp_idem j)⟩, ?_⟩
        have r := (rp_spec (ts := ts) j).1
        have p1 := isP _ lr
        have p2 := isP j hj
        refine congrArg keyL (part_unique p1 ⟨p2.up, fun v => (p2.mem v).trans ⟨fun z => r.symm.trans z, fun z => r.trans z⟩⟩)
      · intro h
        obtain ⟨j, hj, rfl⟩ := List.mem_map.mp h
        exact List.mem_map.mpr ⟨j, (List.mem_filter.mp hj).1, rfl⟩
  have ne : rpOf ts a ≠ rpOf ts b := fun e => n (rp_iff.mp e)
  rw [prodL_perm perm, prodL_map]
  have key : ∀ l : List Nat, (∀ j ∈ l, j < pts.length ∧ rpOf ts j = j) → prodL (fun j : Nat => fK (a : Int) (b : Int) (keyL (partL ts pts.length (j : Int)))) l = prodL (fun j => if rpOf ts a = j ∨ rpOf ts b = j then 1 else 2) l := by
    intro l
    induction l with
    | nil => intro _; rfl
    | cons j r ih =>
      intro h
      obtain ⟨hj, ej⟩ := h j List.mem_cons_self
      show fK _ _ _ * prodL _ r = _ * prodL _ r
      rw [ih fun i hi => h i (List.mem_cons_of_mem _ hi)]
      congr 1
      have two : ∀ c : Nat, (Sum.inl (c : Int) : Key) ∈ keyL (partL ts pts.length (j : Int)) ↔ rpOf ts c = j := fun c => by
        rw [mem_keyL, (isP j hj).mem, ← rp_iff, ej]
        exact ⟨Eq.symm, Eq.symm⟩
      unfold fK
      dsimp only
      by_cases e : rpOf ts a = j ∨ rpOf ts b = j
      · rw [if_pos e, if_pos (e.imp (two a).mpr (two b).mpr)]
      · rw [if_neg e, if_neg fun z => e (z.imp (two a).mp (two b).mp)]
  rw [key _ fun j hj => ⟨List.mem_range.mp (List.mem_filter.mp hj).1, of_decide_eq_true (List.mem_filter.mp hj).2⟩]
  exact prod_reps ne _ (fun j _ => rfl) _
theorem parts_none {ts : Ties} {n a b : Nat} (ha : a < n) (r : Rch ts (a : Int) (b : Int)) : wts (rpOf ts) (rpOf ts a) (rpOf ts b) n = 0 := by
  refine wts_zero (j := rpOf ts a) ?_ (Nat.lt_of_le_of_lt (rp_le a) ha)
  unfold wt
  rw [if_pos (rp_idem a), if_pos rfl, if_pos (rp_eq r).symm]
/-! data -/
theorem lay_rows : ∀ qs : List (List Int), PyData.canLayAll0 (rowsD qs) = true ∧ PyData.depthAll (rowsD qs) ≤ 2
  | [] => ⟨rfl, Nat.zero_le _⟩
  | q :: r => by
    have ih := lay_rows r
    have iq := lay_ints q
    refine ⟨?_, ?_⟩
    · show (PyData.canLayAll0 (q.map .int) && PyData.canLayAll0 (rowsD r)) = true
      rw [iq.1, ih.1]
      rfl
    · show max (PyData.depthAll (q.map .int) + 1) (PyData.depthAll (rowsD r)) ≤ 2
      exact Nat.max_le.mpr ⟨by have := iq.2; omega, ih.2⟩
theorem shaped_rows (qs : List (List Int)) : SeqAt.shaped (.list (rowsD qs)) = true := by
  obtain ⟨h1, h2⟩ := lay_rows qs
  show (PyData.canLayAll0 (rowsD qs) && decide (PyData.depthAll (rowsD qs) + 1 ≤ 64)) = true
  rw [h1, decide_eq_true (show PyData.depthAll (rowsD qs) + 1 ≤ 64 by omega)]
  rfl
theorem same_rows (qs : List (List Int)) : PyData.eqv (.list (rowsD qs)) (.list (rowsD qs)) = true := SeqAt.eqv_refl (.list (rowsD qs)) (lay_rows qs).1
theorem Rws.td {K : PySem.W.Frag} {H : Hp} : ∀ {vs : List V} {qs : List (List Int)}, Rws H vs qs → TdAll K H vs (rowsD qs)
  | _, _, .nil => .nil
  | _, _, .cons (q := q) h k => .cons (.tup (SqT.of h) (td_ints q)) k.td
/-- pairs of a word and a tuple -/
def ppd (x : Str) (l : List Int) : PyData := .tuple [.str x, .tuple (l.map .int)]
theorem lay_pps {x : Str} (hx : PyData.canLay0 (.str x) = true) : ∀ qs : List (List Int), PyData.canLayAll0 (qs.map (ppd x)) = true ∧ PyData.depthAll (qs.map (ppd x)) ≤ 3
  | [] => ⟨rfl, Nat.zero_le _⟩
  | q :: r => by
    have ih := lay_pps hx r
    have iq := lay_ints q
    refine ⟨?_, ?_⟩
    · show ((PyData.canLay0 (.str x) && (PyData.canLayAll0 (q.map .int) && true)) && PyData.canLayAll0 (r.map (ppd x))) = true
      rw [hx, iq.1, ih.1]
      rfl
    · show max (max (PyData.depth (.str x)) (max (PyData.depthAll (q.map .int) + 1) 0) + 1) (PyData.depthAll (r.map (ppd x))) ≤ 3
      have d0 : PyData.depth (.str x) = 0 := rfl
      have := iq.2
      have := ih.2
      rw [d0]
      omega
theorem lay_app : ∀ {xs ys : List PyData}, PyData.canLayAll0 xs = true → PyData.canLayAll0 ys = true → PyData.canLayAll0 (xs ++ ys) = true
  | [], _, _, h => h
  | x :: xs, ys, g, h => by
    have g : (PyData.canLay0 x && PyData.canLayAll0 xs) = true := g
    rw [Bool.and_eq_true] at g
    show (PyData.canLay0 x && PyData.canLayAll0 (xs ++ ys)) = true
    rw [g.1, lay_app g.2 h]
    rfl
theorem dep_app : ∀ {xs ys : List PyData} {m : Nat}, PyData.depthAll xs ≤ m → PyData.depthAll ys ≤ m → PyData.depthAll (xs ++ ys) ≤ m
  | [], _, _, _, h => h
  | x :: xs, ys, m, g, h => by
    have g : max (PyData.depth x) (PyData.depthAll xs) ≤ m := g
    have g := Nat.max_le.mp g
    show max (PyData.depth x) (PyData.depthAll (xs ++ ys)) ≤ m
    exact Nat.max_le.mpr ⟨g.1, dep_app g.2 h⟩
theorem lay_way : PyData.canLay0 (.str "way") = true := by decide +kernel
theorem lay_apart : PyData.canLay0 (.str "apart") = true := by decide +kernel
theorem ppd_lay {x : Str} (hx : PyData.canLay0 (.str x) = true) (q : List Int) : PyData.canLay0 (ppd x q) = true := by
  have := (lay_pps hx [q]).1
  have z : (PyData.canLay0 (ppd x q) && true) = true := this
  rw [Bool.and_true] at z
  exact z
theorem ppd_shaped {x : Str} (hx : PyData.canLay0 (.str x) = true) (q : List Int) : SeqAt.shaped (ppd x q) = true := by
  have h2 := (lay_pps hx [q]).2
  have h2 : max (PyData.depth (ppd x q)) 0 ≤ 3 := h2
  show (PyData.canLay0 (ppd x q) && decide (PyData.depth (ppd x q) ≤ 64)) = true
  rw [ppd_lay hx q, decide_eq_true (show PyData.depth (ppd x q) ≤ 64 by omega)]
  rfl
theorem pps_shaped (ws ps : List (List Int)) : SeqAt.shaped (.list (ws.map (ppd "way") ++ ps.map (ppd "apart"))) = true := by
  have l1 := lay_pps lay_way ws
  have l2 := lay_pps lay_apart ps
  have d := dep_app l1.2 l2.2
  show (PyData.canLayAll0 (ws.map (ppd "way") ++ ps.map (ppd "apart")) && decide (PyData.depthAll (ws.map (ppd "way") ++ ps.map (ppd "apart")) + 1 ≤ 64)) = true
  rw [lay_app l1.1 l2.1, decide_eq_true (by omega)]
  rfl
theorem any_mem {ds : List PyData} {d : PyData} (m : d ∈ ds) (h : PyData.canLay0 d = true) : (ds.any fun z => PyData.eqv z d) = true := List.any_eq_true.mpr ⟨d, m, SeqAt.eqv_refl d h⟩
theorem part_apart {pts : List (Int × Str)} {ts : Ties} (fok : FrOk pts ts) {a b : Int} (a0 : 0 ≤ a) (a1 : a < (pts.length : Int)) (n : ¬ Rch ts a b) {l : List Int} (p : IsPart ts a l) : l ∈ (subs pts.length).filter (apartQ pts.length ts a b) := by
  have rng := p.inP fok a0 a1
  refine List.mem_filter.mpr ⟨subs_all p.up rng, ?_⟩
  unfold apartQ
  rw [pap_apart]
  unfold apartB
  rw [Bool.and_eq_true, List.all_eq_true]
  refine ⟨decide_eq_true ⟨p.up, (p.mem a).mpr .refl, fun m => n ((p.mem b).mp m), rng⟩, fun t m => beq_iff_eq.mpr (decide_eq_decide.mpr ?_)⟩
  rw [p.mem, p.mem]
  exact ⟨fun z => .step z (.inl m), fun z => .step z (.inr m)⟩

end My
namespace My
open PySem L2
theorem FX.kp {K : PySem.W.Frag} {H H' : Hp} {f : Addr} {pts : List (Int × Str)} {ts : List (Int × Int)} (h : FX K H f pts ts) (k : Kp H H') : FX K H' f pts ts := by
  obtain ⟨pa, ta, xs, ys, h1, h2, h3, h4, h5⟩ := h.ex
  have t := Tups.of_kp (K := K) k
  exact ⟨pa, ta, xs, ys, t _ _ h1, t _ _ h2, h3.mono t, t _ _ h4, h5.mono fun _ _ _ e => k _ _ e (by intro ps z; cases z)⟩

theorem FX.putL {K : PySem.W.Frag} {H : Hp} {f D : Addr} {us vs : List V} {pts : List (Int × Str)} {ts : List (Int × Int)} (h : FX K H f pts ts) (e : H D = some (.lst us)) : FX K (upd H D (.lst vs)) f pts ts := by
  obtain ⟨pa, ta, xs, ys, h1, h2, h3, h4, h5⟩ := h.ex
  have t : Tups K H (upd H D (.lst vs)) := Tups.of_but But.refl.put e
  refine ⟨pa, ta, xs, ys, t _ _ h1, t _ _ h2, h3.mono t, t _ _ h4, h5.mono fun _ _ _ e2 => ?_⟩
  rw [upd_ne (ne_of e2 e (by intro z; cases z))]
  exact e2
theorem tb_putL {K : PySem.W.Frag} {mg : Str → Option Value} {T : Top K mg} {H : Hp} {D : Addr} {us vs : List V} (h : Tb T.tbs H) (e : H D = some (.lst us)) : Tb T.tbs (upd H D (.lst vs)) := by
  refine .mk (fun R m => ?_) (fun R q m => ?_)
  · obtain ⟨ps, hp, t⟩ := h.g m
    exact ⟨ps, by rw [upd_ne (ne_of hp e (by intro z; cases z))]; exact hp, t⟩
  · unfold Top.tbs at m
    simp at m

/-! ### the law -/
theorem TPairs.mono {H H' : Hp} {ps : List Addr} {ks : List (List Key)} (t : TK H H') (h : TPairs H ps ks) : TPairs H' ps ks := ⟨h.1, fun j p k e1 e2 => by
  obtain ⟨b, h1, h2⟩ := h.2 j p k e1 e2
  exact ⟨b, t _ _ h1, t _ _ h2⟩⟩
theorem TPairs.snoc {H : Hp} {ps : List Addr} {ks : List (List Key)} (h : TPairs H ps ks) {p b : Addr} {k : List Key} (h1 : H p = some (.tup [.ref b, .bl true])) (h2 : H b = some (.tup (k.map kV))) : TPairs H (ps ++ [p]) (ks ++ [k]) := by
  refine ⟨by rw [List.length_append, List.length_append, h.1]; rfl, fun j p' k' e1 e2 => ?_⟩
  by_cases lt : j < ps.length
  · rw [List.getElem?_append_left lt] at e1
    rw [List.getElem?_append_left (h.1 ▸ lt)] at e2
    exact h.2 j p' k' e1 e2
  · have l1 := (List.getElem?_eq_some_iff.mp e1).1
    rw [List.length_append, List.length_singleton] at l1
    have ej : j = ps.length := by omega
    subst ej
    rw [List.getElem?_append_right (Nat.le_refl _), Nat.sub_self] at e1
    rw [List.getElem?_append_right (by rw [h.1]; exact Nat.le_refl _), h.1, Nat.sub_self] at e2
    cases Option.some.inj e1
    cases Option.some.inj e2
    exact ⟨b, h1, h2⟩
theorem Kp.putF {G H : Hp} {E : Addr} {o : HO} (k : Kp G H) (n : G E = none) : Kp G (upd H E o) := fun a u e t => by
  rw [upd_ne (ne_of_none e n)]
  exact k a u e t
/-- pairs of a word and a tuple in the heap -/
inductive PWs (x : Str) (H : Hp) : List V → List (List Int) → Prop
  | nil : PWs x H [] []
  | cons {p r : Addr} {q : List Int} {vs : List V} {qs : List (List Int)} : H p = some (.tup [.str x, .ref r]) → H r = some (.tup (q.map V.int)) → PWs x H vs qs → PWs x H (.ref p :: vs) (q :: qs)
theorem PWs.mono {x : Str} {H H' : Hp} (t : TK H H') : ∀ {vs : List V} {qs : List (List Int)}, PWs x H vs qs → PWs x H' vs qs
  | _, _, .nil => .nil
  | _, _, .cons h1 h2 k => .cons (t _ _ h1) (t _ _ h2) (k.mono t)
theorem PWs.append {x : Str} {H : Hp} : ∀ {vs us : List V} {qs rs : List (List Int)}, PWs x H vs qs → PWs x H us rs → PWs x H (vs ++ us) (qs ++ rs)
  | _, _, _, _, .nil, k => k
  | _, _, _, _, .cons h1 h2 k, z => .cons h1 h2 (k.append z)
theorem PWs.td {K : PySem.W.Frag} {x : Str} {H : Hp} : ∀ {vs : List V} {qs : List (List Int)}, PWs x H vs qs → TdAll K H vs (qs.map (ppd x))
  | _, _, .nil => .nil
  | _, _, .cons (q := q) h1 h2 k => .cons (.tup (SqT.of h1) (.cons (.str x) (.cons (.tup (SqT.of h2) (td_ints q)) .nil))) k.td
section
variable {P : Program} {w : World} {K : PySem.W.Frag} {mg : Str → Option Value} {base : Heap}
theorem run_law (T : Top K mg) {s : Shared} {H : Hp} {a : Addr} {ns : List Int} (TA : GxR.TabB base mg T.cA T.PA) (TR : GxR.TabB base mg T.cR T.PR) (TY : GxR.TabB base mg T.cY T.PY) (TS : GxR.TabB base mg T.cS T.PS) (e0 : Env0 P w K mg base callerA [] s H) (hA : H T.PA = some (.tbl #[])) (hR : H T.PR = some (.tbl #[])) (hY : H T.PY = some (.tbl #[])) (hZ : H T.PS = some (.tbl #[])) (hS : SqL K H a (ns.map V.int)) (hlen : ns.length ≤ 63) (room : Room 7 callerA) (bind : ∀ (s : Shared) (u : Value), BindsTo s T.d_law ⟨[u], []⟩ [("_law_script", u)]) :
    codeAny (model P w) callerA (.call (.ref T.a_law) ⟨[.ref a], []⟩) (CR CX0 [] P w H s (fun v _ => v = .bl true) E0) s := by
  have G_Lbegin : FnOk P w K mg base CX0 1 _ _ _ _ := ok_begin T
  have G_Lnext : FnOk P w K mg base CX0 1 _ _ _ _ := ok_nextD T
  have G_Lforest : FnOk P w K mg base CX0 3 _ _ _ _ := ok_forest T
  have G_Lpart : FnOk P w K mg base CX0 1 _ _ _ _ := ok_lpart T
  have G_Lrows : FnOk P w K mg base CX0 1 _ _ _ _ := ok_lrows T
  have G_Lalltuples : FnOk P w K mg base CX0 1 _ _ _ _ := ok_ltuples T
  have G_wayof : FnOk P w K mg base CX0 3 _ _ _ _ := ok_wayof T
  have G_tiedpaper : FnOk P w K mg base CX0 4 _ _ _ _ := ok_paper T
  have G_showstied : FnOk P w K mg base CX0 5 _ _ _ _ := ok_showsA T ⟨TA, TR, TY, TS⟩
  have tb0 := tbs0 T hA hR hY hZ
  obtain ⟨oc, od, kV, doc, pm, an, cdv, ct, osl, ed, lk, hcd⟩ := T.F_law.ex
  rw [ed] at lk
  refine LamX.run_ofS (k := 6) (N := ["_law_script", "_law_draws", "_law_turn", "_law_forest_here", "_law_many_here", "_law_parts", "_law_point", "_law_a", "_law_rows_here", "_law_tuples", "_law_b", "_law_ways", "_law_row", "_law_aparts", "_law_some", "_law_due", "_law_part_here"]) (ps := ["_law_script"]) (us := [.ref a]) (vs := [.ref a]) lk hcd sc_law room e0 (by rw [← ed]; exact bind s _) (.cons rfl .nil) rfl fun hr => ?_
  refine ⟨_, PSs.nox (pss_cons (ps_set (i := 1) sc_law.nd rfl (.inl rfl) (pe_call G_Lbegin (hr.mono (by decide)) (by rfl) T.g_Lbegin T.F_Lbegin.kp T.b_Lbegin .nil pass0 (pa_cons (pv 0) pa_nil)))
      (pss_cons (ps_for PassesOwn.never rfl (pi_range1 (by rfl) T.m_range (pa_cons (pe_op op_add pe_int (pe_callB call_len_seq (by rfl) T.m_len PySem.boot_len (pa_cons (pe_slice sl_list (pv 0) po_none (po_some pe_int)) pa_nil))) pa_nil)) (pg_name (i := 2) sc_law.nd rfl (.inl rfl)) (pss_cons (ps_set (i := 3) sc_law.nd rfl (.inr rfl) (pe_call G_Lforest (hr.mono (by decide)) (by rfl) T.g_Lforest T.F_Lforest.kp T.b_Lforest .nil pass0 (pa_cons (pv 1) (pa_cons pe_int pa_nil))))
      (pss_cons (ps_set (i := 4) sc_law.nd rfl (.inl rfl) (pe_callB call_len_seq (by rfl) T.m_len PySem.boot_len (pa_cons (pe_ix ix_tup (pv 3) pe_int (fun _ _ => rfl)) pa_nil)))
      (pss_cons (ps_set (i := 5) sc_law.nd rfl (.inl rfl) (pe_callTy (call_dictT rfl (u2 hr)) (by rfl) T.m_dict (by decide +kernel) (pa_cons (pe_lc (own := [("_law_point", 6)]) (g := gName 6) (tt := tYes) (by rfl) sc_law.nd (pi_range1 (by rfl) T.m_range (pa_cons (pv 4) pa_nil)) (blkOk_by (own := [("_law_point", 6)]) (N := ["_law_script", "_law_draws", "_law_turn", "_law_forest_here", "_law_many_here", "_law_parts", "_law_point", "_law_a", "_law_rows_here", "_law_tuples", "_law_b", "_law_ways", "_law_row", "_law_aparts", "_law_some", "_law_due", "_law_part_here"]) (sc := defScope s_law) (by decide +kernel)) (fun _ _ _ _ _ => (pg_name (i := 6) sc_law.nd rfl (.inl rfl))) (fun _ _ _ _ _ => pts_nil) (fun _ _ _ _ _ => (pe_tup (pa_cons (pe_callTy (call_tuple_ofK (K := K) rfl) (by rfl) T.m_tuple (by decide +kernel) (pa_cons (pe_call G_Lpart (hr.mono (by decide)) (by rfl) T.g_Lpart T.F_Lpart.kp T.b_Lpart .nil pass0 (pa_cons (pv 3) (pa_cons (pv 6) pa_nil))) pa_nil)) (pa_cons pe_bl pa_nil))))) pa_nil)))
      (pss_cons (ps_set (i := 7) sc_law.nd rfl (.inr rfl) (pe_call G_Lnext (hr.mono (by decide)) (by rfl) T.g_Lnext T.F_Lnext.kp T.b_Lnext .nil pass0 (pa_cons (pv 1) (pa_cons (pv 4) pa_nil))))
      (pss_cons (ps_par (i := 8) (j := 9) (by rfl) sc_law.nd rfl rfl (by decide) rfl rfl (pa_cons (pe_call G_Lrows (hr.mono (by decide)) (by rfl) T.g_Lrows T.F_Lrows.kp T.b_Lrows .nil pass0 (pa_cons (pv 3) (pa_cons (pv 7) pa_nil))) (pa_cons (pe_call G_Lalltuples (hr.mono (by decide)) (by rfl) T.g_Lalltuples T.F_Lalltuples.kp T.b_Lalltuples .nil pass0 (pa_cons (pv 4) pa_nil)) pa_nil)) (by rfl))
      (pss_one (ps_for PassesOwn.never rfl (pi_range1 (by rfl) T.m_range (pa_cons (pv 4) pa_nil)) (pg_name (i := 10) sc_law.nd rfl (.inr rfl)) (pss_cons (ps_setLc (i := 11) (own := [("_law_row", 12)]) (g := gName 12) (by rfl) sc_law.nd rfl rfl (sw_true rfl rfl rfl (by decide +kernel)) (pi_list (pv 8)) (blkOk_by (own := [("_law_row", 12)]) (N := ["_law_script", "_law_draws", "_law_turn", "_law_forest_here", "_law_many_here", "_law_parts", "_law_point", "_law_a", "_law_rows_here", "_law_tuples", "_law_b", "_law_ways", "_law_row", "_law_aparts", "_law_some", "_law_due", "_law_part_here"]) (sc := defScope s_law) (by decide +kernel)) (fun _ _ _ _ _ => (pg_name (i := 12) sc_law.nd rfl (.inl rfl))) (fun _ _ _ _ _ => (pts_one (pt_val (pe_call G_showstied (hr.mono (by decide)) (by rfl) T.g_showstied T.F_showstied.kp T.b_showstied .nil pass0 (pa_cons (pv 3) (pa_cons (pv 7) (pa_cons (pv 10) (pa_cons (pe_tup (pa_cons pe_str (pa_cons (pv 12) pa_nil))) pa_nil)))))))) (fun _ _ _ _ _ => (pv 12)))
      (pss_cons (ps_setLc (i := 13) (own := [("_law_some", 14)]) (g := gName 14) (by rfl) sc_law.nd rfl rfl (sw_true rfl rfl rfl (by decide +kernel)) (pi_list (pv 9)) (blkOk_by (own := [("_law_some", 14)]) (N := ["_law_script", "_law_draws", "_law_turn", "_law_forest_here", "_law_many_here", "_law_parts", "_law_point", "_law_a", "_law_rows_here", "_law_tuples", "_law_b", "_law_ways", "_law_row", "_law_aparts", "_law_some", "_law_due", "_law_part_here"]) (sc := defScope s_law) (by decide +kernel)) (fun _ _ _ _ _ => (pg_name (i := 14) sc_law.nd rfl (.inl rfl))) (fun _ _ _ _ _ => (pts_one (pt_val (pe_call G_showstied (hr.mono (by decide)) (by rfl) T.g_showstied T.F_showstied.kp T.b_showstied .nil pass0 (pa_cons (pv 3) (pa_cons (pv 7) (pa_cons (pv 10) (pa_cons (pe_tup (pa_cons pe_str (pa_cons (pv 14) pa_nil))) pa_nil)))))))) (fun _ _ _ _ _ => (pv 14)))
      (pss_cons (ps_if (PW.pt (pw_or (pt_cmpR (op_neD hr.units) (pv 11) (pe_lc (own := [("_law_row", 12)]) (g := gName 12) (by rfl) sc_law.nd (pi_list (pv 8)) (blkOk_by (own := [("_law_row", 12)]) (N := ["_law_script", "_law_draws", "_law_turn", "_law_forest_here", "_law_many_here", "_law_parts", "_law_point", "_law_a", "_law_rows_here", "_law_tuples", "_law_b", "_law_ways", "_law_row", "_law_aparts", "_law_some", "_law_due", "_law_part_here"]) (sc := defScope s_law) (by decide +kernel)) (fun _ _ _ _ _ => (pg_name (i := 12) sc_law.nd rfl (.inl rfl))) (fun _ _ _ _ _ => (pts_one (pt_cmpR op_eq (pe_ix (ix_tupK (K := K) rfl) (pv 12) (pe_un un_neg pe_int) (fun _ _ => rfl)) (pv 10) (nomark _)))) (fun _ _ _ _ _ => (pv 12))) (nomark _)) (pw_or1 (pt_cmpR op_gt (pe_callB call_len_seq (by rfl) T.m_len PySem.boot_len (pa_cons (pv 11) pa_nil)) pe_int (nomark _))))) (pss_one (ps_ret pe_bl)) pss_nil)
      (pss_cons (ps_set (i := 15) sc_law.nd rfl (.inl rfl) pe_int)
      (pss_cons (ps_lock (ps_for PassesOwn.never rfl (pi_keys (pv 5)) (pg_name (i := 16) sc_law.nd rfl (.inl rfl)) (pss_one (ps_set (i := 15) sc_law.nd rfl (.inl rfl) (pe_op op_mul (pv 15) (pe_ix ix_list (pe_lst (pa_cons pe_int (pa_cons pe_int pa_nil))) (pe_callTy call_int1 (by rfl) T.m_int (by decide +kernel) (pa_cons (pe_or (pe_cmpR op_in_seq (pv 7) (pv 16) (by rfl)) (pe_one (pe_cmpR op_in_seq (pv 10) (pv 16) (by rfl)))) pa_nil)) (fun _ _ => rfl)))))))
      (pss_cons (ps_if (pt_mid (PW.pt (pw_or (pt_cmpR op_ne (pe_callB call_len_seq (by rfl) T.m_len PySem.boot_len (pa_cons (pv 13) pa_nil)) (pe_op op_mul (pv 15) (pe_callTy call_int1 (by rfl) T.m_int (by decide +kernel) (pa_cons (pe_cmpR (op_eqD hr.units) (pv 11) (pe_lst pa_nil) (nomark _)) pa_nil))) (nomark _)) (pw_or1 (pt_cmpR (op_neD hr.units) (pe_call G_wayof (hr.mono (by decide)) (by rfl) T.g_wayof T.F_wayof.kp T.b_wayof .nil pass0 (pa_cons (pv 3) (pa_cons (pv 7) (pa_cons (pv 10) pa_nil)))) (pe_ix ix_list (pe_op op_cat (pv 11) (pe_lst (pa_cons pe_non pa_nil))) pe_int (fun _ _ => rfl)) (nomark _)))))) (pss_one (ps_ret pe_bl)) pss_nil)
      (pss_one (ps_if (pt_cmpR (op_notInD (u65 hr)) (pe_call G_tiedpaper (hr.mono (by decide)) (by rfl) T.g_tiedpaper T.F_tiedpaper.kp T.b_tiedpaper .nil pass0 (pa_cons (pv 3) (pa_cons (pv 7) (pa_cons (pv 10) pa_nil)))) (pe_op op_cat (pe_lc (own := [("_law_row", 12)]) (g := gName 12) (tt := tYes) (by rfl) sc_law.nd (pi_list (pv 11)) (blkOk_by (own := [("_law_row", 12)]) (N := ["_law_script", "_law_draws", "_law_turn", "_law_forest_here", "_law_many_here", "_law_parts", "_law_point", "_law_a", "_law_rows_here", "_law_tuples", "_law_b", "_law_ways", "_law_row", "_law_aparts", "_law_some", "_law_due", "_law_part_here"]) (sc := defScope s_law) (by decide +kernel)) (fun _ _ _ _ _ => (pg_name (i := 12) sc_law.nd rfl (.inl rfl))) (fun _ _ _ _ _ => pts_nil) (fun _ _ _ _ _ => (pe_tup (pa_cons pe_str (pa_cons (pv 12) pa_nil))))) (pe_lc (own := [("_law_some", 14)]) (g := gName 14) (tt := tYes) (by rfl) sc_law.nd (pi_list (pv 13)) (blkOk_by (own := [("_law_some", 14)]) (N := ["_law_script", "_law_draws", "_law_turn", "_law_forest_here", "_law_many_here", "_law_parts", "_law_point", "_law_a", "_law_rows_here", "_law_tuples", "_law_b", "_law_ways", "_law_row", "_law_aparts", "_law_some", "_law_due", "_law_part_here"]) (sc := defScope s_law) (by decide +kernel)) (fun _ _ _ _ _ => (pg_name (i := 14) sc_law.nd rfl (.inl rfl))) (fun _ _ _ _ _ => pts_nil) (fun _ _ _ _ _ => (pe_tup (pa_cons pe_str (pa_cons (pv 14) pa_nil)))))) (by rfl)) (pss_one (ps_ret pe_bl)) pss_nil))))))))))))))))
      (pss_one (ps_ret pe_bl)))), ?_⟩
  refine ⟨_, rfl, a, ns, rfl, hS, fun d c ms H1 s1 nd D1 => ?_⟩
  refine ⟨_, rfl, 2, rfl, a, _, rfl, s1.seq hS, fun p np => ⟨p, _, rfl, .inl (SqL.of upd_same), _, _, rfl, rfl, _, rfl, by omega, ?_, ?_⟩⟩
  · have z := cutV_length (ns.map V.int) none (some 2)
    rw [List.length_map] at z
    omega
  have B1 : DrAt H1 d c := ⟨ms, D1⟩
  refine for_range (lo := 0) (n := _) (fun i σ H2 => ∃ y2 y3 y4 y5 y7 y8 y9 y10 y11 y13 y15 y16, σ = [some (.ref a), some (.ref d), y2, y3, y4, y5, none, y7, y8, y9, y10, y11, none, y13, none, y15, y16] ∧ DrAt H2 d c ∧ Tb T.tbs H2) ⟨none, none, none, none, none, none, none, none, none, none, none, none, rfl, B1.new np, (tb0.same s1).same (same_new np)⟩ ?_ ?_
  · rintro i σ H2 hi ⟨y2, y3, y4, y5, y7, y8, y9, y10, y11, y13, y15, y16, rfl, B2, tb2⟩
    refine ⟨_, rfl, d, c, 9, rfl, B2, by decide, by decide, fun f pts ts H3 fok hm ord B3 k3 fx => ?_⟩
    have few := fok.few
    have pos := fok.pos
    obtain ⟨pa, ta, xs, ys, f1, f2, f3, f4, f5⟩ := fx.ex
    have lx := f3.length
    rw [List.length_map] at lx
    refine ⟨_, rfl, f, _, _, _, rfl, rfl, f1, atI_nat (j := 0) rfl, pa, xs, rfl, .inr f2, ?_⟩
    clear f1 f2 f3 f4 f5
    rw [lx]
    have n9 : pts.length ≤ 9 := by omega
    have tb3 := tb2.but B2 k3
    -- parts
    refine ⟨_, rfl, _, rfl, (by omega), (by omega), fun D nD => ?_⟩
    refine lc_range (lo := 0) (n := pts.length) (fun i H4 => ∃ ps : List Addr, H4 D = some (.lst (ps.map V.ref)) ∧ TPairs H4 ps ((List.range i).map fun j : Nat => keyL (partL ts pts.length (j : Int))) ∧ ps.length ≤ i ∧ Same H3 H4) ⟨[], upd_same, ⟨rfl, fun j p k e => by simp at e⟩, Nat.le_refl _, same_new nD⟩ ?_ ?_
    · rintro j H4 hj ⟨ps, hD, tp, lp, s4⟩
      refine ⟨rfl, yes_ite ?_⟩
      refine ⟨_, rfl, _, rfl, .ref f, 0 + (j : Int), pts, ts, rfl, (fx.same s4).td, fok, by omega, by omega, fun L l H5 s5 ip hL => ?_⟩
      refine ⟨L, _, rfl, .inl ⟨SqL.of hL, fun t nt => ?_⟩⟩
      have st := same_new (o := .tup (l.map V.int)) nt
      refine ⟨(by show 2 ≤ sizeLine; decide), fun p np => ?_⟩
      have sp := same_new (o := .tup [V.ref t, V.bl true]) np
      have s45 := s5.trans (st.trans sp)
      have hD5 := s45 _ _ hD
      refine ⟨_, hD5, szl (by rw [List.length_map]; omega), ps ++ [p], ?_, ?_, by rw [List.length_append]; exact Nat.succ_le_succ lp, same_put (s4.trans s45) nD⟩
      · rw [upd_same, List.map_append]
        rfl
      · rw [List.range_succ, List.map_append]
        have el : l = partL ts pts.length (j : Int) := by
          rw [Int.zero_add] at ip
          exact part_unique ip (is_partL fok (by omega) (by omega))
        refine ((tp.mono (.same s45)).snoc (b := t) upd_same ?_).mono (TK.put hD5)
        rw [keyL_kV, ← el]
        exact sp _ _ upd_same
    rintro H4 ⟨ps, hD, tp, lp, s4⟩
    refine ⟨D, ps, _, rfl, hD, tp, fun PP out ond omem nPP => ?_⟩
    have s5 := s4.trans (same_new (o := .dT (out.map fun k => (k, V.bl true))) nPP)
    have hP : upd H4 PP (.dT (out.map fun k => (k, V.bl true))) PP = some (.dT (out.map fun k => (k, V.bl true))) := upd_same
    generalize upd H4 PP (.dT (out.map fun k => (k, V.bl true))) = H5 at s5 hP ⊢
    have B5 := B3.same s5
    have fx5 := fx.same s5
    have tb5 := tb3.same s5
    clear hD tp lp s4 nD nPP
    refine ⟨_, rfl, _, rfl, d, c, _, rfl, B5, by omega, by omega, fun x H6 x0 x1 B6 k6 => ?_⟩
    have hP6 : H6 PP = some (.dT (out.map fun k => (k, V.bl true))) := by
      obtain ⟨kvs, e⟩ := B5.dk
      exact k6 _ _ hP (ne_of hP e (by intro z; cases z))
    have fx6 := fx5.but B5 k6
    have tb6 := tb5.but B5 k6
    -- rows, tuples
    refine ⟨_, rfl, _, rfl, .ref f, x, pts, ts, rfl, fx6.td, fok, ord, x0, x1, fun E1 vs1 qs i1 H7 s7 hE1 R1 BF fin ln => ?_⟩
    refine ⟨_, rfl, pts.length, rfl, n9, fun E2 vs2 H8 s8 hE2 R2 => ⟨_, _, rfl, ?_⟩⟩
    have hE1 := s8 _ _ hE1
    have R1 := R1.mono (.same s8)
    have B8 := (B6.same s7).same s8
    have fx8 := (fx6.same s7).same s8
    have tb8 := (tb6.same s7).same s8
    have hP8 := s8 _ _ (s7 _ _ hP6)
    have l1 := R1.len
    have l2 := R2.len
    have few2 := subs_few n9
    refine ⟨_, rfl, _, rfl, (by omega), (by omega), for_range (lo := 0) (n := pts.length) (fun j σ G => ∃ y2 y10 y11 y13 y15 y16, σ = [some (.ref a), some (.ref d), y2, some (.ref f), some (.int (pts.length : Int)), some (.ref PP), none, some (.int x), some (.ref E1), some (.ref E2), y10, y11, none, y13, none, y15, y16] ∧ Kp H8 G ∧ Tb T.tbs G) ⟨_, _, _, _, _, _, rfl, Kp.refl _, tb8⟩ ?_ ?_⟩
    · rintro j σ G hj ⟨z2, z10, z11, z13, z15, z16, rfl, kg, tbg⟩
      have fxg := fx8.kp kg
      have hE1g := kg _ _ hE1 (by intro ps z; cases z)
      have hE2g := kg _ _ hE2 (by intro ps z; cases z)
      have hPg := kg _ _ hP8 (by intro ps z; cases z)
      have R1g := R1.mono (.kp kg)
      have R2g := R2.mono (.kp kg)
      -- the ways that are shown
      refine ⟨_, rfl, E1, rfl, ⟨_, SqL.of hE1g⟩, fun F1 nF1 => ?_⟩
      refine lc_list (xs := vs1) (fun i G' => ∃ ws : List V, G' F1 = some (.lst ws) ∧ Rws G' ws ((qs.take i).filter (lastB (0 + (j : Int)))) ∧ ws.length ≤ i ∧ Kp G G' ∧ Tb T.tbs G') ⟨[], upd_same, by rw [List.take_zero]; exact .nil, Nat.le_refl _, Kp.of_same (same_new nF1), tbg.same (same_new nF1)⟩ (fun i G' _ z => ?_) ?_ ?_
      · obtain ⟨_, _, _, _, kk, _⟩ := z
        exact SqL.of (kk _ _ hE1g (by intro ps z; cases z))
      · rintro i v G' hv ⟨ws, hF, Rw, lw, kk, tbk⟩
        have hi := (List.getElem?_eq_some_iff.mp hv).1
        obtain ⟨r, q, rfl, eq, hq⟩ := R1g.get hv
        have mq := List.mem_of_getElem? eq
        obtain ⟨cq, wq⟩ := BF.way q mq
        have lq := way_len fok x0 x1 wq
        refine ⟨rfl, ?_⟩
        refine ⟨_, rfl, _, rfl, _, rfl, _, rfl, (by show 2 ≤ sizeLine; decide), fun p np => ?_⟩
        have sp := same_new (o := .tup [V.str "way", V.ref r]) np
        have kp := kk.same sp
        have hqp := kp _ _ hq (by intro ps z; cases z)
        have pv1 : PapV (fun _ => True) (upd G' p (.tup [V.str "way", V.ref r])) (.ref p) (some ("way", q)) := by
          have z := PapV.two (N := fun _ => True) (H := upd G' p (.tup [V.str "way", V.ref r])) (w := "way") (p := p) (t := r) (ys := q.map V.int) trivial trivial upd_same hqp (fun y m => by
            obtain ⟨u, _, rfl⟩ := List.mem_map.mp m
            exact .no (.int u)) (by rw [List.length_map]; omega)
          rw [intsOf_map] at z
          exact z
        refine ⟨.ref f, x, 0 + (j : Int), .ref p, fun _ => True, some ("way", q), pts, ts, rfl, (fxg.kp kp).td, pv1, tbk.same sp, fun G3 k3 tb3 => ⟨_, rfl, ?_⟩⟩
        rw [show papB pts.length ts x (0 + (j : Int)) (some ("way", q)) = lastB (0 + (j : Int)) q from way_q ord BF mq]
        have k13 := (Kp.of_same sp).trans k3
        have hF3 := k13 _ _ hF (by intro ps z; cases z)
        cases e : lastB (0 + (j : Int)) q with
        | true =>
          refine iteT ⟨_, rfl, _, hF3, szl (by omega), ws ++ [.ref r], upd_same, ?_, by rw [List.length_append]; exact Nat.succ_le_succ lw, (kk.trans k13).putF nF1, tb_putL tb3 hF3⟩
          rw [take_at eq, List.filter_append, List.filter_cons, if_pos e, List.filter_nil]
          exact ((Rw.mono (.kp k13)).append (.one (k3 _ _ hqp (by intro ps z; cases z)))).mono (TK.put hF3)
        | false =>
          refine iteF ⟨ws, hF3, ?_, by omega, kk.trans k13, tb3⟩
          rw [take_at eq, List.filter_append, List.filter_cons, if_neg (by rw [e]; decide), List.filter_nil, List.append_nil]
          exact Rw.mono (.kp k13)
      rintro G2 ⟨ws, hF1, Rw, lw, k2, tb2'⟩
      rw [l1, List.take_length] at Rw
      have hE1h := k2 _ _ hE1g (by intro ps z; cases z)
      have hE2h := k2 _ _ hE2g (by intro ps z; cases z)
      have hPh := k2 _ _ hPg (by intro ps z; cases z)
      have R1h := R1g.mono (.kp k2)
      have R2h := R2g.mono (.kp k2)
      have fxh := fxg.kp k2
      -- the tuples that are shown
      refine ⟨_, rfl, E2, rfl, ⟨_, SqL.of hE2h⟩, fun F2 nF2 => ?_⟩
      refine lc_list (xs := vs2) (fun i G' => ∃ ws : List V, G' F2 = some (.lst ws) ∧ Rws G' ws (((subs pts.length).take i).filter (apartQ pts.length ts x (0 + (j : Int)))) ∧ ws.length ≤ i ∧ Kp G2 G' ∧ Tb T.tbs G') ⟨[], upd_same, by rw [List.take_zero]; exact .nil, Nat.le_refl _, Kp.of_same (same_new nF2), tb2'.same (same_new nF2)⟩ (fun i G' _ z => ?_) ?_ ?_
      · obtain ⟨_, _, _, _, kk, _⟩ := z
        exact SqL.of (kk _ _ hE2h (by intro ps z; cases z))
      · rintro i v G' hv ⟨ws, hF, Rw, lw, kk, tbk⟩
        have hi := (List.getElem?_eq_some_iff.mp hv).1
        obtain ⟨r, q, rfl, eq, hq⟩ := R2h.get hv
        have mq := List.mem_of_getElem? eq
        have lq := subs_short mq
        refine ⟨rfl, ?_⟩
        refine ⟨_, rfl, _, rfl, _, rfl, _, rfl, (by show 2 ≤ sizeLine; decide), fun p np => ?_⟩
        have sp := same_new (o := .tup [V.str "apart", V.ref r]) np
        have kp := kk.same sp
        have hqp := kp _ _ hq (by intro ps z; cases z)
        have pv1 : PapV (fun _ => True) (upd G' p (.tup [V.str "apart", V.ref r])) (.ref p) (some ("apart", q)) := by
          have z := PapV.two (N := fun _ => True) (H := upd G' p (.tup [V.str "apart", V.ref r])) (w := "apart") (p := p) (t := r) (ys := q.map V.int) trivial trivial upd_same hqp (fun y m => by
            obtain ⟨u, _, rfl⟩ := List.mem_map.mp m
            exact .no (.int u)) (by rw [List.length_map]; omega)
          rw [intsOf_map] at z
          exact z
        refine ⟨.ref f, x, 0 + (j : Int), .ref p, fun _ => True, some ("apart", q), pts, ts, rfl, (fxh.kp kp).td, pv1, tbk.same sp, fun G3 k3 tb3 => ⟨_, rfl, ?_⟩⟩
        rw [show papB pts.length ts x (0 + (j : Int)) (some ("apart", q)) = apartQ pts.length ts x (0 + (j : Int)) q from rfl]
        have k13 := (Kp.of_same sp).trans k3
        have hF3 := k13 _ _ hF (by intro ps z; cases z)
        cases e : apartQ pts.length ts x (0 + (j : Int)) q with
        | true =>
          refine iteT ⟨_, rfl, _, hF3, szl (by omega), ws ++ [.ref r], upd_same, ?_, by rw [List.length_append]; exact Nat.succ_le_succ lw, (kk.trans k13).putF nF2, tb_putL tb3 hF3⟩
          rw [take_at eq, List.filter_append, List.filter_cons, if_pos e, List.filter_nil]
          exact ((Rw.mono (.kp k13)).append (.one (k3 _ _ hqp (by intro ps z; cases z)))).mono (TK.put hF3)
        | false =>
          refine iteF ⟨ws, hF3, ?_, by omega, kk.trans k13, tb3⟩
          rw [take_at eq, List.filter_append, List.filter_cons, if_neg (by rw [e]; decide), List.filter_nil, List.append_nil]
          exact Rw.mono (.kp k13)
      rintro G3 ⟨us, hF2, Ru, lu, k3', tb3'⟩
      rw [l2, List.take_length] at Ru
      have hE1i := k3' _ _ hE1h (by intro ps z; cases z)
      have hF1i := k3' _ _ hF1 (by intro ps z; cases z)
      have hPi := k3' _ _ hPh (by intro ps z; cases z)
      have R1i := R1h.mono (.kp k3')
      have Rwi := Rw.mono (.kp k3')
      have fxi := fxh.kp k3'
      have kg3 := (kg.trans k2).trans k3'
      clear hF1 Rw hE1h R1h hE2h R2h hPh fxh hE1g hE2g hPg R1g R2g fxg
      -- the rows that end there
      refine ⟨_, rfl, ?_⟩
      refine ⟨_, rfl, E1, rfl, ⟨_, SqL.of hE1i⟩, fun F3 nF3 => ?_⟩
      refine lc_list (xs := vs1) (fun i G' => ∃ ws : List V, G' F3 = some (.lst ws) ∧ Rws G' ws ((qs.take i).filter (lastB (0 + (j : Int)))) ∧ ws.length ≤ i ∧ Same G3 G') ⟨[], upd_same, by rw [List.take_zero]; exact .nil, Nat.le_refl _, same_new nF3⟩ (fun i G' _ z => ?_) ?_ ?_
      · obtain ⟨_, _, _, _, kk⟩ := z
        exact SqL.of (kk _ _ hE1i)
      · rintro i v G' hv ⟨ws, hF, Rw, lw, kk⟩
        have hi := (List.getElem?_eq_some_iff.mp hv).1
        obtain ⟨r, q, rfl, eq, hq⟩ := R1i.get hv
        obtain ⟨cq, wq⟩ := BF.way q (List.mem_of_getElem? eq)
        have gl := wq.wk.getLast
        have hlast : atI (q.map V.int) (-1) = some (.int cq) := by
          have ne := wq.wk.ne_nil
          obtain ⟨q1, z, ez⟩ : ∃ q' z, q = q' ++ [z] := ⟨q.dropLast, q.getLast ne, (List.dropLast_concat_getLast ne).symm⟩
          rw [ez, List.getLast?_concat] at gl
          cases Option.some.inj gl
          rw [ez, List.map_append]
          exact atI_last _ _
        refine ⟨rfl, ?_⟩
        refine ⟨_, rfl, _, rfl, r, _, _, _, rfl, rfl, SqT.of (kk _ _ hq), hlast, _, rfl, rfl, _, rfl, ite2 (fun e => ?_) (fun e => ?_)⟩
        · have e : lastB (0 + (j : Int)) q = true := by
            unfold lastB
            rw [gl, V.int.inj (of_decide_eq_true e)]
            exact decide_eq_true rfl
          refine ⟨_, rfl, _, hF, szl (by omega), ws ++ [.ref r], upd_same, ?_, by rw [List.length_append]; exact Nat.succ_le_succ lw, same_put kk nF3⟩
          rw [take_at eq, List.filter_append, List.filter_cons, if_pos e, List.filter_nil]
          exact (Rw.append (.one (kk _ _ hq))).mono (TK.put hF)
        · have e : lastB (0 + (j : Int)) q = false := by
            unfold lastB
            rw [gl]
            exact decide_eq_false fun z => e (by rw [Option.some.inj z]; exact decide_eq_true rfl)
          refine ⟨ws, hF, ?_, by omega, kk⟩
          rw [take_at eq, List.filter_append, List.filter_cons, if_neg (by rw [e]; decide), List.filter_nil, List.append_nil]
          exact Rw
      rintro G4 ⟨ws3, hF3, Rw3, lw3, s4⟩
      rw [l1, List.take_length] at Rw3
      have Rw4 := Rwi.mono (.same s4)
      refine ⟨.list (rowsD (qs.filter (lastB (0 + (j : Int))))), .list (rowsD (qs.filter (lastB (0 + (j : Int))))), .lst (SqL.of (s4 _ _ hF1i)) (Rw4.td (K := K)).dp, .lst (SqL.of hF3) (Rw3.td (K := K)).dp, shaped_rows _, shaped_rows _, _, rfl, ?_⟩
      rw [same_rows]
      refine iteF ?_
      have one := ways_le fok.tree BF (0 + (j : Int))
      have lws := Rwi.len
      refine ⟨_, rfl, F1, _, rfl, .inl (SqL.of (s4 _ _ hF1i)), _, _, rfl, rfl, _, rfl, ite2 (fun z => ?_) (fun _ => ?_)⟩
      · exfalso
        have z : (ws.length : Int) > 1 := of_decide_eq_true z
        omega
      have hF14 := s4 _ _ hF1i
      have hF24 := s4 _ _ hF2
      have hP4 := s4 _ _ hPi
      have Ru4 := Ru.mono (.same s4)
      have fx4' := fxi.same s4
      have tb4' := tb3'.same s4
      have kg4 := kg3.same s4
      clear hF3 Rw3 lw3 hE1i hF1i hPi R1i Rwi fxi Ru hF2 s4 nF3 ws3 kg3
      -- how many are due
      refine ⟨PP, _, hP4, trivial, fun od => ?_⟩
      refine ⟨_, rfl, PP, od, rfl, .inr ⟨_, upd_same, ?_⟩⟩
      have ej : (0 + (j : Int)) = (j : Int) := Int.zero_add _
      refine for_it walk_keysT (fun i σ G' => ∃ y16, σ = [some (.ref a), some (.ref d), z2, some (.ref f), some (.int (pts.length : Int)), some (.ref PP), none, some (.int x), some (.ref E1), some (.ref E2), some (.int (0 + (j : Int))), some (.ref F1), none, some (.ref F2), none, some (.int ((prodL (fK x (j : Int)) (out.take i) : Nat) : Int)), y16] ∧ Same (upd G4 PP (.frz od (.dT (out.map fun k => (k, V.bl true))))) G') ⟨_, rfl, fun _ _ e => e⟩ (fun i σ G' _ h => ?_) ?_ ?_
      · obtain ⟨_, _, sG⟩ := h
        exact sG _ _ upd_same
      · rintro i v σ G' G'' hi ⟨y16, rfl, sG⟩ ⟨rfl, k, vv, q, ek, rfl, hq⟩
        rw [List.getElem?_map] at ek
        obtain ⟨k', ek', e2⟩ := Option.map_eq_some_iff.mp ek
        cases e2
        obtain ⟨jj, hjj, rfl⟩ := List.mem_map.mp ((omem k).mp (List.mem_of_getElem? ek'))
        rw [keyL_kV] at hq
        have step : ∀ m : Nat, m = fK x (j : Int) (keyL (partL ts pts.length (jj : Int))) → ((prodL (fK x (j : Int)) (out.take (i + 1)) : Nat) : Int) = ((prodL (fK x (j : Int)) (out.take i) : Nat) : Int) * (m : Int) := fun m em => by
          rw [take_at ek', prodL_snoc, ← em, Int.natCast_mul]
        refine ⟨_, rfl, (by show 2 ≤ sizeLine; decide), fun L nL => ?_⟩
        have sL := same_new (o := .lst [V.int 2, V.int 1]) nL
        have hL : upd G'' L (.lst [V.int 2, V.int 1]) L = some (.lst [V.int 2, V.int 1]) := upd_same
        have hqL := sL _ _ hq
        have sGL := sG.trans sL
        generalize upd G'' L (.lst [V.int 2, V.int 1]) = GL at sL hL hqL sGL ⊢
        have fin1 : fK x (j : Int) (keyL (partL ts pts.length (jj : Int))) = 1 → ∃ y16, [some (V.ref a), some (.ref d), z2, some (.ref f), some (.int (pts.length : Int)), some (.ref PP), none, some (.int x), some (.ref E1), some (.ref E2), some (.int (0 + (j : Int))), some (.ref F1), none, some (.ref F2), none, some (.int (((prodL (fK x (j : Int)) (out.take i) : Nat) : Int) * 1)), some (.ref q)] = [some (V.ref a), some (.ref d), z2, some (.ref f), some (.int (pts.length : Int)), some (.ref PP), none, some (.int x), some (.ref E1), some (.ref E2), some (.int (0 + (j : Int))), some (.ref F1), none, some (.ref F2), none, some (.int ((prodL (fK x (j : Int)) (out.take (i + 1)) : Nat) : Int)), y16] ∧ Same (upd G4 PP (.frz od (.dT (out.map fun k => (k, V.bl true))))) GL := fun e => ⟨_, by rw [step 1 e.symm]; rfl, sGL⟩
        have fin2 : fK x (j : Int) (keyL (partL ts pts.length (jj : Int))) = 2 → ∃ y16, [some (V.ref a), some (.ref d), z2, some (.ref f), some (.int (pts.length : Int)), some (.ref PP), none, some (.int x), some (.ref E1), some (.ref E2), some (.int (0 + (j : Int))), some (.ref F1), none, some (.ref F2), none, some (.int (((prodL (fK x (j : Int)) (out.take i) : Nat) : Int) * 2)), some (.ref q)] = [some (V.ref a), some (.ref d), z2, some (.ref f), some (.int (pts.length : Int)), some (.ref PP), none, some (.int x), some (.ref E1), some (.ref E2), some (.int (0 + (j : Int))), some (.ref F1), none, some (.ref F2), none, some (.int ((prodL (fK x (j : Int)) (out.take (i + 1)) : Nat) : Int)), y16] ∧ Same (upd G4 PP (.frz od (.dT (out.map fun k => (k, V.bl true))))) GL := fun e => ⟨_, by rw [step 2 e.symm]; rfl, sGL⟩
        refine ⟨_, rfl, _, rfl, q, _, rfl, .inr (SqT.of hqL), rfl, flat_ints _, inV (.int x) ((partL ts pts.length (jj : Int)).map V.int), rfl, ?_⟩
        rw [inV_ints]
        by_cases ma : x ∈ partL ts pts.length (jj : Int)
        · rw [decide_eq_true ma]
          refine iteT (.inr ⟨_, rfl, L, _, _, _, rfl, rfl, SqL.of hL, atI_nat (j := 1) rfl, _, _, rfl, rfl, .inr ⟨by decide, by decide⟩, fin1 ?_⟩)
          unfold fK
          exact if_pos (.inl (mem_keyL.mpr ma))
        · rw [decide_eq_false ma]
          refine iteF ?_
          refine ⟨_, rfl, _, rfl, q, _, rfl, .inr (SqT.of hqL), rfl, flat_ints _, ?_⟩
          rw [inV_ints]
          by_cases mb : 0 + (j : Int) ∈ partL ts pts.length (jj : Int)
          · rw [decide_eq_true mb]
            refine .inr ⟨_, rfl, L, _, _, _, rfl, rfl, SqL.of hL, atI_nat (j := 1) rfl, _, _, rfl, rfl, .inr ⟨by decide, by decide⟩, fin1 ?_⟩
            unfold fK
            exact if_pos (.inr (mem_keyL.mpr (ej ▸ mb)))
          · rw [decide_eq_false mb]
            refine .inr ⟨_, rfl, L, _, _, _, rfl, rfl, SqL.of hL, atI_nat (j := 0) rfl, _, _, rfl, rfl, .inr ⟨by decide, by decide⟩, fin2 ?_⟩
            unfold fK
            exact if_neg fun z => z.elim (fun z => ma (mem_keyL.mp z)) fun z => mb (ej.symm ▸ mem_keyL.mp z)
      rintro σ G' ⟨y16, rfl, sG⟩
      refine ⟨sG _ _ upd_same, ?_⟩
      rw [List.length_map, List.take_length]
      have s5 : Same G4 (upd G' PP (.dT (out.map fun k => (k, V.bl true)))) := fun y o e => by
        by_cases ey : y = PP
        · subst ey
          rw [hP4] at e
          rw [upd_same]
          exact e
        · rw [upd_ne ey]
          exact sG _ _ (by rw [upd_ne ey]; exact e)
      have hF15 := s5 _ _ hF14
      have hF25 := s5 _ _ hF24
      have Rw5 := Rw4.mono (.same s5)
      have Ru5 := Ru4.mono (.same s5)
      have fx5' := fx4'.same s5
      have tb5' := tb4'.same s5
      have kg5 := kg4.same s5
      generalize upd G' PP (.dT (out.map fun k => (k, V.bl true))) = G5 at s5 hF15 hF25 Rw5 Ru5 fx5' tb5' kg5 ⊢
      clear hF14 hF24 Rw4 Ru4 fx4' tb4' kg4 sG hP4 s5
      obtain ⟨xn, exn⟩ : ∃ xn : Nat, x = (xn : Int) := ⟨x.toNat, by omega⟩
      have hxn : xn < pts.length := by omega
      have lus := Ru5.len
      have cnt : us.length = wts (rpOf ts) (rpOf ts xn) (rpOf ts j) pts.length := by
        rw [lus, exn, ej]
        exact apart_count fok hxn hj
      have bY : 0 ≤ 0 + (j : Int) ∧ 0 + (j : Int) < (pts.length : Int) := ⟨by omega, by omega⟩
      have laps : ((subs pts.length).filter (apartQ pts.length ts x (0 + (j : Int)))).length ≤ 512 := Nat.le_trans (List.length_filter_le _ _) few2
      refine ⟨fun bb G6 => bb = false ∧ Same G5 G6, ?_, ?_⟩
      · by_cases rj : Rch ts x (0 + (j : Int))
        · -- joined
          obtain ⟨l, hl⟩ := rch_way rj
          have eW := ways_is fok.tree BF fin hl
          rw [eW] at Rw5
          have z0 : us.length = 0 := by
            rw [cnt]
            rw [exn, ej] at rj
            exact parts_none hxn rj
          cases Rw5 with
          | @cons rr _ _ _ hrr Rn =>
          cases Rn
          refine ⟨_, rfl, F2, _, rfl, .inl (SqL.of hF25), _, rfl, _, rfl, (by show 0 ≤ sizeLine; decide), fun L nL => ?_⟩
          have sL := same_new (o := .lst ([] : List V)) nL
          refine ⟨.list (rowsD [l]), .list (rowsD []), .lst (SqL.of (sL _ _ hF15)) ((Rws.one (sL _ _ hrr)).td (K := K)).dp, .lst (SqL.of upd_same) .nil, shaped_rows _, shaped_rows _, ?_⟩
          refine .inr ⟨false, rfl, _, _, rfl, rfl, .inr ⟨by decide, by decide⟩, rfl, _, rfl, ite2 (fun z => ?_) (fun _ => ?_)⟩
          · exfalso
            refine ne_int z ?_
            rw [z0]
            simp
          have hrL := sL _ _ hrr
          have hFL := sL _ _ hF15
          have fxL := fx5'.same sL
          generalize upd G5 L (.lst []) = G6 at sL hrL hFL fxL ⊢
          refine ⟨_, rfl, _, rfl, _, rfl, .ref f, x, 0 + (j : Int), pts, ts, rfl, fxL.td, fok, x0, x1, bY.1, bY.2, fun G7 s7 nr => absurd rj nr, fun t7 l7 G7 s7 _ hw7 ll7 h7 => ?_⟩
          have el := way_unique fok.tree hw7 hl
          subst el
          refine ⟨_, rfl, (by show 1 ≤ sizeLine; decide), fun L2 nL2 => ?_⟩
          have sL2 := same_new (o := .lst [V.non]) nL2
          refine ⟨F1, L2, _, _, rfl, rfl, sL2 _ _ (s7 _ _ hFL), upd_same, (by show 2 ≤ sizeLine; decide), fun L3 nL3 => ?_⟩
          have sL3 := same_new (o := .lst ([V.ref rr] ++ [V.non])) nL3
          have sLL := sL2.trans sL3
          refine ⟨L3, _, _, _, rfl, rfl, SqL.of upd_same, atI_nat (j := 0) rfl, ?_⟩
          refine ⟨.tuple (l7.map .int), .tuple (l7.map .int), dp_ints (SqT.of (sLL _ _ h7)), dp_ints (SqT.of (sLL _ _ (s7 _ _ hrL))), shaped_ints _, shaped_ints _, false, ?_, rfl, ?_⟩
          · rw [same_ints]
            rfl
          · exact sL.trans (s7.trans sLL)
        · -- apart
          have eW := ways_none BF rj
          rw [eW] at Rw5
          cases Rw5
          have z0 : us.length = prodL (fK x (j : Int)) out := by
            rw [cnt, exn]
            rw [exn, ej] at rj
            exact (parts_prod fok hxn hj rj ond omem).symm
          refine ⟨_, rfl, F2, _, rfl, .inl (SqL.of hF25), _, rfl, _, rfl, (by show 0 ≤ sizeLine; decide), fun L nL => ?_⟩
          have sL := same_new (o := .lst ([] : List V)) nL
          refine ⟨.list (rowsD []), .list (rowsD []), .lst (SqL.of (sL _ _ hF15)) .nil, .lst (SqL.of upd_same) .nil, shaped_rows _, shaped_rows _, ?_⟩
          refine .inr ⟨true, rfl, _, _, rfl, rfl, .inr ⟨by decide, by decide⟩, rfl, _, rfl, ite2 (fun z => ?_) (fun _ => ?_)⟩
          · exfalso
            refine ne_int z ?_
            rw [z0]
            simp
          have hFL := sL _ _ hF15
          have fxL := fx5'.same sL
          generalize upd G5 L (.lst []) = G6 at sL hFL fxL ⊢
          refine ⟨_, rfl, _, rfl, _, rfl, .ref f, x, 0 + (j : Int), pts, ts, rfl, fxL.td, fok, x0, x1, bY.1, bY.2, fun G7 s7 nr => ?_, fun t7 l7 G7 s7 _ hw7 ll7 h7 => absurd hw7.wk.rch rj⟩
          refine ⟨_, rfl, (by show 1 ≤ sizeLine; decide), fun L2 nL2 => ?_⟩
          have sL2 := same_new (o := .lst [V.non]) nL2
          refine ⟨F1, L2, _, _, rfl, rfl, sL2 _ _ (s7 _ _ hFL), upd_same, (by show 1 ≤ sizeLine; decide), fun L3 nL3 => ?_⟩
          have sL3 := same_new (o := .lst (([] : List V) ++ [V.non])) nL3
          refine ⟨L3, _, _, _, rfl, rfl, SqL.of upd_same, atI_nat (j := 0) rfl, ?_⟩
          exact ⟨.none, .none, .non, .non, rfl, rfl, false, rfl, rfl, sL.trans (s7.trans (sL2.trans sL3))⟩
      rintro bb G6 ⟨rfl, s6⟩
      refine iteF ?_
      have hF16 := s6 _ _ hF15
      have hF26 := s6 _ _ hF25
      have Rw6 := Rw5.mono (.same s6)
      have Ru6 := Ru5.mono (.same s6)
      have fx6' := fx5'.same s6
      have tb6' := tb5'.same s6
      have kg6 := kg5.same s6
      clear hF15 hF25 Rw5 Ru5 fx5' tb5' kg5 s6
      have lw6 := Rw6.len
      refine ⟨_, rfl, _, rfl, _, rfl, .ref f, x, 0 + (j : Int), pts, ts, rfl, fx6'.td, fok, x0, x1, bY.1, bY.2, fun p7 t7 l7 G7 s7 nr ip ht7 hp7 => ?_, fun p7 t7 l7 G7 s7 hw ht7 hp7 => ?_⟩
      · -- the part
        have hF17 := s7 _ _ hF16
        have hF27 := s7 _ _ hF26
        have Rw7 := Rw6.mono (.same s7)
        have Ru7 := Ru6.mono (.same s7)
        have lw7 := Rw7.len
        have lu7 := Ru7.len
        refine ⟨_, rfl, F1, rfl, ⟨_, SqL.of hF17⟩, fun C1 nC1 => ?_⟩
        refine lc_list (xs := ws) (fun i g => ∃ cs : List V, g C1 = some (.lst cs) ∧ PWs "way" g cs ((qs.filter (lastB (0 + (j : Int)))).take i) ∧ cs.length ≤ i ∧ Same G7 g) ⟨[], upd_same, by rw [List.take_zero]; exact .nil, Nat.le_refl _, same_new nC1⟩ (fun i g _ z => ?_) ?_ ?_
        · obtain ⟨_, _, _, _, kk⟩ := z
          exact SqL.of (kk _ _ hF17)
        · rintro i v g hv ⟨cs, hC, Pc, lc, kk⟩
          have hi := (List.getElem?_eq_some_iff.mp hv).1
          obtain ⟨r, q, rfl, eq, hq⟩ := Rw7.get hv
          refine ⟨rfl, yes_ite ?_⟩
          refine ⟨_, rfl, (by show 2 ≤ sizeLine; decide), fun p np => ?_⟩
          have sp := same_new (o := .tup [V.str "way", V.ref r]) np
          have hCp := sp _ _ hC
          refine ⟨_, hCp, szl (by omega), cs ++ [.ref p], upd_same, ?_, by rw [List.length_append]; exact Nat.succ_le_succ lc, same_put (kk.trans sp) nC1⟩
          rw [take_at eq]
          exact ((Pc.mono (.same sp)).append (.cons upd_same (sp _ _ (kk _ _ hq)) .nil)).mono (TK.put hCp)
        rintro G8 ⟨cs1, hC1, P1, lc1, s8⟩
        rw [lw7, List.take_length] at P1
        have hF28 := s8 _ _ hF27
        have Ru8 := Ru7.mono (.same s8)
        refine ⟨_, rfl, F2, rfl, ⟨_, SqL.of hF28⟩, fun C2 nC2 => ?_⟩
        refine lc_list (xs := us) (fun i g => ∃ cs : List V, g C2 = some (.lst cs) ∧ PWs "apart" g cs (((subs pts.length).filter (apartQ pts.length ts x (0 + (j : Int)))).take i) ∧ cs.length ≤ i ∧ Same G8 g) ⟨[], upd_same, by rw [List.take_zero]; exact .nil, Nat.le_refl _, same_new nC2⟩ (fun i g _ z => ?_) ?_ ?_
        · obtain ⟨_, _, _, _, kk⟩ := z
          exact SqL.of (kk _ _ hF28)
        · rintro i v g hv ⟨cs, hC, Pc, lc, kk⟩
          have hi := (List.getElem?_eq_some_iff.mp hv).1
          obtain ⟨r, q, rfl, eq, hq⟩ := Ru8.get hv
          refine ⟨rfl, yes_ite ?_⟩
          refine ⟨_, rfl, (by show 2 ≤ sizeLine; decide), fun p np => ?_⟩
          have sp := same_new (o := .tup [V.str "apart", V.ref r]) np
          have hCp := sp _ _ hC
          refine ⟨_, hCp, szl (by omega), cs ++ [.ref p], upd_same, ?_, by rw [List.length_append]; exact Nat.succ_le_succ lc, same_put (kk.trans sp) nC2⟩
          rw [take_at eq]
          exact ((Pc.mono (.same sp)).append (.cons upd_same (sp _ _ (kk _ _ hq)) .nil)).mono (TK.put hCp)
        rintro G9 ⟨cs2, hC2, P2, lc2, s9⟩
        rw [lu7, List.take_length] at P2
        refine ⟨C1, C2, _, _, rfl, rfl, s9 _ _ hC1, hC2, sz (by omega), fun C3 nC3 => ?_⟩
        have sc := same_new (o := .lst (cs1 ++ cs2)) nC3
        have s79 := s8.trans (s9.trans sc)
        have Dall : TdAll K (upd G9 C3 (.lst (cs1 ++ cs2))) (cs1 ++ cs2) ((qs.filter (lastB (0 + (j : Int)))).map (ppd "way") ++ ((subs pts.length).filter (apartQ pts.length ts x (0 + (j : Int)))).map (ppd "apart")) := ((P1.mono (.same (s9.trans sc))).td).append (P2.mono (.same sc)).td
        have Dp1 : Td K (upd G9 C3 (.lst (cs1 ++ cs2))) (.ref p7) (ppd "apart" l7) := .tup (SqT.of (s79 _ _ hp7)) (.cons (.str _) (.cons (.tup (SqT.of (s79 _ _ ht7)) (td_ints l7)) .nil))
        refine ⟨ppd "apart" l7, (qs.filter (lastB (0 + (j : Int)))).map (ppd "way") ++ ((subs pts.length).filter (apartQ pts.length ts x (0 + (j : Int)))).map (ppd "apart"), Dp1.dp, .lst (SqL.of upd_same) Dall.dp, ppd_shaped lay_apart l7, pps_shaped _ _, ?_⟩
        rw [any_mem (d := ppd "apart" l7) ?mem (ppd_lay lay_apart l7)]
        case mem => exact List.mem_append_right _ (List.mem_map.mpr ⟨l7, part_apart fok x0 x1 nr ip, rfl⟩)
        refine ⟨_, rfl, iteF ?_⟩
        exact ⟨_, _, _, _, _, _, rfl, kg6.same (s7.trans s79), tb6'.same (s7.trans s79)⟩
      · -- the way
        have hF17 := s7 _ _ hF16
        have hF27 := s7 _ _ hF26
        have Rw7 := Rw6.mono (.same s7)
        have Ru7 := Ru6.mono (.same s7)
        have lw7 := Rw7.len
        have lu7 := Ru7.len
        refine ⟨_, rfl, F1, rfl, ⟨_, SqL.of hF17⟩, fun C1 nC1 => ?_⟩
        refine lc_list (xs := ws) (fun i g => ∃ cs : List V, g C1 = some (.lst cs) ∧ PWs "way" g cs ((qs.filter (lastB (0 + (j : Int)))).take i) ∧ cs.length ≤ i ∧ Same G7 g) ⟨[], upd_same, by rw [List.take_zero]; exact .nil, Nat.le_refl _, same_new nC1⟩ (fun i g _ z => ?_) ?_ ?_
        · obtain ⟨_, _, _, _, kk⟩ := z
          exact SqL.of (kk _ _ hF17)
        · rintro i v g hv ⟨cs, hC, Pc, lc, kk⟩
          have hi := (List.getElem?_eq_some_iff.mp hv).1
          obtain ⟨r, q, rfl, eq, hq⟩ := Rw7.get hv
          refine ⟨rfl, yes_ite ?_⟩
          refine ⟨_, rfl, (by show 2 ≤ sizeLine; decide), fun p np => ?_⟩
          have sp := same_new (o := .tup [V.str "way", V.ref r]) np
          have hCp := sp _ _ hC
          refine ⟨_, hCp, szl (by omega), cs ++ [.ref p], upd_same, ?_, by rw [List.length_append]; exact Nat.succ_le_succ lc, same_put (kk.trans sp) nC1⟩
          rw [take_at eq]
          exact ((Pc.mono (.same sp)).append (.cons upd_same (sp _ _ (kk _ _ hq)) .nil)).mono (TK.put hCp)
        rintro G8 ⟨cs1, hC1, P1, lc1, s8⟩
        rw [lw7, List.take_length] at P1
        have hF28 := s8 _ _ hF27
        have Ru8 := Ru7.mono (.same s8)
        refine ⟨_, rfl, F2, rfl, ⟨_, SqL.of hF28⟩, fun C2 nC2 => ?_⟩
        refine lc_list (xs := us) (fun i g => ∃ cs : List V, g C2 = some (.lst cs) ∧ PWs "apart" g cs (((subs pts.length).filter (apartQ pts.length ts x (0 + (j : Int)))).take i) ∧ cs.length ≤ i ∧ Same G8 g) ⟨[], upd_same, by rw [List.take_zero]; exact .nil, Nat.le_refl _, same_new nC2⟩ (fun i g _ z => ?_) ?_ ?_
        · obtain ⟨_, _, _, _, kk⟩ := z
          exact SqL.of (kk _ _ hF28)
        · rintro i v g hv ⟨cs, hC, Pc, lc, kk⟩
          have hi := (List.getElem?_eq_some_iff.mp hv).1
          obtain ⟨r, q, rfl, eq, hq⟩ := Ru8.get hv
          refine ⟨rfl, yes_ite ?_⟩
          refine ⟨_, rfl, (by show 2 ≤ sizeLine; decide), fun p np => ?_⟩
          have sp := same_new (o := .tup [V.str "apart", V.ref r]) np
          have hCp := sp _ _ hC
          refine ⟨_, hCp, szl (by omega), cs ++ [.ref p], upd_same, ?_, by rw [List.length_append]; exact Nat.succ_le_succ lc, same_put (kk.trans sp) nC2⟩
          rw [take_at eq]
          exact ((Pc.mono (.same sp)).append (.cons upd_same (sp _ _ (kk _ _ hq)) .nil)).mono (TK.put hCp)
        rintro G9 ⟨cs2, hC2, P2, lc2, s9⟩
        rw [lu7, List.take_length] at P2
        refine ⟨C1, C2, _, _, rfl, rfl, s9 _ _ hC1, hC2, sz (by omega), fun C3 nC3 => ?_⟩
        have sc := same_new (o := .lst (cs1 ++ cs2)) nC3
        have s79 := s8.trans (s9.trans sc)
        have Dall : TdAll K (upd G9 C3 (.lst (cs1 ++ cs2))) (cs1 ++ cs2) ((qs.filter (lastB (0 + (j : Int)))).map (ppd "way") ++ ((subs pts.length).filter (apartQ pts.length ts x (0 + (j : Int)))).map (ppd "apart")) := ((P1.mono (.same (s9.trans sc))).td).append (P2.mono (.same sc)).td
        have Dp1 : Td K (upd G9 C3 (.lst (cs1 ++ cs2))) (.ref p7) (ppd "way" l7) := .tup (SqT.of (s79 _ _ hp7)) (.cons (.str _) (.cons (.tup (SqT.of (s79 _ _ ht7)) (td_ints l7)) .nil))
        refine ⟨ppd "way" l7, (qs.filter (lastB (0 + (j : Int)))).map (ppd "way") ++ ((subs pts.length).filter (apartQ pts.length ts x (0 + (j : Int)))).map (ppd "apart"), Dp1.dp, .lst (SqL.of upd_same) Dall.dp, ppd_shaped lay_way l7, pps_shaped _ _, ?_⟩
        rw [any_mem (d := ppd "way" l7) ?mem (ppd_lay lay_way l7)]
        case mem => exact List.mem_append_left _ (List.mem_map.mpr ⟨l7, by rw [ways_is fok.tree BF fin hw]; exact List.mem_cons_self, rfl⟩)
        refine ⟨_, rfl, iteF ?_⟩
        exact ⟨_, _, _, _, _, _, rfl, kg6.same (s7.trans s79), tb6'.same (s7.trans s79)⟩
    · rintro σ G ⟨z2, z10, z11, z13, z15, z16, rfl, kg, tbg⟩
      exact ⟨_, _, _, _, _, _, _, _, _, _, _, _, rfl, B8.kp kg, tbg⟩
  · rintro σ H2 ⟨y2, y3, y4, y5, y7, y8, y9, y10, y11, y13, y15, y16, rfl, B2, tb2⟩
    rfl
end

end My
namespace My
open PySem L2
theorem all_mk {l : PySem.W.OpenLaw} {w : World} {K : PySem.W.Frag} {h : Heap} {mg : Str → Option Value} {fa f0 f1 f2 f3 f4 f5 f6 f7 f8 f9 f10 f11 f12 f13 f14 f15 f16 f17 f18 f19 f20 f21 f22 : Addr} {cA PA : Addr} {eA : Value} {ddA : Option Addr} {vsA : Array Value} {sloA : Array (Option Value)} {cR PR : Addr} {eR : Value} {ddR : Option Addr} {vsR : Array Value} {sloR : Array (Option Value)} {cY PY : Addr} {eY : Value} {ddY : Option Addr} {vsY : Array Value} {sloY : Array (Option Value)} {cS PS : Addr} {eS : Value} {ddS : Option Addr} {vsS : Array Value} {sloS : Array (Option Value)} (X : K.In h) (G : h.Ns mainGlobals mg) (hfa : mg "law" = some (.ref fa))
    {od0 an0 od1 an1 od2 an2 od3 an3 od4 an4 od5 an5 od6 an6 od7 an7 od8 an8 od9 an9 od10 an10 od11 an11 od12 an12 od13 an13 od14 an14 od15 an15 od16 an16 od17 an17 od18 an18 od19 an19 od20 an20 od21 an21 od22 an22 : Option Addr} {sl0 sl1 sl2 sl3 sl4 sl5 sl6 sl7 sl8 sl9 sl10 sl11 sl12 sl13 sl14 sl15 sl16 sl17 sl18 sl19 sl20 sl21 sl22 : Array (Option Value)} {oc0 kV0 dc0 pm0 cd0 ct0 oc1 kV1 dc1 pm1 cd1 ct1 oc2 kV2 dc2 pm2 cd2 ct2 oc3 kV3 dc3 pm3 cd3 ct3 oc4 kV4 dc4 pm4 cd4 ct4 oc5 kV5 dc5 pm5 cd5 ct5 oc6 kV6 dc6 pm6 cd6 ct6 oc7 kV7 dc7 pm7 cd7 ct7 oc8 kV8 dc8 pm8 cd8 ct8 oc9 kV9 dc9 pm9 cd9 ct9 oc10 kV10 dc10 pm10 cd10 ct10 oc11 kV11 dc11 pm11 cd11 ct11 oc12 kV12 dc12 pm12 cd12 ct12 oc13 kV13 dc13 pm13 cd13 ct13 oc14 kV14 dc14 pm14 cd14 ct14 oc15 kV15 dc15 pm15 cd15 ct15 oc16 kV16 dc16 pm16 cd16 ct16 oc17 kV17 dc17 pm17 cd17 ct17 oc18 kV18 dc18 pm18 cd18 ct18 oc19 kV19 dc19 pm19 cd19 ct19 oc20 kV20 dc20 pm20 cd20 ct20 oc21 kV21 dc21 pm21 cd21 ct21 oc22 kV22 dc22 pm22 cd22 ct22 : Value}
    (a0 : PySem.W.nsIn K mainGlobals "is_whole" = some (some (.ref f0))) (l0 : K.lookup f0 = some ⟨oc0, od0, .func (PySem.W.fnOf "is_whole" "is_whole" (defArgs s_iswhole) (defBody s_iswhole) (defScope s_iswhole) .none kV0 dc0 pm0 an0 cd0 ct0), sl0⟩) (c0 : PySem.W.codeIn K cd0 "is_whole" = true) (k0 : PySem.W.keepIn K (.ref f0) = true)
    (a1 : PySem.W.nsIn K mainGlobals "are_wholes" = some (some (.ref f1))) (l1 : K.lookup f1 = some ⟨oc1, od1, .func (PySem.W.fnOf "are_wholes" "are_wholes" (defArgs s_arewholes) (defBody s_arewholes) (defScope s_arewholes) .none kV1 dc1 pm1 an1 cd1 ct1), sl1⟩) (c1 : PySem.W.codeIn K cd1 "are_wholes" = true) (k1 : PySem.W.keepIn K (.ref f1) = true)
    (a2 : PySem.W.nsIn K mainGlobals "is_rising" = some (some (.ref f2))) (l2 : K.lookup f2 = some ⟨oc2, od2, .func (PySem.W.fnOf "is_rising" "is_rising" (defArgs s_isrising) (defBody s_isrising) (defScope s_isrising) .none kV2 dc2 pm2 an2 cd2 ct2), sl2⟩) (c2 : PySem.W.codeIn K cd2 "is_rising" = true) (k2 : PySem.W.keepIn K (.ref f2) = true)
    (a3 : PySem.W.nsIn K mainGlobals "tie_of" = some (some (.ref f3))) (l3 : K.lookup f3 = some ⟨oc3, od3, .func (PySem.W.fnOf "tie_of" "tie_of" (defArgs s_tieof) (defBody s_tieof) (defScope s_tieof) .none kV3 dc3 pm3 an3 cd3 ct3), sl3⟩) (c3 : PySem.W.codeIn K cd3 "tie_of" = true) (k3 : PySem.W.keepIn K (.ref f3) = true)
    (a4 : PySem.W.nsIn K mainGlobals "are_tied" = some (some (.ref f4))) (l4 : K.lookup f4 = some ⟨oc4, od4, .func (PySem.W.fnOf "are_tied" "are_tied" (defArgs s_aretied) (defBody s_aretied) (defScope s_aretied) .none kV4 dc4 pm4 an4 cd4 ct4), sl4⟩) (c4 : PySem.W.codeIn K cd4 "are_tied" = true) (k4 : PySem.W.keepIn K (.ref f4) = true)
    (a5 : PySem.W.nsIn K mainGlobals "way_of" = some (some (.ref f5))) (l5 : K.lookup f5 = some ⟨oc5, od5, .func (PySem.W.fnOf "way_of" "way_of" (defArgs s_wayof) (defBody s_wayof) (defScope s_wayof) .none kV5 dc5 pm5 an5 cd5 ct5), sl5⟩) (c5 : PySem.W.codeIn K cd5 "way_of" = true) (k5 : PySem.W.keepIn K (.ref f5) = true)
    (a6 : PySem.W.nsIn K mainGlobals "part_of" = some (some (.ref f6))) (l6 : K.lookup f6 = some ⟨oc6, od6, .func (PySem.W.fnOf "part_of" "part_of" (defArgs s_partof) (defBody s_partof) (defScope s_partof) .none kV6 dc6 pm6 an6 cd6 ct6), sl6⟩) (c6 : PySem.W.codeIn K cd6 "part_of" = true) (k6 : PySem.W.keepIn K (.ref f6) = true)
    (a7 : PySem.W.nsIn K mainGlobals "steps_toward" = some (some (.ref f7))) (l7 : K.lookup f7 = some ⟨oc7, od7, .func (PySem.W.fnOf "steps_toward" "steps_toward" (defArgs s_stepstoward) (defBody s_stepstoward) (defScope s_stepstoward) .none kV7 dc7 pm7 an7 cd7 ct7), sl7⟩) (c7 : PySem.W.codeIn K cd7 "steps_toward" = true) (k7 : PySem.W.keepIn K (.ref f7) = true)
    (a8 : PySem.W.nsIn K mainGlobals "neighbours" = some (some (.ref f8))) (l8 : K.lookup f8 = some ⟨oc8, od8, .func (PySem.W.fnOf "neighbours" "neighbours" (defArgs s_neighbours) (defBody s_neighbours) (defScope s_neighbours) .none kV8 dc8 pm8 an8 cd8 ct8), sl8⟩) (c8 : PySem.W.codeIn K cd8 "neighbours" = true) (k8 : PySem.W.keepIn K (.ref f8) = true)
    (a9 : PySem.W.nsIn K mainGlobals "tied_paper" = some (some (.ref f9))) (l9 : K.lookup f9 = some ⟨oc9, od9, .func (PySem.W.fnOf "tied_paper" "tied_paper" (defArgs s_tiedpaper) (defBody s_tiedpaper) (defScope s_tiedpaper) .none kV9 dc9 pm9 an9 cd9 ct9), sl9⟩) (c9 : PySem.W.codeIn K cd9 "tied_paper" = true) (k9 : PySem.W.keepIn K (.ref f9) = true)
    (a10 : PySem.W.nsIn K mainGlobals "shows_tied" = some (some (.ref f10))) (l10 : K.lookup f10 = some ⟨oc10, od10, .func (PySem.W.fnOf "shows_tied" "shows_tied" (defArgs s_showstied) (defBody s_showstied) (defScope s_showstied) .none kV10 dc10 pm10 an10 cd10 ct10), sl10⟩) (c10 : PySem.W.codeIn K cd10 "shows_tied" = true) (k10 : PySem.W.keepIn K (.ref f10) = true)
    (a11 : PySem.W.nsIn K mainGlobals "is_worded" = some (some (.ref f11))) (l11 : K.lookup f11 = some ⟨oc11, od11, .func (PySem.W.fnOf "is_worded" "is_worded" (defArgs s_isworded) (defBody s_isworded) (defScope s_isworded) .none kV11 dc11 pm11 an11 cd11 ct11), sl11⟩) (c11 : PySem.W.codeIn K cd11 "is_worded" = true) (k11 : PySem.W.keepIn K (.ref f11) = true)
    (a12 : PySem.W.nsIn K mainGlobals "is_way" = some (some (.ref f12))) (l12 : K.lookup f12 = some ⟨oc12, od12, .func (PySem.W.fnOf "is_way" "is_way" (defArgs s_isway) (defBody s_isway) (defScope s_isway) .none kV12 dc12 pm12 an12 cd12 ct12), sl12⟩) (c12 : PySem.W.codeIn K cd12 "is_way" = true) (k12 : PySem.W.keepIn K (.ref f12) = true)
    (a13 : PySem.W.nsIn K mainGlobals "sets_apart" = some (some (.ref f13))) (l13 : K.lookup f13 = some ⟨oc13, od13, .func (PySem.W.fnOf "sets_apart" "sets_apart" (defArgs s_setsapart) (defBody s_setsapart) (defScope s_setsapart) .none kV13 dc13 pm13 an13 cd13 ct13), sl13⟩) (c13 : PySem.W.codeIn K cd13 "sets_apart" = true) (k13 : PySem.W.keepIn K (.ref f13) = true)
    (a14 : PySem.W.nsIn K mainGlobals "_law_begin" = some (some (.ref f14))) (l14 : K.lookup f14 = some ⟨oc14, od14, .func (PySem.W.fnOf "_law_begin" "_law_begin" (defArgs s_Lbegin) (defBody s_Lbegin) (defScope s_Lbegin) .none kV14 dc14 pm14 an14 cd14 ct14), sl14⟩) (c14 : PySem.W.codeIn K cd14 "_law_begin" = true) (k14 : PySem.W.keepIn K (.ref f14) = true)
    (a15 : PySem.W.nsIn K mainGlobals "_law_next" = some (some (.ref f15))) (l15 : K.lookup f15 = some ⟨oc15, od15, .func (PySem.W.fnOf "_law_next" "_law_next" (defArgs s_Lnext) (defBody s_Lnext) (defScope s_Lnext) .none kV15 dc15 pm15 an15 cd15 ct15), sl15⟩) (c15 : PySem.W.codeIn K cd15 "_law_next" = true) (k15 : PySem.W.keepIn K (.ref f15) = true)
    (a16 : PySem.W.nsIn K mainGlobals "_law_many" = some (some (.ref f16))) (l16 : K.lookup f16 = some ⟨oc16, od16, .func (PySem.W.fnOf "_law_many" "_law_many" (defArgs s_Lmany) (defBody s_Lmany) (defScope s_Lmany) .none kV16 dc16 pm16 an16 cd16 ct16), sl16⟩) (c16 : PySem.W.codeIn K cd16 "_law_many" = true) (k16 : PySem.W.keepIn K (.ref f16) = true)
    (a17 : PySem.W.nsIn K mainGlobals "_law_worth" = some (some (.ref f17))) (l17 : K.lookup f17 = some ⟨oc17, od17, .func (PySem.W.fnOf "_law_worth" "_law_worth" (defArgs s_Lworth) (defBody s_Lworth) (defScope s_Lworth) .none kV17 dc17 pm17 an17 cd17 ct17), sl17⟩) (c17 : PySem.W.codeIn K cd17 "_law_worth" = true) (k17 : PySem.W.keepIn K (.ref f17) = true)
    (a18 : PySem.W.nsIn K mainGlobals "_law_forest" = some (some (.ref f18))) (l18 : K.lookup f18 = some ⟨oc18, od18, .func (PySem.W.fnOf "_law_forest" "_law_forest" (defArgs s_Lforest) (defBody s_Lforest) (defScope s_Lforest) .none kV18 dc18 pm18 an18 cd18 ct18), sl18⟩) (c18 : PySem.W.codeIn K cd18 "_law_forest" = true) (k18 : PySem.W.keepIn K (.ref f18) = true)
    (a19 : PySem.W.nsIn K mainGlobals "_law_part" = some (some (.ref f19))) (l19 : K.lookup f19 = some ⟨oc19, od19, .func (PySem.W.fnOf "_law_part" "_law_part" (defArgs s_Lpart) (defBody s_Lpart) (defScope s_Lpart) .none kV19 dc19 pm19 an19 cd19 ct19), sl19⟩) (c19 : PySem.W.codeIn K cd19 "_law_part" = true) (k19 : PySem.W.keepIn K (.ref f19) = true)
    (a20 : PySem.W.nsIn K mainGlobals "_law_rows" = some (some (.ref f20))) (l20 : K.lookup f20 = some ⟨oc20, od20, .func (PySem.W.fnOf "_law_rows" "_law_rows" (defArgs s_Lrows) (defBody s_Lrows) (defScope s_Lrows) .none kV20 dc20 pm20 an20 cd20 ct20), sl20⟩) (c20 : PySem.W.codeIn K cd20 "_law_rows" = true) (k20 : PySem.W.keepIn K (.ref f20) = true)
    (a21 : PySem.W.nsIn K mainGlobals "_law_all_tuples" = some (some (.ref f21))) (l21 : K.lookup f21 = some ⟨oc21, od21, .func (PySem.W.fnOf "_law_all_tuples" "_law_all_tuples" (defArgs s_Lalltuples) (defBody s_Lalltuples) (defScope s_Lalltuples) .none kV21 dc21 pm21 an21 cd21 ct21), sl21⟩) (c21 : PySem.W.codeIn K cd21 "_law_all_tuples" = true) (k21 : PySem.W.keepIn K (.ref f21) = true)
    (a22 : PySem.W.nsIn K mainGlobals "law" = some (some (.ref f22))) (l22 : K.lookup f22 = some ⟨oc22, od22, .func (PySem.W.fnOf "law" "law" (defArgs s_law) (defBody s_law) (defScope s_law) .none kV22 dc22 pm22 an22 cd22 ct22), sl22⟩) (c22 : PySem.W.codeIn K cd22 "law" = true) (k22 : PySem.W.keepIn K (.ref f22) = true)
    (z0 : PySem.W.nsIn K mainGlobals "all" = some none)
    (z1 : PySem.W.nsIn K mainGlobals "bool" = some none)
    (z2 : PySem.W.nsIn K mainGlobals "dict" = some none)
    (z3 : PySem.W.nsIn K mainGlobals "int" = some none)
    (z4 : PySem.W.nsIn K mainGlobals "isinstance" = some none)
    (z5 : PySem.W.nsIn K mainGlobals "len" = some none)
    (z6 : PySem.W.nsIn K mainGlobals "list" = some none)
    (z7 : PySem.W.nsIn K mainGlobals "max" = some none)
    (z8 : PySem.W.nsIn K mainGlobals "min" = some none)
    (z9 : PySem.W.nsIn K mainGlobals "range" = some none)
    (z10 : PySem.W.nsIn K mainGlobals "set" = some none)
    (z11 : PySem.W.nsIn K mainGlobals "sorted" = some none)
    (z12 : PySem.W.nsIn K mainGlobals "str" = some none)
    (z13 : PySem.W.nsIn K mainGlobals "tuple" = some none)
    (z14 : PySem.W.nsIn K mainGlobals "zip" = some none)
    (hcA : cd1 = .ref cA)
    (lcA : K.lookup cA = some ⟨eA, ddA, .fields vsA, sloA⟩)
    (v11A : vsA[11]? = some (.ref PA))
    (nPA : K.lookup PA = none)
    (hdA : PySem.W.codeHdIn K cA PA = true)
    (hcR : cd2 = .ref cR)
    (lcR : K.lookup cR = some ⟨eR, ddR, .fields vsR, sloR⟩)
    (v11R : vsR[11]? = some (.ref PR))
    (nPR : K.lookup PR = none)
    (hdR : PySem.W.codeHdIn K cR PR = true)
    (hcY : cd12 = .ref cY)
    (lcY : K.lookup cY = some ⟨eY, ddY, .fields vsY, sloY⟩)
    (v11Y : vsY[11]? = some (.ref PY))
    (nPY : K.lookup PY = none)
    (hdY : PySem.W.codeHdIn K cY PY = true)
    (hcS : cd13 = .ref cS)
    (lcS : K.lookup cS = some ⟨eS, ddS, .fields vsS, sloS⟩)
    (v11S : vsS[11]? = some (.ref PS))
    (nPS : K.lookup PS = none)
    (hdS : PySem.W.codeHdIn K cS PS = true)
    (hneP : ([PA, PR, PY, PS] : List Addr).Nodup)
    (tabs : ∀ nm ∈ (["are_wholes", "is_rising", "is_way", "sets_apart"] : List Str), TabAt mg h nm) : ∃ cs : List (Addr × Addr), (∀ p ∈ cs, h.get? p.2 = some { cls := .none, data := .fields #[] }) ∧ (∀ p ∈ cs, K.lookup p.2 = none) ∧ (∀ p ∈ cs, PySem.W.CodeHd h p.1 p.2) ∧
      ∀ (s : Shared) (H : Hp) (base : Heap) (a : Addr) (ns : List Int), ns.length ≤ 63 → (∀ z ∈ ns, Builtin.Int.intBits z ≤ 1048576) → (∀ p ∈ cs, LamX.TabB base mg p.1 p.2) → Env0 l.prog w K mg base callerA [] s H → (∀ p ∈ cs, H p.2 = some (.tbl #[])) → SqL K H a (ns.map V.int) →
        codeAny (model l.prog w) callerA (.call (.ref fa) ⟨[.ref a], []⟩) (CR CX0 [] l.prog w H s (fun v _ => v = .bl true) E0) s := by
  have e := hfa.symm.trans (PySem.W.mg_of X G a22)
  cases e
  have F0 := fun_mk (st := s_iswhole) l0 c0 k0
  have b0 := F0.binds (ps := ["thing"]) fun _ _ _ _ _ _ us hl => match us, hl with | [_], _ => rfl
  have F1 := fun_mk (st := s_arewholes) l1 c1 k1
  have b1 := F1.binds (ps := ["thing"]) fun _ _ _ _ _ _ us hl => match us, hl with | [_], _ => rfl
  have F2 := fun_mk (st := s_isrising) l2 c2 k2
  have b2 := F2.binds (ps := ["row"]) fun _ _ _ _ _ _ us hl => match us, hl with | [_], _ => rfl
  have F3 := fun_mk (st := s_tieof) l3 c3 k3
  have b3 := F3.binds (ps := ["a", "b"]) fun _ _ _ _ _ _ us hl => match us, hl with | [_, _], _ => rfl
  have F4 := fun_mk (st := s_aretied) l4 c4 k4
  have b4 := F4.binds (ps := ["forest", "a", "b"]) fun _ _ _ _ _ _ us hl => match us, hl with | [_, _, _], _ => rfl
  have F5 := fun_mk (st := s_wayof) l5 c5 k5
  have b5 := F5.binds (ps := ["forest", "a", "b"]) fun _ _ _ _ _ _ us hl => match us, hl with | [_, _, _], _ => rfl
  have F6 := fun_mk (st := s_partof) l6 c6 k6
  have b6 := F6.binds (ps := ["forest", "a"]) fun _ _ _ _ _ _ us hl => match us, hl with | [_, _], _ => rfl
  have F7 := fun_mk (st := s_stepstoward) l7 c7 k7
  have b7 := F7.binds (ps := ["forest", "goal"]) fun _ _ _ _ _ _ us hl => match us, hl with | [_, _], _ => rfl
  have F8 := fun_mk (st := s_neighbours) l8 c8 k8
  have b8 := F8.binds (ps := ["forest"]) fun _ _ _ _ _ _ us hl => match us, hl with | [_], _ => rfl
  have F9 := fun_mk (st := s_tiedpaper) l9 c9 k9
  have b9 := F9.binds (ps := ["forest", "a", "b"]) fun _ _ _ _ _ _ us hl => match us, hl with | [_, _, _], _ => rfl
  have F10 := fun_mk (st := s_showstied) l10 c10 k10
  have b10 := F10.binds (ps := ["forest", "a", "b", "thing"]) fun _ _ _ _ _ _ us hl => match us, hl with | [_, _, _, _], _ => rfl
  have F11 := fun_mk (st := s_isworded) l11 c11 k11
  have b11 := F11.binds (ps := ["thing"]) fun _ _ _ _ _ _ us hl => match us, hl with | [_], _ => rfl
  have F12 := fun_mk (st := s_isway) l12 c12 k12
  have b12 := F12.binds (ps := ["forest", "a", "b", "numbers"]) fun _ _ _ _ _ _ us hl => match us, hl with | [_, _, _, _], _ => rfl
  have F13 := fun_mk (st := s_setsapart) l13 c13 k13
  have b13 := F13.binds (ps := ["forest", "a", "b", "numbers"]) fun _ _ _ _ _ _ us hl => match us, hl with | [_, _, _, _], _ => rfl
  have F14 := fun_mk (st := s_Lbegin) l14 c14 k14
  have b14 := F14.binds (ps := ["_law_script"]) fun _ _ _ _ _ _ us hl => match us, hl with | [_], _ => rfl
  have F15 := fun_mk (st := s_Lnext) l15 c15 k15
  have b15 := F15.binds (ps := ["_law_draws", "_law_many_here"]) fun _ _ _ _ _ _ us hl => match us, hl with | [_, _], _ => rfl
  have F16 := fun_mk (st := s_Lmany) l16 c16 k16
  have b16 := F16.binds (ps := ["_law_draws", "_law_few", "_law_most"]) fun _ _ _ _ _ _ us hl => match us, hl with | [_, _, _], _ => rfl
  have F17 := fun_mk (st := s_Lworth) l17 c17 k17
  have b17 := F17.binds (ps := ["_law_draws"]) fun _ _ _ _ _ _ us hl => match us, hl with | [_], _ => rfl
  have F18 := fun_mk (st := s_Lforest) l18 c18 k18
  have b18 := F18.binds (ps := ["_law_draws", "_law_most"]) fun _ _ _ _ _ _ us hl => match us, hl with | [_, _], _ => rfl
  have F19 := fun_mk (st := s_Lpart) l19 c19 k19
  have b19 := F19.binds (ps := ["_law_forest_here", "_law_a"]) fun _ _ _ _ _ _ us hl => match us, hl with | [_, _], _ => rfl
  have F20 := fun_mk (st := s_Lrows) l20 c20 k20
  have b20 := F20.binds (ps := ["_law_forest_here", "_law_a"]) fun _ _ _ _ _ _ us hl => match us, hl with | [_, _], _ => rfl
  have F21 := fun_mk (st := s_Lalltuples) l21 c21 k21
  have b21 := F21.binds (ps := ["_law_many_here"]) fun _ _ _ _ _ _ us hl => match us, hl with | [_], _ => rfl
  have F22 := fun_mk (st := s_law) l22 c22 k22
  have b22 := F22.binds (ps := ["_law_script"]) fun _ _ _ _ _ _ us hl => match us, hl with | [_], _ => rfl
  let T : Top K mg := ⟨_, _, F0, b0, PySem.W.mg_of X G a0, _, _, F1, b1, PySem.W.mg_of X G a1, _, _, F2, b2, PySem.W.mg_of X G a2, _, _, F3, b3, PySem.W.mg_of X G a3, _, _, F4, b4, PySem.W.mg_of X G a4, _, _, F5, b5, PySem.W.mg_of X G a5, _, _, F6, b6, PySem.W.mg_of X G a6, _, _, F7, b7, PySem.W.mg_of X G a7, _, _, F8, b8, PySem.W.mg_of X G a8, _, _, F9, b9, PySem.W.mg_of X G a9, _, _, F10, b10, PySem.W.mg_of X G a10, _, _, F11, b11, PySem.W.mg_of X G a11, _, _, F12, b12, PySem.W.mg_of X G a12, _, _, F13, b13, PySem.W.mg_of X G a13, _, _, F14, b14, PySem.W.mg_of X G a14, _, _, F15, b15, PySem.W.mg_of X G a15, _, _, F16, b16, PySem.W.mg_of X G a16, _, _, F17, b17, PySem.W.mg_of X G a17, _, _, F18, b18, PySem.W.mg_of X G a18, _, _, F19, b19, PySem.W.mg_of X G a19, _, _, F20, b20, PySem.W.mg_of X G a20, _, _, F21, b21, PySem.W.mg_of X G a21, _, _, F22, b22, PySem.W.mg_of X G a22, PySem.W.mg_none_of X G z0, PySem.W.mg_none_of X G z1, PySem.W.mg_none_of X G z2, PySem.W.mg_none_of X G z3, PySem.W.mg_none_of X G z4, PySem.W.mg_none_of X G z5, PySem.W.mg_none_of X G z6, PySem.W.mg_none_of X G z7, PySem.W.mg_none_of X G z8, PySem.W.mg_none_of X G z9, PySem.W.mg_none_of X G z10, PySem.W.mg_none_of X G z11, PySem.W.mg_none_of X G z12, PySem.W.mg_none_of X G z13, PySem.W.mg_none_of X G z14, cA, PA, hcA, cR, PR, hcR, cY, PY, hcY, cS, PS, hcS, hneP⟩
  refine ⟨[(cA, PA), (cR, PR), (cY, PY), (cS, PS)], ?_, ?_, ?_, fun s H base a ns hlen hbits tb e0 th sq => ?_⟩
  · intro p hp
    rcases mem4 hp with rfl | rfl | rfl | rfl
    · exact tab_empty (tabs _ List.mem_cons_self) X (PySem.W.mg_of X G a1) l1 rfl hcA lcA v11A
    · exact tab_empty (tabs _ (List.mem_cons_of_mem _ List.mem_cons_self)) X (PySem.W.mg_of X G a2) l2 rfl hcR lcR v11R
    · exact tab_empty (tabs _ (List.mem_cons_of_mem _ (List.mem_cons_of_mem _ List.mem_cons_self))) X (PySem.W.mg_of X G a12) l12 rfl hcY lcY v11Y
    · exact tab_empty (tabs _ (List.mem_cons_of_mem _ (List.mem_cons_of_mem _ (List.mem_cons_of_mem _ List.mem_cons_self)))) X (PySem.W.mg_of X G a13) l13 rfl hcS lcS v11S
  · intro p hp
    rcases mem4 hp with rfl | rfl | rfl | rfl
    · exact nPA
    · exact nPR
    · exact nPY
    · exact nPS
  · intro p hp
    rcases mem4 hp with rfl | rfl | rfl | rfl
    · exact PySem.W.codeHd_of_K X hdA
    · exact PySem.W.codeHd_of_K X hdR
    · exact PySem.W.codeHd_of_K X hdY
    · exact PySem.W.codeHd_of_K X hdS
  · exact run_law T ⟨(tb _ List.mem_cons_self).code, (tb _ List.mem_cons_self).bm, (tb _ List.mem_cons_self).gP⟩ ⟨(tb _ (List.mem_cons_of_mem _ List.mem_cons_self)).code, (tb _ (List.mem_cons_of_mem _ List.mem_cons_self)).bm, (tb _ (List.mem_cons_of_mem _ List.mem_cons_self)).gP⟩ ⟨(tb _ (List.mem_cons_of_mem _ (List.mem_cons_of_mem _ List.mem_cons_self))).code, (tb _ (List.mem_cons_of_mem _ (List.mem_cons_of_mem _ List.mem_cons_self))).bm, (tb _ (List.mem_cons_of_mem _ (List.mem_cons_of_mem _ List.mem_cons_self))).gP⟩ ⟨(tb _ (List.mem_cons_of_mem _ (List.mem_cons_of_mem _ (List.mem_cons_of_mem _ List.mem_cons_self)))).code, (tb _ (List.mem_cons_of_mem _ (List.mem_cons_of_mem _ (List.mem_cons_of_mem _ List.mem_cons_self)))).bm, (tb _ (List.mem_cons_of_mem _ (List.mem_cons_of_mem _ (List.mem_cons_of_mem _ List.mem_cons_self)))).gP⟩ e0 (th _ List.mem_cons_self) (th _ (List.mem_cons_of_mem _ List.mem_cons_self)) (th _ (List.mem_cons_of_mem _ (List.mem_cons_of_mem _ List.mem_cons_self))) (th _ (List.mem_cons_of_mem _ (List.mem_cons_of_mem _ (List.mem_cons_of_mem _ List.mem_cons_self)))) sq hlen ⟨rfl, by decide, by decide⟩ (fun s u => .of_eq rfl)
end My
open PySem PySem.W PyProof.Rows
set_option maxRecDepth 100000 in
set_option maxHeartbeats 0 in
theorem PySem.Challenge.cw_tiedcut_k08_whole_one_sort_of_papers_holds : PySem.Challenge.rw_tiedcut_k08_whole_one_sort_of_papers.Holds := by
  w_on; o_law; k_head; (case hw => w_witness2)
  k_fill
  refine My.walk_law0 (l := PySem.Challenge.rw_tiedcut_k08_whole_one_sort_of_papers) (most := 63) ["are_wholes", "is_rising", "is_way", "sets_apart"] rfl (by decide) rfl (by decide +kernel) (fun w h Y => by first | exact PySem.W.kIn_of Y | exact PySem.W.km_in_of Y) ?F
  case F =>
    intro w mg fa h KX G hmg tabs
    refine' My.all_mk KX G hmg ?a0 ?l0 ?c0 ?k0 ?a1 ?l1 ?c1 ?k1 ?a2 ?l2 ?c2 ?k2 ?a3 ?l3 ?c3 ?k3 ?a4 ?l4 ?c4 ?k4 ?a5 ?l5 ?c5 ?k5 ?a6 ?l6 ?c6 ?k6 ?a7 ?l7 ?c7 ?k7 ?a8 ?l8 ?c8 ?k8 ?a9 ?l9 ?c9 ?k9 ?a10 ?l10 ?c10 ?k10 ?a11 ?l11 ?c11 ?k11 ?a12 ?l12 ?c12 ?k12 ?a13 ?l13 ?c13 ?k13 ?a14 ?l14 ?c14 ?k14 ?a15 ?l15 ?c15 ?k15 ?a16 ?l16 ?c16 ?k16 ?a17 ?l17 ?c17 ?k17 ?a18 ?l18 ?c18 ?k18 ?a19 ?l19 ?c19 ?k19 ?a20 ?l20 ?c20 ?k20 ?a21 ?l21 ?c21 ?k21 ?a22 ?l22 ?c22 ?k22 ?z0 ?z1 ?z2 ?z3 ?z4 ?z5 ?z6 ?z7 ?z8 ?z9 ?z10 ?z11 ?z12 ?z13 ?z14 ?hcA ?lcA ?v11A ?nPA ?hdA ?hcR ?lcR ?v11R ?nPR ?hdR ?hcY ?lcY ?v11Y ?nPY ?hdY ?hcS ?lcS ?v11S ?nPS ?hdS ?hneP tabs
    (case a0 => k_is)
    (case l0 => k_is)
    (case c0 => k_is)
    (case k0 => k_is)
    (case a1 => k_is)
    (case l1 => k_is)
    (case c1 => k_is)
    (case k1 => k_is)
    (case a2 => k_is)
    (case l2 => k_is)
    (case c2 => k_is)
    (case k2 => k_is)
    (case a3 => k_is)
    (case l3 => k_is)
    (case c3 => k_is)
    (case k3 => k_is)
    (case a4 => k_is)
    (case l4 => k_is)
    (case c4 => k_is)
    (case k4 => k_is)
    (case a5 => k_is)
    (case l5 => k_is)
    (case c5 => k_is)
    (case k5 => k_is)
    (case a6 => k_is)
    (case l6 => k_is)
    (case c6 => k_is)
    (case k6 => k_is)
    (case a7 => k_is)
    (case l7 => k_is)
    (case c7 => k_is)
    (case k7 => k_is)
    (case a8 => k_is)
    (case l8 => k_is)
    (case c8 => k_is)
    (case k8 => k_is)
    (case a9 => k_is)
    (case l9 => k_is)
    (case c9 => k_is)
    (case k9 => k_is)
    (case a10 => k_is)
    (case l10 => k_is)
    (case c10 => k_is)
    (case k10 => k_is)
    (case a11 => k_is)
    (case l11 => k_is)
    (case c11 => k_is)
    (case k11 => k_is)
    (case a12 => k_is)
    (case l12 => k_is)
    (case c12 => k_is)
    (case k12 => k_is)
    (case a13 => k_is)
    (case l13 => k_is)
    (case c13 => k_is)
    (case k13 => k_is)
    (case a14 => k_is)
    (case l14 => k_is)
    (case c14 => k_is)
    (case k14 => k_is)
    (case a15 => k_is)
    (case l15 => k_is)
    (case c15 => k_is)
    (case k15 => k_is)
    (case a16 => k_is)
    (case l16 => k_is)
    (case c16 => k_is)
    (case k16 => k_is)
    (case a17 => k_is)
    (case l17 => k_is)
    (case c17 => k_is)
    (case k17 => k_is)
    (case a18 => k_is)
    (case l18 => k_is)
    (case c18 => k_is)
    (case k18 => k_is)
    (case a19 => k_is)
    (case l19 => k_is)
    (case c19 => k_is)
    (case k19 => k_is)
    (case a20 => k_is)
    (case l20 => k_is)
    (case c20 => k_is)
    (case k20 => k_is)
    (case a21 => k_is)
    (case l21 => k_is)
    (case c21 => k_is)
    (case k21 => k_is)
    (case a22 => k_is)
    (case l22 => k_is)
    (case c22 => k_is)
    (case k22 => k_is)
    (case z0 => k_is)
    (case z1 => k_is)
    (case z2 => k_is)
    (case z3 => k_is)
    (case z4 => k_is)
    (case z5 => k_is)
    (case z6 => k_is)
    (case z7 => k_is)
    (case z8 => k_is)
    (case z9 => k_is)
    (case z10 => k_is)
    (case z11 => k_is)
    (case z12 => k_is)
    (case z13 => k_is)
    (case z14 => k_is)
    (case hcA => rfl)
    (case lcA => k_is)
    (case v11A => rfl)
    (case nPA => kernel_rfl)
    (case hdA => kernel_rfl)
    (case hcR => rfl)
    (case lcR => k_is)
    (case v11R => rfl)
    (case nPR => kernel_rfl)
    (case hdR => kernel_rfl)
    (case hcY => rfl)
    (case lcY => k_is)
    (case v11Y => rfl)
    (case nPY => kernel_rfl)
    (case hdY => kernel_rfl)
    (case hcS => rfl)
    (case lcS => k_is)
    (case v11S => rfl)
    (case nPS => kernel_rfl)
    (case hdS => kernel_rfl)
    (case hneP => decide +kernel)
