import PyProof.Rows.All
import Wide.All
import OpenK.AllK
import Wide.FinOn
import HandS.ForMost
import HandS.More
import HandS.Sort
import HandS.Wide
import HandS.WideBits
import HandS.IsInst
import HandS.EndBits
import HandS.Exc
import HandS.ExcOwn
import HandS.ExcValue
import HandS.ExcInit
import HandS.ExcField
import HandS.WordsExc
import KE.KExcIs
import HandS.TupLe
import HandS.TupAny
import HandS.Zip
import HandS.Walk
import HandS.Star
import HandS.Style
import HandS.CallLocal
import HandS.Deep
import HandS.AnyAll
import HandS.GenOver
import HandS.EndTab
import HandS.Lambda
import HandS.RevTup
import HandS.Rev
import HandS.Text
import HandS.StrMore
import HandS.Replace
import HandS.RaiseMore
import HandS.SetFor
import PyProof.StrLawsAffix
import PyProof.JoinWalk
import KE.GoesMore
import HandS.Conv
import HandS.Iter
import KE.KUnpackStar
import HandS.TryOnly
import PyProof.TupleOfGen
import PyProof.GenCompD
import PyProof.EqLayable
import HandS.SortInts
import HandS.Strs
import HandS.SortRule
import KE.DataFind
import PySem.Challenge.RW_tiedcut_k80_forests_read
set_option Elab.async false
set_option linter.all false
set_option maxRecDepth 100000
set_option maxHeartbeats 4000000
namespace My
open PySem PySem.Spec PyProof.Rows L2
/-! ### a generator expression, consumed by all: its own frame -/
def gcx (X : Cx) (s : Shared) (H : Hp) (ge : Env) (fp : List Addr) (Ag : Around) : Cx :=
  { X with A := Ag, s_0 := s, H_0 := H, env := ge, outer := X.stack, stack := ge :: X.stack, ex := fp, fn := fun _ => false, pn := [], xe := fun _ _ => False }
section
variable {X : Cx} {pins : List (Addr × Obj)} {σ : L2.St} {H : Hp} {s : Shared}
theorem clo_in {scope : Scope} {own : List (Str × Nat)} (I : Inv X pins σ H s) (ok : BlkOk X.N X.env.scope scope own) {y : Str} {c : Addr} (hm : (y, c) ∈ cloFrom X.env.cells scope.names []) : X.env.cells.lookup y = some c ∧ c < s.heap.objs.size ∧ (y, NameKind.free) ∈ scope.names := by
  rcases cloFrom_mem hm with z | ⟨h1, rfl⟩
  · cases z
  · have hc : ∃ c, X.env.cells.lookup y = some c := by
      rcases ok.free _ h1 rfl with k | k
      · exact I.ok.has _ (.inl k)
      · exact I.ok.has _ (.inr k)
    obtain ⟨c, hc⟩ := hc
    obtain ⟨v, z⟩ := I.cell _ _ hc
    rw [hc]
    exact ⟨rfl, z.lt, h1⟩
theorem gen_start {scope : Scope} {own : List (Str × Nat)} {fp : List Addr} {ge : Env} {code : Value} {Ag : Around} {s5 : Shared} {m : Str → Option Value} {ga : Addr} {go : Obj} (I : Inv X pins σ H s) (ok : BlkOk X.N X.env.scope scope own) (hN : X.N.Nodup)
    (hfp : ∀ b ∈ fp, FpOk X pins H b ∧ b < s.heap.objs.size) (hge : ge = genEnv scope (cloFrom X.env.cells scope.names []) s.heap.objs.size code builtinsNs X.env) (nocell : ∀ y ∈ scope.names, y.2 ≠ .cell)
    (hA : Ag.handled = none) (hfr : Ag.frames = some (ge :: X.stack)) (k5 : ∀ b o, s.heap.get? b = some o → s5.heap.get? b = some o) (os5 : s5.os = s.os) (bare5 : AllBare s5.gens)
    (ns5 : s5.heap.Ns s.heap.objs.size m) (hga : s5.heap.get? ga = some go) (hgt : s.heap.objs.size < ga) (hgd : ∀ v, go.data ≠ .cell v) :
    Inv (gcx X s H ge fp Ag) [(ga, go)] (wipe σ (own.map (·.2))) H s5 := by
  have hL : ge.locals = s.heap.objs.size := by
    rw [hge]
    rfl
  have hC : ge.cells = cloFrom X.env.cells scope.names [] := by
    rw [hge]
    rfl
  have hS : ge.scope = scope := by
    rw [hge]
    rfl
  have inC : ∀ {y c}, ge.cells.lookup y = some c → X.env.cells.lookup y = some c ∧ c < s.heap.objs.size := fun {y c} e => by
    rw [hC] at e
    have z := clo_in I ok (PySem.mem_of_lookup e)
    exact ⟨z.1, z.2.1⟩
  have look : ∀ {y}, scope.names.lookup y = some .free → ∃ c, ge.cells.lookup y = some c ∧ X.env.cells.lookup y = some c := fun {y} hl => by
    have hm := cloFrom_has (cells := X.env.cells) (acc := []) (PySem.mem_of_lookup hl)
    obtain ⟨c, e⟩ := mem_lookup hm
    rw [← hC] at e
    exact ⟨c, e, (inC e).1⟩
  have kindF : ∀ {y k}, scope.names.lookup y = some k → (k = .cell ∨ k = .free) → scope.names.lookup y = some .free := fun {y k} e hk => by
    rcases hk with rfl | rfl
    · exact absurd rfl (nocell _ (PySem.mem_of_lookup e))
    · exact e
  have okG : (gcx X s H ge fp Ag).Ok := by
    refine ⟨I.ok.mod, ?_, ?_, ?_, ?_, ?_, ?_, ?_, fun _ => hA, hfr, .inr ⟨rfl, ?_⟩, ?_, I.bs, Nat.le_trans I.ok.bsz I.sz, ?_, ?_, I.stack, I.stkFree⟩
    · show ge.scope.kind = .function
      rw [hS]
      exact ok.kind
    · show ge.globals = mainGlobals
      rw [hge]
      exact I.ok.glob
    · show ge.builtins = builtinsNs
      rw [hge]
      rfl
    · show s.heap.objs.size ≤ ge.locals
      rw [hL]
      exact Nat.le_refl _
    · intro y z c e1 e2
      exact I.ok.inj y z c (inC e1).1 (inC e2).1
    · intro y hy
      have e : scope.names.lookup y = some .free := by
        rcases hy with hy | hy
        · have hy2 : ge.scope.names.lookup y = some .cell := hy
          rw [hS] at hy2
          exact kindF hy2 (.inl rfl)
        · have hy2 : ge.scope.names.lookup y = some .free := hy
          rw [hS] at hy2
          exact hy2
      obtain ⟨c, e1, _⟩ := look e
      exact ⟨c, e1⟩
    · intro y c z
      cases z
    · show ge.frame = some ge.locals
      rw [hge]
      rfl
    · intro b hb
      refine ⟨?_, fun y c e z => ?_⟩
      · show b ≠ ge.locals
        rw [hL]
        exact Nat.ne_of_lt (hfp b hb).2
      · exact (hfp b hb).1.2.2.2.2.1 y c (inC e).1 z
    · intro b o e hb
      rcases (hfp b hb).1.2.2.2.1 with z | z
      · exact I.ok.noex b o e z
      · exact absurd (Nat.lt_of_lt_of_le (Heap.lt_size e) (Nat.le_trans I.ok.bsz z)) (Nat.lt_irrefl _)
    · intro b hb z
      rcases List.mem_cons.mp (I.stkSub b z) with z | z
      · exact (hfp b hb).1.2.1 z
      · exact (hfp b hb).1.2.2.1 z
  have frL : H s.heap.objs.size = none := I.hok.fresh (Nat.le_refl _)
  refine ⟨okG, os5, bare5, Un.kept k5, ⟨m, ?_, fun i y av e1 e2 e3 => ?_⟩, fun y c e => ?_, ?_, fun y c e => I.freeC y c (inC e).1, fun p hp => ?_, I.hok.kept k5, by rw [wipe_length]; exact I.len⟩
  · show s5.heap.Ns ge.locals m
    rw [hL]
    exact ns5
  · obtain ⟨e2, hne⟩ := wipe_some e2
    have e3 : Vis ge.scope y := e3
    rw [hS] at e3
    have nol : scope.names.lookup y ≠ some .local := fun z => by
      rcases ok.own _ (PySem.mem_of_lookup z) (.inl rfl) with q | q
      · obtain ⟨p, hp, hpy⟩ := List.mem_map.mp q
        have e5 := ok.ix p hp
        have e6 : p.1 = y := hpy
        rw [e6] at e5
        exact hne (List.mem_map.mpr ⟨p, hp, nodup_ix hN e5 e1⟩)
      · exact q (List.mem_of_getElem? e1)
    have hf : scope.names.lookup y = some .free := by
      rcases e3 with z | z | z
      · exact absurd z nol
      · exact kindF z (.inl rfl)
      · exact z
    obtain ⟨m0, hn, hl⟩ := I.loc
    have hvis : Vis X.env.scope y := (ok.free _ (PySem.mem_of_lookup hf) rfl).elim (fun k => .inr (.inl k)) (fun k => .inr (.inr k))
    obtain ⟨u, r, q⟩ := hl i y av e1 e2 hvis
    obtain ⟨c, g1, g2⟩ := look hf
    refine ⟨u, r, .inr ⟨.inr ?_, c, g1, ?_⟩⟩
    · show ge.scope.names.lookup y = some .free
      rw [hS]
      exact hf
    · rcases q with ⟨k, _⟩ | ⟨_, c', e', z⟩
      · have k : X.env.scope.names.lookup y = some .local := k
        rcases ok.free _ (PySem.mem_of_lookup hf) rfl with k' | k'
        · have k2 : X.env.scope.names.lookup y = some .cell := k'
          rw [k2] at k
          cases k
        · have k2 : X.env.scope.names.lookup y = some .free := k'
          rw [k2] at k
          cases k
      · rw [g2] at e'
        cases e'
        exact z.keeps k5
  · obtain ⟨v, z⟩ := I.cell y c (inC e).1
    exact ⟨v, z.keeps k5⟩
  · show H ge.locals = none
    rw [hL]
    exact frL
  · have hp2 : p ∈ ([] : List (Addr × Obj)) ++ [(ga, go)] := hp
    rw [List.nil_append] at hp2
    rcases List.mem_cons.mp hp2 with e | e
    · subst e
      refine ⟨hga, I.hok.fresh (Nat.le_of_lt hgt), ?_, fun z => ?_, hgd⟩
      · show ga ≠ ge.locals
        rw [hL]
        exact Nat.ne_of_gt hgt
      · have z2 : ga ∈ frs X.stack := z
        obtain ⟨_, o, ho, _⟩ := I.stack.mem z2
        exact absurd (Nat.lt_trans (Heap.lt_size ho) hgt) (Nat.lt_irrefl _)
    · cases e
end
section
variable {X : Cx} {pins : List (Addr × Obj)} {σ : L2.St} {H : Hp} {s : Shared}
/-- the generator's object -/
def genO (X : Cx) (s4 : Shared) : Obj := { cls := .type "generator", data := .fields #[.int s4.gens.size 0, .str "<genexpr>" (s4.toks + 1), .str (X.env.qual ++ "<genexpr>") (s4.toks + 1 + 1)] }
/-- the generator is made: its source has come, the def's table may have grown -/
theorem gen_make {c P : Addr} {elt tg iter : Expr} {gpos : Pos} {scope : Scope} {own : List (Str × Nat)} {wi : TI} {k : Nat} {Q' : Value → Shared → Prop} {R : It → Hp → Prop} (hr : Room k X.A) (TB : GxR.TabB X.base X.mg c P) (hcode : X.env.code = .ref c)
    (ok : BlkOk X.N X.env.scope scope own) (hco : scope.isCoroutine = false) (nocell : ∀ y ∈ scope.names, y.2 ≠ .cell) (hdot : scope.names.lookup (".0" : Str) = some NameKind.local) (hi : PI X tg iter wi) (hs : ∀ v, genFold iter X.env v = pure v)
    (I : Inv X pins σ H s) (h : wi σ H fun J H1 => GxR.TabG H1 P ∧ R J H1)
    (hQ : ∀ (it : Addr) (fp : List Addr) (tn : Nat → Heap → Prop) (J : It) (H1 H2 : Hp) (code : Value) (s4 : Shared) (h5 : Heap), Inv X pins σ H2 s4 → GxR.Tabbed P H1 H2 → Turn X.prog X.w X.K tg J fp it tn → tn 0 s4.heap →
      (∀ b ∈ fp, FpOk X pins H2 b ∧ b < s4.heap.objs.size) → R J H1 → h5.Ns s4.heap.objs.size (fun y => if y = ".0" then some (.ref it) else none) → Heap.SameBut s4.heap.objs.size (s4.heap.push { cls := .type "frame", data := .dict #[] }) h5 →
      Q' (.ref h5.objs.size) { s4 with gens := s4.gens.push (.fresh (.compStart (.GeneratorExp elt [⟨tg, iter, [], 0⟩] scope gpos) 0 (.ref it) .none (genEnv scope (cloFrom X.env.cells scope.names []) s4.heap.objs.size code builtinsNs X.env))), toks := s4.toks + 1 + 1 + 1, heap := h5.push (genO X s4) }) :
    wpAny (model X.prog X.w) X.A (eval (.GeneratorExp elt [⟨tg, iter, [], 0⟩] scope gpos) X.env) Q' X.xe s := by
  have hfree : ∀ y ∈ scope.names, y.2 = .free → ∃ c, X.env.cells.lookup y.1 = some c := fun y hy e => by
    rcases ok.free y hy e with z | z
    · exact I.ok.has _ (.inl z)
    · exact I.ok.has _ (.inr z)
  refine wpAny_GeneratorExp_make hco (closure_ok hfree) nocell hdot ok.kind (by have := hr.dp; omega) ?_ hs
  refine thn (hi.run pins s σ H _ I h) fun xv s1 hx => thn hx fun itv s2 h2 => ?_
  obtain ⟨it, fp, tn, J, H1, rfl, I1, T, st, f1, ⟨ps, hP, ht⟩, q1⟩ := h2
  have hPs : s2.heap.get? P = some { cls := .none, data := .fields ps } := I1.hok P _ hP
  have cd : PySem.W.CodeHd s2.heap c P := TB.code.keeps fun b u e => I1.bk b u e
  have nP : ∀ b, H1 b = none → b ≠ P := fun b e z => by
    rw [z, hP] at e
    cases e
  have fsz : ∀ b ∈ fp, b < s2.heap.objs.size := fun b hb => by
    obtain ⟨o, e, _⟩ := T.obj _ _ st b hb
    exact Heap.lt_size e
  have cont : ∀ (code : Value) (h3 : Heap) (tk : Nat) (ps' : Array Value), Heap.ExtBut P s2.heap h3 → s2.heap.objs.size ≤ h3.objs.size → h3.get? P = some { cls := .none, data := .fields ps' } → (∃ more, ps' = ps ++ more) → TriplesOk ps'.toList →
      wpAny (model X.prog X.w) X.A (builtinsFor X.env.globals X.env.builtins) (fun bi s4 => ∀ h5, h5.Ns s4.heap.objs.size (fun y => if y = ".0" then some (.ref it) else none) → Heap.SameBut s4.heap.objs.size (s4.heap.push { cls := .type "frame", data := .dict #[] }) h5 →
        Q' (.ref h5.objs.size) { s4 with gens := s4.gens.push (.fresh (.compStart (.GeneratorExp elt [⟨tg, iter, [], 0⟩] scope gpos) 0 (.ref it) .none (genEnv scope (cloFrom X.env.cells scope.names []) s4.heap.objs.size code bi X.env))), toks := s4.toks + 1 + 1 + 1, heap := h5.push (genO X s4) }) X.xe { s2 with heap := h3, toks := tk } := by
    intro code h3 tk ps' hx hsz hP3 hmore ht3
    obtain ⟨bm, ob, e1, e2, e3, e4, e5, e6, e7, e8⟩ := TB.bm
    have keep3 : ∀ b u, b ≠ P → s2.heap.get? b = some u → h3.get? b = some u := fun b u hb e => hx b u hb e
    refine wpAny_builtinsFor (m := X.mg) (by rw [I1.ok.glob]; exact (I1.mod.glob.keeps I1.bk).extBut hx TB.gP) e1 e2 (keep3 _ _ e4 (I1.bk _ _ e5)) e6 e7 e8 ?_
    intro h5 n5 b5
    obtain ⟨more, em⟩ := hmore
    have J0 := GxR.inv_tab (more := more) (h' := h3) (g' := s2.gens) (d' := s2.drawn) (t' := tk) I1 hP keep3 (by rw [← em]; exact hP3) I1.bare
    refine hQ it fp tn J H1 (upd H1 P (.tbl (ps ++ more))) code { s2 with heap := h3, toks := tk } h5 J0 ⟨⟨ps ++ more, upd_same, by rw [← em]; exact ht3⟩, fun b hb => upd_ne hb⟩ T ?_ ?_ q1 n5 b5
    · refine T.keep _ _ _ st fun b hb o e => keep3 b o (nP b (f1 b hb).1) e
    · intro b hb
      refine ⟨⟨?_, (f1 b hb).2⟩, Nat.lt_of_lt_of_le (fsz b hb) hsz⟩
      rw [upd_ne (nP b (f1 b hb).1)]
      exact (f1 b hb).1
  refine ⟨I1.nolimit, ?_⟩
  cases hf : codeAmong gpos ps.toList with
  | none =>
    refine wpAny_genexprCodeX hcode (cd.code hPs ht) (cd.tab hPs) hf fun c' h' tk hx hge hlt hco' _ htab' _ => ?_
    obtain ⟨o1, vs, f1', tf, fl, tg', inF, tx, tt, op, _, _, _, _, _, _, _, _, _, htr, _⟩ := hco'
    exact cont _ h' tk _ hx (Nat.le_trans hge (Nat.le_of_lt hlt)) htab'.2 ⟨_, rfl⟩ htr
  | some cv =>
    refine wpAny_genexprCode_hit hcode (cd.code hPs ht) hf ?_
    exact cont cv s2.heap s2.toks ps (Heap.ExtBut.refl _ _) (Nat.le_refl _) hPs ⟨#[], by simp⟩ ht
end
/-- nothing but the table of generators has changed -/
structure Woke (s s2 : Shared) : Prop where
  hp : s2.heap = s.heap
  os : s2.os = s.os
  br : AllBare s2.gens
theorem inv_woke {X : Cx} {pins : List (Addr × Obj)} {σ : L2.St} {H : Hp} {s s2 : Shared} (I : Inv X pins σ H s) (k : Woke s s2) : Inv X pins σ H s2 := by
  obtain ⟨h2, g2, d2, t2, o2⟩ := s2
  obtain ⟨h1, g1, d1, t1, o1⟩ := s
  obtain ⟨e1, e2, br⟩ := k
  dsimp only at e1 e2
  subst e1 e2
  exact ⟨I.ok, I.os, br, I.base, I.loc, I.cell, I.free, I.freeC, I.pin, I.hok, I.len⟩
/-- what a generator expression under all is asked -/
def gTurns (J : It) (g : TG) (te : TE) (σw : L2.St) (vs : List Nat) (W : Nat → Nat → Hp → Prop) (Q : Bool → Hp → Prop) : Prop :=
  ∀ i m H, W i m H → (J.stop i H ∧ Q true H) ∨ (J.go i H ∧ ∀ x H', J.yld i H x H' → g x σw H' fun σ2 H2 => wipe σ2 vs = σw ∧ te σ2 H2 fun y H3 => ∃ b, y = .bl b ∧ if b = true then ∃ m', m' < m ∧ W (i + 1) m' H3 else Q false H3)
def gFin (G : Cx) (pn : Addr × Obj) (σw : L2.St) (Q : Bool → Hp → Prop) (b : Bool) (s : Shared) : Prop := ∃ H', Inv G [pn] σw H' s ∧ Q b H'
def gY (G : Cx) (pn : Addr × Obj) (σw : L2.St) (Q : Bool → Hp → Prop) : Protocol := fun _ _ v s kap =>
  ∃ b : Bool, v = .bool b ∧ (∃ H', Inv G [pn] σw H' s) ∧ (b = true → ∀ s2, Woke s s2 → kap (.send .none) s2) ∧ (b = false → gFin G pn σw Q false s)
section
variable {G : Cx} {pn : Addr × Obj} {σw : L2.St} {Q : Bool → Hp → Prop} {A2 : Around} {elt tg iter : Expr} {scope : Scope} {gpos : Pos} {it : Addr} {fp : List Addr} {tn : Nat → Heap → Prop} {J : It} {g : TG} {te : TE} {vs : List Nat} {W : Nat → Nat → Hp → Prop}
theorem gen_loop (hA : G.A = A2.over (.compLoop (.GeneratorExp elt [⟨tg, iter, [], 0⟩] scope gpos) 0 (.ref it) .none G.env) []) (hc : G.calm = true) (hex : G.ex = fp) (hpn : G.pn = []) (hxe : G.xe = fun _ _ => False) (hco : G.env.scope.isCoroutine = false)
    (T : Turn G.prog G.w G.K tg J fp it tn) (hgp : ∀ b ∈ fp, pn.1 ≠ b) (pg : PG G tg g) (pe : PE G elt te) (hsw : ∀ σ2 : L2.St, wipe σ2 vs = σw → σ2.length = σw.length ∧ ∀ (i : Nat) v, σw[i]? = some (some v) → σ2[i]? = some (some v)) (turn : gTurns J g te σw vs W Q) :
    ∀ (m n i : Nat) (s₀ s : Shared), m < n → (∃ H', Inv G [pn] σw H' s ∧ tn i s.heap ∧ (∀ b ∈ fp, H' b = none) ∧ W i m H') →
      Seg (model G.prog G.w) A2 (fun _ _ r s1 => r = .ok .next ∧ gFin G pn σw Q true s1) (gY G pn σw Q) n s₀ (.compLoop (.GeneratorExp elt [⟨tg, iter, [], 0⟩] scope gpos) 0 (.ref it) .none G.env)
        ((model G.prog G.w).den (.compLoop (.GeneratorExp elt [⟨tg, iter, [], 0⟩] scope gpos) 0 (.ref it) .none G.env)) [] s := by
  have stat : ∀ {σ' : L2.St} {H' : Hp} {s' : Shared}, Inv G [pn] σ' H' s' → (∀ b ∈ fp, H' b = none) → ∀ b ∈ fp, FpOk G [pn] H' b := fun {σ' H' s'} I' hn b hb => by
    have hb2 : b ∈ G.ex := by
      rw [hex]
      exact hb
    refine ⟨hn b hb, (I'.ok.exf b hb2).1, I'.ok.exfs b hb2, .inl hb2, fun x c e => (I'.ok.exf b hb2).2 x c e, fun p hp => ?_⟩
    rw [hpn] at hp
    have hp2 : p ∈ [pn] := hp
    rw [List.mem_singleton.mp hp2]
    exact hgp b hb
  intro m
  induction m using Nat.strongRecOn with
  | ind m ih =>
    rintro n i s₀ s hmn ⟨H', I, st, nf, w⟩
    obtain ⟨n, rfl⟩ : ∃ n', n = n' + 1 := ⟨n - 1, by omega⟩
    show Seg _ A2 _ _ _ s₀ _ ((compTurn (.GeneratorExp elt [⟨tg, iter, [], 0⟩] scope gpos) 0 (.ref it) .none G.env).onRaise (leaving G.env)) [] s
    rw [compTurn_gen, Sem.onRaise_eq_wrap]
    refine seg_bind_wrap (wpAny_standAt ?_)
    rcases turn i m H' w with ⟨stop, qq⟩ | ⟨gox, step⟩
    · have td := T.done G rfl rfl rfl hc i [pn] s σw H' (fun _ _ => False) I (stat I nf) st stop
      rw [hA] at td
      refine seg_bind_wrap (thnF td fun r s6 z => ?_)
      obtain ⟨hr, I6⟩ := z
      subst hr
      exact seg_end (.ok .next) ⟨rfl, H', I6, qq⟩
    · have ti := T.item G rfl rfl rfl hc i [pn] s σw H' (fun _ _ => False) I (stat I nf) st gox
      rw [hA] at ti
      refine seg_bind_wrap (thnF ti fun r s6 z => ?_)
      obtain ⟨u, hr, h6⟩ := z
      subst hr
      refine seg_bind_wrap (thnF h6 fun _ s7 z => ?_)
      obtain ⟨x, H7, I7, r7, y7, st7, n7⟩ := z
      have I7' := I7.pinned (stat I7 n7) (T.obj _ _ st7)
      have pr := pg.run _ s7 _ H7 x u _ I7' r7 (step x H7 y7)
      rw [hA, hxe] at pr
      refine seg_bind_wrap (thnF pr fun _ s8 z => ?_)
      obtain ⟨σ8, H8, I8, hw8, q8⟩ := z
      have hy : ∀ v, yieldOut G.env v = yieldValue v := fun v => by simp only [yieldOut, hco, Bool.false_eq_true, if_false]
      simp only [List.forIn_nil, hy]
      refine seg_bind_wrap (wpAny_pure ?_)
      simp only [if_true]
      rw [Sem.bind_eq_wrap', Sem.bind_eq_wrap', Sem.wrap_wrap, Sem.wrap_wrap]
      have er := pe.run _ s8 σ8 H8 _ I8 q8
      rw [hA, hxe] at er
      refine seg_wrap (thnF er fun z s10 zz => ?_)
      obtain ⟨yv, H10, I10, r10, b, rfl, nx⟩ := zz
      cases r10
      have pin' : ∀ b ∈ fp, ∀ o, s7.heap.get? b = some o → s10.heap.get? b = some o ∧ H10 b = none := fun b hb o e =>
        let z := I10.pin (b, o) (List.mem_append_right _ (List.mem_append_right _ (mem_pinsAt hb e)))
        ⟨z.1, z.2.1⟩
      obtain ⟨hl8, hk8⟩ := hsw σ8 hw8
      have J10 : Inv G [pn] σw H10 s10 := (I10.unpinned (pins := [pn])).weak hl8.symm hk8
      refine seg_at (seg_yield rfl rfl rfl ⟨b, rfl, ⟨H10, J10⟩, fun hb s2 wk => ?_, fun hb => ?_⟩)
      · subst hb
        rw [if_pos rfl] at nx
        obtain ⟨m', hm', w'⟩ := nx
        refine seg_again rfl (ih m' hm' n (i + 1) s2 s2 (by omega) ⟨H10, inv_woke J10 wk, ?_, fun b hb => ?_, w'⟩)
        · rw [wk.hp]
          exact T.keep _ _ _ st7 fun b hb o e => (pin' b hb o e).1
        · obtain ⟨o, e, _⟩ := T.obj _ _ st7 b hb
          exact (pin' b hb o e).2
      · subst hb
        exact ⟨H10, J10, nx⟩
end
section
variable {M : Model} {A2 : Around} {R : GenEnd} {Y : Protocol} {n : Nat} {s₀ s : Shared} {elt tg iter : Expr} {scope : Scope} {gpos : Pos} {it : Addr} {ge : Env}
/-- the first turn -/
theorem gen_first {P : Program} {w : World} (hself : ∀ (Q : Value → Shared → Prop) (E : Value → Shared → Prop), Q (.ref it) s → wpAny (model P w) (A2.over (.compStart (.GeneratorExp elt [⟨tg, iter, [], 0⟩] scope gpos) 0 (.ref it) .none ge) []) (pyIter (.ref it)) Q E s)
    (loop : Seg (model P w) A2 R Y n s₀ (.compLoop (.GeneratorExp elt [⟨tg, iter, [], 0⟩] scope gpos) 0 (.ref it) .none ge) ((model P w).den (.compLoop (.GeneratorExp elt [⟨tg, iter, [], 0⟩] scope gpos) 0 (.ref it) .none ge)) [] s) :
    Seg (model P w) A2 R Y n s₀ (.compStart (.GeneratorExp elt [⟨tg, iter, [], 0⟩] scope gpos) 0 (.ref it) .none ge) ((model P w).den (.compStart (.GeneratorExp elt [⟨tg, iter, [], 0⟩] scope gpos) 0 (.ref it) .none ge)) [] s := by
  show Seg _ A2 _ _ _ s₀ _ ((compStart (.GeneratorExp elt [⟨tg, iter, [], 0⟩] scope gpos) 0 (.ref it) .none ge).onRaise (leaving ge)) [] s
  unfold compStart
  rw [Sem.onRaise_eq_wrap]
  show Seg _ A2 _ _ _ s₀ _ ((ask >>= _).wrap _ _ _ _) [] s
  refine seg_bind_wrap (wpAny_askSetting ?_)
  split
  · exact seg_again rfl loop
  · first
      | exact seg_bind_wrap (wpAny_rule (seg_bind_wrap (wpAny_standAt (seg_bind_wrap (hself _ _ (seg_again rfl loop))))))
      | (refine seg_bind_wrap (wpAny_rule ?_)
         show Seg _ A2 _ _ _ s₀ _ ((standAt iter.pos >>= _).wrap _ _ _ _) [] s
         exact seg_bind_wrap (wpAny_standAt (seg_bind_wrap (hself _ _ (seg_again rfl loop)))))
end
theorem bare_set {gens : Array GenState} {x : GenState} (h : AllBare gens) (hx : x.bare = true) (i : Nat) : AllBare (gens.setIfInBounds i x) := fun y hy => by
  rw [Array.mem_iff_getElem?] at hy
  obtain ⟨j, hj⟩ := hy
  by_cases e : i = j
  · subst e
    by_cases hi : i < gens.size
    · rw [Array.getElem?_setIfInBounds_self_of_lt hi] at hj
      rw [← Option.some.inj hj]
      exact hx
    · rw [Array.getElem?_eq_none (by simpa using hi)] at hj
      cases hj
  · rw [Array.getElem?_setIfInBounds_ne e] at hj
    exact h y (Array.mem_iff_getElem?.mpr ⟨j, hj⟩)
/-- all over the generator at a, number gi: its turns by the protocol -/
theorem all_gen {G : Cx} {pn : Addr × Obj} {σw : L2.St} {Q : Bool → Hp → Prop} {A : Around} {gi : Nat} {RR : Result → Shared → Prop} (hh : A.handled = none) (hroom : A.depth < recursionLimit) (hgen : ∀ h : Heap, h.get? pn.1 = some pn.2 → h.IsGen pn.1 gi)
    (hR : ∀ b s1, gFin G pn σw Q b s1 → ∀ s2 : Shared, (∀ b o, s1.heap.get? b = some o → s2.heap.get? b = some o) → s2.os = s1.os → AllBare s2.gens → RR (.ok (.ret (.bool b))) s2) :
    ∀ (n : Nat) (s : Shared), (∃ H', Inv G [pn] σw H' s) → gi < s.gens.size → (∃ gs, s.gens[gi]? = some gs ∧ ∀ s2, Woke s s2 → gs.Goes (model G.prog G.w) A.in1.in1 (fun _ _ r s1 => r = .ok .next ∧ gFin G pn σw Q true s1) (gY G pn σw Q) n (.send .none) s2) →
      codeAny (model G.prog G.w) A (.builtin "all.loop" ⟨[.ref pn.1], []⟩) RR s := by
  intro n
  induction n using Nat.strongRecOn with
  | ind n ih =>
    rintro s ⟨H', I⟩ hgi ⟨gs, hgs, hgo⟩
    have hpin := (I.pin pn (List.mem_append_right _ (List.mem_singleton.mpr rfl))).1
    have brun : AllBare (s.setGen gi .running).gens := bare_set I.bare rfl gi
    refine codeAny_builtin F.entry_all_loop ?_
    rw [Around.under_plainId F.plain_all_loop _]
    show wpAny _ A.in1 (pyNext (.ref pn.1) >>= _) _ _ s
    refine wpAny_bind (GenW.wpAny_gsz (n := s.gens.size) (Nat.le_refl _) ?_)
    refine wpAny_pyNext_genexpQ (P := fun _ _ s1 => gFin G pn σw Q true s1) hh I.nolimit hroom (hgen _ hpin) hgs (hgo _ ⟨rfl, rfl, brun⟩) (fun v s₁ gs' hb hv hsz => ?_) (fun s₁ hp h' hk hsz => ?_)
    · obtain ⟨b, rfl, ⟨H1, I1⟩, ht, hf⟩ := hv
      have b1 : AllBare (s₁.setGen gi gs').gens := bare_set I1.bare hb gi
      refine wpAny_bind (wpAny_holding (wpAny_truthy_bool ?_))
      refine wpAny_bind (wpAny_letGo ?_)
      cases b with
      | false =>
        simp only [Bool.false_eq_true, if_false]
        refine wpAny_bind (wpAny_rule (wpAny_pure ?_))
        exact hR false s₁ (hf rfl) (s₁.setGen gi gs') (fun _ _ e => e) rfl b1
      | true =>
        simp only [if_true]
        have hlt : gi < (s₁.setGen gi gs').gens.size := Nat.lt_of_lt_of_le hgi hsz
        have hlt1 : gi < s₁.gens.size := by
          have e := GenW.setGen_size s₁ gi gs'
          omega
        cases n with
        | zero => exact absurd (ht rfl s₁ ⟨rfl, rfl, I1.bare⟩) id
        | succ n =>
          refine wpAny_pure ⟨plainId_quiet F.plain_all_loop _, ih n (Nat.lt_succ_self n) (s₁.setGen gi gs') ⟨H1, inv_woke I1 ⟨rfl, rfl, b1⟩⟩ hlt ⟨gs', ?_, fun s2 wk => ht rfl s2 ⟨wk.hp, wk.os, wk.br⟩⟩⟩
          show (s₁.gens.setIfInBounds gi gs')[gi]? = some gs'
          rw [Array.getElem?_setIfInBounds_self_of_lt hlt1]
    · refine wpAny_bind (wpAny_rule (wpAny_pure ?_))
      obtain ⟨H1, I1, q1⟩ := id hp
      exact hR true s₁ hp { s₁.setGen gi .finished with heap := h' } hk rfl (bare_set I1.bare rfl gi)
def tAllG (P : Addr) (wi : TI) (g : TG) (te : TE) (vs : List Nat) : TE := fun σ H Q => wi σ H fun J H1 => GxR.TabG H1 P ∧ ∀ H2, GxR.Tabbed P H1 H2 → ∃ W : Nat → Nat → Hp → Prop, (∃ m, W 0 m H2) ∧ gTurns J g te (wipe σ vs) vs W (fun b H' => Q (.bl b) H')
theorem pe_allG {X : Cx} {c P : Addr} {elt tg iter : Expr} {p pos gpos : Pos} {scope : Scope} {own : List (Str × Nat)} {wi : TI} {g : TG} {te : TE} {k : Nat} (hr : Room (k + 1) X.A) (hc : X.calm = true) (hN : X.N.Nodup) (hg : Gl X "all") (hm : X.mg "all" = none) (hb : bootBuiltins "all" = some (.builtin "all"))
    (TB : GxR.TabB X.base X.mg c P) (hcode : X.env.code = .ref c) (ok : BlkOk X.N X.env.scope scope own) (hco : scope.isCoroutine = false) (nocell : ∀ y ∈ scope.names, y.2 ≠ .cell) (hdot : scope.names.lookup (".0" : Str) = some NameKind.local) (hi : PI X tg iter wi)
    (hgt : ∀ (s : Shared) (H : Hp) (cl : List (Str × Addr)) (C : Addr) (code : Value) (fp : List Addr) (Ag : Around), PG (gcx X s H (genEnv scope cl C code builtinsNs X.env) fp Ag) tg g)
    (hel : ∀ (s : Shared) (H : Hp) (cl : List (Str × Addr)) (C : Addr) (code : Value) (fp : List Addr) (Ag : Around), Room k Ag → PE (gcx X s H (genEnv scope cl C code builtinsNs X.env) fp Ag) elt te)
    (hs : ∀ v, genFold iter X.env v = pure v := by intro _; rfl)
    (he : starEach [.GeneratorExp elt [⟨tg, iter, [], 0⟩] scope gpos] X.env = (false, eval (.GeneratorExp elt [⟨tg, iter, [], 0⟩] scope gpos) X.env) :: starEach [] X.env := by rfl) :
    PE X (.Call (.Name "all" p) [.GeneratorExp elt [⟨tg, iter, [], 0⟩] scope gpos] [] pos) (tAllG P wi g te (own.map (·.2))) := by
  constructor
  intro pins s σ H Q I h
  refine wpAny_Call_Name_kw (ld_blt I hg hm hb ?_)
  refine PyProof.Rows.callWith_builtin1 ?_ he (by rfl)
  rw [he]
  show wpAny _ _ (spliced ((false, eval (.GeneratorExp elt [⟨tg, iter, [], 0⟩] scope gpos) X.env) :: backTo pos (starEach [] X.env))) _ _ s
  refine Calls.spliced_cons (gen_make (hr.mono (Nat.le_succ k)) TB hcode ok hco nocell hdot hi hs I h fun it fp tn J H1 H2 code s4 h5 I4 tb T st f4 hR n5 b5 => ?_)
  refine Calls.spliced_nil ?_
  obtain ⟨W, ⟨m, w0⟩, turns⟩ := hR H2 tb
  show wpAny _ _ (call (.builtin "all") [.ref h5.objs.size]) _ _ _
  have sz5 : h5.objs.size = s4.heap.objs.size + 1 := by
    rw [b5.1, Heap.size_push]
  generalize hge : genEnv scope (cloFrom X.env.cells scope.names []) s4.heap.objs.size code builtinsNs X.env = ge
  have k5 : ∀ b o, s4.heap.get? b = some o → (h5.push (genO X s4)).get? b = some o := fun b o e =>
    Heap.get?_push_of_some _ (b5.extBut b o (Nat.ne_of_lt (Heap.lt_size e)) (Heap.get?_push_of_some _ e))
  have ga5 : (h5.push (genO X s4)).get? h5.objs.size = some (genO X s4) := Heap.get?_push_size _ rfl
  have hAg : (X.A.in1.in1.over (.compLoop (.GeneratorExp elt [⟨tg, iter, [], 0⟩] scope gpos) 0 (.ref it) .none ge) []).handled = none := hr.hd
  have hFr : (X.A.in1.in1.over (.compLoop (.GeneratorExp elt [⟨tg, iter, [], 0⟩] scope gpos) 0 (.ref it) .none ge) []).frames = some (ge :: X.stack) := by
    show pushEnvs [ge] (pushEnvs [] X.A.frames) = some (ge :: X.stack)
    rw [I4.ok.frames]
    rfl
  have hRm : Room k (X.A.in1.in1.over (.compLoop (.GeneratorExp elt [⟨tg, iter, [], 0⟩] scope gpos) 0 (.ref it) .none ge) []) := by
    have e1 : (X.A.in1.in1.over (.compLoop (.GeneratorExp elt [⟨tg, iter, [], 0⟩] scope gpos) 0 (.ref it) .none ge) []).depth = X.A.depth + 1 := rfl
    have e2 : (X.A.in1.in1.over (.compLoop (.GeneratorExp elt [⟨tg, iter, [], 0⟩] scope gpos) 0 (.ref it) .none ge) []).units = X.A.units + 5 := rfl
    have d1 := hr.dp
    have d2 := hr.un
    exact ⟨hr.hd, by rw [e1]; omega, by rw [e2]; omega⟩
  have I5 := gen_start (s5 := { s4 with gens := s4.gens.push (.fresh (.compStart (.GeneratorExp elt [⟨tg, iter, [], 0⟩] scope gpos) 0 (.ref it) .none ge)), toks := s4.toks + 1 + 1 + 1, heap := h5.push (genO X s4) }) I4 ok hN f4 hge.symm nocell hAg hFr k5 rfl (I4.bare.push rfl) (n5.keeps fun b o e => Heap.get?_push_of_some _ e) ga5 (by omega) (fun v z => by cases z)
  have st5 : tn 0 (h5.push (genO X s4)) := T.keep _ _ _ st fun b _ o e => k5 b o e
  refine call_function_tree F.kind_all F.plain_all F.entry_all (F.args_all1 _) ?_
  unfold Builtin.«all»
  refine wpAny_bind (m := oneArg "all" _) (wpAny_pure ?_)
  have isg : ∀ hh : Heap, hh.get? h5.objs.size = some (genO X s4) → hh.IsGen h5.objs.size s4.gens.size := fun hh e => ⟨_, _, _, e, rfl, rfl, rfl⟩
  refine wpAny_bind (wpAny_pyIter_gen (isg _ ga5) ?_)
  refine wpAny_pure ⟨plainId_quiet F.plain_all_loop _, ?_⟩
  refine all_gen (G := gcx X s4 H2 ge fp (X.A.in1.in1.over (.compLoop (.GeneratorExp elt [⟨tg, iter, [], 0⟩] scope gpos) 0 (.ref it) .none ge) [])) (pn := (h5.objs.size, genO X s4)) (σw := wipe σ (own.map (·.2))) (Q := fun b H' => Q (.bl b) H') (gi := s4.gens.size)
    hr.hd (by have := hr.dp; omega) isg (fun b s1 hf s2 hk ho hbr => ?_) (m + 1) _ ⟨H2, I5⟩ (by show s4.gens.size < (s4.gens.push _).size; rw [Array.size_push]; omega) ⟨.fresh (.compStart (.GeneratorExp elt [⟨tg, iter, [], 0⟩] scope gpos) 0 (.ref it) .none ge), by show (s4.gens.push _)[s4.gens.size]? = some _; rw [Array.getElem?_push_size], fun s2 wk => ⟨rfl, ?_⟩⟩
  · obtain ⟨H', I', q'⟩ := hf
    have un : Un (frs X.stack) fp H2 H' s4.heap s2.heap := Un.trans I'.base (Un.kept hk)
    have J' : Inv X pins σ H' s2 := I4.call' (ch := fp) (ho.trans I'.os) un (I'.hok.kept hk) hbr fun b hb => ⟨(f4 b hb).1.2.2.2.1, (f4 b hb).1.2.1, (f4 b hb).1.2.2.2.2.1, (f4 b hb).1.2.2.2.2.2⟩
    exact ⟨.bl b, H', J', rfl, q'⟩
  · have nfp : ∀ b ∈ fp, H2 b = none := fun b hb => (f4 b hb).1.1
    refine gen_first (fun Q1 E1 q1 => T.self _ 0 s2 Q1 E1 (by rw [wk.hp]; exact st5) q1) ?_
    refine gen_loop (G := gcx X s4 H2 ge fp (X.A.in1.in1.over (.compLoop (.GeneratorExp elt [⟨tg, iter, [], 0⟩] scope gpos) 0 (.ref it) .none ge) [])) (tn := tn) (vs := own.map (·.2)) (W := W) rfl hc rfl rfl rfl ?_ T (fun b hb => ?_) ?_ ?_ ?_ turns m (m + 1) 0 s2 s2 (Nat.lt_succ_self m) ⟨H2, inv_woke I5 wk, by rw [wk.hp]; exact st5, nfp, w0⟩
    · show ge.scope.isCoroutine = false
      rw [← hge]
      exact hco
    · have hb4 : b < s4.heap.objs.size := (f4 b hb).2
      intro z
      have z2 : h5.objs.size = b := z
      rw [← z2, sz5] at hb4
      exact absurd hb4 (Nat.not_lt.mpr (Nat.le_succ _))
    · rw [← hge]
      exact hgt _ _ _ _ _ _ _
    · subst hge
      exact hel _ _ _ _ _ _ _ hRm
    · intro σ2 e2
      refine ⟨?_, fun i v e3 => ?_⟩
      · rw [← wipe_length σ2 (own.map (·.2)), e2]
      · rw [← e2] at e3
        exact (wipe_some e3).1

/-- all over zip of two tuples of one length -/
theorem gturns_zipT {K : PySem.W.Frag} {a b : Addr} {xs ys : List V} {g : TG} {te : TE} {σw : L2.St} {vs : List Nat} {Q : Bool → Hp → Prop} {H : Hp} (hl : xs.length = ys.length) (Pv : Nat → Hp → Prop) (h0 : Pv 0 H) (hq : ∀ i H, Pv i H → SqT K H a xs ∧ SqT K H b ys)
    (hs : ∀ (i : Nat) (x y : V) (T : Addr) (H : Hp) (N : Hp → Prop), xs[i]? = some x → ys[i]? = some y → Pv i H → H T = none → (∀ H3, Pv (i + 1) H3 → N H3) → g (.ref T) σw (upd H T (.tup [x, y])) fun σ2 H2 => wipe σ2 vs = σw ∧ te σ2 H2 fun v H3 => ∃ b, v = .bl b ∧ if b = true then N H3 else Q false H3)
    (hd : ∀ H, Pv xs.length H → Q true H) : ∃ W : Nat → Nat → Hp → Prop, (∃ m, W 0 m H) ∧ gTurns (RZ.ItzT K a b) g te σw vs W Q := by
  refine ⟨fun i m H => m = xs.length - i ∧ i ≤ xs.length ∧ Pv i H, ⟨xs.length, rfl, Nat.zero_le _, h0⟩, fun i m H st => ?_⟩
  obtain ⟨em, le, pv⟩ := st
  have two := hq i H pv
  rcases Nat.lt_or_eq_of_le le with lt | eq
  · refine .inr ⟨⟨xs, ys, xs[i], ys[i], two.1, two.2, List.getElem?_eq_getElem lt, List.getElem?_eq_getElem (hl ▸ lt)⟩, fun v H' y => ?_⟩
    obtain ⟨tp, a1, a2, rfl, free, rfl, w1, w2⟩ := y
    exact hs i a1 a2 tp H _ (w1 xs two.1) (w2 ys two.2) pv free fun H3 p' => ⟨xs.length - (i + 1), by omega, rfl, lt, p'⟩
  · subst eq
    exact .inl ⟨⟨xs, ys, two.1, two.2, Or.inl (Nat.le_refl _)⟩, hd H pv⟩

/-! ### zip of a text and a tuple -/
def ItzS (K : PySem.W.Frag) (x : Str) (b : Addr) : It :=
  ⟨fun i H => ∃ (ys : List V) (c : Nat) (y : V), SqT K H b ys ∧ x.cps[i]? = some c ∧ ys[i]? = some y,
    fun i H v H' => ∃ (T : Addr) (c : Nat) (y : V), v = .ref T ∧ H T = none ∧ H' = upd H T (.tup [.str ⟨#[c]⟩, y]) ∧ x.cps[i]? = some c ∧ ∀ ys, SqT K H b ys → ys[i]? = some y,
    fun i H => ∃ ys : List V, SqT K H b ys ∧ i ≤ x.cps.size ∧ i ≤ ys.length ∧ (i = x.cps.size ∨ i = ys.length)⟩
theorem zip_sep {z TI TO i1 i2 b : Addr} (D : ZipApart z TI TO i1 i2 b b) : ZipSep2 z TI TO i1 i2 [i1] [i2, b] where
  TIz := D.TIz
  TOz := D.TOz
  TITO := D.TITO
  TIi1 := D.TIi1
  mem1 := List.mem_singleton.mpr rfl
  zf1 := fun h => D.i1z (List.mem_singleton.mp h).symm
  Tf1 := fun h => D.TOi1 (List.mem_singleton.mp h)
  TIi2 := D.TIi2
  mem2 := List.mem_cons_self
  zf2 := fun h => by
    rcases List.mem_cons.mp h with e | e
    · exact D.i2z e.symm
    · exact D.l1z (List.mem_singleton.mp e).symm
  Tf2 := fun h => by
    rcases List.mem_cons.mp h with e | e
    · exact D.TOi2 e
    · exact D.l1TO (List.mem_singleton.mp e).symm
  sep1_2 := fun h => by
    rcases List.mem_cons.mp h with e | e
    · exact D.i12 e
    · exact D.l1i1 (List.mem_singleton.mp e).symm
  sep2_1 := fun h => D.i12 (List.mem_singleton.mp h).symm
/-- the five cells of a running zip of the text x and the tuple at b, i turns done -/
structure ZipGo (x : Str) (t : Tok) (z TI TO i1 i2 b : Addr) (i : Nat) (h : Heap) : Prop where
  zp : IsZip h z TI TO .none
  ins : IsPair h TI (.ref i1) (.ref i2)
  out : ∃ p : Value × Value, IsPair h TO p.1 p.2
  txt : h.IsStrIter i1 (strIterType x) x t i
  tup : h.IsTupleIter i2 b i
theorem five {z TI TO i1 i2 c : Addr} {Pr : Addr → Prop} (h : c ∈ [z, TI, TO, i1, i2]) (pz : Pr z) (pI : Pr TI) (pO : Pr TO) (p1 : Pr i1) (p2 : Pr i2) : Pr c := by
  simp only [List.mem_cons, List.not_mem_nil, or_false] at h
  rcases h with rfl | rfl | rfl | rfl | rfl
  all_goals assumption
theorem apart5 {z TI TO i1 i2 c : Addr} (h : c ∉ [z, TI, TO, i1, i2]) : c ≠ z ∧ c ≠ TO ∧ c ≠ i1 ∧ c ≠ i2 := by
  simp only [List.mem_cons, List.not_mem_nil, or_false, not_or] at h
  exact ⟨h.1, h.2.2.1, h.2.2.2.1, h.2.2.2.2⟩
section
variable {x : Str} {t : Tok} {z TI TO i1 i2 b : Addr} {i : Nat} {h h' : Heap}
theorem ZipGo.obj (g : ZipGo x t z TI TO i1 i2 b i h) {c : Addr} (hc : c ∈ [z, TI, TO, i1, i2]) : ∃ o, h.get? c = some o ∧ ∀ v, o.data ≠ .cell v := by
  obtain ⟨p, hp⟩ := g.out
  obtain ⟨oa, ea, _, da⟩ := g.txt
  obtain ⟨ob, eb, _, db⟩ := g.tup
  refine five (Pr := fun c => ∃ o, h.get? c = some o ∧ ∀ v, o.data ≠ .cell v) hc ⟨_, g.zp, ?_⟩ ⟨_, g.ins, ?_⟩ ⟨_, hp, ?_⟩ ⟨oa, ea, ?_⟩ ⟨ob, eb, ?_⟩
  · intro v e; cases e
  · intro v e; cases e
  · intro v e; cases e
  · intro v e; rw [da] at e; cases e
  · intro v e; rw [db] at e; cases e
theorem ZipGo.lt (g : ZipGo x t z TI TO i1 i2 b i h) {c : Addr} (hc : c ∈ [z, TI, TO, i1, i2]) : c < h.objs.size := by
  obtain ⟨o, e, _⟩ := g.obj hc
  exact Heap.lt_size e
theorem ZipGo.on (g : ZipGo x t z TI TO i1 i2 b i h) (k : ∀ c ∈ [z, TI, TO, i1, i2], ∀ o, h.get? c = some o → h'.get? c = some o) : ZipGo x t z TI TO i1 i2 b i h' := by
  obtain ⟨p, hp⟩ := g.out
  obtain ⟨oa, ea, ra⟩ := g.txt
  exact ⟨k z (by simp) _ g.zp, k TI (by simp) _ g.ins, ⟨p, k TO (by simp) _ hp⟩, ⟨oa, k i1 (by simp) _ ea, ra⟩, g.tup.at (k i2 (by simp))⟩
end
theorem turn_zipS {P : Program} {w : World} {K : PySem.W.Frag} {elts : List Expr} {kk : Nat} {tpos : Pos} {x : Str} {t : Tok} {b z TI TO i1 i2 : Addr} (D : ZipApart z TI TO i1 i2 b b) :
    Turn P w K (.Tuple elts kk tpos) (ItzS K x b) [z, TI, TO, i1, i2] z (ZipGo x t z TI TO i1 i2 b) where
  mem := List.mem_cons_self
  obj := fun _ _ g _ hc => g.obj hc
  keep := fun _ _ _ g k => g.on k
  item := by
    intro X eP ew eK calm n pins s σ H E I fps g go
    subst eP ew eK
    obtain ⟨ys, c, y, tys, ec, ey⟩ := go
    obtain ⟨vs, rel, tupAt, _⟩ := I.tuple tys
    obtain ⟨u, eu, ru⟩ := rel.get ey
    obtain ⟨p, hp⟩ := g.out
    have zlt := g.lt (c := z) (by simp)
    have n1 : n < x.cps.size := Nat.lt_of_not_le fun le => by
      rw [Array.getElem?_eq_none le] at ec
      cases ec
    have n2 : n < vs.toArray.size := by simpa using (List.getElem?_eq_some_iff.mp eu).1
    have calmA : X.A.in1.handled = none := I.ok.hd calm
    refine wpAny_pyNext_zipD2_item (zip_sep D) (Draws.text calmA i1 x t) (Draws.tuple calmA i2 b D.l1i2 vs.toArray) g.zp g.ins hp g.txt ⟨g.tup, tupAt⟩ n1 n2 fun v1 v2 h1 tk P1 P2 zp1 out1 txt1 tup1 new1 _ kept1 => ?_
    obtain ⟨c', k, ec', rfl⟩ := P1
    obtain rfl : c = c' := Option.some.inj (ec.symm.trans ec')
    obtain rfl : u = v2 := Option.some.inj (eu.symm.trans (by simpa using P2))
    refine ⟨_, rfl, wpAny_letOwnedTupleGo_zip (s := { s with heap := h1, toks := tk }) zp1 fun h2 zp2 sb => ?_⟩
    have up : ∀ d, d ≠ z → h2.get? d = h1.get? d := fun d nd => sb.2 d nd
    have kept2 : ∀ d o, d ∉ [z, TI, TO, i1, i2] → s.heap.get? d = some o → h2.get? d = some o := fun d o nd e => by
      obtain ⟨a1, a2, a3, a4⟩ := apart5 nd
      rw [up d a1]
      exact kept1 d o a1 a2 a3 a4 e
    have new2 : h2.get? s.heap.objs.size = some { cls := .type "tuple", data := .seq #[.str ⟨#[c]⟩ k, u] } := (up _ (Nat.ne_of_gt zlt)).trans new1
    have I2 := I.turnedNew (t' := tk) (ch := [z, TI, TO, i1, i2]) (ob := .tup [.str ⟨#[c]⟩, y]) kept2 fps (Nat.le_refl _) ⟨show 2 ≤ sizeLine by decide, [.str ⟨#[c]⟩ k, u], .cons ⟨k, rfl⟩ (.cons ru .nil), ⟨_, new2, rfl, _, rfl⟩⟩
    refine ⟨.ref s.heap.objs.size, _, I2, rfl, ⟨_, c, y, rfl, I.hok.fresh (Nat.le_refl _), rfl, ec, fun l tl => (I.tuple_inj tl tys) ▸ ey⟩, ⟨zp2, ?_, ⟨(_, _), (up _ D.TOz).trans out1⟩, ?_, tup1.1.at fun o e => (up _ D.i2z).trans e⟩, fun d hd => ?_⟩
    · exact (up _ D.TIz).trans (kept1 TI _ D.TIz D.TITO D.TIi1 D.TIi2 g.ins)
    · obtain ⟨o, e, r⟩ := txt1
      exact ⟨o, (up _ D.i1z).trans e, r⟩
    · rw [upd_ne (Nat.ne_of_lt (g.lt hd))]
      exact (fps d hd).1
  done := by
    intro X eP ew eK calm n pins s σ H E I fps g stop
    subst eP ew eK
    obtain ⟨ys, tys, le1, le2, last⟩ := stop
    obtain ⟨vs, rel, tupAt, _⟩ := I.tuple tys
    obtain ⟨p, hp⟩ := g.out
    have lv : vs.toArray.size = ys.length := by simpa using rel.length.symm
    have calmA : X.A.in1.handled = none := I.ok.hd calm
    refine wpAny_pyNext_zipD2_end (zip_sep D) (Draws.text calmA i1 x t) (Draws.tuple calmA i2 b D.l1i2 vs.toArray) g.zp g.ins hp g.txt ⟨g.tup, tupAt⟩ le1 (by omega) (by omega) fun h1 tk kept1 => ⟨rfl, ?_⟩
    refine I.turnedL (t' := tk) (ch := [z, TI, TO, i1, i2]) (fun d o nd e => ?_) fps
    obtain ⟨a1, a2, a3, a4⟩ := apart5 nd
    exact kept1 d o a1 a2 a3 a4 e
  self := fun _ _ _ _ _ g q => wpAny_pyIter_zip g.zp q
def iZipS (K : PySem.W.Frag) (ta : TA) : TI := fun σ H R => ta σ H fun vs H1 => ∃ x b ys, vs = [.str x, .ref b] ∧ SqT K H1 b ys ∧ R (ItzS K x b) H1
theorem pi_zipS {X : Cx} {ea eb : Expr} {ta : TA} {p pos tpos : Pos} {elts : List Expr} {kk : Nat} (gl : Gl X "zip") (own : X.mg "zip" = none) (args : PA X [ea, eb] ta)
    (star : starEach [ea, eb] X.env = (false, eval ea X.env) :: starEach [eb] X.env := by rfl) (plain : (backTo pos (starEach [eb] X.env)).any (·.1) = false := by rfl) :
    PI X (.Tuple elts kk tpos) (.Call (.Name "zip" p) [ea, eb] [] pos) (iZipS X.K ta) := by
  constructor
  intro pins s σ H R I q
  refine Call_ (ld_blt I gl own PyProof.Rows.boot_zip (PyProof.Rows.callWith_type1 ?_ star plain))
  refine thn (args.run pos pins s σ H _ I q) fun us s1 ans => ?_
  obtain ⟨vs, H1, J, rel, x, b, ys, rfl, tys, go⟩ := ans
  obtain ⟨u1, u2, rfl, r1, r2⟩ := vals2 rel
  obtain ⟨t, rfl⟩ := r1
  obtain rfl : u2 = Value.ref b := r2
  obtain ⟨its, _, tupAt, _⟩ := J.tuple tys
  have blt : b < s1.heap.objs.size := by
    obtain ⟨_, e, _⟩ := id tupAt
    exact Heap.lt_size e
  have fresh : ∀ c, s1.heap.objs.size ≤ c → FpOk X pins H1 c := fun c le => J.fpOk le (J.hok.fresh le)
  refine zip_begins2 (begins_text x t) (begins_tuple b its.toArray) trivial tupAt fun h2 zp ins out o1 o2 _ kept => wpAny_pyIter_zip zp ?_
  refine ⟨_, [s1.heap.objs.size + 4, s1.heap.objs.size + 2, s1.heap.objs.size + 3, s1.heap.objs.size, s1.heap.objs.size + 1], _, _, H1, rfl, J.kept (t' := s1.toks) kept, turn_zipS (t := t) (PySem.W.ktu_apart s1.heap.objs.size b b blt blt), ?_, fun c hc => ?_, go⟩
  · exact ⟨zp, ins, ⟨(_, _), out⟩, ⟨_, o1, rfl, rfl⟩, ⟨_, o2, rfl, rfl⟩⟩
  · exact five (Pr := FpOk X pins H1) hc (fresh _ (by omega)) (fresh _ (by omega)) (fresh _ (by omega)) (fresh _ (by omega)) (fresh _ (by omega))
/-- a loop over zip of a text and a tuple of one length -/
theorem for_zipS {K : PySem.W.Frag} {x : Str} {b : Addr} {ys : List V} {g : TG} {tb : TS} {D : Ends} {σ : L2.St} {H : Hp} (hl : x.cps.size = ys.length) (Pv : Nat → L2.St → Hp → Prop) (h0 : Pv 0 σ H) (hq : ∀ i σ H, Pv i σ H → SqT K H b ys)
    (hs : ∀ (i c : Nat) (y : V) (T : Addr) (σ : L2.St) (H : Hp), x.cps[i]? = some c → ys[i]? = some y → Pv i σ H → H T = none → g (.ref T) σ (upd H T (.tup [.str ⟨#[c]⟩, y])) fun σ2 H2 => tb { D with nx := Pv (i + 1), ct := Pv (i + 1), bk := D.nx } σ2 H2) (hd : ∀ σ H, Pv ys.length σ H → D.nx σ H) :
    ∃ W : Nat → Nat → L2.St → Hp → Prop, (∃ m, W 0 m σ H) ∧ ∀ i m σ H, W i m σ H →
      ((ItzS K x b).stop i H ∧ D.nx σ H) ∨ ((ItzS K x b).go i H ∧ ∃ N : L2.St → Hp → Prop, (∀ σ' H', N σ' H' → ∃ m', m' < m ∧ W (i + 1) m' σ' H') ∧ ∀ v H', (ItzS K x b).yld i H v H' → g v σ H' fun σ2 H2 => tb { D with nx := N, ct := N, bk := D.nx } σ2 H2) := by
  refine ⟨fun i m σ H => m = ys.length - i ∧ i ≤ ys.length ∧ Pv i σ H, ⟨ys.length, rfl, Nat.zero_le _, h0⟩, fun i m σ H st => ?_⟩
  obtain ⟨em, le, pv⟩ := st
  have tys := hq i σ H pv
  rcases Nat.lt_or_eq_of_le le with lt | eq
  · refine .inr ⟨⟨ys, x.cps[i], ys[i], tys, Array.getElem?_eq_getElem (hl.symm ▸ lt), List.getElem?_eq_getElem lt⟩, Pv (i + 1), fun σ' H' p' => ⟨ys.length - (i + 1), by omega, rfl, lt, p'⟩, fun v H' y => ?_⟩
    obtain ⟨tp, c, a2, rfl, free, rfl, w1, w2⟩ := y
    exact hs i c a2 tp σ H w1 (w2 ys tys) pv free
  · subst eq
    exact .inl ⟨⟨ys, tys, Nat.le_of_eq hl.symm, Nat.le_refl _, .inr rfl⟩, hd σ H pv⟩
/-! ### d.update(e) -/
def tDUpd (td ty : TE) : TE := fun σ H Q => td σ H fun x H1 => ∃ a, x = .ref a ∧ IsD H1 a ∧ ty σ H1 fun y H2 => ∃ b kvs more, y = .ref b ∧ H2 a = some (.dK kvs) ∧ H2 b = some (.dK more) ∧ a ≠ b ∧ kvs.length + more.length ≤ sizeLine ∧ Q .non (upd H2 a (.dK (mergeK kvs more)))
theorem pe_dupd {X : Cx} {o e : Expr} {apos cpos : Pos} {td ty : TE} (ho : PE X o td) (he : PE X e ty) (m : M1 X o "update" apos e cpos) : PE X (.Call (.Attribute o "update" apos) [e] [] cpos) (tDUpd td ty) := by
  refine ⟨fun pins s σ H Q I h => ?_⟩
  refine wpAny_Call_method m.base m.few m.line PySem.F.plainAttrs_dict PySem.F.slot_dict_update PySem.F.type_dict_update (thn (ho.run pins s σ H _ I h) fun u s1 ⟨x, H1, I1, rx, a, ex, d, q1⟩ => ?_)
  subst ex
  obtain rfl : u = Value.ref a := rx
  obtain ⟨t1, t2, _⟩ := isD_at I1 d
  refine ⟨t1, t2, ?_⟩
  rw [m.trees]
  refine Calls.callWith_builtin rfl (Calls.evalArgs_plain (Calls.spliced_cons (thn (he.run pins s1 σ H1 _ I1 q1) fun iv s2 ⟨y, H2, I2, ry, b, kvs, more, ey, ea, eb, ne, hz, q2⟩ => Calls.spliced_nil ?_)))
  subst ey
  obtain rfl : iv = Value.ref b := ry
  obtain ⟨za, hda, vs, ra, dda⟩ := dk_of I2.hok ea
  obtain ⟨zb, hdb, ws, rb, ddb⟩ := dk_of I2.hok eb
  refine call_meetsIn PySem.F.slot_dict_update dda.typeIs PySem.F.entry_dict_update (PySem.F.args_dict_update_2 _ _) (meets_dict_update (mixKind X.prog X.w) a b ne hdb) ⟨vs, ws, dda, ddb, (by rw [← ra.length, ← rb.length]; exact hz), fun h' hmm _ hs => ?_⟩
  have he' : ∃ q, h'.get? a = some q := let ⟨q, _, _, hq, _⟩ := hmm; ⟨q, hq⟩
  exact ⟨.non, _, d_write I2 (by rw [ea]; exact True.intro) hs he' (dk_new (Nat.le_trans (length_mergeK more kvs) hz) hda (rb.merge ra) hmm), rfl, q2⟩
/-! ### list(text), tuple == () -/
def sgs (x : Str) : List V := x.cps.toList.map fun c => V.str ⟨#[c]⟩
theorem vals_at : ∀ {xs : List V} {us : List Value}, xs.length = us.length → (∀ (j : Nat) (v : V) (u : Value), xs[j]? = some v → us[j]? = some u → RelV v u) → Vals xs us
  | [], [], _, _ => .nil
  | [], _ :: _, h, _ => nomatch h
  | _ :: _, [], h, _ => nomatch h
  | v :: xs, u :: us, h, k => .cons (k 0 v u rfl rfl) (vals_at (Nat.succ.inj h) fun j a b ha hb => k (j + 1) a b ha hb)
theorem call_list_txt {X : Cx} (hc : X.calm = true) : CallR X (.type "list") (fun xs H Q => ∃ x : Str, xs = [.str x] ∧ x.cps.size ≤ sizeLine ∧ ∀ l, H l = none → Q (.ref l) (upd H l (.lst (sgs x)))) := by
  intro pins s σ H xs us Q I r h
  obtain ⟨x, rfl, hz, q⟩ := h
  obtain ⟨u, rfl, rx⟩ := vals1 r
  obtain ⟨t, rfl⟩ := rx
  refine call_list_str (I.ok.hd hc) x t (hn := hz) fun h' tk acc' c' hk hS' hacc => ?_
  have hl : (sgs x).length = acc'.toList.length := by
    unfold sgs
    rw [List.length_map, Array.length_toList, Array.length_toList]
    exact hacc.1.symm
  have rv : Vals (sgs x) acc'.toList := vals_at hl fun j v u hv hu => by
    obtain ⟨c, k, hc', rfl⟩ := hacc.2 j u (by simpa using hu)
    unfold sgs at hv
    rw [List.getElem?_map] at hv
    obtain ⟨c2, h2, rfl⟩ := Option.map_eq_some_iff.mp hv
    have z : x.cps.toList[j]? = some c := by simpa using hc'
    rw [z] at h2
    cases h2
    exact ⟨k, rfl⟩
  have hz2 : (sgs x).length ≤ sizeLine := by
    unfold sgs
    rw [List.length_map, Array.length_toList]
    exact hz
  exact ⟨.ref s.heap.objs.size, _, I.laid (t' := tk) hk (Nat.le_refl _) (show ObjOk X.prog X.w _ h' _ (.lst (sgs x)) from ⟨hz2, acc'.toList, c', rv, by simpa using hS'⟩), rfl, q _ (I.hok.fresh (Nat.le_refl _))⟩
def rEq0 (K : PySem.W.Frag) : R2 := fun x y H Q => ∃ a b xs, x = .ref a ∧ y = .ref b ∧ SqT K H a xs ∧ SqT K H b [] ∧ Q (.bl xs.isEmpty) H
theorem op_eq0 {X : Cx} (hu : X.A.units < cLine) : OpR X (compareOp .Eq) (rEq0 X.K) := by
  intro pins s σ H x y v u Q I rx ry h
  obtain ⟨a, b, xs, rfl, rfl, ha, hb, q⟩ := h
  cases rx
  cases ry
  obtain ⟨its, r1, p1, _⟩ := I.tuple ha
  obtain ⟨its2, r2, p2, _⟩ := I.tuple hb
  cases r2
  refine SeqAt.eq_tupleAt (e := fun _ => true) p1 p2 hu (fun j h1 h2 => by simp at h2) ?_
  have e : ((List.range (min its.toArray.size ([] : List Value).toArray.size)).all (fun _ => true) && its.toArray.size == ([] : List Value).toArray.size) = xs.isEmpty := by
    cases r1 with
    | nil => rfl
    | cons _ _ => simp
  rw [e]
  exact ⟨.bl _, H, I, rfl, q⟩

/-! ### the end of a law whose defs make generator expressions -/
/-- the def nm of the top, its code object's table empty -/
def TabAt (mg : Str → Option Value) (h : Heap) (nm : Str) : Prop := ∃ (f : Addr) (o : Obj) (fd : FuncData) (c P : Addr), mg nm = some (.ref f) ∧ h.get? f = some o ∧ o.data = .func fd ∧ fd.code = .ref c ∧ h.TableAt c P #[]
theorem tab_empty {K : PySem.W.Frag} {mg : Str → Option Value} {h : Heap} {nm : Str} {f c P : Addr} {o : Obj} {fd : FuncData} {e : Value} {dd : Option Addr} {vs : Array Value} {sl : Array (Option Value)} (t : TabAt mg h nm) (X : K.In h) (g : mg nm = some (.ref f))
    (lf : K.lookup f = some o) (df : o.data = .func fd) (cf : fd.code = .ref c) (lc : K.lookup c = some ⟨e, dd, .fields vs, sl⟩) (at11 : vs[11]? = some (.ref P)) : h.get? P = some { cls := .none, data := .fields #[] } := by
  obtain ⟨f', o', fd', c', P', m1, m2, m3, m4, ⟨oc, vc, w1, _, w3, w4⟩, tp⟩ := t
  have ef : f = f' := Value.ref.inj (Option.some.inj (g.symm.trans m1))
  subst ef
  have eo : o = o' := Option.some.inj ((X f o lf).symm.trans m2)
  subst eo
  have ed : fd = fd' := Data.func.inj (df.symm.trans m3)
  subst ed
  have ec : c = c' := Value.ref.inj (cf.symm.trans m4)
  subst ec
  have eq : (⟨e, dd, .fields vs, sl⟩ : Obj) = oc := Option.some.inj ((X c _ lc).symm.trans w1)
  subst eq
  have ev : vs = vc := Data.fields.inj w3
  subst ev
  have eP : P = P' := Value.ref.inj (Option.some.inj (at11.symm.trans w4))
  subst eP
  exact tp
theorem walk_tabs {l : PySem.W.OpenLaw} {most lv : Nat} {prog : Program} {lo : List Str} {XP : (Str → Option Value) → Heap → Prop} {YP : World → Heap → Prop} {df : DefRec} {K : Params → PySem.W.Frag} {par : Str} (names : List Str)
    (h1 : l.most = some most) (h2 : most ≤ sizeLine) (h3 : df.params.defaults = []) (room : Room lv callerA) (recs : (names.all fun nm => (recsOf prog).any fun r => r.name == nm) = true) (kin : ∀ (w : World) (h : Heap), YP w h → (K w.params).In h)
    (at_ : ∀ (w : World) (mg : Str → Option Value) (fa : Addr) (h : Heap), (K w.params).In h → h.Ns mainGlobals mg → mg df.name = some (.ref fa) → (∀ nm ∈ names, TabAt mg h nm) → LamX.LawAtS l w (K w.params) CX0 lv most par mg fa h) :
    PySem.W.WalkO prog lo XP YP l.row.toRowW df [] (fun f vs => PySem.call f vs) := by
  refine Att.attach_callB h1 h3 fun w s0 s mg mb fa o pm cd doc a vs ns Gr Y _ _ _ name ob iar len bits gens => ?_
  have tabs : ∀ nm ∈ names, TabAt mg s.heap nm := fun nm hm => by
    obtain ⟨r, hr, er⟩ := List.any_eq_true.mp (List.all_eq_true.mp recs nm hm)
    obtain ⟨x1, x2, x3, x4, x5, y1, y2, y3, y4, _, y6⟩ := Gr.T.tab r hr
    rw [beq_iff_eq.mp er] at y1
    exact ⟨x1, x2, x3, x4, x5, y1, y2, y3, y4, y6⟩
  obtain ⟨fd, cs, sp, t1, t2, t3, bind, asked, ok⟩ := at_ w mg fa _ (kin w _ Y) Gr.T.g name tabs
  exact LamX.law_callTs (kin w _ Y) Gr.T.g Gr.T.b Gr.T.builtins Gr.T.nolimit gens t1 t2 t3 Gr.T.bmain ob iar (Nat.le_trans len h2) room ok bind (fun H hH hS => asked H a ns len bits hH hS) fun _ _ _ z => z

end My
namespace My
open PySem L2
/-! ### a mid-condition behind a statement, an expression, a test -/
def sMid (t : TS) : TS := fun D σ H => ∃ M : L2.St → Hp → Prop, t { D with nx := M } σ H ∧ ∀ σ' H', M σ' H' → D.nx σ' H'
theorem ps_mid {X : Cx} {st : Stmt} {t : TS} (h : PS X st t) : PS X st (sMid t) := by
  refine ⟨fun pins s σ H D I z => ?_⟩
  obtain ⟨M, q, k⟩ := z
  refine thn (h.run pins s σ H { D with nx := M } I q) fun f s1 y => ?_
  cases f with
  | next =>
    obtain ⟨σ', H', I', y⟩ := y
    exact ⟨σ', H', I', k _ _ y⟩
  | ret v => exact y
  | brk => exact y
  | cont => exact y
def tMid (t : TT) : TT := fun σ H Q => ∃ M : Bool → Hp → Prop, t σ H M ∧ ∀ b H', M b H' → Q b H'
theorem pt_mid {X : Cx} {e : Expr} {t : TT} (h : PT X e t) : PT X e (tMid t) := by
  refine ⟨fun pins s σ H Q I z => ?_⟩
  obtain ⟨M, q, k⟩ := z
  exact thn (h.run pins s σ H M I q) fun b s1 ⟨H', I', y⟩ => ⟨H', I', k _ _ y⟩
def eMid (t : TE) : TE := fun σ H Q => ∃ M : V → Hp → Prop, t σ H M ∧ ∀ v H', M v H' → Q v H'
theorem pe_mid {X : Cx} {e : Expr} {t : TE} (h : PE X e t) : PE X e (eMid t) := by
  refine ⟨fun pins s σ H Q I z => ?_⟩
  obtain ⟨M, q, k⟩ := z
  exact thn (h.run pins s σ H M I q) fun u s1 ⟨v, H', I', r, y⟩ => ⟨v, H', I', r, k _ _ y⟩
theorem yes_ite {σ : L2.St} {H : Hp} {A B : Hp → Prop} (h : A H) : tYes σ H (fun b H3 => if b = true then A H3 else B H3) := by
  unfold tYes
  exact (show (if true = true then A H else B H) from iteT h)
/-- xs[i] op= e, the read -/
theorem get_list {X : Cx} : PGet X (rIxL X.K) := by
  intro pins s σ H x y v u Q I rx ry h
  obtain ⟨p, xs, i, z, rfl, rfl, hq, he, q⟩ := h
  cases rx
  obtain ⟨t, rfl⟩ := ry
  obtain ⟨its, r, pl, hz⟩ := I.list hq
  obtain ⟨j, h1, h2, h3, h4, h5⟩ := atI_get he
  obtain ⟨w, ew, rw'⟩ := r.get h2
  have hl := r.length
  have hn := line63
  have fin : EP X pins σ Q w s := ⟨z, H, I, rw', q⟩
  by_cases h0 : 0 ≤ i
  · have hj : i.toNat = j := by
      rw [PySem.seqIndex_of h0 h5] at h1
      exact Option.some.inj h1
    exact PySem.wpAny_getItem_list pl.isList h0 (by omega) (by rw [hj]; simpa using ew) fin
  · have hj : (i + (its.toArray.size : Int)).toNat = j := by
      rw [PySem.seqIndex_neg (by omega) h4] at h1
      rw [List.size_toArray, ← hl]
      exact Option.some.inj h1
    exact PySem.wpAny_getItem_list_neg pl.isList (by omega) (by rw [List.size_toArray] <;> omega) (by omega) (by rw [hj]; simpa using ew) fin
theorem same_new {H : Hp} {p : Addr} {o : HO} (h : H p = none) : Same H (upd H p o) := fun b u q => by rw [upd_ne (ne_of_none q h)]; exact q
/-- all but d as it was -/
def But (d : Addr) (H H' : Hp) : Prop := ∀ b o, H b = some o → b ≠ d → H' b = some o
theorem But.refl {d : Addr} {H : Hp} : But d H H := fun _ _ e _ => e
theorem But.trans {d : Addr} {H H1 H2 : Hp} (x : But d H H1) (y : But d H1 H2) : But d H H2 := fun b o e n => y b o (x b o e n) n
theorem But.put {d : Addr} {H H1 : Hp} {o : HO} (x : But d H H1) : But d H (upd H1 d o) := fun b u e n => by
  rw [upd_ne n]
  exact x b u e n
theorem But.new {d p : Addr} {H H1 : Hp} {o : HO} (x : But d H H1) (n : H1 p = none) : But d H (upd H1 p o) := fun b u e nb => by
  have q := x b u e nb
  rw [upd_ne (ne_of_none q n)]
  exact q
theorem But.same {d : Addr} {H H1 H2 : Hp} (x : But d H H1) (s : Same H1 H2) : But d H H2 := fun b u e nb => s _ _ (x b u e nb)
theorem at_map {ns : List Int} {k : Int} (h0 : 0 ≤ k) (h : k < (ns.length : Int)) : ∃ v : Int, atI (ns.map V.int) k = some (.int v) ∧ v ∈ ns := by
  have hk : k.toNat < ns.length := by omega
  have ek : k = ((k.toNat : Nat) : Int) := by omega
  have q : atI (ns.map V.int) ((k.toNat : Nat) : Int) = some (.int ns[k.toNat]) := atI_nat (by rw [List.getElem?_map, List.getElem?_eq_getElem hk] <;> rfl)
  rw [← ek] at q
  exact ⟨_, q, List.getElem_mem _⟩
theorem at_any {α : Type} {xs : List α} {k : Int} (h0 : 0 ≤ k) (h : k < (xs.length : Int)) : ∃ v : α, atI xs k = some v ∧ v ∈ xs := by
  have hk : k.toNat < xs.length := by omega
  have ek : k = ((k.toNat : Nat) : Int) := by omega
  have q : atI xs ((k.toNat : Nat) : Int) = some xs[k.toNat] := atI_nat (List.getElem?_eq_getElem hk)
  rw [← ek] at q
  exact ⟨_, q, List.getElem_mem _⟩
theorem wide_ok {i j : Int} (h : 0 < j) (h2 : j < 2 ^ 100) : CDivW i j := wide_div (b := 100) h (by
  have e : ((j.natAbs : Nat) : Int) < ((2 ^ 100 : Nat) : Int) := by
    rw [Int.natCast_pow]
    show (j.natAbs : Int) < 2 ^ 100
    omega
  exact_mod_cast e) (by decide) (by decide)
theorem cut_map (ns : List Int) (hi : Option Int) : ∃ k : Nat, cutV (ns.map V.int) none hi = (ns.take k).map V.int := by
  refine ⟨HT.sIx ns.length ns.length hi, ?_⟩
  unfold cutV
  rw [HT.sIx_none, List.drop_zero, Nat.sub_zero, List.length_map, List.map_take]
theorem cut_nat {α : Type} (xs : List V) (k : Nat) : cutV xs none (some (k : Int)) = xs.take k := by
  unfold cutV
  rw [HT.sIx_none, List.drop_zero, Nat.sub_zero, HT.sIx_nat]
  by_cases h : k ≤ xs.length
  · rw [Nat.min_eq_left h]
  · rw [Nat.min_eq_right (by omega), List.take_of_length_le (Nat.le_refl _), List.take_of_length_le (by omega)]
theorem sz {n : Nat} (h : n ≤ 100000) : n ≤ sizeLine := Nat.le_trans h (by decide)
theorem szl {n : Nat} (h : n < 100000) : n < sizeLine := Nat.lt_of_lt_of_le h (by decide)
def spLaw (K : PySem.W.Frag) : Sp := fun vs H Q _ => ∃ (a : Addr) (ns : List Int), vs = [.ref a] ∧ SqL K H a (ns.map V.int) ∧ ns.length ≤ 63 ∧ (∀ z ∈ ns, Builtin.Int.intBits z ≤ 1048576) ∧ ∀ H', Q (.bl true) H'
/-! ### data of tuples -/
mutual
inductive Td (K : PySem.W.Frag) (H : Hp) : V → PyData → Prop
  | non : Td K H .non .none
  | bl (b : Bool) : Td K H (.bl b) (.bool b)
  | int (i : Int) : Td K H (.int i) (.int i)
  | str (x : Str) : Td K H (.str x) (.str x)
  | tup {a : Addr} {xs : List V} {ds : List PyData} : SqT K H a xs → TdAll K H xs ds → Td K H (.ref a) (.tuple ds)
inductive TdAll (K : PySem.W.Frag) (H : Hp) : List V → List PyData → Prop
  | nil : TdAll K H [] []
  | cons {v : V} {vs : List V} {d : PyData} {ds : List PyData} : Td K H v d → TdAll K H vs ds → TdAll K H (v :: vs) (d :: ds)
end
/-- tuples stay -/
def Tups (K : PySem.W.Frag) (H H' : Hp) : Prop := ∀ a xs, SqT K H a xs → SqT K H' a xs
theorem Tups.of_same {K : PySem.W.Frag} {H H' : Hp} (s : Same H H') : Tups K H H' := fun a xs h => by
  rcases h with h | h
  · rcases h with h | ⟨o, h⟩
    · exact .inl (.inl (s _ _ h))
    · exact .inl (.inr ⟨o, s _ _ h⟩)
  · exact .inr h
theorem Tups.of_but {K : PySem.W.Frag} {H H' : Hp} {d : Addr} {l : List V} (s : But d H H') (e : H d = some (.lst l)) : Tups K H H' := fun a xs h => by
  rcases h with h | h
  · rcases h with h | ⟨o, h⟩
    · exact .inl (.inl (s _ _ h (ne_of h e (by intro z; cases z))))
    · exact .inl (.inr ⟨o, s _ _ h (ne_of h e (by intro z; cases z))⟩)
  · exact .inr h
theorem Tups.trans {K : PySem.W.Frag} {H H1 H2 : Hp} (a : Tups K H H1) (b : Tups K H1 H2) : Tups K H H2 := fun p xs h => b _ _ (a _ _ h)
mutual
theorem Td.mono {K : PySem.W.Frag} {H H' : Hp} (t : Tups K H H') : ∀ {v : V} {d : PyData}, Td K H v d → Td K H' v d
  | _, _, .non => .non
  | _, _, .bl b => .bl b
  | _, _, .int i => .int i
  | _, _, .str x => .str x
  | _, _, .tup h k => .tup (t _ _ h) (TdAll.mono t k)
theorem TdAll.mono {K : PySem.W.Frag} {H H' : Hp} (t : Tups K H H') : ∀ {vs : List V} {ds : List PyData}, TdAll K H vs ds → TdAll K H' vs ds
  | _, _, .nil => .nil
  | _, _, .cons h k => .cons (Td.mono t h) (TdAll.mono t k)
end
mutual
theorem Td.dp {K : PySem.W.Frag} {H : Hp} : ∀ {v : V} {d : PyData}, Td K H v d → Dp K H v d
  | _, _, .non => .non
  | _, _, .bl b => .bl b
  | _, _, .int i => .int i
  | _, _, .str x => .str x
  | _, _, .tup h k => .tup h (TdAll.dp k)
theorem TdAll.dp {K : PySem.W.Frag} {H : Hp} : ∀ {vs : List V} {ds : List PyData}, TdAll K H vs ds → DpAll K H vs ds
  | _, _, .nil => .nil
  | _, _, .cons h k => .cons (Td.dp h) (TdAll.dp k)
end
theorem TdAll.length {K : PySem.W.Frag} {H : Hp} : ∀ {vs : List V} {ds : List PyData}, TdAll K H vs ds → vs.length = ds.length
  | _, _, .nil => rfl
  | _, _, .cons _ k => congrArg (· + 1) (TdAll.length k)
theorem TdAll.append {K : PySem.W.Frag} {H : Hp} : ∀ {vs ws : List V} {ds es : List PyData}, TdAll K H vs ds → TdAll K H ws es → TdAll K H (vs ++ ws) (ds ++ es)
  | _, _, _, _, .nil, k => k
  | _, _, _, _, .cons h k, z => .cons h (TdAll.append k z)
theorem TdAll.get {K : PySem.W.Frag} {H : Hp} : ∀ {vs : List V} {ds : List PyData}, TdAll K H vs ds → ∀ {v : V}, v ∈ vs → ∃ d, d ∈ ds ∧ Td K H v d
  | _, _, .nil, _, h => nomatch h
  | _, _, .cons (d := d) h k, v, m => by
    rcases List.mem_cons.mp m with e | m
    · subst e
      exact ⟨d, List.mem_cons_self, h⟩
    · obtain ⟨d', hd, t⟩ := TdAll.get k m
      exact ⟨d', List.mem_cons_of_mem _ hd, t⟩
theorem inV_str (w : Str) : ∀ ws : List Str, inV (.str w) (ws.map V.str) = decide (w ∈ ws)
  | [] => rfl
  | x :: r => by
    have ih := inV_str w r
    unfold inV at ih ⊢
    rw [List.map_cons, List.any_cons, ih]
    by_cases e : x = w
    · subst e
      simp [eqV]
    · have e2 : ¬ w = x := fun z => e z.symm
      simp [eqV, e, e2]
theorem flat_strs : ∀ ws : List Str, (ws.map V.str).all flatV = true
  | [] => rfl
  | _ :: r => by
    rw [List.map_cons, List.all_cons, flat_strs r]
    rfl
/-- the kinds -/
def kinds : List Str := ["a", "b", "c", "d", "e", "f", "g", "h"]
/-- a tuple as a target, the table and the number as they are written -/
theorem pg_tupK {X : Cx} {K : PySem.W.Frag} {pos : Pos} {es : List Expr} {k : Nat} {t : TGs} {n : Nat} (hK : X.K = K) (hc : X.calm = true) (h : PGs X es t)
    (hn : (assignEach es X.env).length = n) (hst : (assignEach es X.env).findIdx? (·.1) = none := by rfl) : PG X (.Tuple es k pos) (gTup K n t) := by
  subst hK
  exact pg_tup hc h hn hst
theorem cut_tail (x : V) (ps : List V) : cutV (x :: ps) (some 1) none = ps := by
  unfold cutV
  rw [show (1 : Int) = ((1 : Nat) : Int) from rfl, HT.sIx_nat, HT.sIx_none, List.length_cons]
  have e : min 1 (ps.length + 1) = 1 := by omega
  rw [e, List.drop_succ_cons, List.drop_zero, Nat.add_sub_cancel, List.take_of_length_le (Nat.le_refl _)]
theorem u1 {k : Nat} {A : Around} (h : Room k A) : A.units + 1 < cLine := by
  have := h.units
  omega
theorem u0 {k : Nat} {A : Around} (h : Room k A) : A.units < cLine := by
  have := h.units
  omega
theorem u65 {k : Nat} {A : Around} (h : Room k A) : A.units + 65 < cLine := by
  have := h.un
  omega
theorem op_in_seqK {X : Cx} {K : PySem.W.Frag} (hK : X.K = K) : OpR X (compareOp .In) (rIn K false) := by
  subst hK
  exact op_in_seq
theorem op_notIn_seqK {X : Cx} {K : PySem.W.Frag} (hK : X.K = K) : OpR X (compareOp .NotIn) (rIn K true) := by
  subst hK
  exact op_notIn_seq

/-! ### own exceptions as values -/
def veB : List Value := [.type "ValueError", .type "Exception", .type "BaseException", .type "object"]
/-- an exception object of the class C, not raised, with or without fields -/
def ExAt (H : Hp) (a C : Addr) : Prop := H a = some (ExO (.ref C) a) ∨ ∃ (d : Addr) (fs : List (Str × V)), H a = some (exo a C (some d)) ∧ H d = some (exd d fs)
theorem ExAt.same {H H' : Hp} {a C : Addr} (s : Same H H') (h : ExAt H a C) : ExAt H' a C := by
  rcases h with h | ⟨d, fs, h, g⟩
  · exact .inl (s _ _ h)
  · exact .inr ⟨d, fs, s _ _ h, s _ _ g⟩
section
variable {X : Cx}
theorem ExAt.inst {pins : List (Addr × Obj)} {σ : L2.St} {H : Hp} {s : Shared} {a C : Addr} (I : Inv X pins σ H s) (h : ExAt H a C) : ∃ (oe : Obj) (od : Option Obj), PySem.W.InstAt s.heap a oe C od := by
  rcases h with h | ⟨d, fs, h, g⟩
  · obtain ⟨⟨oe, vs, ho, hz, hd, _⟩, _, _⟩ := I.hok a _ h
    refine ⟨oe, none, ho, hz.1, ?_, ?_⟩
    · unfold PySem.W.notCls
      rw [hd]
    · rw [hz.2]
      trivial
  · obtain ⟨t1, ho⟩ := exo_at I.hok h
    obtain ⟨mA, hm, _⟩ := exd_at I.hok g
    obtain ⟨od, hod, _⟩ := lookIn_ns hm
    exact ⟨_, some od, ho, rfl, rfl, hod⟩
theorem pe_exc0 {C : Addr} {x : Str} {p pos : Pos} (hc : PySem.W.excIn X.K C veB "ValueError.__new__" = true) (gC : X.mg x = some (.ref C)) (kC : PySem.W.keepIn X.K (.ref C) = true) (hg : Gl X x) (hdb : (x == ("__debug__" : Str)) = false := by decide) :
    PE X (.Call (.Name x p) [] [] pos) (fun _ H Q => ∀ a, H a = none → Q (.ref a) (upd H a (ExO (.ref C) a))) := by
  constructor
  intro pins st σ H Q I h
  refine wpAny_Call_Name_kw (ld_glob I hg gC ?_ hdb)
  refine PySem.W.callWith_K0 I.kIn kC ?_
  obtain ⟨bm, N, nm, qn, bs, hdct, sn, sub, ab, col, dd, k0, k1, k2, k3, k5, mN, hC, hN, hni, OT⟩ := exc_obj I.kIn hc
  refine wpAny_call_exc_subT PySem.F.excBase_ValueError OT hC hN hni (fun h' a hm => ?_) (Nat.zero_le _)
  have free : H a = none := I.hok.gone hm.new
  obtain ⟨t, ht, _, _⟩ := hm.there
  have ok : ObjOk X.prog X.w (upd H a (ExO (.ref C) a)) h' a (ExO (.ref C) a) := exO_ok ht ⟨rfl, rfl⟩ rfl rfl rfl (show 4 < 6 by decide)
  exact ⟨.ref a, _, I.laidN hm.keeps hm.new free ok, rfl, h a free⟩
/-- C(e, ..), C an own exception class with an own __init__, as a value -/
def tOexV (C : Addr) (sp : Sp) (ta : TA) : TE := fun σ H Q => ta σ H fun vs H1 => vs.length ≤ 1000 ∧ ∀ a, H1 a = none → sp (.ref a :: vs) (upd H1 a (exo a C none)) (fun v H2 => v = .non ∧ Q (.ref a) H2) (fun _ _ _ => False)
theorem pe_oexV {x : Str} {C fI : Addr} {k : Nat} {fd : FuncData} {ps : List Str} {sp : Sp} {e : Expr} {es : List Expr} {ta : TA} {p pos : Pos} (OC : OexC X.K C) (iC : PySem.W.findIn X.K (.ref C) "__init__" = some (some (.ref fI)))
    (tI : PySem.W.typeIn X.K (.ref fI) = some (.type "function")) (F1 : FnOk X.prog X.w X.K X.mg X.base CX0 k fI fd ps sp) (hr : Room (k + 1) X.A) (hb : Binds X.K fd ps []) (hg : Gl X x) (hm : X.mg x = some (.ref C)) (ha : PA X (e :: es) ta)
    (hdb : (x == ("__debug__" : Str)) = false := by decide) (he : starEach (e :: es) X.env = (false, eval e X.env) :: starEach es X.env := by rfl) (hpl : (backTo pos (starEach es X.env)).any (·.1) = false := by rfl) :
    PE X (.Call (.Name x p) (e :: es) [] pos) (tOexV C sp ta) := by
  constructor
  intro pins st σ H Q I h
  obtain ⟨nm, q, N, bs, bm, sn, sub, ab, col, dd, k0, k1, k2, k3, k5, hC, hbm⟩ := OC.cls
  refine wpAny_Call_Name_kw (ld_glob I hg hm ?_ hdb)
  refine PySem.W.callWith_K (h₀ := X.base) I.ok.mod.kin OC.kC (thn (ha.run pos pins st σ H _ I h) fun us s1 z => ?_) he hpl
  obtain ⟨vs, H1, I1, r1, hz, q1⟩ := z
  refine ⟨I1.kIn, ?_⟩
  obtain ⟨hp, g, dr, tk, os⟩ := s1
  have hn : H1 (hp.objs.size + 1) = none := I1.hok.fresh (Nat.le_succ _)
  have hq := q1 _ hn
  have kk : ∀ b o, hp.get? b = some o → ((hp.push (PySem.W.kdv_tup us)).push (PySem.HandSPX.excO C hp.objs.size)).get? b = some o := fun b o z =>
    Heap.get?_push_of_some _ (Heap.get?_push_of_some _ z)
  have hget : ((hp.push (PySem.W.kdv_tup us)).push (PySem.HandSPX.excO C hp.objs.size)).get? (hp.objs.size + 1) = some (PySem.HandSPX.excO C hp.objs.size) := by
    heap_get
  have I2 : Inv X pins σ (upd H1 (hp.objs.size + 1) (exo (hp.objs.size + 1) C none)) ⟨(hp.push (PySem.W.kdv_tup us)).push (PySem.HandSPX.excO C hp.objs.size), g, dr, tk, os⟩ :=
    I1.laid (t' := tk) (a := hp.objs.size + 1) (o := exo (hp.objs.size + 1) C none) (h' := (hp.push (PySem.W.kdv_tup us)).push (PySem.HandSPX.excO C hp.objs.size)) kk (Nat.le_succ _) (exo_ok hget)
  have r2 : Vals (V.ref (hp.objs.size + 1) :: vs) (Value.ref (hp.objs.size + 1) :: us) := .cons rfl r1
  have hl : (Value.ref (hp.objs.size + 1) :: us).length = ps.length := by
    rw [← r2.length]
    exact F1.len _ _ _ _ hq
  have hus : us.length ≤ sizeLine := by
    rw [← Paired.length r1, sizeLine_eq]
    omega
  have hb2 := hb ⟨(hp.push (PySem.W.kdv_tup us)).push (PySem.HandSPX.excO C hp.objs.size), g, dr, tk, os⟩ (Value.ref (hp.objs.size + 1) :: us) I2.kIn (by rw [List.append_nil]; exact hl)
  rw [List.append_nil] at hb2
  refine wpAny_call (PySem.HandSPX.call_own PySem.F.excBase_ValueError (fun Y => PySem.HandSPX.refsVE_contains Y bm hbm) (I1.kIn _ _ hC) (PySem.W.looks_findIn I1.kIn iC) (fun self => PySem.W.bind_fn I1.kIn self tI) hus
    (codeAny_mono (F1.run _ X.stack _ _ ⟨Value.ref (hp.objs.size + 1) :: us, []⟩ (Value.ref (hp.objs.size + 1) :: us) _ _ (fun _ _ _ => False) (hr.make C us []) (I2.env0.make C us []) hb2 r2 hq) fun r s' z => ?_))
  cases r with
  | error er => exact absurd z id
  | ok fl =>
    cases fl with
    | ret u =>
      obtain ⟨v, H', J, rv, ev, qq⟩ := I2.after z
      subst ev
      exact ⟨rv, .ref (hp.objs.size + 1), H', J, rfl, qq⟩
    | next => exact absurd z id
    | brk => exact absurd z id
    | cont => exact absurd z id
/-- what isinstance asks of the class of an exception -/
structure XcC (K : PySem.W.Frag) (C : Addr) : Prop where
  cl : (PySem.W.clsIn K C).isSome = true
  hg : PySem.W.findIn K (.ref C) "__getattribute__" = some (some (.builtin "BaseException.__getattribute__"))
  hk : PySem.W.findIn K (.ref C) "__getattr__" = some none
  hs : PySem.W.subIn K (.ref C) (.type "BaseException") = some true
  ha : PySem.W.findIn K (.ref C) "__class__" = some (some (.builtin "object.__class__"))
  hn : PySem.W.specialIn K (.builtin "object.__class__") "__get__" = some (some (.builtin "getset_descriptor.__get__"))
  ht : PySem.W.takesIn K (.builtin "object.__class__") = some true
  hm : PySem.W.mroIn K C (.type "object") = some true
def xcB (K : PySem.W.Frag) (C : Addr) : Bool := (PySem.W.clsIn K C).isSome && (decide (PySem.W.findIn K (.ref C) "__getattribute__" = some (some (.builtin "BaseException.__getattribute__"))) && (decide (PySem.W.findIn K (.ref C) "__getattr__" = some none) &&
  (decide (PySem.W.subIn K (.ref C) (.type "BaseException") = some true) && (decide (PySem.W.findIn K (.ref C) "__class__" = some (some (.builtin "object.__class__"))) && (decide (PySem.W.specialIn K (.builtin "object.__class__") "__get__" = some (some (.builtin "getset_descriptor.__get__"))) &&
  (decide (PySem.W.takesIn K (.builtin "object.__class__") = some true) && decide (PySem.W.mroIn K C (.type "object") = some true)))))))
theorem xcB_ok {K : PySem.W.Frag} {C : Addr} (h : xcB K C = true) : XcC K C := by
  unfold xcB at h
  simp only [Bool.and_eq_true, decide_eq_true_eq] at h
  obtain ⟨h1, h2, h3, h4, h5, h6, h7, h8⟩ := h
  exact ⟨h1, h2, h3, h4, h5, h6, h7, h8⟩
def rIsX (K : PySem.W.Frag) : List V → Hp → VK → Prop := fun xs H Q => ∃ (a C : Addr) (c : V) (cv : Value) (b : Bool), xs = [.ref a, c] ∧ ExAt H a C ∧ XcC K C ∧ ClsV c cv ∧ PySem.W.kitOne K (.ref C) cv = some b ∧ Q (.bl b) H
theorem call_isX : CallR X (.builtin "isinstance") (rIsX X.K) := by
  intro pins st σ H xs us Q I r h
  obtain ⟨a, C, c, cv, b, rfl, ex, xc, kc, e, q⟩ := h
  obtain ⟨u1, u2, rfl, r1, r2⟩ := vals2 r
  cases r1
  have e2 := kc.eq r2
  subst e2
  obtain ⟨oe, od, J⟩ := ex.inst I
  exact PySem.W.kia_one (PySem.W.kitx_exc xc.cl xc.hg xc.hk xc.hs xc.ha xc.hn xc.ht xc.hm) I.kIn J e (fun z => nomatch z) fun tk => ⟨.bl b, H, I.kept (t' := tk) fun _ _ z => z, rfl, q⟩
theorem call_isXK {K : PySem.W.Frag} (hK : X.K = K) : CallR X (.builtin "isinstance") (rIsX K) := by
  subst hK
  exact call_isX
/-- e.f of such an object -/
def tXv (K : PySem.W.Frag) (f : Str) (te : TE) : TE := fun σ H Q => te σ H fun x H1 => ∃ (a C d : Addr) (fs : List (Str × V)) (v : V), x = .ref a ∧ H1 a = some (exo a C (some d)) ∧ H1 d = some (exd d fs) ∧ XfC K C ∧ PySem.W.findIn K (.ref C) f = some none ∧ fs.lookup f = some v ∧ Q v H1
theorem pe_xv {e : Expr} {te : TE} {pos : Pos} {n : Str} (he : PE X e te) (hb : attributeBase e n X.env (eval e X.env) = eval e X.env := by rfl) : PE X (.Attribute e n pos) (tXv X.K n te) := by
  constructor
  intro pins st σ H Q I h
  refine attr_of hb (thn (he.run pins st σ H _ I h) fun u s1 z => ?_)
  obtain ⟨x, H1, I1, rx, a, C, d, fs, v, rfl, h1, h2, xf, hno, hl, q⟩ := z
  cases rx
  obtain ⟨t1, ho⟩ := exo_at I1.hok h1
  obtain ⟨mA, hns, hrel⟩ := exd_at I1.hok h2
  obtain ⟨od, hod, hlk⟩ := lookIn_ns hns
  obtain ⟨u, hu, ru⟩ := RelO.some_of (v := v) (o := mA n) (by rw [← hl]; exact hrel n)
  have J : PySem.W.InstAt s1.heap a _ C (some od) := ⟨ho, rfl, rfl, hod⟩
  exact HandSPX.exc_get I1.kIn J xf.ga xf.gg xf.exC (PySem.W.findObj_own xf.hdC hno rfl (by rw [hlk, hu])) (handed_of ru) ⟨v, H1, I1.tok _, ru, q⟩
end
/-! ### facts of the written part, by one kernel run each -/
/-- a written tuple of texts -/
def strOf : Value → Option Str
  | .str x _ => some x
  | _ => none
def tupB (K : PySem.W.Frag) (a : Addr) (ws : List Str) : Bool := match K.lookup a with
  | some o => decide (o.cls = .type "tuple") && (match o.data with
    | .seq its _ => decide (its.size ≤ 1000) && decide (its.toList.map strOf = ws.map some)
    | _ => false)
  | none => false
theorem vals_str : ∀ {us : List Value} {ws : List Str}, us.map strOf = ws.map some → Vals (ws.map V.str) us
  | [], [], _ => .nil
  | [], _ :: _, h => nomatch h
  | _ :: _, [], h => nomatch h
  | u :: us, w :: ws, h => by
    rw [List.map_cons, List.map_cons] at h
    obtain ⟨h1, h2⟩ := List.cons.inj h
    refine .cons ?_ (vals_str h2)
    cases u with
    | str x t =>
      have e : x = w := Option.some.inj h1
      subst e
      exact ⟨t, rfl⟩
    | _ => exact nomatch h1
theorem tupB_ok {K : PySem.W.Frag} {a : Addr} {ws : List Str} (h : tupB K a ws = true) (H : Hp) : SqT K H a (ws.map V.str) := by
  unfold tupB at h
  split at h
  · rename_i o ho
    rw [Bool.and_eq_true] at h
    obtain ⟨h1, h2⟩ := h
    split at h2
    · rename_i its n hd
      rw [Bool.and_eq_true] at h2
      exact .inr ⟨o, its, n, ho, of_decide_eq_true h1, hd, sz (Nat.le_trans (of_decide_eq_true h2.1) (by decide)), vals_str (of_decide_eq_true h2.2)⟩
    · cases h2
  · cases h
/-- the refusals among one another, and under the first of them -/
def kitsB (K : PySem.W.Frag) (t : Addr) (cs : List Addr) : Bool := (List.range cs.length).all fun i => decide (PySem.W.kitOne K (.ref (cs.getD i 0)) (.ref t) = some true) && (List.range cs.length).all fun j => decide (PySem.W.kitOne K (.ref (cs.getD i 0)) (.ref (cs.getD j 0)) = some (decide (i = j)))
theorem kitsB_top {K : PySem.W.Frag} {t : Addr} {cs : List Addr} (h : kitsB K t cs = true) {i : Nat} (hi : i < cs.length) : PySem.W.kitOne K (.ref (cs.getD i 0)) (.ref t) = some true := by
  unfold kitsB at h
  have z := List.all_eq_true.mp h i (List.mem_range.mpr hi)
  rw [Bool.and_eq_true] at z
  exact of_decide_eq_true z.1
theorem kitsB_two {K : PySem.W.Frag} {t : Addr} {cs : List Addr} (h : kitsB K t cs = true) {i j : Nat} (hi : i < cs.length) (hj : j < cs.length) : PySem.W.kitOne K (.ref (cs.getD i 0)) (.ref (cs.getD j 0)) = some (decide (i = j)) := by
  unfold kitsB at h
  have z := List.all_eq_true.mp h i (List.mem_range.mpr hi)
  rw [Bool.and_eq_true] at z
  exact of_decide_eq_true (List.all_eq_true.mp z.2 j (List.mem_range.mpr hj))
def dws : List Str := ["new", "put", "paint", "tie", "cut", "add", "spread"]

end My
namespace My
open PySem PySem.Spec PyProof.Rows L2
/-! ### an exception caught and kept -/
/-- at a stands an exception of the class cls that was raised -/
def ExC (cls : Value) (d : Option Addr) (a : Addr) : HO := .ext fun h => ∃ (oe : Obj) (vs : Array Value), h.get? a = some oe ∧ Zc cls d oe ∧ oe.data = .fields vs
theorem exC_ok {P : Program} {w : World} {H : Hp} {h : Heap} {a : Addr} {cls : Value} {d : Option Addr} {oe : Obj} {vs : Array Value} (e : h.get? a = some oe) (z : Zc cls d oe) (dd : oe.data = .fields vs) : ObjOk P w H h a (ExC cls d a) := by
  refine ⟨⟨oe, vs, e, z, dd⟩, ⟨oe, e⟩, ?_⟩
  rintro h1 h2 ⟨o, v, e1, z1, d1⟩ st
  exact ⟨o, v, st _ e1, z1, d1⟩
/-- what stood nowhere at sI is none of the context's own: it may be tracked -/
theorem inv_seen {X : Cx} {pins : List (Addr × Obj)} {σI σ : L2.St} {HI H : Hp} {sI s : Shared} {a : Addr} {o : HO} (J : Inv X pins σI HI sI) (new : sI.heap.get? a = none) (I : Inv X pins σ H s) (na : H a = none) (ok : ObjOk X.prog X.w (upd H a o) s.heap a o) :
    Inv X pins σ (upd H a o) s := by
  have old : ∀ {b : Addr} {ob : Obj}, sI.heap.get? b = some ob → upd H a o b = H b := fun {b ob} e => upd_ne fun z => by
    rw [z, new] at e
    cases e
  have trk : ∀ {b : Addr} {u : HO}, H b = some u → upd H a o b = some u := fun {b u} e => (upd_ne (ne_of_none e na)).trans e
  refine ⟨I.ok, I.os, I.bare, ⟨I.base.keep, I.base.slot, ?_, I.base.there, ?_, ?_, ?_⟩, I.loc, I.cell, ?_, ?_, ?_, ?_, I.len⟩
  · intro b ob e nb hx
    obtain ⟨o', e'⟩ := J.base.there b ob e hx
    rw [old e']
    exact I.base.free b ob e nb hx
  · intro b xs e
    exact trk (I.base.tups b xs e)
  · intro b ob u e
    exact trk (I.base.frzs b ob u e)
  · intro b ps e
    obtain ⟨more, q⟩ := I.base.tbls b ps e
    exact ⟨more, trk q⟩
  · obtain ⟨m, ⟨ol, _, _, el, _⟩, _⟩ := J.loc
    rw [old el]
    exact I.free
  · intro y c e
    obtain ⟨v, oc, ec, _⟩ := J.cell y c e
    rw [old ec]
    exact I.freeC y c e
  · intro p hp
    obtain ⟨p1, p2, p3⟩ := I.pin p hp
    exact ⟨p1, (old (J.pin p hp).1).trans p2, p3⟩
  · intro b u e
    by_cases hb : b = a
    · subst hb
      rw [upd_same] at e
      cases e
      exact ok
    · rw [upd_ne hb] at e
      exact (I.hok b u e).stay (fun _ _ _ q => q) (fun _ q => trk q) fun _ _ q => trk q
/-- what 'except x as n' wishes, the exception kept behind it -/
def wKeep (K : PySem.W.Frag) (c : Value) (i : Nat) (ts : Addr → TS) (D : Ends) : WX := fun cls d σ H =>
  PySem.W.exmOne K cls c = some true ∧ ∀ a, H a = none → ts a { nx := fun σ' H' => H' a = none ∧ D.nx (σ'.set i none) (upd H' a (ExC cls d a)), rt := fun _ _ => False, bk := fun _ _ => False, ct := fun _ _ => False } (σ.set i (some (.ref a))) H
theorem ps_try_keep {X : Cx} {x n : Str} {c : Value} {i : Nat} {body suite : List Stmt} {b0 : Stmt} {np pos pos' : Pos} {tb : WX → TS} {ts : Addr → TS} (stk : X.stack = X.env :: X.outer) (frm : X.env.frame = some X.env.locals) (nd : X.N.Nodup) (hi : X.N[i]? = some n) (loc : X.env.kindOf n = some .local) (nm : Names X x c)
    (hb : ∀ (W : WX) (pn : List (Addr × Obj)) (xe : Value → Shared → Prop), Takes (X.tr pn xe) W → PSs (X.tr pn xe) body (tb W))
    (hsu : ∀ (a : Addr) (pn : List (Addr × Obj)), PSs (X.suite a pn) (b0 :: suite) (ts a)) :
    PS X (.Try body [.ExceptHandler (some (.Name x np)) (some n) (b0 :: suite) pos'] [] [] pos) (fun D σ H => tb (wKeep X.K c i ts D) D σ H) := by
  constructor
  intro pins s σ H D I h
  have frs' : X.A.frames = some (X.env :: X.outer) := by rw [I.ok.frames, stk]
  refine wpAny_Try_except (wpAny_mono ((hb (wKeep X.K c i ts D) (X.pn ++ pins) _ fun u s' ex => ?_).run [] s σ H D (I.toTry _) h) (fun f s1 sp => ?_) fun e s1 q => q)
  · obtain ⟨a, B, sI, pins', σ', H', cls, d, rfl, JT, nb, up, sky, na, os, ag, hm, go⟩ := ex
    have J : Inv X pins σ' H' sI := JT.ofTry I.ok
    have sky2 : Sky B (X.env :: X.outer) a (Zc cls d) X.env.locals s'.heap := stk ▸ sky
    refine Sky.land Zc.steady frs' frm sky2 fun h3 fl3 up3 => ?_
    have J3 : Inv X pins σ' H' { s' with heap := h3 } := J.landed nb fl3.1 (up.trans up3) os ag
    have away : ∀ {hp : Heap} {o : Obj} {vs : Array Value}, hp.FunFrames B (X.env :: X.outer) → hp.get? a = some o → o.data = .fields vs → a ∉ frs (X.env :: X.outer) := fun {hp o vs} ff e dd m => by
      obtain ⟨_, o', e', nf⟩ := ff.mem m
      rw [e] at e'
      cases e'
      exact nf _ dd
    obtain ⟨oe3, vs3, he3, hz3, hd3⟩ := fl3.there
    have nfr := away fl3.2.2.1 he3 hd3
    have nl : a ≠ X.env.locals := fun z => nfr (List.mem_filterMap.mpr ⟨X.env, List.mem_cons_self, by rw [frm, z]⟩)
    have nfs : a ∉ X.fs := fun m => by
      obtain ⟨e, he, q⟩ := List.mem_filterMap.mp m
      exact nfr (List.mem_filterMap.mpr ⟨e, List.mem_cons_of_mem _ he, q⟩)
    have newI : sI.heap.get? a = none := by
      cases q : sI.heap.get? a with
      | none => rfl
      | some ob =>
        have z := nb a ob q (by rw [stk]; exact nfr)
        rw [fl3.2.1] at z
        cases z
    have S3 := J3.suite he3 hd3 na nl nfs
    refine wpAny_handleBy_cons (codeAny_handlers_test ?_) (fun z => nomatch z)
    have name : ∀ {Q' : Value → Shared → Prop} {E' : Value → Shared → Prop}, Q' c { s' with heap := h3 } → wpAny (model X.prog X.w) (X.A.mark (some (.ref a))) (eval (.Name x np) X.env) Q' E' { s' with heap := h3 } := fun {Q' E'} q => by
      obtain ⟨gl, dbg, hit | ⟨miss, bt, nn⟩⟩ := nm
      · exact ld_glob (X := X.suite a ((a, oe3) :: (X.pn ++ pins))) S3 gl hit q dbg
      · exact ld_blt (X := X.suite a ((a, oe3) :: (X.pn ++ pins))) S3 gl miss bt q nn dbg
    have looks : PySem.W.Looks (model X.prog X.w) h3 (typeOf (.ref a)) cls := fun A' Q' E' t k q => wpAny_typeOf_ref (k _ _ he3) (hz3.1.symm ▸ q)
    refine name ((PySem.W.exm_one (M := model X.prog X.w) J3.kIn looks hm).here (codeAny_handlers_suite_as (HandSPX.lands_againZ fl3 fun h4 fl4 up4 => ?_)))
    · have J4 : Inv X pins σ' H' { s' with heap := h4 } := J.landed nb fl4.1 ((up.trans up3).trans up4) os ag
      obtain ⟨oe4, vs4, he4, hz4, hd4⟩ := fl4.there
      refine store_ok (X := X.suite a ((a, oe4) :: (X.pn ++ pins))) (v := .ref a) (J4.suite he4 hd4 na nl nfs) nd hi (.inl loc) rfl (fun s5 S5 => ?_) (.inr loc)
      refine wpAny_mono ((hsu a ((a, oe4) :: (X.pn ++ pins))).run [] s5 _ H' _ S5 (go a na)) (fun f s6 sp => ?_) fun _ _ z => (show False from z).elim
      cases f with
      | next =>
        obtain ⟨σ6, H6, S6, n6, q6⟩ := sp
        refine gone_ok (X := X.suite a ((a, oe4) :: (X.pn ++ pins))) S6 nd hi loc fun s7 S7 => ?_
        have at7 := (S7.pin (a, oe4) (List.mem_append_left _ List.mem_cons_self)).1
        exact ⟨_, _, inv_seen J newI (S7.unsuite I.ok) n6 (exC_ok at7 hz4 hd4), q6⟩
      | brk =>
        obtain ⟨_, _, _, z⟩ := sp
        exact (show False from z).elim
      | cont =>
        obtain ⟨_, _, _, z⟩ := sp
        exact (show False from z).elim
      | ret u =>
        obtain ⟨_, _, _, _, _, z⟩ := sp
        exact (show False from z).elim
  · cases f with
    | next =>
      obtain ⟨σ', H', J, q⟩ := sp
      exact wpAny_execs_nil ⟨σ', H', J.ofTry I.ok, q⟩
    | brk =>
      obtain ⟨σ', H', J, q⟩ := sp
      exact ⟨σ', H', J.ofTry I.ok, q⟩
    | cont =>
      obtain ⟨σ', H', J, q⟩ := sp
      exact ⟨σ', H', J.ofTry I.ok, q⟩
    | ret u =>
      obtain ⟨v, σ', H', J, r, q⟩ := sp
      exact ⟨v, σ', H', J.ofTry I.ok, r, q⟩

/-! ### a lambda of one parameter -/
structure LamP (sc scope : Scope) (p : Str) : Prop where
  kind : scope.kind = .function
  co : scope.isCoroutine = false
  gen : scope.isGenerator = false
  par : scope.names.lookup p = some .local
  own : ∀ y ∈ scope.names, y.2 ≠ .cell ∧ (y.2 = .local → y.1 = p)
  free : ∀ y ∈ scope.names, y.2 = .free → sc.names.lookup y.1 = some .cell ∨ sc.names.lookup y.1 = some .free
def lamPB (sc scope : Scope) (p : Str) : Bool := decide (scope.kind = .function) && (!scope.isCoroutine && (!scope.isGenerator && (decide (scope.names.lookup p = some .local) && scope.names.all fun y => !decide (y.2 = .cell) && ((!decide (y.2 = .local) || decide (y.1 = p)) && (!decide (y.2 = .free) || (decide (sc.names.lookup y.1 = some .cell) || decide (sc.names.lookup y.1 = some .free)))))))
theorem lamP_by {sc scope : Scope} {p : Str} (h : lamPB sc scope p = true) : LamP sc scope p := by
  unfold lamPB at h
  simp only [Bool.and_eq_true, Bool.or_eq_true, Bool.not_eq_true', decide_eq_true_eq, decide_eq_false_iff_not, List.all_eq_true] at h
  obtain ⟨h1, h2, h3, h4, h5⟩ := h
  refine ⟨h1, h2, h3, h4, fun y hy => ⟨(h5 y hy).1, fun e => ?_⟩, fun y hy e => ?_⟩
  · rcases (h5 y hy).2.1 with z | z
    · exact absurd e z
    · exact z
  · rcases (h5 y hy).2.2 with z | z
    · exact absurd e z
    · exact z
theorem LamP.has {X : Cx} {scope : Scope} {p : Str} (L : LamP X.env.scope scope p) (ok : X.Ok) {y : Str × NameKind} (hy : y ∈ scope.names) (e : y.2 = .free) : ∃ c, X.env.cells.lookup y.1 = some c := ok.has _ (L.free y hy e)
/-- the context of its body -/
def cxP (X : Cx) (A : Around) (outer : List Env) (s : Shared) (H : Hp) (E : XK) (scope : Scope) (p : Str) (f c' : Addr) : Cx := { LamX.lamCx X A outer s H E scope f c' with N := X.N ++ [p] }
section
variable {X : Cx} {pins : List (Addr × Obj)} {σ : L2.St} {H HZ : Hp} {s s1 : Shared} {A : Around} {outer : List Env} {E : XK} {scope : Scope} {p : Str} {f c' : Addr}
theorem lamP_start {h1 : Heap} {tk : Nat} {v : V} {u : Value} (I : Inv X pins σ H s) (L : LamP X.env.scope scope p) (np : ∀ (i : Nat) (v : V), X.N[i]? = some p → σ[i]? = some (some v) → False) (e0 : Env0 X.prog X.w X.K X.mg X.base A outer s1 HZ) (calm : A.handled = none)
    (un : Un (frs X.stack) [] H HZ s.heap s1.heap) (ns : h1.Ns s1.heap.objs.size fun y => ([(p, u)] : List (Str × Value)).reverse.lookup y) (kp : ∀ b o, s1.heap.get? b = some o → h1.get? b = some o) (r : RelV v u) :
    Inv (cxP X A outer s1 HZ E scope p f c') [] (σ ++ [some v]) HZ { s1 with heap := h1, toks := tk } := by
  -- the closure's cells are the maker's
  have back : ∀ {y : Str} {c : Addr}, (cloFrom X.env.cells scope.names []).lookup y = some c → X.env.cells.lookup y = some c := fun {y c} e => by
    rcases cloFrom_mem (PySem.mem_of_lookup e) with z | ⟨z, ec⟩
    · cases z
    · obtain ⟨c1, e1⟩ := L.has I.ok z rfl
      rw [ec, e1]
      rfl
  have fwd : ∀ {y : Str}, scope.names.lookup y = some .free → ∃ c, (cloFrom X.env.cells scope.names []).lookup y = some c := fun {y} e =>
    mem_lookup (cloFrom_has (cells := X.env.cells) (acc := []) (show (y, NameKind.free) ∈ scope.names from PySem.mem_of_lookup e))
  have cellOn : ∀ {c : Addr} {x : Option Value}, H c = none → s.heap.IsCell c x → h1.IsCell c x := fun {c x} n z => by
    obtain ⟨o, ho, hd⟩ := z
    obtain ⟨sl, q⟩ := un.any ho n (fun z => nomatch z)
    exact ⟨_, kp _ _ q, hd⟩
  have noCell : ∀ {y : Str}, scope.names.lookup y ≠ some .cell := fun {y} e => (L.own _ (PySem.mem_of_lookup e)).1 rfl
  have isOwn : ∀ {y : Str}, scope.names.lookup y = some .local → y = p := fun {y} e => (L.own _ (PySem.mem_of_lookup e)).2 rfl
  have ok : (cxP X A outer s1 HZ E scope p f c').Ok :=
    { mod := e0.mod
      kind := L.kind
      glob := rfl
      blt := rfl
      above := Nat.le_refl _
      inj := fun y z c e1 e2 => I.ok.inj y z c (back e1) (back e2)
      has := fun y hy => by
        rcases hy with hy | hy
        · exact absurd hy noCell
        · exact fwd hy
      cab := fun y c z _ => absurd (show false = true from z) Bool.false_ne_true
      hd := fun _ => calm
      frames := Around.frames_deeper e0.frames
      stk := .inr ⟨rfl, rfl⟩
      exf := fun b z => absurd (show b ∈ ([] : List Addr) from z) List.not_mem_nil
      bs := e0.bs
      bsz := e0.bsz
      noex := fun b _ _ z => absurd (show b ∈ ([] : List Addr) from z) List.not_mem_nil
      exfs := fun b z => absurd (show b ∈ ([] : List Addr) from z) List.not_mem_nil
      funs := e0.funs
      frf := e0.frf }
  refine ⟨ok, rfl, e0.bare, Un.kept kp, ⟨_, ns, fun i y x e1 e2 e3 => ?_⟩, fun y c e => ?_, e0.hok.fresh (Nat.le_refl _), fun y c e => ?_, fun q hq => absurd (show q ∈ ([] : List (Addr × Obj)) ++ [] from hq) List.not_mem_nil, e0.hok.kept kp, ?_⟩
  · have e1 : (X.N ++ [p])[i]? = some y := e1
    have e3 : Vis scope y := e3
    have ll : σ.length = X.N.length := I.len
    by_cases lt : i < X.N.length
    · rw [List.getElem?_append_left lt] at e1
      rw [List.getElem?_append_left (by rw [ll]; exact lt)] at e2
      have ny : y ≠ p := fun z => np i x (z ▸ e1) e2
      rcases e3 with k | k | k
      · exact absurd (isOwn k) ny
      · exact absurd k noCell
      · obtain ⟨m, _, at_⟩ := I.loc
        have fr := L.free _ (PySem.mem_of_lookup k) rfl
        obtain ⟨u', r', q⟩ := at_ i y x e1 e2 (.inr fr)
        obtain ⟨c, ec⟩ := fwd k
        refine ⟨u', r', .inr ⟨.inr k, c, ec, ?_⟩⟩
        rcases q with ⟨k', _⟩ | ⟨_, c2, ec2, z⟩
        · have k' : X.env.scope.names.lookup y = some .local := k'
          rcases fr with k2 | k2
          · rw [k'] at k2
            cases k2
          · rw [k'] at k2
            cases k2
        · rw [back ec] at ec2
          cases ec2
          exact cellOn (I.freeC y c (back ec)) z
    · have ge : X.N.length ≤ i := Nat.le_of_not_lt lt
      rw [List.getElem?_append_right ge] at e1
      rw [List.getElem?_append_right (by rw [ll]; exact ge), ll] at e2
      cases hi : i - X.N.length with
      | zero =>
        rw [hi] at e1 e2
        have ey : p = y := Option.some.inj e1
        have ev : v = x := Option.some.inj (Option.some.inj e2)
        subst ey ev
        refine ⟨u, r, .inl ⟨L.par, ?_⟩⟩
        show ([(p, u)] : List (Str × Value)).lookup p = some u
        rw [List.lookup_cons, beq_self_eq_true]
      | succ n =>
        rw [hi] at e1
        cases e1
  · obtain ⟨x, z⟩ := I.cell y c (back e)
    exact ⟨x, cellOn (I.freeC y c (back e)) z⟩
  · obtain ⟨x, o, ho, _⟩ := I.cell y c (back e)
    exact un.free c o ho (I.freeC y c (back e)) (fun z => nomatch z)
  · show (σ ++ [some v]).length = (X.N ++ [p]).length
    rw [List.length_append, List.length_append, I.len]
    rfl
/-- the lambda at f called with one thing, at any time behind its making -/
theorem lamP_run {k : Nat} {params : Arguments} {b : Expr} {pm ctv : Value} {tb : TE} {v : V} {u : Value} {Q : VK} (I : Inv X pins σ H s) (L : LamP X.env.scope scope p) (np : ∀ (i : Nat) (v : V), X.N[i]? = some p → σ[i]? = some (some v) → False)
    (hf : s.heap.get? f = some (PySem.W.kla_obj "<lambda>" (X.env.qual ++ "<lambda>") params b scope (cloFrom X.env.cells scope.names []) pm c' ctv)) (hfn : H f = none) (hfr : f ∉ frs X.stack)
    (bind : ∀ u, bindArgs (PySem.W.kla_fn "<lambda>" (X.env.qual ++ "<lambda>") params b scope (cloFrom X.env.cells scope.names []) pm (.ref c') ctv) ⟨[u], []⟩ = pure [(p, u)]) (room : Room (k + 1) A) (e0 : Env0 X.prog X.w X.K X.mg X.base A outer s1 HZ)
    (un : Un (frs X.stack) [] H HZ s.heap s1.heap) (code : HZ c' = some (LamX.CodeO c' (X.env.qual ++ "<lambda>"))) (body : ∀ (A : Around) (outer : List Env) (s : Shared) (H : Hp), Room k (A.deeper (LamX.lamEnv X scope s.heap.objs.size f c')) → PE (cxP X A outer s H E scope p f c') b tb)
    (r : RelV v u) (t : tb (σ ++ [some v]) HZ Q) : codeAny (model X.prog X.w) A (.call (.ref f) ⟨[u], []⟩) (CR (L2.CX X.prog X.w) outer X.prog X.w HZ s1 Q E) s1 := by
  have here := un.keep f _ hf hfn hfr (fun z => nomatch z)
  obtain ⟨⟨oc, vs, tk, ho, hd, hv⟩, _, _⟩ := e0.hok c' _ code
  refine PySem.W.kla_callFunE room.depth here rfl L.co L.gen rfl ⟨c', oc, vs, tk, rfl, ho, hd, hv⟩ ?_
  rw [bind u]
  refine wpAny_pure (wpAny_newFunctionEnv (fun y hy => (L.own y hy).1) (fun y hy => ?_) (fun h1 ns sb => ⟨?_, ?_⟩) L.kind)
  · rw [List.mem_singleton.mp hy]
    exact L.par
  · have kin : s1.heap.NoLimit := e0.mod.nolimit.keeps fun b o e => (e0.bs b o e).1
    exact kin.fresh _ sb
  · have kp : ∀ b o, s1.heap.get? b = some o → h1.get? b = some o := fun b o e => sb.extBut b o (Nat.ne_of_lt (Heap.lt_size e)) (Heap.get?_push_of_some _ e)
    have J := lamP_start (E := E) (f := f) (c' := c') (tk := s1.toks + ([(p, u)] : List (Str × Value)).length) I L np e0 room.hd un ns kp r
    show codeAny _ _ (.expr b (LamX.lamEnv X scope s1.heap.objs.size f c')) _ _
    refine PySem.W.kla_codeExpr (wpAny_mono ((body _ _ s1 HZ (room.deeper _)).run [] _ _ HZ Q J t) (fun w' s' z => ?_) fun e s' z => z)
    obtain ⟨x, H', J', rx, q⟩ := z
    exact ⟨x, H', J'.os, J'.bare, J'.base, J'.hok, rx, q⟩
end
/-! ### it is called by the def that got it -/
/-- that def's context, entered at s -/
abbrev gotCx (X : Cx) (Ng : List Str) (x : Str) (sg : Scope) (g : Addr) (cdg : Value) (s : Shared) (H : Hp) : Cx := cxOf CX0 X.prog X.w X.K X.mg X.base Ng x sg g cdg X.A X.stack s H E0
/-- a(e), a's slot the i-th: e's reading, then the lambda's of e's value -/
def tAct (i : Nat) (f c' : Addr) (q : Str) (ta : TA) (W : WX) (tl : XK → V → Hp → VK → Prop) : TE := fun σ H Q => σ[i]? = some (some (.ref f)) ∧ ta σ H fun vs H1 => ∃ v, vs = [v] ∧ H1 c' = some (LamX.CodeO c' q) ∧ tl (fun cls d H' => W cls d σ H') v H1 Q
theorem pe_actP {X : Cx} {pins : List (Addr × Obj)} {σ : L2.St} {H : Hp} {s : Shared} {scope : Scope} {p x a : Str} {f c' g : Addr} {k i : Nat} {params : Arguments} {b e : Expr} {pm ctv cdg : Value} {tb : XK → TE} {ta : TA} {Ng : List Str} {sg : Scope} {pn : List (Addr × Obj)} {xe : Value → Shared → Prop} {W : WX} {p1 p2 : Pos}
    (I : Inv X pins σ H s) (L : LamP X.env.scope scope p) (np : ∀ (i : Nat) (v : V), X.N[i]? = some p → σ[i]? = some (some v) → False) (hf : s.heap.get? f = some (PySem.W.kla_obj "<lambda>" (X.env.qual ++ "<lambda>") params b scope (cloFrom X.env.cells scope.names []) pm c' ctv)) (hfn : H f = none) (hfr : f ∉ frs X.stack)
    (bind : ∀ u, bindArgs (PySem.W.kla_fn "<lambda>" (X.env.qual ++ "<lambda>") params b scope (cloFrom X.env.cells scope.names []) pm (.ref c') ctv) ⟨[u], []⟩ = pure [(p, u)])
    (tk : Takes ((gotCx X Ng x sg g cdg s H).tr pn xe) W) (room : Room (k + 1) (X.A.deeper (envOfC x sg s.heap.objs.size g cdg)))
    (body : ∀ (A : Around) (outer : List Env) (s : Shared) (H : Hp) (E : XK), Room k (A.deeper (LamX.lamEnv X scope s.heap.objs.size f c')) → PE (cxP X A outer s H E scope p f c') b (tb E))
    (at_ : Ng[i]? = some a) (vis : Vis sg a) (args : PA ((gotCx X Ng x sg g cdg s H).tr pn xe) [e] ta)
    (star : starEach [e] ((gotCx X Ng x sg g cdg s H).tr pn xe).env = (false, eval e ((gotCx X Ng x sg g cdg s H).tr pn xe).env) :: starEach [] ((gotCx X Ng x sg g cdg s H).tr pn xe).env := by rfl)
    (d1 : (a == ("__debug__" : Str)) = false := by decide) (d2 : (a == ("__classdict__" : Str)) = false := by decide) :
    PE ((gotCx X Ng x sg g cdg s H).tr pn xe) (.Call (.Name a p1) [e] [] p2) (tAct i f c' (X.env.qual ++ "<lambda>") ta W fun E v H1 Q => tb E (σ ++ [some v]) H1 Q) := by
  constructor
  intro pz sz σz Hz Q Iz h
  obtain ⟨slot, ht⟩ := h
  refine wpAny_Call_Name_kw (thn ((pe_var (pos := p1) (i := i) at_ vis d1 d2).run pz sz σz Hz (fun v H1 => v = .ref f ∧ H1 = Hz) Iz ⟨.ref f, slot, rfl, rfl⟩) fun u s1 z => ?_)
  obtain ⟨v0, H1, I1, r1, rfl, rfl⟩ := z
  obtain rfl : u = Value.ref f := r1
  have still : ∀ {σ' : L2.St} {H' : Hp} {s' : Shared}, Inv ((gotCx X Ng x sg g cdg s H).tr pn xe) pz σ' H' s' → s'.heap.get? f = some (PySem.W.kla_obj "<lambda>" (X.env.qual ++ "<lambda>") params b scope (cloFrom X.env.cells scope.names []) pm c' ctv) := fun J => J.base.keep f _ hf hfn hfr (fun z => nomatch z)
  refine PySem.W.callWith_F ⟨_, _, _, _, still I1⟩ (thn (args.run p2 pz s1 σz H1 _ I1 ht) fun us s2 z => ?_) star rfl
  obtain ⟨vs, H2, I2, rv, v, rfl, hc, tl⟩ := z
  obtain ⟨u, rfl, ru⟩ := vals1 rv
  have e2 : Env0 X.prog X.w X.K X.mg X.base (X.A.deeper (envOfC x sg s.heap.objs.size g cdg)) (envOfC x sg s.heap.objs.size g cdg :: X.stack) s2 H2 := I2.env0
  have un : Un (frs X.stack) [] H H2 s.heap s2.heap := I2.base
  have run := lamP_run (X := X) (E := fun cls d H' => W cls d σz H') (k := k) (u := u) (Q := Q) I L np hf hfn hfr bind room e2 un hc (fun A outer s H rm => body A outer s H _ rm) ru tl
  refine ⟨⟨_, _, _, _, still I2⟩, wpAny_call (codeAny_mono run fun res s3 z => ?_)⟩
  cases res with
  | error er => exact tk er s3 (XE.of_call I2 (fun _ _ _ w => w) z)
  | ok fl =>
    cases fl with
    | ret u' => exact I2.after z
    | next => exact (show False from z).elim
    | brk => exact (show False from z).elim
    | cont => exact (show False from z).elim
/-- what the def makes of the lambda's reading tl and of the thing v: TT -/
def GivesP (X : Cx) (k : Nat) (Ng : List Str) (x : Str) (sg : Scope) (g : Addr) (cdg : Value) (bg : List Stmt) (a : Str) (q : Str) (TT : V → (XK → V → Hp → VK → Prop) → Hp → VK → Prop) : Prop :=
  ∀ (f c' : Addr) (v : V) (s : Shared) (H : Hp) (Q : VK) (tl : XK → V → Hp → VK → Prop), Room k (X.A.deeper (envOfC x sg s.heap.objs.size g cdg)) →
    (∀ (W : WX) (pn : List (Addr × Obj)) (xe : Value → Shared → Prop) (p1 p2 : Pos) (e : Expr) (ta : TA), Takes ((gotCx X Ng x sg g cdg s H).tr pn xe) W → PA ((gotCx X Ng x sg g cdg s H).tr pn xe) [e] ta →
      starEach [e] ((gotCx X Ng x sg g cdg s H).tr pn xe).env = (false, eval e ((gotCx X Ng x sg g cdg s H).tr pn xe).env) :: starEach [] ((gotCx X Ng x sg g cdg s H).tr pn xe).env →
      PE ((gotCx X Ng x sg g cdg s H).tr pn xe) (.Call (.Name a p1) [e] [] p2) (tAct 0 f c' q ta W tl)) →
    H c' = some (LamX.CodeO c' q) → TT v tl H Q →
    ∃ t, PSs (gotCx X Ng x sg g cdg s H).nox bg t ∧ t { nx := fun _ H' => Q .non H', rt := Q } (L2.start Ng [.ref f, v]) H
/-- the lambda is made: all but the table at P is as it was -/
theorem lam_new {X : Cx} {pins : List (Addr × Obj)} {σ : L2.St} {H : Hp} {s : Shared} {c P : Addr} {params : Arguments} {b : Expr} {scope : Scope} {pos : Pos} {E Q : Value → Shared → Prop} (J : Inv X pins σ H s) (tab : LamX.TabB X.base X.mg c P) (own : X.env.code = .ref c)
    (t0 : LamX.TabS H P (X.env.qual ++ "<lambda>")) (nodef : defaultsOf params X.env = ([], [])) (has : ∀ y ∈ scope.names, y.2 = .free → ∃ c, X.env.cells.lookup y.1 = some c)
    (go : ∀ (f c' : Addr) (pm ctv : Value) (H1 : Hp) (s1 : Shared), Inv X pins σ H1 s1 → But P H H1 → LamX.TabS H1 P (X.env.qual ++ "<lambda>") → s1.heap.get? f = some (PySem.W.kla_obj "<lambda>" (X.env.qual ++ "<lambda>") params b scope (cloFrom X.env.cells scope.names []) pm c' ctv) →
      H1 f = none → f ∉ frs X.stack → H1 c' = some (LamX.CodeO c' (X.env.qual ++ "<lambda>")) → Q (.ref f) s1) : wpAny (model X.prog X.w) X.A (eval (.Lambda params b scope pos) X.env) Q E s := by
  have seen := t0
  obtain ⟨ps, atP, tri, each⟩ := seen
  have blt : s.heap.BuiltinsAt X.mg P := tab.bm.keeps J.bk
  have objP : s.heap.get? P = some { cls := .none, data := .fields ps } := J.hok P _ atP
  have far : ∀ f, s.heap.objs.size ≤ f → f ∉ frs X.stack := fun f le m => by
    rcases List.mem_cons.mp (J.stkSub _ m) with e | e
    · have lt := J.lt
      rw [← e] at lt
      exact absurd (Nat.lt_of_lt_of_le lt le) (Nat.lt_irrefl _)
    · exact J.nofs le e
  refine PySem.W.kla_eval nodef ?_
  cases found : codeAmong pos ps.toList with
  | some cv =>
    obtain ⟨c', rfl, here⟩ := each pos cv found
    refine PySem.W.kla_makeFunctionHit (P := P) (c := c) (mg := X.mg) (ps := ps) (closure_ok has) J.ok.glob (J.mod.glob.keeps J.bk) own (tab.code.keeps J.bk) objP tri found blt fun ctv h' tk kept le => ?_
    have J1 : Inv X pins σ H { s with heap := h'.push (PySem.W.kla_obj "<lambda>" (X.env.qual ++ "<lambda>") params b scope (cloFrom X.env.cells scope.names []) ((X.mg "__name__").getD .none) c' ctv), toks := tk } := J.kept fun _ _ e => Heap.get?_push_of_some _ (kept _ _ e)
    exact go _ c' _ ctv H _ J1 .refl t0 (Heap.get?_push_size _ rfl) (J.hok.fresh le) (far _ le) here
  | none =>
    refine PySem.W.kla_makeFunction (P := P) (c := c) (mg := X.mg) (ps := ps) (closure_ok has) J.ok.glob (J.mod.glob.keeps J.bk) own (tab.code.keeps J.bk) objP tri found tab.gP blt fun c' ctv h' tk kept ge lt rec_ grown => ?_
    obtain ⟨c2, oc, vs, tk2, e2, atC, dat, nm⟩ := rec_
    cases e2
    have le : s.heap.objs.size ≤ h'.objs.size := Nat.le_trans ge (Nat.le_of_lt lt)
    have newC : H c' = none := J.hok.fresh ge
    have J1 := LamX.inv_table (t' := tk) (more := #[rawInt pos.line, rawInt pos.col, .ref c']) (h' := h'.push (PySem.W.kla_obj "<lambda>" (X.env.qual ++ "<lambda>") params b scope (cloFrom X.env.cells scope.names []) ((X.mg "__name__").getD .none) c' ctv)) J atP
      (fun _ _ nb e => Heap.get?_push_of_some _ (kept _ _ nb e)) (Heap.get?_push_of_some _ grown) ge ⟨oc, vs, tk2, Heap.get?_push_of_some _ atC, dat, nm⟩
    have but : But P H (upd (upd H P (.tbl (ps ++ #[rawInt pos.line, rawInt pos.col, .ref c']))) c' (LamX.CodeO c' (X.env.qual ++ "<lambda>"))) := fun d o e n => by
      rw [upd_ne (ne_of_none e newC), upd_ne n]
      exact e
    have toL : (ps ++ #[rawInt pos.line, rawInt pos.col, .ref c']).toList = ps.toList ++ [rawInt pos.line, rawInt pos.col, .ref c'] := by simp
    have away : ∀ {d : Addr} {q : Str}, H d = some (LamX.CodeO d q) → d ≠ P := fun {d q} e z => by
      rw [z, atP] at e
      exact LamX.codeO_ne ps (Option.some.inj e).symm
    refine go h'.objs.size c' _ ctv _ _ J1 but ⟨ps ++ #[rawInt pos.line, rawInt pos.col, .ref c'], ?_, ?_, fun p' cv among => ?_⟩ (Heap.get?_push_size _ rfl) ?_ (far _ le) upd_same
    · rw [upd_ne (ne_of_none atP newC), upd_same]
    · rw [toL]
      exact PySem.TriplesOk_snoc _ _ _ _ tri
    · rw [toL] at among
      rcases LamX.among_app _ tri among with z | z
      · obtain ⟨c0, e1, e2⟩ := each p' cv z
        exact ⟨c0, e1, but _ _ e2 (away e2)⟩
      · exact ⟨c', z, upd_same⟩
    · rw [upd_ne (Nat.ne_of_gt lt), upd_ne (Nat.ne_of_gt (Nat.lt_of_lt_of_le (Heap.lt_size objP) le))]
      exact J.hok.fresh le
def tLamP (P : Addr) (qn : Str) (TT : V → (XK → V → Hp → VK → Prop) → Hp → VK → Prop) (t : XK → TE) (ta : TA) : TE := fun σ H Q => LamX.TabS H P qn ∧ ∀ H1, But P H H1 → LamX.TabS H1 P qn → ta σ H1 fun vs H2 => ∃ v, vs = [v] ∧ LamX.ExtN H1 H2 ∧ TT v (fun E v H' Q' => t E (σ ++ [some v]) H' Q') H2 Q
theorem pinned_one {X : Cx} {pins : List (Addr × Obj)} {σ : L2.St} {H : Hp} {s : Shared} {f : Addr} {o : Obj} {fd : FuncData} (I : Inv X pins σ H s) (hf : s.heap.get? f = some o) (hd : o.data = .func fd) (hn : H f = none) (hfr : f ∉ frs X.stack) : Inv X ((f, o) :: pins) σ H s := by
  refine ⟨I.ok, I.os, I.bare, I.base, I.loc, I.cell, I.free, I.freeC, fun q hq => ?_, I.hok, I.len⟩
  rcases List.mem_append.mp hq with z | z
  · exact I.pin q (List.mem_append_left _ z)
  · rcases List.mem_cons.mp z with e | z
    · subst e
      refine ⟨hf, hn, fun e => ?_, fun m => hfr ?_, fun v e => ?_⟩
      · obtain ⟨m, ⟨ol, es, ep, el, dl, _⟩, _⟩ := I.loc
        have e' : f = X.env.locals := e
        rw [← e', hf] at el
        cases el
        rw [hd] at dl
        cases dl
      · rcases I.ok.stk with st | ⟨st, _⟩
        · rw [st]
          exact m
        · rw [st]
          obtain ⟨e1, m1, m2⟩ := List.mem_filterMap.mp m
          exact List.mem_filterMap.mpr ⟨e1, List.mem_cons_of_mem _ m1, m2⟩
      · have e' : o.data = .cell v := e
        rw [hd] at e'
        cases e'
    · exact I.pin q (List.mem_append_right _ z)
theorem unpin_one {X : Cx} {pins : List (Addr × Obj)} {σ : L2.St} {H : Hp} {s : Shared} {q : Addr × Obj} (I : Inv X (q :: pins) σ H s) : Inv X pins σ H s := by
  refine ⟨I.ok, I.os, I.bare, I.base, I.loc, I.cell, I.free, I.freeC, fun z hz => I.pin z ?_, I.hok, I.len⟩
  rcases List.mem_append.mp hz with m | m
  · exact List.mem_append_left _ m
  · exact List.mem_append_right _ (List.mem_cons_of_mem _ m)
/-- x(lambda p: b, e) -/
theorem pe_lamP {X : Cx} {TT : V → (XK → V → Hp → VK → Prop) → Hp → VK → Prop} {x a a2 p : Str} {g c P : Addr} {k : Nat} {pg : Arguments} {bg : List Stmt} {sg : Scope} {dV kV doc pm cdv ct oc : Value} {an od : Option Addr} {osl : Array (Option Value)} {Ng : List Str} {params : Arguments} {b e : Expr} {scope : Scope} {t : XK → TE} {ta : TA} {pp lpos pos : Pos}
    (gl : Gl X x) (mg : X.mg x = some (.ref g)) (keep : PySem.W.keepIn X.K (.ref g) = true) (look : X.K.lookup g = some ⟨oc, od, .func (PySem.W.fnOf x x pg bg sg dV kV doc pm an cdv ct), osl⟩) (code : PySem.W.codeIn X.K cdv x = true)
    (binds : L2.Binds X.K (PySem.W.fnOf x x pg bg sg dV kV doc pm an cdv ct) [a, a2] []) (S : FnScope Ng [a, a2] sg) (at0 : Ng[0]? = some a) (vis : Vis sg a) (gives : GivesP X (k + 1) Ng x sg g cdv bg a (X.env.qual ++ "<lambda>") TT)
    (TB : LamX.TabB X.base X.mg c P) (own : X.env.code = .ref c) (room : Room (k + 2) X.A) (L : LamP X.env.scope scope p) (np : p ∉ X.N) (nodef : defaultsOf params X.env = ([], []))
    (bind : ∀ (q : Str) (cl : List (Str × Addr)) (pm cv ctv u : Value), bindArgs (PySem.W.kla_fn "<lambda>" q params b scope cl pm cv ctv) ⟨[u], []⟩ = pure [(p, u)])
    (body : ∀ (A : Around) (outer : List Env) (s : Shared) (H : Hp) (E : XK) (f c' : Addr), Room k (A.deeper (LamX.lamEnv X scope s.heap.objs.size f c')) → PE (cxP X A outer s H E scope p f c') b (t E)) (args : PA X [e] ta)
    (star : starEach (.Lambda params b scope lpos :: [e]) X.env = (false, eval (.Lambda params b scope lpos) X.env) :: starEach [e] X.env := by rfl) (plain : (backTo pos (starEach [e] X.env)).any (·.1) = false := by rfl)
    (d0 : (x == ("__debug__" : Str)) = false := by decide) (d1 : (a == ("__debug__" : Str)) = false := by decide) (d2 : (a == ("__classdict__" : Str)) = false := by decide) :
    PE X (.Call (.Name x pp) [.Lambda params b scope lpos, e] [] pos) (tLamP P (X.env.qual ++ "<lambda>") TT t ta) := by
  constructor
  intro pins s σ H Q I h
  obtain ⟨hT, h⟩ := h
  refine wpAny_Call_Name_kw (ld_glob I gl mg ?_ d0)
  refine PySem.W.callWith_K (h₀ := X.base) I.ok.mod.kin keep ?_ star plain
  rw [star]
  show wpAny _ _ (spliced ((false, eval (.Lambda params b scope lpos) X.env) :: backTo pos (starEach [e] X.env))) _ _ s
  refine Calls.spliced_cons (lam_new I TB own hT nodef (fun y hy z => L.has I.ok hy z) fun f c' pm' ctv H1 s1 I1 ext T1 hf hfn hfr hco => ?_)
  have Ip := pinned_one I1 hf rfl hfn hfr
  refine thn (args.run pos _ s1 σ H1 _ Ip (h H1 ext T1)) fun us s2 z => ?_
  obtain ⟨vs, H2, I2, rv, v, rfl, ext2, tt⟩ := z
  obtain ⟨u, rfl, ru⟩ := vals1 rv
  have f2 := I2.pin (f, _) (List.mem_append_right _ List.mem_cons_self)
  have co2 : H2 c' = some (LamX.CodeO c' (X.env.qual ++ "<lambda>")) := ext2 _ _ hco (LamX.codeO_ne)
  refine ⟨I2.kIn, ?_⟩
  have run : codeAny (model X.prog X.w) X.A (.call (.ref g) ⟨[.ref f, u], []⟩) (CR CX0 X.stack X.prog X.w H2 s2 Q E0) s2 := by
    refine LamX.run_ofS (N := Ng) (ps := [a, a2]) (us := [.ref f, u]) (vs := [.ref f, v]) look code S room I2.env0 (binds s2 [.ref f, u] I2.kIn rfl) (.cons rfl (.cons ru .nil)) rfl fun hr' => ?_
    obtain ⟨t', ht', q'⟩ := gives f c' v s2 H2 Q (fun E v H' Q' => t E (σ ++ [some v]) H' Q') hr' (fun W pn xe p1 p2 e ta tk args star => pe_actP (k := k) I2 L (fun i v e _ => np (List.mem_of_getElem? e)) f2.1 f2.2.1 hfr (fun u => bind _ _ _ _ _ u) tk hr' (fun A outer s H E rm => body A outer s H E f c' rm) at0 vis args star d1 d2) co2 tt
    exact ⟨t', ht'.nox, q'⟩
  refine wpAny_call (codeAny_mono run fun res s3 z => ?_)
  cases res with
  | error er => exact (show False from z).elim
  | ok fl =>
    cases fl with
    | ret u' =>
      obtain ⟨v', H', J, r', q'⟩ := I2.after z
      exact ⟨v', H', unpin_one J, r', q'⟩
    | next => exact (show False from z).elim
    | brk => exact (show False from z).elim
    | cont => exact (show False from z).elim
/-- the same by the def's own facts -/
theorem pe_lamF {X : Cx} {TT : V → (XK → V → Hp → VK → Prop) → Hp → VK → Prop} {x a a2 p : Str} {g c P : Addr} {k : Nat} {st : Stmt} {fd : FuncData} {Ng : List Str} {params : Arguments} {b e : Expr} {scope : Scope} {t : XK → TE} {ta : TA} {pp lpos pos : Pos}
    (gl : Gl X x) (mg : X.mg x = some (.ref g)) (F : Fun X.K x x st g fd) (binds : L2.Binds X.K fd [a, a2] []) (S : FnScope Ng [a, a2] (defScope st)) (at0 : Ng[0]? = some a) (vis : Vis (defScope st) a) (gives : ∀ cdg, GivesP X (k + 1) Ng x (defScope st) g cdg (defBody st) a (X.env.qual ++ "<lambda>") TT)
    (TB : LamX.TabB X.base X.mg c P) (own : X.env.code = .ref c) (room : Room (k + 2) X.A) (L : LamP X.env.scope scope p) (np : p ∉ X.N) (nodef : defaultsOf params X.env = ([], []))
    (bind : ∀ (q : Str) (cl : List (Str × Addr)) (pm cv ctv u : Value), bindArgs (PySem.W.kla_fn "<lambda>" q params b scope cl pm cv ctv) ⟨[u], []⟩ = pure [(p, u)])
    (body : ∀ (A : Around) (outer : List Env) (s : Shared) (H : Hp) (E : XK) (f c' : Addr), Room k (A.deeper (LamX.lamEnv X scope s.heap.objs.size f c')) → PE (cxP X A outer s H E scope p f c') b (t E)) (args : PA X [e] ta)
    (star : starEach (.Lambda params b scope lpos :: [e]) X.env = (false, eval (.Lambda params b scope lpos) X.env) :: starEach [e] X.env := by rfl) (plain : (backTo pos (starEach [e] X.env)).any (·.1) = false := by rfl)
    (d0 : (x == ("__debug__" : Str)) = false := by decide) (d1 : (a == ("__debug__" : Str)) = false := by decide) (d2 : (a == ("__classdict__" : Str)) = false := by decide) :
    PE X (.Call (.Name x pp) [.Lambda params b scope lpos, e] [] pos) (tLamP P (X.env.qual ++ "<lambda>") TT t ta) := by
  have keep := F.kp
  obtain ⟨oc, od, kV, doc, pm, an, cdv, ct, osl, rfl, lk, hcd⟩ := F.ex
  exact pe_lamP gl mg keep lk hcd binds S at0 vis (gives cdv) TB own room L np nodef bind body args star plain d0 d1 d2

/-! ### a law called from the caller itself: nothing is shown around it -/
/-- at the law's call: its tables are empty, the script is frozen (or known by K) -/
def lawH (K : PySem.W.Frag) (cs : List (Addr × Addr)) (a : Addr) (o : Obj) (ns : List Int) : Hp := fun b => if b ∈ cs.map (·.2) then some (.tbl #[]) else if b = a ∧ K.lookup a = none then some (.frz o (.lst (ns.map V.int))) else none
theorem lawH_some {K : PySem.W.Frag} {cs : List (Addr × Addr)} {a b : Addr} {o : Obj} {ns : List Int} {u : HO} (h : lawH K cs a o ns b = some u) : (b ∈ cs.map (·.2) ∧ u = .tbl #[]) ∨ (b = a ∧ K.lookup a = none ∧ u = .frz o (.lst (ns.map V.int))) := by
  unfold lawH at h
  split at h
  · rename_i m
    exact .inl ⟨m, (Option.some.inj h).symm⟩
  · split at h
    · rename_i m
      exact .inr ⟨m.1, m.2, (Option.some.inj h).symm⟩
    · cases h
theorem call_law {P : Program} {w : World} {K : PySem.W.Frag} {mg mb : Str → Option Value} {fa a : Addr} {cs : List (Addr × Addr)} {s : Shared} {vs : List Value} {ns : List Int} (kin : K.In s.heap) (gl : s.heap.Ns mainGlobals mg) (bi : s.heap.Ns builtinsNs mb)
    (boot : ∀ x : Str, x ≠ "__name__" → mb x = bootBuiltins x) (lim : s.heap.NoLimit) (gens : s.gens = #[]) (tabs : ∀ p ∈ cs, s.heap.get? p.2 = some { cls := .none, data := .fields #[] }) (away : ∀ p ∈ cs, K.lookup p.2 = none) (code : ∀ p ∈ cs, PySem.W.CodeHd s.heap p.1 p.2)
    (bm : ∃ (bm : Addr) (ob : Obj), mg "__builtins__" = some (.ref bm) ∧ bm ≠ builtinsNs ∧ s.heap.get? bm = some ob ∧ ob.cls = .type "module" ∧ ob.dict = some builtinsNs ∧ ob.data = .plain) (scr : s.heap.get? a = some { cls := .type "list", data := .seq vs.toArray }) (iar : IntsAre vs ns) (len : ns.length ≤ sizeLine)
    (run : ∀ (base : Heap) (H : Hp), (∀ p ∈ cs, LamX.TabB base mg p.1 p.2) → Env0 P w K mg base callerA [] s H → (∀ p ∈ cs, H p.2 = some (.tbl #[])) → SqL K H a (ns.map V.int) →
      codeAny (model P w) callerA (.call (.ref fa) ⟨[.ref a], []⟩) (CR CX0 [] P w H s (fun v _ => v = .bl true) E0) s) :
    codeAny (model P w) callerA (.call (.ref fa) ⟨[.ref a], []⟩) (fun r s' => r = .ok (.ret (.bool true)) ∧ OldK s.heap s'.heap ∧ s'.os = s.os ∧ AllBare s'.gens) s := by
  have rel := vals_ints iar
  have tabAt : ∀ {b : Addr}, b ∈ cs.map (·.2) → s.heap.get? b = some { cls := .none, data := .fields #[] } := fun {b} m => by
    obtain ⟨p, hp, rfl⟩ := List.mem_map.mp m
    exact tabs p hp
  have notTab : a ∉ cs.map (·.2) := fun m => by
    have z := (tabAt m).symm.trans scr
    have z2 := congrArg Obj.data (Option.some.inj z)
    cases z2
  generalize hH : lawH K cs a { cls := .type "list", data := .seq vs.toArray } ns = H
  have some_ : ∀ {b : Addr} {u : HO}, H b = some u → (b ∈ cs.map (·.2) ∧ u = .tbl #[]) ∨ (b = a ∧ K.lookup a = none ∧ u = .frz { cls := .type "list", data := .seq vs.toArray } (.lst (ns.map V.int))) := fun {b u} e => by
    rw [← hH] at e
    exact lawH_some e
  have tabH : ∀ p ∈ cs, H p.2 = some (.tbl #[]) := fun p hp => by
    rw [← hH]
    exact if_pos (List.mem_map.mpr ⟨p, hp, rfl⟩)
  -- what is neither a list nor an empty table isn't tracked
  have loose : ∀ {b : Addr} {ob : Obj}, s.heap.get? b = some ob → (∀ xs n, ob.data ≠ .seq xs n) → ob.data ≠ .fields #[] → H b = none := fun {b ob} e n1 n2 => by
    cases q : H b with
    | none => rfl
    | some u =>
      rcases some_ q with ⟨m, _⟩ | ⟨rfl, _⟩
      · rw [tabAt m] at e
        cases e
        exact absurd rfl n2
      · rw [scr] at e
        cases e
        exact absurd rfl (n1 _ _)
  have nsOn : ∀ {b : Addr} {m : Str → Option Value}, s.heap.Ns b m → (hidT s.heap H).Ns b m := fun {b m} z => by
    obtain ⟨o, es, ep, e, d, r⟩ := z
    refine ⟨o, es, ep, hidT_get e (loose e (fun _ _ q => ?_) fun q => ?_), d, r⟩
    · rw [d] at q
      cases q
    · rw [d] at q
      cases q
  have kin' : K.In (hidT s.heap H) := fun b o e => hidT_get (kin b o e) (by
    cases q : H b with
    | none => rfl
    | some u =>
      rcases some_ q with ⟨m, _⟩ | ⟨rfl, n, _⟩
      · obtain ⟨p, hp, rfl⟩ := List.mem_map.mp m
        rw [away p hp] at e
        cases e
      · rw [n] at e
        cases e)
  have hok : HOk P w H s.heap := fun b u e => by
    rcases some_ e with ⟨m, rfl⟩ | ⟨rfl, _, rfl⟩
    · exact tabAt m
    · exact ⟨scr, by rw [List.length_map]; exact len, vs, _, rel, scr⟩
  have sq : SqL K H a (ns.map V.int) := by
    cases q : K.lookup a with
    | none =>
      refine .inl (.inr ⟨{ cls := .type "list", data := .seq vs.toArray }, ?_⟩)
      rw [← hH]
      exact (if_neg notTab).trans (if_pos ⟨rfl, q⟩)
    | some o =>
      have e := kin a o q
      rw [scr] at e
      cases e
      exact .inr ⟨_, vs.toArray, _, q, rfl, rfl, rfl, by rw [List.size_toArray, iar.length]; exact len, rel⟩
  have tb : ∀ p ∈ cs, LamX.TabB (hidT s.heap H) mg p.1 p.2 := fun p hp => by
    have pt := tabs p hp
    refine ⟨?_, ?_, fun e => ?_⟩
    · obtain ⟨o, us, fl, tf, fg, tg, iF, tx, tt, g1, g2, g3, g4, g5⟩ := code p hp
      refine ⟨o, us, fl, tf, fg, tg, iF, tx, tt, hidT_get g1 (loose g1 (fun _ _ q => ?_) fun q => ?_), g2, g3, g4, g5⟩
      · rw [g3] at q
        cases q
      · rw [g3] at q
        cases q
        simp at g4
    · obtain ⟨b, ob, m1, m2, m3, m4, m5, m6⟩ := bm
      refine ⟨b, ob, m1, m2, fun e => ?_, fun e => ?_, hidT_get m3 (loose m3 (fun _ _ q => ?_) fun q => ?_), m4, m5, m6⟩
      · obtain ⟨o, es, ep, e1, d1, _⟩ := gl
        rw [e, e1] at m3
        cases m3
        rw [d1] at m6
        cases m6
      · rw [e, pt] at m3
        cases m3
        cases m6
      · rw [m6] at q
        cases q
      · rw [m6] at q
        cases q
    · obtain ⟨o, es, ep, e1, d1, _⟩ := gl
      rw [e, pt] at e1
      cases e1
      cases d1
  have limOn : (hidT s.heap H).NoLimit := by
    obtain ⟨mc, l1, l2⟩ := lim
    exact ⟨mc, nsOn l1, l2⟩
  have env : Env0 P w K mg (hidT s.heap H) callerA [] s H := ⟨rfl, ⟨kin', nsOn gl, ⟨mb, nsOn bi, boot⟩, limOn⟩, fun b o e => of_hidT e, Nat.le_of_eq (hidT_size _ _), trivial, fun b hb => absurd (show b ∈ ([] : List Addr) from hb) List.not_mem_nil, hok, .of_eq gens⟩
  refine codeAny_mono (run _ H tb env tabH sq) fun r s' z => ?_
  cases r with
  | error e => exact (show False from z).elim
  | ok fl =>
    cases fl with
    | next => exact (show False from z).elim
    | brk => exact (show False from z).elim
    | cont => exact (show False from z).elim
    | ret u =>
      obtain ⟨v, H', os, bare, un, hok', rv, ev⟩ := z
      have ev : v = .bl true := ev
      subst ev
      obtain rfl : u = Value.bool true := rv
      have grown : ∀ p ∈ cs, ∃ more : Array Value, s'.heap.get? p.2 = some { cls := .none, data := .fields more } := fun p hp => by
        obtain ⟨more, q⟩ := un.tbls p.2 #[] (tabH p hp)
        exact ⟨_, hok' p.2 _ q⟩
      have stays : ∀ b o, b ∉ cs.map (·.2) → s.heap.get? b = some o → s'.heap.get? b = some o := fun b o nb e => by
        cases q : H b with
        | none => exact un.keep b o e q (fun z => absurd (show b ∈ ([] : List Addr) from z) List.not_mem_nil) List.not_mem_nil
        | some u =>
          rcases some_ q with ⟨m, _⟩ | ⟨_, _, rfl⟩
          · exact absurd m nb
          · have e1 := (hok b _ q).1
            have e2 := (hok' b _ (un.frzs b _ _ q)).1
            rw [e] at e1
            rw [Option.some.inj e1]
            exact e2
      refine ⟨rfl, ⟨fun b o e => ?_, fun b o e => ?_⟩, os, bare⟩
      · by_cases m : b ∈ cs.map (·.2)
        · obtain ⟨p, hp, rfl⟩ := List.mem_map.mp m
          obtain ⟨more, hm⟩ := grown p hp
          rw [tabs p hp] at e
          cases e
          exact .inr (.inl ⟨((code p hp).tab (tabs p hp)).isCodeTable, rfl, #[], more, rfl, by rw [Array.empty_append]; exact hm⟩)
        · exact .inl (stays b o m e)
      · by_cases m : b ∈ cs.map (·.2)
        · obtain ⟨p, hp, rfl⟩ := List.mem_map.mp m
          obtain ⟨more, hm⟩ := grown p hp
          exact ⟨_, hm⟩
        · exact ⟨o, stays b o m e⟩
theorem walk_law0 {l : PySem.W.OpenLaw} {most : Nat} {prog : Program} {lo : List Str} {XP : (Str → Option Value) → Heap → Prop} {YP : World → Heap → Prop} {df : DefRec} {K : Params → PySem.W.Frag} (names : List Str)
    (h1 : l.most = some most) (h2 : most ≤ sizeLine) (h3 : df.params.defaults = []) (recs : (names.all fun nm => (recsOf prog).any fun r => r.name == nm) = true) (kin : ∀ (w : World) (h : Heap), YP w h → (K w.params).In h)
    (at_ : ∀ (w : World) (mg : Str → Option Value) (fa : Addr) (h : Heap), (K w.params).In h → h.Ns mainGlobals mg → mg df.name = some (.ref fa) → (∀ nm ∈ names, TabAt mg h nm) →
      ∃ cs : List (Addr × Addr), (∀ p ∈ cs, h.get? p.2 = some { cls := .none, data := .fields #[] }) ∧ (∀ p ∈ cs, (K w.params).lookup p.2 = none) ∧ (∀ p ∈ cs, PySem.W.CodeHd h p.1 p.2) ∧
        ∀ (s : Shared) (H : Hp) (base : Heap) (a : Addr) (ns : List Int), ns.length ≤ most → (∀ z ∈ ns, Builtin.Int.intBits z ≤ 1048576) → (∀ p ∈ cs, LamX.TabB base mg p.1 p.2) → Env0 l.prog w (K w.params) mg base callerA [] s H → (∀ p ∈ cs, H p.2 = some (.tbl #[])) → SqL (K w.params) H a (ns.map V.int) →
          codeAny (model l.prog w) callerA (.call (.ref fa) ⟨[.ref a], []⟩) (CR CX0 [] l.prog w H s (fun v _ => v = .bl true) E0) s) :
    PySem.W.WalkO prog lo XP YP l.row.toRowW df [] (fun f vs => PySem.call f vs) := by
  refine Att.attach_callB h1 h3 fun w s0 s mg mb fa o pm cd doc a vs ns Gr Y _ _ _ name ob iar len bits gens => ?_
  have tabs : ∀ nm ∈ names, TabAt mg s.heap nm := fun nm hm => by
    obtain ⟨r, hr, er⟩ := List.any_eq_true.mp (List.all_eq_true.mp recs nm hm)
    obtain ⟨x1, x2, x3, x4, x5, y1, y2, y3, y4, _, y6⟩ := Gr.T.tab r hr
    rw [beq_iff_eq.mp er] at y1
    exact ⟨x1, x2, x3, x4, x5, y1, y2, y3, y4, y6⟩
  obtain ⟨cs, t1, t2, t3, go⟩ := at_ w mg fa _ (kin w _ Y) Gr.T.g name tabs
  exact call_law (kin w _ Y) Gr.T.g Gr.T.b Gr.T.builtins Gr.T.nolimit gens t1 t2 t3 Gr.T.bmain ob iar (Nat.le_trans len h2) fun base H tb e0 th sq => go s H base a ns len bits tb e0 th sq

end My
namespace My
open PySem PySem.Spec PyProof.Rows L2
/-! ### repr of what is nested; a list of truths counted; raise X() -/
def rRepr (K : PySem.W.Frag) : List V → Hp → VK → Prop := fun xs H Q => ∃ (v : V) (d : PyData), xs = [v] ∧ Dp K H v d ∧ isDisplay d = true ∧ d.showable = true ∧ d.hasDict = false ∧ d.depth ≤ 50 ∧ d.shown.length ≤ sizeLine ∧ Q (.str d.shown) H
theorem call_repr {X : Cx} (none_ : X.A.guards = some []) (room : X.A.units + 64 < cLine) : CallR X (.builtin "repr") (rRepr X.K) := by
  intro pins s σ H xs us Q I r h
  obtain ⟨v, d, rfl, dp, disp, shw, nod, dep, len, q⟩ := h
  obtain ⟨u, rfl, ru⟩ := vals1 r
  obtain ⟨as, rd⟩ := Dp.reads I d v u dp ru
  obtain ⟨a, rfl⟩ := isRef_of_reads rd disp
  exact repr_of_reads' rd shw (PyData.noDict_hsm nod) none_ (by omega) (fun _ _ e => e) (fun h' t tk hk => ⟨.str d.shown, H, I.kept (t' := tk) hk, ⟨t, rfl⟩, q⟩) len
/-- l.count(True), l a list of truths -/
def rCntB (K : PySem.W.Frag) : V → List V → Hp → VK → Prop := fun x xs H Q => ∃ (p : Addr) (bs : List Bool) (b : Bool), x = .ref p ∧ xs = [.bl b] ∧ SqL K H p (bs.map V.bl) ∧ Q (.int (bs.count b : Nat)) H
def isB (b : Bool) : Value → Bool
  | .bool c => c == b
  | _ => false
theorem bools_of {b : Bool} : ∀ {bs : List Bool} {us : List Value}, Vals (bs.map V.bl) us → (∀ y ∈ us, ∃ c, y = .bool c) ∧ us.countP (isB b) = bs.count b
  | [], _, r => by
    cases r
    exact ⟨fun y h => (nomatch h), rfl⟩
  | c :: bs, _, r => by
    rw [List.map_cons] at r
    cases r with
    | @cons a u as us ru rr =>
      obtain ⟨h1, h2⟩ := bools_of (b := b) rr
      obtain rfl : u = Value.bool c := ru
      refine ⟨fun y hy => ?_, ?_⟩
      · rcases List.mem_cons.mp hy with e | e
        · exact ⟨c, e⟩
        · exact h1 y e
      · rw [List.countP_cons, List.count_cons, h2]
        rfl
theorem mt_countB {X : Cx} : MtR X "list.count" (rCntB X.K) := by
  intro pins s σ H x xs v us Q I rx rxs h
  obtain ⟨p, bs, b, rfl, rfl, sq, q⟩ := h
  obtain rfl : v = Value.ref p := rx
  obtain ⟨u, rfl, ru⟩ := rxs.one
  obtain rfl : u = Value.bool b := ru
  obtain ⟨its, rel, ⟨ob, n, hob, cls, dct, dat⟩, _⟩ := I.list sq
  obtain ⟨oc, od, odt, osl⟩ := ob
  simp only at cls dat
  subst cls dat
  obtain ⟨all, cnt⟩ := bools_of (b := b) rel
  refine call_meets PySem.F.slot_list_count ⟨_, hob, rfl⟩ PySem.F.entry_list_count (PySem.F.args_list_count_2 _ _) (SeqAt.list_countAt p its.toArray n od osl (.bool b) (isB b)) ⟨hob, fun y hy => ?_, ?_⟩
  · obtain ⟨c, rfl⟩ := all y (by simpa using hy)
    exact SeqAt.EqAt.bool_bool c b
  · refine ⟨.int (bs.count b : Nat), H, I.tok _, ⟨s.toks, ?_⟩, q⟩
    show Value.int ((its.toArray.toList.countP (isB b) : Nat) : Int) s.toks = Value.int ((bs.count b : Nat) : Int) s.toks
    rw [← cnt]
/-- raise X() -/
theorem pmk_own0 {X : Cx} {C : Addr} {x : Str} {p pos : Pos} (ex : PySem.W.excIn X.K C veB "ValueError.__new__" = true) (gC : X.mg x = some (.ref C)) (kC : PySem.W.keepIn X.K (.ref C) = true) (rs : Raises X (.ref C)) (gl : Gl X x) (dbg : (x == ("__debug__" : Str)) = false := by decide) :
    PMk X (.Call (.Name x p) [] [] pos) (fun _ H Q => Q (.ref C) none H) := by
  intro pins st σ H Q I q
  refine wpAny_Call_Name_kw (ld_glob I gl gC ?_ dbg)
  refine PySem.W.callWith_K0 I.kIn kC ?_
  obtain ⟨bm, N, nm, qn, bs, hdct, sn, sub, ab, col, dd, k0, k1, k2, k3, k5, mN, hC, hN, hni, OT⟩ := exc_obj I.kIn ex
  exact wpAny_call_exc_subT PySem.F.excBase_ValueError OT hC hN hni (fun h' a made => mk_of I made rs q (I.hok.gone made.new)) (Nat.zero_le _)
/-- isinstance of a kept exception -/
def rIsC (K : PySem.W.Frag) : List V → Hp → VK → Prop := fun xs H Q => ∃ (a C : Addr) (c : V) (cv : Value) (b : Bool), xs = [.ref a, c] ∧ H a = some (ExC (.ref C) none a) ∧ XcC K C ∧ ClsV c cv ∧ PySem.W.kitOne K (.ref C) cv = some b ∧ Q (.bl b) H
theorem call_isC {X : Cx} : CallR X (.builtin "isinstance") (rIsC X.K) := by
  intro pins st σ H xs us Q I r h
  obtain ⟨a, C, c, cv, b, rfl, at_, xc, kc, e, q⟩ := h
  obtain ⟨u1, u2, rfl, r1, r2⟩ := vals2 r
  obtain rfl : u1 = Value.ref a := r1
  obtain rfl := kc.eq r2
  obtain ⟨⟨oe, vs, ho, hz, hd⟩, _, _⟩ := I.hok a _ at_
  have inst : PySem.W.InstAt st.heap a oe C none := by
    refine ⟨ho, hz.1, ?_, ?_⟩
    · unfold PySem.W.notCls
      rw [hd]
    · rw [hz.2]
      trivial
  exact PySem.W.kia_one (PySem.W.kitx_exc xc.cl xc.hg xc.hk xc.hs xc.ha xc.hn xc.ht xc.hm) I.kIn inst e (fun z => nomatch z) fun tk => ⟨.bl b, H, I.kept (t' := tk) fun _ _ z => z, rfl, q⟩

/-! ### len(set(t)) of a tuple of whole numbers -/
def tLenSetT (K : PySem.W.Frag) (ta : TE) : TE := fun σ H Q => ta σ H fun x H1 => ∃ (p : Addr) (ns : List Int), x = .ref p ∧ SqT K H1 p (ns.map V.int) ∧ ns.length ≤ 1000 ∧ ∀ out : List Int, out.Nodup → (∀ k, k ∈ out ↔ k ∈ ns) → Q (.int (out.length : Nat)) H1
theorem pe_lenSetT {X : Cx} {a : Expr} {ta : TE} {p p2 q pos : Pos} (hc : X.calm = true) (hg : Gl X "len") (hm : X.mg "len" = none) (hg2 : Gl X "set") (hm2 : X.mg "set" = none) (ha : PE X a ta)
    (na : starEach [a] X.env = (false, eval a X.env) :: starEach [] X.env := by rfl) : PE X (.Call (.Name "len" p) [.Call (.Name "set" p2) [a] [] q] [] pos) (tLenSetT X.K ta) := by
  refine ⟨fun pins s σ H Q I h => ?_⟩
  refine Call_ (ld_blt I hg hm boot_len ?_)
  refine PyProof.Rows.callWith_builtin1 (PyProof.Rows.args_cons ?_ rfl) rfl rfl
  refine Call_ (ld_blt I hg2 hm2 boot_set ?_)
  refine PyProof.Rows.callWith_type1 (PyProof.Rows.args_cons (thn (ha.run pins s σ H _ I h) fun v s1 ⟨x, H1, I1, r1, q1⟩ => PyProof.Rows.args_nil ?_) na) na rfl
  obtain ⟨p0, ns, rfl, hq, hl, q1⟩ := q1
  cases r1
  obtain ⟨its, rv, pt, hz⟩ := I1.tuple hq
  have hi : IntsAre its.toArray.toList ns := ints_of_vals rv
  refine call_set_tupI ns (I1.ok.hd hc) (show s1.heap.IsTuple p0 its.toArray from pt) hi (by unfold scanBound; omega) fun h' tk c R1 hcn k => ?_
  refine PyProof.Rows.args_nil ?_
  obtain ⟨o, es, ep, t, ho, hex, hdt, g, nd, hm2, hb, hf, hn, hr, hl2⟩ := R1
  have I2 : Inv X pins σ H1 { s1 with heap := h', toks := tk } := I1.kept fun b o e => k b o e
  have z := q1 (es.toList.map keyOf) nd fun j => by rw [← hm2 j, decide_eq_true_eq]
  rw [List.length_map, Array.length_toList] at z
  exact call_len_set (s := { s1 with heap := h', toks := tk }) ho hex hdt hf (by rw [hn]; omega) ⟨.int es.size, H1, I2.tok _, ⟨_, rfl⟩, z⟩
/-! ### all of a generator expression, by a walk -/
theorem gturns_it {J : It} {n : Nat} {G : Hp → Prop} {Y : Nat → Hp → V → Hp → Prop} (wk : Walk J n G Y) {g : TG} {te : TE} {σw : L2.St} {vs : List Nat} {Q : Bool → Hp → Prop} {H : Hp} (Pv : Nat → Hp → Prop) (h0 : Pv 0 H) (hG : ∀ i H, i ≤ n → Pv i H → G H)
    (hs : ∀ (i : Nat) (x : V) (H H' : Hp) (N : Hp → Prop), i < n → Pv i H → Y i H x H' → (∀ H3, Pv (i + 1) H3 → N H3) → g x σw H' fun σ2 H2 => wipe σ2 vs = σw ∧ te σ2 H2 fun v H3 => ∃ b, v = .bl b ∧ if b = true then N H3 else Q false H3)
    (hd : ∀ H, Pv n H → Q true H) : ∃ W : Nat → Nat → Hp → Prop, (∃ m, W 0 m H) ∧ gTurns J g te σw vs W Q := by
  refine ⟨fun i m H => m = n - i ∧ i ≤ n ∧ Pv i H, ⟨n, rfl, Nat.zero_le _, h0⟩, fun i m H st => ?_⟩
  obtain ⟨em, le, pv⟩ := st
  have q := hG i H le pv
  rcases Nat.lt_or_eq_of_le le with lt | eq
  · refine .inr ⟨wk.goes i H lt q, fun v H' y => ?_⟩
    exact hs i v H H' _ lt pv (wk.yields i H v H' lt q y) fun H3 p' => ⟨n - (i + 1), by omega, rfl, lt, p'⟩
  · subst eq
    exact .inl ⟨wk.stops H q, hd H pv⟩
theorem walk_zipT {K : PySem.W.Frag} {a b : Addr} {xs ys : List V} {n : Nat} (hn : n = min xs.length ys.length) : Walk (RZ.ItzT K a b) n (fun H => SqT K H a xs ∧ SqT K H b ys) (YPair (fun i => xs[i]?) (fun i => ys[i]?)) := by
  subst hn
  refine ⟨fun i _ hi q => ?_, fun _ q => ⟨xs, ys, q.1, q.2, by omega⟩, fun i H v H' _ q y => ?_⟩
  · have h1 : i < xs.length := by omega
    have h2 : i < ys.length := by omega
    exact ⟨xs, ys, xs[i], ys[i], q.1, q.2, by simp [h1], by simp [h2]⟩
  · obtain ⟨T, x, z, h1, h2, h3, h4, h5⟩ := y
    exact ⟨T, x, z, h1, h2, h3, h4 xs q.1, h5 ys q.2⟩

/-! ### sep.join(reversed(a list of texts)) -/
theorem not_of {b : Bool} (h : (!b) = true) : b = false := by
  cases b
  · rfl
  · cases h
theorem gives_tail {sep : Str} : ∀ {rs : List (Str × Tok)}, JoinOk sep (rs.map (·.1)) = true → Gives (joinTail sep (strValues rs)) (joinMade sep rs)
  | [], ok => gives_joinTail sep [] (not_of ok)
  | [p], ok => gives_joinTail sep [p] (not_of ok)
  | p :: q :: r, ok => gives_joinTail sep (p :: q :: r) (not_of ok)
theorem join_rev {prog : Program} {w : World} {A : Around} {E : Value → Shared → Prop} {s : Shared} {sep : Str} {t : Tok} {Q : Value → Shared → Prop} {it l : Addr} {us : List (Str × Tok)} (hh : A.handled = none) (hit : s.heap.IsRevIter it l (((strValues us).toArray.size : Int) - 1))
    (hl : s.heap.IsList l (strValues us).toArray) (hne : l ≠ it) (hn : (strValues us).toArray.size ≤ sizeLine) (hok : JoinOk sep (us.map (·.1)).reverse = true)
    (hq : ∀ (h' : Heap) (t' : Tok) (k : Nat), (∀ b o, b ≠ it → s.heap.get? b = some o → h'.get? b = some o) → Q (.str (Txt.join sep (us.map (·.1)).reverse) t') { s with heap := h', toks := k }) :
    wpAny (model prog w) A (call (.builtin "str.join") [.str sep t, .ref it]) Q E s := by
  refine wpAny_call (codeAny_call_builtin F.slot_str_join.plain F.entry_str_join (F.slot_str_join.check _ _ _ _ _ _ _ _ (typeIs_str _ _ _) (F.args_str_join_2 _ _) ?_))
  rw [join_tree_other]
  have ty : s.TypeIs (.ref it) "list_reverseiterator" := hit.typeIs
  refine wpAny_bind (wpAny_typeOf ty ?_)
  show wpAny _ A.in1 ((pyIter (.ref it)).tryCatch _ >>= fun i2 => collect i2 >>= fun zs => joinTail sep zs) _ _ s
  refine wpAny_bind (wpAny_tryCatch (wpAny_pyIter_revIter hit ?_))
  refine wpAny_bind (RT.collect_rev (A := A.in1) hh hit hl hne hn fun h' tk acc hk hacc => ?_)
  have eacc : acc.toList = strValues us.reverse := by
    have e1 : strValues us.reverse = (strValues us).reverse := by
      unfold strValues
      rw [List.map_reverse]
    rw [e1]
    refine List.ext_getElem? fun j => ?_
    have sz : acc.size = (strValues us).length := by
      rw [hacc.1, List.size_toArray]
    by_cases hj : j < (strValues us).length
    · rw [List.getElem?_reverse hj]
      have hja : j < acc.size := by omega
      have z := hacc.2 j _ (Array.getElem?_eq_getElem hja)
      rw [List.size_toArray, List.getElem?_toArray] at z
      rw [z, Array.getElem?_toList, Array.getElem?_eq_getElem hja]
    · rw [List.getElem?_eq_none (by rw [Array.length_toList]; omega), List.getElem?_eq_none (by rw [List.length_reverse]; omega)]
  rw [eacc]
  have ok2 : JoinOk sep (us.reverse.map (·.1)) = true := by
    rw [List.map_reverse]
    exact hok
  have g := gives_tail ok2
  refine g prog w A (wants Q E) _ (post_join us.reverse ⟨joinFit_length (not_of ok2), fun t' k => ?_⟩)
  rw [List.map_reverse]
  exact hq h' t' k hk
def tJoinRev (K : PySem.W.Frag) (to te : TE) : TE := fun σ H Q => to σ H fun v H1 => ∃ sep : Str, v = .str sep ∧ te σ H1 fun u H2 => ∃ (a : Addr) (ws : List Str), u = .ref a ∧ SqL K H2 a (ws.map V.str) ∧ JoinOk sep ws.reverse = true ∧ Q (.str (Txt.join sep ws.reverse)) H2
theorem strs_at : ∀ {ws : List Str} {us : List Value}, Vals (ws.map V.str) us → ∃ l : List (Str × Tok), strValues l = us ∧ l.map (·.1) = ws
  | [], _, .nil => ⟨[], rfl, rfl⟩
  | x :: ws, _ :: us, .cons r rs => by
    obtain ⟨t, rfl⟩ := r
    obtain ⟨l, e1, e2⟩ := strs_at rs
    exact ⟨(x, t) :: l, by rw [← e1]; rfl, by rw [← e2]; rfl⟩
theorem pe_joinRev {X : Cx} {o e : Expr} {to te : TE} {apos cpos p2 pos2 : Pos} (hc : X.calm = true) (ho : PE X o to) (hg2 : Gl X "reversed") (hm2 : X.mg "reversed" = none) (he : PE X e te)
    (hbase : attributeBase o "join" X.env (eval o X.env) = eval o X.env := by rfl)
    (hfew : ((backTo cpos (starEach [.Call (.Name "reversed" p2) [e] [] pos2] X.env)).all (fun x => !x.1) && (backToKw cpos (keywordEach [] X.env)).all (fun x => x.1.isSome)
      && decide (([.Call (.Name "reversed" p2) [e] [] pos2] : List Expr).length + ([] : List Keyword).length + (if ([] : List Keyword).isEmpty then 0 else 1) < 30)) = true := by rfl)
    (hline : (apos.endLine == cpos.line) = true := by rfl) (hs1 : starEach [e] X.env = (false, eval e X.env) :: starEach [] X.env := by rfl)
    (hs2 : starEach [.Call (.Name "reversed" p2) [e] [] pos2] X.env = (false, eval (.Call (.Name "reversed" p2) [e] [] pos2) X.env) :: starEach [] X.env := by rfl) (hpl : (backTo cpos (starEach [] X.env)).any (·.1) = false := by rfl) :
    PE X (.Call (.Attribute o "join" apos) [.Call (.Name "reversed" p2) [e] [] pos2] [] cpos) (tJoinRev X.K to te) := by
  constructor
  intro pins s σ H Q I h
  refine wpAny_Call_method_late hbase hfew hline rfl (thn (ho.run pins s σ H _ I h) fun v s1 z => ?_)
  obtain ⟨x', H1, I1, r1, sep, rfl, q1⟩ := z
  obtain ⟨tk, rfl⟩ := (show ∃ t, v = Value.str sep t from r1)
  refine ⟨"str", _, PySem.F.plainAttrs_str, PySem.F.slot_str_join, PySem.F.type_str_join, typeIs_str _ _ _, (fun _ z => nomatch z), ?_⟩
  rw [hs2]
  refine Calls.callWith_builtin (by show (false || (backTo cpos (starEach [] X.env)).any (·.1)) = false; rw [hpl]; rfl) (Calls.evalArgs_plain ?_)
  show wpAny _ _ (spliced ((false, eval (.Call (.Name "reversed" p2) [e] [] pos2) X.env) :: backTo cpos (starEach [] X.env))) _ _ s1
  refine Calls.spliced_cons (Call_ (ld_blt I1 hg2 hm2 PyProof.Rows.boot_reversed (PyProof.Rows.callWith_type1 (args_cons (thn (he.run pins s1 σ H1 _ I1 q1) fun u s2 z => args_nil ?_) hs1) hs1 rfl)))
  obtain ⟨y, H2, I2, r2, a, ws, rfl, sq, jok, q⟩ := z
  obtain rfl : u = Value.ref a := r2
  obtain ⟨its, rv, p', hz⟩ := I2.list sq
  obtain ⟨us, e1, e2⟩ := strs_at rv
  refine call_reversed_list p'.isList (Calls.spliced_nil ?_)
  obtain ⟨f0, f1, f2, f3, f4, f5⟩ := I2.fpOk (H' := H2) (b := s2.heap.objs.size) (Nat.le_refl _) (I2.hok.fresh (Nat.le_refl _))
  have hl := p'.isList
  obtain ⟨ol, hol, _⟩ := id hl
  have hne : a ≠ s2.heap.objs.size := Nat.ne_of_lt (Heap.lt_size hol)
  have hn : its.toArray.size ≤ sizeLine := by
    rw [List.size_toArray, ← rv.length]
    exact hz
  subst e1 e2
  have I3 : Inv X pins σ H2 { s2 with heap := s2.heap.push (revObj a (((strValues us).toArray.size : Int) - 1)) } := I2.kept (t' := s2.toks) fun b o e => Heap.get?_push_of_some _ e
  refine join_rev (s := { s2 with heap := s2.heap.push (revObj a (((strValues us).toArray.size : Int) - 1)) }) (I2.ok.hd hc) ⟨_, Heap.get?_push_size _ rfl, rfl, rfl⟩ (hl.push _) hne hn jok fun h' t' k hk => ?_
  have I4 : Inv X pins σ H2 { s2 with heap := h', toks := k } := I3.turned (t' := k) (fun b o hb e => hk b o hb e) f0 f1 f3 f4 f5
  exact ⟨.str _, H2, I4, ⟨t', rfl⟩, q⟩

/-! ### str of an int or of a text -/
theorem call_strA {X : Cx} : CallR X (.type "str") (fun xs H Q => (∃ i : Int, xs = [.int i] ∧ i.natAbs.log2 < 1920 ∧ Q (.str (Str.ofString (toString i))) H) ∨ ∃ a : Str, xs = [.str a] ∧ Q (.str a) H) := by
  intro pins s σ H xs us Q I r h
  rcases h with ⟨i, rfl, hl, q⟩ | ⟨a, rfl, q⟩
  · exact call_str_int pins s σ H _ us Q I r ⟨i, rfl, hl, q⟩
  · exact SkE.call_str_str pins s σ H _ us Q I r ⟨a, rfl, q⟩

end My
namespace My
open PySem PySem.Spec PyProof.Rows L2
/-! ### x, *ys = a tuple -/
theorem items_star {prog : Program} {w : World} {A : Around} {E : Value → Shared → Prop} {s : Shared} {l : Addr} {items : Array Value} {x : Value} {xs : List Value} {Q : List Value → Shared → Prop} (hl : s.heap.IsTuple l items) (hh : A.handled = none) (hx : items.toList = x :: xs) (hz : items.size ≤ 16384)
    (h : ∀ h' tk, Heap.ExtBut s.heap.objs.size s.heap h' → Q [x, .ref h'.objs.size] { s with heap := h'.push { cls := .type "list", data := .seq xs.toArray }, toks := tk }) : wpAny (model prog w) A (unpackItems (.ref l) 2 (some 1)) Q E s := by
  have hs : items.size = xs.length + 1 := by
    rw [← Array.length_toList, hx]
    rfl
  have hlt : l ≠ s.heap.objs.size := by obtain ⟨o, ho, _⟩ := hl; exact Nat.ne_of_lt (Heap.lt_size ho)
  unfold unpackItems
  refine wpAny_bind ?_
  unfold notIterableAtAll
  refine wpAny_bind (wpAny_specialOf hl.typeIs PySem.F.slot_tuple_iter.lookup ?_)
  refine wpAny_pure ?_
  simp only [Bool.false_eq_true, if_false]
  refine wpAny_bind (wpAny_holding (iter_tuple hl ?_))
  refine wpAny_bind (wpAny_holding (draw_tuple hlt 1 0 _ _ ⟨_, Heap.get?_push_size _ rfl, rfl, rfl⟩ (hl.push _) (by omega) fun h₁ hit₁ hs₁ => ?_))
  have hl₁ : h₁.IsTuple l items := (hl.push _).extBut hs₁.extBut hlt
  rw [Nat.zero_add] at hit₁
  have hit₁' := hit₁
  obtain ⟨oi, hoi, _⟩ := hit₁'
  have hl₁' := hl₁
  obtain ⟨ol, hol, _⟩ := hl₁'
  rw [List.drop_zero]
  have e1 : items.toList.take 1 = [x] := by rw [hx]; rfl
  rw [e1]
  rw [if_neg (show ¬ (([x] : List Value).length < 1) from Nat.lt_irrefl 1)]
  refine wpAny_bind (wpAny_holding (PySem.W.kun_collect (s := { s with heap := h₁ }) (T := "tuple_iterator") (.inr (.inr (.inr rfl))) (Walks.tuple (A := A.in1) hh s.heap.objs.size l hlt items) (fun j u st => st.1.typeIs) (k := 1) (by omega) ⟨hit₁, hl₁⟩ (Heap.lt_size hoi) (Heap.lt_size hol) (fun h₂ tk hk => ?_) (by rw [sizeLine_eq]; omega)))
  have e2 : items.toList.drop 1 = xs := by rw [hx]; rfl
  rw [e2]
  show wpAny _ _ (if xs.length < 2 - 1 - 1 then _ else _) _ _ _
  rw [if_neg (by omega)]
  have he : Heap.ExtBut s.heap.objs.size s.heap h₂ := fun b o hb e => hk b o hb (hs₁.extBut b o hb (Heap.get?_push_of_some _ e))
  refine wpAny_bind (wpAny_newList ?_ ?_)
  · refine wpAny_pure ?_
    show Q ([x] ++ [Value.ref h₂.objs.size] ++ List.drop (xs.length - (2 - 1 - 1)) xs) _
    have e3 : List.take (xs.length - (2 - 1 - 1)) xs = xs := List.take_of_length_le (by omega)
    have e4 : List.drop (xs.length - (2 - 1 - 1)) xs = [] := List.drop_of_length_le (by omega)
    rw [e4]
    have := h h₂ tk he
    simp only [e3]
    exact this
  · rw [List.length_take, sizeLine_eq]
    omega
section
variable {X : Cx} {pos : Pos}
theorem pgs_star {e : Expr} {es : List Expr} {sp : Pos} {t : TG} {u : TGs} (h1 : PG X e t) (h2 : PGs X es u)
    (hs : (assignEach (.Starred e sp :: es) X.env).map (·.2) = assign e X.env :: (assignEach es X.env).map (·.2) := by rfl) : PGs X (.Starred e sp :: es) (gCons t u) := by
  refine ⟨fun pins s σ H vs us Q I r h => ?_⟩
  obtain ⟨v, vr, e1, h⟩ := h
  subst e1
  cases r with
  | cons r rr =>
    rw [hs]
    refine assignInOrder_cons (thn (h1.run pins s σ H _ _ _ I r h) fun _ s1 ⟨σ1, H1, I1, q1⟩ => ?_)
    exact h2.run pins s1 σ1 H1 _ _ Q I1 rr q1
def gStar (K : PySem.W.Frag) (t : TGs) : TG := fun v σ H Q => ∃ a x xs, v = .ref a ∧ SqT K H a (x :: xs) ∧ xs.length ≤ 1000 ∧ ∀ l, H l = none → t [x, .ref l] σ (upd H l (.lst xs)) Q
theorem pg_star {es : List Expr} {k : Nat} {t : TGs} (hc : X.calm = true) (h : PGs X es t)
    (hn : (assignEach es X.env).length = 2 := by rfl) (hst : (assignEach es X.env).findIdx? (·.1) = some 1 := by rfl) : PG X (.Tuple es k pos) (gStar X.K t) := by
  refine ⟨fun pins s σ H v u Q I r hw => ?_⟩
  obtain ⟨a, x, xs, e1, hq, hl, hw⟩ := hw
  subst e1
  cases r
  obtain ⟨its, rv, ht, hz⟩ := I.tuple hq
  cases rv with
  | cons r1 rr =>
    rename_i u1 us
    have hus : xs.length = us.length := rr.length
    rw [PyProof.Rows.assign_Tuple]
    refine wpAny_bind (wpAny_standAt ?_)
    unfold unpack
    rw [hn, hst]
    refine wpAny_bind (wpAny_holding (items_star (x := u1) (xs := us) ht (I.ok.hd hc) (by simp) (by simp; omega) fun h' tk hx => ?_))
    have I1 : Inv X pins σ H { s with heap := h', toks := tk } := I.kept (t' := tk) fun b o e => hx b o (Nat.ne_of_lt (Heap.lt_size e)) e
    have I2 := I1.laid (t' := tk) (o := .lst xs) (h' := h'.push { cls := .type "list", data := .seq us.toArray }) (fun b ob q => Heap.get?_push_of_some _ q) (Nat.le_refl _) ⟨Nat.le_trans hl (by decide), us, 0, rr, Heap.get?_push_size _ rfl⟩
    exact h.run pins _ σ _ _ _ Q I2 (.cons r1 (.cons (show L2.RelV (.ref h'.objs.size) (.ref h'.objs.size) from rfl) .nil)) (hw _ (I1.hok.fresh (Nat.le_refl _)))
/-- a op1 b op2 c op3 d -/
def tChain3 (r r' r'' : R2) (ta tb tc td : TE) : TE := fun σ H Q => ta σ H fun x H1 => tb σ H1 fun y H2 => r x y H2 fun z H3 => ∃ k, z = .bl k ∧
  (if k = true then tc σ H3 fun w' H4 => r' y w' H4 fun z2 H5 => ∃ k2, z2 = .bl k2 ∧ (if k2 = true then td σ H5 fun u H6 => r'' w' u H6 Q else Q (.bl false) H5) else Q (.bl false) H3)
theorem pe_chain3 {a b c d : Expr} {ta tb tc td : TE} {op op' op'' : CmpOp} {r r' r'' : R2} (ho : OpR X (compareOp op) r) (ho' : OpR X (compareOp op') r') (ho'' : OpR X (compareOp op'') r'') (ha : PE X a ta) (hb : PE X b tb) (hc : PE X c tc) (hd : PE X d td)
    (hm : lastMarks [op, op', op''] [b, c, d] = false := by with_unfolding_all rfl) : PE X (.Compare a [op, op', op''] [b, c, d] pos) (tChain3 r r' r'' ta tb tc td) := by
  refine ⟨fun pins s σ H Q I h => ?_⟩
  refine Compare_chain (thn (ha.run pins s σ H _ I h) fun v s1 ⟨x, H1, I1, r1, q1⟩ => chain_link (thn (hb.run pins s1 σ H1 _ I1 q1) fun u s2 ⟨y, H2, I2, r2, q2⟩ =>
    thn (ho pins s2 σ H2 x y v u _ I2 r1 r2 q2) fun d s3 ⟨z, H3, I3, r3, k, e, q3⟩ => ?_)) hm
  subst e
  cases r3
  refine wpAny_truthy_bool ?_
  cases k with
  | false => exact ite_ff ⟨.bl false, H3, I3, rfl, q3⟩
  | true =>
    refine ite_tt (chain_link (thn (hc.run pins s3 σ H3 _ I3 q3) fun w' s4 ⟨z', H4, I4, r4, q4⟩ => thn (ho' pins s4 σ H4 y z' u w' _ I4 r2 r4 q4) fun d' s5 ⟨z5, H5, I5, r5, k5, e5, q5⟩ => ?_))
    subst e5
    cases r5
    refine wpAny_truthy_bool ?_
    cases k5 with
    | false => exact ite_ff ⟨.bl false, H5, I5, rfl, q5⟩
    | true => exact ite_tt (chain_last (thn (hd.run pins s5 σ H5 _ I5 q5) fun u6 s6 ⟨z6, H6, I6, r6, q6⟩ => ho'' pins s6 σ H6 z' z6 w' u6 Q I6 r4 r6 q6))
end
theorem op_ltTK {X : Cx} {K : PySem.W.Frag} (hK : X.K = K) (hu : X.A.units < cLine) : OpR X (compareOp .Lt) (rLtT K) := by
  subst hK
  exact op_ltT hu

end My
namespace My
open PySem L2
inductive Sl | pt | oth | num | plc | knd
  deriving DecidableEq
def fit : Sl → V → Prop
  | .pt, v => ∃ i, v = .int i
  | .oth, v => v = .non ∨ ∃ i, v = .int i
  | .num, v => ∃ i, v = .int i
  | .plc, v => ∃ i : Int, v = .int i ∧ 0 ≤ i
  | .knd, v => ∃ k, v = .str k ∧ k ∈ kinds
inductive FitAll : List Sl → List V → Prop
  | nil : FitAll [] []
  | cons {s : Sl} {v : V} {ss : List Sl} {vs : List V} : fit s v → FitAll ss vs → FitAll (s :: ss) (v :: vs)
def forms : List (Str × List Sl) := [("new", [.num, .knd]), ("put", [.pt, .num]), ("paint", [.pt, .knd]), ("tie", [.pt, .pt]), ("cut", [.pt, .pt]), ("add", [.pt, .pt, .num]), ("spread", [.pt, .oth, .num]),
  ("joined", [.pt, .pt]), ("way", [.pt, .pt]), ("total", [.pt, .pt]), ("many", [.pt, .pt]), ("most", [.pt, .pt]), ("first", [.pt, .pt, .knd]), ("reach", [.pt, .pt, .num]), ("kth", [.pt, .pt, .plc]), ("meet", [.pt, .pt, .pt]), ("sum", [.pt, .oth]), ("size", [.pt, .oth]), ("top", [.pt, .oth]), ("least", [.pt, .oth, .knd])]
def evs : List Str := ["new", "put", "paint", "tie", "cut", "add", "spread", "joined", "way", "total", "many", "most", "first", "reach", "kth", "meet", "sum", "size", "top", "least"]

/-! ### a written dict from texts to tuples of texts -/
def formB (K : PySem.W.Frag) : List DictEntry → List (Str × List Str) → Bool
  | [], [] => true
  | e :: es, f :: fs => e.key.isStr f.1 && ((match e.val with | .ref a => tupB K a f.2 | _ => false) && formB K es fs)
  | _, _ => false
theorem isStr_key {v : Value} {x : Str} (h : v.isStr x = true) : ∃ t, v = .str x t := by
  cases v with
  | str y t =>
    have e : (y == x) = true := h
    exact ⟨t, by rw [beq_iff_eq.mp e]⟩
  | _ => exact nomatch h
theorem formB_ns {K : PySem.W.Frag} : ∀ {es : List DictEntry} {fs : List (Str × List Str)}, formB K es fs = true → es.any (·.refKey) = false ∧ ∀ z : Str, match fs.lookup z with
    | none => es.find? (·.key.isStr z) = none
    | some ws => ∃ e a, es.find? (·.key.isStr z) = some e ∧ e.val = .ref a ∧ tupB K a ws = true
  | [], [], _ => ⟨rfl, fun _ => rfl⟩
  | [], _ :: _, h => nomatch h
  | _ :: _, [], h => nomatch h
  | e :: es, f :: fs, h => by
    unfold formB at h
    rw [Bool.and_eq_true, Bool.and_eq_true] at h
    obtain ⟨h1, h2, h3⟩ := h
    obtain ⟨r1, r2⟩ := formB_ns h3
    obtain ⟨t, ek⟩ := isStr_key h1
    refine ⟨?_, fun z => ?_⟩
    · rw [List.any_cons, r1, Bool.or_false]
      obtain ⟨hs, k, v⟩ := e
      dsimp only at ek
      subst ek
      rfl
    · have q := r2 z
      rw [List.lookup_cons, List.find?_cons]
      by_cases ez : z = f.1
      · subst ez
        rw [beq_self_eq_true]
        dsimp only
        rw [h1]
        dsimp only
        cases ev : e.val with
        | ref a =>
          rw [ev] at h2
          exact ⟨e, a, rfl, ev, h2⟩
        | _ =>
          rw [ev] at h2
          exact nomatch h2
      · have e1 : (z == f.1) = false := beq_eq_false_iff_ne.mpr ez
        have e2 : e.key.isStr z = false := by
          rw [ek]
          show (f.1 == z) = false
          exact beq_eq_false_iff_ne.mpr fun y => ez y.symm
        rw [e1, e2]
        dsimp only
        exact q
theorem formB_get {K : PySem.W.Frag} {d : Addr} {c : Value} {od : Option Addr} {es : Array DictEntry} {n : Nat} {sl : Array (Option Value)} {fs : List (Str × List Str)} (hl : K.lookup d = some ⟨c, od, .dict es n, sl⟩) (h : formB K es.toList fs = true) (z : Str) :
    match fs.lookup z with
    | none => PySem.W.nsIn K d z = some none
    | some ws => ∃ a, PySem.W.nsIn K d z = some (some (.ref a)) ∧ tupB K a ws = true := by
  obtain ⟨r1, r2⟩ := formB_ns h
  have q := r2 z
  unfold PySem.W.nsIn
  rw [hl]
  cases e : fs.lookup z with
  | none =>
    rw [e] at q
    dsimp only at q ⊢
    rw [q]
    dsimp only
    rw [r1]
    rfl
  | some ws =>
    rw [e] at q
    obtain ⟨en, a, h1, h2, h3⟩ := q
    refine ⟨a, ?_, h3⟩
    dsimp only
    rw [h1]
    dsimp only
    rw [h2]
/-! ### anything -/
inductive AnyV (H : Hp) : V → Prop
  | non : AnyV H .non
  | bl (b : Bool) : AnyV H (.bl b)
  | int (i : Int) : AnyV H (.int i)
  | str (x : Str) : AnyV H (.str x)
  | tup {a : Addr} {xs : List V} (h : H a = some (.tup xs)) : AnyV H (.ref a)
  | lst {a : Addr} {xs : List V} (h : H a = some (.lst xs)) : AnyV H (.ref a)
  | dK {a : Addr} {kvs : List (Key × V)} (h : H a = some (.dK kvs)) : AnyV H (.ref a)
/-- all but tables of code objects stays -/
def Kp (H H' : Hp) : Prop := ∀ a o, H a = some o → (∀ ps, o ≠ .tbl ps) → H' a = some o
theorem Kp.refl (H : Hp) : Kp H H := fun _ _ e _ => e
theorem Kp.trans {H H1 H2 : Hp} (x : Kp H H1) (y : Kp H1 H2) : Kp H H2 := fun a o e n => y a o (x a o e n) n
theorem Kp.of_same {H H' : Hp} (s : Same H H') : Kp H H' := fun a o e _ => s a o e
theorem Kp.of_tab {H H' : Hp} {P : Addr} (g : GxR.TabG H P) (t : GxR.Tabbed P H H') : Kp H H' := fun a o e n => by
  by_cases h : a = P
  · subst h
    obtain ⟨ps, hp, _⟩ := g
    rw [hp] at e
    exact absurd (Option.some.inj e).symm (n ps)
  · rw [t.2 a h]
    exact e
theorem AnyV.kp {H H' : Hp} (k : Kp H H') {v : V} (h : AnyV H v) : AnyV H' v := by
  cases h with
  | non => exact .non
  | bl b => exact .bl b
  | int i => exact .int i
  | str x => exact .str x
  | tup h => exact .tup (k _ _ h (by intro ps z; cases z))
  | lst h => exact .lst (k _ _ h (by intro ps z; cases z))
  | dK h => exact .dK (k _ _ h (by intro ps z; cases z))
/-- isinstance with int, bool, str, tuple -/
def isIntV : V → Bool
  | .bl _ => true
  | .int _ => true
  | _ => false
def isBoolV : V → Bool
  | .bl _ => true
  | _ => false
def isStrV : V → Bool
  | .str _ => true
  | _ => false
theorem int_ok {K : PySem.W.Frag} {H : Hp} {v : V} (h : AnyV H v) : ∃ t, TyX K H v t ∧ PySem.W.kitOne K t (.type "int") = some (isIntV v) := by
  cases h with
  | non => exact ⟨_, .base .non, kit_ty (show kitB _ _ = some false by decide +kernel)⟩
  | bl b => exact ⟨_, .base (.bl b), kit_ty (show kitB _ _ = some true by decide +kernel)⟩
  | int i => exact ⟨_, .base (.int i), kit_ty (show kitB _ _ = some true by decide +kernel)⟩
  | str x => exact ⟨_, .base (.str x), kit_ty (show kitB _ _ = some false by decide +kernel)⟩
  | tup h => exact ⟨_, .base (.tup h), kit_ty (show kitB _ _ = some false by decide +kernel)⟩
  | lst h => exact ⟨_, .base (.lst h), kit_ty (show kitB _ _ = some false by decide +kernel)⟩
  | dK h => exact ⟨_, .base (.dK h), kit_ty (show kitB _ _ = some false by decide +kernel)⟩
theorem bool_ok {K : PySem.W.Frag} {H : Hp} {v : V} (h : AnyV H v) : ∃ t, TyX K H v t ∧ PySem.W.kitOne K t (.type "bool") = some (isBoolV v) := by
  cases h with
  | non => exact ⟨_, .base .non, kit_ty (show kitB _ _ = some false by decide +kernel)⟩
  | bl b => exact ⟨_, .base (.bl b), kit_ty (show kitB _ _ = some true by decide +kernel)⟩
  | int i => exact ⟨_, .base (.int i), kit_ty (show kitB _ _ = some false by decide +kernel)⟩
  | str x => exact ⟨_, .base (.str x), kit_ty (show kitB _ _ = some false by decide +kernel)⟩
  | tup h => exact ⟨_, .base (.tup h), kit_ty (show kitB _ _ = some false by decide +kernel)⟩
  | lst h => exact ⟨_, .base (.lst h), kit_ty (show kitB _ _ = some false by decide +kernel)⟩
  | dK h => exact ⟨_, .base (.dK h), kit_ty (show kitB _ _ = some false by decide +kernel)⟩
theorem str_ok {K : PySem.W.Frag} {H : Hp} {v : V} (h : AnyV H v) : ∃ t, TyX K H v t ∧ PySem.W.kitOne K t (.type "str") = some (isStrV v) := by
  cases h with
  | non => exact ⟨_, .base .non, kit_ty (show kitB _ _ = some false by decide +kernel)⟩
  | bl b => exact ⟨_, .base (.bl b), kit_ty (show kitB _ _ = some false by decide +kernel)⟩
  | int i => exact ⟨_, .base (.int i), kit_ty (show kitB _ _ = some false by decide +kernel)⟩
  | str x => exact ⟨_, .base (.str x), kit_ty (show kitB _ _ = some true by decide +kernel)⟩
  | tup h => exact ⟨_, .base (.tup h), kit_ty (show kitB _ _ = some false by decide +kernel)⟩
  | lst h => exact ⟨_, .base (.lst h), kit_ty (show kitB _ _ = some false by decide +kernel)⟩
  | dK h => exact ⟨_, .base (.dK h), kit_ty (show kitB _ _ = some false by decide +kernel)⟩
/-! ### rows by their form -/
def wholeB : V → Bool
  | .int _ => true
  | _ => false
def kindB : V → Bool
  | .str k => decide (k ∈ kinds)
  | _ => false
def fitB : Sl → V → Bool
  | .knd, v => kindB v
  | .oth, v => decide (v = .non) || wholeB v
  | .plc, .int i => decide (0 ≤ i)
  | .plc, _ => false
  | _, v => wholeB v
def slT : Sl → Str
  | .pt => "point"
  | .oth => "other"
  | .num => "number"
  | .plc => "place"
  | .knd => "kind"
def fitsB : List Sl → List V → Bool
  | [], [] => true
  | s :: ss, v :: vs => fitB s v && fitsB ss vs
  | _, _ => false
theorem fits_len : ∀ {ss : List Sl} {vs : List V}, vs.length ≠ ss.length → fitsB ss vs = false
  | [], [], h => absurd rfl h
  | [], _ :: _, _ => rfl
  | _ :: _, [], _ => rfl
  | s :: ss, v :: vs, h => by
    show (fitB s v && fitsB ss vs) = false
    rw [fits_len (ss := ss) (vs := vs) fun z => h (by rw [List.length_cons, List.length_cons, z]), Bool.and_false]
theorem drop_at {α : Type} {xs : List α} {i : Nat} {x : α} (h : xs[i]? = some x) : xs.drop i = x :: xs.drop (i + 1) := by
  obtain ⟨hl, e⟩ := List.getElem?_eq_some_iff.mp h
  rw [List.drop_eq_getElem_cons hl, e]
def rowB : List V → Bool
  | .str w :: ps => (match forms.lookup w with | some sl => fitsB sl ps | none => false)
  | _ => false
def formsT : List (Str × List Str) := forms.map fun f => (f.1, f.2.map slT)
theorem formsT_lookup (z : Str) : formsT.lookup z = (forms.lookup z).map fun sl => sl.map slT := by
  have g : ∀ l : List (Str × List Sl), (l.map fun f => (f.1, f.2.map slT)).lookup z = (l.lookup z).map fun sl => sl.map slT := by
    intro l
    induction l with
    | nil => rfl
    | cons f r ih =>
      obtain ⟨a, b⟩ := f
      rw [List.map_cons, List.lookup_cons, List.lookup_cons]
      cases e : z == a with
      | true => rfl
      | false => exact ih
  exact g forms
/-- a def by its body, its code object known -/
theorem okC {P : Program} {w : World} {K : PySem.W.Frag} {mg : Str → Option Value} {base : Heap} {x qual : Str} {st : Stmt} {f c : Addr} {fd : FuncData} {N ps : List Str} {k : Nat} {sp : Sp} (F : Fun K x qual st f fd) (hcd : fd.code = .ref c) (S : FnScope N ps (defScope st))
    (len : ∀ vs H Q E, sp vs H Q E → vs.length = ps.length)
    (body : ∀ (A : Around) (outer : List Env) (s : Shared) (H : Hp) (vs : List V) (Q : VK) (E : XK), Room k (A.deeper (PyProof.Rows.envOfC qual (defScope st) s.heap.objs.size f (.ref c))) → sp vs H Q E →
      ∃ t, PSs (cxOf CX0 P w K mg base N qual (defScope st) f (.ref c) A outer s H E).nox (defBody st) t ∧ t { nx := fun _ H' => Q .non H', rt := Q } (start N vs) H) : FnOk P w K mg base CX0 (k + 1) f fd ps sp := by
  obtain ⟨oc, od, kV, doc, pm, an, cdv, ct, osl, rfl, lk, hc⟩ := F.ex
  have e : cdv = .ref c := hcd
  subst e
  refine fn_of lk hc S len fun A outer s H vs Q E hr hsp => ?_
  obtain ⟨t, h, q⟩ := body A outer s H vs Q E hr hsp
  exact ⟨t, h.nox, q⟩

end My
namespace My
open PySem L2
/-! ### ties, ways, what is joined -/
abbrev Ties := List (Int × Int)
/-- a and b are a tied pair, either way about -/
def Adj (ts : Ties) (a b : Int) : Prop := (a, b) ∈ ts ∨ (b, a) ∈ ts
theorem Adj.symm {ts : Ties} {a b : Int} (h : Adj ts a b) : Adj ts b a := h.elim .inr .inl
theorem Adj.mono {ts us : Ties} {a b : Int} (s : ∀ t ∈ ts, t ∈ us) (h : Adj ts a b) : Adj us a b := h.imp (s _) (s _)
inductive Rch (ts : Ties) (a : Int) : Int → Prop
  | refl : Rch ts a a
  | step {b c : Int} : Rch ts a b → Adj ts b c → Rch ts a c
theorem Rch.trans {ts : Ties} {a b c : Int} (h : Rch ts a b) (g : Rch ts b c) : Rch ts a c := by
  induction g with
  | refl => exact h
  | step _ e ih => exact .step ih e
theorem Rch.one {ts : Ties} {a b : Int} (h : Adj ts a b) : Rch ts a b := .step .refl h
theorem Rch.symm {ts : Ties} {a b : Int} (h : Rch ts a b) : Rch ts b a := by
  induction h with
  | refl => exact .refl
  | step _ e ih => exact (Rch.one e.symm).trans ih
theorem Rch.mono {ts us : Ties} {a b : Int} (s : ∀ t ∈ ts, t ∈ us) (h : Rch ts a b) : Rch us a b := by
  induction h with
  | refl => exact .refl
  | step _ e ih => exact .step ih (e.mono s)
/-- gone along ties -/
inductive Wlk (ts : Ties) : Int → Int → List Int → Prop
  | one (a : Int) : Wlk ts a a [a]
  | cons {a b c : Int} {l : List Int} : Adj ts a b → Wlk ts b c l → Wlk ts a c (a :: l)
theorem Wlk.mono {ts us : Ties} (s : ∀ t ∈ ts, t ∈ us) {a b : Int} {l : List Int} (h : Wlk ts a b l) : Wlk us a b l := by
  induction h with
  | one a => exact .one a
  | cons e _ ih => exact .cons (e.mono s) ih
theorem Wlk.rch {ts : Ties} {a b : Int} {l : List Int} (h : Wlk ts a b l) : Rch ts a b := by
  induction h with
  | one a => exact .refl
  | cons e _ ih => exact (Rch.one e).trans ih
theorem Wlk.ne_nil {ts : Ties} {a b : Int} {l : List Int} (h : Wlk ts a b l) : l ≠ [] := by
  cases h <;> exact List.cons_ne_nil _ _
theorem Wlk.head {ts : Ties} {a b : Int} {l : List Int} (h : Wlk ts a b l) : l.head? = some a := by
  cases h <;> rfl
theorem Wlk.mem_a {ts : Ties} {a b : Int} {l : List Int} (h : Wlk ts a b l) : a ∈ l := by
  cases h <;> exact List.mem_cons_self
theorem Wlk.mem_b {ts : Ties} {a b : Int} {l : List Int} (h : Wlk ts a b l) : b ∈ l := by
  induction h with
  | one a => exact List.mem_cons_self
  | cons _ _ ih => exact List.mem_cons_of_mem _ ih
theorem Wlk.snoc {ts : Ties} {a b c : Int} {l : List Int} (h : Wlk ts a b l) (e : Adj ts b c) : Wlk ts a c (l ++ [c]) := by
  induction h with
  | one a => exact .cons e (.one c)
  | cons e' _ ih => exact .cons e' (ih e)
theorem Wlk.rev {ts : Ties} {a b : Int} {l : List Int} (h : Wlk ts a b l) : Wlk ts b a l.reverse := by
  induction h with
  | one a => exact .one a
  | cons e _ ih =>
    rw [List.reverse_cons]
    exact ih.snoc e.symm
/-- every point of it is joined with the first -/
theorem Wlk.rch_of_mem {ts : Ties} {a b : Int} {l : List Int} (h : Wlk ts a b l) : ∀ x ∈ l, Rch ts a x := by
  induction h with
  | one a =>
    intro x m
    rw [List.mem_singleton.mp m]
    exact .refl
  | cons e _ ih =>
    intro x m
    rcases List.mem_cons.mp m with rfl | m
    · exact .refl
    · exact (Rch.one e).trans (ih x m)
/-- a way: gone along ties, none twice -/
structure Way (ts : Ties) (a b : Int) (l : List Int) : Prop where
  wk : Wlk ts a b l
  nd : l.Nodup
/-- no tie can be gone round -/
def Tree (ts : Ties) : Prop := ∀ t ∈ ts, ¬ Rch (ts.filter fun u => decide (u ≠ t)) t.1 t.2
/-- whoever goes along a walk that hasn't a, doesn't use a's ties -/
theorem Wlk.avoid {ts : Ties} {b c a : Int} {l : List Int} (h : Wlk ts b c l) (n : a ∉ l) (t : Int × Int) (ht : t.1 = a ∨ t.2 = a) : Wlk (ts.filter fun u => decide (u ≠ t)) b c l := by
  induction h with
  | one x => exact .one x
  | @cons x y z l e w ih =>
    have nx : a ≠ x := fun q => n (q ▸ List.mem_cons_self)
    have nl : a ∉ l := fun q => n (List.mem_cons_of_mem _ q)
    have ny : a ≠ y := fun q => nl (q ▸ w.mem_a)
    refine .cons ?_ (ih nl)
    rcases e with e | e
    · refine .inl (List.mem_filter.mpr ⟨e, decide_eq_true fun q => ?_⟩)
      subst q
      rcases ht with q | q
      · exact nx q.symm
      · exact ny q.symm
    · refine .inr (List.mem_filter.mpr ⟨e, decide_eq_true fun q => ?_⟩)
      subst q
      rcases ht with q | q
      · exact ny q.symm
      · exact nx q.symm
theorem Way.self {ts : Ties} {a : Int} {l : List Int} (h : Way ts a a l) : l = [a] := by
  obtain ⟨w, nd⟩ := h
  cases w with
  | one => rfl
  | cons e w => exact absurd w.mem_b (List.nodup_cons.mp nd).1
/-- there is one way -/
theorem way_unique {ts : Ties} (T : Tree ts) : ∀ {l m : List Int} {a b : Int}, Way ts a b l → Way ts a b m → l = m := by
  intro l
  induction l with
  | nil =>
    intro m a b h _
    exact absurd rfl h.wk.ne_nil
  | cons x l ih =>
    intro m a b h g
    obtain ⟨w, nd⟩ := h
    cases w with
    | one => exact (Way.self g).symm
    | @cons _ y _ _ e w =>
      have nl := (List.nodup_cons.mp nd).1
      obtain ⟨w2, nd2⟩ := g
      cases w2 with
      | one => exact absurd w.mem_b nl
      | @cons _ z _ m e2 w2 =>
        have nm := (List.nodup_cons.mp nd2).1
        by_cases q : y = z
        · subst q
          rw [ih ⟨w, (List.nodup_cons.mp nd).2⟩ ⟨w2, (List.nodup_cons.mp nd2).2⟩]
        · exfalso
          -- the tie of x and y is gone round
          have go : ∀ t : Int × Int, (t = (x, y) ∨ t = (y, x)) → t ∈ ts → False := by
            intro t ht mt
            have h1 : t.1 = x ∨ t.2 = x := by
              rcases ht with rfl | rfl
              · exact .inl rfl
              · exact .inr rfl
            have r1 : Rch (ts.filter fun u => decide (u ≠ t)) y b := (w.avoid nl t h1).rch
            have r2 : Rch (ts.filter fun u => decide (u ≠ t)) z b := (w2.avoid nm t h1).rch
            have nxy : x ≠ y := fun q => nl (q ▸ w.mem_a)
            have e3 : Adj (ts.filter fun u => decide (u ≠ t)) x z := by
              rcases e2 with e2 | e2
              · refine .inl (List.mem_filter.mpr ⟨e2, decide_eq_true fun k => ?_⟩)
                rcases ht with rfl | rfl
                · exact q (Prod.mk.inj k).2.symm
                · exact nxy (Prod.mk.inj k).1
              · refine .inr (List.mem_filter.mpr ⟨e2, decide_eq_true fun k => ?_⟩)
                rcases ht with rfl | rfl
                · exact nxy (Prod.mk.inj k).2
                · exact q (Prod.mk.inj k).1.symm
            have r3 : Rch (ts.filter fun u => decide (u ≠ t)) x y := ((Rch.one e3).trans r2).trans r1.symm
            rcases ht with rfl | rfl
            · exact T _ mt r3
            · exact T _ mt r3.symm
          rcases e with e | e
          · exact go _ (.inl rfl) e
          · exact go _ (.inr rfl) e
theorem Way.rev {ts : Ties} {a b : Int} {l : List Int} (h : Way ts a b l) : Way ts b a l.reverse := ⟨h.wk.rev, List.pairwise_reverse.mpr (h.nd.imp fun n e => n e.symm)⟩
theorem Way.snoc {ts : Ties} {a b c : Int} {l : List Int} (h : Way ts a b l) (e : Adj ts b c) (n : c ∉ l) : Way ts a c (l ++ [c]) :=
  ⟨h.wk.snoc e, List.nodup_append.mpr ⟨h.nd, List.nodup_cons.mpr ⟨List.not_mem_nil, List.nodup_nil⟩, fun x m y k z => by
    rw [List.mem_singleton.mp k] at z
    exact n (z ▸ m)⟩⟩
/-- a way up to a point of it -/
theorem Wlk.upto {ts : Ties} {a b : Int} {l : List Int} (h : Wlk ts a b l) : ∀ {x : Int}, x ∈ l → ∃ p s, l = p ++ s ∧ Wlk ts a x p ∧ ∃ s', Wlk ts x b (x :: s') ∧ s = s' := by
  induction h with
  | one a =>
    intro x m
    have e := List.mem_singleton.mp m
    subst e
    exact ⟨[x], [], rfl, .one x, [], .one x, rfl⟩
  | @cons a c b l e w ih =>
    intro x m
    rcases List.mem_cons.mp m with rfl | m
    · exact ⟨[x], l, rfl, .one x, l, .cons e w, rfl⟩
    · obtain ⟨p, s, h1, h2, s', h3, h4⟩ := ih m
      exact ⟨a :: p, s, by rw [h1]; rfl, .cons e h2, s', h3, h4⟩
/-- where two are joined there is a way -/
theorem rch_way {ts : Ties} {a b : Int} (h : Rch ts a b) : ∃ l, Way ts a b l := by
  induction h with
  | refl => exact ⟨[a], .one a, by simp⟩
  | @step b c _ e ih =>
    obtain ⟨l, w⟩ := ih
    by_cases m : c ∈ l
    · obtain ⟨p, s, h1, h2, _⟩ := w.wk.upto m
      refine ⟨p, h2, ?_⟩
      have nd := w.nd
      rw [h1] at nd
      exact (List.nodup_append.mp nd).1
    · exact ⟨_, w.snoc e m⟩
/-! ### a tie that leads to a new point -/
theorem rch_contract {ts : Ties} {u v p q : Int} {k : Ties} (hv : ∀ t ∈ ts, t.1 ≠ v ∧ t.2 ≠ v) (hk : ∀ t ∈ k, t ∈ ts ∨ t = (u, v) ∨ t = (v, u)) (nuv : u ≠ v) (us : Ties) (hus : ∀ t ∈ k, t ∈ ts → t ∈ us) (h : Rch k p q) :
    Rch us (if p = v then u else p) (if q = v then u else q) := by
  induction h with
  | refl => exact .refl
  | @step b c _ e ih =>
    refine ih.trans ?_
    have one : ∀ {x y : Int}, (x, y) ∈ k → Rch us (if x = v then u else x) (if y = v then u else y) := by
      intro x y m
      rcases hk _ m with z | z | z
      · have n := hv _ z
        rw [if_neg n.1, if_neg n.2]
        exact .one (.inl (hus _ m z))
      · obtain ⟨rfl, rfl⟩ := Prod.mk.inj z
        rw [if_neg nuv, if_pos rfl]
        exact .refl
      · obtain ⟨rfl, rfl⟩ := Prod.mk.inj z
        rw [if_neg nuv, if_pos rfl]
        exact .refl
    rcases e with e | e
    · exact one e
    · exact (one e).symm
theorem tree_nil : Tree [] := fun _ m => absurd m List.not_mem_nil
theorem rch_isolated {ts : Ties} {a v : Int} (hv : ∀ t ∈ ts, t.1 ≠ v ∧ t.2 ≠ v) (h : Rch ts a v) : a = v := by
  cases h with
  | refl => rfl
  | step _ e =>
    rcases e with e | e
    · exact absurd rfl (hv _ e).2
    · exact absurd rfl (hv _ e).1
theorem tree_snoc {ts : Ties} {u v : Int} {t : Int × Int} (T : Tree ts) (hv : ∀ t ∈ ts, t.1 ≠ v ∧ t.2 ≠ v) (nuv : u ≠ v) (ht : t = (u, v) ∨ t = (v, u)) : Tree (ts ++ [t]) := by
  intro e me h
  have tv : t.1 = v ∨ t.2 = v := by
    rcases ht with rfl | rfl
    · exact .inr rfl
    · exact .inl rfl
  rcases List.mem_append.mp me with m | m
  · have ne : e ≠ t := fun q => by
      have z := hv e m
      rw [q] at z
      rcases tv with y | y
      · exact z.1 y
      · exact z.2 y
    have n := hv e m
    have r := rch_contract (ts := ts) (u := u) (v := v) (us := ts.filter fun x => decide (x ≠ e)) hv (fun x hx => ?_) nuv (fun x hx hm => ?_) h
    · rw [if_neg n.1, if_neg n.2] at r
      exact T e m r
    · rcases List.mem_append.mp (List.mem_filter.mp hx).1 with z | z
      · exact .inl z
      · rw [List.mem_singleton.mp z]
        exact .inr ht
    · exact List.mem_filter.mpr ⟨hm, (List.mem_filter.mp hx).2⟩
  · have q := List.mem_singleton.mp m
    subst q
    have iso : ∀ x ∈ ((ts ++ [e]).filter fun x => decide (x ≠ e)), x.1 ≠ v ∧ x.2 ≠ v := fun x hx => by
      obtain ⟨h1, h2⟩ := List.mem_filter.mp hx
      rcases List.mem_append.mp h1 with z | z
      · exact hv x z
      · exact absurd (List.mem_singleton.mp z) (of_decide_eq_true h2)
    rcases ht with rfl | rfl
    · exact nuv (rch_isolated iso h)
    · exact nuv (rch_isolated iso h.symm)
theorem rch_perm {ts us : Ties} (p : ∀ t, t ∈ ts ↔ t ∈ us) {a b : Int} (h : Rch ts a b) : Rch us a b := h.mono fun t m => (p t).mp m
theorem tree_perm {ts us : Ties} (p : ∀ t, t ∈ ts ↔ t ∈ us) (T : Tree ts) : Tree us := fun t m h => T t ((p t).mpr m) (h.mono fun x hx => by
  obtain ⟨h1, h2⟩ := List.mem_filter.mp hx
  exact List.mem_filter.mpr ⟨(p x).mpr h1, h2⟩)
/-- with a tie cut its two are apart, and each is with one of them -/
theorem rch_cut {ts : Ties} {t : Int × Int} (mt : t ∈ ts) {a b : Int} (h : Rch ts a b) : Rch (ts.filter fun u => decide (u ≠ t)) a b ∨ (Rch (ts.filter fun u => decide (u ≠ t)) a t.1 ∧ Rch (ts.filter fun u => decide (u ≠ t)) t.2 b) ∨ (Rch (ts.filter fun u => decide (u ≠ t)) a t.2 ∧ Rch (ts.filter fun u => decide (u ≠ t)) t.1 b) := by
  induction h with
  | refl => exact .inl .refl
  | @step b c _ e ih =>
    have key : Adj (ts.filter fun u => decide (u ≠ t)) b c ∨ (b = t.1 ∧ c = t.2) ∨ (b = t.2 ∧ c = t.1) := by
      rcases e with e | e
      · by_cases q : (b, c) = t
        · exact .inr (.inl (by rw [← q]; exact ⟨rfl, rfl⟩))
        · exact .inl (.inl (List.mem_filter.mpr ⟨e, decide_eq_true q⟩))
      · by_cases q : (c, b) = t
        · exact .inr (.inr (by rw [← q]; exact ⟨rfl, rfl⟩))
        · exact .inl (.inr (List.mem_filter.mpr ⟨e, decide_eq_true q⟩))
    rcases key with k | ⟨rfl, rfl⟩ | ⟨rfl, rfl⟩
    · rcases ih with h | ⟨h1, h2⟩ | ⟨h1, h2⟩
      · exact .inl (.step h k)
      · exact .inr (.inl ⟨h1, .step h2 k⟩)
      · exact .inr (.inr ⟨h1, .step h2 k⟩)
    · rcases ih with h | ⟨h1, h2⟩ | ⟨h1, h2⟩
      · exact .inr (.inl ⟨h, .refl⟩)
      · exact .inr (.inl ⟨h1, .refl⟩)
      · exact .inl h1
    · rcases ih with h | ⟨h1, h2⟩ | ⟨h1, h2⟩
      · exact .inr (.inr ⟨h, .refl⟩)
      · exact .inl h1
      · exact .inr (.inr ⟨h1, .refl⟩)

end My
namespace My
open PySem L2

/-! ### the text by places -/
def topS (i : Nat) : Stmt := PySem.Challenge.pw_tiedcut_k80_forests_read.main.body.getD i (.Pass ⟨0, 0, 0, 0⟩)
abbrev s_iswhole : Stmt := topS 4
abbrev s_arewholes : Stmt := topS 5
abbrev s_isrising : Stmt := topS 6
abbrev s_iskind : Stmt := topS 9
abbrev s_ispoint : Stmt := topS 10
abbrev s_areties : Stmt := topS 11
abbrev s_istie : Stmt := topS 12
abbrev s_hasring : Stmt := topS 13
abbrev s_topof : Stmt := topS 14
abbrev s_showwords : Stmt := topS 17
abbrev s_showword : Stmt := topS 18
abbrev s_shownumber : Stmt := topS 19
abbrev s_readwords : Stmt := topS 20
abbrev s_readword : Stmt := topS 21
abbrev s_isnumber : Stmt := topS 22
abbrev s_readnumber : Stmt := topS 23
abbrev s_showforest : Stmt := topS 25
abbrev s_forestrows : Stmt := topS 26
abbrev s_readforest : Stmt := topS 27
abbrev s_forestofrows : Stmt := topS 28
abbrev s_Lbegin : Stmt := topS 30
abbrev s_Lnext : Stmt := topS 31
abbrev s_Lmany : Stmt := topS 32
abbrev s_Lworth : Stmt := topS 33
abbrev s_Lforest : Stmt := topS 34
abbrev s_Lrowsof : Stmt := topS 35
abbrev s_law : Stmt := topS 36
theorem sc_iswhole : FnScope ["thing"] ["thing"] (defScope s_iswhole) := ⟨rfl, rfl, rfl, by decide +kernel, rfl, by decide +kernel, by decide +kernel⟩
theorem sc_arewholes : FnScope ["thing", "part"] ["thing"] (defScope s_arewholes) := ⟨rfl, rfl, rfl, by decide +kernel, rfl, by decide +kernel, by decide +kernel⟩
theorem sc_isrising : FnScope ["row", "low", "high"] ["row"] (defScope s_isrising) := ⟨rfl, rfl, rfl, by decide +kernel, rfl, by decide +kernel, by decide +kernel⟩
theorem sc_iskind : FnScope ["thing"] ["thing"] (defScope s_iskind) := ⟨rfl, rfl, rfl, by decide +kernel, rfl, by decide +kernel, by decide +kernel⟩
theorem sc_ispoint : FnScope ["thing"] ["thing"] (defScope s_ispoint) := ⟨rfl, rfl, rfl, by decide +kernel, rfl, by decide +kernel, by decide +kernel⟩
theorem sc_areties : FnScope ["thing", "many", "tie"] ["thing", "many"] (defScope s_areties) := ⟨rfl, rfl, rfl, by decide +kernel, rfl, by decide +kernel, by decide +kernel⟩
theorem sc_istie : FnScope ["thing", "many"] ["thing", "many"] (defScope s_istie) := ⟨rfl, rfl, rfl, by decide +kernel, rfl, by decide +kernel, by decide +kernel⟩
theorem sc_hasring : FnScope ["ties", "many", "above", "a", "b", "top", "other"] ["ties", "many"] (defScope s_hasring) := ⟨rfl, rfl, rfl, by decide +kernel, rfl, by decide +kernel, by decide +kernel⟩
theorem sc_topof : FnScope ["above", "point"] ["above", "point"] (defScope s_topof) := ⟨rfl, rfl, rfl, by decide +kernel, rfl, by decide +kernel, by decide +kernel⟩
theorem sc_showwords : FnScope ["parts", "part"] ["parts"] (defScope s_showwords) := ⟨rfl, rfl, rfl, by decide +kernel, rfl, by decide +kernel, by decide +kernel⟩
theorem sc_showword : FnScope ["part"] ["part"] (defScope s_showword) := ⟨rfl, rfl, rfl, by decide +kernel, rfl, by decide +kernel, by decide +kernel⟩
theorem sc_shownumber : FnScope ["number", "pieces", "rest", "low"] ["number"] (defScope s_shownumber) := ⟨rfl, rfl, rfl, by decide +kernel, rfl, by decide +kernel, by decide +kernel⟩
theorem sc_readwords : FnScope ["text", "word"] ["text"] (defScope s_readwords) := ⟨rfl, rfl, rfl, by decide +kernel, rfl, by decide +kernel, by decide +kernel⟩
theorem sc_readword : FnScope ["word"] ["word"] (defScope s_readword) := ⟨rfl, rfl, rfl, by decide +kernel, rfl, by decide +kernel, by decide +kernel⟩
theorem sc_isnumber : FnScope ["word", "figures", "sign"] ["word"] (defScope s_isnumber) := ⟨rfl, rfl, rfl, by decide +kernel, rfl, by decide +kernel, by decide +kernel⟩
theorem sc_readnumber : FnScope ["word", "number", "sign"] ["word"] (defScope s_readnumber) := ⟨rfl, rfl, rfl, by decide +kernel, rfl, by decide +kernel, by decide +kernel⟩
theorem sc_showforest : FnScope ["forest"] ["forest"] (defScope s_showforest) := ⟨rfl, rfl, rfl, by decide +kernel, rfl, by decide +kernel, by decide +kernel⟩
theorem sc_forestrows : FnScope ["forest", "points", "ties", "point", "tie"] ["forest"] (defScope s_forestrows) := ⟨rfl, rfl, rfl, by decide +kernel, rfl, by decide +kernel, by decide +kernel⟩
theorem sc_readforest : FnScope ["text"] ["text"] (defScope s_readforest) := ⟨rfl, rfl, rfl, by decide +kernel, rfl, by decide +kernel, by decide +kernel⟩
theorem sc_forestofrows : FnScope ["rows", "points", "ties", "number", "row", "word", "parts", "part"] ["rows"] (defScope s_forestofrows) := ⟨rfl, rfl, rfl, by decide +kernel, rfl, by decide +kernel, by decide +kernel⟩
theorem sc_Lbegin : FnScope ["_law_script"] ["_law_script"] (defScope s_Lbegin) := ⟨rfl, rfl, rfl, by decide +kernel, rfl, by decide +kernel, by decide +kernel⟩
theorem sc_Lnext : FnScope ["_law_draws", "_law_many_here", "_law_cell", "_law_digit"] ["_law_draws", "_law_many_here"] (defScope s_Lnext) := ⟨rfl, rfl, rfl, by decide +kernel, rfl, by decide +kernel, by decide +kernel⟩
theorem sc_Lmany : FnScope ["_law_draws", "_law_few", "_law_most"] ["_law_draws", "_law_few", "_law_most"] (defScope s_Lmany) := ⟨rfl, rfl, rfl, by decide +kernel, rfl, by decide +kernel, by decide +kernel⟩
theorem sc_Lworth : FnScope ["_law_draws", "_law_way"] ["_law_draws"] (defScope s_Lworth) := ⟨rfl, rfl, rfl, by decide +kernel, rfl, by decide +kernel, by decide +kernel⟩
theorem sc_Lforest : FnScope ["_law_draws", "_law_most", "_law_many_here", "_law_names", "_law_k", "_law_way", "_law_rare", "_law_ties", "_law_former", "_law_points"] ["_law_draws", "_law_most"] (defScope s_Lforest) := ⟨rfl, rfl, rfl, by decide +kernel, rfl, by decide +kernel, by decide +kernel⟩
theorem sc_Lrowsof : FnScope ["_law_forest_here", "_law_rows", "_law_worth_here", "_law_kind", "_law_one", "_law_other"] ["_law_forest_here"] (defScope s_Lrowsof) := ⟨rfl, rfl, rfl, by decide +kernel, rfl, by decide +kernel, by decide +kernel⟩
theorem sc_law : FnScope ["_law_script", "_law_draws", "_law_turn", "_law_forest_here", "_law_text", "_law_again", "_law_found"] ["_law_script"] (defScope s_law) := ⟨rfl, rfl, rfl, by decide +kernel, rfl, by decide +kernel, by decide +kernel⟩
abbrev s_NoText_init : Stmt := inClass (topS 2) 0
theorem sc_NoText_init : FnScope ["self", "line"] ["self", "line"] (defScope s_NoText_init) := ⟨rfl, rfl, rfl, by decide +kernel, rfl, by decide +kernel, by decide +kernel⟩
/-- what the top has left -/
structure Top (K : PySem.W.Frag) (mg : Str → Option Value) where
  a_iswhole : Addr
  d_iswhole : FuncData
  F_iswhole : Fun K "is_whole" "is_whole" s_iswhole a_iswhole d_iswhole
  b_iswhole : Binds K d_iswhole ["thing"] []
  g_iswhole : mg "is_whole" = some (.ref a_iswhole)
  a_arewholes : Addr
  d_arewholes : FuncData
  F_arewholes : Fun K "are_wholes" "are_wholes" s_arewholes a_arewholes d_arewholes
  b_arewholes : Binds K d_arewholes ["thing"] []
  g_arewholes : mg "are_wholes" = some (.ref a_arewholes)
  a_isrising : Addr
  d_isrising : FuncData
  F_isrising : Fun K "is_rising" "is_rising" s_isrising a_isrising d_isrising
  b_isrising : Binds K d_isrising ["row"] []
  g_isrising : mg "is_rising" = some (.ref a_isrising)
  a_iskind : Addr
  d_iskind : FuncData
  F_iskind : Fun K "is_kind" "is_kind" s_iskind a_iskind d_iskind
  b_iskind : Binds K d_iskind ["thing"] []
  g_iskind : mg "is_kind" = some (.ref a_iskind)
  a_ispoint : Addr
  d_ispoint : FuncData
  F_ispoint : Fun K "is_point" "is_point" s_ispoint a_ispoint d_ispoint
  b_ispoint : Binds K d_ispoint ["thing"] []
  g_ispoint : mg "is_point" = some (.ref a_ispoint)
  a_areties : Addr
  d_areties : FuncData
  F_areties : Fun K "are_ties" "are_ties" s_areties a_areties d_areties
  b_areties : Binds K d_areties ["thing", "many"] []
  g_areties : mg "are_ties" = some (.ref a_areties)
  a_istie : Addr
  d_istie : FuncData
  F_istie : Fun K "is_tie" "is_tie" s_istie a_istie d_istie
  b_istie : Binds K d_istie ["thing", "many"] []
  g_istie : mg "is_tie" = some (.ref a_istie)
  a_hasring : Addr
  d_hasring : FuncData
  F_hasring : Fun K "has_ring" "has_ring" s_hasring a_hasring d_hasring
  b_hasring : Binds K d_hasring ["ties", "many"] []
  g_hasring : mg "has_ring" = some (.ref a_hasring)
  a_topof : Addr
  d_topof : FuncData
  F_topof : Fun K "top_of" "top_of" s_topof a_topof d_topof
  b_topof : Binds K d_topof ["above", "point"] []
  g_topof : mg "top_of" = some (.ref a_topof)
  a_showwords : Addr
  d_showwords : FuncData
  F_showwords : Fun K "show_words" "show_words" s_showwords a_showwords d_showwords
  b_showwords : Binds K d_showwords ["parts"] []
  g_showwords : mg "show_words" = some (.ref a_showwords)
  a_showword : Addr
  d_showword : FuncData
  F_showword : Fun K "show_word" "show_word" s_showword a_showword d_showword
  b_showword : Binds K d_showword ["part"] []
  g_showword : mg "show_word" = some (.ref a_showword)
  a_shownumber : Addr
  d_shownumber : FuncData
  F_shownumber : Fun K "show_number" "show_number" s_shownumber a_shownumber d_shownumber
  b_shownumber : Binds K d_shownumber ["number"] []
  g_shownumber : mg "show_number" = some (.ref a_shownumber)
  a_readwords : Addr
  d_readwords : FuncData
  F_readwords : Fun K "read_words" "read_words" s_readwords a_readwords d_readwords
  b_readwords : Binds K d_readwords ["text"] []
  g_readwords : mg "read_words" = some (.ref a_readwords)
  a_readword : Addr
  d_readword : FuncData
  F_readword : Fun K "read_word" "read_word" s_readword a_readword d_readword
  b_readword : Binds K d_readword ["word"] []
  g_readword : mg "read_word" = some (.ref a_readword)
  a_isnumber : Addr
  d_isnumber : FuncData
  F_isnumber : Fun K "is_number" "is_number" s_isnumber a_isnumber d_isnumber
  b_isnumber : Binds K d_isnumber ["word"] []
  g_isnumber : mg "is_number" = some (.ref a_isnumber)
  a_readnumber : Addr
  d_readnumber : FuncData
  F_readnumber : Fun K "read_number" "read_number" s_readnumber a_readnumber d_readnumber
  b_readnumber : Binds K d_readnumber ["word"] []
  g_readnumber : mg "read_number" = some (.ref a_readnumber)
  a_showforest : Addr
  d_showforest : FuncData
  F_showforest : Fun K "show_forest" "show_forest" s_showforest a_showforest d_showforest
  b_showforest : Binds K d_showforest ["forest"] []
  g_showforest : mg "show_forest" = some (.ref a_showforest)
  a_forestrows : Addr
  d_forestrows : FuncData
  F_forestrows : Fun K "forest_rows" "forest_rows" s_forestrows a_forestrows d_forestrows
  b_forestrows : Binds K d_forestrows ["forest"] []
  g_forestrows : mg "forest_rows" = some (.ref a_forestrows)
  a_readforest : Addr
  d_readforest : FuncData
  F_readforest : Fun K "read_forest" "read_forest" s_readforest a_readforest d_readforest
  b_readforest : Binds K d_readforest ["text"] []
  g_readforest : mg "read_forest" = some (.ref a_readforest)
  a_forestofrows : Addr
  d_forestofrows : FuncData
  F_forestofrows : Fun K "forest_of_rows" "forest_of_rows" s_forestofrows a_forestofrows d_forestofrows
  b_forestofrows : Binds K d_forestofrows ["rows"] []
  g_forestofrows : mg "forest_of_rows" = some (.ref a_forestofrows)
  a_Lbegin : Addr
  d_Lbegin : FuncData
  F_Lbegin : Fun K "_law_begin" "_law_begin" s_Lbegin a_Lbegin d_Lbegin
  b_Lbegin : Binds K d_Lbegin ["_law_script"] []
  g_Lbegin : mg "_law_begin" = some (.ref a_Lbegin)
  a_Lnext : Addr
  d_Lnext : FuncData
  F_Lnext : Fun K "_law_next" "_law_next" s_Lnext a_Lnext d_Lnext
  b_Lnext : Binds K d_Lnext ["_law_draws", "_law_many_here"] []
  g_Lnext : mg "_law_next" = some (.ref a_Lnext)
  a_Lmany : Addr
  d_Lmany : FuncData
  F_Lmany : Fun K "_law_many" "_law_many" s_Lmany a_Lmany d_Lmany
  b_Lmany : Binds K d_Lmany ["_law_draws", "_law_few", "_law_most"] []
  g_Lmany : mg "_law_many" = some (.ref a_Lmany)
  a_Lworth : Addr
  d_Lworth : FuncData
  F_Lworth : Fun K "_law_worth" "_law_worth" s_Lworth a_Lworth d_Lworth
  b_Lworth : Binds K d_Lworth ["_law_draws"] []
  g_Lworth : mg "_law_worth" = some (.ref a_Lworth)
  a_Lforest : Addr
  d_Lforest : FuncData
  F_Lforest : Fun K "_law_forest" "_law_forest" s_Lforest a_Lforest d_Lforest
  b_Lforest : Binds K d_Lforest ["_law_draws", "_law_most"] []
  g_Lforest : mg "_law_forest" = some (.ref a_Lforest)
  a_Lrowsof : Addr
  d_Lrowsof : FuncData
  F_Lrowsof : Fun K "_law_rows_of" "_law_rows_of" s_Lrowsof a_Lrowsof d_Lrowsof
  b_Lrowsof : Binds K d_Lrowsof ["_law_forest_here"] []
  g_Lrowsof : mg "_law_rows_of" = some (.ref a_Lrowsof)
  a_law : Addr
  d_law : FuncData
  F_law : Fun K "law" "law" s_law a_law d_law
  b_law : Binds K d_law ["_law_script"] []
  g_law : mg "law" = some (.ref a_law)
  m_abs : mg "abs" = none
  m_all : mg "all" = none
  m_bool : mg "bool" = none
  m_enumerate : mg "enumerate" = none
  m_int : mg "int" = none
  m_isinstance : mg "isinstance" = none
  m_len : mg "len" = none
  m_list : mg "list" = none
  m_max : mg "max" = none
  m_min : mg "min" = none
  m_range : mg "range" = none
  m_repr : mg "repr" = none
  m_reversed : mg "reversed" = none
  m_sorted : mg "sorted" = none
  m_str : mg "str" = none
  m_tuple : mg "tuple" = none
  m_zip : mg "zip" = none
  tF : Tok
  v_FIGURES : mg "FIGURES" = some (.str "0123456789" tF)
  aK : Addr
  v_KINDS : mg "KINDS" = some (.ref aK)
  tK : tupB K aK kinds = true
  cA : Addr
  PA : Addr
  hcA : d_arewholes.code = .ref cA
  cR : Addr
  PR : Addr
  hcR : d_isrising.code = .ref cR
  cY : Addr
  PY : Addr
  hcY : d_areties.code = .ref cY
  cN : Addr
  PN : Addr
  hcN : d_isnumber.code = .ref cN
  neP : ([PA, PR, PY, PN] : List Addr).Nodup
end My
namespace My
open PySem L2
/-! ### the store of draws -/
def kv (c : Addr) (a l s : Int) : List (Key × V) := [(Sum.inr "cells", .ref c), (Sum.inr "at", .int a), (Sum.inr "left", .int l), (Sum.inr "seed", .int s)]
theorem m1 : ¬ (("cells" : Str) = "at") := by decide +kernel
theorem n1 : ¬ ((Sum.inr ("cells" : Str) : Key) = Sum.inr ("at" : Str)) := fun e => m1 (Sum.inr.inj e)
theorem m2 : ¬ (("cells" : Str) = "left") := by decide +kernel
theorem n2 : ¬ ((Sum.inr ("cells" : Str) : Key) = Sum.inr ("left" : Str)) := fun e => m2 (Sum.inr.inj e)
theorem m3 : ¬ (("cells" : Str) = "seed") := by decide +kernel
theorem n3 : ¬ ((Sum.inr ("cells" : Str) : Key) = Sum.inr ("seed" : Str)) := fun e => m3 (Sum.inr.inj e)
theorem m4 : ¬ (("at" : Str) = "left") := by decide +kernel
theorem n4 : ¬ ((Sum.inr ("at" : Str) : Key) = Sum.inr ("left" : Str)) := fun e => m4 (Sum.inr.inj e)
theorem m5 : ¬ (("at" : Str) = "seed") := by decide +kernel
theorem n5 : ¬ ((Sum.inr ("at" : Str) : Key) = Sum.inr ("seed" : Str)) := fun e => m5 (Sum.inr.inj e)
theorem m6 : ¬ (("left" : Str) = "seed") := by decide +kernel
theorem n6 : ¬ ((Sum.inr ("left" : Str) : Key) = Sum.inr ("seed" : Str)) := fun e => m6 (Sum.inr.inj e)
theorem m7 : ¬ (("seed" : Str) = "left") := by decide +kernel
theorem n7 : ¬ ((Sum.inr ("seed" : Str) : Key) = Sum.inr ("left" : Str)) := fun e => m7 (Sum.inr.inj e)
theorem m8 : ¬ (("seed" : Str) = "at") := by decide +kernel
theorem n8 : ¬ ((Sum.inr ("seed" : Str) : Key) = Sum.inr ("at" : Str)) := fun e => m8 (Sum.inr.inj e)
theorem m9 : ¬ (("left" : Str) = "at") := by decide +kernel
theorem n9 : ¬ ((Sum.inr ("left" : Str) : Key) = Sum.inr ("at" : Str)) := fun e => m9 (Sum.inr.inj e)
section
variable {H : Hp} {d c : Addr} {a l s : Int}
theorem g_cells (h : H d = some (.dK (kv c a l s))) : DGet H d (.str "cells") (some (.ref c)) := by
  have q := DGet.k (k := (Sum.inr "cells" : Key)) h
  unfold kv at q
  rw [valV_pos rfl] at q
  exact q
theorem g_at (h : H d = some (.dK (kv c a l s))) : DGet H d (.str "at") (some (.int a)) := by
  have q := DGet.k (k := (Sum.inr "at" : Key)) h
  unfold kv at q
  rw [valV_neg n1, valV_pos rfl] at q
  exact q
theorem g_left (h : H d = some (.dK (kv c a l s))) : DGet H d (.str "left") (some (.int l)) := by
  have q := DGet.k (k := (Sum.inr "left" : Key)) h
  unfold kv at q
  rw [valV_neg n2, valV_neg n4, valV_pos rfl] at q
  exact q
theorem g_seed (h : H d = some (.dK (kv c a l s))) : DGet H d (.str "seed") (some (.int s)) := by
  have q := DGet.k (k := (Sum.inr "seed" : Key)) h
  unfold kv at q
  rw [valV_neg n3, valV_neg n5, valV_neg n6, valV_pos rfl] at q
  exact q
theorem small4 : (kv c a l s).length < sizeLine := by
  show 4 < sizeLine
  decide
theorem p_at (h : H d = some (.dK (kv c a l s))) (x : Int) : DPut H d (.str "at") (.int x) (upd H d (.dK (kv c x l s))) := by
  have q := DPut.k (k := (Sum.inr "at" : Key)) (v := .int x) h small4
  have e : putK (kv c a l s) (Sum.inr "at" : Key) (.int x) = kv c x l s := by
    simp [putK, kv, m1, m9, m8]
  rw [e] at q
  exact q
theorem p_left (h : H d = some (.dK (kv c a l s))) (x : Int) : DPut H d (.str "left") (.int x) (upd H d (.dK (kv c a x s))) := by
  have q := DPut.k (k := (Sum.inr "left" : Key)) (v := .int x) h small4
  have e : putK (kv c a l s) (Sum.inr "left" : Key) (.int x) = kv c a x s := by
    simp [putK, kv, m2, m4, m7]
  rw [e] at q
  exact q
theorem p_seed (h : H d = some (.dK (kv c a l s))) (x : Int) : DPut H d (.str "seed") (.int x) (upd H d (.dK (kv c a l x))) := by
  have q := DPut.k (k := (Sum.inr "seed" : Key)) (v := .int x) h small4
  have e : putK (kv c a l s) (Sum.inr "seed" : Key) (.int x) = kv c a l x := by
    simp [putK, kv, m3, m5, m6]
  rw [e] at q
  exact q
end
structure Draw (H : Hp) (d c : Addr) (ns : List Int) : Prop where
  dc : ∃ a l s : Int, H d = some (.dK (kv c a l s)) ∧ 0 ≤ a ∧ 0 ≤ l ∧ 0 ≤ s ∧ s < 2305843009213693951
  cs : H c = some (.lst (ns.map V.int))
theorem Tups.of_butD {K : PySem.W.Frag} {H H' : Hp} {d : Addr} {l : List (Key × V)} (s : But d H H') (e : H d = some (.dK l)) : Tups K H H' := fun a xs h => by
  rcases h with h | h
  · rcases h with h | ⟨o, h⟩
    · exact .inl (.inl (s _ _ h (ne_of h e (by intro z; cases z))))
    · exact .inl (.inr ⟨o, s _ _ h (ne_of h e (by intro z; cases z))⟩)
  · exact .inr h
structure DrAt (H : Hp) (d c : Addr) : Prop where
  ex : ∃ ns : List Int, Draw H d c ns
theorem DrAt.dk {H : Hp} {d c : Addr} (B : DrAt H d c) : ∃ kvs, H d = some (.dK kvs) := by
  obtain ⟨ns, ⟨⟨a, l, s, h, _⟩, _⟩⟩ := B.ex
  exact ⟨_, h⟩
theorem DrAt.ls {H : Hp} {d c : Addr} (B : DrAt H d c) : ∃ xs, H c = some (.lst xs) := by
  obtain ⟨ns, ⟨_, h⟩⟩ := B.ex
  exact ⟨_, h⟩
theorem DrAt.same {H H' : Hp} {d c : Addr} (B : DrAt H d c) (s : Same H H') : DrAt H' d c := by
  obtain ⟨ns, ⟨⟨a, l, x, h, r⟩, k⟩⟩ := B.ex
  exact ⟨ns, ⟨a, l, x, s _ _ h, r⟩, s _ _ k⟩
theorem DrAt.new {H : Hp} {d c p : Addr} {o : HO} (B : DrAt H d c) (n : H p = none) : DrAt (upd H p o) d c := B.same (same_new n)
theorem DrAt.put {H : Hp} {d c p : Addr} {o : HO} (B : DrAt H d c) (n1 : p ≠ d) (n2 : p ≠ c) : DrAt (upd H p o) d c := by
  obtain ⟨ns, ⟨⟨a, l, x, h, r⟩, k⟩⟩ := B.ex
  refine ⟨ns, ⟨a, l, x, ?_, r⟩, ?_⟩
  · rw [upd_ne n1.symm]
    exact h
  · rw [upd_ne n2.symm]
    exact k
theorem DrAt.tups {K : PySem.W.Frag} {H H' : Hp} {d c : Addr} (B : DrAt H d c) (s : But d H H') : Tups K H H' := by
  obtain ⟨kvs, h⟩ := B.dk
  exact Tups.of_butD s h
theorem DrAt.ne {H : Hp} {d c p : Addr} (B : DrAt H d c) (n : H p = none) : p ≠ d := by
  obtain ⟨kvs, h⟩ := B.dk
  exact (ne_of_none h n).symm
theorem DrAt.neL {H : Hp} {d c p : Addr} (B : DrAt H d c) (n : H p = none) : p ≠ c := by
  obtain ⟨xs, h⟩ := B.ls
  exact (ne_of_none h n).symm
theorem DrAt.back {H H' : Hp} {d c p : Addr} (B : DrAt H' d c) (s : But d H H') (n : H' p = none) : H p = none := by
  cases e : H p with
  | none => rfl
  | some o =>
    have z := s _ _ e (B.ne n)
    rw [z] at n
    cases n
def spBegin (K : PySem.W.Frag) : Sp := fun vs H Q _ => ∃ (a : Addr) (ns : List Int), vs = [.ref a] ∧ SqL K H a (ns.map V.int) ∧ ∀ (d c : Addr) (ms : List Int) (H' : Hp), Same H H' → H d = none → Draw H' d c ms → Q (.ref d) H'
def spNext : Sp := fun vs H Q _ => ∃ (d c : Addr) (ns : List Int) (many : Int), vs = [.ref d, .int many] ∧ Draw H d c ns ∧ 0 < many ∧ many < 2 ^ 100 ∧
  ∀ (x : Int) (H' : Hp), 0 ≤ x → x < many → Draw H' d c ns → But d H H' → Q (.int x) H'
def spNextD : Sp := fun vs H Q _ => ∃ (d c : Addr) (many : Int), vs = [.ref d, .int many] ∧ DrAt H d c ∧ 0 < many ∧ many < 2 ^ 100 ∧
  ∀ (x : Int) (H' : Hp), 0 ≤ x → x < many → DrAt H' d c → But d H H' → Q (.int x) H'
def spManyD : Sp := fun vs H Q _ => ∃ (d c : Addr) (f m : Int), vs = [.ref d, .int f, .int m] ∧ DrAt H d c ∧ 0 ≤ f ∧ 0 ≤ m ∧ f < 1000 ∧ m < 1000 ∧ ∀ (x : Int) (H' : Hp), 0 ≤ x → (x ≤ f ∨ x ≤ m) → DrAt H' d c → But d H H' → Q (.int x) H'
theorem pow30 : (10 : Int) ^ (30 : Int).toNat = 1000000000000000000000000000000 := by decide +kernel
theorem pow18 : (10 : Int) ^ (18 : Int).toNat = 1000000000000000000 := by decide +kernel
section
variable {P : Program} {w : World} {K : PySem.W.Frag} {mg : Str → Option Value} {base : Heap}
theorem cut63 (ns : List Int) : ∃ ms : List Int, cutV (ns.map V.int) none (some 63) = ms.map V.int := by
  refine ⟨ns.take (HT.sIx ns.length ns.length (some 63)), ?_⟩
  unfold cutV
  rw [HT.sIx_none, List.drop_zero, Nat.sub_zero, List.length_map, List.map_take]
theorem ok_begin (T : Top K mg) : FnOk P w K mg base CX0 1 T.a_Lbegin T.d_Lbegin ["_law_script"] (spBegin K) := by
  refine T.F_Lbegin.ok sc_Lbegin (fun vs H Q E h => ?_) (fun cdv A outer s H vs Q E hr h => ?_)
  · obtain ⟨x, ns, rfl, _⟩ := h
    rfl
  · obtain ⟨a, ns, rfl, hS, q⟩ := h
    refine ⟨_, (pss_one (ps_ret (pe_disp (pps_cons pe_str (pe_callTy call_list_of (by rfl) T.m_list (by decide +kernel) (pa_cons (pe_slice sl_list (pv 0) po_none (po_some pe_int)) pa_nil)) (pps_cons pe_str pe_int (pps_cons pe_str pe_int (pps_cons pe_str pe_int pps_nil)))) (by rfl) (by rfl) (fun z => by cases z) (by decide)))), ?_⟩
    intro d nd
    have s1 : Same H (upd H d (.dK [])) := same_new nd
    obtain ⟨ms, em⟩ := cut63 ns
    refine ⟨_, rfl, 63, rfl, a, _, rfl, s1.seq hS, fun p np => ?_⟩
    have s2 := same_new (H := upd H d (.dK [])) (o := .lst (cutV (ns.map V.int) none (some 63))) np
    refine ⟨p, _, rfl, .inl (SqL.of upd_same), fun c nc => ?_⟩
    have s3 := same_new (H := upd (upd H d (.dK [])) p (.lst (cutV (ns.map V.int) none (some 63)))) (o := .lst (cutV (ns.map V.int) none (some 63))) nc
    have hd2 := s3 _ _ (s2 _ _ (upd_same (H := H) (a := d) (o := .dK [])))
    refine ⟨hd2, kv c 0 0 1000003, rfl, (by show 4 ≤ 15; decide), ?_⟩
    have em2 : mergeK [] (kv c 0 0 1000003) = kv c 0 0 1000003 := by
      simp [mergeK, kv, putK, m1, m2, m3, m4, m5, m6]
    rw [em2]
    have ncd : c ≠ d := fun e => by
      subst e
      rw [s2 _ _ (upd_same (H := H) (a := c) (o := .dK []))] at nc
      cases nc
    refine q d c ms _ ?_ nd ⟨⟨0, 0, 1000003, upd_same, by decide, by decide, by decide, by decide⟩, ?_⟩
    · intro b o e
      rw [upd_ne (ne_of_none e nd)]
      exact s3 _ _ (s2 _ _ (s1 _ _ e))
    · rw [upd_ne ncd, upd_same, em]
theorem ok_next (T : Top K mg) : FnOk P w K mg base CX0 1 T.a_Lnext T.d_Lnext ["_law_draws", "_law_many_here"] spNext := by
  refine T.F_Lnext.ok sc_Lnext (fun vs H Q E h => ?_) (fun cdv A outer s H vs Q E hr h => ?_)
  · obtain ⟨d, c, ns, many, rfl, _⟩ := h
    rfl
  · obtain ⟨d, c, ns, many, rfl, ⟨⟨a, l, sd, hd, ha, hl, hs0, hs1⟩, hc⟩, hm0, hm1, q⟩ := h
    have ndc : c ≠ d := ne_of hc hd (by intro z; cases z)
    refine ⟨_, (pss_cons (ps_mid (ps_if (PW.pt (pw_and (pt_cmpR op_eq (pe_dget (u1 hr) (pv 0) pe_str (fun _ _ => rfl)) pe_int (nomark _)) (pw_and1 (pt_cmpR op_lt (pe_dget (u1 hr) (pv 0) pe_str (fun _ _ => rfl)) (pe_callB call_len_seq (by rfl) T.m_len PySem.boot_len (pa_cons (pe_dget (u1 hr) (pv 0) pe_str (fun _ _ => rfl)) pa_nil)) (nomark _))))) (pss_cons (ps_set (i := 2) sc_Lnext.nd rfl (.inl rfl) (pe_ix ix_list (pe_dget (u1 hr) (pv 0) pe_str (fun _ _ => rfl)) (pe_dget (u1 hr) (pv 0) pe_str (fun _ _ => rfl)) (fun _ _ => rfl)))
      (pss_cons (ps_dput (u1 hr) (pv 0) pe_str (pe_op op_add (pe_dget (u1 hr) (pv 0) pe_str (fun _ _ => rfl)) pe_int) rfl)
      (pss_cons (ps_dput (u1 hr) (pv 0) pe_str (pe_op op_mod (pe_op op_add (pe_op op_add (pe_op op_mul (pe_dget (u1 hr) (pv 0) pe_str (fun _ _ => rfl)) pe_int) (pe_op op_mod (pv 2) (pe_op op_pow pe_int pe_int))) pe_int) pe_int) rfl)
      (pss_one (ps_dput (u1 hr) (pv 0) pe_str (pe_op op_mul (pv 2) (pe_callTy call_int1 (by rfl) T.m_int (by decide +kernel) (pa_cons (pe_cmpR op_ge (pv 2) (pe_op op_pow pe_int pe_int) (nomark _)) pa_nil))) rfl))))) pss_nil))
      (pss_cons (ps_if (pt_cmpR op_gt (pe_dget (u1 hr) (pv 0) pe_str (fun _ _ => rfl)) pe_int (nomark _)) (pss_cons (ps_set (i := 3) sc_Lnext.nd rfl (.inl rfl) (pe_op op_mod (pe_dget (u1 hr) (pv 0) pe_str (fun _ _ => rfl)) (pv 1)))
      (pss_cons (ps_dput (u1 hr) (pv 0) pe_str (pe_op op_fdivW (pe_dget (u1 hr) (pv 0) pe_str (fun _ _ => rfl)) (pv 1)) rfl)
      (pss_one (ps_ret (pv 3))))) pss_nil)
      (pss_cons (ps_dput (u1 hr) (pv 0) pe_str (pe_op op_mod (pe_op op_add (pe_op op_mul (pe_dget (u1 hr) (pv 0) pe_str (fun _ _ => rfl)) pe_int) pe_int) pe_int) rfl)
      (pss_one (ps_ret (pe_op op_mod (pe_op op_fdivW (pe_op op_mod (pe_op op_mul (pe_dget (u1 hr) (pv 0) pe_str (fun _ _ => rfl)) (pe_dget (u1 hr) (pv 0) pe_str (fun _ _ => rfl))) pe_int) pe_int) (pv 1))))))), ?_⟩
    refine ⟨fun σ1 H1 => ∃ (y2 : Option V) (a l sd : Int), σ1 = [some (.ref d), some (.int many), y2, none] ∧ H1 d = some (.dK (kv c a l sd)) ∧ 0 ≤ a ∧ 0 ≤ l ∧ 0 ≤ sd ∧ sd < 2305843009213693951 ∧ H1 c = some (.lst (ns.map V.int)) ∧ But d H H1, ?_, ?_⟩
    · have dflt : ∃ (y2 : Option V) (a l sd : Int), (start ["_law_draws", "_law_many_here", "_law_cell", "_law_digit"] [V.ref d, V.int many]) = [some (.ref d), some (.int many), y2, none] ∧ H d = some (.dK (kv c a l sd)) ∧ 0 ≤ a ∧ 0 ≤ l ∧ 0 ≤ sd ∧ sd < 2305843009213693951 ∧ H c = some (.lst (ns.map V.int)) ∧ But d H H :=
        ⟨none, a, l, sd, rfl, hd, ha, hl, hs0, hs1, hc, But.refl⟩
      refine ⟨_, rfl, d, _, rfl, g_left hd, rfl, _, rfl, ite2 (fun e1 => ?_) (fun e1 => iteF dflt)⟩
      refine ⟨_, rfl, d, _, rfl, g_at hd, _, rfl, d, _, rfl, g_cells hd, c, _, rfl, .inl (SqL.of hc), _, _, rfl, rfl, _, rfl, ?_⟩
      refine ite2 (fun e2 => ?_) (fun e2 => dflt)
      have e3 : a < ((ns.map V.int).length : Int) := of_decide_eq_true e2
      rw [List.length_map] at e3
      obtain ⟨v, hv, _⟩ := at_map ha e3
      refine ⟨_, rfl, d, _, rfl, g_cells hd, _, rfl, d, _, rfl, g_at hd, c, _, _, _, rfl, rfl, SqL.of hc, hv, ?_⟩
      refine ⟨_, rfl, d, _, rfl, g_at hd, _, _, rfl, rfl, _, rfl, d, _, rfl, p_at hd _, ?_⟩
      refine ⟨_, rfl, d, _, rfl, g_seed upd_same, _, _, rfl, rfl, .inr ⟨by decide, by decide⟩, _, rfl, _, _, rfl, rfl, ⟨by decide, by decide, by decide⟩, _, _, rfl, rfl, (by show (0 : Int) < 10 ^ (30 : Int).toNat; rw [pow30]; decide), _, _, rfl, rfl, _, _, rfl, rfl, _, _, rfl, rfl, (by show (0 : Int) < 2305843009213693951; decide), _, rfl, d, _, rfl, p_seed upd_same _, ?_⟩
      refine ⟨_, rfl, _, rfl, _, _, rfl, rfl, ⟨by decide, by decide, by decide⟩, _, _, rfl, rfl, .inr ⟨_, rfl, _, _, rfl, rfl, ?_, _, rfl, d, _, rfl, p_left upd_same _, ?_⟩⟩
      · right
        constructor <;> split <;> decide
      · refine ⟨some (.int v), _, _, _, rfl, upd_same, by omega, ?_, Int.emod_nonneg _ (by decide), Int.emod_lt_of_pos _ (by decide), ?_, ((But.refl.put).put).put⟩
        · rw [pow18]
          by_cases z : (1000000000000000000 : Int) ≤ v
          · rw [decide_eq_true z]
            simp
            omega
          · rw [decide_eq_false z]
            simp
        · rw [upd_ne ndc, upd_ne ndc, upd_ne ndc]
          exact hc
    · rintro σ1 H1 ⟨y2, a, l, sd, rfl, hd, ha, hl, hs0, hs1, hc, kp⟩
      refine ⟨_, rfl, d, _, rfl, g_left hd, _, _, rfl, rfl, _, rfl, ite2 (fun e1 => ?_) (fun e1 => ?_)⟩
      · refine ⟨_, rfl, d, _, rfl, g_left hd, _, rfl, _, _, rfl, rfl, hm0, ?_⟩
        refine ⟨_, rfl, d, _, rfl, g_left hd, _, rfl, _, _, rfl, rfl, wide_ok hm0 hm1, _, rfl, d, _, rfl, p_left hd _, _, rfl, ?_⟩
        exact q _ _ (Int.emod_nonneg _ (by omega)) (Int.emod_lt_of_pos _ hm0) ⟨⟨a, _, sd, upd_same, ha, Int.ediv_nonneg hl (by omega), hs0, hs1⟩, by rw [upd_ne ndc]; exact hc⟩ kp.put
      · refine ⟨_, rfl, d, _, rfl, g_seed hd, _, _, rfl, rfl, .inr ⟨by decide, by decide⟩, _, _, rfl, rfl, _, _, rfl, rfl, (by show (0 : Int) < 2305843009213693951; decide), _, rfl, d, _, rfl, p_seed hd _, ?_⟩
        refine ⟨_, rfl, d, _, rfl, g_seed upd_same, _, rfl, d, _, rfl, g_seed upd_same, _, _, rfl, rfl, .inl ?_, _, _, rfl, rfl, (by show (0 : Int) < 2305843009213693921; decide), _, _, rfl, rfl, ?_, _, rfl, _, _, rfl, rfl, hm0, ?_⟩
        · have z1 := Int.emod_nonneg (sd * 1181783497276652981 + 12345678910987) (show (2305843009213693951 : Int) ≠ 0 by decide)
          have z2 := Int.emod_lt_of_pos (sd * 1181783497276652981 + 12345678910987) (show (0 : Int) < 2305843009213693951 by decide)
          constructor <;> omega
        · exact wide_ok (by decide) (by decide)
        · exact q _ _ (Int.emod_nonneg _ (by omega)) (Int.emod_lt_of_pos _ hm0) ⟨⟨a, l, _, upd_same, ha, hl, Int.emod_nonneg _ (by decide), Int.emod_lt_of_pos _ (by decide)⟩, by rw [upd_ne ndc]; exact hc⟩ kp.put
theorem ok_nextD (T : Top K mg) : FnOk P w K mg base CX0 1 T.a_Lnext T.d_Lnext ["_law_draws", "_law_many_here"] spNextD := by
  refine (ok_next T).imp fun vs H Q E h => ?_
  obtain ⟨d, c, many, e, B, m0, m1, q⟩ := h
  obtain ⟨ns, D⟩ := B.ex
  exact ⟨d, c, ns, many, e, D, m0, m1, fun x H' x0 x1 D' k => q x H' x0 x1 ⟨ns, D'⟩ k⟩
theorem ok_manyD (T : Top K mg) : FnOk P w K mg base CX0 2 T.a_Lmany T.d_Lmany ["_law_draws", "_law_few", "_law_most"] spManyD := by
  have G_Lnext : FnOk P w K mg base CX0 1 _ _ _ _ := ok_nextD T
  refine T.F_Lmany.ok sc_Lmany (fun vs H Q E h => ?_) (fun cdv A outer s H vs Q E hr h => ?_)
  · obtain ⟨d, c, f, m, rfl, _⟩ := h
    rfl
  · obtain ⟨d, c, f, m, rfl, B, f0, m0, f1, m1, q⟩ := h
    refine ⟨_, (pss_cons (ps_if (pt_cmpR op_eq (pe_call G_Lnext hr (by rfl) T.g_Lnext T.F_Lnext.kp T.b_Lnext .nil pass0 (pa_cons (pv 0) (pa_cons pe_int pa_nil))) pe_int (nomark _)) (pss_one (ps_ret (pe_call G_Lnext hr (by rfl) T.g_Lnext T.F_Lnext.kp T.b_Lnext .nil pass0 (pa_cons (pv 0) (pa_cons (pe_op op_add (pv 2) pe_int) pa_nil))))) pss_nil)
      (pss_one (ps_ret (pe_call G_Lnext hr (by rfl) T.g_Lnext T.F_Lnext.kp T.b_Lnext .nil pass0 (pa_cons (pv 0) (pa_cons (pe_op op_add (pv 1) pe_int) pa_nil)))))), ?_⟩
    refine ⟨_, rfl, d, c, 8, rfl, B, by decide, by decide, fun x H1 x0 x1 B1 k1 => ?_⟩
    refine ⟨rfl, _, rfl, ite2 (fun _ => ?_) (fun _ => ?_)⟩
    · refine ⟨_, rfl, _, rfl, _, _, rfl, rfl, d, c, m + 1, rfl, B1, by omega, by omega, fun y H2 y0 y1 B2 k2 => ?_⟩
      exact q y H2 y0 (.inr (by omega)) B2 (k1.trans k2)
    · refine ⟨_, rfl, _, rfl, _, _, rfl, rfl, d, c, f + 1, rfl, B1, by omega, by omega, fun y H2 y0 y1 B2 k2 => ?_⟩
      exact q y H2 y0 (.inl (by omega)) B2 (k1.trans k2)
end

end My
namespace My
open PySem L2
/-! ### forests drawn from the store -/
def pdata (p : Int × Str) : PyData := .tuple [.int p.1, .str p.2]
def tdata (t : Int × Int) : PyData := .tuple [.int t.1, .int t.2]
def PtOk (p : Int × Str) : Prop := -(2 ^ 100) < p.1 ∧ p.1 < 2 ^ 100 ∧ p.2 ∈ kinds
def fdata (pts : List (Int × Str)) (ts : List (Int × Int)) : PyData := .tuple [.tuple (pts.map pdata), .tuple (ts.map tdata)]
structure FrOk (pts : List (Int × Str)) (ts : List (Int × Int)) : Prop where
  pos : 0 < pts.length
  few : pts.length ≤ 100
  pok : ∀ p ∈ pts, PtOk p
  tok : ∀ t ∈ ts, 0 ≤ t.1 ∧ 0 ≤ t.2 ∧ t.1 < (pts.length : Int) ∧ t.2 < (pts.length : Int)
  tl : ts.length ≤ pts.length
  tree : Tree ts
  nd : ts.Nodup
theorem Td.two {K : PySem.W.Frag} {H : Hp} {x y : Int} {t : Addr} (h : H t = some (.tup [.int x, .int y])) : Td K H (.ref t) (tdata (x, y)) := .tup (SqT.of h) (.cons (.int x) (.cons (.int y) .nil))
theorem Td.pt {K : PySem.W.Frag} {H : Hp} {x : Int} {y : Str} {t : Addr} (h : H t = some (.tup [.int x, .str y])) : Td K H (.ref t) (pdata (x, y)) := .tup (SqT.of h) (.cons (.int x) (.cons (.str y) .nil))
/-- tied pairs stand in H itself -/
inductive PAll (H : Hp) : List V → List (Int × Int) → Prop
  | nil : PAll H [] []
  | cons {t : Addr} {x y : Int} {vs : List V} {ts : List (Int × Int)} : H t = some (.tup [.int x, .int y]) → PAll H vs ts → PAll H (.ref t :: vs) ((x, y) :: ts)
theorem PAll.td {K : PySem.W.Frag} {H : Hp} : ∀ {vs : List V} {ts : List (Int × Int)}, PAll H vs ts → TdAll K H vs (ts.map tdata)
  | _, _, .nil => .nil
  | _, _, .cons h k => .cons (Td.two h) (PAll.td k)
theorem PAll.mono {H H' : Hp} (s : ∀ t x y, H t = some (.tup [.int x, .int y]) → H' t = some (.tup [.int x, .int y])) : ∀ {vs : List V} {ts : List (Int × Int)}, PAll H vs ts → PAll H' vs ts
  | _, _, .nil => .nil
  | _, _, .cons h k => .cons (s _ _ _ h) (PAll.mono s k)
theorem PAll.same {H H' : Hp} (s : Same H H') {vs : List V} {ts : List (Int × Int)} (h : PAll H vs ts) : PAll H' vs ts := h.mono fun _ _ _ e => s _ _ e
theorem PAll.put {H : Hp} {l : Addr} {xs ys : List V} (e : H l = some (.lst xs)) {vs : List V} {ts : List (Int × Int)} (h : PAll H vs ts) : PAll (upd H l (.lst ys)) vs ts := h.mono fun t _ _ z => by
  rw [upd_ne (ne_of z e (by intro z; cases z))]
  exact z
theorem PAll.but {H H' : Hp} {b L : Addr} (B : DrAt H b L) (s : But b H H') {vs : List V} {ts : List (Int × Int)} (h : PAll H vs ts) : PAll H' vs ts := h.mono fun t _ _ z => by
  obtain ⟨kvs, h1⟩ := B.dk
  exact s _ _ z (ne_of z h1 (by intro z; cases z))
theorem PAll.snoc {H : Hp} {t : Addr} {x y : Int} (e : H t = some (.tup [.int x, .int y])) : ∀ {vs : List V} {ts : List (Int × Int)}, PAll H vs ts → PAll H (vs ++ [.ref t]) (ts ++ [(x, y)])
  | _, _, .nil => .cons e .nil
  | _, _, .cons h k => .cons h (PAll.snoc e k)
theorem PAll.length {H : Hp} : ∀ {vs : List V} {ts : List (Int × Int)}, PAll H vs ts → vs.length = ts.length
  | _, _, .nil => rfl
  | _, _, .cons _ k => congrArg (· + 1) k.length
theorem PAll.pairs {H : Hp} : ∀ {vs : List V} {ts : List (Int × Int)}, PAll H vs ts → ∀ x ∈ vs, ∃ t i j, x = V.ref t ∧ H t = some (.tup [.int i, .int j])
  | _, _, .nil, _, m => nomatch m
  | _, _, .cons h k, x, m => by
    rcases List.mem_cons.mp m with e | m
    · subst e
      exact ⟨_, _, _, rfl, h⟩
    · exact k.pairs x m
theorem PAll.perm {H : Hp} {xs ys : List V} (p : ys.Perm xs) : ∀ {ts : List (Int × Int)}, PAll H xs ts → ∃ us : List (Int × Int), us.Perm ts ∧ PAll H ys us := by
  induction p with
  | nil =>
    intro ts h
    cases h
    exact ⟨[], .refl _, .nil⟩
  | cons x p ih =>
    intro ts h
    cases h with
    | cons h1 h2 =>
      obtain ⟨us, pu, hu⟩ := ih h2
      exact ⟨_ :: us, pu.cons _, .cons h1 hu⟩
  | swap x y l =>
    intro ts h
    cases h with
    | cons h1 h2 =>
      cases h2 with
      | cons h2 h3 => exact ⟨_, .swap .., .cons h2 (.cons h1 h3)⟩
  | trans p1 p2 ih1 ih2 =>
    intro ts h
    obtain ⟨us, pu, hu⟩ := ih2 h
    obtain ⟨vs, pv, hv⟩ := ih1 hu
    exact ⟨vs, pv.trans pu, hv⟩
/-- the list of names -/
def Names (n : Nat) (ns : List Int) : Prop := ns.length = n ∧ (∀ x ∈ ns, 0 ≤ x ∧ x < (n : Int)) ∧ ns.Nodup
theorem names_put {n : Nat} {ns : List Int} {k : Nat} (h : Names n ns) : Names (n + 1) (ns.take k ++ [(n : Int)] ++ ns.drop k) := by
  have hn : (n : Int) ∉ ns := fun m => by
    have := h.2.1 _ m
    omega
  refine ⟨?_, fun x m => ?_, ?_⟩
  · have z := List.take_append_drop k ns
    have z2 := congrArg List.length z
    rw [List.length_append] at z2
    rw [List.length_append, List.length_append]
    show (ns.take k).length + 1 + (ns.drop k).length = n + 1
    have := h.1
    omega
  · rcases List.mem_append.mp m with m | m
    · rcases List.mem_append.mp m with m | m
      · have := h.2.1 x (List.mem_of_mem_take m)
        omega
      · rcases List.mem_cons.mp m with e | m
        · omega
        · cases m
    · have := h.2.1 x (List.mem_of_mem_drop m)
      omega
  · have nd := h.2.2
    rw [← List.take_append_drop k ns] at nd
    obtain ⟨n1, n2, n3⟩ := List.nodup_append.mp nd
    refine List.nodup_append.mpr ⟨List.nodup_append.mpr ⟨n1, List.nodup_cons.mpr ⟨List.not_mem_nil, List.nodup_nil⟩, fun x m y k z => ?_⟩, n2, fun x m y k z => ?_⟩
    · rw [List.mem_singleton.mp k] at z
      exact hn (z ▸ List.mem_of_mem_take m)
    · rcases List.mem_append.mp m with m | m
      · exact n3 x m y k z
      · rw [List.mem_singleton.mp m] at z
        exact hn (z ▸ List.mem_of_mem_drop k)
/-- a tie to a name that has none yet -/
theorem tie_more {ns : List Int} {ts : List (Int × Int)} {i k : Nat} {v1 v2 : Int} {u : Nat} (nd : ns.Nodup) (hk : k = 1 + i) (h1 : ns[k]? = some v1) (h2 : ns[u]? = some v2) (hu : u < k) (tr : Tree ts) (tn : ts.Nodup) (hm : ∀ t ∈ ts, t.1 ∈ ns.take k ∧ t.2 ∈ ns.take k) :
    Tree (ts ++ [((if v2 < v1 then v2 else v1), (if v2 > v1 then v2 else v1))]) ∧ (ts ++ [((if v2 < v1 then v2 else v1), (if v2 > v1 then v2 else v1))]).Nodup ∧ ∀ t ∈ ts ++ [((if v2 < v1 then v2 else v1), (if v2 > v1 then v2 else v1))], t.1 ∈ ns.take (k + 1) ∧ t.2 ∈ ns.take (k + 1) := by
  have n1 : v1 ∉ ns.take k := fun m => by
    obtain ⟨j, hj⟩ := List.mem_iff_getElem?.mp m
    have jl := (List.getElem?_eq_some_iff.mp hj).1
    rw [List.length_take] at jl
    rw [List.getElem?_take_of_lt (by omega)] at hj
    have l1 := (List.getElem?_eq_some_iff.mp h1)
    obtain ⟨x1, y1⟩ := l1
    obtain ⟨x2, y2⟩ := List.getElem?_eq_some_iff.mp hj
    have z := List.pairwise_iff_getElem.mp nd j k x2 x1 (by omega)
    exact z (y2.trans y1.symm)
  have m2 : v2 ∈ ns.take k := List.mem_iff_getElem?.mpr ⟨u, by rw [List.getElem?_take_of_lt hu]; exact h2⟩
  have ne : v2 ≠ v1 := fun z => n1 (z ▸ m2)
  have hv : ∀ t ∈ ts, t.1 ≠ v1 ∧ t.2 ≠ v1 := fun t m => ⟨fun z => n1 (z ▸ (hm t m).1), fun z => n1 (z ▸ (hm t m).2)⟩
  have two : ((if v2 < v1 then v2 else v1), (if v2 > v1 then v2 else v1)) = (v2, v1) ∨ ((if v2 < v1 then v2 else v1), (if v2 > v1 then v2 else v1)) = (v1, v2) := by
    by_cases lt : v2 < v1
    · rw [if_pos lt, if_neg (by omega)]
      exact .inl rfl
    · rw [if_neg lt, if_pos (by omega)]
      exact .inr rfl
  have up : ∀ {x : Int}, x ∈ ns.take k → x ∈ ns.take (k + 1) := fun {x} m => by
    rw [List.take_succ]
    exact List.mem_append_left _ m
  have m1 : v1 ∈ ns.take (k + 1) := by
    rw [List.take_succ, h1]
    exact List.mem_append_right _ List.mem_cons_self
  refine ⟨tree_snoc tr hv ne two, List.nodup_append.mpr ⟨tn, List.nodup_cons.mpr ⟨List.not_mem_nil, List.nodup_nil⟩, fun x m y k z => ?_⟩, fun t m => ?_⟩
  · rw [List.mem_singleton.mp k] at z
    have w := hv x m
    rw [z] at w
    rcases two with e | e
    · rw [e] at w
      exact w.2 rfl
    · rw [e] at w
      exact w.1 rfl
  · rcases List.mem_append.mp m with m | m
    · exact ⟨up (hm t m).1, up (hm t m).2⟩
    · rw [List.mem_singleton.mp m]
      rcases two with e | e
      · rw [e]
        exact ⟨up m2, m1⟩
      · rw [e]
        exact ⟨m1, up m2⟩
def spWorthD : Sp := fun vs H Q _ => ∃ (d c : Addr), vs = [.ref d] ∧ DrAt H d c ∧ ∀ (x : Int) (H' : Hp), -(2 ^ 100) < x → x < 2 ^ 100 → DrAt H' d c → But d H H' → Q (.int x) H'
def leT (s t : Int × Int) : Prop := s.1 < t.1 ∨ (s.1 = t.1 ∧ s.2 ≤ t.2)
def spForest (K : PySem.W.Frag) : Sp := fun vs H Q _ => ∃ (b L : Addr) (m : Int), vs = [.ref b, .int m] ∧ DrAt H b L ∧ 9 ≤ m ∧ m ≤ 100 ∧
  ∀ (p : Addr) (pts : List (Int × Str)) (ts : List (Int × Int)) (H' : Hp), FrOk pts ts → (pts.length : Int) ≤ m → (∀ t ∈ ts, t.1 ≤ t.2) → ts.Pairwise leT → DrAt H' b L → But b H H' → Td K H' (.ref p) (fdata pts ts) → Q (.ref p) H'
theorem pow20 : (10 : Int) ^ (20 : Int).toNat = 100000000000000000000 := by decide +kernel
section
variable {P : Program} {w : World} {K : PySem.W.Frag} {mg : Str → Option Value} {base : Heap}
theorem ok_worthD (T : Top K mg) : FnOk P w K mg base CX0 2 T.a_Lworth T.d_Lworth ["_law_draws"] spWorthD := by
  have G_Lnext : FnOk P w K mg base CX0 1 _ _ _ _ := ok_nextD T
  refine T.F_Lworth.ok sc_Lworth (fun vs H Q E h => ?_) (fun cdv A outer s H vs Q E hr h => ?_)
  · obtain ⟨d, c, rfl, _⟩ := h
    rfl
  · obtain ⟨d, c, rfl, B, q⟩ := h
    refine ⟨_, (pss_cons (ps_set (i := 1) sc_Lworth.nd rfl (.inl rfl) (pe_call G_Lnext hr (by rfl) T.g_Lnext T.F_Lnext.kp T.b_Lnext .nil pass0 (pa_cons (pv 0) (pa_cons pe_int pa_nil))))
      (pss_cons (ps_if (pt_cmpR op_lt (pv 1) pe_int (nomark _)) (pss_one (ps_ret (pe_call G_Lnext hr (by rfl) T.g_Lnext T.F_Lnext.kp T.b_Lnext .nil pass0 (pa_cons (pv 0) (pa_cons pe_int pa_nil))))) pss_nil)
      (pss_cons (ps_if (pt_cmpR op_eq (pv 1) pe_int (nomark _)) (pss_one (ps_ret (pe_op op_sub (pe_un un_neg pe_int) (pe_call G_Lnext hr (by rfl) T.g_Lnext T.F_Lnext.kp T.b_Lnext .nil pass0 (pa_cons (pv 0) (pa_cons pe_int pa_nil)))))) pss_nil)
      (pss_one (ps_ret (pe_ix ix_list (pe_lst (pa_cons (pe_op op_sub (pe_op op_pow pe_int pe_int) pe_int) (pa_cons (pe_op op_sub pe_int (pe_op op_pow pe_int pe_int)) (pa_cons pe_int (pa_cons (pe_call G_Lnext hr (by rfl) T.g_Lnext T.F_Lnext.kp T.b_Lnext .nil pass0 (pa_cons (pv 0) (pa_cons (pe_op op_pow pe_int pe_int) pa_nil))) pa_nil))))) (pe_call G_Lnext hr (by rfl) T.g_Lnext T.F_Lnext.kp T.b_Lnext .nil pass0 (pa_cons (pv 0) (pa_cons pe_int pa_nil))) (fun _ _ => rfl))))))), ?_⟩
    refine ⟨_, rfl, d, c, 6, rfl, B, by decide, by decide, fun x H1 x0 x1 B1 k1 => ?_⟩
    refine ⟨_, rfl, _, _, rfl, rfl, _, rfl, ite2 (fun _ => ?_) (fun _ => ?_)⟩
    · exact ⟨_, rfl, d, c, 7, rfl, B1, by decide, by decide, fun y H2 y0 y1 B2 k2 => q y H2 (by omega) (by omega) B2 (k1.trans k2)⟩
    refine ⟨_, rfl, rfl, _, rfl, ite2 (fun _ => ?_) (fun _ => ?_)⟩
    · refine ⟨_, rfl, _, rfl, d, c, 9, rfl, B1, by decide, by decide, fun y H2 y0 y1 B2 k2 => ⟨_, _, rfl, rfl, q _ H2 (by omega) (by omega) B2 (k1.trans k2)⟩⟩
    refine ⟨_, _, rfl, rfl, ⟨by decide, by decide, by decide⟩, _, _, rfl, rfl, _, _, rfl, rfl, ⟨by decide, by decide, by decide⟩, _, _, rfl, rfl, _, rfl, _, _, rfl, rfl, ⟨by decide, by decide, by decide⟩, d, c, _, rfl, B1, (by show (0 : Int) < 10 ^ (20 : Int).toNat; rw [pow20]; decide), (by show (10 : Int) ^ (20 : Int).toNat < 2 ^ 100; rw [pow20]; decide), fun y H2 y0 y1 B2 k2 => ⟨(by show 4 ≤ sizeLine; decide), fun p np => ?_⟩⟩
    refine ⟨_, rfl, d, c, 4, rfl, B2.new np, by decide, by decide, fun z H3 z0 z1 B3 k3 => ?_⟩
    have hp := k3 _ _ upd_same ((B2.ne np))
    rw [pow20] at y1
    have pick : ∃ v : Int, atI [V.int (10 ^ (30 : Int).toNat - 1), V.int (1 - 10 ^ (30 : Int).toNat), V.int 0, V.int y] z = some (.int v) ∧ -(2 ^ 100) < v ∧ v < 2 ^ 100 := by
      rw [pow30]
      have hc : z = 0 ∨ z = 1 ∨ z = 2 ∨ z = 3 := by omega
      rcases hc with rfl | rfl | rfl | rfl
      all_goals exact ⟨_, rfl, by omega, by omega⟩
    obtain ⟨v, hv, v0, v1⟩ := pick
    refine ⟨p, _, _, _, rfl, rfl, SqL.of hp, hv, ?_⟩
    exact q v H3 v0 v1 B3 (((k1.trans k2).new np).trans k3)
end

end My
namespace My
open PySem L2
/-! ### sorted of pairs, remove of a pair -/
/-- the two ints of the pair at u -/
def kkOf (h : Heap) (u : Value) : Int × Int := match u with
  | .ref a => match h.get? a with
    | some o => match o.data with
      | .seq vs _ => match vs.toList with
        | [.int i _, .int j _] => (i, j)
        | _ => (0, 0)
      | _ => (0, 0)
    | none => (0, 0)
  | _ => (0, 0)
theorem kk_pair {h : Heap} {u : Value} {i j : Int} (p : Srt.IsPair h u i j) : kkOf h u = (i, j) := by
  obtain ⟨a, o, t, w, n, rfl, h1, _, h3⟩ := p
  unfold kkOf
  simp only [h1, h3]
section
variable {X : Cx} {pins : List (Addr × Obj)} {σ : L2.St} {H : Hp} {s : Shared}
theorem pair_at (I : Inv X pins σ H s) {v : V} {u : Value} {t : Int × Int} (h : Td X.K H v (tdata t)) (r : RelV v u) : Srt.IsPair s.heap u t.1 t.2 ∧ v = backV u := by
  obtain ⟨i, j⟩ := t
  cases h with
  | @tup a xs ds h1 h2 =>
    obtain rfl : u = Value.ref a := r
    obtain ⟨its, rv, ⟨o, g1, g2, n, g3⟩, _⟩ := I.tuple h1
    cases h2 with
    | cons k1 h2 =>
      cases h2 with
      | cons k2 h2 =>
        cases h2
        cases k1
        cases k2
        cases rv with
        | cons r1 rv =>
          cases rv with
          | cons r2 rv =>
            cases rv
            obtain ⟨t1, rfl⟩ := r1
            obtain ⟨t2, rfl⟩ := r2
            exact ⟨⟨a, o, t1, t2, n, rfl, g1, g2, g3⟩, rfl⟩
theorem pairs_at (I : Inv X pins σ H s) : ∀ {xs : List V} {ts : List (Int × Int)} {us : List Value}, TdAll X.K H xs (ts.map tdata) → Vals xs us → us.map (kkOf s.heap) = ts ∧ ∀ u ∈ us, Srt.IsPair s.heap u (kkOf s.heap u).1 (kkOf s.heap u).2 ∧ Td X.K H (backV u) (tdata (kkOf s.heap u))
  | [], [], _, _, .nil => ⟨rfl, fun u m => nomatch m⟩
  | [], _ :: _, _, h, _ => nomatch h
  | _ :: _, [], _, h, _ => nomatch h
  | x :: xs, t :: ts, _ :: us, .cons h1 h2, .cons r1 r2 => by
    obtain ⟨e, f⟩ := pairs_at I h2 r2
    obtain ⟨p, b⟩ := pair_at I h1 r1
    have k := kk_pair p
    refine ⟨by rw [List.map_cons, e, k], fun u m => ?_⟩
    rcases List.mem_cons.mp m with rfl | m
    · rw [k]
      exact ⟨p, by rw [← b]; exact h1⟩
    · exact f u m
theorem td_back {h : Heap} {K : PySem.W.Frag} {H : Hp} : ∀ {us : List Value}, (∀ u ∈ us, Td K H (backV u) (tdata (kkOf h u))) → TdAll K H (us.map backV) ((us.map (kkOf h)).map tdata)
  | [], _ => .nil
  | u :: us, f => .cons (f u List.mem_cons_self) (td_back fun y m => f y (List.mem_cons_of_mem _ m))
/-- s is not behind t -/
def rSortedPS (K : PySem.W.Frag) : List V → Hp → VK → Prop := fun vs H Q => ∃ (l : Addr) (zs : List V) (ts : List (Int × Int)), vs = [V.ref l] ∧ SqL K H l zs ∧ TdAll K H zs (ts.map tdata) ∧
  ∀ (ys : List V) (us : List (Int × Int)) (c : Addr), TdAll K H ys (us.map tdata) → us.Perm ts → us.Pairwise leT → H c = none → Q (.ref c) (upd H c (.lst ys))
theorem cr_sortedPS : CallR X (.builtin "sorted") (rSortedPS X.K) := by
  intro pins s σ H vs us Q I r hh
  obtain ⟨l, zs, ts, rfl, sq, td, q⟩ := hh
  obtain ⟨its, rv, hl, hz⟩ := I.list sq
  obtain ⟨u, rfl, ru⟩ := vals1 r
  obtain rfl : u = Value.ref l := ru
  obtain ⟨e, f⟩ := pairs_at I td rv
  refine SrtO.sorted_pairsO (k := kkOf s.heap) hl.isList (by rw [← rv.length]; exact hz) (fun v m => (f v m).1) fun h' d out g1 g2 kp hd hn => ?_
  have back : ∀ v ∈ out, v ∈ its := fun v m => g2.perm.mem_iff.mp m
  have refs : ∀ v ∈ out, ∃ b, v = Value.ref b := fun v m => by
    obtain ⟨b, _, _, _, _, e1, _⟩ := (f v (back v m)).1
    exact ⟨b, e1⟩
  obtain ⟨n, hn⟩ := hn
  have len : (out.map backV).length ≤ sizeLine := by
    rw [List.length_map, g2.perm.length_eq, ← rv.length]
    exact hz
  refine ⟨.ref d, upd H d (.lst (out.map backV)), I.laid (t' := s.toks) kp hd ⟨len, out, n, vals_back refs, hn⟩, rfl, q _ (out.map (kkOf s.heap)) d (td_back fun v m => (f v (back v m)).2) ?_ ?_ (I.hok.fresh hd)⟩
  · rw [← e]
    exact g2.perm.map _
  · refine List.pairwise_map.mpr (g1.imp fun {x y} z => ?_)
    have z2 := SrtO.lexB_no.mp z
    unfold leT
    omega
def rRemD (K : PySem.W.Frag) : V → List V → Hp → VK → Prop := fun x xs H Q => ∃ (l : Addr) (y : V) (zs : List V) (ts : List (Int × Int)) (u : Int × Int) (j : Nat), x = V.ref l ∧ xs = [y] ∧ H l = some (.lst zs) ∧ TdAll K H zs (ts.map tdata) ∧ Td K H y (tdata u) ∧
  (ts.map tdata).findIdx? (fun z => PyData.eqv z (tdata u)) = some j ∧ Q .non (upd H l (.lst (zs.eraseIdx j)))
theorem plain_td : ∀ ts : List (Int × Int), PyData.plainAll (ts.map tdata) = true
  | [] => rfl
  | t :: r => by
    obtain ⟨i, j⟩ := t
    show (PyData.plain (tdata (i, j)) && PyData.plainAll (r.map tdata)) = true
    rw [plain_td r]
    rfl
theorem mt_removeD (hu : X.A.units + 65 < cLine) : MtR X "list.remove" (rRemD X.K) := by
  intro pins s σ H x xs v us Q I rx rxs hh
  obtain ⟨l, y, zs, ts, u, j, rfl, rfl, hl, td, ty, hj, q⟩ := hh
  obtain rfl : v = Value.ref l := rx
  obtain ⟨w, rfl, ry⟩ := vals1 rxs
  obtain ⟨z, its, n, r, le, eo⟩ := I.lstM hl
  obtain ⟨as, rds⟩ := Dp.readsAll I (ts.map tdata) zs its td.dp r
  obtain ⟨bs, rdy⟩ := Dp.reads I (tdata u) y w ty.dp ry
  have du : (tdata u).depth ≤ 1 := Nat.le_refl _
  refine SeqAt.remove_list_data (xs := ts.map tdata) (d := tdata u) (j := j) ⟨_, eo, rfl, _, rfl⟩ rds rdy (plain_td ts) rfl (by have := Nat.min_le_right (PyData.depthAll (ts.map tdata)) (tdata u).depth; omega) hj (by rw [List.size_toArray, ← le]; exact z) ?_
  refine ⟨.non, _, I.lset (its' := its.eraseIdx j) hl eo ?_ (r.eraseIdx j) ?_, rfl, q⟩
  · rw [List.eraseIdxIfInBounds_toArray]
  · exact Nat.le_trans (List.length_eraseIdx_le _ _) z
end

end My
namespace My
open PySem L2
/-! ### forests drawn from the store -/
theorem kind_at {r : Int} (d0 : 0 ≤ r) (d1 : r < 8) : ∃ c : Nat, atI ("abcdefgh" : Str).cps.toList r = some c ∧ (⟨#[c]⟩ : Str) ∈ kinds := by
  have hc : r = 0 ∨ r = 1 ∨ r = 2 ∨ r = 3 ∨ r = 4 ∨ r = 5 ∨ r = 6 ∨ r = 7 := by omega
  rcases hc with h | h | h | h | h | h | h | h
  all_goals
    subst h
    exact ⟨_, rfl, by decide +kernel⟩
section
variable {P : Program} {w : World} {K : PySem.W.Frag} {mg : Str → Option Value} {base : Heap}
theorem ok_forest (T : Top K mg) : FnOk P w K mg base CX0 3 T.a_Lforest T.d_Lforest ["_law_draws", "_law_most"] (spForest K) := by
  have G_Lnext : FnOk P w K mg base CX0 1 _ _ _ _ := ok_nextD T
  have G_Lmany : FnOk P w K mg base CX0 2 _ _ _ _ := ok_manyD T
  have G_Lworth : FnOk P w K mg base CX0 2 _ _ _ _ := ok_worthD T
  refine T.F_Lforest.ok sc_Lforest (fun vs H Q E h => ?_) (fun cdv A outer s H vs Q E hr h => ?_)
  · obtain ⟨b, L, m, rfl, _⟩ := h
    rfl
  · obtain ⟨b, L, m, rfl, B, m0, m1, q⟩ := h
    refine ⟨_, (pss_cons (ps_set (i := 2) sc_Lforest.nd rfl (.inl rfl) (pe_op op_add pe_int (pe_call G_Lmany hr (by rfl) T.g_Lmany T.F_Lmany.kp T.b_Lmany .nil pass0 (pa_cons (pv 0) (pa_cons pe_int (pa_cons (pe_op op_sub (pv 1) pe_int) pa_nil))))))
      (pss_cons (ps_set (i := 3) sc_Lforest.nd rfl (.inl rfl) (pe_lst pa_nil))
      (pss_cons (ps_for PassesOwn.never rfl (pi_range1 (by rfl) T.m_range (pa_cons (pv 2) pa_nil)) (pg_name (i := 4) sc_Lforest.nd rfl (.inl rfl)) (pss_one (ps_expr (pe_bm PySem.F.plainAttrs_list PySem.F.slot_list_insert PySem.F.type_list_insert mt_insert (pv 3) (pa_cons (pe_call G_Lnext (hr.mono (by decide)) (by rfl) T.g_Lnext T.F_Lnext.kp T.b_Lnext .nil pass0 (pa_cons (pv 0) (pa_cons (pe_op op_add (pv 4) pe_int) pa_nil))) (pa_cons (pv 4) pa_nil))))))
      (pss_cons (ps_par (i := 5) (j := 6) (by rfl) sc_Lforest.nd rfl rfl (by decide) rfl rfl (pa_cons (pe_call G_Lnext (hr.mono (by decide)) (by rfl) T.g_Lnext T.F_Lnext.kp T.b_Lnext .nil pass0 (pa_cons (pv 0) (pa_cons pe_int pa_nil))) (pa_cons (pe_ix ix_list (pe_lst (pa_cons pe_int (pa_cons pe_int (pa_cons pe_int pa_nil)))) (pe_call G_Lnext (hr.mono (by decide)) (by rfl) T.g_Lnext T.F_Lnext.kp T.b_Lnext .nil pass0 (pa_cons (pv 0) (pa_cons pe_int pa_nil))) (fun _ _ => rfl)) pa_nil)) (by rfl))
      (pss_cons (ps_set (i := 7) sc_Lforest.nd rfl (.inl rfl) (pe_lst pa_nil))
      (pss_cons (ps_for PassesOwn.never rfl (pi_range2 (by rfl) T.m_range (pa_cons pe_int (pa_cons (pv 2) pa_nil))) (pg_name (i := 4) sc_Lforest.nd rfl (.inl rfl)) (pss_cons (ps_set (i := 8) sc_Lforest.nd rfl (.inl rfl) (pe_ix ix_list (pe_lst (pa_cons (pe_op op_sub (pv 4) pe_int) (pa_cons pe_int (pa_cons (pe_call G_Lnext (hr.mono (by decide)) (by rfl) T.g_Lnext T.F_Lnext.kp T.b_Lnext .nil pass0 (pa_cons (pv 0) (pa_cons (pv 4) pa_nil))) (pa_cons (pe_callB (call_max2 rfl) (by rfl) T.m_max (by decide +kernel) (pa_cons pe_int (pa_cons (pe_op op_sub (pe_op op_sub (pv 4) pe_int) (pe_call G_Lnext (hr.mono (by decide)) (by rfl) T.g_Lnext T.F_Lnext.kp T.b_Lnext .nil pass0 (pa_cons (pv 0) (pa_cons pe_int pa_nil)))) pa_nil))) (pa_cons (pe_op op_fdivW (pe_op op_sub (pv 4) pe_int) pe_int) pa_nil)))))) (pv 5) (fun _ _ => rfl)))
      (pss_one (ps_if (pt_mid (PW.pt (pw_or (pt_cmpR op_eq (pv 6) pe_int (nomark _)) (pw_or1 (pt_cmpR op_gt (pe_call G_Lnext (hr.mono (by decide)) (by rfl) T.g_Lnext T.F_Lnext.kp T.b_Lnext .nil pass0 (pa_cons (pv 0) (pa_cons (pv 6) pa_nil))) pe_int (nomark _)))))) (pss_one (ps_expr (pe_bm PySem.F.plainAttrs_list PySem.F.slot_list_append PySem.F.type_list_append mt_append (pv 7) (pa_cons (pe_tup (pa_cons (pe_callB (call_min2 rfl) (by rfl) T.m_min (by decide +kernel) (pa_cons (pe_ix ix_list (pv 3) (pv 8) (fun _ _ => rfl)) (pa_cons (pe_ix ix_list (pv 3) (pv 4) (fun _ _ => rfl)) pa_nil))) (pa_cons (pe_callB (call_max2 rfl) (by rfl) T.m_max (by decide +kernel) (pa_cons (pe_ix ix_list (pv 3) (pv 8) (fun _ _ => rfl)) (pa_cons (pe_ix ix_list (pv 3) (pv 4) (fun _ _ => rfl)) pa_nil))) pa_nil))) pa_nil)))) pss_nil))))
      (pss_cons (ps_set (i := 9) sc_Lforest.nd rfl (.inl rfl) (pe_callTy call_tuple_of (by rfl) T.m_tuple (by decide +kernel) (pa_cons (pe_lc (own := [("_law_k", 4)]) (g := gName 4) (tt := tYes) (by rfl) sc_Lforest.nd (pi_range1 (by rfl) T.m_range (pa_cons (pv 2) pa_nil)) (blkOk_by (own := [("_law_k", 4)]) (N := ["_law_draws", "_law_most", "_law_many_here", "_law_names", "_law_k", "_law_way", "_law_rare", "_law_ties", "_law_former", "_law_points"]) (sc := defScope s_Lforest) (by decide +kernel)) (fun _ _ _ _ _ => (pg_name (i := 4) sc_Lforest.nd rfl (.inl rfl))) (fun _ _ _ _ _ => pts_nil) (fun _ _ _ _ _ => (pe_tup (pa_cons (pe_call G_Lworth hr (by rfl) T.g_Lworth T.F_Lworth.kp T.b_Lworth .nil pass0 (pa_cons (pv 0) pa_nil)) (pa_cons (pe_ix ix_str pe_str (pe_call G_Lnext (hr.mono (by decide)) (by rfl) T.g_Lnext T.F_Lnext.kp T.b_Lnext .nil pass0 (pa_cons (pv 0) (pa_cons pe_int pa_nil))) (fun _ _ => rfl)) pa_nil))))) pa_nil)))
      (pss_one (ps_ret (pe_tup (pa_cons (pv 9) (pa_cons (pe_callTy call_tuple_of (by rfl) T.m_tuple (by decide +kernel) (pa_cons (pe_callB cr_sortedPS (by rfl) T.m_sorted (by decide +kernel) (pa_cons (pv 7) pa_nil)) pa_nil)) pa_nil)))))))))))), ?_⟩
    refine ⟨_, rfl, _, rfl, _, _, rfl, rfl, b, L, 8, m - 1, rfl, B, by decide, by omega, by decide, by omega, fun x1 H1 a0 a1 B1 k1 => ⟨_, _, rfl, rfl, Nat.zero_le _, fun nm nnm => ?_⟩⟩
    have nnb : nm ≠ b := B1.ne nnm
    have nnL : nm ≠ L := B1.neL nnm
    have a2 : x1 ≤ m - 1 := by omega
    clear a1
    refine ⟨_, rfl, _, rfl, by omega, by omega, for_range (lo := 0) (n := (1 + x1).toNat) (fun i σ H3 => ∃ (ns : List Int) (y6 : Option V), σ = [some (.ref b), some (.int m), some (.int (1 + x1)), some (.ref nm), y6, none, none, none, none, none] ∧ DrAt H3 b L ∧ H3 nm = some (.lst (ns.map V.int)) ∧ Names i ns ∧ But b H1 H3)
      ⟨[], none, rfl, B1.new nnm, upd_same, ⟨rfl, (fun x z => nomatch z), List.nodup_nil⟩, But.refl.new nnm⟩ ?_ ?_⟩
    · rintro i σ H3 hi ⟨ns, y6, rfl, B3, hnm, hN, k3⟩
      have e0 : (0 : Int) + (i : Int) = (i : Int) := by omega
      refine ⟨_, rfl, .inl ⟨rfl, _, SqL.of hnm⟩, _, rfl, _, rfl, _, _, rfl, rfl, b, L, _, rfl, B3, (by show (0 : Int) < 0 + (i : Int) + 1; omega), (by show (0 : Int) + (i : Int) + 1 < 2 ^ 100; omega), fun x3 H4 z0 z1 B4 k4 => ⟨_, rfl, ?_⟩⟩
      have h4 := k4 _ _ hnm nnb
      refine ⟨nm, _, _, _, rfl, rfl, h4, szl (by rw [List.length_map, hN.1]; omega), z0, by omega, ?_⟩
      refine ⟨ns.take x3.toNat ++ [(i : Int)] ++ ns.drop x3.toNat, _, rfl, B4.put nnb nnL, ?_, names_put hN, fun a o e ne => ?_⟩
      · rw [upd_same, e0, List.map_append, List.map_append, List.map_take, List.map_drop]
        rfl
      · rw [upd_ne (ne_of_none e nnm)]
        exact k4 _ _ (k3 _ _ e ne) ne
    · rintro σ H3 ⟨ns, y6, rfl, B3, hnm, hN, k3⟩
      have nmy : (ns.length : Int) = 1 + x1 := by
        have := hN.1
        omega
      have pk : ∀ k : Int, 0 ≤ k → k < 1 + x1 → ∃ v : Int, atI (ns.map V.int) k = some (.int v) ∧ 0 ≤ v ∧ v < 1 + x1 ∧ ns[k.toNat]? = some v := fun k k0 k1 => by
        have hkl : k.toNat < ns.length := by omega
        have ek : k = ((k.toNat : Nat) : Int) := by omega
        have hg : ns[k.toNat]? = some ns[k.toNat] := List.getElem?_eq_getElem hkl
        have hv : atI (ns.map V.int) ((k.toNat : Nat) : Int) = some (.int ns[k.toNat]) := atI_nat (by rw [List.getElem?_map, hg]; rfl)
        rw [← ek] at hv
        have := hN.2.1 _ (List.mem_of_getElem? hg)
        have := hN.1
        exact ⟨_, hv, by omega, by omega, hg⟩
      refine ⟨_, rfl, b, L, 5, rfl, B3, by decide, by decide, fun sh H4 s0 s1 B4 k4 => ⟨(by show 3 ≤ sizeLine; decide), fun p np => ?_⟩⟩
      refine ⟨_, rfl, b, L, 3, rfl, B4.new np, by decide, by decide, fun rz H5 r0 r1 B5 k5 => ?_⟩
      have hp5 := k5 _ _ upd_same (B4.ne np)
      have pick : ∃ v : Int, atI [V.int 0, V.int 7, V.int 3] rz = some (.int v) ∧ 0 ≤ v ∧ v < 10 := by
        have hc : rz = 0 ∨ rz = 1 ∨ rz = 2 := by omega
        rcases hc with rfl | rfl | rfl
        all_goals exact ⟨_, rfl, by decide, by decide⟩
      obtain ⟨ra, hra, ra0, ra1⟩ := pick
      refine ⟨p, _, _, _, rfl, rfl, SqL.of hp5, hra, _, _, rfl, Nat.zero_le _, fun tl ntl => ?_⟩
      have k35 : But b H3 H5 := ((k4.new np).trans k5)
      have hnm5 := k35 _ _ hnm nnb
      have ntb : tl ≠ b := B5.ne ntl
      have ntL : tl ≠ L := B5.neL ntl
      have ntn : nm ≠ tl := ne_of_none hnm5 ntl
      have hnm' : (upd H5 tl (.lst [])) nm = some (.lst (ns.map V.int)) := by
        rw [upd_ne ntn]
        exact hnm5
      refine ⟨_, rfl, _, _, rfl, ⟨by decide, by decide, by omega, by omega⟩, for_range (lo := 1) (n := _) (fun i σ H6 => ∃ (xs : List V) (ts : List (Int × Int)) (y6 y9 : Option V), σ = [some (.ref b), some (.int m), some (.int (1 + x1)), some (.ref nm), y6, some (.int sh), some (.int ra), some (.ref tl), y9, none] ∧ DrAt H6 b L ∧ H6 nm = some (.lst (ns.map V.int)) ∧ H6 tl = some (.lst xs) ∧ PAll H6 xs ts ∧ ts.length ≤ i ∧ (∀ t ∈ ts, 0 ≤ t.1 ∧ 0 ≤ t.2 ∧ t.1 < 1 + x1 ∧ t.2 < 1 + x1 ∧ t.1 ≤ t.2) ∧ (Tree ts ∧ ts.Nodup ∧ ∀ t ∈ ts, t.1 ∈ ns.take (1 + i) ∧ t.2 ∈ ns.take (1 + i)) ∧ But b H5 H6)
        ⟨[], [], _, none, rfl, B5.new ntl, hnm', upd_same, .nil, Nat.zero_le _, (fun t z => nomatch z), ⟨tree_nil, List.nodup_nil, (fun t z => nomatch z)⟩, But.refl.new ntl⟩ ?_ ?_⟩
      · rintro i σ H5' hi ⟨xs, ts, y6, y9, rfl, B5', hnm5', htl5, pa5, hl5, ht5, ⟨tr5, tn5, tm5⟩, k5'⟩
        have hk0 : (1 : Int) ≤ 1 + (i : Int) := by omega
        have hk1 : (1 : Int) + (i : Int) < 1 + x1 := by omega
        generalize hk : (1 : Int) + (i : Int) = k at hk0 hk1
        refine ⟨_, rfl, _, _, rfl, rfl, _, rfl, _, rfl, b, L, k, rfl, B5', by omega, by omega, fun x5 H6 z0 z1 B6 k6 => ?_⟩
        refine ⟨_, rfl, _, _, rfl, rfl, _, rfl, b, L, 3, rfl, B6, by decide, by decide, fun x6 H7 w0 w1 B7 k7 => ⟨_, _, rfl, rfl, _, _, rfl, _, rfl, _, _, rfl, rfl, _, _, rfl, rfl, wide_ok (by decide) (by decide), (by show 5 ≤ sizeLine; decide), fun p np => ?_⟩⟩
        have pick : ∃ v : Int, atI [V.int (k - 1), V.int 0, V.int x5, V.int (if k - 1 - x6 > 0 then k - 1 - x6 else 0), V.int ((k - 1) / 2)] sh = some (.int v) ∧ 0 ≤ v ∧ v < k := by
          have hc : sh = 0 ∨ sh = 1 ∨ sh = 2 ∨ sh = 3 ∨ sh = 4 := by omega
          rcases hc with h | h | h | h | h
          all_goals subst h
          · exact ⟨_, rfl, by omega, by omega⟩
          · exact ⟨_, rfl, by omega, by omega⟩
          · exact ⟨_, rfl, by omega, by omega⟩
          · refine ⟨_, rfl, ?_, ?_⟩ <;> split <;> omega
          · exact ⟨_, rfl, by omega, by omega⟩
        obtain ⟨u, hu, u0, u1⟩ := pick
        refine ⟨_, rfl, p, _, _, _, rfl, rfl, SqL.of upd_same, hu, ?_⟩
        have B8 : DrAt (upd H7 p (.lst [V.int (k - 1), V.int 0, V.int x5, V.int (if k - 1 - x6 > 0 then k - 1 - x6 else 0), V.int ((k - 1) / 2)])) b L := B7.new np
        have k8 : But b H5' (upd H7 p (.lst [V.int (k - 1), V.int 0, V.int x5, V.int (if k - 1 - x6 > 0 then k - 1 - x6 else 0), V.int ((k - 1) / 2)])) := (k6.trans k7).new np
        generalize (upd H7 p (.lst [V.int (k - 1), V.int 0, V.int x5, V.int (if k - 1 - x6 > 0 then k - 1 - x6 else 0), V.int ((k - 1) / 2)])) = H8 at B8 k8
        have hnm8 := k8 _ _ hnm5' nnb
        have htl8 := k8 _ _ htl5 ntb
        have pa8 := pa5.but B5' k8
        refine ⟨fun _ H9 => DrAt H9 b L ∧ But b H8 H9, ?_, ?_⟩
        · refine ⟨_, rfl, rfl, _, rfl, ite2 (fun _ => ⟨B8, But.refl⟩) (fun e9 => ?_)⟩
          have ra2 : 0 < ra := by
            by_cases z : ra = 0
            · exfalso
              subst z
              exact absurd e9 (by decide)
            · omega
          exact ⟨_, rfl, _, rfl, b, L, ra, rfl, B8, ra2, by omega, fun x8 H9 _ _ B9 k9 => ⟨_, _, rfl, rfl, _, rfl, B9, k9⟩⟩
        · rintro bb H9 ⟨B9, k9⟩
          have hnm9 := k9 _ _ hnm8 nnb
          have htl9 := k9 _ _ htl8 ntb
          have pa9 := pa8.but B8 k9
          have k59 := (k5'.trans k8).trans k9
          refine ite2 (fun _ => ?_) (fun _ => ?_)
          · obtain ⟨v1, hv1, c1, b1, g1⟩ := pk k (by omega) hk1
            obtain ⟨v2, hv2, c2, b2, g2⟩ := pk u u0 (by omega)
            refine ⟨_, rfl, .inl ⟨rfl, _, SqL.of htl9⟩, _, rfl, _, rfl, nm, _, _, _, rfl, rfl, SqL.of hnm9, hv2, _, rfl, _, rfl, nm, _, _, _, rfl, rfl, SqL.of hnm9, hv1, _, _, rfl, _, rfl, _, rfl, nm, _, _, _, rfl, rfl, SqL.of hnm9, hv2, _, rfl, _, rfl, nm, _, _, _, rfl, rfl, SqL.of hnm9, hv1, _, _, rfl, (by show 2 ≤ sizeLine; decide), fun t nt => ?_⟩
            have e1 : (if v1 < v2 then v1 else v2) = (if v2 < v1 then v2 else v1) := by
              split <;> split <;> omega
            have e2 : (if v1 > v2 then v1 else v2) = (if v2 > v1 then v2 else v1) := by
              split <;> split <;> omega
            rw [e1, e2]
            have nt1 : tl ≠ t := ne_of_none htl9 nt
            have nt2 : nm ≠ t := ne_of_none hnm9 nt
            have htl10 : (upd H9 t (.tup [.int (if v2 < v1 then v2 else v1), .int (if v2 > v1 then v2 else v1)])) tl = some (.lst xs) := by
              rw [upd_ne nt1]
              exact htl9
            refine ⟨tl, _, _, rfl, rfl, htl10, szl ?_, ?_⟩
            · have := pa9.length
              omega
            · refine ⟨xs ++ [.ref t], ts ++ [((if v2 < v1 then v2 else v1), (if v2 > v1 then v2 else v1))], _, _, rfl, (B9.new nt).put ntb ntL, ?_, upd_same, ?_, ?_, ?_, ?_, ?_⟩
              · rw [upd_ne ntn, upd_ne nt2]
                exact hnm9
              · exact (PAll.snoc upd_same (pa9.same (same_new nt))).put htl10
              · rw [List.length_append]
                show ts.length + 1 ≤ i + 1
                omega
              · intro t' m'
                rcases List.mem_append.mp m' with m' | m'
                · exact ht5 t' m'
                · rcases List.mem_cons.mp m' with e | m'
                  · subst e
                    dsimp only
                    refine ⟨?_, ?_, ?_, ?_, ?_⟩ <;> split <;> (try split) <;> omega
                  · cases m'
              · have ek : k.toNat = 1 + i := by omega
                have z := tie_more (i := i) (k := 1 + i) (u := u.toNat) hN.2.2 rfl (by rw [← ek]; exact g1) g2 (by omega) tr5 tn5 tm5
                exact z
              · intro a o e ne
                have z := k59 _ _ e ne
                rw [upd_ne (ne_of_none e ntl), upd_ne (ne_of_none z nt)]
                exact z
          · refine ⟨xs, ts, _, _, rfl, B9, hnm9, htl9, pa9, by omega, ht5, ⟨tr5, tn5, fun t m => ?_⟩, k59⟩
            have up : ∀ {x : Int}, x ∈ ns.take (1 + i) → x ∈ ns.take (1 + (i + 1)) := fun {x} m => by
              rw [show 1 + (i + 1) = (1 + i) + 1 from rfl, List.take_succ]
              exact List.mem_append_left _ m
            exact ⟨up (tm5 t m).1, up (tm5 t m).2⟩
      · rintro σ H5' ⟨xs, ts, y6, y9, rfl, B5', hnm5', htl5, pa5, hl5, ht5, ⟨tr5, tn5, tm5⟩, k5'⟩
        refine ⟨_, rfl, _, rfl, by omega, by omega, fun D nD => ?_⟩
        have nDb : D ≠ b := B5'.ne nD
        have nDL : D ≠ L := B5'.neL nD
        refine lc_range (lo := 0) (n := (1 + x1).toNat) (fun i H6 => DrAt H6 b L ∧ ∃ (pts : List (Int × Str)) (ys : List V), H6 D = some (.lst ys) ∧ TdAll K H6 ys (pts.map pdata) ∧ pts.length = i ∧ (∀ p ∈ pts, PtOk p) ∧ But b H5' H6) ⟨B5'.new nD, [], [], upd_same, .nil, rfl, (fun p z => nomatch z), But.refl.new nD⟩ ?_ ?_
        · rintro i H6 hi ⟨B6, pts, ys, hD6, hp6, hl6, ho6, k6⟩
          refine ⟨rfl, yes_ite ?_⟩
          refine ⟨_, rfl, b, L, rfl, B6, fun x H7 hx0 hx1 B7 k7 => ⟨_, rfl, b, L, 8, rfl, B7, by decide, by decide, fun kx H8 kx0 kx1 B8 k8 => ?_⟩⟩
          obtain ⟨c, hc, ck⟩ := kind_at kx0 kx1
          refine ⟨_, _, _, rfl, rfl, (by decide +kernel), hc, (by show 2 ≤ sizeLine; decide), fun p np => ?_⟩
          have s9 := same_new (o := .tup [.int x, .str ⟨#[c]⟩]) np
          have k69 : But b H6 (upd H8 p (.tup [.int x, .str ⟨#[c]⟩])) := (k7.trans k8).new np
          have B9 := B8.new (o := .tup [.int x, .str ⟨#[c]⟩]) np
          have hp9 : (upd H8 p (.tup [.int x, .str ⟨#[c]⟩])) p = some (.tup [.int x, .str ⟨#[c]⟩]) := upd_same
          generalize upd H8 p (.tup [.int x, .str ⟨#[c]⟩]) = H9 at s9 k69 B9 hp9
          have hD9 := k69 _ _ hD6 nDb
          have hl7 := hp6.length
          rw [List.length_map] at hl7
          refine ⟨ys, hD9, szl (by omega), B9.put nDb nDL, pts ++ [(x, ⟨#[c]⟩)], ys ++ [.ref p], upd_same, ?_, ?_, ?_, ?_⟩
          · have t7 : Tups K H9 (upd H9 D (.lst (ys ++ [V.ref p]))) := Tups.of_but (But.refl.put) hD9
            rw [List.map_append]
            exact TdAll.mono t7 ((hp6.mono (B6.tups k69)).append (.cons (Td.pt hp9) .nil))
          · rw [List.length_append, hl6]
            rfl
          · intro p' m'
            rcases List.mem_append.mp m' with m' | m'
            · exact ho6 p' m'
            · rcases List.mem_cons.mp m' with e | m'
              · subst e
                exact ⟨hx0, hx1, ck⟩
              · cases m'
          · intro a o e ne
            rw [upd_ne (ne_of_none e nD)]
            exact k69 _ _ (k6 _ _ e ne) ne
        · rintro H6 ⟨B6, pts, ys, hD6, hp6, hl6, ho6, k6⟩
          refine ⟨D, ys, rfl, .inl ⟨SqL.of hD6, fun a1 n1 => ?_⟩⟩
          have s7 := same_new (o := .tup ys) n1
          have htl7 := s7 _ _ (k6 _ _ htl5 ntb)
          have pa7 := (pa5.but B5' k6).same s7
          refine ⟨_, rfl, _, rfl, tl, xs, _, rfl, SqL.of htl7, pa7.td, fun zs us p8 tdz pu up n8 => ?_⟩
          have s8 := same_new (o := .lst zs) n8
          refine ⟨p8, zs, rfl, .inl ⟨SqL.of upd_same, fun a2 n2 => ?_⟩⟩
          have s9 := same_new (o := .tup zs) n2
          refine ⟨(by show 2 ≤ sizeLine; decide), fun r nr => ?_⟩
          have s10 := same_new (o := .tup [.ref a1, .ref a2]) nr
          have tail : Same H6 _ := (((s7.trans s8).trans s9).trans s10)
          have hd1 := s10 _ _ (s9 _ _ (s8 _ _ (upd_same (H := H6) (a := a1) (o := .tup ys))))
          have hd2 := s10 _ _ (upd_same (H := upd (upd H6 a1 (.tup ys)) p8 (.lst zs)) (a := a2) (o := .tup zs))
          refine q r pts us _ ⟨by omega, by omega, ho6, fun t m' => ?_, ?_, tree_perm (fun t => (pu.mem_iff (a := t)).symm) tr5, pu.nodup_iff.mpr tn5⟩ ?_ ?_ ?_ ((B6.same tail)) ((((k1.trans k3).trans k35).trans k5').trans k6 |>.same tail) ?_
          · have := ht5 t (pu.mem_iff.mp m')
            omega
          · have := pu.length_eq
            omega
          · omega
          · exact fun t m' => (ht5 t (pu.mem_iff.mp m')).2.2.2.2
          · exact up
          · refine .tup (SqT.of upd_same) (.cons (.tup (SqT.of hd1) (hp6.mono (Tups.of_same tail))) (.cons (.tup (SqT.of hd2) ?_) .nil))
            exact tdz.mono (Tups.of_same ((s8.trans s9).trans s10))
end

end My
namespace My
open PySem L2
theorem tabg_same {H H' : Hp} {P : Addr} (s : Same H H') (g : GxR.TabG H P) : GxR.TabG H' P := by
  obtain ⟨ps, h, t⟩ := g
  exact ⟨ps, s _ _ h, t⟩
/-! ### the tables of code made on the way: what is no table stays -/
theorem But.of_same {P : Addr} {H H' : Hp} (s : Same H H') : But P H H' := fun a o e _ => s a o e
theorem But.of_tab {P : Addr} {H H' : Hp} (t : GxR.Tabbed P H H') : But P H H' := fun a o e n => (t.2 a n).trans e
theorem Kp.of_but {P : Addr} {H H' : Hp} (g : GxR.TabG H P) (k : But P H H') : Kp H H' := fun a o e n => by
  refine k a o e fun h => ?_
  subst h
  obtain ⟨ps, hp, _⟩ := g
  rw [hp] at e
  exact n ps (Option.some.inj e).symm
theorem TabG.ne {P a : Addr} {H : Hp} {o : HO} (g : GxR.TabG H P) (e : H a = some o) (n : ∀ ps, o ≠ .tbl ps) : a ≠ P := fun h => by
  subst h
  obtain ⟨ps, hp, _⟩ := g
  rw [hp] at e
  exact n ps (Option.some.inj e).symm
/-! ### tables kept -/
theorem tabg_but {H H' : Hp} {b L P : Addr} (B : DrAt H b L) (k : But b H H') (g : GxR.TabG H P) : GxR.TabG H' P := by
  obtain ⟨kvs, h1⟩ := B.dk
  obtain ⟨ps, hp, t⟩ := g
  exact ⟨ps, k _ _ hp (ne_of hp h1 (by intro z; cases z)), t⟩
theorem tabs_but {H H' : Hp} {b L P : Addr} {q : Str} (B : DrAt H b L) (k : But b H H') (g : LamX.TabS H P q) : LamX.TabS H' P q := by
  obtain ⟨kvs, h1⟩ := B.dk
  obtain ⟨ps, hp, t, e⟩ := g
  refine ⟨ps, k _ _ hp (ne_of hp h1 (by intro z; cases z)), t, fun pos cv hc => ?_⟩
  obtain ⟨c, e1, e2⟩ := e pos cv hc
  exact ⟨c, e1, k _ _ e2 (ne_of e2 h1 (by intro z; cases z))⟩
theorem tabs_same {H H' : Hp} {P : Addr} {q : Str} (s : Same H H') (g : LamX.TabS H P q) : LamX.TabS H' P q := g.ext s
/-- the other table's writing -/
theorem tabs_other {H H' : Hp} {P R : Addr} {q : Str} (n : P ≠ R) (gR : GxR.TabG H R) (k : But R H H') (g : LamX.TabS H P q) : LamX.TabS H' P q := by
  obtain ⟨ps, hp, t, e⟩ := g
  refine ⟨ps, k _ _ hp n, t, fun pos cv hc => ?_⟩
  obtain ⟨c, e1, e2⟩ := e pos cv hc
  exact ⟨c, e1, k _ _ e2 (TabG.ne gR e2 LamX.codeO_ne)⟩
theorem tabg_other {H H' : Hp} {P R : Addr} (n : R ≠ P) (k : But P H H') (g : GxR.TabG H R) : GxR.TabG H' R := by
  obtain ⟨ps, hp, t⟩ := g
  exact ⟨ps, k _ _ hp n, t⟩
theorem TabS.g {H : Hp} {P : Addr} {q : Str} (g : LamX.TabS H P q) : GxR.TabG H P := by
  obtain ⟨ps, hp, t, _⟩ := g
  exact ⟨ps, hp, t⟩
theorem Tups.of_tab {K : PySem.W.Frag} {H H' : Hp} {P : Addr} (g : GxR.TabG H P) (k : But P H H') : Tups K H H' := fun a xs h => by
  rcases h with h | h
  · rcases h with h | ⟨o, h⟩
    · exact .inl (.inl (k _ _ h (TabG.ne g h (by intro ps z; cases z))))
    · exact .inl (.inr ⟨o, k _ _ h (TabG.ne g h (by intro ps z; cases z))⟩)
  · exact .inr h

theorem Tups.of_kp {K : PySem.W.Frag} {H H' : Hp} (k : Kp H H') : Tups K H H' := fun a xs h => by
  rcases h with h | h
  · rcases h with h | ⟨o, h⟩
    · exact .inl (.inl (k _ _ h (by intro ps z; cases z)))
    · exact .inl (.inr ⟨o, k _ _ h (by intro ps z; cases z)⟩)
  · exact .inr h
theorem Kp.same {H H1 H2 : Hp} (k : Kp H H1) (s : Same H1 H2) : Kp H H2 := k.trans (Kp.of_same s)
theorem DrAt.kp {H H' : Hp} {b L : Addr} (B : DrAt H b L) (k : Kp H H') : DrAt H' b L := by
  obtain ⟨ns, ⟨⟨a, l, x, h, r⟩, e⟩⟩ := B.ex
  exact ⟨ns, ⟨a, l, x, k _ _ h (by intro ps z; cases z), r⟩, k _ _ e (by intro ps z; cases z)⟩
/-- each table as it has to be: of generators (none), of lambdas that stand in one def (its name) -/
def Tb (ts : List (Addr × Option Str)) (H : Hp) : Prop := ∀ t ∈ ts, match t.2 with | none => GxR.TabG H t.1 | some q => LamX.TabS H t.1 q
section
variable {ts : List (Addr × Option Str)} {H H' : Hp}
theorem Tb.g {P : Addr} (h : Tb ts H) (m : (P, none) ∈ ts) : GxR.TabG H P := h _ m
theorem Tb.s {P : Addr} {q : Str} (h : Tb ts H) (m : (P, some q) ∈ ts) : LamX.TabS H P q := h _ m
theorem Tb.mk (h : ∀ P, (P, none) ∈ ts → GxR.TabG H P) (k : ∀ P q, (P, some q) ∈ ts → LamX.TabS H P q) : Tb ts H := fun t m => by
  obtain ⟨P, o⟩ := t
  cases o with
  | none => exact h P m
  | some q => exact k P q m
theorem Tb.same (h : Tb ts H) (s : Same H H') : Tb ts H' := .mk (fun P m => tabg_same s (h.g m)) (fun P q m => tabs_same s (h.s m))
theorem Tb.but {b L : Addr} (h : Tb ts H) (B : DrAt H b L) (k : But b H H') : Tb ts H' := .mk (fun P m => tabg_but B k (h.g m)) (fun P q m => tabs_but B k (h.s m))
theorem nd_fst : ∀ {ts : List (Addr × Option Str)}, (ts.map (·.1)).Nodup → ∀ {x y : Addr × Option Str}, x ∈ ts → y ∈ ts → x.1 = y.1 → x = y
  | [], _, _, _, hx, _, _ => nomatch hx
  | t :: r, nd, x, y, hx, hy, e => by
    rw [List.map_cons, List.nodup_cons] at nd
    rcases List.mem_cons.mp hx with e1 | h1
    · rcases List.mem_cons.mp hy with e2 | h2
      · rw [e1, e2]
      · exact absurd (List.mem_map.mpr ⟨y, h2, by rw [← e, e1]⟩) nd.1
    · rcases List.mem_cons.mp hy with e2 | h2
      · exact absurd (List.mem_map.mpr ⟨x, h1, by rw [e, e2]⟩) nd.1
      · exact nd_fst nd.2 h1 h2 e
/-- one of generators was written -/
theorem Tb.tab {P : Addr} (h : Tb ts H) (nd : (ts.map (·.1)).Nodup) (m : (P, none) ∈ ts) (k : But P H H') (g : GxR.TabG H' P) : Tb ts H' := by
  refine .mk (fun R mR => ?_) (fun R q mR => ?_)
  · by_cases e : R = P
    · subst e
      exact g
    · exact tabg_other e k (h.g mR)
  · refine tabs_other (fun e => ?_) (h.g m) k (h.s mR)
    subst e
    cases nd_fst nd m mR rfl
/-- one of lambdas was written -/
theorem Tb.lam {P : Addr} {q : Str} (h : Tb ts H) (nd : (ts.map (·.1)).Nodup) (m : (P, some q) ∈ ts) (k : But P H H') (g : LamX.TabS H' P q) : Tb ts H' := by
  refine .mk (fun R mR => ?_) (fun R q2 mR => ?_)
  · refine tabg_other (fun e => ?_) k (h.g mR)
    subst e
    cases nd_fst nd m mR rfl
  · by_cases e : R = P
    · subst e
      cases nd_fst nd m mR rfl
      exact g
    · exact tabs_other e (TabS.g (h.s m)) k (h.s mR)
end

section
variable {K : PySem.W.Frag} {mg : Str → Option Value}
def Top.tbs (T : Top K mg) : List (Addr × Option Str) := [(T.PA, none), (T.PR, none), (T.PY, none), (T.PN, none)]
theorem Top.mA (T : Top K mg) : (T.PA, none) ∈ T.tbs := List.mem_cons_self
theorem Top.mR (T : Top K mg) : (T.PR, none) ∈ T.tbs := (List.mem_cons_of_mem _ List.mem_cons_self)
theorem Top.mY (T : Top K mg) : (T.PY, none) ∈ T.tbs := (List.mem_cons_of_mem _ (List.mem_cons_of_mem _ List.mem_cons_self))
theorem Top.mN (T : Top K mg) : (T.PN, none) ∈ T.tbs := (List.mem_cons_of_mem _ (List.mem_cons_of_mem _ (List.mem_cons_of_mem _ List.mem_cons_self)))
theorem Top.nd (T : Top K mg) : (T.tbs.map (·.1)).Nodup := T.neP
structure TBs (T : Top K mg) (base : Heap) : Prop where
  A : GxR.TabB base mg T.cA T.PA
  R : GxR.TabB base mg T.cR T.PR
  Y : GxR.TabB base mg T.cY T.PY
  N : GxR.TabB base mg T.cN T.PN
theorem tbs0 (T : Top K mg) {H : Hp} (hA : H T.PA = some (.tbl #[])) (hR : H T.PR = some (.tbl #[])) (hY : H T.PY = some (.tbl #[])) (hN : H T.PN = some (.tbl #[])) : Tb T.tbs H := by
  intro t m
  rcases List.mem_cons.mp m with rfl | m
  · exact ⟨#[], hA, True.intro⟩
  rcases List.mem_cons.mp m with rfl | m
  · exact ⟨#[], hR, True.intro⟩
  rcases List.mem_cons.mp m with rfl | m
  · exact ⟨#[], hY, True.intro⟩
  rw [List.mem_singleton.mp m]
  exact ⟨#[], hN, True.intro⟩
end
theorem mem1 {α : Type} {p a : α} (h : p ∈ [a]) : p = a := List.mem_singleton.mp h
theorem mem2 {α : Type} {p a0 a1 : α} (h : p ∈ [a0, a1]) : p = a0 ∨ p = a1 := (List.mem_cons.mp h).imp id mem1
theorem mem3 {α : Type} {p a0 a1 a2 : α} (h : p ∈ [a0, a1, a2]) : p = a0 ∨ p = a1 ∨ p = a2 := (List.mem_cons.mp h).imp id mem2
theorem mem4 {α : Type} {p a0 a1 a2 a3 : α} (h : p ∈ [a0, a1, a2, a3]) : p = a0 ∨ p = a1 ∨ p = a2 ∨ p = a3 := (List.mem_cons.mp h).imp id mem3
end My
namespace My
open PySem L2
/-! ### rings: who stands above whom -/
inductive Up (ab : List Int) : Int → Int → Nat → Prop
  | root {p : Int} (p0 : 0 ≤ p) (h : ab[p.toNat]? = some p) : Up ab p p 0
  | step {p q t : Int} {n : Nat} (p0 : 0 ≤ p) (h : ab[p.toNat]? = some q) (ne : q ≠ p) (u : Up ab q t n) : Up ab p t (n + 1)
theorem Up.top {ab : List Int} {p t : Int} {n : Nat} (h : Up ab p t n) : 0 ≤ t ∧ ab[t.toNat]? = some t := by
  induction h with
  | root p0 h => exact ⟨p0, h⟩
  | step p0 h ne u ih => exact ih
theorem nat_ne {a b : Int} (ha : 0 ≤ a) (hb : 0 ≤ b) (h : a ≠ b) : a.toNat ≠ b.toNat := by omega
theorem Up.keep {ab : List Int} {o u : Int} (o0 : 0 ≤ o) (ho : ab[o.toNat]? = some o) {p t : Int} {n : Nat} (h : Up ab p t n) : t ≠ o → Up (ab.set o.toNat u) p t n := by
  induction h with
  | root p0 h =>
    intro ne
    refine .root p0 ?_
    rw [List.getElem?_set_ne (nat_ne o0 p0 ne.symm)]
    exact h
  | @step p q t n p0 h ne' w ih =>
    intro ne
    have po : o ≠ p := by
      rintro rfl
      rw [ho] at h
      exact ne' (Option.some.inj h).symm
    refine .step p0 ?_ ne' (ih ne)
    rw [List.getElem?_set_ne (nat_ne o0 p0 po)]
    exact h
theorem Up.move {ab : List Int} {o u : Int} (o0 : 0 ≤ o) (ho : ab[o.toNat]? = some o) (u0 : 0 ≤ u) (hu : ab[u.toNat]? = some u) (nuo : u ≠ o) {p t : Int} {n : Nat} (h : Up ab p t n) : t = o → Up (ab.set o.toNat u) p u (n + 1) := by
  induction h with
  | @root p p0 h =>
    intro e
    subst e
    refine .step p0 (q := u) ?_ nuo (.root u0 ?_)
    · rw [List.getElem?_set_self (List.getElem?_eq_some_iff.mp h).1]
    · rw [List.getElem?_set_ne (nat_ne p0 u0 nuo.symm)]
      exact hu
  | @step p q t n p0 h ne' w ih =>
    intro e
    have po : o ≠ p := by
      rintro rfl
      rw [ho] at h
      exact ne' (Option.some.inj h).symm
    refine .step p0 ?_ ne' (ih e)
    rw [List.getElem?_set_ne (nat_ne o0 p0 po)]
    exact h
structure Uf (ts : Ties) (m : Nat) (ab : List Int) : Prop where
  len : ab.length = m
  ex : ∀ p : Int, 0 ≤ p → p < (m : Int) → ∃ t n, Up ab p t n ∧ Rch ts p t
theorem uf0 (m : Nat) : Uf [] m ((List.range m).map fun (i : Nat) => (i : Int)) := by
  refine ⟨by rw [List.length_map, List.length_range], fun p p0 p1 => ⟨p, 0, .root p0 ?_, .refl⟩⟩
  rw [List.getElem?_map, List.getElem?_range (by omega)]
  show some ((p.toNat : Nat) : Int) = some p
  rw [Int.toNat_of_nonneg p0]
theorem uf_snoc {ts : Ties} {m : Nat} {ab : List Int} (U : Uf ts m ab) {a b u o : Int} {n1 n2 : Nat} (h1 : Up ab a u n1) (r1 : Rch ts a u) (h2 : Up ab b o n2) (r2 : Rch ts b o) (ne : u ≠ o) : Uf (ts ++ [(a, b)]) m (ab.set o.toNat u) := by
  refine ⟨by rw [List.length_set]; exact U.len, fun p p0 p1 => ?_⟩
  obtain ⟨t, n, hp, rp⟩ := U.ex p p0 p1
  have up : ∀ t ∈ ts, t ∈ ts ++ [(a, b)] := fun t m => List.mem_append_left _ m
  by_cases e : t = o
  · refine ⟨u, n + 1, hp.move h2.top.1 h2.top.2 h1.top.1 h1.top.2 ne e, ?_⟩
    subst e
    have ad : Adj (ts ++ [(a, b)]) b a := .inr (List.mem_append_right _ List.mem_cons_self)
    exact (rp.mono up).trans ((r2.symm.mono up).trans ((Rch.one ad).trans (r1.mono up)))
  · exact ⟨t, n, hp.keep h2.top.1 h2.top.2 e, rp.mono up⟩
theorem no_ring {ts : Ties} (T : Tree ts) (nd : ts.Nodup) {i : Nat} {t : Int × Int} (h : ts[i]? = some t) : ¬ Rch (ts.take i) t.1 t.2 := fun r => by
  obtain ⟨hi, e⟩ := List.getElem?_eq_some_iff.mp h
  refine T t (List.mem_of_getElem? h) (r.mono fun u mu => List.mem_filter.mpr ⟨List.mem_of_mem_take mu, decide_eq_true fun z => ?_⟩)
  obtain ⟨j, hj, ej⟩ := List.getElem_of_mem mu
  rw [List.getElem_take] at ej
  rw [List.length_take] at hj
  have pw := List.pairwise_iff_getElem.mp nd j i (by omega) hi (by omega)
  exact pw (by rw [ej, e, z])
theorem atI_up {ab : List Int} {q x : Int} (q0 : 0 ≤ q) (h : ab[q.toNat]? = some x) : atI (ab.map V.int) q = some (.int x) := by
  have e : q = ((q.toNat : Nat) : Int) := (Int.toNat_of_nonneg q0).symm
  rw [e]
  refine atI_nat ?_
  rw [List.getElem?_map, h]
  rfl
theorem ix_up {n : Nat} {q : Int} (q0 : 0 ≤ q) (h : q.toNat < n) : ixN n q = some q.toNat := by
  unfold ixN
  rw [if_pos q0]
  simp
  omega
theorem PAll.kp {H H' : Hp} (k : Kp H H') {vs : List V} {ts : List (Int × Int)} (h : PAll H vs ts) : PAll H' vs ts := h.mono fun _ _ _ e => k _ _ e (by intro ps z; cases z)
theorem PAll.at {H : Hp} : ∀ {vs : List V} {ts : List (Int × Int)}, PAll H vs ts → ∀ {i : Nat} {v : V}, vs[i]? = some v → ∃ t u, v = .ref t ∧ ts[i]? = some u ∧ H t = some (.tup [.int u.1, .int u.2])
  | _, _, .nil, i, v, h => by
    rw [List.getElem?_nil] at h
    cases h
  | _, _, .cons (t := t) (x := x) (y := y) e r, 0, v, h => ⟨t, (x, y), (Option.some.inj h).symm, rfl, e⟩
  | _, _, .cons e r, i + 1, v, h => PAll.at r (i := i) h
section
variable {P : Program} {w : World} {K : PySem.W.Frag} {mg : Str → Option Value} {base : Heap}
def spTopOf : Sp := fun vs H Q _ => ∃ (l : Addr) (ab : List Int) (p t : Int) (n : Nat), vs = [.ref l, .int p] ∧ H l = some (.lst (ab.map V.int)) ∧ Up ab p t n ∧ Q (.int t) H
theorem ok_topof (T : Top K mg) : FnOk P w K mg base CX0 1 T.a_topof T.d_topof ["above", "point"] spTopOf := by
  refine T.F_topof.ok sc_topof (fun vs H Q E h => ?_) (fun cdv A outer s H vs Q E hr h => ?_)
  · obtain ⟨l, ab, p, t, n, rfl, _⟩ := h
    rfl
  · obtain ⟨l, ab, p, t, n, rfl, hl, up, q⟩ := h
    refine ⟨_, (pss_cons (ps_while PassesOwn.never (pt_cmpR op_ne (pe_ix ix_list (pv 0) (pv 1) (fun _ _ => rfl)) (pv 1) (nomark _)) (pss_one (ps_set (i := 1) sc_topof.nd rfl (.inl rfl) (pe_ix ix_list (pv 0) (pv 1) (fun _ _ => rfl)))))
      (pss_one (ps_ret (pv 1)))), ?_⟩
    refine ⟨fun m σ H2 => ∃ x, σ = [some (.ref l), some (.int x)] ∧ H2 = H ∧ Up ab x t m, ⟨n, p, rfl, rfl, up⟩, ?_⟩
    rintro m σ H2 ⟨x, rfl, rfl, ux⟩
    cases ux with
    | root p0 h =>
      refine ⟨_, rfl, _, rfl, l, _, _, _, rfl, rfl, SqL.of hl, atI_up p0 h, _, rfl, rfl, _, rfl, iteNS rfl ?_⟩
      exact ⟨_, rfl, q⟩
    | @step _ y _ m p0 h ne u =>
      refine ⟨_, rfl, _, rfl, l, _, _, _, rfl, rfl, SqL.of hl, atI_up p0 h, _, rfl, rfl, _, rfl, ite2 (fun _ => ?_) (fun z => ?_)⟩
      · refine ⟨fun σ' H' => σ' = [some (.ref l), some (.int y)] ∧ H' = H2, fun σ' H' z => ⟨m, Nat.lt_succ_self m, y, z.1, z.2, u⟩, ?_⟩
        exact ⟨_, rfl, _, rfl, l, _, _, _, rfl, rfl, SqL.of hl, atI_up p0 h, rfl, rfl⟩
      · exfalso
        apply z
        have : decide (V.int y = V.int x) = false := decide_eq_false fun e => ne (V.int.inj e)
        show (!decide (V.int y = V.int x)) = true
        rw [this]
        rfl
def spRing (K : PySem.W.Frag) : Sp := fun vs H Q _ => ∃ (t : Addr) (ys : List V) (ts : Ties) (m : Nat), vs = [.ref t, .int (m : Int)] ∧ H t = some (.tup ys) ∧ PAll H ys ts ∧ m ≤ 100 ∧ Tree ts ∧ ts.Nodup ∧ (∀ u ∈ ts, 0 ≤ u.1 ∧ u.1 < (m : Int) ∧ 0 ≤ u.2 ∧ u.2 < (m : Int)) ∧ ∀ H', Same H H' → Q (.bl false) H'
theorem ok_ring (T : Top K mg) : FnOk P w K mg base CX0 2 T.a_hasring T.d_hasring ["ties", "many"] (spRing K) := by
  have G_topof : FnOk P w K mg base CX0 1 _ _ _ _ := ok_topof T
  refine T.F_hasring.ok sc_hasring (fun vs H Q E h => ?_) (fun cdv A outer s H vs Q E hr h => ?_)
  · obtain ⟨t, ys, ts, m, rfl, _⟩ := h
    rfl
  · obtain ⟨t, ys, ts, m, rfl, ht, pa, hm, tr, nd, bd, q⟩ := h
    refine ⟨_, (pss_cons (ps_set (i := 2) sc_hasring.nd rfl (.inl rfl) (pe_listRg rfl (by rfl) T.m_list (prg_1 (by rfl) T.m_range (pv 1))))
      (pss_cons (ps_for PassesOwn.never rfl (pi_tup (pv 0)) (pg_tup rfl (pgs_cons (pg_name (i := 3) sc_hasring.nd rfl (.inl rfl)) (pgs_cons (pg_name (i := 4) sc_hasring.nd rfl (.inl rfl)) pgs_nil))) (pss_cons (ps_set (i := 5) sc_hasring.nd rfl (.inl rfl) (pe_call G_topof hr (by rfl) T.g_topof T.F_topof.kp T.b_topof .nil pass0 (pa_cons (pv 2) (pa_cons (pv 3) pa_nil))))
      (pss_cons (ps_set (i := 6) sc_hasring.nd rfl (.inl rfl) (pe_call G_topof hr (by rfl) T.g_topof T.F_topof.kp T.b_topof .nil pass0 (pa_cons (pv 2) (pa_cons (pv 4) pa_nil))))
      (pss_cons (ps_if (pt_cmpR op_eq (pv 5) (pv 6) (nomark _)) (pss_one (ps_ret pe_bl)) pss_nil)
      (pss_one (ps_asg (pv 5) (pg_sub (pv 2) (pv 6) set_list)))))))
      (pss_one (ps_ret pe_bl)))), ?_⟩
    refine ⟨_, rfl, _, rfl, RgOk.of_le (by omega) (by omega) (by omega) (by omega), fun l nl => ?_⟩
    have e0 : rgV 0 (m : Int) = ((List.range m).map fun (i : Nat) => (i : Int)).map V.int := by
      unfold rgV
      rw [List.map_map, show ((m : Int) - 0).toNat = m by omega]
      refine List.map_congr_left fun i _ => ?_
      show V.int (0 + (i : Int)) = V.int (i : Int)
      rw [Int.zero_add]
    rw [e0]
    have lts : ys.length = ts.length := pa.length
    refine ⟨_, rfl, t, rfl, ⟨_, SqT.of (same_new nl _ _ ht)⟩, for_tup (xs := ys) (fun i σ H2 => ∃ (ab : List Int) (y3 y4 y5 y6 : Option V), σ = [some (.ref t), some (.int (m : Int)), some (.ref l), y3, y4, y5, y6] ∧ Same H H2 ∧ H2 l = some (.lst (ab.map V.int)) ∧ Uf (ts.take i) m ab) ⟨_, none, none, none, none, rfl, same_new nl, upd_same, uf0 m⟩ (fun i σ H2 _ z => by obtain ⟨_, _, _, _, _, _, z, _⟩ := z; exact SqT.of (z _ _ ht)) ?_ ?_⟩
    · rintro i v σ H2 hv ⟨ab, y3, y4, y5, y6, rfl, s2, hl2, U⟩
      obtain ⟨tt, u, rfl, hu, htt⟩ := pa.at hv
      obtain ⟨a, b⟩ := u
      have mu := bd _ (List.mem_of_getElem? hu)
      dsimp only at mu
      refine ⟨tt, _, rfl, SqT.of (s2 _ _ htt), rfl, _, _, rfl, _, _, rfl, rfl, ?_⟩
      obtain ⟨x1, n1, up1, r1⟩ := U.ex a mu.1 mu.2.1
      obtain ⟨x2, n2, up2, r2⟩ := U.ex b mu.2.2.1 mu.2.2.2
      refine ⟨_, rfl, _, rfl, l, ab, a, x1, n1, rfl, hl2, up1, ?_⟩
      refine ⟨_, rfl, _, rfl, l, ab, b, x2, n2, rfl, hl2, up2, ?_⟩
      have ne : x1 ≠ x2 := fun e => no_ring tr nd hu (r1.trans (e ▸ r2.symm))
      refine ⟨_, rfl, _, rfl, rfl, _, rfl, ite2 (fun z => absurd (V.int.inj (of_decide_eq_true z)) ne) (fun _ => ?_)⟩
      have l2 : x2.toNat < ab.length := (List.getElem?_eq_some_iff.mp up2.top.2).1
      refine ⟨_, rfl, _, rfl, _, rfl, l, _, x2, x2.toNat, rfl, rfl, hl2, ix_up up2.top.1 (by rw [List.length_map]; exact l2), ?_⟩
      refine ⟨ab.set x2.toNat x1, _, _, _, _, rfl, ?_, ?_, ?_⟩
      · intro c o e
        rw [upd_ne (ne_of_none e nl)]
        exact s2 _ _ e
      · rw [upd_same, List.map_set]
      · have e1 : ts.take (i + 1) = ts.take i ++ [(a, b)] := by
          rw [List.take_succ, hu]
          rfl
        rw [e1]
        exact uf_snoc U up1 r1 up2 r2 ne
    · rintro σ H2 ⟨ab, y3, y4, y5, y6, rfl, s2, hl2, U⟩
      exact q H2 s2
end

end My
namespace My
open PySem L2
/-! ### ties as a whole -/
theorem not_whole {x : V} {ps : List V} : ¬ (HT.sIx (x :: ps).length 0 (some 1) = 0 ∧ HT.sIx (x :: ps).length (x :: ps).length none = (x :: ps).length) := by
  rintro ⟨z1, _⟩
  have e1 : HT.sIx (x :: ps).length 0 (some 1) = 1 := by
    rw [show (1 : Int) = ((1 : Nat) : Int) from rfl, HT.sIx_nat, List.length_cons]
    omega
  rw [e1] at z1
  exact nomatch z1
theorem Kp.of_tabd {P : Addr} {H H' : Hp} (g : GxR.TabG H P) (t : GxR.Tabbed P H H') : Kp H H' := Kp.of_but g (But.of_tab t)
theorem Kp.tup {H H' : Hp} (k : Kp H H') {t : Addr} {xs : List V} (e : H t = some (.tup xs)) : H' t = some (.tup xs) := k _ _ e (by intro ps z; cases z)
def ltT (s t : Int × Int) : Prop := s.1 < t.1 ∨ (s.1 = t.1 ∧ s.2 < t.2)
theorem lex_of {s t : Int × Int} (h : ltT s t) : HT.lexLt [s.1, s.2] [t.1, t.2] = true := by
  rw [HT.lexLt_cons, HT.lexLt_cons]
  rcases h with h | ⟨h1, h2⟩
  · rw [if_neg (by omega)]
    exact decide_eq_true h
  · rw [if_pos h1, if_neg (by omega)]
    exact decide_eq_true h2
section
variable {P : Program} {w : World} {K : PySem.W.Frag} {mg : Str → Option Value} {base : Heap}
def spWholeI : Sp := fun vs H Q _ => ∃ i : Int, vs = [.int i] ∧ Q (.bl true) H
theorem ok_wholeI (T : Top K mg) : FnOk P w K mg base CX0 1 T.a_iswhole T.d_iswhole ["thing"] spWholeI := by
  refine T.F_iswhole.ok sc_iswhole (fun vs H Q E h => ?_) (fun cdv A outer s H vs Q E hr h => ?_)
  · obtain ⟨i, rfl, _⟩ := h
    rfl
  · obtain ⟨i, rfl, q⟩ := h
    refine ⟨_, (pss_one (ps_ret (pe_and (pe_callB call_isi (by rfl) T.m_isinstance (by decide +kernel) (pa_cons (pv 0) (pa_cons (pe_bltn (v := .ty "int") (by rfl) T.m_int (by decide +kernel) rfl) pa_nil))) (pe_one (pe_not (pe_callB call_isi (by rfl) T.m_isinstance (by decide +kernel) (pa_cons (pv 0) (pa_cons (pe_bltn (v := .ty "bool") (by rfl) T.m_bool (by decide +kernel) rfl) pa_nil)))))))), ?_⟩
    refine ⟨_, rfl, _, _, _, _, true, rfl, ClsV.ty _, .base (.int i), kit_ty (by decide +kernel), _, rfl, iteT ?_⟩
    exact ⟨_, rfl, _, _, _, _, false, rfl, ClsV.ty _, .base (.int i), kit_ty (by decide +kernel), _, rfl, q⟩
def spWholes (T : Top K mg) : Sp := fun vs H Q _ => ∃ (a : Addr) (ns : List Int), vs = [.ref a] ∧ H a = some (.tup (ns.map V.int)) ∧ Tb T.tbs H ∧ ∀ H', Kp H H' → Tb T.tbs H' → Q (.bl true) H'
theorem ok_wholes (T : Top K mg) (TB : GxR.TabB base mg T.cA T.PA) : FnOk P w K mg base CX0 3 T.a_arewholes T.d_arewholes ["thing"] (spWholes T) := by
  have G_iswhole : FnOk P w K mg base CX0 1 _ _ _ _ := ok_wholeI T
  refine okC T.F_arewholes T.hcA sc_arewholes (fun vs H Q E h => ?_) (fun A outer s H vs Q E hr h => ?_)
  · obtain ⟨a, ns, rfl, _⟩ := h
    rfl
  · obtain ⟨a, ns, rfl, ha, tb, q⟩ := h
    refine ⟨_, (pss_one (ps_ret (pe_and (pe_callB call_isi (by rfl) T.m_isinstance (by decide +kernel) (pa_cons (pv 0) (pa_cons (pe_bltn (v := .ty "tuple") (by rfl) T.m_tuple (by decide +kernel) rfl) pa_nil))) (pe_one (pe_allG (own := [("part", 1)]) hr rfl sc_arewholes.nd (by rfl) T.m_all (by decide +kernel) TB rfl (blkOk_by (own := [("part", 1)]) (N := ["thing", "part"]) (sc := defScope s_arewholes) (by decide +kernel)) (by rfl) (by decide +kernel) (by rfl) (pi_tup (pv 0)) (fun _ _ _ _ _ _ _ => (pg_name (i := 1) sc_arewholes.nd rfl (.inl rfl) (hf := Or.inr rfl))) (fun _ _ _ _ _ _ _ hr' => (pe_call G_iswhole hr' (by rfl) T.g_iswhole T.F_iswhole.kp T.b_iswhole .nil pass0 (pa_cons (pv 1) pa_nil)))))))), ?_⟩
    refine ⟨_, rfl, _, _, _, _, true, rfl, ClsV.ty _, .base (.tup ha), kit_ty (by decide +kernel), _, rfl, iteT ?_⟩
    refine ⟨_, rfl, a, rfl, ⟨_, SqT.of ha⟩, tb.g T.mA, fun H2 tab => ?_⟩
    have k2 := Kp.of_tabd (tb.g T.mA) tab
    have tb2 := tb.tab T.nd T.mA (But.of_tab tab) tab.1
    refine gturns_it (walk_tup (xs := ns.map V.int)) (fun i H3 => Kp H H3 ∧ Tb T.tbs H3) ⟨k2, tb2⟩ (fun i H3 _ z => SqT.of (z.1.tup ha)) ?_ (fun H3 z => q H3 z.1 z.2)
    rintro i x H3 H4 N hi ⟨k3, tb3⟩ ⟨rfl, hx⟩ nx
    rw [List.getElem?_map] at hx
    obtain ⟨u, hu, rfl⟩ := Option.map_eq_some_iff.mp hx
    exact ⟨rfl, _, rfl, u, rfl, true, rfl, iteT (nx _ ⟨k3, tb3⟩)⟩
def spRisT (T : Top K mg) : Sp := fun vs H Q _ => ∃ (a : Addr) (ys : List V) (ts : Ties), vs = [.ref a] ∧ H a = some (.tup ys) ∧ PAll H ys ts ∧ ys ≠ [] ∧ ts.Pairwise ltT ∧ Tb T.tbs H ∧ ∀ H', Kp H H' → Tb T.tbs H' → Q (.bl true) H'
theorem ok_risT (T : Top K mg) (TB : GxR.TabB base mg T.cR T.PR) : FnOk P w K mg base CX0 2 T.a_isrising T.d_isrising ["row"] (spRisT T) := by
  refine okC T.F_isrising T.hcR sc_isrising (fun vs H Q E h => ?_) (fun A outer s H vs Q E hr h => ?_)
  · obtain ⟨a, ys, ts, rfl, _⟩ := h
    rfl
  · obtain ⟨a, ys, ts, rfl, ha, pa, ne, up, tb, q⟩ := h
    cases ys with
    | nil => exact absurd rfl ne
    | cons y0 yr =>
    refine ⟨_, (pss_one (ps_ret (pe_allG (own := [("low", 1), ("high", 2)]) hr rfl sc_isrising.nd (by rfl) T.m_all (by decide +kernel) TB rfl (blkOk_by (own := [("low", 1), ("high", 2)]) (N := ["row", "low", "high"]) (sc := defScope s_isrising) (by decide +kernel)) (by rfl) (by decide +kernel) (by rfl) (RZ.pi_zipA (by rfl) T.m_zip (pa_cons (pv 0) (pa_cons (pe_slice sl_tup (pv 0) (po_some pe_int) po_none) pa_nil))) (fun _ _ _ _ _ _ _ => (pg_tupK (K := K) (n := 2) rfl rfl (pgs_cons (pg_name (i := 1) sc_isrising.nd rfl (.inl rfl) (hf := Or.inr rfl)) (pgs_cons (pg_name (i := 2) sc_isrising.nd rfl (.inl rfl) (hf := Or.inr rfl)) pgs_nil)) rfl)) (fun _ _ _ _ _ _ _ hr' => (pe_cmpR (op_ltTK (K := K) rfl (u0 hr')) (pv 1) (pv 2) (nomark _)))))), ?_⟩
    refine ⟨_, rfl, _, rfl, 1, rfl, a, _, rfl, SqT.of ha, not_whole, fun p np => ?_⟩
    have ec : cutV (y0 :: yr) (some 1) none = yr := cut_tail _ _
    rw [ec]
    have sp := same_new (o := .tup yr) np
    have hp : upd H p (.tup yr) p = some (.tup yr) := upd_same
    have ha1 := sp _ _ ha
    have tb1 := tb.same sp
    have k1 := Kp.of_same sp
    have pa1 := pa.same sp
    generalize upd H p (.tup yr) = H1 at sp hp ha1 tb1 k1 pa1 ⊢
    refine ⟨a, p, _, _, rfl, .inr ⟨SqT.of ha1, SqT.of hp, tb1.g T.mR, fun H2 tab => ?_⟩⟩
    have k2 := Kp.of_tabd (tb1.g T.mR) tab
    have tb2 := tb1.tab T.nd T.mR (But.of_tab tab) tab.1
    refine gturns_it (walk_zipT (xs := y0 :: yr) (ys := yr) (n := yr.length) (by rw [List.length_cons]; omega)) (fun i H3 => Kp H1 H3 ∧ Tb T.tbs H3) ⟨k2, tb2⟩ (fun i H3 _ z => ⟨SqT.of (z.1.tup ha1), SqT.of (z.1.tup hp)⟩) ?_ (fun H3 z => q H3 (k1.trans z.1) z.2)
    rintro i x H3 H4 N hi ⟨k3, tb3⟩ ⟨t, x, y, rfl, nt, rfl, hx, hy⟩ nx
    dsimp only at hx hy
    have hy' : (y0 :: yr)[i + 1]? = some y := hy
    obtain ⟨t1, u, rfl, hu, h1⟩ := (pa1.kp k3).at hx
    obtain ⟨t2, v, rfl, hv, h2⟩ := (pa1.kp k3).at hy'
    have st := same_new (o := .tup [V.ref t1, V.ref t2]) nt
    have lt : ltT u v := by
      obtain ⟨l1, e1⟩ := List.getElem?_eq_some_iff.mp hu
      obtain ⟨l2, e2⟩ := List.getElem?_eq_some_iff.mp hv
      rw [← e1, ← e2]
      exact List.pairwise_iff_getElem.mp up i (i + 1) l1 l2 (by omega)
    refine ⟨t, _, rfl, SqT.of upd_same, rfl, _, _, rfl, _, _, rfl, rfl, rfl, _, rfl, _, rfl, t1, t2, [u.1, u.2], [v.1, v.2], rfl, rfl, SqT.of (st _ _ h1), SqT.of (st _ _ h2), true, ?_, iteT (nx _ ⟨k3.same st, tb3.same st⟩)⟩
    exact congrArg V.bl (lex_of lt)
def spTie (T : Top K mg) : Sp := fun vs H Q _ => ∃ (t : Addr) (i j m : Int), vs = [.ref t, .int m] ∧ H t = some (.tup [.int i, .int j]) ∧ 0 ≤ i ∧ i < j ∧ j < m ∧ Tb T.tbs H ∧ ∀ H', Kp H H' → Tb T.tbs H' → Q (.bl true) H'
theorem ok_tie (T : Top K mg) (TB : GxR.TabB base mg T.cA T.PA) : FnOk P w K mg base CX0 4 T.a_istie T.d_istie ["thing", "many"] (spTie T) := by
  have G_arewholes : FnOk P w K mg base CX0 3 _ _ _ _ := ok_wholes T TB
  refine T.F_istie.ok sc_istie (fun vs H Q E h => ?_) (fun cdv A outer s H vs Q E hr h => ?_)
  · obtain ⟨t, i, j, m, rfl, _⟩ := h
    rfl
  · obtain ⟨t, i, j, m, rfl, ht, i0, ij, jm, tb, q⟩ := h
    refine ⟨_, (pss_one (ps_ret (pe_and (pe_call G_arewholes hr (by rfl) T.g_arewholes T.F_arewholes.kp T.b_arewholes .nil pass0 (pa_cons (pv 0) pa_nil)) (pe_and (pe_cmpR op_eq (pe_callB call_len_seq (by rfl) T.m_len PySem.boot_len (pa_cons (pv 0) pa_nil)) pe_int (nomark _)) (pe_one (pe_chain3 op_le op_lt op_lt pe_int (pe_ix ix_tup (pv 0) pe_int (fun _ _ => rfl)) (pe_ix ix_tup (pv 0) pe_int (fun _ _ => rfl)) (pv 1))))))), ?_⟩
    refine ⟨_, rfl, t, [i, j], rfl, ht, tb, fun H1 k1 tb1 => ⟨_, rfl, iteT ?_⟩⟩
    have h1 := k1.tup ht
    refine ⟨_, rfl, t, _, rfl, .inr (SqT.of h1), rfl, _, rfl, iteT ?_⟩
    refine ⟨_, rfl, t, _, _, _, rfl, rfl, SqT.of h1, atI_nat (j := 0) rfl, _, _, rfl, rfl, true, congrArg V.bl (decide_eq_true i0), iteT ?_⟩
    refine ⟨_, rfl, t, _, _, _, rfl, rfl, SqT.of h1, atI_nat (j := 1) rfl, _, _, rfl, rfl, true, congrArg V.bl (decide_eq_true ij), iteT ?_⟩
    refine ⟨_, rfl, _, _, rfl, rfl, ?_⟩
    dsimp only
    rw [decide_eq_true jm]
    exact q H1 k1 tb1
def spTies (T : Top K mg) : Sp := fun vs H Q _ => ∃ (a : Addr) (ys : List V) (ts : Ties) (m : Nat), vs = [.ref a, .int (m : Int)] ∧ H a = some (.tup ys) ∧ PAll H ys ts ∧ ys ≠ [] ∧ m ≤ 100 ∧ Tree ts ∧ ts.Nodup ∧ ts.Pairwise ltT ∧ (∀ u ∈ ts, 0 ≤ u.1 ∧ u.1 < u.2 ∧ u.2 < (m : Int)) ∧ Tb T.tbs H ∧ ∀ H', Kp H H' → Tb T.tbs H' → Q (.bl true) H'
theorem ok_ties (T : Top K mg) (TA : GxR.TabB base mg T.cA T.PA) (TR : GxR.TabB base mg T.cR T.PR) (TB : GxR.TabB base mg T.cY T.PY) : FnOk P w K mg base CX0 6 T.a_areties T.d_areties ["thing", "many"] (spTies T) := by
  have G_istie : FnOk P w K mg base CX0 4 _ _ _ _ := ok_tie T TA
  have G_isrising : FnOk P w K mg base CX0 2 _ _ _ _ := ok_risT T TR
  have G_hasring : FnOk P w K mg base CX0 2 _ _ _ _ := ok_ring T
  refine okC T.F_areties T.hcY sc_areties (fun vs H Q E h => ?_) (fun A outer s H vs Q E hr h => ?_)
  · obtain ⟨a, ys, ts, m, rfl, _⟩ := h
    rfl
  · obtain ⟨a, ys, ts, m, rfl, ha, pa, ne, hm, tr, nd, up, bd, tb, q⟩ := h
    refine ⟨_, (pss_cons (ps_if (PW.pt (pw_or (pt_not (pt_val (pe_callB call_isi (by rfl) T.m_isinstance (by decide +kernel) (pa_cons (pv 0) (pa_cons (pe_bltn (v := .ty "tuple") (by rfl) T.m_tuple (by decide +kernel) rfl) pa_nil))))) (pw_or1 (pt_not (pt_val (pe_allG (own := [("tie", 2)]) hr rfl sc_areties.nd (by rfl) T.m_all (by decide +kernel) TB rfl (blkOk_by (own := [("tie", 2)]) (N := ["thing", "many", "tie"]) (sc := defScope s_areties) (by decide +kernel)) (by rfl) (by decide +kernel) (by rfl) (pi_tup (pv 0)) (fun _ _ _ _ _ _ _ => (pg_name (i := 2) sc_areties.nd rfl (.inl rfl) (hf := Or.inr rfl))) (fun _ _ _ _ _ _ _ hr' => (pe_call G_istie hr' (by rfl) T.g_istie T.F_istie.kp T.b_istie .nil pass0 (pa_cons (pv 2) (pa_cons (pv 1) pa_nil)))))))))) (pss_one (ps_ret pe_bl)) pss_nil)
      (pss_one (ps_ret (pe_and (pe_call G_isrising (hr.mono (by decide)) (by rfl) T.g_isrising T.F_isrising.kp T.b_isrising .nil pass0 (pa_cons (pv 0) pa_nil)) (pe_one (pe_not (pe_call G_hasring (hr.mono (by decide)) (by rfl) T.g_hasring T.F_hasring.kp T.b_hasring .nil pass0 (pa_cons (pv 0) (pa_cons (pv 1) pa_nil))))))))), ?_⟩
    refine ⟨_, rfl, _, _, _, _, true, rfl, ClsV.ty _, .base (.tup ha), kit_ty (by decide +kernel), _, rfl, iteF ?_⟩
    refine ⟨_, rfl, a, rfl, ⟨_, SqT.of ha⟩, tb.g T.mY, fun H2 tab => ?_⟩
    have k2 := Kp.of_tabd (tb.g T.mY) tab
    have tb2 := tb.tab T.nd T.mY (But.of_tab tab) tab.1
    refine gturns_it (walk_tup (xs := ys)) (fun i H3 => Kp H H3 ∧ Tb T.tbs H3) ⟨k2, tb2⟩ (fun i H3 _ z => SqT.of (z.1.tup ha)) ?_ (fun H3 z => ?_)
    · rintro i x H3 H4 N hi ⟨k3, tb3⟩ ⟨rfl, hx⟩ nx
      obtain ⟨t1, u, rfl, hu, h1⟩ := (pa.kp k3).at hx
      have b1 := bd u (List.mem_of_getElem? hu)
      exact ⟨rfl, _, rfl, _, rfl, t1, u.1, u.2, (m : Int), rfl, h1, b1.1, b1.2.1, b1.2.2, tb3, fun H5 k5 tb5 => ⟨true, rfl, iteT (nx _ ⟨k3.trans k5, tb5⟩)⟩⟩
    · obtain ⟨k3, tb3⟩ := z
      refine ⟨_, rfl, iteF ?_⟩
      refine ⟨_, rfl, a, ys, ts, rfl, k3.tup ha, pa.kp k3, ne, up, tb3, fun H4 k4 tb4 => ⟨_, rfl, iteT ?_⟩⟩
      have k34 := k3.trans k4
      refine ⟨_, rfl, _, rfl, a, ys, ts, m, rfl, k34.tup ha, pa.kp k34, hm, tr, nd, fun u mu => ?_, fun H5 s5 => ⟨_, rfl, q H5 (k34.same s5) (tb4.same s5)⟩⟩
      have b1 := bd u mu
      omega
end

end My
namespace My
open PySem L2
/-! ### words and rows shown -/
def txt (n : Int) : Str := Str.ofString (toString n)
def wtx : V → Str
  | .int n => txt n
  | .str s => s
  | _ => "-"
def WdOk (x : V) : Prop := (∃ n : Int, x = .int n ∧ -(2 ^ 100) < n ∧ n < 2 ^ 100) ∨ (∃ s : Str, x = .str s ∧ s.length ≤ 100) ∨ x = .non
theorem txt_len {i : Int} (h1 : -(2 ^ 100) < i) (h2 : i < 2 ^ 100) : (txt i).length ≤ 41 := by
  show (Str.ofString (toString i)).length ≤ 41
  by_cases h : i < 0
  · rw [PyProof.Rows.len_text_neg h]
    have := PyProof.Rows.toString_length_le (v := 0 - i) (k := 40) (by omega) (by decide) (by omega)
    omega
  · have := PyProof.Rows.toString_length_le (v := i) (k := 40) (by omega) (by decide) (by omega)
    omega
theorem wtx_len {x : V} (h : WdOk x) : (wtx x).length ≤ 100 := by
  rcases h with ⟨n, rfl, h1, h2⟩ | ⟨s, rfl, h⟩ | rfl
  · have := txt_len h1 h2
    show (txt n).length ≤ 100
    omega
  · exact h
  · decide
theorem of_append (a b : String) : Str.ofString a ++ Str.ofString b = Str.ofString (a ++ b) := by
  rw [Str.ofString_eq_toList, Str.ofString_eq_toList, Str.ofString_eq_toList, String.toList_append, List.map_append, ← List.append_toArray]
  rfl
theorem txt_neg {n : Int} (h : n < 0) : ("-" : Str) ++ txt (-n) = txt n := by
  show ("-" : Str) ++ Str.ofString (toString (-n)) = Str.ofString (toString n)
  rw [PyProof.Rows.toString_neg h, Int.zero_sub]
  exact of_append _ _
theorem log_ok {i : Int} (h1 : -(2 ^ 100) < i) (h2 : i < 2 ^ 100) : i.natAbs.log2 < 1920 := by
  by_cases z : i.natAbs = 0
  · rw [z]
    decide
  · rw [Nat.log2_lt z]
    exact Nat.lt_of_lt_of_le (show i.natAbs < 2 ^ 100 by omega) (Nat.pow_le_pow_right (by decide) (by decide))
theorem join_one (sep x : Str) : Txt.join sep [x] = x := rfl
theorem empty_add (x : Str) : ("" : Str) ++ x = x := by
  show Str.mk (("" : Str).cps ++ x.cps) = x
  rw [show ("" : Str).cps = #[] from by decide +kernel, Array.empty_append]
theorem sum_len {m : Nat} : ∀ {ys : List Str}, (∀ y ∈ ys, y.length ≤ m) → (ys.map (fun x => x.length)).sum ≤ ys.length * m
  | [], _ => Nat.zero_le _
  | y :: ys, h => by
    have ih := sum_len (m := m) (ys := ys) fun z hz => h z (List.mem_cons_of_mem _ hz)
    have h1 := h y List.mem_cons_self
    rw [List.map_cons, List.sum_cons, List.length_cons, Nat.succ_mul]
    omega
theorem sqT {K : PySem.W.Frag} {H H' : Hp} {a : Addr} {xs : List V} (h : SqT K H a xs) (s : Same H H') : SqT K H' a xs := Tups.of_same s _ _ h
theorem pow60 : (10 : Int) ^ (60 : Int).toNat = 1000000000000000000000000000000000000000000000000000000000000 := by decide +kernel
def spNum : Sp := fun vs H Q _ => ∃ n : Int, vs = [.int n] ∧ -(2 ^ 100) < n ∧ n < 2 ^ 100 ∧ ∀ H' : Hp, Same H H' → Q (.str (txt n)) H'
def spWord : Sp := fun vs H Q _ => ∃ x : V, vs = [x] ∧ WdOk x ∧ ∀ H' : Hp, Same H H' → Q (.str (wtx x)) H'
def spWords (K : PySem.W.Frag) : Sp := fun vs H Q _ => ∃ (p : Addr) (xs : List V), vs = [.ref p] ∧ SqT K H p xs ∧ xs.length ≤ 200 ∧ (∀ x ∈ xs, WdOk x) ∧ ∀ H' : Hp, Same H H' → Q (.str (Txt.join " " (xs.map wtx))) H'
section
variable {P : Program} {w : World} {K : PySem.W.Frag} {mg : Str → Option Value} {base : Heap}
theorem ok_shownum (T : Top K mg) : FnOk P w K mg base CX0 1 T.a_shownumber T.d_shownumber ["number"] spNum := by
  refine T.F_shownumber.ok sc_shownumber (fun vs H Q E h => ?_) (fun cdv A outer s H vs Q E hr h => ?_)
  · obtain ⟨n, rfl, _⟩ := h
    rfl
  · obtain ⟨n, rfl, n0, n1, q⟩ := h
    refine ⟨_, (pss_cons (ps_set (i := 1) sc_shownumber.nd rfl (.inl rfl) (pe_lst pa_nil))
      (pss_cons (ps_set (i := 2) sc_shownumber.nd rfl (.inl rfl) (pe_callB call_abs (by rfl) T.m_abs (by decide +kernel) (pa_cons (pv 0) pa_nil)))
      (pss_cons (ps_while PassesOwn.never (pt_cmpR op_ge (pv 2) (pe_op op_pow pe_int pe_int) (nomark _)) (pss_cons ps_never
      (pss_one ps_never)))
      (pss_cons (ps_expr (pe_bm PySem.F.plainAttrs_list PySem.F.slot_list_append PySem.F.type_list_append mt_append (pv 1) (pa_cons (pe_callTy call_str_int (by rfl) T.m_str (by decide +kernel) (pa_cons (pv 2) pa_nil)) pa_nil)))
      (pss_one (ps_ret (pe_op op_add_str (pe_ifExp (pt_cmpR op_lt (pv 0) pe_int (nomark _)) pe_str pe_str) (pe_joinRev rfl pe_str (by rfl) T.m_reversed (pv 1))))))))), ?_⟩
    refine ⟨Nat.zero_le _, fun pl npl => ⟨_, rfl, _, rfl, ?_⟩⟩
    have hr1 : -(2 ^ 100) < (if n < 0 then -n else n) := by split <;> omega
    have hr2 : (if n < 0 then -n else n) < 2 ^ 100 := by split <;> omega
    refine ⟨fun m σ' H' => σ' = [some (.int n), some (.ref pl), some (.int (if n < 0 then -n else n)), none] ∧ H' = upd H pl (.lst []), ⟨0, rfl, rfl⟩, ?_⟩
    rintro m σ' H' ⟨rfl, rfl⟩
    refine ⟨_, rfl, _, _, rfl, rfl, ⟨by decide, by decide, by decide⟩, _, _, rfl, rfl, _, rfl, ite2 (fun e => ?_) (fun _ => ?_)⟩
    · exfalso
      have e' := of_decide_eq_true e
      rw [pow60] at e'
      omega
    · refine ⟨_, rfl, .inl ⟨rfl, _, SqL.of upd_same⟩, _, rfl, _, rfl, log_ok hr1 hr2, pl, _, _, rfl, rfl, upd_same, szl (by decide), ?_⟩
      have s1 : Same H (upd (upd H pl (.lst [])) pl (.lst ([] ++ [V.str (Str.ofString (toString (if n < 0 then -n else n)))]))) := fun a o e => by
        rw [upd_ne (ne_of_none e npl), upd_ne (ne_of_none e npl)]
        exact e
      have jo : JoinOk ("" : Str) [txt (if n < 0 then -n else n)].reverse = true := PyProof.Rows.joinOk_of (by
        have := txt_len hr1 hr2
        show (txt (if n < 0 then -n else n)).length + 0 + 1 * 0 ≤ 16777216
        omega)
      have hl := txt_len hr1 hr2
      refine ⟨_, rfl, _, _, rfl, rfl, _, rfl, ite2 (fun e => ?_) (fun e => ?_)⟩
      · have e' : n < 0 := of_decide_eq_true e
        refine ⟨_, rfl, _, rfl, pl, [txt (if n < 0 then -n else n)], rfl, SqL.of upd_same, jo, _, _, rfl, rfl, ?_, ?_⟩
        · show 1 + (txt (if n < 0 then -n else n)).length ≤ sizeLine
          exact sz (by omega)
        · show Q (.str (("-" : Str) ++ txt (if n < 0 then -n else n))) _
          rw [if_pos e', txt_neg e']
          rw [if_pos e'] at s1
          exact q _ s1
      · have e' : ¬ n < 0 := fun z => e (decide_eq_true z)
        refine ⟨_, rfl, _, rfl, pl, [txt (if n < 0 then -n else n)], rfl, SqL.of upd_same, jo, _, _, rfl, rfl, ?_, ?_⟩
        · show 0 + (txt (if n < 0 then -n else n)).length ≤ sizeLine
          exact sz (by omega)
        · show Q (.str (("" : Str) ++ txt (if n < 0 then -n else n))) _
          rw [if_neg e', empty_add]
          rw [if_neg e'] at s1
          exact q _ s1
theorem ok_showword (T : Top K mg) : FnOk P w K mg base CX0 2 T.a_showword T.d_showword ["part"] spWord := by
  have G_shownumber : FnOk P w K mg base CX0 1 _ _ _ _ := ok_shownum T
  refine T.F_showword.ok sc_showword (fun vs H Q E h => ?_) (fun cdv A outer s H vs Q E hr h => ?_)
  · obtain ⟨x, rfl, _⟩ := h
    rfl
  · obtain ⟨x, rfl, hx, q⟩ := h
    refine ⟨_, (pss_cons (ps_if (pt_cmpR op_isN (pv 0) pe_non (nomark _)) (pss_one (ps_ret pe_str)) pss_nil)
      (pss_one (ps_ret (pe_ifExp (pt_val (pe_callB call_isi (by rfl) T.m_isinstance (by decide +kernel) (pa_cons (pv 0) (pa_cons (pe_bltn (v := .ty "str") (by rfl) T.m_str (by decide +kernel) rfl) pa_nil)))) (pv 0) (pe_call G_shownumber hr (by rfl) T.g_shownumber T.F_shownumber.kp T.b_shownumber .nil pass0 (pa_cons (pv 0) pa_nil)))))), ?_⟩
    rcases hx with ⟨n, rfl, n0, n1⟩ | ⟨t, rfl, h⟩ | rfl
    · refine ⟨_, rfl, rfl, _, rfl, iteF ?_⟩
      refine ⟨_, rfl, _, _, _, _, false, rfl, ClsV.ty _, .base (.int _), kit_ty (by decide +kernel), _, rfl, iteF ?_⟩
      exact ⟨_, rfl, n, rfl, n0, n1, fun H' s1 => q H' s1⟩
    · refine ⟨_, rfl, rfl, _, rfl, iteF ?_⟩
      refine ⟨_, rfl, _, _, _, _, true, rfl, ClsV.ty _, .base (.str _), kit_ty (by decide +kernel), _, rfl, iteT ?_⟩
      exact ⟨_, rfl, q H (Same.refl H)⟩
    · exact ⟨_, rfl, rfl, _, rfl, iteT (q H (Same.refl H))⟩
theorem ok_showwords (T : Top K mg) : FnOk P w K mg base CX0 3 T.a_showwords T.d_showwords ["parts"] (spWords K) := by
  have G_showword : FnOk P w K mg base CX0 2 _ _ _ _ := ok_showword T
  refine T.F_showwords.ok sc_showwords (fun vs H Q E h => ?_) (fun cdv A outer s H vs Q E hr h => ?_)
  · obtain ⟨p, xs, rfl, _⟩ := h
    rfl
  · obtain ⟨p, xs, rfl, hS, hl, hw, q⟩ := h
    refine ⟨_, (pss_one (ps_ret (pe_join pe_str (pe_lc (own := [("part", 1)]) (g := gName 1) (tt := tYes) (by rfl) sc_showwords.nd (pi_tup (pv 0)) (blkOk_by (own := [("part", 1)]) (N := ["parts", "part"]) (sc := defScope s_showwords) (by decide +kernel)) (fun _ _ _ _ _ => (pg_name (i := 1) sc_showwords.nd rfl (.inl rfl))) (fun _ _ _ _ _ => pts_nil) (fun _ _ _ _ _ => (pe_call G_showword hr (by rfl) T.g_showword T.F_showword.kp T.b_showword .nil pass0 (pa_cons (pv 1) pa_nil))))))), ?_⟩
    refine ⟨⟨_, rfl⟩, _, rfl, p, rfl, ⟨xs, hS⟩, fun D nD => ?_⟩
    refine lc_tup (xs := xs) (fun i H6 => H6 D = some (.lst ((xs.take i).map fun x => V.str (wtx x))) ∧ Same H H6) ⟨upd_same, same_new nD⟩ (fun i H6 _ z => sqT hS z.2) ?_ ?_
    · rintro i x H6 hx ⟨hD, s6⟩
      have hm := List.mem_of_getElem? hx
      have hi := (List.getElem?_eq_some_iff.mp hx).1
      refine ⟨rfl, yes_ite ?_⟩
      refine ⟨_, rfl, x, rfl, hw x hm, fun H7 s7 => ?_⟩
      refine ⟨_, s7 _ _ hD, szl ?_, ?_, ?_⟩
      · rw [List.length_map, List.length_take]
        omega
      · rw [upd_same, List.take_succ, hx, List.map_append]
        rfl
      · intro a o e
        rw [upd_ne (ne_of_none e nD)]
        exact s7 _ _ (s6 _ _ e)
    · rintro H6 ⟨hD, s6⟩
      rw [List.take_length] at hD
      have e : (xs.map fun x => V.str (wtx x)) = (xs.map wtx).map V.str := by
        rw [List.map_map]
        rfl
      rw [e] at hD
      refine ⟨_, _, _, rfl, rfl, .inl (SqL.of hD), ?_, ?_⟩
      · have z := sum_len (m := 100) (ys := xs.map wtx) fun y hy => by
          obtain ⟨x, hx, rfl⟩ := List.mem_map.mp hy
          exact wtx_len (hw x hx)
        rw [List.length_map] at z
        rw [List.length_map, show (" " : Str).length = 1 from rfl]
        omega
      · exact q H6 s6
end

end My
namespace My
open PySem L2
/-! ### what stands behind a forest -/
theorem TdAll.at {K : PySem.W.Frag} {H : Hp} : ∀ {vs : List V} {ds : List PyData} {i : Nat} {v : V}, TdAll K H vs ds → vs[i]? = some v → ∃ d, ds[i]? = some d ∧ Td K H v d
  | _, _, _, _, .nil, h => nomatch h
  | _, _, 0, v, .cons (d := d) h _, e => ⟨d, rfl, Option.some.inj e ▸ h⟩
  | _, _, i + 1, _, .cons _ k, e => TdAll.at (i := i) k e
theorem pdata_inv {K : PySem.W.Frag} {H : Hp} {v : V} {p : Int × Str} (h : Td K H v (pdata p)) : ∃ a, v = .ref a ∧ SqT K H a [.int p.1, .str p.2] := by
  cases h with
  | tup h k =>
    cases k with
    | cons k1 k =>
      cases k with
      | cons k2 k =>
        cases k
        cases k1
        cases k2
        exact ⟨_, rfl, h⟩
theorem Td.parts {K : PySem.W.Frag} {H : Hp} {f : V} {pts : List (Int × Str)} {ts : List (Int × Int)} (h : Td K H f (fdata pts ts)) : ∃ (a pa ta : Addr) (xs ys : List V), f = .ref a ∧ SqT K H a [.ref pa, .ref ta] ∧ SqT K H pa xs ∧ TdAll K H xs (pts.map pdata) ∧ SqT K H ta ys ∧ TdAll K H ys (ts.map tdata) := by
  unfold fdata at h
  cases h with
  | tup h k =>
    cases k with
    | cons k1 k2 =>
      cases k2 with
      | cons k2 k3 =>
        cases k3
        cases k1 with
        | tup h1 l1 =>
          cases k2 with
          | tup h2 l2 => exact ⟨_, _, _, _, _, rfl, h, h1, l1, h2, l2⟩
theorem tdata_inv {K : PySem.W.Frag} {H : Hp} {v : V} {t : Int × Int} (h : Td K H v (tdata t)) : ∃ a, v = .ref a ∧ SqT K H a [.int t.1, .int t.2] := by
  unfold tdata at h
  cases h with
  | tup h k =>
    cases k with
    | cons k1 k2 =>
      cases k2 with
      | cons k2 k3 =>
        cases k3
        cases k1
        cases k2
        exact ⟨_, rfl, h⟩
/-- a starred argument, the table as it is written -/
theorem pa_starK {X : Cx} {K : PySem.W.Frag} {e : Expr} {es : List Expr} {te : TE} {t : TA} {p : Pos} (hK : X.K = K) (he : PE X e te) (hr : PA X es t) (hs : starEach (.Starred e p :: es) X.env = (true, eval e X.env) :: starEach es X.env := by rfl) : PA X (.Starred e p :: es) (StX.tStar K te t) := by
  subst hK
  exact StX.pa_star he hr hs

/-! ### the rows of a forest -/
def prow (p : Int × Str) : Str := Txt.join " " ["point", txt p.1, p.2]
def trow (t : Int × Int) : Str := Txt.join " " ["tie", txt t.1, txt t.2]
def rowsOf (pts : List (Int × Str)) (ts : List (Int × Int)) : List Str := pts.map prow ++ ts.map trow
structure RwOk (pts : List (Int × Str)) (ts : List (Int × Int)) : Prop where
  few : pts.length ≤ 100
  tl : ts.length ≤ 100
  pok : ∀ p ∈ pts, PtOk p
  tok : ∀ t ∈ ts, 0 ≤ t.1 ∧ 0 ≤ t.2 ∧ t.1 < 100 ∧ t.2 < 100
theorem FrOk.rw {pts : List (Int × Str)} {ts : List (Int × Int)} (h : FrOk pts ts) : RwOk pts ts := ⟨h.few, Nat.le_trans h.tl h.few, h.pok, fun t m => by
  have := h.tok t m
  have := h.few
  omega⟩
theorem join3_len (a b c : Str) : (Txt.join " " [a, b, c]).length = a.length + 1 + b.length + 1 + c.length := by
  show (a.cps ++ (" " : Str).cps ++ b.cps ++ (" " : Str).cps ++ c.cps).size = _
  rw [Array.size_append, Array.size_append, Array.size_append, Array.size_append]
  rfl
theorem kind_len : ∀ k ∈ kinds, k.length ≤ 1 := by decide +kernel
theorem prow_len {p : Int × Str} (h : PtOk p) : (prow p).length ≤ 100 := by
  unfold prow
  rw [join3_len]
  have h1 := txt_len h.1 h.2.1
  have h2 := kind_len _ h.2.2
  have h3 : ("point" : Str).length = 5 := rfl
  omega
theorem trow_len {t : Int × Int} (h : 0 ≤ t.1 ∧ 0 ≤ t.2 ∧ t.1 < 100 ∧ t.2 < 100) : (trow t).length ≤ 100 := by
  unfold trow
  rw [join3_len]
  have h1 := txt_len (i := t.1) (by omega) (by omega)
  have h2 := txt_len (i := t.2) (by omega) (by omega)
  have h3 : ("tie" : Str).length = 3 := rfl
  omega
theorem rows_len {pts : List (Int × Str)} {ts : List (Int × Int)} (h : RwOk pts ts) : ((rowsOf pts ts).map (fun x => x.length)).sum + (rowsOf pts ts).length * ("\n" : Str).length ≤ 16777216 := by
  have z := sum_len (m := 100) (ys := rowsOf pts ts) fun y hy => by
    rcases List.mem_append.mp hy with m | m
    · obtain ⟨p, hp, rfl⟩ := List.mem_map.mp m
      exact prow_len (h.pok p hp)
    · obtain ⟨t, ht, rfl⟩ := List.mem_map.mp m
      exact trow_len (h.tok t ht)
  have l : (rowsOf pts ts).length = pts.length + ts.length := by
    unfold rowsOf
    rw [List.length_append, List.length_map, List.length_map]
  have l1 := h.few
  have l2 := h.tl
  rw [show ("\n" : Str).length = 1 from rfl]
  omega
def spRowsD (K : PySem.W.Frag) : Sp := fun vs H Q _ => ∃ (f : Addr) (pts : List (Int × Str)) (ts : List (Int × Int)), vs = [.ref f] ∧ Td K H (.ref f) (fdata pts ts) ∧ RwOk pts ts ∧
  ∀ (D : Addr) (H' : Hp), Same H H' → H' D = some (.lst ((rowsOf pts ts).map V.str)) → Q (.ref D) H'
def spShowF (K : PySem.W.Frag) : Sp := fun vs H Q _ => ∃ (f : Addr) (pts : List (Int × Str)) (ts : List (Int × Int)), vs = [.ref f] ∧ Td K H (.ref f) (fdata pts ts) ∧ RwOk pts ts ∧
  ∀ H' : Hp, Same H H' → Q (.str (Txt.join "\n" (rowsOf pts ts))) H'
theorem three_all {α : Type} (p : α → Prop) {a b c : α} (ha : p a) (hb : p b) (hc : p c) : ∀ x ∈ [a, b, c], p x := fun x m => by
  rcases List.mem_cons.mp m with rfl | m
  · exact ha
  rcases List.mem_cons.mp m with rfl | m
  · exact hb
  · rw [List.mem_singleton.mp m]
    exact hc
theorem at_map_inv {α : Type} {f : α → PyData} {xs : List α} {i : Nat} {d : PyData} (h : (xs.map f)[i]? = some d) : ∃ x, xs[i]? = some x ∧ d = f x := by
  rw [List.getElem?_map] at h
  cases e : xs[i]? with
  | none =>
    rw [e] at h
    cases h
  | some x =>
    rw [e] at h
    exact ⟨x, rfl, (Option.some.inj h).symm⟩
section
variable {P : Program} {w : World} {K : PySem.W.Frag} {mg : Str → Option Value} {base : Heap}
theorem ok_forestrows (T : Top K mg) : FnOk P w K mg base CX0 4 T.a_forestrows T.d_forestrows ["forest"] (spRowsD K) := by
  have G_showwords : FnOk P w K mg base CX0 3 _ _ _ _ := ok_showwords T
  refine T.F_forestrows.ok sc_forestrows (fun vs H Q E h => ?_) (fun cdv A outer s H vs Q E hr h => ?_)
  · obtain ⟨f, pts, ts, rfl, _⟩ := h
    rfl
  · obtain ⟨f, pts, ts, rfl, td, ok, q⟩ := h
    obtain ⟨f', pa, ta, xs, ys, e, hf, hpa, tpa, hta, tta⟩ := td.parts
    obtain rfl : f = f' := V.ref.inj e
    refine ⟨_, (pss_cons (ps_asg (pv 0) (pg_tup rfl (pgs_cons (pg_name (i := 1) sc_forestrows.nd rfl (.inl rfl)) (pgs_cons (pg_name (i := 2) sc_forestrows.nd rfl (.inl rfl)) pgs_nil))))
      (pss_one (ps_ret (pe_op op_cat (pe_lc (own := [("point", 3)]) (g := gName 3) (tt := tYes) (by rfl) sc_forestrows.nd (pi_tup (pv 1)) (blkOk_by (own := [("point", 3)]) (N := ["forest", "points", "ties", "point", "tie"]) (sc := defScope s_forestrows) (by decide +kernel)) (fun _ _ _ _ _ => (pg_name (i := 3) sc_forestrows.nd rfl (.inl rfl))) (fun _ _ _ _ _ => pts_nil) (fun _ _ _ _ _ => (pe_call G_showwords hr (by rfl) T.g_showwords T.F_showwords.kp T.b_showwords .nil pass0 (pa_cons (pe_tup (pa_cons pe_str (pa_starK (K := K) rfl (pv 3) pa_nil))) pa_nil)))) (pe_lc (own := [("tie", 4)]) (g := gName 4) (tt := tYes) (by rfl) sc_forestrows.nd (pi_tup (pv 2)) (blkOk_by (own := [("tie", 4)]) (N := ["forest", "points", "ties", "point", "tie"]) (sc := defScope s_forestrows) (by decide +kernel)) (fun _ _ _ _ _ => (pg_name (i := 4) sc_forestrows.nd rfl (.inl rfl))) (fun _ _ _ _ _ => pts_nil) (fun _ _ _ _ _ => (pe_call G_showwords hr (by rfl) T.g_showwords T.F_showwords.kp T.b_showwords .nil pass0 (pa_cons (pe_tup (pa_cons pe_str (pa_starK (K := K) rfl (pv 4) pa_nil))) pa_nil)))))))), ?_⟩
    refine ⟨_, rfl, f, _, rfl, hf, rfl, _, _, rfl, _, _, rfl, rfl, ?_⟩
    refine ⟨_, rfl, pa, rfl, ⟨xs, hpa⟩, fun D nD => ?_⟩
    have lx := tpa.length
    rw [List.length_map] at lx
    have ly := tta.length
    rw [List.length_map] at ly
    have ok1 := ok.few
    have ok2 := ok.tl
    refine lc_tup (xs := xs) (fun i H6 => H6 D = some (.lst ((pts.take i).map fun p => V.str (prow p))) ∧ Same H H6) ⟨upd_same, same_new nD⟩ (fun i H6 _ z => sqT hpa z.2) ?_ ?_
    · rintro i x H6 hx ⟨hD, s6⟩
      have hi := (List.getElem?_eq_some_iff.mp hx).1
      obtain ⟨d, hd, tx⟩ := tpa.at hx
      obtain ⟨p, hp, rfl⟩ := at_map_inv hd
      obtain ⟨pp, rfl, hpp⟩ := pdata_inv tx
      have pk := ok.pok p (List.mem_of_getElem? hp)
      refine ⟨rfl, yes_ite ?_⟩
      refine ⟨_, rfl, pp, _, rfl, .inl (sqT hpp s6), (by show 3 ≤ sizeLine; decide), fun t nt => ?_⟩
      refine ⟨t, [.str "point", .int p.1, .str p.2], rfl, SqT.of upd_same, (by show 3 ≤ 200; decide), three_all WdOk (.inr (.inl ⟨_, rfl, by decide +kernel⟩)) (.inl ⟨_, rfl, pk.1, pk.2.1⟩) (.inr (.inl ⟨_, rfl, Nat.le_trans (kind_len _ pk.2.2) (by decide)⟩)), fun H7 s7 => ?_⟩
      refine ⟨_, s7 _ _ (same_new nt _ _ hD), szl ?_, ?_, ?_⟩
      · rw [List.length_map, List.length_take]
        omega
      · rw [upd_same, List.take_succ, hp, List.map_append]
        rfl
      · intro a o e
        rw [upd_ne (ne_of_none e nD)]
        exact s7 _ _ (same_new nt _ _ (s6 _ _ e))
    · rintro H6 ⟨hD, s6⟩
      rw [lx, List.take_length] at hD
      refine ⟨_, rfl, ta, rfl, ⟨ys, sqT hta s6⟩, fun D2 nD2 => ?_⟩
      refine lc_tup (xs := ys) (fun i H7 => H7 D2 = some (.lst ((ts.take i).map fun p => V.str (trow p))) ∧ Same H6 H7) ⟨upd_same, same_new nD2⟩ (fun i H7 _ z => sqT (sqT hta s6) z.2) ?_ ?_
      · rintro i x H7 hx ⟨hD7, s7⟩
        have hi := (List.getElem?_eq_some_iff.mp hx).1
        obtain ⟨d, hd, tx⟩ := tta.at hx
        obtain ⟨p, hp, rfl⟩ := at_map_inv hd
        obtain ⟨pp, rfl, hpp⟩ := tdata_inv tx
        have pk := ok.tok p (List.mem_of_getElem? hp)
        refine ⟨rfl, yes_ite ?_⟩
        refine ⟨_, rfl, pp, _, rfl, .inl (sqT hpp (s6.trans s7)), (by show 3 ≤ sizeLine; decide), fun t nt => ?_⟩
        refine ⟨t, [.str "tie", .int p.1, .int p.2], rfl, SqT.of upd_same, (by show 3 ≤ 200; decide), three_all WdOk (.inr (.inl ⟨_, rfl, by decide +kernel⟩)) (.inl ⟨_, rfl, by omega, by omega⟩) (.inl ⟨_, rfl, by omega, by omega⟩), fun H8 s8 => ?_⟩
        refine ⟨_, s8 _ _ (same_new nt _ _ hD7), szl ?_, ?_, ?_⟩
        · rw [List.length_map, List.length_take]
          omega
        · rw [upd_same, List.take_succ, hp, List.map_append]
          rfl
        · intro a o e
          rw [upd_ne (ne_of_none e nD2)]
          exact s8 _ _ (same_new nt _ _ (s7 _ _ e))
      · rintro H7 ⟨hD7, s7⟩
        rw [ly, List.take_length] at hD7
        refine ⟨D, D2, _, _, rfl, rfl, s7 _ _ hD, hD7, sz ?_, fun p np => ?_⟩
        · rw [List.length_map, List.length_map]
          omega
        · refine q p _ ((s6.trans s7).trans (same_new np)) ?_
          rw [upd_same]
          unfold rowsOf
          rw [List.map_append, List.map_map, List.map_map]
          rfl
theorem ok_showforest (T : Top K mg) : FnOk P w K mg base CX0 5 T.a_showforest T.d_showforest ["forest"] (spShowF K) := by
  have G_forestrows : FnOk P w K mg base CX0 4 _ _ _ _ := ok_forestrows T
  refine T.F_showforest.ok sc_showforest (fun vs H Q E h => ?_) (fun cdv A outer s H vs Q E hr h => ?_)
  · obtain ⟨f, pts, ts, rfl, _⟩ := h
    rfl
  · obtain ⟨f, pts, ts, rfl, td, ok, q⟩ := h
    refine ⟨_, (pss_one (ps_ret (pe_join pe_str (pe_call G_forestrows hr (by rfl) T.g_forestrows T.F_forestrows.kp T.b_forestrows .nil pass0 (pa_cons (pv 0) pa_nil))))), ?_⟩
    refine ⟨⟨_, rfl⟩, _, rfl, f, pts, ts, rfl, td, ok, fun D H1 s1 hD => ?_⟩
    exact ⟨_, D, _, rfl, rfl, .inl (SqL.of hD), rows_len ok, q H1 s1⟩
theorem ok_rowsof (T : Top K mg) : FnOk P w K mg base CX0 1 T.a_Lrowsof T.d_Lrowsof ["_law_forest_here"] (spRowsD K) := by
  refine T.F_Lrowsof.ok sc_Lrowsof (fun vs H Q E h => ?_) (fun cdv A outer s H vs Q E hr h => ?_)
  · obtain ⟨f, pts, ts, rfl, _⟩ := h
    rfl
  · obtain ⟨f, pts, ts, rfl, td, ok, q⟩ := h
    obtain ⟨f', pa, ta, xs, ys, e, hf, hpa, tpa, hta, tta⟩ := td.parts
    obtain rfl : f = f' := V.ref.inj e
    have lx := tpa.length
    rw [List.length_map] at lx
    have ly := tta.length
    rw [List.length_map] at ly
    have ok1 := ok.few
    have ok2 := ok.tl
    refine ⟨_, (pss_cons (ps_set (i := 1) sc_Lrowsof.nd rfl (.inl rfl) (pe_lst pa_nil))
      (pss_cons (ps_for PassesOwn.never rfl (pi_tup (pe_ix ix_tup (pv 0) pe_int (fun _ _ => rfl))) (pg_tup rfl (pgs_cons (pg_name (i := 2) sc_Lrowsof.nd rfl (.inl rfl)) (pgs_cons (pg_name (i := 3) sc_Lrowsof.nd rfl (.inl rfl)) pgs_nil))) (pss_one (ps_expr (pe_bm PySem.F.plainAttrs_list PySem.F.slot_list_append PySem.F.type_list_append mt_append (pv 1) (pa_cons (pe_join pe_str (pe_lst (pa_cons pe_str (pa_cons (pe_callTy call_str_int (by rfl) T.m_str (by decide +kernel) (pa_cons (pv 2) pa_nil)) (pa_cons (pv 3) pa_nil))))) pa_nil)))))
      (pss_cons (ps_for PassesOwn.never rfl (pi_tup (pe_ix ix_tup (pv 0) pe_int (fun _ _ => rfl))) (pg_tup rfl (pgs_cons (pg_name (i := 4) sc_Lrowsof.nd rfl (.inl rfl)) (pgs_cons (pg_name (i := 5) sc_Lrowsof.nd rfl (.inl rfl)) pgs_nil))) (pss_one (ps_expr (pe_bm PySem.F.plainAttrs_list PySem.F.slot_list_append PySem.F.type_list_append mt_append (pv 1) (pa_cons (pe_join pe_str (pe_lst (pa_cons pe_str (pa_cons (pe_callTy call_str_int (by rfl) T.m_str (by decide +kernel) (pa_cons (pv 4) pa_nil)) (pa_cons (pe_callTy call_str_int (by rfl) T.m_str (by decide +kernel) (pa_cons (pv 5) pa_nil)) pa_nil))))) pa_nil)))))
      (pss_one (ps_ret (pv 1)))))), ?_⟩
    refine ⟨Nat.zero_le _, fun D nD => ?_⟩
    have s1 : Same H (upd H D (.lst [])) := same_new nD
    refine ⟨_, rfl, f, _, _, _, rfl, rfl, sqT hf s1, atI_nat (j := 0) rfl, pa, rfl, ⟨xs, sqT hpa s1⟩, for_tup (xs := xs) (fun i σ H6 => ∃ (y2 y3 : Option V), σ = [some (.ref f), some (.ref D), y2, y3, none, none] ∧ H6 D = some (.lst ((pts.take i).map fun p => V.str (prow p))) ∧ Same H H6) ⟨none, none, rfl, upd_same, s1⟩ (fun i σ H6 _ z => by obtain ⟨_, _, _, _, z⟩ := z; exact sqT hpa z) ?_ ?_⟩
    · rintro i x σ H6 hx ⟨y2, y3, rfl, hD, s6⟩
      have hi := (List.getElem?_eq_some_iff.mp hx).1
      obtain ⟨d, hd, tx⟩ := tpa.at hx
      obtain ⟨p, hp, rfl⟩ := at_map_inv hd
      obtain ⟨pp, rfl, hpp⟩ := pdata_inv tx
      have pk := ok.pok p (List.mem_of_getElem? hp)
      refine ⟨pp, _, rfl, sqT hpp s6, rfl, _, _, rfl, _, _, rfl, rfl, ?_⟩
      refine ⟨_, rfl, .inl ⟨rfl, _, SqL.of hD⟩, ⟨_, rfl⟩, _, rfl, _, rfl, log_ok pk.1 pk.2.1, _, rfl, (by show 3 ≤ sizeLine; decide), fun l nl => ?_⟩
      refine ⟨_, l, ["point", txt p.1, p.2], rfl, rfl, .inl (SqL.of upd_same), ?_, ?_⟩
      · have h1 := txt_len pk.1 pk.2.1
        have h2 := kind_len _ pk.2.2
        show 5 + ((txt p.1).length + (p.2.length + 0)) + 3 * 1 ≤ 16777216
        omega
      · refine ⟨D, _, _, rfl, rfl, same_new nl _ _ hD, szl ?_, ?_⟩
        · rw [List.length_map, List.length_take]
          omega
        · refine ⟨_, _, rfl, ?_, ?_⟩
          · rw [upd_same, List.take_succ, hp, List.map_append]
            rfl
          · intro a o e
            rw [upd_ne (ne_of_none e nD)]
            exact same_new nl _ _ (s6 _ _ e)
    · rintro σ H6 ⟨y2, y3, rfl, hD, s6⟩
      rw [lx, List.take_length] at hD
      refine ⟨_, rfl, f, _, _, _, rfl, rfl, sqT hf s6, atI_nat (j := 1) rfl, ta, rfl, ⟨ys, sqT hta s6⟩, for_tup (xs := ys) (fun i σ H7 => ∃ (y4 y5 : Option V), σ = [some (.ref f), some (.ref D), y2, y3, y4, y5] ∧ H7 D = some (.lst ((pts.map fun p => V.str (prow p)) ++ (ts.take i).map fun p => V.str (trow p))) ∧ Same H H7) ⟨none, none, rfl, (by rw [hD]; simp), s6⟩ (fun i σ H7 _ z => by obtain ⟨_, _, _, _, z⟩ := z; exact sqT hta z) ?_ ?_⟩
      · rintro i x σ H7 hx ⟨y4, y5, rfl, hD7, s7⟩
        have hi := (List.getElem?_eq_some_iff.mp hx).1
        obtain ⟨d, hd, tx⟩ := tta.at hx
        obtain ⟨p, hp, rfl⟩ := at_map_inv hd
        obtain ⟨pp, rfl, hpp⟩ := tdata_inv tx
        have pk := ok.tok p (List.mem_of_getElem? hp)
        have b1 : -(2 ^ 100) < p.1 := by omega
        have b2 : p.1 < 2 ^ 100 := by omega
        have b3 : -(2 ^ 100) < p.2 := by omega
        have b4 : p.2 < 2 ^ 100 := by omega
        refine ⟨pp, _, rfl, sqT hpp s7, rfl, _, _, rfl, _, _, rfl, rfl, ?_⟩
        refine ⟨_, rfl, .inl ⟨rfl, _, SqL.of hD7⟩, ⟨_, rfl⟩, _, rfl, _, rfl, log_ok b1 b2, _, rfl, _, rfl, log_ok b3 b4, (by show 3 ≤ sizeLine; decide), fun l nl => ?_⟩
        refine ⟨_, l, ["tie", txt p.1, txt p.2], rfl, rfl, .inl (SqL.of upd_same), ?_, ?_⟩
        · have h1 := txt_len b1 b2
          have h2 := txt_len b3 b4
          show 3 + ((txt p.1).length + ((txt p.2).length + 0)) + 3 * 1 ≤ 16777216
          omega
        · refine ⟨D, _, _, rfl, rfl, same_new nl _ _ hD7, szl ?_, ?_⟩
          · rw [List.length_append, List.length_map, List.length_map, List.length_take]
            omega
          · refine ⟨_, _, rfl, ?_, ?_⟩
            · rw [upd_same, List.take_succ, hp, List.map_append, List.append_assoc]
              rfl
            · intro a o e
              rw [upd_ne (ne_of_none e nD)]
              exact same_new nl _ _ (s7 _ _ e)
      · rintro σ H7 ⟨y4, y5, rfl, hD7, s7⟩
        rw [ly, List.take_length] at hD7
        refine ⟨_, rfl, q D H7 s7 ?_⟩
        rw [hD7]
        unfold rowsOf
        rw [List.map_append, List.map_map, List.map_map]
        rfl
end

end My
namespace My
open PySem L2
/-! ### texts of numbers, words -/
theorem minus_tl : ("-" : Str).cps.toList = [45] := by decide +kernel
theorem sub_minus (x : Str) : Builtin.Str.subAt x "-" 0 = ((TL.tl x).take 1 == [45]) := by
  rw [PySem.StrLaws.subAt_eq, List.drop_zero, show ("-" : Str).length = 1 from rfl, minus_tl]
theorem rp_of {x : Str} {l : List Nat} (h : TL.tl x = 45 :: l) : Txt.removeprefix x "-" = ⟨l.toArray⟩ := by
  have hl : x.length = l.length + 1 := by
    rw [TL.len_tl, h, List.length_cons]
  rw [PySem.StrLaws.removeprefix_eq, sub_minus, show x.cps.toList = 45 :: l from h, show ("-" : Str).length = 1 from rfl, decide_eq_true (show 0 + 1 ≤ x.length by omega), if_pos (by rw [h]; rfl), List.drop_succ_cons, List.drop_zero, List.take_of_length_le (by omega)]
theorem rp_no {x : Str} (h : (TL.tl x).head? ≠ some 45) : Txt.removeprefix x "-" = x := by
  rw [PySem.StrLaws.removeprefix_eq, sub_minus, if_neg]
  intro z
  rw [Bool.and_eq_true] at z
  have z2 := eq_of_beq z.2
  cases e : TL.tl x with
  | nil =>
    rw [e] at z2
    cases z2
  | cons c r =>
    rw [e] at z2 h
    have : c = 45 := (List.cons.inj z2).1
    rw [this] at h
    exact h rfl
theorem sw_of {x : Str} {l : List Nat} (h : TL.tl x = 45 :: l) : Txt.startswith x "-" = true := by
  have hl : x.length = l.length + 1 := by
    rw [TL.len_tl, h, List.length_cons]
  show (decide (0 + 1 ≤ x.length) && Builtin.Str.subAt x "-" 0) = true
  rw [sub_minus, h, decide_eq_true (show 0 + 1 ≤ x.length by omega)]
  rfl
theorem sw_no {x : Str} (h : (TL.tl x).head? ≠ some 45) : Txt.startswith x "-" = false := by
  show (decide (0 + 1 ≤ x.length) && Builtin.Str.subAt x "-" 0) = false
  rw [sub_minus]
  cases e : TL.tl x with
  | nil =>
    rw [show (([] : List Nat).take 1 == [45]) = false from rfl, Bool.and_false]
  | cons c r =>
    rw [e] at h
    have hc : c ≠ 45 := fun z => h (by rw [z]; rfl)
    have : (([c] : List Nat) == [45]) = false := beq_eq_false_iff_ne.mpr fun z => hc (List.cons.inj z).1
    rw [show (c :: r).take 1 = [c] from rfl, this, Bool.and_false]
theorem tl_txt_pos {n : Int} (h : 0 ≤ n) : TL.tl (txt n) = TL.numL n.natAbs := by
  have e : n = ((n.natAbs : Nat) : Int) := by omega
  have z := TL.tl_num n.natAbs
  rw [← e] at z
  exact z
theorem tl_txt_neg {n : Int} (h : n < 0) : TL.tl (txt n) = 45 :: TL.numL n.natAbs := by
  rw [← txt_neg h, TL.tl_append, tl_txt_pos (by omega), show TL.tl ("-" : Str) = [45] from minus_tl, Int.natAbs_neg]
  rfl
theorem num_head {n : Nat} : ∃ c r, TL.numL n = c :: r ∧ 48 ≤ c ∧ c ≤ 57 ∧ (0 < n → c ≠ 48) := by
  induction n using Nat.strongRecOn with
  | _ n ih =>
    by_cases h : n < 10
    · exact ⟨48 + n, [], TL.numL_lt h, by omega, by omega, by omega⟩
    · obtain ⟨c, r, e, h1, h2, h3⟩ := ih (n / 10) (by omega)
      exact ⟨c, r ++ [48 + n % 10], by rw [TL.numL_step (by omega), e]; rfl, h1, h2, fun _ => h3 (by omega)⟩
def figs (n : Int) : Str := ⟨(TL.numL n.natAbs).toArray⟩
theorem txt_head {n : Int} (h : 0 ≤ n) : (TL.tl (txt n)).head? ≠ some 45 := by
  rw [tl_txt_pos h]
  obtain ⟨c, r, e, h1, _⟩ := num_head (n := n.natAbs)
  rw [e]
  intro z
  have : c = 45 := Option.some.inj z
  omega
theorem rp_txt (n : Int) : Txt.removeprefix (txt n) "-" = figs n := by
  by_cases h : n < 0
  · exact rp_of (tl_txt_neg h)
  · rw [rp_no (txt_head (by omega))]
    refine TL.ext_tl ?_
    rw [tl_txt_pos (by omega)]
    rfl
theorem sw_txt (n : Int) : Txt.startswith (txt n) "-" = decide (n < 0) := by
  by_cases h : n < 0
  · rw [sw_of (tl_txt_neg h), decide_eq_true h]
  · rw [sw_no (txt_head (by omega)), decide_eq_false h]
theorem figs_len {n : Int} (h1 : -(2 ^ 100) < n) (h2 : n < 2 ^ 100) : (figs n).length ≤ 41 := by
  have z := txt_len h1 h2
  rw [TL.len_tl] at z ⊢
  by_cases h : n < 0
  · rw [tl_txt_neg h, List.length_cons] at z
    show (TL.numL n.natAbs).length ≤ 41
    omega
  · rw [tl_txt_pos (by omega)] at z
    exact z
theorem fig_tl : ("0123456789" : Str).cps.toList = [48, 49, 50, 51, 52, 53, 54, 55, 56, 57] := by decide +kernel
theorem fig_iff (c : Nat) : decide (c ∈ ("0123456789" : Str).cps.toList) = decide (48 ≤ c ∧ c ≤ 57) := by
  rw [fig_tl]
  refine decide_eq_decide.mpr ⟨fun h => ?_, fun h => ?_⟩
  · simp at h
    omega
  · have : c = 48 ∨ c = 49 ∨ c = 50 ∨ c = 51 ∨ c = 52 ∨ c = 53 ∨ c = 54 ∨ c = 55 ∨ c = 56 ∨ c = 57 := by omega
    simp
    omega
theorem occ_dig : ∀ d : Nat, d < 10 → Builtin.Str.occurrences "0123456789" ⟨#[48 + d]⟩ 0 ("0123456789" : Str).length 1 = [d] := by decide +kernel
/-- words that are no numbers -/
def wrds : List Str := "point" :: (evs ++ kinds)
theorem wrds_ok : ∀ s ∈ wrds, 32 ∉ s.cps.toList ∧ (match s.cps.toList with | c :: _ => decide (97 ≤ c) && decide (c ≤ 122) | [] => false) = true ∧ s.length ≤ 10 ∧ (reprText s).length ≤ 100 ∧ s ≠ "-" ∧ s ≠ "" := by decide +kernel
theorem wrds_head {s : Str} (h : s ∈ wrds) : ∃ c r, TL.tl s = c :: r ∧ 97 ≤ c ∧ c ≤ 122 := by
  have z := (wrds_ok s h).2.1
  cases e : s.cps.toList with
  | nil =>
    rw [e] at z
    cases z
  | cons c r =>
    rw [e] at z
    rw [Bool.and_eq_true] at z
    exact ⟨c, r, e, of_decide_eq_true z.1, of_decide_eq_true z.2⟩
def RdOk (x : V) : Prop := (∃ n : Int, x = .int n ∧ -(2 ^ 100) < n ∧ n < 2 ^ 100) ∨ (∃ s : Str, x = .str s ∧ s ∈ wrds) ∨ x = .non
theorem RdOk.wd {x : V} (h : RdOk x) : WdOk x := by
  rcases h with ⟨n, rfl, h⟩ | ⟨s, rfl, h⟩ | rfl
  · exact .inl ⟨n, rfl, h⟩
  · have := (wrds_ok s h).2.2.1
    exact .inr (.inl ⟨s, rfl, by omega⟩)
  · exact .inr (.inr rfl)
theorem RdOk.free {x : V} (h : RdOk x) : 32 ∉ TL.tl (wtx x) := by
  rcases h with ⟨n, rfl, h⟩ | ⟨s, rfl, h⟩ | rfl
  · exact PyProof.Rows.int_text_free' 32 ⟨by decide, by decide⟩ n
  · exact (wrds_ok s h).1
  · show 32 ∉ ("-" : Str).cps.toList
    rw [minus_tl]
    decide
theorem split_words {xs : List V} (ne : xs ≠ []) (h : ∀ x ∈ xs, RdOk x) : Txt.split (Txt.join " " (xs.map wtx)) " " = xs.map wtx := by
  refine TL.split_join (s := 32) (S := []) (by decide +kernel) (by decide +kernel) (fun e => ne (List.map_eq_nil_iff.mp e)) fun p hp => ?_
  obtain ⟨x, hx, rfl⟩ := List.mem_map.mp hp
  exact (h x hx).free

/-! ### words read -/
section
variable {P : Program} {w : World} {K : PySem.W.Frag} {mg : Str → Option Value} {base : Heap}
def spIsNum (T : Top K mg) : Sp := fun vs H Q _ => ∃ x : V, vs = [.str (wtx x)] ∧ RdOk x ∧ x ≠ .non ∧ Tb T.tbs H ∧ ∀ H', Kp H H' → Tb T.tbs H' → Q (.bl (wholeB x)) H'
theorem ok_isnum (T : Top K mg) (TB : GxR.TabB base mg T.cN T.PN) : FnOk P w K mg base CX0 2 T.a_isnumber T.d_isnumber ["word"] (spIsNum T) := by
  refine okC T.F_isnumber T.hcN sc_isnumber (fun vs H Q E h => ?_) (fun A outer s H vs Q E hr h => ?_)
  · obtain ⟨x, rfl, _⟩ := h
    rfl
  · obtain ⟨x, rfl, rx, nx, tb, q⟩ := h
    refine ⟨_, (pss_cons (ps_set (i := 1) sc_isnumber.nd rfl (.inl rfl) (pe_m1 PySem.F.slot_str_removeprefix PySem.F.type_str_removeprefix mt_removeprefix (pv 0) pe_str))
      (pss_cons (ps_if (PW.pt (pw_or (pt_cmpR op_eq (pv 1) pe_str (nomark _)) (pw_or1 (pt_not (pt_val (pe_allG (own := [("sign", 2)]) hr rfl sc_isnumber.nd (by rfl) T.m_all (by decide +kernel) TB rfl (blkOk_by (own := [("sign", 2)]) (N := ["word", "figures", "sign"]) (sc := defScope s_isnumber) (by decide +kernel)) (by rfl) (by decide +kernel) (by rfl) (pi_str (pv 1)) (fun _ _ _ _ _ _ _ => (pg_name (i := 2) sc_isnumber.nd rfl (.inl rfl) (hf := Or.inr rfl))) (fun _ _ _ _ _ _ _ hr' => (pe_cmpR op_in_sign (pv 2) (pe_glob (v := .str "0123456789") (by rfl) T.v_FIGURES ⟨_, rfl⟩) (by rfl))))))))) (pss_one (ps_ret pe_bl)) pss_nil)
      (pss_one (ps_ret (pe_or (pe_cmpR op_eq (pv 0) pe_str (nomark _)) (pe_one (pe_cmpR op_ne (pe_ix ix_str (pv 1) pe_int (fun _ _ => rfl)) pe_str (nomark _)))))))), ?_⟩
    rcases rx with ⟨n, rfl, h1, h2⟩ | ⟨z, rfl, hz⟩ | rfl
    · have hl := txt_len h1 h2
      have fl := figs_len h1 h2
      refine ⟨_, rfl, ⟨_, rfl⟩, _, _, rfl, rfl, sz (by show (txt n).length ≤ 100000; omega), ?_⟩
      rw [show Txt.removeprefix (wtx (.int n)) "-" = figs n from rp_txt n]
      obtain ⟨c, r, ec, c1, c2, c3⟩ := num_head (n := n.natAbs)
      have fne : figs n ≠ "" := fun e => by
        have z := congrArg (fun x : Str => x.cps.toList) e
        have z : TL.numL n.natAbs = ("" : Str).cps.toList := z
        rw [ec] at z
        cases z
      refine ⟨_, rfl, rfl, _, rfl, ite2 (fun z => absurd (V.str.inj (of_decide_eq_true z)) fne) (fun _ => ?_)⟩
      refine ⟨_, rfl, _, rfl, tb.g T.mN, fun H2 tab => ?_⟩
      have k2 := Kp.of_tab (tb.g T.mN) tab
      have tb2 := tb.tab T.nd T.mN (But.of_tab tab) tab.1
      refine gturns_it walk_str (fun i H3 => Kp H H3 ∧ Tb T.tbs H3) ⟨k2, tb2⟩ (fun _ _ _ _ => True.intro) ?_ ?_
      · rintro i v H3 H4 N hi ⟨k3, tb3⟩ ⟨rfl, cc, hcc, rfl⟩ nxt
        have mc : cc ∈ TL.numL n.natAbs := by
          have z : (TL.numL n.natAbs).toArray[i]? = some cc := hcc
          rw [List.getElem?_toArray] at z
          exact List.mem_of_getElem? z
        have dg := TL.numL_digits n.natAbs cc mc
        refine ⟨rfl, _, rfl, cc, "0123456789", rfl, rfl, true, ?_, iteT (nxt _ ⟨k3, tb3⟩)⟩
        rw [fig_iff, decide_eq_true (show 48 ≤ cc ∧ cc ≤ 57 by omega)]
      · rintro H3 ⟨k3, tb3⟩
        refine ⟨_, rfl, iteF ?_⟩
        refine ⟨_, rfl, rfl, _, rfl, ite2 (fun _ => q H3 k3 tb3) (fun z => ?_)⟩
        have npos : 0 < n.natAbs := by
          by_cases e : n = 0
          · exfalso
            apply z
            subst e
            decide +kernel
          · omega
        have hat : atI (figs n).cps.toList 0 = some c := by
          show atI (TL.numL n.natAbs) 0 = some c
          rw [ec]
          exact atI_nat (j := 0) rfl
        refine ⟨_, rfl, _, _, c, rfl, rfl, sz (by omega), hat, rfl, ?_⟩
        have z0 : (⟨#[c]⟩ : Str) ≠ "0" := fun e => by
          have y := congrArg (fun x : Str => x.cps.toList) e
          have y : [c] = ("0" : Str).cps.toList := y
          rw [show ("0" : Str).cps.toList = [48] by decide +kernel] at y
          exact c3 npos (List.cons.inj y).1
        show Q (.bl (!decide (V.str ⟨#[c]⟩ = V.str "0"))) H3
        rw [decide_eq_false fun e => z0 (V.str.inj e)]
        exact q H3 k3 tb3
    · obtain ⟨c, r, ec, c1, c2⟩ := wrds_head hz
      have wl := (wrds_ok z hz).2.2.1
      refine ⟨_, rfl, ⟨_, rfl⟩, _, _, rfl, rfl, sz (by show z.length ≤ 100000; omega), ?_⟩
      rw [show Txt.removeprefix (wtx (.str z)) "-" = z from rp_no (by show (TL.tl z).head? ≠ some 45; rw [ec]; intro e; have : c = 45 := Option.some.inj e; omega)]
      refine ⟨_, rfl, rfl, _, rfl, ite2 (fun e => absurd (V.str.inj (of_decide_eq_true e)) (wrds_ok z hz).2.2.2.2.2) (fun _ => ?_)⟩
      refine ⟨_, rfl, _, rfl, tb.g T.mN, fun H2 tab => ?_⟩
      have k2 := Kp.of_tab (tb.g T.mN) tab
      have tb2 := tb.tab T.nd T.mN (But.of_tab tab) tab.1
      have szc : z.cps.size = r.length + 1 := by
        have y := congrArg List.length ec
        rw [List.length_cons, Array.length_toList] at y
        exact y
      refine gturns_it walk_str (fun i H3 => i = 0 ∧ Kp H H3 ∧ Tb T.tbs H3) ⟨rfl, k2, tb2⟩ (fun _ _ _ _ => True.intro) ?_ ?_
      · rintro i v H3 H4 N hi ⟨rfl, k3, tb3⟩ ⟨rfl, cc, hcc, rfl⟩ nxt
        have ecc : cc = c := by
          have y : z.cps.toList[0]? = some cc := by
            rw [Array.getElem?_toList]
            exact hcc
          rw [show z.cps.toList = c :: r from ec] at y
          exact (Option.some.inj y).symm
        subst ecc
        refine ⟨rfl, _, rfl, cc, "0123456789", rfl, rfl, false, ?_, iteF ?_⟩
        · rw [fig_iff, decide_eq_false (by omega)]
        · exact ⟨_, rfl, iteT (q _ k3 tb3)⟩
      · rintro H3 ⟨e, _⟩
        omega
    · exact absurd rfl nx
def spRdNum : Sp := fun vs H Q _ => ∃ n : Int, vs = [.str (txt n)] ∧ -(2 ^ 100) < n ∧ n < 2 ^ 100 ∧ Q (.int n) H
theorem ok_rdnum (T : Top K mg) : FnOk P w K mg base CX0 1 T.a_readnumber T.d_readnumber ["word"] spRdNum := by
  refine T.F_readnumber.ok sc_readnumber (fun vs H Q E h => ?_) (fun cdv A outer s H vs Q E hr h => ?_)
  · obtain ⟨n, rfl, _⟩ := h
    rfl
  · obtain ⟨n, rfl, h1, h2, q⟩ := h
    have hl := txt_len h1 h2
    have fl := figs_len h1 h2
    refine ⟨_, (pss_cons (ps_set (i := 1) sc_readnumber.nd rfl (.inl rfl) pe_int)
      (pss_cons (ps_for PassesOwn.never rfl (pi_str (pe_m1 PySem.F.slot_str_removeprefix PySem.F.type_str_removeprefix mt_removeprefix (pv 0) pe_str)) (pg_name (i := 2) sc_readnumber.nd rfl (.inl rfl)) (pss_one (ps_set (i := 1) sc_readnumber.nd rfl (.inl rfl) (pe_op op_add (pe_op op_mul pe_int (pv 1)) (pe_m1 PySem.F.slot_str_index PySem.F.type_str_index mt_sindex (pe_glob (v := .str "0123456789") (by rfl) T.v_FIGURES ⟨_, rfl⟩) (pv 2))))))
      (pss_one (ps_ret (pe_ifExp (pt_val (pe_m1 PySem.F.slot_str_startswith PySem.F.type_str_startswith mt_startswith (pv 0) pe_str)) (pe_un un_neg (pv 1)) (pv 1)))))), ?_⟩
    refine ⟨_, rfl, ⟨_, rfl⟩, _, _, rfl, rfl, sz (by omega), ?_⟩
    rw [rp_txt]
    have szf : (figs n).cps.size = (TL.numL n.natAbs).length := by
      show (TL.numL n.natAbs).toArray.size = _
      rw [List.size_toArray]
    refine ⟨_, rfl, for_it walk_str (fun i σ H1 => ∃ y2 : Option V, σ = [some (.str (txt n)), some (.int (((TL.numL n.natAbs).take i).foldl (fun (t : Int) (c : Nat) => t * 10 + ((c : Int) - 48)) 0)), y2] ∧ H1 = H) ⟨_, rfl, rfl⟩ (fun _ _ _ _ _ => True.intro) ?_ ?_⟩
    · rintro i v σ H3 H4 hi ⟨y2, rfl, rfl⟩ ⟨rfl, cc, hcc, rfl⟩
      have hc : (TL.numL n.natAbs)[i]? = some cc := by
        have z : (TL.numL n.natAbs).toArray[i]? = some cc := hcc
        rw [List.getElem?_toArray] at z
        exact z
      have dg := TL.numL_digits n.natAbs cc (List.mem_of_getElem? hc)
      obtain ⟨d, ed⟩ : ∃ d, cc = 48 + d := ⟨cc - 48, by omega⟩
      have od := occ_dig d (by omega)
      rw [← ed] at od
      refine ⟨_, rfl, _, _, rfl, rfl, .inl ⟨by decide, by decide⟩, ⟨_, rfl⟩, _, rfl, _, _, d, [], rfl, rfl, od, _, _, rfl, rfl, some (.str ⟨#[cc]⟩), ?_, rfl⟩
      rw [List.take_succ, hc]
      show _ = [some (V.str (txt n)), some (V.int ((((TL.numL n.natAbs).take i) ++ [cc]).foldl (fun (t : Int) (c : Nat) => t * 10 + ((c : Int) - 48)) 0)), some (V.str ⟨#[cc]⟩)]
      rw [List.foldl_append, List.foldl_cons, List.foldl_nil]
      have e : ∀ t : Int, 10 * t + (d : Int) = t * 10 + ((cc : Int) - 48) := fun t => by omega
      show [some (V.str (txt n)), some (V.int (10 * _ + ((d : Nat) : Int))), some (V.str ⟨#[cc]⟩)] = _
      rw [e]
    · rintro σ H1 ⟨y2, rfl, rfl⟩
      rw [szf, List.take_length, TL.fold_num]
      refine ⟨_, rfl, ⟨_, rfl⟩, _, _, rfl, rfl, _, rfl, ?_⟩
      rw [sw_txt]
      by_cases hn : n < 0
      · rw [decide_eq_true hn]
        refine iteT ⟨_, rfl, _, rfl, ?_⟩
        show Q (.int (-((n.natAbs : Nat) : Int))) H1
        rw [show -((n.natAbs : Nat) : Int) = n by omega]
        exact q
      · rw [decide_eq_false hn]
        refine iteF ⟨_, rfl, ?_⟩
        show Q (.int ((n.natAbs : Nat) : Int)) H1
        rw [show ((n.natAbs : Nat) : Int) = n by omega]
        exact q
def spRdWord (T : Top K mg) : Sp := fun vs H Q _ => ∃ x : V, vs = [.str (wtx x)] ∧ RdOk x ∧ Tb T.tbs H ∧ ∀ H', Kp H H' → Tb T.tbs H' → Q x H'
theorem txt_dash (n : Int) : txt n ≠ "-" := fun e => by
  have z := congrArg (fun x : Str => x.cps.toList) e
  have z : TL.tl (txt n) = ("-" : Str).cps.toList := z
  rw [minus_tl] at z
  obtain ⟨c, r, ec, c1, c2, _⟩ := num_head (n := n.natAbs)
  by_cases h : n < 0
  · rw [tl_txt_neg h, ec] at z
    cases z
  · rw [tl_txt_pos (by omega), ec] at z
    have := (List.cons.inj z).1
    omega
theorem ok_rdword (T : Top K mg) (TB : GxR.TabB base mg T.cN T.PN) : FnOk P w K mg base CX0 3 T.a_readword T.d_readword ["word"] (spRdWord T) := by
  have G_isnumber : FnOk P w K mg base CX0 2 _ _ _ _ := ok_isnum T TB
  have G_readnumber : FnOk P w K mg base CX0 1 _ _ _ _ := ok_rdnum T
  refine T.F_readword.ok sc_readword (fun vs H Q E h => ?_) (fun cdv A outer s H vs Q E hr h => ?_)
  · obtain ⟨x, rfl, _⟩ := h
    rfl
  · obtain ⟨x, rfl, rx, tb, q⟩ := h
    refine ⟨_, (pss_cons (ps_if (pt_cmpR op_eq (pv 0) pe_str (nomark _)) (pss_one (ps_ret pe_non)) pss_nil)
      (pss_one (ps_ret (pe_ifExp (pt_val (pe_call G_isnumber hr (by rfl) T.g_isnumber T.F_isnumber.kp T.b_isnumber .nil pass0 (pa_cons (pv 0) pa_nil))) (pe_call G_readnumber (hr.mono (by decide)) (by rfl) T.g_readnumber T.F_readnumber.kp T.b_readnumber .nil pass0 (pa_cons (pv 0) pa_nil)) (pv 0))))), ?_⟩
    have rx' := rx
    rcases rx with ⟨n, rfl, h1, h2⟩ | ⟨z, rfl, hz⟩ | rfl
    · refine ⟨_, rfl, rfl, _, rfl, ite2 (fun e => absurd (V.str.inj (of_decide_eq_true e)) (txt_dash n)) (fun _ => ?_)⟩
      refine ⟨_, rfl, .int n, rfl, rx', (fun e => nomatch e), tb, fun H1 k1 tb1 => ⟨_, rfl, iteT ?_⟩⟩
      exact ⟨_, rfl, n, rfl, h1, h2, q H1 k1 tb1⟩
    · refine ⟨_, rfl, rfl, _, rfl, ite2 (fun e => absurd (V.str.inj (of_decide_eq_true e)) (wrds_ok z hz).2.2.2.2.1) (fun _ => ?_)⟩
      refine ⟨_, rfl, .str z, rfl, rx', (fun e => nomatch e), tb, fun H1 k1 tb1 => ⟨_, rfl, iteF ?_⟩⟩
      exact ⟨_, rfl, q H1 k1 tb1⟩
    · exact ⟨_, rfl, rfl, _, rfl, iteT (q H (Kp.refl H) tb)⟩
def spRdWords (T : Top K mg) : Sp := fun vs H Q _ => ∃ xs : List V, vs = [.str (Txt.join " " (xs.map wtx))] ∧ xs ≠ [] ∧ xs.length ≤ 10 ∧ (∀ x ∈ xs, RdOk x) ∧ Tb T.tbs H ∧ ∀ (r : Addr) (H' : Hp), Kp H H' → Tb T.tbs H' → H' r = some (.tup xs) → Q (.ref r) H'
theorem join_len {ys : List Str} : (Txt.join " " ys).length ≤ (ys.map (fun x => x.length)).sum + ys.length := by
  rw [TL.join_eq]
  induction ys with
  | nil => exact Nat.zero_le _
  | cons y r ih =>
    cases r with
    | nil =>
      show y.length ≤ _
      rw [List.map_cons, List.sum_cons, List.length_cons]
      omega
    | cons z r =>
      show (y ++ " " ++ Str.join " " (z :: r)).length ≤ _
      rw [strLen_append, strLen_append, List.map_cons, List.sum_cons, List.length_cons, show (" " : Str).length = 1 from rfl]
      omega
theorem ok_rdwords (T : Top K mg) (TB : GxR.TabB base mg T.cN T.PN) : FnOk P w K mg base CX0 4 T.a_readwords T.d_readwords ["text"] (spRdWords T) := by
  have G_readword : FnOk P w K mg base CX0 3 _ _ _ _ := ok_rdword T TB
  refine T.F_readwords.ok sc_readwords (fun vs H Q E h => ?_) (fun cdv A outer s H vs Q E hr h => ?_)
  · obtain ⟨xs, rfl, _⟩ := h
    rfl
  · obtain ⟨xs, rfl, ne, len, rd, tb, q⟩ := h
    have jl := join_len (ys := xs.map wtx)
    have sl := sum_len (m := 100) (ys := xs.map wtx) fun y hy => by
      obtain ⟨x, hx, rfl⟩ := List.mem_map.mp hy
      exact wtx_len (rd x hx).wd
    rw [List.length_map] at jl sl
    refine ⟨_, (pss_one (ps_ret (pe_callTy call_tuple_of (by rfl) T.m_tuple (by decide +kernel) (pa_cons (pe_lc (own := [("word", 1)]) (g := gName 1) (tt := tYes) (by rfl) sc_readwords.nd (pi_list (pe_split (pv 0) pe_str)) (blkOk_by (own := [("word", 1)]) (N := ["text", "word"]) (sc := defScope s_readwords) (by decide +kernel)) (fun _ _ _ _ _ => (pg_name (i := 1) sc_readwords.nd rfl (.inl rfl))) (fun _ _ _ _ _ => pts_nil) (fun _ _ _ _ _ => (pe_call G_readword hr (by rfl) T.g_readword T.F_readword.kp T.b_readword .nil pass0 (pa_cons (pv 1) pa_nil)))) pa_nil)))), ?_⟩
    refine ⟨_, rfl, ⟨_, rfl⟩, _, _, rfl, rfl, rfl, sz (by omega), fun p np => ?_⟩
    rw [split_words ne rd]
    have sp := same_new (o := .lst ((xs.map wtx).map V.str)) np
    have hp : upd H p (.lst ((xs.map wtx).map V.str)) p = some (.lst ((xs.map wtx).map V.str)) := upd_same
    have tb1 := tb.same sp
    generalize upd H p (.lst ((xs.map wtx).map V.str)) = H1 at sp hp tb1 ⊢
    refine ⟨p, rfl, ⟨_, SqL.of hp⟩, fun D nD => ?_⟩
    refine lc_list (xs := (xs.map wtx).map V.str) (fun i H2 => (∀ b o, H1 b = some o → (∀ ps, o ≠ .tbl ps) → H2 b = some o) ∧ Tb T.tbs H2 ∧ H2 D = some (.lst (xs.take i))) ⟨Kp.of_same (same_new nD), tb1.same (same_new nD), upd_same⟩ (fun i H2 _ z => SqL.of (z.1 _ _ hp (by intro ps z; cases z))) ?_ ?_
    · rintro i v H2 hv ⟨k2, tb2, hD⟩
      rw [List.getElem?_map, List.getElem?_map] at hv
      obtain ⟨y, hy, rfl⟩ := Option.map_eq_some_iff.mp hv
      obtain ⟨x, hx, rfl⟩ := Option.map_eq_some_iff.mp hy
      refine ⟨rfl, yes_ite ?_⟩
      refine ⟨_, rfl, x, rfl, rd x (List.mem_of_getElem? hx), tb2, fun H3 k3 tb3 => ⟨_, k3 _ _ hD (by intro ps z; cases z), szl (by rw [List.length_take]; omega), ?_⟩⟩
      have hD3 := k3 _ _ hD (by intro ps z; cases z)
      refine ⟨fun b o e n => ?_, ?_, ?_⟩
      · rw [upd_ne (ne_of_none e nD)]
        exact k3 _ _ (k2 _ _ e n) n
      · refine .mk (fun P m => ?_) (fun P q m => ?_)
        · obtain ⟨ps, hps, t⟩ := tb3.g m
          exact ⟨ps, by rw [upd_ne (ne_of hps hD3 (by intro z; cases z))]; exact hps, t⟩
        · exact absurd m (by simp [Top.tbs])
      · rw [upd_same, List.take_succ, hx]
        rfl
    · rintro H2 ⟨k2, tb2, hD⟩
      rw [List.length_map, List.length_map, List.take_length] at hD
      refine ⟨D, _, rfl, .inl ⟨SqL.of hD, fun r nr => ?_⟩⟩
      have sr := same_new (o := .tup xs) nr
      exact q r _ (((Kp.of_same sp).trans k2).trans (Kp.of_same sr)) (tb2.same sr) upd_same
end

end My
namespace My
open PySem L2
/-! ### forests read -/
section
variable {P : Program} {w : World} {K : PySem.W.Frag} {mg : Str → Option Value} {base : Heap}
def spKind : Sp := fun vs H Q _ => ∃ v, vs = [v] ∧ AnyV H v ∧ Q (.bl (kindB v)) H
theorem ok_kind (T : Top K mg) : FnOk P w K mg base CX0 1 T.a_iskind T.d_iskind ["thing"] spKind := by
  refine T.F_iskind.ok sc_iskind (fun vs H Q E h => ?_) (fun cdv A outer s H vs Q E hr h => ?_)
  · obtain ⟨v, rfl, _⟩ := h
    rfl
  · obtain ⟨v, rfl, hv, q⟩ := h
    refine ⟨_, (pss_one (ps_ret (pe_and (pe_callB call_isi (by rfl) T.m_isinstance (by decide +kernel) (pa_cons (pv 0) (pa_cons (pe_bltn (v := .ty "str") (by rfl) T.m_str (by decide +kernel) rfl) pa_nil))) (pe_one (pe_cmpR op_in_seq (pv 0) (pe_glob (v := .ref T.aK) (by rfl) T.v_KINDS rfl) (by rfl)))))), ?_⟩
    obtain ⟨t, ty, kt⟩ := str_ok (K := K) hv
    refine ⟨_, rfl, _, _, _, _, _, rfl, ClsV.ty _, ty, kt, _, rfl, ite2 (fun e => ?_) (fun e => ?_)⟩
    · cases v with
      | str z =>
        refine ⟨_, rfl, T.aK, _, rfl, .inr (tupB_ok T.tK H), rfl, flat_strs kinds, ?_⟩
        rw [inV_str]
        exact q
      | _ => exact nomatch e
    · have z : kindB v = false := by
        cases v <;> first | rfl | exact absurd rfl e
      rw [z] at q
      exact q
def spPoint : Sp := fun vs H Q _ => ∃ (t : Addr) (p : Int × Str), vs = [.ref t] ∧ H t = some (.tup [.int p.1, .str p.2]) ∧ p.2 ∈ kinds ∧ Q (.bl true) H
theorem ok_point (T : Top K mg) : FnOk P w K mg base CX0 2 T.a_ispoint T.d_ispoint ["thing"] spPoint := by
  have G_iswhole : FnOk P w K mg base CX0 1 _ _ _ _ := ok_wholeI T
  have G_iskind : FnOk P w K mg base CX0 1 _ _ _ _ := ok_kind T
  refine T.F_ispoint.ok sc_ispoint (fun vs H Q E h => ?_) (fun cdv A outer s H vs Q E hr h => ?_)
  · obtain ⟨t, p, rfl, _⟩ := h
    rfl
  · obtain ⟨t, p, rfl, ht, hk, q⟩ := h
    refine ⟨_, (pss_one (ps_ret (pe_and (pe_callB call_isi (by rfl) T.m_isinstance (by decide +kernel) (pa_cons (pv 0) (pa_cons (pe_bltn (v := .ty "tuple") (by rfl) T.m_tuple (by decide +kernel) rfl) pa_nil))) (pe_and (pe_cmpR op_eq (pe_callB call_len_seq (by rfl) T.m_len PySem.boot_len (pa_cons (pv 0) pa_nil)) pe_int (nomark _)) (pe_and (pe_call G_iswhole hr (by rfl) T.g_iswhole T.F_iswhole.kp T.b_iswhole .nil pass0 (pa_cons (pe_ix ix_tup (pv 0) pe_int (fun _ _ => rfl)) pa_nil)) (pe_one (pe_call G_iskind hr (by rfl) T.g_iskind T.F_iskind.kp T.b_iskind .nil pass0 (pa_cons (pe_ix ix_tup (pv 0) pe_int (fun _ _ => rfl)) pa_nil)))))))), ?_⟩
    refine ⟨_, rfl, _, _, _, _, true, rfl, ClsV.ty _, .base (.tup ht), kit_ty (by decide +kernel), _, rfl, iteT ?_⟩
    refine ⟨_, rfl, t, _, rfl, .inr (SqT.of ht), rfl, _, rfl, iteT ?_⟩
    refine ⟨_, rfl, t, _, _, _, rfl, rfl, SqT.of ht, atI_nat (j := 0) rfl, p.1, rfl, _, rfl, iteT ?_⟩
    refine ⟨_, rfl, t, _, _, _, rfl, rfl, SqT.of ht, atI_nat (j := 1) rfl, _, rfl, .str _, ?_⟩
    rw [show kindB (.str p.2) = true from decide_eq_true hk]
    exact q
theorem rdP {p : Int × Str} (h : PtOk p) : ∀ x ∈ [V.str "point", .int p.1, .str p.2], RdOk x := by
  intro x m
  rcases List.mem_cons.mp m with rfl | m
  · exact .inr (.inl ⟨_, rfl, by decide +kernel⟩)
  rcases List.mem_cons.mp m with rfl | m
  · exact .inl ⟨_, rfl, by have := h.1; omega, by have := h.2.1; omega⟩
  · rw [List.mem_singleton.mp m]
    exact .inr (.inl ⟨_, rfl, List.mem_cons_of_mem _ (List.mem_append_right _ h.2.2)⟩)
theorem rdT {t : Int × Int} (h1 : 0 ≤ t.1) (h2 : t.1 < 1000) (h3 : 0 ≤ t.2) (h4 : t.2 < 1000) : ∀ x ∈ [V.str "tie", .int t.1, .int t.2], RdOk x := by
  intro x m
  rcases List.mem_cons.mp m with rfl | m
  · exact .inr (.inl ⟨_, rfl, by decide +kernel⟩)
  rcases List.mem_cons.mp m with rfl | m
  · exact .inl ⟨_, rfl, by omega, by omega⟩
  · rw [List.mem_singleton.mp m]
    exact .inl ⟨_, rfl, by omega, by omega⟩
theorem PAll.nil_inv {H : Hp} {vs : List V} (h : PAll H vs []) : vs = [] := by
  cases h
  rfl
theorem td_snoc {K : PySem.W.Frag} {H : Hp} {v : V} {d : PyData} (hv : Td K H v d) : ∀ {vs : List V} {ds : List PyData}, TdAll K H vs ds → TdAll K H (vs ++ [v]) (ds ++ [d])
  | _, _, .nil => .cons hv .nil
  | _, _, .cons h r => .cons h (td_snoc hv r)
theorem tups_put {K : PySem.W.Frag} {H : Hp} {l : Addr} {xs ys : List V} (e : H l = some (.lst xs)) : Tups K H (upd H l (.lst ys)) := Tups.of_but (d := l) (fun a o e' ne => by rw [upd_ne ne]; exact e') e
theorem Tb.put {tbl : List (Addr × Option Str)} {H : Hp} {l : Addr} {xs ys : List V} (h : Tb tbl H) (e : H l = some (.lst xs)) : Tb tbl (upd H l (.lst ys)) := by
  refine .mk (fun P m => ?_) (fun P q m => ?_)
  · obtain ⟨ps, hp, t⟩ := h.g m
    exact ⟨ps, by rw [upd_ne (ne_of hp e (by intro z; cases z))]; exact hp, t⟩
  · obtain ⟨ps, hp, t, c⟩ := h.s m
    refine ⟨ps, by rw [upd_ne (ne_of hp e (by intro z; cases z))]; exact hp, t, fun pos cv hc => ?_⟩
    obtain ⟨c, e1, e2⟩ := c pos cv hc
    exact ⟨c, e1, by rw [upd_ne (ne_of e2 e (by intro z; cases z))]; exact e2⟩
structure TOk (pts : List (Int × Str)) (ts : Ties) : Prop where
  fr : FrOk pts ts
  lt : ∀ u ∈ ts, u.1 < u.2
  up : ts.Pairwise ltT
theorem TOk.take {pts : List (Int × Str)} {ts : Ties} (h : TOk pts ts) (i : Nat) : Tree (ts.take i) ∧ (ts.take i).Nodup ∧ (ts.take i).Pairwise ltT ∧ ∀ u ∈ ts.take i, 0 ≤ u.1 ∧ u.1 < u.2 ∧ u.2 < (pts.length : Int) := by
  refine ⟨fun t m r => ?_, h.fr.nd.sublist (List.take_sublist _ _), h.up.sublist (List.take_sublist _ _), fun u m => ?_⟩
  · refine h.fr.tree t (List.mem_of_mem_take m) (r.mono fun u mu => ?_)
    obtain ⟨m1, m2⟩ := List.mem_filter.mp mu
    exact List.mem_filter.mpr ⟨List.mem_of_mem_take m1, m2⟩
  · have m := List.mem_of_mem_take m
    have := h.fr.tok u m
    have := h.lt u m
    omega
def spRdF (T : Top K mg) : Sp := fun vs H Q _ => ∃ (l : Addr) (pts : List (Int × Str)) (ts : Ties), vs = [.ref l] ∧ H l = some (.lst ((rowsOf pts ts).map V.str)) ∧ TOk pts ts ∧ Tb T.tbs H ∧ ∀ (f : Addr) (H' : Hp), Kp H H' → Tb T.tbs H' → Td K H' (.ref f) (fdata pts ts) → Q (.ref f) H'
theorem ok_rdf (T : Top K mg) (TA : GxR.TabB base mg T.cA T.PA) (TR : GxR.TabB base mg T.cR T.PR) (TY : GxR.TabB base mg T.cY T.PY) (TN : GxR.TabB base mg T.cN T.PN) : FnOk P w K mg base CX0 7 T.a_forestofrows T.d_forestofrows ["rows"] (spRdF T) := by
  have G_readwords : FnOk P w K mg base CX0 4 _ _ _ _ := ok_rdwords T TN
  have G_ispoint : FnOk P w K mg base CX0 2 _ _ _ _ := ok_point T
  have G_areties : FnOk P w K mg base CX0 6 _ _ _ _ := ok_ties T TA TR TY
  refine T.F_forestofrows.ok sc_forestofrows (fun vs H Q E h => ?_) (fun cdv A outer s H vs Q E hr h => ?_)
  · obtain ⟨l, pts, ts, rfl, _⟩ := h
    rfl
  · obtain ⟨l, pts, ts, rfl, hl, ok, tb, q⟩ := h
    have few := ok.fr.few
    have tle := ok.fr.tl
    refine ⟨_, (pss_cons (ps_set (i := 1) sc_forestofrows.nd rfl (.inl rfl) (pe_lst pa_nil))
      (pss_cons (ps_set (i := 2) sc_forestofrows.nd rfl (.inl rfl) (pe_lst pa_nil))
      (pss_cons (ps_for PassesOwn.never rfl (pi_enum (by rfl) T.m_enumerate (pa_cons (pv 0) pa_nil)) (pg_tup rfl (pgs_cons (pg_name (i := 3) sc_forestofrows.nd rfl (.inl rfl)) (pgs_cons (pg_name (i := 4) sc_forestofrows.nd rfl (.inl rfl)) pgs_nil))) (pss_cons (ps_asg (pe_call G_readwords (hr.mono (by decide)) (by rfl) T.g_readwords T.F_readwords.kp T.b_readwords .nil pass0 (pa_cons (pv 4) pa_nil)) (pg_star rfl (pgs_cons (pg_name (i := 5) sc_forestofrows.nd rfl (.inl rfl)) (pgs_star (pg_name (i := 6) sc_forestofrows.nd rfl (.inl rfl)) pgs_nil))))
      (pss_cons (ps_set (i := 7) sc_forestofrows.nd rfl (.inl rfl) (pe_callTy call_tuple_of (by rfl) T.m_tuple (by decide +kernel) (pa_cons (pv 6) pa_nil)))
      (pss_one (ps_if (PW.pt (pw_and (pt_cmpR op_eq (pv 5) pe_str (nomark _)) (pw_and (pt_val (pe_call G_ispoint (hr.mono (by decide)) (by rfl) T.g_ispoint T.F_ispoint.kp T.b_ispoint .nil pass0 (pa_cons (pv 7) pa_nil))) (pw_and1 (pt_cmpR op_eq (pe_callB call_len_seq (by rfl) T.m_len PySem.boot_len (pa_cons (pv 2) pa_nil)) pe_int (nomark _)))))) (pss_one (ps_expr (pe_bm PySem.F.plainAttrs_list PySem.F.slot_list_append PySem.F.type_list_append mt_append (pv 1) (pa_cons (pv 7) pa_nil)))) (pss_one (ps_if (PW.pt (pw_and (pt_cmpR op_eq (pv 5) pe_str (nomark _)) (pw_and1 (pt_val (pe_call G_areties hr (by rfl) T.g_areties T.F_areties.kp T.b_areties .nil pass0 (pa_cons (pe_tup (StX.pa_star (pv 2) (pa_cons (pv 7) pa_nil))) (pa_cons (pe_callB call_len_seq (by rfl) T.m_len PySem.boot_len (pa_cons (pv 1) pa_nil)) pa_nil))))))) (pss_one (ps_expr (pe_bm PySem.F.plainAttrs_list PySem.F.slot_list_append PySem.F.type_list_append mt_append (pv 2) (pa_cons (pv 7) pa_nil)))) (pss_one ps_never))))))))
      (pss_one (ps_ret (pe_tup (pa_cons (pe_callTy call_tuple_of (by rfl) T.m_tuple (by decide +kernel) (pa_cons (pv 1) pa_nil)) (pa_cons (pe_callTy call_tuple_of (by rfl) T.m_tuple (by decide +kernel) (pa_cons (pv 2) pa_nil)) pa_nil)))))))), ?_⟩
    refine ⟨Nat.zero_le _, fun A1 n1 => ?_⟩
    have s1 := same_new (o := .lst []) n1
    have h1 : upd H A1 (.lst []) A1 = some (.lst []) := upd_same
    generalize upd H A1 (.lst []) = H1 at s1 h1 ⊢
    refine ⟨Nat.zero_le _, fun A2 n2 => ?_⟩
    have n20 : H A2 = none := by
      cases e : H A2 with
      | none => rfl
      | some o =>
        rw [s1 _ _ e] at n2
        cases n2
    have n12 : A1 ≠ A2 := fun e => by
      rw [← e, h1] at n2
      cases n2
    have s2 := same_new (o := .lst []) n2
    have h2 : upd H1 A2 (.lst []) A2 = some (.lst []) := upd_same
    have h21 := s2 _ _ h1
    generalize upd H1 A2 (.lst []) = H2 at s2 h2 h21 ⊢
    have s12 := s1.trans s2
    have lr : ((rowsOf pts ts).map V.str).length = pts.length + ts.length := by
      unfold rowsOf
      rw [List.length_map, List.length_append, List.length_map, List.length_map]
    refine ⟨_, rfl, l, _, rfl, SqL.of (s12 _ _ hl), for_it walk_enum (fun i σ H3 => ∃ (ps qs : List V) (y3 y4 y5 y6 y7 : Option V), σ = [some (.ref l), some (.ref A1), some (.ref A2), y3, y4, y5, y6, y7] ∧ Kp H H3 ∧ Tb T.tbs H3 ∧ H3 A1 = some (.lst ps) ∧ H3 A2 = some (.lst qs) ∧ TdAll K H3 ps ((pts.take i).map pdata) ∧ PAll H3 qs (ts.take (i - pts.length))) ⟨[], [], none, none, none, none, none, rfl, Kp.of_same s12, tb.same s12, h21, h2, .nil, by rw [Nat.zero_sub]; exact .nil⟩ (fun i σ H3 _ z => by obtain ⟨_, _, _, _, _, _, _, _, k, _⟩ := z; exact SqL.of (k _ _ hl (by intro ps z; cases z))) ?_ ?_⟩
    · rintro i v σ H3 H4 hi ⟨ps, qs, y3, y4, y5, y6, y7, rfl, k3, tb3, a1, a2, tps, pqs⟩ ⟨t, x, y, rfl, nt, rfl, hx, hy⟩
      dsimp only at hx hy
      have st := same_new (o := .tup [x, y]) nt
      refine ⟨t, _, rfl, SqT.of upd_same, rfl, _, _, rfl, _, _, rfl, rfl, ?_⟩
      generalize upd H3 t (.tup [x, y]) = H4 at st ⊢
      have lps : ps.length ≤ 100 := by
        have z := tps.length
        rw [List.length_map, List.length_take] at z
        omega
      have lqs : qs.length ≤ 100 := by
        have z := pqs.length
        rw [List.length_take] at z
        omega
      rw [List.getElem?_map] at hy
      obtain ⟨rw_, hrw, rfl⟩ := Option.map_eq_some_iff.mp hy
      by_cases c : i < pts.length
      · have hp : pts[i]? = some pts[i] := List.getElem?_eq_getElem c
        have e1 : rw_ = prow pts[i] := by
          unfold rowsOf at hrw
          rw [List.getElem?_append_left (by rw [List.length_map]; exact c), List.getElem?_map, hp] at hrw
          exact (Option.some.inj hrw).symm
        subst e1
        generalize pts[i] = p at hp
        have pk := ok.fr.pok p (List.mem_of_getElem? hp)
        refine ⟨_, rfl, [.str "point", .int p.1, .str p.2], rfl, (fun z => nomatch z), by show 3 ≤ 10; decide, rdP pk, tb3.same st, fun r H5 k5 tb5 hr5 => ?_⟩
        refine ⟨r, _, _, rfl, SqT.of hr5, by show 2 ≤ 1000; decide, fun L nL => ⟨_, _, rfl, _, _, rfl, rfl, ?_⟩⟩
        have sL := same_new (o := .lst [.int p.1, .str p.2]) nL
        have hL : upd H5 L (.lst [.int p.1, .str p.2]) L = some (.lst [.int p.1, .str p.2]) := upd_same
        generalize upd H5 L (.lst [.int p.1, .str p.2]) = H6 at sL hL ⊢
        refine ⟨_, rfl, L, _, rfl, .inl ⟨SqL.of hL, fun pt npt => ?_⟩⟩
        have sp := same_new (o := .tup [.int p.1, .str p.2]) npt
        have hpt : upd H6 pt (.tup [.int p.1, .str p.2]) pt = some (.tup [.int p.1, .str p.2]) := upd_same
        generalize upd H6 pt (.tup [.int p.1, .str p.2]) = H7 at sp hpt ⊢
        have k37 : Kp H3 H7 := ((Kp.of_same st).trans k5).same (sL.trans sp)
        have tb7 := (tb5.same sL).same sp
        have a17 := k37 _ _ a1 (by intro ps z; cases z)
        have a27 := k37 _ _ a2 (by intro ps z; cases z)
        have q0 : qs = [] := by
          rw [show i - pts.length = 0 by omega] at pqs
          exact pqs.nil_inv
        subst q0
        refine ⟨_, rfl, rfl, _, rfl, iteT ?_⟩
        refine ⟨_, rfl, pt, p, rfl, hpt, pk.2.2, _, rfl, iteT ?_⟩
        refine ⟨_, rfl, A2, _, rfl, .inl (SqL.of a27), rfl, _, rfl, iteT ?_⟩
        refine ⟨_, rfl, .inl ⟨rfl, _, SqL.of a17⟩, _, rfl, A1, _, _, rfl, rfl, a17, szl (by omega), ?_⟩
        refine ⟨ps ++ [.ref pt], [], _, _, _, _, _, rfl, ?_, ?_, upd_same, ?_, ?_, ?_⟩
        · intro b o e nn
          rw [upd_ne (ne_of_none e n1)]
          exact (k3.trans k37) _ _ e nn
        · exact tb7.put a17
        · rw [upd_ne n12.symm]
          exact a27
        · rw [List.take_succ, hp]
          show TdAll K _ _ (((pts.take i) ++ [p]).map pdata)
          rw [List.map_append]
          exact td_snoc ((Td.pt hpt).mono (tups_put a17)) ((tps.mono (Tups.of_kp k37)).mono (tups_put a17))
        · rw [show i + 1 - pts.length = 0 by omega]
          exact .nil
      · have ci : i - pts.length < ts.length := by
          rw [lr] at hi
          omega
        have hp : ts[i - pts.length]? = some ts[i - pts.length] := List.getElem?_eq_getElem ci
        have e1 : rw_ = trow ts[i - pts.length] := by
          unfold rowsOf at hrw
          rw [List.getElem?_append_right (by rw [List.length_map]; omega), List.length_map, List.getElem?_map, hp] at hrw
          exact (Option.some.inj hrw).symm
        subst e1
        generalize ts[i - pts.length] = p at hp
        have mp := List.mem_of_getElem? hp
        have pk := ok.fr.tok p mp
        refine ⟨_, rfl, [.str "tie", .int p.1, .int p.2], rfl, (fun z => nomatch z), by show 3 ≤ 10; decide, rdT (by omega) (by omega) (by omega) (by omega), tb3.same st, fun r H5 k5 tb5 hr5 => ?_⟩
        refine ⟨r, _, _, rfl, SqT.of hr5, by show 2 ≤ 1000; decide, fun L nL => ⟨_, _, rfl, _, _, rfl, rfl, ?_⟩⟩
        have sL := same_new (o := .lst [.int p.1, .int p.2]) nL
        have hL : upd H5 L (.lst [.int p.1, .int p.2]) L = some (.lst [.int p.1, .int p.2]) := upd_same
        generalize upd H5 L (.lst [.int p.1, .int p.2]) = H6 at sL hL ⊢
        refine ⟨_, rfl, L, _, rfl, .inl ⟨SqL.of hL, fun pt npt => ?_⟩⟩
        have sp := same_new (o := .tup [.int p.1, .int p.2]) npt
        have hpt : upd H6 pt (.tup [.int p.1, .int p.2]) pt = some (.tup [.int p.1, .int p.2]) := upd_same
        generalize upd H6 pt (.tup [.int p.1, .int p.2]) = H7 at sp hpt ⊢
        have k37 : Kp H3 H7 := ((Kp.of_same st).trans k5).same (sL.trans sp)
        have tb7 := (tb5.same sL).same sp
        have a17 := k37 _ _ a1 (by intro ps z; cases z)
        have a27 := k37 _ _ a2 (by intro ps z; cases z)
        have lp : ps.length = pts.length := by
          have z := tps.length
          rw [List.length_map, List.length_take] at z
          omega
        have et : ts.take (i + 1 - pts.length) = ts.take (i - pts.length) ++ [p] := by
          rw [show i + 1 - pts.length = (i - pts.length) + 1 by omega, List.take_succ, hp]
          rfl
        obtain ⟨g1, g2, g3, g4⟩ := ok.take (i + 1 - pts.length)
        have pq7 : PAll H7 (qs ++ [.ref pt]) (ts.take (i + 1 - pts.length)) := by
          rw [et]
          exact PAll.snoc hpt (pqs.kp k37)
        refine ⟨_, rfl, rfl, _, rfl, iteF ?_⟩
        refine ⟨_, rfl, rfl, _, rfl, iteT ?_⟩
        refine ⟨_, rfl, A2, qs, rfl, .inr (SqL.of a27), _, rfl, sz (by rw [List.length_append]; show qs.length + 1 ≤ 100000; omega), fun w nw => ?_⟩
        have sw := same_new (o := .tup (qs ++ [.ref pt])) nw
        have hw : upd H7 w (.tup (qs ++ [.ref pt])) w = some (.tup (qs ++ [.ref pt])) := upd_same
        generalize upd H7 w (.tup (qs ++ [.ref pt])) = H8 at sw hw ⊢
        refine ⟨_, rfl, A1, _, rfl, .inl (SqL.of (sw _ _ a17)), w, qs ++ [.ref pt], _, pts.length, by rw [lp]; rfl, hw, pq7.same sw, (fun z => by have := congrArg List.length z; rw [List.length_append] at this; exact nomatch this), few, g1, g2, g3, g4, tb7.same sw, fun H9 k9 tb9 => ⟨_, rfl, iteT ?_⟩⟩
        have k79 : Kp H7 H9 := (Kp.of_same sw).trans k9
        have a19 := k79 _ _ a17 (by intro ps z; cases z)
        have a29 := k79 _ _ a27 (by intro ps z; cases z)
        refine ⟨_, rfl, .inl ⟨rfl, _, SqL.of a29⟩, _, rfl, A2, _, _, rfl, rfl, a29, szl (by omega), ?_⟩
        refine ⟨ps, qs ++ [.ref pt], _, _, _, _, _, rfl, ?_, ?_, ?_, upd_same, ?_, ?_⟩
        · intro b o e nn
          rw [upd_ne (ne_of_none e n20)]
          exact (k3.trans (k37.trans k79)) _ _ e nn
        · exact tb9.put a29
        · rw [upd_ne n12]
          exact a19
        · rw [List.take_of_length_le (by omega)]
          rw [List.take_of_length_le (by omega)] at tps
          exact (tps.mono (Tups.of_kp (k37.trans k79))).mono (tups_put a29)
        · exact (pq7.kp k79).put a29
    · rintro σ H3 ⟨ps, qs, y3, y4, y5, y6, y7, rfl, k3, tb3, a1, a2, tps, pqs⟩
      rw [lr] at tps pqs
      rw [List.take_of_length_le (by omega)] at tps
      rw [List.take_of_length_le (by omega)] at pqs
      refine ⟨_, rfl, A1, _, rfl, .inl ⟨SqL.of a1, fun u1 m1 => ?_⟩⟩
      have t1 := same_new (o := .tup ps) m1
      have g1 : upd H3 u1 (.tup ps) u1 = some (.tup ps) := upd_same
      generalize upd H3 u1 (.tup ps) = H4 at t1 g1 ⊢
      refine ⟨_, rfl, A2, _, rfl, .inl ⟨SqL.of (t1 _ _ a2), fun u2 m2 => ?_⟩⟩
      have t2 := same_new (o := .tup qs) m2
      have g2 : upd H4 u2 (.tup qs) u2 = some (.tup qs) := upd_same
      generalize upd H4 u2 (.tup qs) = H5 at t2 g2 ⊢
      refine ⟨(by show 2 ≤ sizeLine; decide), fun f nf => ?_⟩
      have t3 := same_new (o := .tup [.ref u1, .ref u2]) nf
      have s35 : Same H3 (upd H5 f (.tup [.ref u1, .ref u2])) := t1.trans (t2.trans t3)
      refine q f _ (k3.same s35) (tb3.same s35) (.tup (SqT.of upd_same) (.cons (.tup (SqT.of (t3 _ _ (t2 _ _ g1))) (tps.mono (Tups.of_same s35))) (.cons (.tup (SqT.of (t3 _ _ g2)) ?_) .nil)))
      exact (pqs.same s35).td
end

end My
namespace My
open PySem L2
/-! ### repr of a forest -/
theorem int_shown {i : Int} (h1 : -(10 ^ 40) < i) (h2 : i < 10 ^ 40) : (PyData.int i).shown.length ≤ 41 := by
  show (Str.ofString (toString i)).length ≤ 41
  by_cases h : i < 0
  · rw [PyProof.Rows.len_text_neg h]
    have := PyProof.Rows.toString_length_le (v := 0 - i) (k := 40) (by omega) (by decide) (by omega)
    omega
  · have := PyProof.Rows.toString_length_le (v := i) (k := 40) (by omega) (by decide) h2
    omega
theorem shownAll_length : ∀ xs : List PyData, (PyData.shownAll xs).length = xs.length
  | [] => rfl
  | x :: xs => by
    show (PyData.shown x :: PyData.shownAll xs).length = _
    rw [List.length_cons, List.length_cons, shownAll_length xs]
theorem piled_le {m : Nat} : ∀ {xs : List PyData}, (∀ x ∈ xs, x.shown.length ≤ m) → piled (PyData.shownAll xs) ≤ xs.length * (m + 2)
  | [], _ => Nat.zero_le _
  | x :: xs, h => by
    have ih := piled_le (xs := xs) fun y hy => h y (List.mem_cons_of_mem _ hy)
    have h1 := h x List.mem_cons_self
    show piled (PyData.shown x :: PyData.shownAll xs) ≤ _
    rw [piled_cons, List.length_cons, Nat.succ_mul]
    omega
theorem tuple_shown {m : Nat} {xs : List PyData} (h : ∀ x ∈ xs, x.shown.length ≤ m) : (PyData.tuple xs).shown.length ≤ xs.length * (m + 2) + 4 := by
  have h1 := piled_le h
  show (tupleText (PyData.shownAll xs)).length ≤ _
  unfold tupleText
  rw [strLen_append, strLen_append]
  have h2 : (Str.join ", " (PyData.shownAll xs)).length ≤ piled (PyData.shownAll xs) := by
    cases xs with
    | nil => exact Nat.zero_le _
    | cons x r =>
      have := join_length_add (PyData.shownAll (x :: r)) (by intro z; cases z)
      omega
  have h3 : (Str.ofString (if (PyData.shownAll xs).length == 1 then ",)" else ")")).length ≤ 2 := by
    split <;> decide
  have h4 : (("(" : String) : Str).length = 1 := rfl
  omega
theorem kinds_shown : ∀ k ∈ kinds, (PyData.str k).shown.length ≤ 12 := by
  show ∀ k ∈ kinds, (reprText k).length ≤ 12
  decide +kernel
theorem two_all {α : Type} (p : α → Prop) {a b : α} (ha : p a) (hb : p b) : ∀ x ∈ [a, b], p x := fun x m => by
  rcases List.mem_cons.mp m with rfl | m
  · exact ha
  · rw [List.mem_singleton.mp m]
    exact hb
theorem point_shown {p : Int × Str} (h : PtOk p) : (pdata p).shown.length ≤ 90 := by
  have h1 : (PyData.int p.1).shown.length ≤ 41 := int_shown (by have := h.1; omega) (by have := h.2.1; omega)
  have h2 := kinds_shown p.2 h.2.2
  exact tuple_shown (m := 41) (xs := [.int p.1, .str p.2]) (two_all (fun x : PyData => x.shown.length ≤ 41) h1 (Nat.le_trans h2 (by decide)))
theorem tie_shown {t : Int × Int} (h1 : 0 ≤ t.1) (h2 : t.1 < 1000) (h3 : 0 ≤ t.2) (h4 : t.2 < 1000) : (tdata t).shown.length ≤ 90 := by
  have e1 : (PyData.int t.1).shown.length ≤ 41 := int_shown (by omega) (by omega)
  have e2 : (PyData.int t.2).shown.length ≤ 41 := int_shown (by omega) (by omega)
  exact tuple_shown (m := 41) (xs := [.int t.1, .int t.2]) (two_all (fun x : PyData => x.shown.length ≤ 41) e1 e2)
theorem showAll {xs : List PyData} : (∀ x ∈ xs, x.showable = true) → PyData.showableAll xs = true := by
  induction xs with
  | nil => intro _; rfl
  | cons x r ih =>
    intro h
    show (PyData.showable x && PyData.showableAll r) = true
    rw [h x List.mem_cons_self, ih fun y hy => h y (List.mem_cons_of_mem _ hy)]
    rfl
theorem nodAll {xs : List PyData} : (∀ x ∈ xs, x.hasDict = false) → PyData.hasDictAll xs = false := by
  induction xs with
  | nil => intro _; rfl
  | cons x r ih =>
    intro h
    show (PyData.hasDict x || PyData.hasDictAll r) = false
    rw [h x List.mem_cons_self, ih fun y hy => h y (List.mem_cons_of_mem _ hy)]
    rfl
theorem depAll {m : Nat} {xs : List PyData} : (∀ x ∈ xs, x.depth ≤ m) → PyData.depthAll xs ≤ m := by
  induction xs with
  | nil => intro _; exact Nat.zero_le _
  | cons x r ih =>
    intro h
    show max (PyData.depth x) (PyData.depthAll r) ≤ m
    have h1 := h x List.mem_cons_self
    have h2 := ih fun y hy => h y (List.mem_cons_of_mem _ hy)
    omega
theorem show_int {i : Int} (h1 : -(2 ^ 100) < i) (h2 : i < 2 ^ 100) : (PyData.int i).showable = true := by
  show decide (i.natAbs.log2 < 1920) = true
  refine decide_eq_true ?_
  by_cases z : i.natAbs = 0
  · rw [z]
    decide
  · rw [Nat.log2_lt z]
    exact Nat.lt_of_lt_of_le (show i.natAbs < 2 ^ 100 by omega) (Nat.pow_le_pow_right (by decide) (by decide))
theorem show_pt {p : Int × Str} (h : PtOk p) : (pdata p).showable = true := by
  refine showAll (xs := [.int p.1, .str p.2]) (two_all (fun x => PyData.showable x = true) (show_int (by have := h.1; omega) (by have := h.2.1; omega)) rfl)
theorem show_tie {t : Int × Int} (h1 : 0 ≤ t.1) (h2 : t.1 < 1000) (h3 : 0 ≤ t.2) (h4 : t.2 < 1000) : (tdata t).showable = true := by
  refine showAll (xs := [.int t.1, .int t.2]) (two_all (fun x => PyData.showable x = true) (show_int (by omega) (by omega)) (show_int (by omega) (by omega)))
structure Shows (d : PyData) : Prop where
  sh : d.showable = true
  nd : d.hasDict = false
  dp : d.depth ≤ 50
  ln : d.shown.length ≤ sizeLine
theorem forest_shows {pts : List (Int × Str)} {ts : List (Int × Int)} (fok : FrOk pts ts) : Shows (fdata pts ts) := by
  have tb : ∀ t ∈ ts, 0 ≤ t.1 ∧ t.1 < 1000 ∧ 0 ≤ t.2 ∧ t.2 < 1000 := fun t m => by
    have h := fok.tok t m
    have := fok.few
    omega
  refine ⟨?_, ?_, ?_, ?_⟩
  · refine showAll (xs := [.tuple (pts.map pdata), .tuple (ts.map tdata)]) (two_all (fun x => PyData.showable x = true) ?_ ?_)
    · refine showAll fun x hx => ?_
      obtain ⟨p, hp, rfl⟩ := List.mem_map.mp hx
      exact show_pt (fok.pok p hp)
    · refine showAll fun x hx => ?_
      obtain ⟨t, ht, rfl⟩ := List.mem_map.mp hx
      obtain ⟨h1, h2, h3, h4⟩ := tb t ht
      exact show_tie h1 h2 h3 h4
  · refine nodAll (xs := [.tuple (pts.map pdata), .tuple (ts.map tdata)]) (two_all (fun x => PyData.hasDict x = false) ?_ ?_)
    · refine nodAll fun x hx => ?_
      obtain ⟨p, hp, rfl⟩ := List.mem_map.mp hx
      rfl
    · refine nodAll fun x hx => ?_
      obtain ⟨t, ht, rfl⟩ := List.mem_map.mp hx
      rfl
  · have d1 : PyData.depthAll (pts.map pdata) ≤ 1 := depAll fun x hx => by
      obtain ⟨p, hp, rfl⟩ := List.mem_map.mp hx
      exact Nat.le_refl _
    have d2 : PyData.depthAll (ts.map tdata) ≤ 1 := depAll fun x hx => by
      obtain ⟨t, ht, rfl⟩ := List.mem_map.mp hx
      exact Nat.le_refl _
    show PyData.depthAll [.tuple (pts.map pdata), .tuple (ts.map tdata)] + 1 ≤ 50
    have d3 : PyData.depthAll [.tuple (pts.map pdata), .tuple (ts.map tdata)] ≤ 2 := depAll (two_all (fun x => PyData.depth x ≤ 2) (show PyData.depth (.tuple (pts.map pdata)) ≤ 2 from (show PyData.depthAll (pts.map pdata) + 1 ≤ 2 by omega)) (show PyData.depth (.tuple (ts.map tdata)) ≤ 2 from (show PyData.depthAll (ts.map tdata) + 1 ≤ 2 by omega)))
    omega
  · have l1 : (PyData.tuple (pts.map pdata)).shown.length ≤ (pts.map pdata).length * (90 + 2) + 4 := tuple_shown fun x hx => by
      obtain ⟨p, hp, rfl⟩ := List.mem_map.mp hx
      exact point_shown (fok.pok p hp)
    have l2 : (PyData.tuple (ts.map tdata)).shown.length ≤ (ts.map tdata).length * (90 + 2) + 4 := tuple_shown fun x hx => by
      obtain ⟨t, ht, rfl⟩ := List.mem_map.mp hx
      obtain ⟨h1, h2, h3, h4⟩ := tb t ht
      exact tie_shown h1 h2 h3 h4
    rw [List.length_map] at l1 l2
    have f1 := fok.few
    have f2 := fok.tl
    have l3 : (fdata pts ts).shown.length ≤ 2 * (10000 + 2) + 4 := tuple_shown (m := 10000) (xs := [.tuple (pts.map pdata), .tuple (ts.map tdata)]) (two_all (fun x : PyData => x.shown.length ≤ 10000) (by omega) (by omega))
    exact sz (by omega)

/-! ### forests read back -/
theorem join3_free {a b c : Str} (ha : 10 ∉ TL.tl a) (hb : 10 ∉ TL.tl b) (hc : 10 ∉ TL.tl c) : 10 ∉ TL.tl (Txt.join " " [a, b, c]) := by
  have e : Txt.join " " [a, b, c] = a ++ " " ++ (b ++ " " ++ c) := by
    rw [TL.join_eq]
    rfl
  have sp : 10 ∉ TL.tl (" " : Str) := by decide +kernel
  rw [e]
  simp only [TL.tl_append, List.mem_append, not_or]
  exact ⟨⟨ha, sp⟩, ⟨hb, sp⟩, hc⟩
theorem txt_free (n : Int) : 10 ∉ TL.tl (txt n) := PyProof.Rows.int_text_free' 10 ⟨by decide, by decide⟩ n
theorem kinds_free : ∀ k ∈ kinds, 10 ∉ TL.tl k := by decide +kernel
theorem rows_split {pts : List (Int × Str)} {ts : Ties} (h : FrOk pts ts) : Txt.split (Txt.join "\n" (rowsOf pts ts)) "\n" = rowsOf pts ts := by
  refine TL.split_join (s := 10) (S := []) (by decide +kernel) (by decide +kernel) (fun e => ?_) fun p hp => ?_
  · have z := congrArg List.length e
    unfold rowsOf at z
    rw [List.length_append, List.length_map, List.length_map] at z
    have := h.pos
    have z : pts.length + ts.length = 0 := z
    omega
  · rcases List.mem_append.mp hp with m | m
    · obtain ⟨q, hq, rfl⟩ := List.mem_map.mp m
      exact join3_free (by decide +kernel) (txt_free _) (kinds_free _ (h.pok q hq).2.2)
    · obtain ⟨q, hq, rfl⟩ := List.mem_map.mp m
      exact join3_free (by decide +kernel) (txt_free _) (txt_free _)
theorem joinN_len {ys : List Str} : (Txt.join "\n" ys).length ≤ (ys.map (fun x => x.length)).sum + ys.length := by
  rw [TL.join_eq]
  induction ys with
  | nil => exact Nat.zero_le _
  | cons y r ih =>
    cases r with
    | nil =>
      show y.length ≤ _
      rw [List.map_cons, List.sum_cons, List.length_cons]
      omega
    | cons z r =>
      show (y ++ "\n" ++ Str.join "\n" (z :: r)).length ≤ _
      rw [strLen_append, strLen_append, List.map_cons, List.sum_cons, List.length_cons, show ("\n" : Str).length = 1 from rfl]
      omega
theorem rows_small {pts : List (Int × Str)} {ts : List (Int × Int)} (h : RwOk pts ts) : ((rowsOf pts ts).map (fun x => x.length)).sum + (rowsOf pts ts).length ≤ 30000 := by
  have z := sum_len (m := 100) (ys := rowsOf pts ts) fun y hy => by
    rcases List.mem_append.mp hy with m | m
    · obtain ⟨p, hp, rfl⟩ := List.mem_map.mp m
      exact prow_len (h.pok p hp)
    · obtain ⟨t, ht, rfl⟩ := List.mem_map.mp m
      exact trow_len (h.tok t ht)
  have l : (rowsOf pts ts).length = pts.length + ts.length := by
    unfold rowsOf
    rw [List.length_append, List.length_map, List.length_map]
  have l1 := h.few
  have l2 := h.tl
  omega
theorem TOk.of {pts : List (Int × Str)} {ts : Ties} (h : FrOk pts ts) (le : ∀ t ∈ ts, t.1 ≤ t.2) (up : ts.Pairwise leT) : TOk pts ts := by
  refine ⟨h, fun u m => ?_, (up.and h.nd).imp fun {a b} z => ?_⟩
  · have l := le u m
    by_cases e : u.1 = u.2
    · exact absurd (show Rch _ u.1 u.2 from e ▸ .refl) (h.tree u m)
    · omega
  · obtain ⟨z1, z2⟩ := z
    obtain ⟨a1, a2⟩ := a
    obtain ⟨b1, b2⟩ := b
    rcases z1 with z1 | ⟨z1, z3⟩
    · exact .inl z1
    · refine .inr ⟨z1, ?_⟩
      dsimp only at z1 z3 ⊢
      by_cases e : a2 = b2
      · subst z1 e
        exact absurd rfl z2
      · omega
theorem last_ok : TOk [(0, "a"), (0, "a")] [(0, 1)] := by
  refine .of ⟨by decide, by decide, fun p m => ?_, fun t m => ?_, by decide, ?_, by decide⟩ (fun t m => ?_) (.cons (fun _ z => nomatch z) .nil)
  · have e : p = ((0 : Int), ("a" : Str)) := by
      rcases List.mem_cons.mp m with e | m
      · exact e
      · exact List.mem_singleton.mp m
    subst e
    exact ⟨by decide, by decide, by decide +kernel⟩
  · rw [List.mem_singleton.mp m]
    exact ⟨by decide, by decide, by decide, by decide⟩
  · exact tree_snoc (ts := []) (u := 0) (v := 1) tree_nil (fun _ z => nomatch z) (by decide) (.inl rfl)
  · rw [List.mem_singleton.mp m]
    decide
theorem last_text : Txt.join "\n" (rowsOf [(0, "a"), (0, "a")] [(0, 1)]) = "point 0 a\npoint 0 a\ntie 0 1" := by decide +kernel
section
variable {P : Program} {w : World} {K : PySem.W.Frag} {mg : Str → Option Value} {base : Heap}
def spRead (T : Top K mg) : Sp := fun vs H Q _ => ∃ (pts : List (Int × Str)) (ts : Ties), vs = [.str (Txt.join "\n" (rowsOf pts ts))] ∧ TOk pts ts ∧ Tb T.tbs H ∧ ∀ (f : Addr) (H' : Hp), Kp H H' → Tb T.tbs H' → Td K H' (.ref f) (fdata pts ts) → Q (.ref f) H'
theorem ok_read (T : Top K mg) (TA : GxR.TabB base mg T.cA T.PA) (TR : GxR.TabB base mg T.cR T.PR) (TY : GxR.TabB base mg T.cY T.PY) (TN : GxR.TabB base mg T.cN T.PN) : FnOk P w K mg base CX0 8 T.a_readforest T.d_readforest ["text"] (spRead T) := by
  have G_forestofrows : FnOk P w K mg base CX0 7 _ _ _ _ := ok_rdf T TA TR TY TN
  refine T.F_readforest.ok sc_readforest (fun vs H Q E h => ?_) (fun cdv A outer s H vs Q E hr h => ?_)
  · obtain ⟨pts, ts, rfl, _⟩ := h
    rfl
  · obtain ⟨pts, ts, rfl, ok, tb, q⟩ := h
    have rl := rows_small ok.fr.rw
    have jl := joinN_len (ys := rowsOf pts ts)
    refine ⟨_, (pss_cons (ps_if (pt_not (pt_val (pe_callB call_isi (by rfl) T.m_isinstance (by decide +kernel) (pa_cons (pv 0) (pa_cons (pe_bltn (v := .ty "str") (by rfl) T.m_str (by decide +kernel) rfl) pa_nil))))) (pss_one ps_never) pss_nil)
      (pss_one (ps_ret (pe_call G_forestofrows hr (by rfl) T.g_forestofrows T.F_forestofrows.kp T.b_forestofrows .nil pass0 (pa_cons (pe_split (pv 0) pe_str) pa_nil))))), ?_⟩
    refine ⟨_, rfl, _, _, _, _, true, rfl, ClsV.ty _, .base (.str _), kit_ty (by decide +kernel), _, rfl, iteF ?_⟩
    refine ⟨_, rfl, ⟨_, rfl⟩, _, _, rfl, rfl, rfl, sz (by omega), fun p np => ?_⟩
    rw [rows_split ok.fr]
    have sp := same_new (o := .lst ((rowsOf pts ts).map V.str)) np
    exact ⟨p, pts, ts, rfl, upd_same, ok, tb.same sp, fun f H' k' tb' td => q f H' ((Kp.of_same sp).trans k') tb' td⟩
theorem run_law (T : Top K mg) {s : Shared} {H : Hp} {a : Addr} {ns : List Int} (TA : GxR.TabB base mg T.cA T.PA) (TR : GxR.TabB base mg T.cR T.PR) (TY : GxR.TabB base mg T.cY T.PY) (TN : GxR.TabB base mg T.cN T.PN) (e0 : Env0 P w K mg base callerA [] s H) (hA : H T.PA = some (.tbl #[])) (hR : H T.PR = some (.tbl #[])) (hY : H T.PY = some (.tbl #[])) (hN : H T.PN = some (.tbl #[])) (hS : SqL K H a (ns.map V.int)) (hlen : ns.length ≤ 63) (room : Room 9 callerA) (bind : ∀ (s : Shared) (u : Value), BindsTo s T.d_law ⟨[u], []⟩ [("_law_script", u)]) :
    codeAny (model P w) callerA (.call (.ref T.a_law) ⟨[.ref a], []⟩) (CR CX0 [] P w H s (fun v _ => v = .bl true) E0) s := by
  have G_Lbegin : FnOk P w K mg base CX0 1 _ _ _ _ := ok_begin T
  have G_Lforest : FnOk P w K mg base CX0 3 _ _ _ _ := ok_forest T
  have G_Lrowsof : FnOk P w K mg base CX0 1 _ _ _ _ := ok_rowsof T
  have G_showforest : FnOk P w K mg base CX0 5 _ _ _ _ := ok_showforest T
  have G_readforest : FnOk P w K mg base CX0 8 _ _ _ _ := ok_read T TA TR TY TN
  have tb0 := tbs0 T hA hR hY hN
  obtain ⟨oc, od, kV, doc, pm, an, cdv, ct, osl, ed, lk, hcd⟩ := T.F_law.ex
  rw [ed] at lk
  refine LamX.run_ofS (k := 8) (N := ["_law_script", "_law_draws", "_law_turn", "_law_forest_here", "_law_text", "_law_again", "_law_found"]) (ps := ["_law_script"]) (us := [.ref a]) (vs := [.ref a]) lk hcd sc_law room e0 (by rw [← ed]; exact bind s _) (.cons rfl .nil) rfl fun hr => ?_
  refine ⟨_, PSs.nox (pss_cons (ps_set (i := 1) sc_law.nd rfl (.inl rfl) (pe_call G_Lbegin (hr.mono (by decide)) (by rfl) T.g_Lbegin T.F_Lbegin.kp T.b_Lbegin .nil pass0 (pa_cons (pv 0) pa_nil)))
      (pss_cons (ps_for PassesOwn.never rfl (pi_range1 (by rfl) T.m_range (pa_cons (pe_op op_add pe_int (pe_callB call_len_seq (by rfl) T.m_len PySem.boot_len (pa_cons (pe_slice sl_list (pv 0) po_none (po_some pe_int)) pa_nil))) pa_nil)) (pg_name (i := 2) sc_law.nd rfl (.inl rfl)) (pss_cons (ps_set (i := 3) sc_law.nd rfl (.inl rfl) (pe_call G_Lforest (hr.mono (by decide)) (by rfl) T.g_Lforest T.F_Lforest.kp T.b_Lforest .nil pass0 (pa_cons (pv 1) (pa_cons pe_int pa_nil))))
      (pss_cons (ps_set (i := 4) sc_law.nd rfl (.inl rfl) (pe_join pe_str (pe_call G_Lrowsof (hr.mono (by decide)) (by rfl) T.g_Lrowsof T.F_Lrowsof.kp T.b_Lrowsof .nil pass0 (pa_cons (pv 3) pa_nil))))
      (pss_one (ps_for PassesOwn.never rfl (pi_range1 (by rfl) T.m_range (pa_cons pe_int pa_nil)) (pg_name (i := 5) sc_law.nd rfl (.inl rfl)) (pss_cons (ps_set (i := 6) sc_law.nd rfl (.inl rfl) (pe_call G_readforest hr (by rfl) T.g_readforest T.F_readforest.kp T.b_readforest .nil pass0 (pa_cons (pv 4) pa_nil)))
      (pss_one (ps_if (PW.pt (pw_or (pt_cmpR op_ne (pe_callB (call_repr rfl hr.units) (by rfl) T.m_repr (by decide +kernel) (pa_cons (pv 6) pa_nil)) (pe_callB (call_repr rfl hr.units) (by rfl) T.m_repr (by decide +kernel) (pa_cons (pv 3) pa_nil)) (nomark _)) (pw_or1 (pt_cmpR op_ne (pe_call G_showforest (hr.mono (by decide)) (by rfl) T.g_showforest T.F_showforest.kp T.b_showforest .nil pass0 (pa_cons (pv 6) pa_nil)) (pv 4) (nomark _))))) (pss_one (ps_ret pe_bl)) pss_nil))))))))
      (pss_one (ps_ret (pe_cmpR op_eq (pe_callB (call_repr rfl hr.units) (by rfl) T.m_repr (by decide +kernel) (pa_cons (pe_call G_readforest hr (by rfl) T.g_readforest T.F_readforest.kp T.b_readforest .nil pass0 (pa_cons pe_str pa_nil)) pa_nil)) (pe_callB (call_repr rfl hr.units) (by rfl) T.m_repr (by decide +kernel) (pa_cons (pe_tup (pa_cons (pe_tup (pa_cons (pe_tup (pa_cons pe_int (pa_cons pe_str pa_nil))) (pa_cons (pe_tup (pa_cons pe_int (pa_cons pe_str pa_nil))) pa_nil))) (pa_cons (pe_tup (pa_cons (pe_tup (pa_cons pe_int (pa_cons pe_int pa_nil))) pa_nil)) pa_nil))) pa_nil)) (nomark _)))))), ?_⟩
  refine ⟨_, rfl, a, ns, rfl, hS, fun d c ms H1 s1 nd D1 => ?_⟩
  refine ⟨_, rfl, 6, rfl, a, _, rfl, s1.seq hS, fun p np => ⟨p, _, rfl, .inl (SqL.of upd_same), _, _, rfl, rfl, _, rfl, by omega, ?_, ?_⟩⟩
  · have z := cutV_length (ns.map V.int) none (some 6)
    rw [List.length_map] at z
    omega
  have B1 : DrAt H1 d c := ⟨ms, D1⟩
  refine for_range (lo := 0) (n := _) (fun i σ H2 => ∃ y2 y3 y4 y5 y6, σ = [some (.ref a), some (.ref d), y2, y3, y4, y5, y6] ∧ DrAt H2 d c ∧ Tb T.tbs H2) ⟨none, none, none, none, none, rfl, B1.new np, (tb0.same s1).same (same_new np)⟩ ?_ ?_
  · rintro i σ H2 hi ⟨y2, y3, y4, y5, y6, rfl, B2, tb2⟩
    refine ⟨_, rfl, d, c, 100, rfl, B2, by decide, by decide, fun f pts ts H3 fok hm le up B3 k3 td => ?_⟩
    have tok := TOk.of fok le up
    have sh := forest_shows fok
    have tb3 := tb2.but B2 k3
    refine ⟨⟨_, rfl⟩, _, rfl, f, pts, ts, rfl, td, fok.rw, fun D H4 s4 hD => ⟨_, D, _, rfl, rfl, .inl (SqL.of hD), rows_len fok.rw, ?_⟩⟩
    have td4 := td.mono (Tups.of_same s4)
    refine ⟨2, rfl, by decide, by decide, for_range (lo := 0) (n := 2) (fun i σ H5 => ∃ z2 z5 z6, σ = [some (.ref a), some (.ref d), z2, some (.ref f), some (.str (Txt.join "\n" (rowsOf pts ts))), z5, z6] ∧ Kp H4 H5 ∧ Tb T.tbs H5) ⟨_, _, _, rfl, Kp.refl H4, tb3.same s4⟩ ?_ ?_⟩
    · rintro i σ H5 hi ⟨z2, z5, z6, rfl, k5, tb5⟩
      refine ⟨_, rfl, pts, ts, rfl, tok, tb5, fun g H6 k6 tb6 td6 => ?_⟩
      have td5 := td4.mono (Tups.of_kp (k5.trans k6))
      refine ⟨_, rfl, .ref g, fdata pts ts, rfl, td6.dp, rfl, sh.sh, sh.nd, sh.dp, sh.ln, ?_⟩
      refine ⟨_, rfl, .ref f, fdata pts ts, rfl, td5.dp, rfl, sh.sh, sh.nd, sh.dp, sh.ln, rfl, _, rfl, iteNS rfl ?_⟩
      refine ⟨_, rfl, g, pts, ts, rfl, td6, fok.rw, fun H7 s7 => ?_⟩
      refine ⟨_, rfl, rfl, _, rfl, iteNS rfl ?_⟩
      exact ⟨_, _, _, rfl, (k5.trans k6).same s7, tb6.same s7⟩
    · rintro σ H5 ⟨z2, z5, z6, rfl, k5, tb5⟩
      exact ⟨_, _, _, _, _, rfl, (B3.same s4).kp k5, tb5⟩
  · rintro σ H2 ⟨y2, y3, y4, y5, y6, rfl, B2, tb2⟩
    have sh := forest_shows last_ok.fr
    refine ⟨[(0, "a"), (0, "a")], [(0, 1)], (by rw [last_text]; rfl), last_ok, tb2, fun g H6 k6 tb6 td6 => ?_⟩
    refine ⟨.ref g, fdata _ _, rfl, td6.dp, rfl, sh.sh, sh.nd, sh.dp, sh.ln, ?_⟩
    refine ⟨(by show 2 ≤ sizeLine; decide), fun t1 n1 => ⟨(by show 2 ≤ sizeLine; decide), fun t2 n2 => ⟨(by show 2 ≤ sizeLine; decide), fun t3 n3 => ⟨(by show 2 ≤ sizeLine; decide), fun t4 n4 => ⟨(by show 1 ≤ sizeLine; decide), fun t5 n5 => ⟨(by show 2 ≤ sizeLine; decide), fun t6 n6 => ?_⟩⟩⟩⟩⟩⟩
    have u2 := same_new (o := .tup [.int 0, .str "a"]) n2
    have u3 := same_new (o := .tup [.ref t1, .ref t2]) n3
    have u4 := same_new (o := .tup [.int 0, .int 1]) n4
    have u5 := same_new (o := .tup [.ref t4]) n5
    have u6 := same_new (o := .tup [.ref t3, .ref t5]) n6
    have p1 := u6 _ _ (u5 _ _ (u4 _ _ (u3 _ _ (u2 _ _ (upd_same (H := H6) (a := t1) (o := .tup [.int 0, .str "a"]))))))
    have p2 := u6 _ _ (u5 _ _ (u4 _ _ (u3 _ _ (upd_same (H := upd H6 t1 (.tup [.int 0, .str "a"])) (a := t2) (o := .tup [.int 0, .str "a"])))))
    have p3 := u6 _ _ (u5 _ _ (u4 _ _ (upd_same (H := upd (upd H6 t1 (.tup [.int 0, .str "a"])) t2 (.tup [.int 0, .str "a"])) (a := t3) (o := .tup [.ref t1, .ref t2]))))
    have p4 := u6 _ _ (u5 _ _ (upd_same (H := upd (upd (upd H6 t1 (.tup [.int 0, .str "a"])) t2 (.tup [.int 0, .str "a"])) t3 (.tup [.ref t1, .ref t2])) (a := t4) (o := .tup [.int 0, .int 1])))
    have p5 := u6 _ _ (upd_same (H := upd (upd (upd (upd H6 t1 (.tup [.int 0, .str "a"])) t2 (.tup [.int 0, .str "a"])) t3 (.tup [.ref t1, .ref t2])) t4 (.tup [.int 0, .int 1])) (a := t5) (o := .tup [.ref t4]))
    refine ⟨.ref t6, fdata [(0, "a"), (0, "a")] [(0, 1)], rfl, (Td.tup (SqT.of upd_same) (.cons (.tup (SqT.of p3) (.cons (Td.pt p1) (.cons (Td.pt p2) .nil))) (.cons (.tup (SqT.of p5) (.cons (Td.two p4) .nil)) .nil))).dp, rfl, sh.sh, sh.nd, sh.dp, sh.ln, rfl, ?_⟩
    exact congrArg V.bl (decide_eq_true rfl)
end

end My
namespace My
open PySem L2
theorem all_mk {l : PySem.W.OpenLaw} {w : World} {K : PySem.W.Frag} {h : Heap} {mg : Str → Option Value} {fa f0 f1 f2 f3 f4 f5 f6 f7 f8 f9 f10 f11 f12 f13 f14 f15 f16 f17 f18 f19 f20 f21 f22 f23 f24 f25 f26 : Addr} {fK : Addr} {tG : Tok} {cA PA : Addr} {eA : Value} {ddA : Option Addr} {vsA : Array Value} {sloA : Array (Option Value)} {cR PR : Addr} {eR : Value} {ddR : Option Addr} {vsR : Array Value} {sloR : Array (Option Value)} {cY PY : Addr} {eY : Value} {ddY : Option Addr} {vsY : Array Value} {sloY : Array (Option Value)} {cN PN : Addr} {eN : Value} {ddN : Option Addr} {vsN : Array Value} {sloN : Array (Option Value)} (X : K.In h) (G : h.Ns mainGlobals mg) (hfa : mg "law" = some (.ref fa))
    {od0 an0 od1 an1 od2 an2 od3 an3 od4 an4 od5 an5 od6 an6 od7 an7 od8 an8 od9 an9 od10 an10 od11 an11 od12 an12 od13 an13 od14 an14 od15 an15 od16 an16 od17 an17 od18 an18 od19 an19 od20 an20 od21 an21 od22 an22 od23 an23 od24 an24 od25 an25 od26 an26 : Option Addr} {sl0 sl1 sl2 sl3 sl4 sl5 sl6 sl7 sl8 sl9 sl10 sl11 sl12 sl13 sl14 sl15 sl16 sl17 sl18 sl19 sl20 sl21 sl22 sl23 sl24 sl25 sl26 : Array (Option Value)} {oc0 kV0 dc0 pm0 cd0 ct0 oc1 kV1 dc1 pm1 cd1 ct1 oc2 kV2 dc2 pm2 cd2 ct2 oc3 kV3 dc3 pm3 cd3 ct3 oc4 kV4 dc4 pm4 cd4 ct4 oc5 kV5 dc5 pm5 cd5 ct5 oc6 kV6 dc6 pm6 cd6 ct6 oc7 kV7 dc7 pm7 cd7 ct7 oc8 kV8 dc8 pm8 cd8 ct8 oc9 kV9 dc9 pm9 cd9 ct9 oc10 kV10 dc10 pm10 cd10 ct10 oc11 kV11 dc11 pm11 cd11 ct11 oc12 kV12 dc12 pm12 cd12 ct12 oc13 kV13 dc13 pm13 cd13 ct13 oc14 kV14 dc14 pm14 cd14 ct14 oc15 kV15 dc15 pm15 cd15 ct15 oc16 kV16 dc16 pm16 cd16 ct16 oc17 kV17 dc17 pm17 cd17 ct17 oc18 kV18 dc18 pm18 cd18 ct18 oc19 kV19 dc19 pm19 cd19 ct19 oc20 kV20 dc20 pm20 cd20 ct20 oc21 kV21 dc21 pm21 cd21 ct21 oc22 kV22 dc22 pm22 cd22 ct22 oc23 kV23 dc23 pm23 cd23 ct23 oc24 kV24 dc24 pm24 cd24 ct24 oc25 kV25 dc25 pm25 cd25 ct25 oc26 kV26 dc26 pm26 cd26 ct26 : Value}
    (a0 : PySem.W.nsIn K mainGlobals "is_whole" = some (some (.ref f0))) (l0 : K.lookup f0 = some ⟨oc0, od0, .func (PySem.W.fnOf "is_whole" "is_whole" (defArgs s_iswhole) (defBody s_iswhole) (defScope s_iswhole) .none kV0 dc0 pm0 an0 cd0 ct0), sl0⟩) (c0 : PySem.W.codeIn K cd0 "is_whole" = true) (k0 : PySem.W.keepIn K (.ref f0) = true)
    (a1 : PySem.W.nsIn K mainGlobals "are_wholes" = some (some (.ref f1))) (l1 : K.lookup f1 = some ⟨oc1, od1, .func (PySem.W.fnOf "are_wholes" "are_wholes" (defArgs s_arewholes) (defBody s_arewholes) (defScope s_arewholes) .none kV1 dc1 pm1 an1 cd1 ct1), sl1⟩) (c1 : PySem.W.codeIn K cd1 "are_wholes" = true) (k1 : PySem.W.keepIn K (.ref f1) = true)
    (a2 : PySem.W.nsIn K mainGlobals "is_rising" = some (some (.ref f2))) (l2 : K.lookup f2 = some ⟨oc2, od2, .func (PySem.W.fnOf "is_rising" "is_rising" (defArgs s_isrising) (defBody s_isrising) (defScope s_isrising) .none kV2 dc2 pm2 an2 cd2 ct2), sl2⟩) (c2 : PySem.W.codeIn K cd2 "is_rising" = true) (k2 : PySem.W.keepIn K (.ref f2) = true)
    (a3 : PySem.W.nsIn K mainGlobals "is_kind" = some (some (.ref f3))) (l3 : K.lookup f3 = some ⟨oc3, od3, .func (PySem.W.fnOf "is_kind" "is_kind" (defArgs s_iskind) (defBody s_iskind) (defScope s_iskind) .none kV3 dc3 pm3 an3 cd3 ct3), sl3⟩) (c3 : PySem.W.codeIn K cd3 "is_kind" = true) (k3 : PySem.W.keepIn K (.ref f3) = true)
    (a4 : PySem.W.nsIn K mainGlobals "is_point" = some (some (.ref f4))) (l4 : K.lookup f4 = some ⟨oc4, od4, .func (PySem.W.fnOf "is_point" "is_point" (defArgs s_ispoint) (defBody s_ispoint) (defScope s_ispoint) .none kV4 dc4 pm4 an4 cd4 ct4), sl4⟩) (c4 : PySem.W.codeIn K cd4 "is_point" = true) (k4 : PySem.W.keepIn K (.ref f4) = true)
    (a5 : PySem.W.nsIn K mainGlobals "are_ties" = some (some (.ref f5))) (l5 : K.lookup f5 = some ⟨oc5, od5, .func (PySem.W.fnOf "are_ties" "are_ties" (defArgs s_areties) (defBody s_areties) (defScope s_areties) .none kV5 dc5 pm5 an5 cd5 ct5), sl5⟩) (c5 : PySem.W.codeIn K cd5 "are_ties" = true) (k5 : PySem.W.keepIn K (.ref f5) = true)
    (a6 : PySem.W.nsIn K mainGlobals "is_tie" = some (some (.ref f6))) (l6 : K.lookup f6 = some ⟨oc6, od6, .func (PySem.W.fnOf "is_tie" "is_tie" (defArgs s_istie) (defBody s_istie) (defScope s_istie) .none kV6 dc6 pm6 an6 cd6 ct6), sl6⟩) (c6 : PySem.W.codeIn K cd6 "is_tie" = true) (k6 : PySem.W.keepIn K (.ref f6) = true)
    (a7 : PySem.W.nsIn K mainGlobals "has_ring" = some (some (.ref f7))) (l7 : K.lookup f7 = some ⟨oc7, od7, .func (PySem.W.fnOf "has_ring" "has_ring" (defArgs s_hasring) (defBody s_hasring) (defScope s_hasring) .none kV7 dc7 pm7 an7 cd7 ct7), sl7⟩) (c7 : PySem.W.codeIn K cd7 "has_ring" = true) (k7 : PySem.W.keepIn K (.ref f7) = true)
    (a8 : PySem.W.nsIn K mainGlobals "top_of" = some (some (.ref f8))) (l8 : K.lookup f8 = some ⟨oc8, od8, .func (PySem.W.fnOf "top_of" "top_of" (defArgs s_topof) (defBody s_topof) (defScope s_topof) .none kV8 dc8 pm8 an8 cd8 ct8), sl8⟩) (c8 : PySem.W.codeIn K cd8 "top_of" = true) (k8 : PySem.W.keepIn K (.ref f8) = true)
    (a9 : PySem.W.nsIn K mainGlobals "show_words" = some (some (.ref f9))) (l9 : K.lookup f9 = some ⟨oc9, od9, .func (PySem.W.fnOf "show_words" "show_words" (defArgs s_showwords) (defBody s_showwords) (defScope s_showwords) .none kV9 dc9 pm9 an9 cd9 ct9), sl9⟩) (c9 : PySem.W.codeIn K cd9 "show_words" = true) (k9 : PySem.W.keepIn K (.ref f9) = true)
    (a10 : PySem.W.nsIn K mainGlobals "show_word" = some (some (.ref f10))) (l10 : K.lookup f10 = some ⟨oc10, od10, .func (PySem.W.fnOf "show_word" "show_word" (defArgs s_showword) (defBody s_showword) (defScope s_showword) .none kV10 dc10 pm10 an10 cd10 ct10), sl10⟩) (c10 : PySem.W.codeIn K cd10 "show_word" = true) (k10 : PySem.W.keepIn K (.ref f10) = true)
    (a11 : PySem.W.nsIn K mainGlobals "show_number" = some (some (.ref f11))) (l11 : K.lookup f11 = some ⟨oc11, od11, .func (PySem.W.fnOf "show_number" "show_number" (defArgs s_shownumber) (defBody s_shownumber) (defScope s_shownumber) .none kV11 dc11 pm11 an11 cd11 ct11), sl11⟩) (c11 : PySem.W.codeIn K cd11 "show_number" = true) (k11 : PySem.W.keepIn K (.ref f11) = true)
    (a12 : PySem.W.nsIn K mainGlobals "read_words" = some (some (.ref f12))) (l12 : K.lookup f12 = some ⟨oc12, od12, .func (PySem.W.fnOf "read_words" "read_words" (defArgs s_readwords) (defBody s_readwords) (defScope s_readwords) .none kV12 dc12 pm12 an12 cd12 ct12), sl12⟩) (c12 : PySem.W.codeIn K cd12 "read_words" = true) (k12 : PySem.W.keepIn K (.ref f12) = true)
    (a13 : PySem.W.nsIn K mainGlobals "read_word" = some (some (.ref f13))) (l13 : K.lookup f13 = some ⟨oc13, od13, .func (PySem.W.fnOf "read_word" "read_word" (defArgs s_readword) (defBody s_readword) (defScope s_readword) .none kV13 dc13 pm13 an13 cd13 ct13), sl13⟩) (c13 : PySem.W.codeIn K cd13 "read_word" = true) (k13 : PySem.W.keepIn K (.ref f13) = true)
    (a14 : PySem.W.nsIn K mainGlobals "is_number" = some (some (.ref f14))) (l14 : K.lookup f14 = some ⟨oc14, od14, .func (PySem.W.fnOf "is_number" "is_number" (defArgs s_isnumber) (defBody s_isnumber) (defScope s_isnumber) .none kV14 dc14 pm14 an14 cd14 ct14), sl14⟩) (c14 : PySem.W.codeIn K cd14 "is_number" = true) (k14 : PySem.W.keepIn K (.ref f14) = true)
    (a15 : PySem.W.nsIn K mainGlobals "read_number" = some (some (.ref f15))) (l15 : K.lookup f15 = some ⟨oc15, od15, .func (PySem.W.fnOf "read_number" "read_number" (defArgs s_readnumber) (defBody s_readnumber) (defScope s_readnumber) .none kV15 dc15 pm15 an15 cd15 ct15), sl15⟩) (c15 : PySem.W.codeIn K cd15 "read_number" = true) (k15 : PySem.W.keepIn K (.ref f15) = true)
    (a16 : PySem.W.nsIn K mainGlobals "show_forest" = some (some (.ref f16))) (l16 : K.lookup f16 = some ⟨oc16, od16, .func (PySem.W.fnOf "show_forest" "show_forest" (defArgs s_showforest) (defBody s_showforest) (defScope s_showforest) .none kV16 dc16 pm16 an16 cd16 ct16), sl16⟩) (c16 : PySem.W.codeIn K cd16 "show_forest" = true) (k16 : PySem.W.keepIn K (.ref f16) = true)
    (a17 : PySem.W.nsIn K mainGlobals "forest_rows" = some (some (.ref f17))) (l17 : K.lookup f17 = some ⟨oc17, od17, .func (PySem.W.fnOf "forest_rows" "forest_rows" (defArgs s_forestrows) (defBody s_forestrows) (defScope s_forestrows) .none kV17 dc17 pm17 an17 cd17 ct17), sl17⟩) (c17 : PySem.W.codeIn K cd17 "forest_rows" = true) (k17 : PySem.W.keepIn K (.ref f17) = true)
    (a18 : PySem.W.nsIn K mainGlobals "read_forest" = some (some (.ref f18))) (l18 : K.lookup f18 = some ⟨oc18, od18, .func (PySem.W.fnOf "read_forest" "read_forest" (defArgs s_readforest) (defBody s_readforest) (defScope s_readforest) .none kV18 dc18 pm18 an18 cd18 ct18), sl18⟩) (c18 : PySem.W.codeIn K cd18 "read_forest" = true) (k18 : PySem.W.keepIn K (.ref f18) = true)
    (a19 : PySem.W.nsIn K mainGlobals "forest_of_rows" = some (some (.ref f19))) (l19 : K.lookup f19 = some ⟨oc19, od19, .func (PySem.W.fnOf "forest_of_rows" "forest_of_rows" (defArgs s_forestofrows) (defBody s_forestofrows) (defScope s_forestofrows) .none kV19 dc19 pm19 an19 cd19 ct19), sl19⟩) (c19 : PySem.W.codeIn K cd19 "forest_of_rows" = true) (k19 : PySem.W.keepIn K (.ref f19) = true)
    (a20 : PySem.W.nsIn K mainGlobals "_law_begin" = some (some (.ref f20))) (l20 : K.lookup f20 = some ⟨oc20, od20, .func (PySem.W.fnOf "_law_begin" "_law_begin" (defArgs s_Lbegin) (defBody s_Lbegin) (defScope s_Lbegin) .none kV20 dc20 pm20 an20 cd20 ct20), sl20⟩) (c20 : PySem.W.codeIn K cd20 "_law_begin" = true) (k20 : PySem.W.keepIn K (.ref f20) = true)
    (a21 : PySem.W.nsIn K mainGlobals "_law_next" = some (some (.ref f21))) (l21 : K.lookup f21 = some ⟨oc21, od21, .func (PySem.W.fnOf "_law_next" "_law_next" (defArgs s_Lnext) (defBody s_Lnext) (defScope s_Lnext) .none kV21 dc21 pm21 an21 cd21 ct21), sl21⟩) (c21 : PySem.W.codeIn K cd21 "_law_next" = true) (k21 : PySem.W.keepIn K (.ref f21) = true)
    (a22 : PySem.W.nsIn K mainGlobals "_law_many" = some (some (.ref f22))) (l22 : K.lookup f22 = some ⟨oc22, od22, .func (PySem.W.fnOf "_law_many" "_law_many" (defArgs s_Lmany) (defBody s_Lmany) (defScope s_Lmany) .none kV22 dc22 pm22 an22 cd22 ct22), sl22⟩) (c22 : PySem.W.codeIn K cd22 "_law_many" = true) (k22 : PySem.W.keepIn K (.ref f22) = true)
    (a23 : PySem.W.nsIn K mainGlobals "_law_worth" = some (some (.ref f23))) (l23 : K.lookup f23 = some ⟨oc23, od23, .func (PySem.W.fnOf "_law_worth" "_law_worth" (defArgs s_Lworth) (defBody s_Lworth) (defScope s_Lworth) .none kV23 dc23 pm23 an23 cd23 ct23), sl23⟩) (c23 : PySem.W.codeIn K cd23 "_law_worth" = true) (k23 : PySem.W.keepIn K (.ref f23) = true)
    (a24 : PySem.W.nsIn K mainGlobals "_law_forest" = some (some (.ref f24))) (l24 : K.lookup f24 = some ⟨oc24, od24, .func (PySem.W.fnOf "_law_forest" "_law_forest" (defArgs s_Lforest) (defBody s_Lforest) (defScope s_Lforest) .none kV24 dc24 pm24 an24 cd24 ct24), sl24⟩) (c24 : PySem.W.codeIn K cd24 "_law_forest" = true) (k24 : PySem.W.keepIn K (.ref f24) = true)
    (a25 : PySem.W.nsIn K mainGlobals "_law_rows_of" = some (some (.ref f25))) (l25 : K.lookup f25 = some ⟨oc25, od25, .func (PySem.W.fnOf "_law_rows_of" "_law_rows_of" (defArgs s_Lrowsof) (defBody s_Lrowsof) (defScope s_Lrowsof) .none kV25 dc25 pm25 an25 cd25 ct25), sl25⟩) (c25 : PySem.W.codeIn K cd25 "_law_rows_of" = true) (k25 : PySem.W.keepIn K (.ref f25) = true)
    (a26 : PySem.W.nsIn K mainGlobals "law" = some (some (.ref f26))) (l26 : K.lookup f26 = some ⟨oc26, od26, .func (PySem.W.fnOf "law" "law" (defArgs s_law) (defBody s_law) (defScope s_law) .none kV26 dc26 pm26 an26 cd26 ct26), sl26⟩) (c26 : PySem.W.codeIn K cd26 "law" = true) (k26 : PySem.W.keepIn K (.ref f26) = true)
    (z0 : PySem.W.nsIn K mainGlobals "abs" = some none)
    (z1 : PySem.W.nsIn K mainGlobals "all" = some none)
    (z2 : PySem.W.nsIn K mainGlobals "bool" = some none)
    (z3 : PySem.W.nsIn K mainGlobals "enumerate" = some none)
    (z4 : PySem.W.nsIn K mainGlobals "int" = some none)
    (z5 : PySem.W.nsIn K mainGlobals "isinstance" = some none)
    (z6 : PySem.W.nsIn K mainGlobals "len" = some none)
    (z7 : PySem.W.nsIn K mainGlobals "list" = some none)
    (z8 : PySem.W.nsIn K mainGlobals "max" = some none)
    (z9 : PySem.W.nsIn K mainGlobals "min" = some none)
    (z10 : PySem.W.nsIn K mainGlobals "range" = some none)
    (z11 : PySem.W.nsIn K mainGlobals "repr" = some none)
    (z12 : PySem.W.nsIn K mainGlobals "reversed" = some none)
    (z13 : PySem.W.nsIn K mainGlobals "sorted" = some none)
    (z14 : PySem.W.nsIn K mainGlobals "str" = some none)
    (z15 : PySem.W.nsIn K mainGlobals "tuple" = some none)
    (z16 : PySem.W.nsIn K mainGlobals "zip" = some none)
    (qG : PySem.W.nsIn K mainGlobals "FIGURES" = some (some (.str "0123456789" tG)))
    (qK : PySem.W.nsIn K mainGlobals "KINDS" = some (some (.ref fK)))
    (hK : tupB K fK kinds = true)
    (hcA : cd1 = .ref cA)
    (lcA : K.lookup cA = some ⟨eA, ddA, .fields vsA, sloA⟩)
    (v11A : vsA[11]? = some (.ref PA))
    (nPA : K.lookup PA = none)
    (hdA : PySem.W.codeHdIn K cA PA = true)
    (hcR : cd2 = .ref cR)
    (lcR : K.lookup cR = some ⟨eR, ddR, .fields vsR, sloR⟩)
    (v11R : vsR[11]? = some (.ref PR))
    (nPR : K.lookup PR = none)
    (hdR : PySem.W.codeHdIn K cR PR = true)
    (hcY : cd5 = .ref cY)
    (lcY : K.lookup cY = some ⟨eY, ddY, .fields vsY, sloY⟩)
    (v11Y : vsY[11]? = some (.ref PY))
    (nPY : K.lookup PY = none)
    (hdY : PySem.W.codeHdIn K cY PY = true)
    (hcN : cd14 = .ref cN)
    (lcN : K.lookup cN = some ⟨eN, ddN, .fields vsN, sloN⟩)
    (v11N : vsN[11]? = some (.ref PN))
    (nPN : K.lookup PN = none)
    (hdN : PySem.W.codeHdIn K cN PN = true)
    (hneP : ([PA, PR, PY, PN] : List Addr).Nodup)
    (tabs : ∀ nm ∈ (["are_wholes", "is_rising", "are_ties", "is_number"] : List Str), TabAt mg h nm) : ∃ cs : List (Addr × Addr), (∀ p ∈ cs, h.get? p.2 = some { cls := .none, data := .fields #[] }) ∧ (∀ p ∈ cs, K.lookup p.2 = none) ∧ (∀ p ∈ cs, PySem.W.CodeHd h p.1 p.2) ∧
      ∀ (s : Shared) (H : Hp) (base : Heap) (a : Addr) (ns : List Int), ns.length ≤ 63 → (∀ z ∈ ns, Builtin.Int.intBits z ≤ 1048576) → (∀ p ∈ cs, LamX.TabB base mg p.1 p.2) → Env0 l.prog w K mg base callerA [] s H → (∀ p ∈ cs, H p.2 = some (.tbl #[])) → SqL K H a (ns.map V.int) →
        codeAny (model l.prog w) callerA (.call (.ref fa) ⟨[.ref a], []⟩) (CR CX0 [] l.prog w H s (fun v _ => v = .bl true) E0) s := by
  have e := hfa.symm.trans (PySem.W.mg_of X G a26)
  cases e
  have F0 := fun_mk (st := s_iswhole) l0 c0 k0
  have b0 := F0.binds (ps := ["thing"]) fun _ _ _ _ _ _ us hl => match us, hl with | [_], _ => rfl
  have F1 := fun_mk (st := s_arewholes) l1 c1 k1
  have b1 := F1.binds (ps := ["thing"]) fun _ _ _ _ _ _ us hl => match us, hl with | [_], _ => rfl
  have F2 := fun_mk (st := s_isrising) l2 c2 k2
  have b2 := F2.binds (ps := ["row"]) fun _ _ _ _ _ _ us hl => match us, hl with | [_], _ => rfl
  have F3 := fun_mk (st := s_iskind) l3 c3 k3
  have b3 := F3.binds (ps := ["thing"]) fun _ _ _ _ _ _ us hl => match us, hl with | [_], _ => rfl
  have F4 := fun_mk (st := s_ispoint) l4 c4 k4
  have b4 := F4.binds (ps := ["thing"]) fun _ _ _ _ _ _ us hl => match us, hl with | [_], _ => rfl
  have F5 := fun_mk (st := s_areties) l5 c5 k5
  have b5 := F5.binds (ps := ["thing", "many"]) fun _ _ _ _ _ _ us hl => match us, hl with | [_, _], _ => rfl
  have F6 := fun_mk (st := s_istie) l6 c6 k6
  have b6 := F6.binds (ps := ["thing", "many"]) fun _ _ _ _ _ _ us hl => match us, hl with | [_, _], _ => rfl
  have F7 := fun_mk (st := s_hasring) l7 c7 k7
  have b7 := F7.binds (ps := ["ties", "many"]) fun _ _ _ _ _ _ us hl => match us, hl with | [_, _], _ => rfl
  have F8 := fun_mk (st := s_topof) l8 c8 k8
  have b8 := F8.binds (ps := ["above", "point"]) fun _ _ _ _ _ _ us hl => match us, hl with | [_, _], _ => rfl
  have F9 := fun_mk (st := s_showwords) l9 c9 k9
  have b9 := F9.binds (ps := ["parts"]) fun _ _ _ _ _ _ us hl => match us, hl with | [_], _ => rfl
  have F10 := fun_mk (st := s_showword) l10 c10 k10
  have b10 := F10.binds (ps := ["part"]) fun _ _ _ _ _ _ us hl => match us, hl with | [_], _ => rfl
  have F11 := fun_mk (st := s_shownumber) l11 c11 k11
  have b11 := F11.binds (ps := ["number"]) fun _ _ _ _ _ _ us hl => match us, hl with | [_], _ => rfl
  have F12 := fun_mk (st := s_readwords) l12 c12 k12
  have b12 := F12.binds (ps := ["text"]) fun _ _ _ _ _ _ us hl => match us, hl with | [_], _ => rfl
  have F13 := fun_mk (st := s_readword) l13 c13 k13
  have b13 := F13.binds (ps := ["word"]) fun _ _ _ _ _ _ us hl => match us, hl with | [_], _ => rfl
  have F14 := fun_mk (st := s_isnumber) l14 c14 k14
  have b14 := F14.binds (ps := ["word"]) fun _ _ _ _ _ _ us hl => match us, hl with | [_], _ => rfl
  have F15 := fun_mk (st := s_readnumber) l15 c15 k15
  have b15 := F15.binds (ps := ["word"]) fun _ _ _ _ _ _ us hl => match us, hl with | [_], _ => rfl
  have F16 := fun_mk (st := s_showforest) l16 c16 k16
  have b16 := F16.binds (ps := ["forest"]) fun _ _ _ _ _ _ us hl => match us, hl with | [_], _ => rfl
  have F17 := fun_mk (st := s_forestrows) l17 c17 k17
  have b17 := F17.binds (ps := ["forest"]) fun _ _ _ _ _ _ us hl => match us, hl with | [_], _ => rfl
  have F18 := fun_mk (st := s_readforest) l18 c18 k18
  have b18 := F18.binds (ps := ["text"]) fun _ _ _ _ _ _ us hl => match us, hl with | [_], _ => rfl
  have F19 := fun_mk (st := s_forestofrows) l19 c19 k19
  have b19 := F19.binds (ps := ["rows"]) fun _ _ _ _ _ _ us hl => match us, hl with | [_], _ => rfl
  have F20 := fun_mk (st := s_Lbegin) l20 c20 k20
  have b20 := F20.binds (ps := ["_law_script"]) fun _ _ _ _ _ _ us hl => match us, hl with | [_], _ => rfl
  have F21 := fun_mk (st := s_Lnext) l21 c21 k21
  have b21 := F21.binds (ps := ["_law_draws", "_law_many_here"]) fun _ _ _ _ _ _ us hl => match us, hl with | [_, _], _ => rfl
  have F22 := fun_mk (st := s_Lmany) l22 c22 k22
  have b22 := F22.binds (ps := ["_law_draws", "_law_few", "_law_most"]) fun _ _ _ _ _ _ us hl => match us, hl with | [_, _, _], _ => rfl
  have F23 := fun_mk (st := s_Lworth) l23 c23 k23
  have b23 := F23.binds (ps := ["_law_draws"]) fun _ _ _ _ _ _ us hl => match us, hl with | [_], _ => rfl
  have F24 := fun_mk (st := s_Lforest) l24 c24 k24
  have b24 := F24.binds (ps := ["_law_draws", "_law_most"]) fun _ _ _ _ _ _ us hl => match us, hl with | [_, _], _ => rfl
  have F25 := fun_mk (st := s_Lrowsof) l25 c25 k25
  have b25 := F25.binds (ps := ["_law_forest_here"]) fun _ _ _ _ _ _ us hl => match us, hl with | [_], _ => rfl
  have F26 := fun_mk (st := s_law) l26 c26 k26
  have b26 := F26.binds (ps := ["_law_script"]) fun _ _ _ _ _ _ us hl => match us, hl with | [_], _ => rfl
  let T : Top K mg := ⟨_, _, F0, b0, PySem.W.mg_of X G a0, _, _, F1, b1, PySem.W.mg_of X G a1, _, _, F2, b2, PySem.W.mg_of X G a2, _, _, F3, b3, PySem.W.mg_of X G a3, _, _, F4, b4, PySem.W.mg_of X G a4, _, _, F5, b5, PySem.W.mg_of X G a5, _, _, F6, b6, PySem.W.mg_of X G a6, _, _, F7, b7, PySem.W.mg_of X G a7, _, _, F8, b8, PySem.W.mg_of X G a8, _, _, F9, b9, PySem.W.mg_of X G a9, _, _, F10, b10, PySem.W.mg_of X G a10, _, _, F11, b11, PySem.W.mg_of X G a11, _, _, F12, b12, PySem.W.mg_of X G a12, _, _, F13, b13, PySem.W.mg_of X G a13, _, _, F14, b14, PySem.W.mg_of X G a14, _, _, F15, b15, PySem.W.mg_of X G a15, _, _, F16, b16, PySem.W.mg_of X G a16, _, _, F17, b17, PySem.W.mg_of X G a17, _, _, F18, b18, PySem.W.mg_of X G a18, _, _, F19, b19, PySem.W.mg_of X G a19, _, _, F20, b20, PySem.W.mg_of X G a20, _, _, F21, b21, PySem.W.mg_of X G a21, _, _, F22, b22, PySem.W.mg_of X G a22, _, _, F23, b23, PySem.W.mg_of X G a23, _, _, F24, b24, PySem.W.mg_of X G a24, _, _, F25, b25, PySem.W.mg_of X G a25, _, _, F26, b26, PySem.W.mg_of X G a26, PySem.W.mg_none_of X G z0, PySem.W.mg_none_of X G z1, PySem.W.mg_none_of X G z2, PySem.W.mg_none_of X G z3, PySem.W.mg_none_of X G z4, PySem.W.mg_none_of X G z5, PySem.W.mg_none_of X G z6, PySem.W.mg_none_of X G z7, PySem.W.mg_none_of X G z8, PySem.W.mg_none_of X G z9, PySem.W.mg_none_of X G z10, PySem.W.mg_none_of X G z11, PySem.W.mg_none_of X G z12, PySem.W.mg_none_of X G z13, PySem.W.mg_none_of X G z14, PySem.W.mg_none_of X G z15, PySem.W.mg_none_of X G z16, _, PySem.W.mg_of X G qG, _, PySem.W.mg_of X G qK, hK, cA, PA, hcA, cR, PR, hcR, cY, PY, hcY, cN, PN, hcN, hneP⟩
  refine ⟨[(cA, PA), (cR, PR), (cY, PY), (cN, PN)], ?_, ?_, ?_, fun s H base a ns hlen hbits tb e0 th sq => ?_⟩
  · intro p hp
    rcases mem4 hp with rfl | rfl | rfl | rfl
    · exact tab_empty (tabs _ List.mem_cons_self) X (PySem.W.mg_of X G a1) l1 rfl hcA lcA v11A
    · exact tab_empty (tabs _ (List.mem_cons_of_mem _ List.mem_cons_self)) X (PySem.W.mg_of X G a2) l2 rfl hcR lcR v11R
    · exact tab_empty (tabs _ (List.mem_cons_of_mem _ (List.mem_cons_of_mem _ List.mem_cons_self))) X (PySem.W.mg_of X G a5) l5 rfl hcY lcY v11Y
    · exact tab_empty (tabs _ (List.mem_cons_of_mem _ (List.mem_cons_of_mem _ (List.mem_cons_of_mem _ List.mem_cons_self)))) X (PySem.W.mg_of X G a14) l14 rfl hcN lcN v11N
  · intro p hp
    rcases mem4 hp with rfl | rfl | rfl | rfl
    · exact nPA
    · exact nPR
    · exact nPY
    · exact nPN
  · intro p hp
    rcases mem4 hp with rfl | rfl | rfl | rfl
    · exact PySem.W.codeHd_of_K X hdA
    · exact PySem.W.codeHd_of_K X hdR
    · exact PySem.W.codeHd_of_K X hdY
    · exact PySem.W.codeHd_of_K X hdN
  · exact run_law T ⟨(tb _ List.mem_cons_self).code, (tb _ List.mem_cons_self).bm, (tb _ List.mem_cons_self).gP⟩ ⟨(tb _ (List.mem_cons_of_mem _ List.mem_cons_self)).code, (tb _ (List.mem_cons_of_mem _ List.mem_cons_self)).bm, (tb _ (List.mem_cons_of_mem _ List.mem_cons_self)).gP⟩ ⟨(tb _ (List.mem_cons_of_mem _ (List.mem_cons_of_mem _ List.mem_cons_self))).code, (tb _ (List.mem_cons_of_mem _ (List.mem_cons_of_mem _ List.mem_cons_self))).bm, (tb _ (List.mem_cons_of_mem _ (List.mem_cons_of_mem _ List.mem_cons_self))).gP⟩ ⟨(tb _ (List.mem_cons_of_mem _ (List.mem_cons_of_mem _ (List.mem_cons_of_mem _ List.mem_cons_self)))).code, (tb _ (List.mem_cons_of_mem _ (List.mem_cons_of_mem _ (List.mem_cons_of_mem _ List.mem_cons_self)))).bm, (tb _ (List.mem_cons_of_mem _ (List.mem_cons_of_mem _ (List.mem_cons_of_mem _ List.mem_cons_self)))).gP⟩ e0 (th _ List.mem_cons_self) (th _ (List.mem_cons_of_mem _ List.mem_cons_self)) (th _ (List.mem_cons_of_mem _ (List.mem_cons_of_mem _ List.mem_cons_self))) (th _ (List.mem_cons_of_mem _ (List.mem_cons_of_mem _ (List.mem_cons_of_mem _ List.mem_cons_self)))) sq hlen ⟨rfl, by decide, by decide⟩ (fun s u => .of_eq rfl)
end My
open PySem PySem.W PyProof.Rows
set_option maxRecDepth 100000 in
set_option maxHeartbeats 0 in
theorem PySem.Challenge.cw_tiedcut_k80_forests_read_holds : PySem.Challenge.rw_tiedcut_k80_forests_read.Holds := by
  w_on; o_law; k_head; (case hw => w_witness2)
  k_fill
  refine My.walk_law0 (l := PySem.Challenge.rw_tiedcut_k80_forests_read) (most := 63) ["are_wholes", "is_rising", "are_ties", "is_number"] rfl (by decide) rfl (by decide +kernel) (fun w h Y => by first | exact PySem.W.kIn_of Y | exact PySem.W.km_in_of Y) ?F
  case F =>
    intro w mg fa h KX G hmg tabs
    refine' My.all_mk KX G hmg ?a0 ?l0 ?c0 ?k0 ?a1 ?l1 ?c1 ?k1 ?a2 ?l2 ?c2 ?k2 ?a3 ?l3 ?c3 ?k3 ?a4 ?l4 ?c4 ?k4 ?a5 ?l5 ?c5 ?k5 ?a6 ?l6 ?c6 ?k6 ?a7 ?l7 ?c7 ?k7 ?a8 ?l8 ?c8 ?k8 ?a9 ?l9 ?c9 ?k9 ?a10 ?l10 ?c10 ?k10 ?a11 ?l11 ?c11 ?k11 ?a12 ?l12 ?c12 ?k12 ?a13 ?l13 ?c13 ?k13 ?a14 ?l14 ?c14 ?k14 ?a15 ?l15 ?c15 ?k15 ?a16 ?l16 ?c16 ?k16 ?a17 ?l17 ?c17 ?k17 ?a18 ?l18 ?c18 ?k18 ?a19 ?l19 ?c19 ?k19 ?a20 ?l20 ?c20 ?k20 ?a21 ?l21 ?c21 ?k21 ?a22 ?l22 ?c22 ?k22 ?a23 ?l23 ?c23 ?k23 ?a24 ?l24 ?c24 ?k24 ?a25 ?l25 ?c25 ?k25 ?a26 ?l26 ?c26 ?k26 ?z0 ?z1 ?z2 ?z3 ?z4 ?z5 ?z6 ?z7 ?z8 ?z9 ?z10 ?z11 ?z12 ?z13 ?z14 ?z15 ?z16 ?qG ?qK ?hK ?hcA ?lcA ?v11A ?nPA ?hdA ?hcR ?lcR ?v11R ?nPR ?hdR ?hcY ?lcY ?v11Y ?nPY ?hdY ?hcN ?lcN ?v11N ?nPN ?hdN ?hneP tabs
    (case a0 => k_is)
    (case l0 => k_is)
    (case c0 => k_is)
    (case k0 => k_is)
    (case a1 => k_is)
    (case l1 => k_is)
    (case c1 => k_is)
    (case k1 => k_is)
    (case a2 => k_is)
    (case l2 => k_is)
    (case c2 => k_is)
    (case k2 => k_is)
    (case a3 => k_is)
    (case l3 => k_is)
    (case c3 => k_is)
    (case k3 => k_is)
    (case a4 => k_is)
    (case l4 => k_is)
    (case c4 => k_is)
    (case k4 => k_is)
    (case a5 => k_is)
    (case l5 => k_is)
    (case c5 => k_is)
    (case k5 => k_is)
    (case a6 => k_is)
    (case l6 => k_is)
    (case c6 => k_is)
    (case k6 => k_is)
    (case a7 => k_is)
    (case l7 => k_is)
    (case c7 => k_is)
    (case k7 => k_is)
    (case a8 => k_is)
    (case l8 => k_is)
    (case c8 => k_is)
    (case k8 => k_is)
    (case a9 => k_is)
    (case l9 => k_is)
    (case c9 => k_is)
    (case k9 => k_is)
    (case a10 => k_is)
    (case l10 => k_is)
    (case c10 => k_is)
    (case k10 => k_is)
    (case a11 => k_is)
    (case l11 => k_is)
    (case c11 => k_is)
    (case k11 => k_is)
    (case a12 => k_is)
    (case l12 => k_is)
    (case c12 => k_is)
    (case k12 => k_is)
    (case a13 => k_is)
    (case l13 => k_is)
    (case c13 => k_is)
    (case k13 => k_is)
    (case a14 => k_is)
    (case l14 => k_is)
    (case c14 => k_is)
    (case k14 => k_is)
    (case a15 => k_is)
    (case l15 => k_is)
    (case c15 => k_is)
    (case k15 => k_is)
    (case a16 => k_is)
    (case l16 => k_is)
    (case c16 => k_is)
    (case k16 => k_is)
    (case a17 => k_is)
    (case l17 => k_is)
    (case c17 => k_is)
    (case k17 => k_is)
    (case a18 => k_is)
    (case l18 => k_is)
    (case c18 => k_is)
    (case k18 => k_is)
    (case a19 => k_is)
    (case l19 => k_is)
    (case c19 => k_is)
    (case k19 => k_is)
    (case a20 => k_is)
    (case l20 => k_is)
    (case c20 => k_is)
    (case k20 => k_is)
    (case a21 => k_is)
    (case l21 => k_is)
    (case c21 => k_is)
    (case k21 => k_is)
    (case a22 => k_is)
    (case l22 => k_is)
    (case c22 => k_is)
    (case k22 => k_is)
    (case a23 => k_is)
    (case l23 => k_is)
    (case c23 => k_is)
    (case k23 => k_is)
    (case a24 => k_is)
    (case l24 => k_is)
    (case c24 => k_is)
    (case k24 => k_is)
    (case a25 => k_is)
    (case l25 => k_is)
    (case c25 => k_is)
    (case k25 => k_is)
    (case a26 => k_is)
    (case l26 => k_is)
    (case c26 => k_is)
    (case k26 => k_is)
    (case z0 => k_is)
    (case z1 => k_is)
    (case z2 => k_is)
    (case z3 => k_is)
    (case z4 => k_is)
    (case z5 => k_is)
    (case z6 => k_is)
    (case z7 => k_is)
    (case z8 => k_is)
    (case z9 => k_is)
    (case z10 => k_is)
    (case z11 => k_is)
    (case z12 => k_is)
    (case z13 => k_is)
    (case z14 => k_is)
    (case z15 => k_is)
    (case z16 => k_is)
    (case qG => k_is)
    (case qK => k_is)
    (case hK => kernel_rfl)
    (case hcA => rfl)
    (case lcA => k_is)
    (case v11A => rfl)
    (case nPA => kernel_rfl)
    (case hdA => kernel_rfl)
    (case hcR => rfl)
    (case lcR => k_is)
    (case v11R => rfl)
    (case nPR => kernel_rfl)
    (case hdR => kernel_rfl)
    (case hcY => rfl)
    (case lcY => k_is)
    (case v11Y => rfl)
    (case nPY => kernel_rfl)
    (case hdY => kernel_rfl)
    (case hcN => rfl)
    (case lcN => k_is)
    (case v11N => rfl)
    (case nPN => kernel_rfl)
    (case hdN => kernel_rfl)
    (case hneP => decide +kernel)
