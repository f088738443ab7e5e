import PyProof.Rows.All
import Wide.All
import OpenK.AllK
import Wide.FinOn
import HandS.ForMost
import HandS.More
import HandS.Sort
import HandS.Wide
import HandS.WideBits
import HandS.IsInst
import HandS.EndBits
import HandS.Exc
import HandS.ExcOwn
import HandS.ExcValue
import HandS.ExcInit
import HandS.ExcField
import HandS.WordsExc
import KE.KExcIs
import HandS.TupLe
import HandS.TupAny
import HandS.Zip
import HandS.Walk
import HandS.Star
import HandS.Style
import HandS.CallLocal
import HandS.Deep
import HandS.AnyAll
import HandS.GenOver
import HandS.EndTab
import HandS.Lambda
import HandS.RevTup
import HandS.Rev
import HandS.Text
import HandS.StrMore
import HandS.Replace
import HandS.RaiseMore
import HandS.SetFor
import PyProof.StrLawsAffix
import PyProof.JoinWalk
import KE.GoesMore
import HandS.Conv
import HandS.Iter
import KE.KUnpackStar
import HandS.TryOnly
import PyProof.TupleOfGen
import PyProof.GenCompD
import PyProof.EqLayable
import HandS.SortInts
import HandS.Strs
import HandS.SortRule
import KE.DataFind
import HandS.DictComp
import HandS.Deep
import PySem.Challenge.RW_tiedcut_k24_shapes_of_anything
set_option Elab.async false
set_option linter.all false
set_option maxRecDepth 100000
set_option maxHeartbeats 4000000
namespace My
open PySem PySem.Spec PyProof.Rows L2
/-! ### a generator expression, consumed by all: its own frame -/
def gcx (X : Cx) (s : Shared) (H : Hp) (ge : Env) (fp : List Addr) (Ag : Around) : Cx :=
  { X with A := Ag, s_0 := s, H_0 := H, env := ge, outer := X.stack, stack := ge :: X.stack, ex := fp, fn := fun _ => false, pn := [], xe := fun _ _ => False }
section
variable {X : Cx} {pins : List (Addr × Obj)} {σ : L2.St} {H : Hp} {s : Shared}
theorem clo_in {scope : Scope} {own : List (Str × Nat)} (I : Inv X pins σ H s) (ok : BlkOk X.N X.env.scope scope own) {y : Str} {c : Addr} (hm : (y, c) ∈ cloFrom X.env.cells scope.names []) : X.env.cells.lookup y = some c ∧ c < s.heap.objs.size ∧ (y, NameKind.free) ∈ scope.names := by
  rcases cloFrom_mem hm with z | ⟨h1, rfl⟩
  · cases z
  · have hc : ∃ c, X.env.cells.lookup y = some c := by
      rcases ok.free _ h1 rfl with k | k
      · exact I.ok.has _ (.inl k)
      · exact I.ok.has _ (.inr k)
    obtain ⟨c, hc⟩ := hc
    obtain ⟨v, z⟩ := I.cell _ _ hc
    rw [hc]
    exact ⟨rfl, z.lt, h1⟩
theorem gen_start {scope : Scope} {own : List (Str × Nat)} {fp : List Addr} {ge : Env} {code : Value} {Ag : Around} {s5 : Shared} {m : Str → Option Value} {ga : Addr} {go : Obj} (I : Inv X pins σ H s) (ok : BlkOk X.N X.env.scope scope own) (hN : X.N.Nodup)
    (hfp : ∀ b ∈ fp, FpOk X pins H b ∧ b < s.heap.objs.size) (hge : ge = genEnv scope (cloFrom X.env.cells scope.names []) s.heap.objs.size code builtinsNs X.env) (nocell : ∀ y ∈ scope.names, y.2 ≠ .cell)
    (hA : Ag.handled = none) (hfr : Ag.frames = some (ge :: X.stack)) (k5 : ∀ b o, s.heap.get? b = some o → s5.heap.get? b = some o) (os5 : s5.os = s.os) (bare5 : AllBare s5.gens)
    (ns5 : s5.heap.Ns s.heap.objs.size m) (hga : s5.heap.get? ga = some go) (hgt : s.heap.objs.size < ga) (hgd : ∀ v, go.data ≠ .cell v) :
    Inv (gcx X s H ge fp Ag) [(ga, go)] (wipe σ (own.map (·.2))) H s5 := by
  have hL : ge.locals = s.heap.objs.size := by
    rw [hge]
    rfl
  have hC : ge.cells = cloFrom X.env.cells scope.names [] := by
    rw [hge]
    rfl
  have hS : ge.scope = scope := by
    rw [hge]
    rfl
  have inC : ∀ {y c}, ge.cells.lookup y = some c → X.env.cells.lookup y = some c ∧ c < s.heap.objs.size := fun {y c} e => by
    rw [hC] at e
    have z := clo_in I ok (PySem.mem_of_lookup e)
    exact ⟨z.1, z.2.1⟩
  have look : ∀ {y}, scope.names.lookup y = some .free → ∃ c, ge.cells.lookup y = some c ∧ X.env.cells.lookup y = some c := fun {y} hl => by
    have hm := cloFrom_has (cells := X.env.cells) (acc := []) (PySem.mem_of_lookup hl)
    obtain ⟨c, e⟩ := mem_lookup hm
    rw [← hC] at e
    exact ⟨c, e, (inC e).1⟩
  have kindF : ∀ {y k}, scope.names.lookup y = some k → (k = .cell ∨ k = .free) → scope.names.lookup y = some .free := fun {y k} e hk => by
    rcases hk with rfl | rfl
    · exact absurd rfl (nocell _ (PySem.mem_of_lookup e))
    · exact e
  have okG : (gcx X s H ge fp Ag).Ok := by
    refine ⟨I.ok.mod, ?_, ?_, ?_, ?_, ?_, ?_, ?_, fun _ => hA, hfr, .inr ⟨rfl, ?_⟩, ?_, I.bs, Nat.le_trans I.ok.bsz I.sz, ?_, ?_, I.stack, I.stkFree⟩
    · show ge.scope.kind = .function
      rw [hS]
      exact ok.kind
    · show ge.globals = mainGlobals
      rw [hge]
      exact I.ok.glob
    · show ge.builtins = builtinsNs
      rw [hge]
      rfl
    · show s.heap.objs.size ≤ ge.locals
      rw [hL]
      exact Nat.le_refl _
    · intro y z c e1 e2
      exact I.ok.inj y z c (inC e1).1 (inC e2).1
    · intro y hy
      have e : scope.names.lookup y = some .free := by
        rcases hy with hy | hy
        · have hy2 : ge.scope.names.lookup y = some .cell := hy
          rw [hS] at hy2
          exact kindF hy2 (.inl rfl)
        · have hy2 : ge.scope.names.lookup y = some .free := hy
          rw [hS] at hy2
          exact hy2
      obtain ⟨c, e1, _⟩ := look e
      exact ⟨c, e1⟩
    · intro y c z
      cases z
    · show ge.frame = some ge.locals
      rw [hge]
      rfl
    · intro b hb
      refine ⟨?_, fun y c e z => ?_⟩
      · show b ≠ ge.locals
        rw [hL]
        exact Nat.ne_of_lt (hfp b hb).2
      · exact (hfp b hb).1.2.2.2.2.1 y c (inC e).1 z
    · intro b o e hb
      rcases (hfp b hb).1.2.2.2.1 with z | z
      · exact I.ok.noex b o e z
      · exact absurd (Nat.lt_of_lt_of_le (Heap.lt_size e) (Nat.le_trans I.ok.bsz z)) (Nat.lt_irrefl _)
    · intro b hb z
      rcases List.mem_cons.mp (I.stkSub b z) with z | z
      · exact (hfp b hb).1.2.1 z
      · exact (hfp b hb).1.2.2.1 z
  have frL : H s.heap.objs.size = none := I.hok.fresh (Nat.le_refl _)
  refine ⟨okG, os5, bare5, Un.kept k5, ⟨m, ?_, fun i y av e1 e2 e3 => ?_⟩, fun y c e => ?_, ?_, fun y c e => I.freeC y c (inC e).1, fun p hp => ?_, I.hok.kept k5, by rw [wipe_length]; exact I.len⟩
  · show s5.heap.Ns ge.locals m
    rw [hL]
    exact ns5
  · obtain ⟨e2, hne⟩ := wipe_some e2
    have e3 : Vis ge.scope y := e3
    rw [hS] at e3
    have nol : scope.names.lookup y ≠ some .local := fun z => by
      rcases ok.own _ (PySem.mem_of_lookup z) (.inl rfl) with q | q
      · obtain ⟨p, hp, hpy⟩ := List.mem_map.mp q
        have e5 := ok.ix p hp
        have e6 : p.1 = y := hpy
        rw [e6] at e5
        exact hne (List.mem_map.mpr ⟨p, hp, nodup_ix hN e5 e1⟩)
      · exact q (List.mem_of_getElem? e1)
    have hf : scope.names.lookup y = some .free := by
      rcases e3 with z | z | z
      · exact absurd z nol
      · exact kindF z (.inl rfl)
      · exact z
    obtain ⟨m0, hn, hl⟩ := I.loc
    have hvis : Vis X.env.scope y := (ok.free _ (PySem.mem_of_lookup hf) rfl).elim (fun k => .inr (.inl k)) (fun k => .inr (.inr k))
    obtain ⟨u, r, q⟩ := hl i y av e1 e2 hvis
    obtain ⟨c, g1, g2⟩ := look hf
    refine ⟨u, r, .inr ⟨.inr ?_, c, g1, ?_⟩⟩
    · show ge.scope.names.lookup y = some .free
      rw [hS]
      exact hf
    · rcases q with ⟨k, _⟩ | ⟨_, c', e', z⟩
      · have k : X.env.scope.names.lookup y = some .local := k
        rcases ok.free _ (PySem.mem_of_lookup hf) rfl with k' | k'
        · have k2 : X.env.scope.names.lookup y = some .cell := k'
          rw [k2] at k
          cases k
        · have k2 : X.env.scope.names.lookup y = some .free := k'
          rw [k2] at k
          cases k
      · rw [g2] at e'
        cases e'
        exact z.keeps k5
  · obtain ⟨v, z⟩ := I.cell y c (inC e).1
    exact ⟨v, z.keeps k5⟩
  · show H ge.locals = none
    rw [hL]
    exact frL
  · have hp2 : p ∈ ([] : List (Addr × Obj)) ++ [(ga, go)] := hp
    rw [List.nil_append] at hp2
    rcases List.mem_cons.mp hp2 with e | e
    · subst e
      refine ⟨hga, I.hok.fresh (Nat.le_of_lt hgt), ?_, fun z => ?_, hgd⟩
      · show ga ≠ ge.locals
        rw [hL]
        exact Nat.ne_of_gt hgt
      · have z2 : ga ∈ frs X.stack := z
        obtain ⟨_, o, ho, _⟩ := I.stack.mem z2
        exact absurd (Nat.lt_trans (Heap.lt_size ho) hgt) (Nat.lt_irrefl _)
    · cases e
end
section
variable {X : Cx} {pins : List (Addr × Obj)} {σ : L2.St} {H : Hp} {s : Shared}
/-- the generator's object -/
def genO (X : Cx) (s4 : Shared) : Obj := { cls := .type "generator", data := .fields #[.int s4.gens.size 0, .str "<genexpr>" (s4.toks + 1), .str (X.env.qual ++ "<genexpr>") (s4.toks + 1 + 1)] }
/-- the generator is made: its source has come, the def's table may have grown -/
theorem gen_make {c P : Addr} {elt tg iter : Expr} {gpos : Pos} {scope : Scope} {own : List (Str × Nat)} {wi : TI} {k : Nat} {Q' : Value → Shared → Prop} {R : It → Hp → Prop} (hr : Room k X.A) (TB : GxR.TabB X.base X.mg c P) (hcode : X.env.code = .ref c)
    (ok : BlkOk X.N X.env.scope scope own) (hco : scope.isCoroutine = false) (nocell : ∀ y ∈ scope.names, y.2 ≠ .cell) (hdot : scope.names.lookup (".0" : Str) = some NameKind.local) (hi : PI X tg iter wi) (hs : ∀ v, genFold iter X.env v = pure v)
    (I : Inv X pins σ H s) (h : wi σ H fun J H1 => GxR.TabG H1 P ∧ R J H1)
    (hQ : ∀ (it : Addr) (fp : List Addr) (tn : Nat → Heap → Prop) (J : It) (H1 H2 : Hp) (code : Value) (s4 : Shared) (h5 : Heap), Inv X pins σ H2 s4 → GxR.Tabbed P H1 H2 → Turn X.prog X.w X.K tg J fp it tn → tn 0 s4.heap →
      (∀ b ∈ fp, FpOk X pins H2 b ∧ b < s4.heap.objs.size) → R J H1 → h5.Ns s4.heap.objs.size (fun y => if y = ".0" then some (.ref it) else none) → Heap.SameBut s4.heap.objs.size (s4.heap.push { cls := .type "frame", data := .dict #[] }) h5 →
      Q' (.ref h5.objs.size) { s4 with gens := s4.gens.push (.fresh (.compStart (.GeneratorExp elt [⟨tg, iter, [], 0⟩] scope gpos) 0 (.ref it) .none (genEnv scope (cloFrom X.env.cells scope.names []) s4.heap.objs.size code builtinsNs X.env))), toks := s4.toks + 1 + 1 + 1, heap := h5.push (genO X s4) }) :
    wpAny (model X.prog X.w) X.A (eval (.GeneratorExp elt [⟨tg, iter, [], 0⟩] scope gpos) X.env) Q' X.xe s := by
  have hfree : ∀ y ∈ scope.names, y.2 = .free → ∃ c, X.env.cells.lookup y.1 = some c := fun y hy e => by
    rcases ok.free y hy e with z | z
    · exact I.ok.has _ (.inl z)
    · exact I.ok.has _ (.inr z)
  refine wpAny_GeneratorExp_make hco (closure_ok hfree) nocell hdot ok.kind (by have := hr.dp; omega) ?_ hs
  refine thn (hi.run pins s σ H _ I h) fun xv s1 hx => thn hx fun itv s2 h2 => ?_
  obtain ⟨it, fp, tn, J, H1, rfl, I1, T, st, f1, ⟨ps, hP, ht⟩, q1⟩ := h2
  have hPs : s2.heap.get? P = some { cls := .none, data := .fields ps } := I1.hok P _ hP
  have cd : PySem.W.CodeHd s2.heap c P := TB.code.keeps fun b u e => I1.bk b u e
  have nP : ∀ b, H1 b = none → b ≠ P := fun b e z => by
    rw [z, hP] at e
    cases e
  have fsz : ∀ b ∈ fp, b < s2.heap.objs.size := fun b hb => by
    obtain ⟨o, e, _⟩ := T.obj _ _ st b hb
    exact Heap.lt_size e
  have cont : ∀ (code : Value) (h3 : Heap) (tk : Nat) (ps' : Array Value), Heap.ExtBut P s2.heap h3 → s2.heap.objs.size ≤ h3.objs.size → h3.get? P = some { cls := .none, data := .fields ps' } → (∃ more, ps' = ps ++ more) → TriplesOk ps'.toList →
      wpAny (model X.prog X.w) X.A (builtinsFor X.env.globals X.env.builtins) (fun bi s4 => ∀ h5, h5.Ns s4.heap.objs.size (fun y => if y = ".0" then some (.ref it) else none) → Heap.SameBut s4.heap.objs.size (s4.heap.push { cls := .type "frame", data := .dict #[] }) h5 →
        Q' (.ref h5.objs.size) { s4 with gens := s4.gens.push (.fresh (.compStart (.GeneratorExp elt [⟨tg, iter, [], 0⟩] scope gpos) 0 (.ref it) .none (genEnv scope (cloFrom X.env.cells scope.names []) s4.heap.objs.size code bi X.env))), toks := s4.toks + 1 + 1 + 1, heap := h5.push (genO X s4) }) X.xe { s2 with heap := h3, toks := tk } := by
    intro code h3 tk ps' hx hsz hP3 hmore ht3
    obtain ⟨bm, ob, e1, e2, e3, e4, e5, e6, e7, e8⟩ := TB.bm
    have keep3 : ∀ b u, b ≠ P → s2.heap.get? b = some u → h3.get? b = some u := fun b u hb e => hx b u hb e
    refine wpAny_builtinsFor (m := X.mg) (by rw [I1.ok.glob]; exact (I1.mod.glob.keeps I1.bk).extBut hx TB.gP) e1 e2 (keep3 _ _ e4 (I1.bk _ _ e5)) e6 e7 e8 ?_
    intro h5 n5 b5
    obtain ⟨more, em⟩ := hmore
    have J0 := GxR.inv_tab (more := more) (h' := h3) (g' := s2.gens) (d' := s2.drawn) (t' := tk) I1 hP keep3 (by rw [← em]; exact hP3) I1.bare
    refine hQ it fp tn J H1 (upd H1 P (.tbl (ps ++ more))) code { s2 with heap := h3, toks := tk } h5 J0 ⟨⟨ps ++ more, upd_same, by rw [← em]; exact ht3⟩, fun b hb => upd_ne hb⟩ T ?_ ?_ q1 n5 b5
    · refine T.keep _ _ _ st fun b hb o e => keep3 b o (nP b (f1 b hb).1) e
    · intro b hb
      refine ⟨⟨?_, (f1 b hb).2⟩, Nat.lt_of_lt_of_le (fsz b hb) hsz⟩
      rw [upd_ne (nP b (f1 b hb).1)]
      exact (f1 b hb).1
  refine ⟨I1.nolimit, ?_⟩
  cases hf : codeAmong gpos ps.toList with
  | none =>
    refine wpAny_genexprCodeX hcode (cd.code hPs ht) (cd.tab hPs) hf fun c' h' tk hx hge hlt hco' _ htab' _ => ?_
    obtain ⟨o1, vs, f1', tf, fl, tg', inF, tx, tt, op, _, _, _, _, _, _, _, _, _, htr, _⟩ := hco'
    exact cont _ h' tk _ hx (Nat.le_trans hge (Nat.le_of_lt hlt)) htab'.2 ⟨_, rfl⟩ htr
  | some cv =>
    refine wpAny_genexprCode_hit hcode (cd.code hPs ht) hf ?_
    exact cont cv s2.heap s2.toks ps (Heap.ExtBut.refl _ _) (Nat.le_refl _) hPs ⟨#[], by simp⟩ ht
end
/-- nothing but the table of generators has changed -/
structure Woke (s s2 : Shared) : Prop where
  hp : s2.heap = s.heap
  os : s2.os = s.os
  br : AllBare s2.gens
theorem inv_woke {X : Cx} {pins : List (Addr × Obj)} {σ : L2.St} {H : Hp} {s s2 : Shared} (I : Inv X pins σ H s) (k : Woke s s2) : Inv X pins σ H s2 := by
  obtain ⟨h2, g2, d2, t2, o2⟩ := s2
  obtain ⟨h1, g1, d1, t1, o1⟩ := s
  obtain ⟨e1, e2, br⟩ := k
  dsimp only at e1 e2
  subst e1 e2
  exact ⟨I.ok, I.os, br, I.base, I.loc, I.cell, I.free, I.freeC, I.pin, I.hok, I.len⟩
/-- what a generator expression under all is asked -/
def gTurns (J : It) (g : TG) (te : TE) (σw : L2.St) (vs : List Nat) (W : Nat → Nat → Hp → Prop) (Q : Bool → Hp → Prop) : Prop :=
  ∀ i m H, W i m H → (J.stop i H ∧ Q true H) ∨ (J.go i H ∧ ∀ x H', J.yld i H x H' → g x σw H' fun σ2 H2 => wipe σ2 vs = σw ∧ te σ2 H2 fun y H3 => ∃ b, y = .bl b ∧ if b = true then ∃ m', m' < m ∧ W (i + 1) m' H3 else Q false H3)
def gFin (G : Cx) (pn : Addr × Obj) (σw : L2.St) (Q : Bool → Hp → Prop) (b : Bool) (s : Shared) : Prop := ∃ H', Inv G [pn] σw H' s ∧ Q b H'
def gY (G : Cx) (pn : Addr × Obj) (σw : L2.St) (Q : Bool → Hp → Prop) : Protocol := fun _ _ v s kap =>
  ∃ b : Bool, v = .bool b ∧ (∃ H', Inv G [pn] σw H' s) ∧ (b = true → ∀ s2, Woke s s2 → kap (.send .none) s2) ∧ (b = false → gFin G pn σw Q false s)
section
variable {G : Cx} {pn : Addr × Obj} {σw : L2.St} {Q : Bool → Hp → Prop} {A2 : Around} {elt tg iter : Expr} {scope : Scope} {gpos : Pos} {it : Addr} {fp : List Addr} {tn : Nat → Heap → Prop} {J : It} {g : TG} {te : TE} {vs : List Nat} {W : Nat → Nat → Hp → Prop}
theorem gen_loop (hA : G.A = A2.over (.compLoop (.GeneratorExp elt [⟨tg, iter, [], 0⟩] scope gpos) 0 (.ref it) .none G.env) []) (hc : G.calm = true) (hex : G.ex = fp) (hpn : G.pn = []) (hxe : G.xe = fun _ _ => False) (hco : G.env.scope.isCoroutine = false)
    (T : Turn G.prog G.w G.K tg J fp it tn) (hgp : ∀ b ∈ fp, pn.1 ≠ b) (pg : PG G tg g) (pe : PE G elt te) (hsw : ∀ σ2 : L2.St, wipe σ2 vs = σw → σ2.length = σw.length ∧ ∀ (i : Nat) v, σw[i]? = some (some v) → σ2[i]? = some (some v)) (turn : gTurns J g te σw vs W Q) :
    ∀ (m n i : Nat) (s₀ s : Shared), m < n → (∃ H', Inv G [pn] σw H' s ∧ tn i s.heap ∧ (∀ b ∈ fp, H' b = none) ∧ W i m H') →
      Seg (model G.prog G.w) A2 (fun _ _ r s1 => r = .ok .next ∧ gFin G pn σw Q true s1) (gY G pn σw Q) n s₀ (.compLoop (.GeneratorExp elt [⟨tg, iter, [], 0⟩] scope gpos) 0 (.ref it) .none G.env)
        ((model G.prog G.w).den (.compLoop (.GeneratorExp elt [⟨tg, iter, [], 0⟩] scope gpos) 0 (.ref it) .none G.env)) [] s := by
  have stat : ∀ {σ' : L2.St} {H' : Hp} {s' : Shared}, Inv G [pn] σ' H' s' → (∀ b ∈ fp, H' b = none) → ∀ b ∈ fp, FpOk G [pn] H' b := fun {σ' H' s'} I' hn b hb => by
    have hb2 : b ∈ G.ex := by
      rw [hex]
      exact hb
    refine ⟨hn b hb, (I'.ok.exf b hb2).1, I'.ok.exfs b hb2, .inl hb2, fun x c e => (I'.ok.exf b hb2).2 x c e, fun p hp => ?_⟩
    rw [hpn] at hp
    have hp2 : p ∈ [pn] := hp
    rw [List.mem_singleton.mp hp2]
    exact hgp b hb
  intro m
  induction m using Nat.strongRecOn with
  | ind m ih =>
    rintro n i s₀ s hmn ⟨H', I, st, nf, w⟩
    obtain ⟨n, rfl⟩ : ∃ n', n = n' + 1 := ⟨n - 1, by omega⟩
    show Seg _ A2 _ _ _ s₀ _ ((compTurn (.GeneratorExp elt [⟨tg, iter, [], 0⟩] scope gpos) 0 (.ref it) .none G.env).onRaise (leaving G.env)) [] s
    rw [compTurn_gen, Sem.onRaise_eq_wrap]
    refine seg_bind_wrap (wpAny_standAt ?_)
    rcases turn i m H' w with ⟨stop, qq⟩ | ⟨gox, step⟩
    · have td := T.done G rfl rfl rfl hc i [pn] s σw H' (fun _ _ => False) I (stat I nf) st stop
      rw [hA] at td
      refine seg_bind_wrap (thnF td fun r s6 z => ?_)
      obtain ⟨hr, I6⟩ := z
      subst hr
      exact seg_end (.ok .next) ⟨rfl, H', I6, qq⟩
    · have ti := T.item G rfl rfl rfl hc i [pn] s σw H' (fun _ _ => False) I (stat I nf) st gox
      rw [hA] at ti
      refine seg_bind_wrap (thnF ti fun r s6 z => ?_)
      obtain ⟨u, hr, h6⟩ := z
      subst hr
      refine seg_bind_wrap (thnF h6 fun _ s7 z => ?_)
      obtain ⟨x, H7, I7, r7, y7, st7, n7⟩ := z
      have I7' := I7.pinned (stat I7 n7) (T.obj _ _ st7)
      have pr := pg.run _ s7 _ H7 x u _ I7' r7 (step x H7 y7)
      rw [hA, hxe] at pr
      refine seg_bind_wrap (thnF pr fun _ s8 z => ?_)
      obtain ⟨σ8, H8, I8, hw8, q8⟩ := z
      have hy : ∀ v, yieldOut G.env v = yieldValue v := fun v => by simp only [yieldOut, hco, Bool.false_eq_true, if_false]
      simp only [List.forIn_nil, hy]
      refine seg_bind_wrap (wpAny_pure ?_)
      simp only [if_true]
      rw [Sem.bind_eq_wrap', Sem.bind_eq_wrap', Sem.wrap_wrap, Sem.wrap_wrap]
      have er := pe.run _ s8 σ8 H8 _ I8 q8
      rw [hA, hxe] at er
      refine seg_wrap (thnF er fun z s10 zz => ?_)
      obtain ⟨yv, H10, I10, r10, b, rfl, nx⟩ := zz
      cases r10
      have pin' : ∀ b ∈ fp, ∀ o, s7.heap.get? b = some o → s10.heap.get? b = some o ∧ H10 b = none := fun b hb o e =>
        let z := I10.pin (b, o) (List.mem_append_right _ (List.mem_append_right _ (mem_pinsAt hb e)))
        ⟨z.1, z.2.1⟩
      obtain ⟨hl8, hk8⟩ := hsw σ8 hw8
      have J10 : Inv G [pn] σw H10 s10 := (I10.unpinned (pins := [pn])).weak hl8.symm hk8
      refine seg_at (seg_yield rfl rfl rfl ⟨b, rfl, ⟨H10, J10⟩, fun hb s2 wk => ?_, fun hb => ?_⟩)
      · subst hb
        rw [if_pos rfl] at nx
        obtain ⟨m', hm', w'⟩ := nx
        refine seg_again rfl (ih m' hm' n (i + 1) s2 s2 (by omega) ⟨H10, inv_woke J10 wk, ?_, fun b hb => ?_, w'⟩)
        · rw [wk.hp]
          exact T.keep _ _ _ st7 fun b hb o e => (pin' b hb o e).1
        · obtain ⟨o, e, _⟩ := T.obj _ _ st7 b hb
          exact (pin' b hb o e).2
      · subst hb
        exact ⟨H10, J10, nx⟩
end
section
variable {M : Model} {A2 : Around} {R : GenEnd} {Y : Protocol} {n : Nat} {s₀ s : Shared} {elt tg iter : Expr} {scope : Scope} {gpos : Pos} {it : Addr} {ge : Env}
/-- the first turn -/
theorem gen_first {P : Program} {w : World} (hself : ∀ (Q : Value → Shared → Prop) (E : Value → Shared → Prop), Q (.ref it) s → wpAny (model P w) (A2.over (.compStart (.GeneratorExp elt [⟨tg, iter, [], 0⟩] scope gpos) 0 (.ref it) .none ge) []) (pyIter (.ref it)) Q E s)
    (loop : Seg (model P w) A2 R Y n s₀ (.compLoop (.GeneratorExp elt [⟨tg, iter, [], 0⟩] scope gpos) 0 (.ref it) .none ge) ((model P w).den (.compLoop (.GeneratorExp elt [⟨tg, iter, [], 0⟩] scope gpos) 0 (.ref it) .none ge)) [] s) :
    Seg (model P w) A2 R Y n s₀ (.compStart (.GeneratorExp elt [⟨tg, iter, [], 0⟩] scope gpos) 0 (.ref it) .none ge) ((model P w).den (.compStart (.GeneratorExp elt [⟨tg, iter, [], 0⟩] scope gpos) 0 (.ref it) .none ge)) [] s := by
  show Seg _ A2 _ _ _ s₀ _ ((compStart (.GeneratorExp elt [⟨tg, iter, [], 0⟩] scope gpos) 0 (.ref it) .none ge).onRaise (leaving ge)) [] s
  unfold compStart
  rw [Sem.onRaise_eq_wrap]
  show Seg _ A2 _ _ _ s₀ _ ((ask >>= _).wrap _ _ _ _) [] s
  refine seg_bind_wrap (wpAny_askSetting ?_)
  split
  · exact seg_again rfl loop
  · first
      | exact seg_bind_wrap (wpAny_rule (seg_bind_wrap (wpAny_standAt (seg_bind_wrap (hself _ _ (seg_again rfl loop))))))
      | (refine seg_bind_wrap (wpAny_rule ?_)
         show Seg _ A2 _ _ _ s₀ _ ((standAt iter.pos >>= _).wrap _ _ _ _) [] s
         exact seg_bind_wrap (wpAny_standAt (seg_bind_wrap (hself _ _ (seg_again rfl loop)))))
end
theorem bare_set {gens : Array GenState} {x : GenState} (h : AllBare gens) (hx : x.bare = true) (i : Nat) : AllBare (gens.setIfInBounds i x) := fun y hy => by
  rw [Array.mem_iff_getElem?] at hy
  obtain ⟨j, hj⟩ := hy
  by_cases e : i = j
  · subst e
    by_cases hi : i < gens.size
    · rw [Array.getElem?_setIfInBounds_self_of_lt hi] at hj
      rw [← Option.some.inj hj]
      exact hx
    · rw [Array.getElem?_eq_none (by simpa using hi)] at hj
      cases hj
  · rw [Array.getElem?_setIfInBounds_ne e] at hj
    exact h y (Array.mem_iff_getElem?.mpr ⟨j, hj⟩)
/-- all over the generator at a, number gi: its turns by the protocol -/
theorem all_gen {G : Cx} {pn : Addr × Obj} {σw : L2.St} {Q : Bool → Hp → Prop} {A : Around} {gi : Nat} {RR : Result → Shared → Prop} (hh : A.handled = none) (hroom : A.depth < recursionLimit) (hgen : ∀ h : Heap, h.get? pn.1 = some pn.2 → h.IsGen pn.1 gi)
    (hR : ∀ b s1, gFin G pn σw Q b s1 → ∀ s2 : Shared, (∀ b o, s1.heap.get? b = some o → s2.heap.get? b = some o) → s2.os = s1.os → AllBare s2.gens → RR (.ok (.ret (.bool b))) s2) :
    ∀ (n : Nat) (s : Shared), (∃ H', Inv G [pn] σw H' s) → gi < s.gens.size → (∃ gs, s.gens[gi]? = some gs ∧ ∀ s2, Woke s s2 → gs.Goes (model G.prog G.w) A.in1.in1 (fun _ _ r s1 => r = .ok .next ∧ gFin G pn σw Q true s1) (gY G pn σw Q) n (.send .none) s2) →
      codeAny (model G.prog G.w) A (.builtin "all.loop" ⟨[.ref pn.1], []⟩) RR s := by
  intro n
  induction n using Nat.strongRecOn with
  | ind n ih =>
    rintro s ⟨H', I⟩ hgi ⟨gs, hgs, hgo⟩
    have hpin := (I.pin pn (List.mem_append_right _ (List.mem_singleton.mpr rfl))).1
    have brun : AllBare (s.setGen gi .running).gens := bare_set I.bare rfl gi
    refine codeAny_builtin F.entry_all_loop ?_
    rw [Around.under_plainId F.plain_all_loop _]
    show wpAny _ A.in1 (pyNext (.ref pn.1) >>= _) _ _ s
    refine wpAny_bind (GenW.wpAny_gsz (n := s.gens.size) (Nat.le_refl _) ?_)
    refine wpAny_pyNext_genexpQ (P := fun _ _ s1 => gFin G pn σw Q true s1) hh I.nolimit hroom (hgen _ hpin) hgs (hgo _ ⟨rfl, rfl, brun⟩) (fun v s₁ gs' hb hv hsz => ?_) (fun s₁ hp h' hk hsz => ?_)
    · obtain ⟨b, rfl, ⟨H1, I1⟩, ht, hf⟩ := hv
      have b1 : AllBare (s₁.setGen gi gs').gens := bare_set I1.bare hb gi
      refine wpAny_bind (wpAny_holding (wpAny_truthy_bool ?_))
      refine wpAny_bind (wpAny_letGo ?_)
      cases b with
      | false =>
        simp only [Bool.false_eq_true, if_false]
        refine wpAny_bind (wpAny_rule (wpAny_pure ?_))
        exact hR false s₁ (hf rfl) (s₁.setGen gi gs') (fun _ _ e => e) rfl b1
      | true =>
        simp only [if_true]
        have hlt : gi < (s₁.setGen gi gs').gens.size := Nat.lt_of_lt_of_le hgi hsz
        have hlt1 : gi < s₁.gens.size := by
          have e := GenW.setGen_size s₁ gi gs'
          omega
        cases n with
        | zero => exact absurd (ht rfl s₁ ⟨rfl, rfl, I1.bare⟩) id
        | succ n =>
          refine wpAny_pure ⟨plainId_quiet F.plain_all_loop _, ih n (Nat.lt_succ_self n) (s₁.setGen gi gs') ⟨H1, inv_woke I1 ⟨rfl, rfl, b1⟩⟩ hlt ⟨gs', ?_, fun s2 wk => ht rfl s2 ⟨wk.hp, wk.os, wk.br⟩⟩⟩
          show (s₁.gens.setIfInBounds gi gs')[gi]? = some gs'
          rw [Array.getElem?_setIfInBounds_self_of_lt hlt1]
    · refine wpAny_bind (wpAny_rule (wpAny_pure ?_))
      obtain ⟨H1, I1, q1⟩ := id hp
      exact hR true s₁ hp { s₁.setGen gi .finished with heap := h' } hk rfl (bare_set I1.bare rfl gi)
def tAllG (P : Addr) (wi : TI) (g : TG) (te : TE) (vs : List Nat) : TE := fun σ H Q => wi σ H fun J H1 => GxR.TabG H1 P ∧ ∀ H2, GxR.Tabbed P H1 H2 → ∃ W : Nat → Nat → Hp → Prop, (∃ m, W 0 m H2) ∧ gTurns J g te (wipe σ vs) vs W (fun b H' => Q (.bl b) H')
theorem pe_allG {X : Cx} {c P : Addr} {elt tg iter : Expr} {p pos gpos : Pos} {scope : Scope} {own : List (Str × Nat)} {wi : TI} {g : TG} {te : TE} {k : Nat} (hr : Room (k + 1) X.A) (hc : X.calm = true) (hN : X.N.Nodup) (hg : Gl X "all") (hm : X.mg "all" = none) (hb : bootBuiltins "all" = some (.builtin "all"))
    (TB : GxR.TabB X.base X.mg c P) (hcode : X.env.code = .ref c) (ok : BlkOk X.N X.env.scope scope own) (hco : scope.isCoroutine = false) (nocell : ∀ y ∈ scope.names, y.2 ≠ .cell) (hdot : scope.names.lookup (".0" : Str) = some NameKind.local) (hi : PI X tg iter wi)
    (hgt : ∀ (s : Shared) (H : Hp) (cl : List (Str × Addr)) (C : Addr) (code : Value) (fp : List Addr) (Ag : Around), PG (gcx X s H (genEnv scope cl C code builtinsNs X.env) fp Ag) tg g)
    (hel : ∀ (s : Shared) (H : Hp) (cl : List (Str × Addr)) (C : Addr) (code : Value) (fp : List Addr) (Ag : Around), Room k Ag → PE (gcx X s H (genEnv scope cl C code builtinsNs X.env) fp Ag) elt te)
    (hs : ∀ v, genFold iter X.env v = pure v := by intro _; rfl)
    (he : starEach [.GeneratorExp elt [⟨tg, iter, [], 0⟩] scope gpos] X.env = (false, eval (.GeneratorExp elt [⟨tg, iter, [], 0⟩] scope gpos) X.env) :: starEach [] X.env := by rfl) :
    PE X (.Call (.Name "all" p) [.GeneratorExp elt [⟨tg, iter, [], 0⟩] scope gpos] [] pos) (tAllG P wi g te (own.map (·.2))) := by
  constructor
  intro pins s σ H Q I h
  refine wpAny_Call_Name_kw (ld_blt I hg hm hb ?_)
  refine PyProof.Rows.callWith_builtin1 ?_ he (by rfl)
  rw [he]
  show wpAny _ _ (spliced ((false, eval (.GeneratorExp elt [⟨tg, iter, [], 0⟩] scope gpos) X.env) :: backTo pos (starEach [] X.env))) _ _ s
  refine Calls.spliced_cons (gen_make (hr.mono (Nat.le_succ k)) TB hcode ok hco nocell hdot hi hs I h fun it fp tn J H1 H2 code s4 h5 I4 tb T st f4 hR n5 b5 => ?_)
  refine Calls.spliced_nil ?_
  obtain ⟨W, ⟨m, w0⟩, turns⟩ := hR H2 tb
  show wpAny _ _ (call (.builtin "all") [.ref h5.objs.size]) _ _ _
  have sz5 : h5.objs.size = s4.heap.objs.size + 1 := by
    rw [b5.1, Heap.size_push]
  generalize hge : genEnv scope (cloFrom X.env.cells scope.names []) s4.heap.objs.size code builtinsNs X.env = ge
  have k5 : ∀ b o, s4.heap.get? b = some o → (h5.push (genO X s4)).get? b = some o := fun b o e =>
    Heap.get?_push_of_some _ (b5.extBut b o (Nat.ne_of_lt (Heap.lt_size e)) (Heap.get?_push_of_some _ e))
  have ga5 : (h5.push (genO X s4)).get? h5.objs.size = some (genO X s4) := Heap.get?_push_size _ rfl
  have hAg : (X.A.in1.in1.over (.compLoop (.GeneratorExp elt [⟨tg, iter, [], 0⟩] scope gpos) 0 (.ref it) .none ge) []).handled = none := hr.hd
  have hFr : (X.A.in1.in1.over (.compLoop (.GeneratorExp elt [⟨tg, iter, [], 0⟩] scope gpos) 0 (.ref it) .none ge) []).frames = some (ge :: X.stack) := by
    show pushEnvs [ge] (pushEnvs [] X.A.frames) = some (ge :: X.stack)
    rw [I4.ok.frames]
    rfl
  have hRm : Room k (X.A.in1.in1.over (.compLoop (.GeneratorExp elt [⟨tg, iter, [], 0⟩] scope gpos) 0 (.ref it) .none ge) []) := by
    have e1 : (X.A.in1.in1.over (.compLoop (.GeneratorExp elt [⟨tg, iter, [], 0⟩] scope gpos) 0 (.ref it) .none ge) []).depth = X.A.depth + 1 := rfl
    have e2 : (X.A.in1.in1.over (.compLoop (.GeneratorExp elt [⟨tg, iter, [], 0⟩] scope gpos) 0 (.ref it) .none ge) []).units = X.A.units + 5 := rfl
    have d1 := hr.dp
    have d2 := hr.un
    exact ⟨hr.hd, by rw [e1]; omega, by rw [e2]; omega⟩
  have I5 := gen_start (s5 := { s4 with gens := s4.gens.push (.fresh (.compStart (.GeneratorExp elt [⟨tg, iter, [], 0⟩] scope gpos) 0 (.ref it) .none ge)), toks := s4.toks + 1 + 1 + 1, heap := h5.push (genO X s4) }) I4 ok hN f4 hge.symm nocell hAg hFr k5 rfl (I4.bare.push rfl) (n5.keeps fun b o e => Heap.get?_push_of_some _ e) ga5 (by omega) (fun v z => by cases z)
  have st5 : tn 0 (h5.push (genO X s4)) := T.keep _ _ _ st fun b _ o e => k5 b o e
  refine call_function_tree F.kind_all F.plain_all F.entry_all (F.args_all1 _) ?_
  unfold Builtin.«all»
  refine wpAny_bind (m := oneArg "all" _) (wpAny_pure ?_)
  have isg : ∀ hh : Heap, hh.get? h5.objs.size = some (genO X s4) → hh.IsGen h5.objs.size s4.gens.size := fun hh e => ⟨_, _, _, e, rfl, rfl, rfl⟩
  refine wpAny_bind (wpAny_pyIter_gen (isg _ ga5) ?_)
  refine wpAny_pure ⟨plainId_quiet F.plain_all_loop _, ?_⟩
  refine all_gen (G := gcx X s4 H2 ge fp (X.A.in1.in1.over (.compLoop (.GeneratorExp elt [⟨tg, iter, [], 0⟩] scope gpos) 0 (.ref it) .none ge) [])) (pn := (h5.objs.size, genO X s4)) (σw := wipe σ (own.map (·.2))) (Q := fun b H' => Q (.bl b) H') (gi := s4.gens.size)
    hr.hd (by have := hr.dp; omega) isg (fun b s1 hf s2 hk ho hbr => ?_) (m + 1) _ ⟨H2, I5⟩ (by show s4.gens.size < (s4.gens.push _).size; rw [Array.size_push]; omega) ⟨.fresh (.compStart (.GeneratorExp elt [⟨tg, iter, [], 0⟩] scope gpos) 0 (.ref it) .none ge), by show (s4.gens.push _)[s4.gens.size]? = some _; rw [Array.getElem?_push_size], fun s2 wk => ⟨rfl, ?_⟩⟩
  · obtain ⟨H', I', q'⟩ := hf
    have un : Un (frs X.stack) fp H2 H' s4.heap s2.heap := Un.trans I'.base (Un.kept hk)
    have J' : Inv X pins σ H' s2 := I4.call' (ch := fp) (ho.trans I'.os) un (I'.hok.kept hk) hbr fun b hb => ⟨(f4 b hb).1.2.2.2.1, (f4 b hb).1.2.1, (f4 b hb).1.2.2.2.2.1, (f4 b hb).1.2.2.2.2.2⟩
    exact ⟨.bl b, H', J', rfl, q'⟩
  · have nfp : ∀ b ∈ fp, H2 b = none := fun b hb => (f4 b hb).1.1
    refine gen_first (fun Q1 E1 q1 => T.self _ 0 s2 Q1 E1 (by rw [wk.hp]; exact st5) q1) ?_
    refine gen_loop (G := gcx X s4 H2 ge fp (X.A.in1.in1.over (.compLoop (.GeneratorExp elt [⟨tg, iter, [], 0⟩] scope gpos) 0 (.ref it) .none ge) [])) (tn := tn) (vs := own.map (·.2)) (W := W) rfl hc rfl rfl rfl ?_ T (fun b hb => ?_) ?_ ?_ ?_ turns m (m + 1) 0 s2 s2 (Nat.lt_succ_self m) ⟨H2, inv_woke I5 wk, by rw [wk.hp]; exact st5, nfp, w0⟩
    · show ge.scope.isCoroutine = false
      rw [← hge]
      exact hco
    · have hb4 : b < s4.heap.objs.size := (f4 b hb).2
      intro z
      have z2 : h5.objs.size = b := z
      rw [← z2, sz5] at hb4
      exact absurd hb4 (Nat.not_lt.mpr (Nat.le_succ _))
    · rw [← hge]
      exact hgt _ _ _ _ _ _ _
    · subst hge
      exact hel _ _ _ _ _ _ _ hRm
    · intro σ2 e2
      refine ⟨?_, fun i v e3 => ?_⟩
      · rw [← wipe_length σ2 (own.map (·.2)), e2]
      · rw [← e2] at e3
        exact (wipe_some e3).1

/-- all over zip of two tuples of one length -/
theorem gturns_zipT {K : PySem.W.Frag} {a b : Addr} {xs ys : List V} {g : TG} {te : TE} {σw : L2.St} {vs : List Nat} {Q : Bool → Hp → Prop} {H : Hp} (hl : xs.length = ys.length) (Pv : Nat → Hp → Prop) (h0 : Pv 0 H) (hq : ∀ i H, Pv i H → SqT K H a xs ∧ SqT K H b ys)
    (hs : ∀ (i : Nat) (x y : V) (T : Addr) (H : Hp) (N : Hp → Prop), xs[i]? = some x → ys[i]? = some y → Pv i H → H T = none → (∀ H3, Pv (i + 1) H3 → N H3) → g (.ref T) σw (upd H T (.tup [x, y])) fun σ2 H2 => wipe σ2 vs = σw ∧ te σ2 H2 fun v H3 => ∃ b, v = .bl b ∧ if b = true then N H3 else Q false H3)
    (hd : ∀ H, Pv xs.length H → Q true H) : ∃ W : Nat → Nat → Hp → Prop, (∃ m, W 0 m H) ∧ gTurns (RZ.ItzT K a b) g te σw vs W Q := by
  refine ⟨fun i m H => m = xs.length - i ∧ i ≤ xs.length ∧ Pv i H, ⟨xs.length, rfl, Nat.zero_le _, h0⟩, fun i m H st => ?_⟩
  obtain ⟨em, le, pv⟩ := st
  have two := hq i H pv
  rcases Nat.lt_or_eq_of_le le with lt | eq
  · refine .inr ⟨⟨xs, ys, xs[i], ys[i], two.1, two.2, List.getElem?_eq_getElem lt, List.getElem?_eq_getElem (hl ▸ lt)⟩, fun v H' y => ?_⟩
    obtain ⟨tp, a1, a2, rfl, free, rfl, w1, w2⟩ := y
    exact hs i a1 a2 tp H _ (w1 xs two.1) (w2 ys two.2) pv free fun H3 p' => ⟨xs.length - (i + 1), by omega, rfl, lt, p'⟩
  · subst eq
    exact .inl ⟨⟨xs, ys, two.1, two.2, Or.inl (Nat.le_refl _)⟩, hd H pv⟩

/-! ### zip of a text and a tuple -/
def ItzS (K : PySem.W.Frag) (x : Str) (b : Addr) : It :=
  ⟨fun i H => ∃ (ys : List V) (c : Nat) (y : V), SqT K H b ys ∧ x.cps[i]? = some c ∧ ys[i]? = some y,
    fun i H v H' => ∃ (T : Addr) (c : Nat) (y : V), v = .ref T ∧ H T = none ∧ H' = upd H T (.tup [.str ⟨#[c]⟩, y]) ∧ x.cps[i]? = some c ∧ ∀ ys, SqT K H b ys → ys[i]? = some y,
    fun i H => ∃ ys : List V, SqT K H b ys ∧ i ≤ x.cps.size ∧ i ≤ ys.length ∧ (i = x.cps.size ∨ i = ys.length)⟩
theorem zip_sep {z TI TO i1 i2 b : Addr} (D : ZipApart z TI TO i1 i2 b b) : ZipSep2 z TI TO i1 i2 [i1] [i2, b] where
  TIz := D.TIz
  TOz := D.TOz
  TITO := D.TITO
  TIi1 := D.TIi1
  mem1 := List.mem_singleton.mpr rfl
  zf1 := fun h => D.i1z (List.mem_singleton.mp h).symm
  Tf1 := fun h => D.TOi1 (List.mem_singleton.mp h)
  TIi2 := D.TIi2
  mem2 := List.mem_cons_self
  zf2 := fun h => by
    rcases List.mem_cons.mp h with e | e
    · exact D.i2z e.symm
    · exact D.l1z (List.mem_singleton.mp e).symm
  Tf2 := fun h => by
    rcases List.mem_cons.mp h with e | e
    · exact D.TOi2 e
    · exact D.l1TO (List.mem_singleton.mp e).symm
  sep1_2 := fun h => by
    rcases List.mem_cons.mp h with e | e
    · exact D.i12 e
    · exact D.l1i1 (List.mem_singleton.mp e).symm
  sep2_1 := fun h => D.i12 (List.mem_singleton.mp h).symm
/-- the five cells of a running zip of the text x and the tuple at b, i turns done -/
structure ZipGo (x : Str) (t : Tok) (z TI TO i1 i2 b : Addr) (i : Nat) (h : Heap) : Prop where
  zp : IsZip h z TI TO .none
  ins : IsPair h TI (.ref i1) (.ref i2)
  out : ∃ p : Value × Value, IsPair h TO p.1 p.2
  txt : h.IsStrIter i1 (strIterType x) x t i
  tup : h.IsTupleIter i2 b i
theorem five {z TI TO i1 i2 c : Addr} {Pr : Addr → Prop} (h : c ∈ [z, TI, TO, i1, i2]) (pz : Pr z) (pI : Pr TI) (pO : Pr TO) (p1 : Pr i1) (p2 : Pr i2) : Pr c := by
  simp only [List.mem_cons, List.not_mem_nil, or_false] at h
  rcases h with rfl | rfl | rfl | rfl | rfl
  all_goals assumption
theorem apart5 {z TI TO i1 i2 c : Addr} (h : c ∉ [z, TI, TO, i1, i2]) : c ≠ z ∧ c ≠ TO ∧ c ≠ i1 ∧ c ≠ i2 := by
  simp only [List.mem_cons, List.not_mem_nil, or_false, not_or] at h
  exact ⟨h.1, h.2.2.1, h.2.2.2.1, h.2.2.2.2⟩
section
variable {x : Str} {t : Tok} {z TI TO i1 i2 b : Addr} {i : Nat} {h h' : Heap}
theorem ZipGo.obj (g : ZipGo x t z TI TO i1 i2 b i h) {c : Addr} (hc : c ∈ [z, TI, TO, i1, i2]) : ∃ o, h.get? c = some o ∧ ∀ v, o.data ≠ .cell v := by
  obtain ⟨p, hp⟩ := g.out
  obtain ⟨oa, ea, _, da⟩ := g.txt
  obtain ⟨ob, eb, _, db⟩ := g.tup
  refine five (Pr := fun c => ∃ o, h.get? c = some o ∧ ∀ v, o.data ≠ .cell v) hc ⟨_, g.zp, ?_⟩ ⟨_, g.ins, ?_⟩ ⟨_, hp, ?_⟩ ⟨oa, ea, ?_⟩ ⟨ob, eb, ?_⟩
  · intro v e; cases e
  · intro v e; cases e
  · intro v e; cases e
  · intro v e; rw [da] at e; cases e
  · intro v e; rw [db] at e; cases e
theorem ZipGo.lt (g : ZipGo x t z TI TO i1 i2 b i h) {c : Addr} (hc : c ∈ [z, TI, TO, i1, i2]) : c < h.objs.size := by
  obtain ⟨o, e, _⟩ := g.obj hc
  exact Heap.lt_size e
theorem ZipGo.on (g : ZipGo x t z TI TO i1 i2 b i h) (k : ∀ c ∈ [z, TI, TO, i1, i2], ∀ o, h.get? c = some o → h'.get? c = some o) : ZipGo x t z TI TO i1 i2 b i h' := by
  obtain ⟨p, hp⟩ := g.out
  obtain ⟨oa, ea, ra⟩ := g.txt
  exact ⟨k z (by simp) _ g.zp, k TI (by simp) _ g.ins, ⟨p, k TO (by simp) _ hp⟩, ⟨oa, k i1 (by simp) _ ea, ra⟩, g.tup.at (k i2 (by simp))⟩
end
theorem turn_zipS {P : Program} {w : World} {K : PySem.W.Frag} {elts : List Expr} {kk : Nat} {tpos : Pos} {x : Str} {t : Tok} {b z TI TO i1 i2 : Addr} (D : ZipApart z TI TO i1 i2 b b) :
    Turn P w K (.Tuple elts kk tpos) (ItzS K x b) [z, TI, TO, i1, i2] z (ZipGo x t z TI TO i1 i2 b) where
  mem := List.mem_cons_self
  obj := fun _ _ g _ hc => g.obj hc
  keep := fun _ _ _ g k => g.on k
  item := by
    intro X eP ew eK calm n pins s σ H E I fps g go
    subst eP ew eK
    obtain ⟨ys, c, y, tys, ec, ey⟩ := go
    obtain ⟨vs, rel, tupAt, _⟩ := I.tuple tys
    obtain ⟨u, eu, ru⟩ := rel.get ey
    obtain ⟨p, hp⟩ := g.out
    have zlt := g.lt (c := z) (by simp)
    have n1 : n < x.cps.size := Nat.lt_of_not_le fun le => by
      rw [Array.getElem?_eq_none le] at ec
      cases ec
    have n2 : n < vs.toArray.size := by simpa using (List.getElem?_eq_some_iff.mp eu).1
    have calmA : X.A.in1.handled = none := I.ok.hd calm
    refine wpAny_pyNext_zipD2_item (zip_sep D) (Draws.text calmA i1 x t) (Draws.tuple calmA i2 b D.l1i2 vs.toArray) g.zp g.ins hp g.txt ⟨g.tup, tupAt⟩ n1 n2 fun v1 v2 h1 tk P1 P2 zp1 out1 txt1 tup1 new1 _ kept1 => ?_
    obtain ⟨c', k, ec', rfl⟩ := P1
    obtain rfl : c = c' := Option.some.inj (ec.symm.trans ec')
    obtain rfl : u = v2 := Option.some.inj (eu.symm.trans (by simpa using P2))
    refine ⟨_, rfl, wpAny_letOwnedTupleGo_zip (s := { s with heap := h1, toks := tk }) zp1 fun h2 zp2 sb => ?_⟩
    have up : ∀ d, d ≠ z → h2.get? d = h1.get? d := fun d nd => sb.2 d nd
    have kept2 : ∀ d o, d ∉ [z, TI, TO, i1, i2] → s.heap.get? d = some o → h2.get? d = some o := fun d o nd e => by
      obtain ⟨a1, a2, a3, a4⟩ := apart5 nd
      rw [up d a1]
      exact kept1 d o a1 a2 a3 a4 e
    have new2 : h2.get? s.heap.objs.size = some { cls := .type "tuple", data := .seq #[.str ⟨#[c]⟩ k, u] } := (up _ (Nat.ne_of_gt zlt)).trans new1
    have I2 := I.turnedNew (t' := tk) (ch := [z, TI, TO, i1, i2]) (ob := .tup [.str ⟨#[c]⟩, y]) kept2 fps (Nat.le_refl _) ⟨show 2 ≤ sizeLine by decide, [.str ⟨#[c]⟩ k, u], .cons ⟨k, rfl⟩ (.cons ru .nil), ⟨_, new2, rfl, _, rfl⟩⟩
    refine ⟨.ref s.heap.objs.size, _, I2, rfl, ⟨_, c, y, rfl, I.hok.fresh (Nat.le_refl _), rfl, ec, fun l tl => (I.tuple_inj tl tys) ▸ ey⟩, ⟨zp2, ?_, ⟨(_, _), (up _ D.TOz).trans out1⟩, ?_, tup1.1.at fun o e => (up _ D.i2z).trans e⟩, fun d hd => ?_⟩
    · exact (up _ D.TIz).trans (kept1 TI _ D.TIz D.TITO D.TIi1 D.TIi2 g.ins)
    · obtain ⟨o, e, r⟩ := txt1
      exact ⟨o, (up _ D.i1z).trans e, r⟩
    · rw [upd_ne (Nat.ne_of_lt (g.lt hd))]
      exact (fps d hd).1
  done := by
    intro X eP ew eK calm n pins s σ H E I fps g stop
    subst eP ew eK
    obtain ⟨ys, tys, le1, le2, last⟩ := stop
    obtain ⟨vs, rel, tupAt, _⟩ := I.tuple tys
    obtain ⟨p, hp⟩ := g.out
    have lv : vs.toArray.size = ys.length := by simpa using rel.length.symm
    have calmA : X.A.in1.handled = none := I.ok.hd calm
    refine wpAny_pyNext_zipD2_end (zip_sep D) (Draws.text calmA i1 x t) (Draws.tuple calmA i2 b D.l1i2 vs.toArray) g.zp g.ins hp g.txt ⟨g.tup, tupAt⟩ le1 (by omega) (by omega) fun h1 tk kept1 => ⟨rfl, ?_⟩
    refine I.turnedL (t' := tk) (ch := [z, TI, TO, i1, i2]) (fun d o nd e => ?_) fps
    obtain ⟨a1, a2, a3, a4⟩ := apart5 nd
    exact kept1 d o a1 a2 a3 a4 e
  self := fun _ _ _ _ _ g q => wpAny_pyIter_zip g.zp q
def iZipS (K : PySem.W.Frag) (ta : TA) : TI := fun σ H R => ta σ H fun vs H1 => ∃ x b ys, vs = [.str x, .ref b] ∧ SqT K H1 b ys ∧ R (ItzS K x b) H1
theorem pi_zipS {X : Cx} {ea eb : Expr} {ta : TA} {p pos tpos : Pos} {elts : List Expr} {kk : Nat} (gl : Gl X "zip") (own : X.mg "zip" = none) (args : PA X [ea, eb] ta)
    (star : starEach [ea, eb] X.env = (false, eval ea X.env) :: starEach [eb] X.env := by rfl) (plain : (backTo pos (starEach [eb] X.env)).any (·.1) = false := by rfl) :
    PI X (.Tuple elts kk tpos) (.Call (.Name "zip" p) [ea, eb] [] pos) (iZipS X.K ta) := by
  constructor
  intro pins s σ H R I q
  refine Call_ (ld_blt I gl own PyProof.Rows.boot_zip (PyProof.Rows.callWith_type1 ?_ star plain))
  refine thn (args.run pos pins s σ H _ I q) fun us s1 ans => ?_
  obtain ⟨vs, H1, J, rel, x, b, ys, rfl, tys, go⟩ := ans
  obtain ⟨u1, u2, rfl, r1, r2⟩ := vals2 rel
  obtain ⟨t, rfl⟩ := r1
  obtain rfl : u2 = Value.ref b := r2
  obtain ⟨its, _, tupAt, _⟩ := J.tuple tys
  have blt : b < s1.heap.objs.size := by
    obtain ⟨_, e, _⟩ := id tupAt
    exact Heap.lt_size e
  have fresh : ∀ c, s1.heap.objs.size ≤ c → FpOk X pins H1 c := fun c le => J.fpOk le (J.hok.fresh le)
  refine zip_begins2 (begins_text x t) (begins_tuple b its.toArray) trivial tupAt fun h2 zp ins out o1 o2 _ kept => wpAny_pyIter_zip zp ?_
  refine ⟨_, [s1.heap.objs.size + 4, s1.heap.objs.size + 2, s1.heap.objs.size + 3, s1.heap.objs.size, s1.heap.objs.size + 1], _, _, H1, rfl, J.kept (t' := s1.toks) kept, turn_zipS (t := t) (PySem.W.ktu_apart s1.heap.objs.size b b blt blt), ?_, fun c hc => ?_, go⟩
  · exact ⟨zp, ins, ⟨(_, _), out⟩, ⟨_, o1, rfl, rfl⟩, ⟨_, o2, rfl, rfl⟩⟩
  · exact five (Pr := FpOk X pins H1) hc (fresh _ (by omega)) (fresh _ (by omega)) (fresh _ (by omega)) (fresh _ (by omega)) (fresh _ (by omega))
/-- a loop over zip of a text and a tuple of one length -/
theorem for_zipS {K : PySem.W.Frag} {x : Str} {b : Addr} {ys : List V} {g : TG} {tb : TS} {D : Ends} {σ : L2.St} {H : Hp} (hl : x.cps.size = ys.length) (Pv : Nat → L2.St → Hp → Prop) (h0 : Pv 0 σ H) (hq : ∀ i σ H, Pv i σ H → SqT K H b ys)
    (hs : ∀ (i c : Nat) (y : V) (T : Addr) (σ : L2.St) (H : Hp), x.cps[i]? = some c → ys[i]? = some y → Pv i σ H → H T = none → g (.ref T) σ (upd H T (.tup [.str ⟨#[c]⟩, y])) fun σ2 H2 => tb { D with nx := Pv (i + 1), ct := Pv (i + 1), bk := D.nx } σ2 H2) (hd : ∀ σ H, Pv ys.length σ H → D.nx σ H) :
    ∃ W : Nat → Nat → L2.St → Hp → Prop, (∃ m, W 0 m σ H) ∧ ∀ i m σ H, W i m σ H →
      ((ItzS K x b).stop i H ∧ D.nx σ H) ∨ ((ItzS K x b).go i H ∧ ∃ N : L2.St → Hp → Prop, (∀ σ' H', N σ' H' → ∃ m', m' < m ∧ W (i + 1) m' σ' H') ∧ ∀ v H', (ItzS K x b).yld i H v H' → g v σ H' fun σ2 H2 => tb { D with nx := N, ct := N, bk := D.nx } σ2 H2) := by
  refine ⟨fun i m σ H => m = ys.length - i ∧ i ≤ ys.length ∧ Pv i σ H, ⟨ys.length, rfl, Nat.zero_le _, h0⟩, fun i m σ H st => ?_⟩
  obtain ⟨em, le, pv⟩ := st
  have tys := hq i σ H pv
  rcases Nat.lt_or_eq_of_le le with lt | eq
  · refine .inr ⟨⟨ys, x.cps[i], ys[i], tys, Array.getElem?_eq_getElem (hl.symm ▸ lt), List.getElem?_eq_getElem lt⟩, Pv (i + 1), fun σ' H' p' => ⟨ys.length - (i + 1), by omega, rfl, lt, p'⟩, fun v H' y => ?_⟩
    obtain ⟨tp, c, a2, rfl, free, rfl, w1, w2⟩ := y
    exact hs i c a2 tp σ H w1 (w2 ys tys) pv free
  · subst eq
    exact .inl ⟨⟨ys, tys, Nat.le_of_eq hl.symm, Nat.le_refl _, .inr rfl⟩, hd σ H pv⟩
/-! ### d.update(e) -/
def tDUpd (td ty : TE) : TE := fun σ H Q => td σ H fun x H1 => ∃ a, x = .ref a ∧ IsD H1 a ∧ ty σ H1 fun y H2 => ∃ b kvs more, y = .ref b ∧ H2 a = some (.dK kvs) ∧ H2 b = some (.dK more) ∧ a ≠ b ∧ kvs.length + more.length ≤ sizeLine ∧ Q .non (upd H2 a (.dK (mergeK kvs more)))
theorem pe_dupd {X : Cx} {o e : Expr} {apos cpos : Pos} {td ty : TE} (ho : PE X o td) (he : PE X e ty) (m : M1 X o "update" apos e cpos) : PE X (.Call (.Attribute o "update" apos) [e] [] cpos) (tDUpd td ty) := by
  refine ⟨fun pins s σ H Q I h => ?_⟩
  refine wpAny_Call_method m.base m.few m.line PySem.F.plainAttrs_dict PySem.F.slot_dict_update PySem.F.type_dict_update (thn (ho.run pins s σ H _ I h) fun u s1 ⟨x, H1, I1, rx, a, ex, d, q1⟩ => ?_)
  subst ex
  obtain rfl : u = Value.ref a := rx
  obtain ⟨t1, t2, _⟩ := isD_at I1 d
  refine ⟨t1, t2, ?_⟩
  rw [m.trees]
  refine Calls.callWith_builtin rfl (Calls.evalArgs_plain (Calls.spliced_cons (thn (he.run pins s1 σ H1 _ I1 q1) fun iv s2 ⟨y, H2, I2, ry, b, kvs, more, ey, ea, eb, ne, hz, q2⟩ => Calls.spliced_nil ?_)))
  subst ey
  obtain rfl : iv = Value.ref b := ry
  obtain ⟨za, hda, vs, ra, dda⟩ := dk_of I2.hok ea
  obtain ⟨zb, hdb, ws, rb, ddb⟩ := dk_of I2.hok eb
  refine call_meetsIn PySem.F.slot_dict_update dda.typeIs PySem.F.entry_dict_update (PySem.F.args_dict_update_2 _ _) (meets_dict_update (mixKind X.prog X.w) a b ne hdb) ⟨vs, ws, dda, ddb, (by rw [← ra.length, ← rb.length]; exact hz), fun h' hmm _ hs => ?_⟩
  have he' : ∃ q, h'.get? a = some q := let ⟨q, _, _, hq, _⟩ := hmm; ⟨q, hq⟩
  exact ⟨.non, _, d_write I2 (by rw [ea]; exact True.intro) hs he' (dk_new (Nat.le_trans (length_mergeK more kvs) hz) hda (rb.merge ra) hmm), rfl, q2⟩
/-! ### list(text), tuple == () -/
def sgs (x : Str) : List V := x.cps.toList.map fun c => V.str ⟨#[c]⟩
theorem vals_at : ∀ {xs : List V} {us : List Value}, xs.length = us.length → (∀ (j : Nat) (v : V) (u : Value), xs[j]? = some v → us[j]? = some u → RelV v u) → Vals xs us
  | [], [], _, _ => .nil
  | [], _ :: _, h, _ => nomatch h
  | _ :: _, [], h, _ => nomatch h
  | v :: xs, u :: us, h, k => .cons (k 0 v u rfl rfl) (vals_at (Nat.succ.inj h) fun j a b ha hb => k (j + 1) a b ha hb)
theorem call_list_txt {X : Cx} (hc : X.calm = true) : CallR X (.type "list") (fun xs H Q => ∃ x : Str, xs = [.str x] ∧ x.cps.size ≤ sizeLine ∧ ∀ l, H l = none → Q (.ref l) (upd H l (.lst (sgs x)))) := by
  intro pins s σ H xs us Q I r h
  obtain ⟨x, rfl, hz, q⟩ := h
  obtain ⟨u, rfl, rx⟩ := vals1 r
  obtain ⟨t, rfl⟩ := rx
  refine call_list_str (I.ok.hd hc) x t (hn := hz) fun h' tk acc' c' hk hS' hacc => ?_
  have hl : (sgs x).length = acc'.toList.length := by
    unfold sgs
    rw [List.length_map, Array.length_toList, Array.length_toList]
    exact hacc.1.symm
  have rv : Vals (sgs x) acc'.toList := vals_at hl fun j v u hv hu => by
    obtain ⟨c, k, hc', rfl⟩ := hacc.2 j u (by simpa using hu)
    unfold sgs at hv
    rw [List.getElem?_map] at hv
    obtain ⟨c2, h2, rfl⟩ := Option.map_eq_some_iff.mp hv
    have z : x.cps.toList[j]? = some c := by simpa using hc'
    rw [z] at h2
    cases h2
    exact ⟨k, rfl⟩
  have hz2 : (sgs x).length ≤ sizeLine := by
    unfold sgs
    rw [List.length_map, Array.length_toList]
    exact hz
  exact ⟨.ref s.heap.objs.size, _, I.laid (t' := tk) hk (Nat.le_refl _) (show ObjOk X.prog X.w _ h' _ (.lst (sgs x)) from ⟨hz2, acc'.toList, c', rv, by simpa using hS'⟩), rfl, q _ (I.hok.fresh (Nat.le_refl _))⟩
def rEq0 (K : PySem.W.Frag) : R2 := fun x y H Q => ∃ a b xs, x = .ref a ∧ y = .ref b ∧ SqT K H a xs ∧ SqT K H b [] ∧ Q (.bl xs.isEmpty) H
theorem op_eq0 {X : Cx} (hu : X.A.units < cLine) : OpR X (compareOp .Eq) (rEq0 X.K) := by
  intro pins s σ H x y v u Q I rx ry h
  obtain ⟨a, b, xs, rfl, rfl, ha, hb, q⟩ := h
  cases rx
  cases ry
  obtain ⟨its, r1, p1, _⟩ := I.tuple ha
  obtain ⟨its2, r2, p2, _⟩ := I.tuple hb
  cases r2
  refine SeqAt.eq_tupleAt (e := fun _ => true) p1 p2 hu (fun j h1 h2 => by simp at h2) ?_
  have e : ((List.range (min its.toArray.size ([] : List Value).toArray.size)).all (fun _ => true) && its.toArray.size == ([] : List Value).toArray.size) = xs.isEmpty := by
    cases r1 with
    | nil => rfl
    | cons _ _ => simp
  rw [e]
  exact ⟨.bl _, H, I, rfl, q⟩

/-! ### the end of a law whose defs make generator expressions -/
/-- the def nm of the top, its code object's table empty -/
def TabAt (mg : Str → Option Value) (h : Heap) (nm : Str) : Prop := ∃ (f : Addr) (o : Obj) (fd : FuncData) (c P : Addr), mg nm = some (.ref f) ∧ h.get? f = some o ∧ o.data = .func fd ∧ fd.code = .ref c ∧ h.TableAt c P #[]
theorem tab_empty {K : PySem.W.Frag} {mg : Str → Option Value} {h : Heap} {nm : Str} {f c P : Addr} {o : Obj} {fd : FuncData} {e : Value} {dd : Option Addr} {vs : Array Value} {sl : Array (Option Value)} (t : TabAt mg h nm) (X : K.In h) (g : mg nm = some (.ref f))
    (lf : K.lookup f = some o) (df : o.data = .func fd) (cf : fd.code = .ref c) (lc : K.lookup c = some ⟨e, dd, .fields vs, sl⟩) (at11 : vs[11]? = some (.ref P)) : h.get? P = some { cls := .none, data := .fields #[] } := by
  obtain ⟨f', o', fd', c', P', m1, m2, m3, m4, ⟨oc, vc, w1, _, w3, w4⟩, tp⟩ := t
  have ef : f = f' := Value.ref.inj (Option.some.inj (g.symm.trans m1))
  subst ef
  have eo : o = o' := Option.some.inj ((X f o lf).symm.trans m2)
  subst eo
  have ed : fd = fd' := Data.func.inj (df.symm.trans m3)
  subst ed
  have ec : c = c' := Value.ref.inj (cf.symm.trans m4)
  subst ec
  have eq : (⟨e, dd, .fields vs, sl⟩ : Obj) = oc := Option.some.inj ((X c _ lc).symm.trans w1)
  subst eq
  have ev : vs = vc := Data.fields.inj w3
  subst ev
  have eP : P = P' := Value.ref.inj (Option.some.inj (at11.symm.trans w4))
  subst eP
  exact tp
theorem walk_tabs {l : PySem.W.OpenLaw} {most lv : Nat} {prog : Program} {lo : List Str} {XP : (Str → Option Value) → Heap → Prop} {YP : World → Heap → Prop} {df : DefRec} {K : Params → PySem.W.Frag} {par : Str} (names : List Str)
    (h1 : l.most = some most) (h2 : most ≤ sizeLine) (h3 : df.params.defaults = []) (room : Room lv callerA) (recs : (names.all fun nm => (recsOf prog).any fun r => r.name == nm) = true) (kin : ∀ (w : World) (h : Heap), YP w h → (K w.params).In h)
    (at_ : ∀ (w : World) (mg : Str → Option Value) (fa : Addr) (h : Heap), (K w.params).In h → h.Ns mainGlobals mg → mg df.name = some (.ref fa) → (∀ nm ∈ names, TabAt mg h nm) → LamX.LawAtS l w (K w.params) CX0 lv most par mg fa h) :
    PySem.W.WalkO prog lo XP YP l.row.toRowW df [] (fun f vs => PySem.call f vs) := by
  refine Att.attach_callB h1 h3 fun w s0 s mg mb fa o pm cd doc a vs ns Gr Y _ _ _ name ob iar len bits gens => ?_
  have tabs : ∀ nm ∈ names, TabAt mg s.heap nm := fun nm hm => by
    obtain ⟨r, hr, er⟩ := List.any_eq_true.mp (List.all_eq_true.mp recs nm hm)
    obtain ⟨x1, x2, x3, x4, x5, y1, y2, y3, y4, _, y6⟩ := Gr.T.tab r hr
    rw [beq_iff_eq.mp er] at y1
    exact ⟨x1, x2, x3, x4, x5, y1, y2, y3, y4, y6⟩
  obtain ⟨fd, cs, sp, t1, t2, t3, bind, asked, ok⟩ := at_ w mg fa _ (kin w _ Y) Gr.T.g name tabs
  exact LamX.law_callTs (kin w _ Y) Gr.T.g Gr.T.b Gr.T.builtins Gr.T.nolimit gens t1 t2 t3 Gr.T.bmain ob iar (Nat.le_trans len h2) room ok bind (fun H hH hS => asked H a ns len bits hH hS) fun _ _ _ z => z

end My
namespace My
open PySem L2
/-! ### a mid-condition behind a statement, an expression, a test -/
def sMid (t : TS) : TS := fun D σ H => ∃ M : L2.St → Hp → Prop, t { D with nx := M } σ H ∧ ∀ σ' H', M σ' H' → D.nx σ' H'
theorem ps_mid {X : Cx} {st : Stmt} {t : TS} (h : PS X st t) : PS X st (sMid t) := by
  refine ⟨fun pins s σ H D I z => ?_⟩
  obtain ⟨M, q, k⟩ := z
  refine thn (h.run pins s σ H { D with nx := M } I q) fun f s1 y => ?_
  cases f with
  | next =>
    obtain ⟨σ', H', I', y⟩ := y
    exact ⟨σ', H', I', k _ _ y⟩
  | ret v => exact y
  | brk => exact y
  | cont => exact y
def tMid (t : TT) : TT := fun σ H Q => ∃ M : Bool → Hp → Prop, t σ H M ∧ ∀ b H', M b H' → Q b H'
theorem pt_mid {X : Cx} {e : Expr} {t : TT} (h : PT X e t) : PT X e (tMid t) := by
  refine ⟨fun pins s σ H Q I z => ?_⟩
  obtain ⟨M, q, k⟩ := z
  exact thn (h.run pins s σ H M I q) fun b s1 ⟨H', I', y⟩ => ⟨H', I', k _ _ y⟩
def eMid (t : TE) : TE := fun σ H Q => ∃ M : V → Hp → Prop, t σ H M ∧ ∀ v H', M v H' → Q v H'
theorem pe_mid {X : Cx} {e : Expr} {t : TE} (h : PE X e t) : PE X e (eMid t) := by
  refine ⟨fun pins s σ H Q I z => ?_⟩
  obtain ⟨M, q, k⟩ := z
  exact thn (h.run pins s σ H M I q) fun u s1 ⟨v, H', I', r, y⟩ => ⟨v, H', I', r, k _ _ y⟩
theorem yes_ite {σ : L2.St} {H : Hp} {A B : Hp → Prop} (h : A H) : tYes σ H (fun b H3 => if b = true then A H3 else B H3) := by
  unfold tYes
  exact (show (if true = true then A H else B H) from iteT h)
/-- xs[i] op= e, the read -/
theorem get_list {X : Cx} : PGet X (rIxL X.K) := by
  intro pins s σ H x y v u Q I rx ry h
  obtain ⟨p, xs, i, z, rfl, rfl, hq, he, q⟩ := h
  cases rx
  obtain ⟨t, rfl⟩ := ry
  obtain ⟨its, r, pl, hz⟩ := I.list hq
  obtain ⟨j, h1, h2, h3, h4, h5⟩ := atI_get he
  obtain ⟨w, ew, rw'⟩ := r.get h2
  have hl := r.length
  have hn := line63
  have fin : EP X pins σ Q w s := ⟨z, H, I, rw', q⟩
  by_cases h0 : 0 ≤ i
  · have hj : i.toNat = j := by
      rw [PySem.seqIndex_of h0 h5] at h1
      exact Option.some.inj h1
    exact PySem.wpAny_getItem_list pl.isList h0 (by omega) (by rw [hj]; simpa using ew) fin
  · have hj : (i + (its.toArray.size : Int)).toNat = j := by
      rw [PySem.seqIndex_neg (by omega) h4] at h1
      rw [List.size_toArray, ← hl]
      exact Option.some.inj h1
    exact PySem.wpAny_getItem_list_neg pl.isList (by omega) (by rw [List.size_toArray] <;> omega) (by omega) (by rw [hj]; simpa using ew) fin
theorem same_new {H : Hp} {p : Addr} {o : HO} (h : H p = none) : Same H (upd H p o) := fun b u q => by rw [upd_ne (ne_of_none q h)]; exact q
/-- all but d as it was -/
def But (d : Addr) (H H' : Hp) : Prop := ∀ b o, H b = some o → b ≠ d → H' b = some o
theorem But.refl {d : Addr} {H : Hp} : But d H H := fun _ _ e _ => e
theorem But.trans {d : Addr} {H H1 H2 : Hp} (x : But d H H1) (y : But d H1 H2) : But d H H2 := fun b o e n => y b o (x b o e n) n
theorem But.put {d : Addr} {H H1 : Hp} {o : HO} (x : But d H H1) : But d H (upd H1 d o) := fun b u e n => by
  rw [upd_ne n]
  exact x b u e n
theorem But.new {d p : Addr} {H H1 : Hp} {o : HO} (x : But d H H1) (n : H1 p = none) : But d H (upd H1 p o) := fun b u e nb => by
  have q := x b u e nb
  rw [upd_ne (ne_of_none q n)]
  exact q
theorem But.same {d : Addr} {H H1 H2 : Hp} (x : But d H H1) (s : Same H1 H2) : But d H H2 := fun b u e nb => s _ _ (x b u e nb)
theorem at_map {ns : List Int} {k : Int} (h0 : 0 ≤ k) (h : k < (ns.length : Int)) : ∃ v : Int, atI (ns.map V.int) k = some (.int v) ∧ v ∈ ns := by
  have hk : k.toNat < ns.length := by omega
  have ek : k = ((k.toNat : Nat) : Int) := by omega
  have q : atI (ns.map V.int) ((k.toNat : Nat) : Int) = some (.int ns[k.toNat]) := atI_nat (by rw [List.getElem?_map, List.getElem?_eq_getElem hk] <;> rfl)
  rw [← ek] at q
  exact ⟨_, q, List.getElem_mem _⟩
theorem at_any {α : Type} {xs : List α} {k : Int} (h0 : 0 ≤ k) (h : k < (xs.length : Int)) : ∃ v : α, atI xs k = some v ∧ v ∈ xs := by
  have hk : k.toNat < xs.length := by omega
  have ek : k = ((k.toNat : Nat) : Int) := by omega
  have q : atI xs ((k.toNat : Nat) : Int) = some xs[k.toNat] := atI_nat (List.getElem?_eq_getElem hk)
  rw [← ek] at q
  exact ⟨_, q, List.getElem_mem _⟩
theorem wide_ok {i j : Int} (h : 0 < j) (h2 : j < 2 ^ 100) : CDivW i j := wide_div (b := 100) h (by
  have e : ((j.natAbs : Nat) : Int) < ((2 ^ 100 : Nat) : Int) := by
    rw [Int.natCast_pow]
    show (j.natAbs : Int) < 2 ^ 100
    omega
  exact_mod_cast e) (by decide) (by decide)
theorem cut_map (ns : List Int) (hi : Option Int) : ∃ k : Nat, cutV (ns.map V.int) none hi = (ns.take k).map V.int := by
  refine ⟨HT.sIx ns.length ns.length hi, ?_⟩
  unfold cutV
  rw [HT.sIx_none, List.drop_zero, Nat.sub_zero, List.length_map, List.map_take]
theorem cut_nat {α : Type} (xs : List V) (k : Nat) : cutV xs none (some (k : Int)) = xs.take k := by
  unfold cutV
  rw [HT.sIx_none, List.drop_zero, Nat.sub_zero, HT.sIx_nat]
  by_cases h : k ≤ xs.length
  · rw [Nat.min_eq_left h]
  · rw [Nat.min_eq_right (by omega), List.take_of_length_le (Nat.le_refl _), List.take_of_length_le (by omega)]
theorem sz {n : Nat} (h : n ≤ 100000) : n ≤ sizeLine := Nat.le_trans h (by decide)
theorem szl {n : Nat} (h : n < 100000) : n < sizeLine := Nat.lt_of_lt_of_le h (by decide)
def spLaw (K : PySem.W.Frag) : Sp := fun vs H Q _ => ∃ (a : Addr) (ns : List Int), vs = [.ref a] ∧ SqL K H a (ns.map V.int) ∧ ns.length ≤ 63 ∧ (∀ z ∈ ns, Builtin.Int.intBits z ≤ 1048576) ∧ ∀ H', Q (.bl true) H'
/-! ### data of tuples -/
mutual
inductive Td (K : PySem.W.Frag) (H : Hp) : V → PyData → Prop
  | non : Td K H .non .none
  | bl (b : Bool) : Td K H (.bl b) (.bool b)
  | int (i : Int) : Td K H (.int i) (.int i)
  | str (x : Str) : Td K H (.str x) (.str x)
  | tup {a : Addr} {xs : List V} {ds : List PyData} : SqT K H a xs → TdAll K H xs ds → Td K H (.ref a) (.tuple ds)
inductive TdAll (K : PySem.W.Frag) (H : Hp) : List V → List PyData → Prop
  | nil : TdAll K H [] []
  | cons {v : V} {vs : List V} {d : PyData} {ds : List PyData} : Td K H v d → TdAll K H vs ds → TdAll K H (v :: vs) (d :: ds)
end
/-- tuples stay -/
def Tups (K : PySem.W.Frag) (H H' : Hp) : Prop := ∀ a xs, SqT K H a xs → SqT K H' a xs
theorem Tups.of_same {K : PySem.W.Frag} {H H' : Hp} (s : Same H H') : Tups K H H' := fun a xs h => by
  rcases h with h | h
  · rcases h with h | ⟨o, h⟩
    · exact .inl (.inl (s _ _ h))
    · exact .inl (.inr ⟨o, s _ _ h⟩)
  · exact .inr h
theorem Tups.of_but {K : PySem.W.Frag} {H H' : Hp} {d : Addr} {l : List V} (s : But d H H') (e : H d = some (.lst l)) : Tups K H H' := fun a xs h => by
  rcases h with h | h
  · rcases h with h | ⟨o, h⟩
    · exact .inl (.inl (s _ _ h (ne_of h e (by intro z; cases z))))
    · exact .inl (.inr ⟨o, s _ _ h (ne_of h e (by intro z; cases z))⟩)
  · exact .inr h
theorem Tups.trans {K : PySem.W.Frag} {H H1 H2 : Hp} (a : Tups K H H1) (b : Tups K H1 H2) : Tups K H H2 := fun p xs h => b _ _ (a _ _ h)
mutual
theorem Td.mono {K : PySem.W.Frag} {H H' : Hp} (t : Tups K H H') : ∀ {v : V} {d : PyData}, Td K H v d → Td K H' v d
  | _, _, .non => .non
  | _, _, .bl b => .bl b
  | _, _, .int i => .int i
  | _, _, .str x => .str x
  | _, _, .tup h k => .tup (t _ _ h) (TdAll.mono t k)
theorem TdAll.mono {K : PySem.W.Frag} {H H' : Hp} (t : Tups K H H') : ∀ {vs : List V} {ds : List PyData}, TdAll K H vs ds → TdAll K H' vs ds
  | _, _, .nil => .nil
  | _, _, .cons h k => .cons (Td.mono t h) (TdAll.mono t k)
end
mutual
theorem Td.dp {K : PySem.W.Frag} {H : Hp} : ∀ {v : V} {d : PyData}, Td K H v d → Dp K H v d
  | _, _, .non => .non
  | _, _, .bl b => .bl b
  | _, _, .int i => .int i
  | _, _, .str x => .str x
  | _, _, .tup h k => .tup h (TdAll.dp k)
theorem TdAll.dp {K : PySem.W.Frag} {H : Hp} : ∀ {vs : List V} {ds : List PyData}, TdAll K H vs ds → DpAll K H vs ds
  | _, _, .nil => .nil
  | _, _, .cons h k => .cons (Td.dp h) (TdAll.dp k)
end
theorem TdAll.length {K : PySem.W.Frag} {H : Hp} : ∀ {vs : List V} {ds : List PyData}, TdAll K H vs ds → vs.length = ds.length
  | _, _, .nil => rfl
  | _, _, .cons _ k => congrArg (· + 1) (TdAll.length k)
theorem TdAll.append {K : PySem.W.Frag} {H : Hp} : ∀ {vs ws : List V} {ds es : List PyData}, TdAll K H vs ds → TdAll K H ws es → TdAll K H (vs ++ ws) (ds ++ es)
  | _, _, _, _, .nil, k => k
  | _, _, _, _, .cons h k, z => .cons h (TdAll.append k z)
theorem TdAll.get {K : PySem.W.Frag} {H : Hp} : ∀ {vs : List V} {ds : List PyData}, TdAll K H vs ds → ∀ {v : V}, v ∈ vs → ∃ d, d ∈ ds ∧ Td K H v d
  | _, _, .nil, _, h => nomatch h
  | _, _, .cons (d := d) h k, v, m => by
    rcases List.mem_cons.mp m with e | m
    · subst e
      exact ⟨d, List.mem_cons_self, h⟩
    · obtain ⟨d', hd, t⟩ := TdAll.get k m
      exact ⟨d', List.mem_cons_of_mem _ hd, t⟩
theorem inV_str (w : Str) : ∀ ws : List Str, inV (.str w) (ws.map V.str) = decide (w ∈ ws)
  | [] => rfl
  | x :: r => by
    have ih := inV_str w r
    unfold inV at ih ⊢
    rw [List.map_cons, List.any_cons, ih]
    by_cases e : x = w
    · subst e
      simp [eqV]
    · have e2 : ¬ w = x := fun z => e z.symm
      simp [eqV, e, e2]
theorem flat_strs : ∀ ws : List Str, (ws.map V.str).all flatV = true
  | [] => rfl
  | _ :: r => by
    rw [List.map_cons, List.all_cons, flat_strs r]
    rfl
/-- the kinds -/
def kinds : List Str := ["a", "b", "c", "d", "e", "f", "g", "h"]
/-- a tuple as a target, the table and the number as they are written -/
theorem pg_tupK {X : Cx} {K : PySem.W.Frag} {pos : Pos} {es : List Expr} {k : Nat} {t : TGs} {n : Nat} (hK : X.K = K) (hc : X.calm = true) (h : PGs X es t)
    (hn : (assignEach es X.env).length = n) (hst : (assignEach es X.env).findIdx? (·.1) = none := by rfl) : PG X (.Tuple es k pos) (gTup K n t) := by
  subst hK
  exact pg_tup hc h hn hst
theorem cut_tail (x : V) (ps : List V) : cutV (x :: ps) (some 1) none = ps := by
  unfold cutV
  rw [show (1 : Int) = ((1 : Nat) : Int) from rfl, HT.sIx_nat, HT.sIx_none, List.length_cons]
  have e : min 1 (ps.length + 1) = 1 := by omega
  rw [e, List.drop_succ_cons, List.drop_zero, Nat.add_sub_cancel, List.take_of_length_le (Nat.le_refl _)]
theorem u1 {k : Nat} {A : Around} (h : Room k A) : A.units + 1 < cLine := by
  have := h.units
  omega
theorem u0 {k : Nat} {A : Around} (h : Room k A) : A.units < cLine := by
  have := h.units
  omega
theorem u65 {k : Nat} {A : Around} (h : Room k A) : A.units + 65 < cLine := by
  have := h.un
  omega
theorem op_in_seqK {X : Cx} {K : PySem.W.Frag} (hK : X.K = K) : OpR X (compareOp .In) (rIn K false) := by
  subst hK
  exact op_in_seq
theorem op_notIn_seqK {X : Cx} {K : PySem.W.Frag} (hK : X.K = K) : OpR X (compareOp .NotIn) (rIn K true) := by
  subst hK
  exact op_notIn_seq

/-! ### own exceptions as values -/
def veB : List Value := [.type "ValueError", .type "Exception", .type "BaseException", .type "object"]
/-- an exception object of the class C, not raised, with or without fields -/
def ExAt (H : Hp) (a C : Addr) : Prop := H a = some (ExO (.ref C) a) ∨ ∃ (d : Addr) (fs : List (Str × V)), H a = some (exo a C (some d)) ∧ H d = some (exd d fs)
theorem ExAt.same {H H' : Hp} {a C : Addr} (s : Same H H') (h : ExAt H a C) : ExAt H' a C := by
  rcases h with h | ⟨d, fs, h, g⟩
  · exact .inl (s _ _ h)
  · exact .inr ⟨d, fs, s _ _ h, s _ _ g⟩
section
variable {X : Cx}
theorem ExAt.inst {pins : List (Addr × Obj)} {σ : L2.St} {H : Hp} {s : Shared} {a C : Addr} (I : Inv X pins σ H s) (h : ExAt H a C) : ∃ (oe : Obj) (od : Option Obj), PySem.W.InstAt s.heap a oe C od := by
  rcases h with h | ⟨d, fs, h, g⟩
  · obtain ⟨⟨oe, vs, ho, hz, hd, _⟩, _, _⟩ := I.hok a _ h
    refine ⟨oe, none, ho, hz.1, ?_, ?_⟩
    · unfold PySem.W.notCls
      rw [hd]
    · rw [hz.2]
      trivial
  · obtain ⟨t1, ho⟩ := exo_at I.hok h
    obtain ⟨mA, hm, _⟩ := exd_at I.hok g
    obtain ⟨od, hod, _⟩ := lookIn_ns hm
    exact ⟨_, some od, ho, rfl, rfl, hod⟩
theorem pe_exc0 {C : Addr} {x : Str} {p pos : Pos} (hc : PySem.W.excIn X.K C veB "ValueError.__new__" = true) (gC : X.mg x = some (.ref C)) (kC : PySem.W.keepIn X.K (.ref C) = true) (hg : Gl X x) (hdb : (x == ("__debug__" : Str)) = false := by decide) :
    PE X (.Call (.Name x p) [] [] pos) (fun _ H Q => ∀ a, H a = none → Q (.ref a) (upd H a (ExO (.ref C) a))) := by
  constructor
  intro pins st σ H Q I h
  refine wpAny_Call_Name_kw (ld_glob I hg gC ?_ hdb)
  refine PySem.W.callWith_K0 I.kIn kC ?_
  obtain ⟨bm, N, nm, qn, bs, hdct, sn, sub, ab, col, dd, k0, k1, k2, k3, k5, mN, hC, hN, hni, OT⟩ := exc_obj I.kIn hc
  refine wpAny_call_exc_subT PySem.F.excBase_ValueError OT hC hN hni (fun h' a hm => ?_) (Nat.zero_le _)
  have free : H a = none := I.hok.gone hm.new
  obtain ⟨t, ht, _, _⟩ := hm.there
  have ok : ObjOk X.prog X.w (upd H a (ExO (.ref C) a)) h' a (ExO (.ref C) a) := exO_ok ht ⟨rfl, rfl⟩ rfl rfl rfl (show 4 < 6 by decide)
  exact ⟨.ref a, _, I.laidN hm.keeps hm.new free ok, rfl, h a free⟩
/-- C(e, ..), C an own exception class with an own __init__, as a value -/
def tOexV (C : Addr) (sp : Sp) (ta : TA) : TE := fun σ H Q => ta σ H fun vs H1 => vs.length ≤ 1000 ∧ ∀ a, H1 a = none → sp (.ref a :: vs) (upd H1 a (exo a C none)) (fun v H2 => v = .non ∧ Q (.ref a) H2) (fun _ _ _ => False)
theorem pe_oexV {x : Str} {C fI : Addr} {k : Nat} {fd : FuncData} {ps : List Str} {sp : Sp} {e : Expr} {es : List Expr} {ta : TA} {p pos : Pos} (OC : OexC X.K C) (iC : PySem.W.findIn X.K (.ref C) "__init__" = some (some (.ref fI)))
    (tI : PySem.W.typeIn X.K (.ref fI) = some (.type "function")) (F1 : FnOk X.prog X.w X.K X.mg X.base CX0 k fI fd ps sp) (hr : Room (k + 1) X.A) (hb : Binds X.K fd ps []) (hg : Gl X x) (hm : X.mg x = some (.ref C)) (ha : PA X (e :: es) ta)
    (hdb : (x == ("__debug__" : Str)) = false := by decide) (he : starEach (e :: es) X.env = (false, eval e X.env) :: starEach es X.env := by rfl) (hpl : (backTo pos (starEach es X.env)).any (·.1) = false := by rfl) :
    PE X (.Call (.Name x p) (e :: es) [] pos) (tOexV C sp ta) := by
  constructor
  intro pins st σ H Q I h
  obtain ⟨nm, q, N, bs, bm, sn, sub, ab, col, dd, k0, k1, k2, k3, k5, hC, hbm⟩ := OC.cls
  refine wpAny_Call_Name_kw (ld_glob I hg hm ?_ hdb)
  refine PySem.W.callWith_K (h₀ := X.base) I.ok.mod.kin OC.kC (thn (ha.run pos pins st σ H _ I h) fun us s1 z => ?_) he hpl
  obtain ⟨vs, H1, I1, r1, hz, q1⟩ := z
  refine ⟨I1.kIn, ?_⟩
  obtain ⟨hp, g, dr, tk, os⟩ := s1
  have hn : H1 (hp.objs.size + 1) = none := I1.hok.fresh (Nat.le_succ _)
  have hq := q1 _ hn
  have kk : ∀ b o, hp.get? b = some o → ((hp.push (PySem.W.kdv_tup us)).push (PySem.HandSPX.excO C hp.objs.size)).get? b = some o := fun b o z =>
    Heap.get?_push_of_some _ (Heap.get?_push_of_some _ z)
  have hget : ((hp.push (PySem.W.kdv_tup us)).push (PySem.HandSPX.excO C hp.objs.size)).get? (hp.objs.size + 1) = some (PySem.HandSPX.excO C hp.objs.size) := by
    heap_get
  have I2 : Inv X pins σ (upd H1 (hp.objs.size + 1) (exo (hp.objs.size + 1) C none)) ⟨(hp.push (PySem.W.kdv_tup us)).push (PySem.HandSPX.excO C hp.objs.size), g, dr, tk, os⟩ :=
    I1.laid (t' := tk) (a := hp.objs.size + 1) (o := exo (hp.objs.size + 1) C none) (h' := (hp.push (PySem.W.kdv_tup us)).push (PySem.HandSPX.excO C hp.objs.size)) kk (Nat.le_succ _) (exo_ok hget)
  have r2 : Vals (V.ref (hp.objs.size + 1) :: vs) (Value.ref (hp.objs.size + 1) :: us) := .cons rfl r1
  have hl : (Value.ref (hp.objs.size + 1) :: us).length = ps.length := by
    rw [← r2.length]
    exact F1.len _ _ _ _ hq
  have hus : us.length ≤ sizeLine := by
    rw [← Paired.length r1, sizeLine_eq]
    omega
  have hb2 := hb ⟨(hp.push (PySem.W.kdv_tup us)).push (PySem.HandSPX.excO C hp.objs.size), g, dr, tk, os⟩ (Value.ref (hp.objs.size + 1) :: us) I2.kIn (by rw [List.append_nil]; exact hl)
  rw [List.append_nil] at hb2
  refine wpAny_call (PySem.HandSPX.call_own PySem.F.excBase_ValueError (fun Y => PySem.HandSPX.refsVE_contains Y bm hbm) (I1.kIn _ _ hC) (PySem.W.looks_findIn I1.kIn iC) (fun self => PySem.W.bind_fn I1.kIn self tI) hus
    (codeAny_mono (F1.run _ X.stack _ _ ⟨Value.ref (hp.objs.size + 1) :: us, []⟩ (Value.ref (hp.objs.size + 1) :: us) _ _ (fun _ _ _ => False) (hr.make C us []) (I2.env0.make C us []) hb2 r2 hq) fun r s' z => ?_))
  cases r with
  | error er => exact absurd z id
  | ok fl =>
    cases fl with
    | ret u =>
      obtain ⟨v, H', J, rv, ev, qq⟩ := I2.after z
      subst ev
      exact ⟨rv, .ref (hp.objs.size + 1), H', J, rfl, qq⟩
    | next => exact absurd z id
    | brk => exact absurd z id
    | cont => exact absurd z id
/-- what isinstance asks of the class of an exception -/
structure XcC (K : PySem.W.Frag) (C : Addr) : Prop where
  cl : (PySem.W.clsIn K C).isSome = true
  hg : PySem.W.findIn K (.ref C) "__getattribute__" = some (some (.builtin "BaseException.__getattribute__"))
  hk : PySem.W.findIn K (.ref C) "__getattr__" = some none
  hs : PySem.W.subIn K (.ref C) (.type "BaseException") = some true
  ha : PySem.W.findIn K (.ref C) "__class__" = some (some (.builtin "object.__class__"))
  hn : PySem.W.specialIn K (.builtin "object.__class__") "__get__" = some (some (.builtin "getset_descriptor.__get__"))
  ht : PySem.W.takesIn K (.builtin "object.__class__") = some true
  hm : PySem.W.mroIn K C (.type "object") = some true
def xcB (K : PySem.W.Frag) (C : Addr) : Bool := (PySem.W.clsIn K C).isSome && (decide (PySem.W.findIn K (.ref C) "__getattribute__" = some (some (.builtin "BaseException.__getattribute__"))) && (decide (PySem.W.findIn K (.ref C) "__getattr__" = some none) &&
  (decide (PySem.W.subIn K (.ref C) (.type "BaseException") = some true) && (decide (PySem.W.findIn K (.ref C) "__class__" = some (some (.builtin "object.__class__"))) && (decide (PySem.W.specialIn K (.builtin "object.__class__") "__get__" = some (some (.builtin "getset_descriptor.__get__"))) &&
  (decide (PySem.W.takesIn K (.builtin "object.__class__") = some true) && decide (PySem.W.mroIn K C (.type "object") = some true)))))))
theorem xcB_ok {K : PySem.W.Frag} {C : Addr} (h : xcB K C = true) : XcC K C := by
  unfold xcB at h
  simp only [Bool.and_eq_true, decide_eq_true_eq] at h
  obtain ⟨h1, h2, h3, h4, h5, h6, h7, h8⟩ := h
  exact ⟨h1, h2, h3, h4, h5, h6, h7, h8⟩
def rIsX (K : PySem.W.Frag) : List V → Hp → VK → Prop := fun xs H Q => ∃ (a C : Addr) (c : V) (cv : Value) (b : Bool), xs = [.ref a, c] ∧ ExAt H a C ∧ XcC K C ∧ ClsV c cv ∧ PySem.W.kitOne K (.ref C) cv = some b ∧ Q (.bl b) H
theorem call_isX : CallR X (.builtin "isinstance") (rIsX X.K) := by
  intro pins st σ H xs us Q I r h
  obtain ⟨a, C, c, cv, b, rfl, ex, xc, kc, e, q⟩ := h
  obtain ⟨u1, u2, rfl, r1, r2⟩ := vals2 r
  cases r1
  have e2 := kc.eq r2
  subst e2
  obtain ⟨oe, od, J⟩ := ex.inst I
  exact PySem.W.kia_one (PySem.W.kitx_exc xc.cl xc.hg xc.hk xc.hs xc.ha xc.hn xc.ht xc.hm) I.kIn J e (fun z => nomatch z) fun tk => ⟨.bl b, H, I.kept (t' := tk) fun _ _ z => z, rfl, q⟩
theorem call_isXK {K : PySem.W.Frag} (hK : X.K = K) : CallR X (.builtin "isinstance") (rIsX K) := by
  subst hK
  exact call_isX
/-- e.f of such an object -/
def tXv (K : PySem.W.Frag) (f : Str) (te : TE) : TE := fun σ H Q => te σ H fun x H1 => ∃ (a C d : Addr) (fs : List (Str × V)) (v : V), x = .ref a ∧ H1 a = some (exo a C (some d)) ∧ H1 d = some (exd d fs) ∧ XfC K C ∧ PySem.W.findIn K (.ref C) f = some none ∧ fs.lookup f = some v ∧ Q v H1
theorem pe_xv {e : Expr} {te : TE} {pos : Pos} {n : Str} (he : PE X e te) (hb : attributeBase e n X.env (eval e X.env) = eval e X.env := by rfl) : PE X (.Attribute e n pos) (tXv X.K n te) := by
  constructor
  intro pins st σ H Q I h
  refine attr_of hb (thn (he.run pins st σ H _ I h) fun u s1 z => ?_)
  obtain ⟨x, H1, I1, rx, a, C, d, fs, v, rfl, h1, h2, xf, hno, hl, q⟩ := z
  cases rx
  obtain ⟨t1, ho⟩ := exo_at I1.hok h1
  obtain ⟨mA, hns, hrel⟩ := exd_at I1.hok h2
  obtain ⟨od, hod, hlk⟩ := lookIn_ns hns
  obtain ⟨u, hu, ru⟩ := RelO.some_of (v := v) (o := mA n) (by rw [← hl]; exact hrel n)
  have J : PySem.W.InstAt s1.heap a _ C (some od) := ⟨ho, rfl, rfl, hod⟩
  exact HandSPX.exc_get I1.kIn J xf.ga xf.gg xf.exC (PySem.W.findObj_own xf.hdC hno rfl (by rw [hlk, hu])) (handed_of ru) ⟨v, H1, I1.tok _, ru, q⟩
end
/-! ### facts of the written part, by one kernel run each -/
/-- a written tuple of texts -/
def strOf : Value → Option Str
  | .str x _ => some x
  | _ => none
def tupB (K : PySem.W.Frag) (a : Addr) (ws : List Str) : Bool := match K.lookup a with
  | some o => decide (o.cls = .type "tuple") && (match o.data with
    | .seq its _ => decide (its.size ≤ 1000) && decide (its.toList.map strOf = ws.map some)
    | _ => false)
  | none => false
theorem vals_str : ∀ {us : List Value} {ws : List Str}, us.map strOf = ws.map some → Vals (ws.map V.str) us
  | [], [], _ => .nil
  | [], _ :: _, h => nomatch h
  | _ :: _, [], h => nomatch h
  | u :: us, w :: ws, h => by
    rw [List.map_cons, List.map_cons] at h
    obtain ⟨h1, h2⟩ := List.cons.inj h
    refine .cons ?_ (vals_str h2)
    cases u with
    | str x t =>
      have e : x = w := Option.some.inj h1
      subst e
      exact ⟨t, rfl⟩
    | _ => exact nomatch h1
theorem tupB_ok {K : PySem.W.Frag} {a : Addr} {ws : List Str} (h : tupB K a ws = true) (H : Hp) : SqT K H a (ws.map V.str) := by
  unfold tupB at h
  split at h
  · rename_i o ho
    rw [Bool.and_eq_true] at h
    obtain ⟨h1, h2⟩ := h
    split at h2
    · rename_i its n hd
      rw [Bool.and_eq_true] at h2
      exact .inr ⟨o, its, n, ho, of_decide_eq_true h1, hd, sz (Nat.le_trans (of_decide_eq_true h2.1) (by decide)), vals_str (of_decide_eq_true h2.2)⟩
    · cases h2
  · cases h
/-- the refusals among one another, and under the first of them -/
def kitsB (K : PySem.W.Frag) (t : Addr) (cs : List Addr) : Bool := (List.range cs.length).all fun i => decide (PySem.W.kitOne K (.ref (cs.getD i 0)) (.ref t) = some true) && (List.range cs.length).all fun j => decide (PySem.W.kitOne K (.ref (cs.getD i 0)) (.ref (cs.getD j 0)) = some (decide (i = j)))
theorem kitsB_top {K : PySem.W.Frag} {t : Addr} {cs : List Addr} (h : kitsB K t cs = true) {i : Nat} (hi : i < cs.length) : PySem.W.kitOne K (.ref (cs.getD i 0)) (.ref t) = some true := by
  unfold kitsB at h
  have z := List.all_eq_true.mp h i (List.mem_range.mpr hi)
  rw [Bool.and_eq_true] at z
  exact of_decide_eq_true z.1
theorem kitsB_two {K : PySem.W.Frag} {t : Addr} {cs : List Addr} (h : kitsB K t cs = true) {i j : Nat} (hi : i < cs.length) (hj : j < cs.length) : PySem.W.kitOne K (.ref (cs.getD i 0)) (.ref (cs.getD j 0)) = some (decide (i = j)) := by
  unfold kitsB at h
  have z := List.all_eq_true.mp h i (List.mem_range.mpr hi)
  rw [Bool.and_eq_true] at z
  exact of_decide_eq_true (List.all_eq_true.mp z.2 j (List.mem_range.mpr hj))
def dws : List Str := ["new", "put", "paint", "tie", "cut", "add", "spread"]

end My
namespace My
open PySem PySem.Spec PyProof.Rows L2
/-! ### an exception caught and kept -/
/-- at a stands an exception of the class cls that was raised -/
def ExC (cls : Value) (d : Option Addr) (a : Addr) : HO := .ext fun h => ∃ (oe : Obj) (vs : Array Value), h.get? a = some oe ∧ Zc cls d oe ∧ oe.data = .fields vs
theorem exC_ok {P : Program} {w : World} {H : Hp} {h : Heap} {a : Addr} {cls : Value} {d : Option Addr} {oe : Obj} {vs : Array Value} (e : h.get? a = some oe) (z : Zc cls d oe) (dd : oe.data = .fields vs) : ObjOk P w H h a (ExC cls d a) := by
  refine ⟨⟨oe, vs, e, z, dd⟩, ⟨oe, e⟩, ?_⟩
  rintro h1 h2 ⟨o, v, e1, z1, d1⟩ st
  exact ⟨o, v, st _ e1, z1, d1⟩
/-- what stood nowhere at sI is none of the context's own: it may be tracked -/
theorem inv_seen {X : Cx} {pins : List (Addr × Obj)} {σI σ : L2.St} {HI H : Hp} {sI s : Shared} {a : Addr} {o : HO} (J : Inv X pins σI HI sI) (new : sI.heap.get? a = none) (I : Inv X pins σ H s) (na : H a = none) (ok : ObjOk X.prog X.w (upd H a o) s.heap a o) :
    Inv X pins σ (upd H a o) s := by
  have old : ∀ {b : Addr} {ob : Obj}, sI.heap.get? b = some ob → upd H a o b = H b := fun {b ob} e => upd_ne fun z => by
    rw [z, new] at e
    cases e
  have trk : ∀ {b : Addr} {u : HO}, H b = some u → upd H a o b = some u := fun {b u} e => (upd_ne (ne_of_none e na)).trans e
  refine ⟨I.ok, I.os, I.bare, ⟨I.base.keep, I.base.slot, ?_, I.base.there, ?_, ?_, ?_⟩, I.loc, I.cell, ?_, ?_, ?_, ?_, I.len⟩
  · intro b ob e nb hx
    obtain ⟨o', e'⟩ := J.base.there b ob e hx
    rw [old e']
    exact I.base.free b ob e nb hx
  · intro b xs e
    exact trk (I.base.tups b xs e)
  · intro b ob u e
    exact trk (I.base.frzs b ob u e)
  · intro b ps e
    obtain ⟨more, q⟩ := I.base.tbls b ps e
    exact ⟨more, trk q⟩
  · obtain ⟨m, ⟨ol, _, _, el, _⟩, _⟩ := J.loc
    rw [old el]
    exact I.free
  · intro y c e
    obtain ⟨v, oc, ec, _⟩ := J.cell y c e
    rw [old ec]
    exact I.freeC y c e
  · intro p hp
    obtain ⟨p1, p2, p3⟩ := I.pin p hp
    exact ⟨p1, (old (J.pin p hp).1).trans p2, p3⟩
  · intro b u e
    by_cases hb : b = a
    · subst hb
      rw [upd_same] at e
      cases e
      exact ok
    · rw [upd_ne hb] at e
      exact (I.hok b u e).stay (fun _ _ _ q => q) (fun _ q => trk q) fun _ _ q => trk q
/-- what 'except x as n' wishes, the exception kept behind it -/
def wKeep (K : PySem.W.Frag) (c : Value) (i : Nat) (ts : Addr → TS) (D : Ends) : WX := fun cls d σ H =>
  PySem.W.exmOne K cls c = some true ∧ ∀ a, H a = none → ts a { nx := fun σ' H' => H' a = none ∧ D.nx (σ'.set i none) (upd H' a (ExC cls d a)), rt := fun _ _ => False, bk := fun _ _ => False, ct := fun _ _ => False } (σ.set i (some (.ref a))) H
theorem ps_try_keep {X : Cx} {x n : Str} {c : Value} {i : Nat} {body suite : List Stmt} {b0 : Stmt} {np pos pos' : Pos} {tb : WX → TS} {ts : Addr → TS} (stk : X.stack = X.env :: X.outer) (frm : X.env.frame = some X.env.locals) (nd : X.N.Nodup) (hi : X.N[i]? = some n) (loc : X.env.kindOf n = some .local) (nm : Names X x c)
    (hb : ∀ (W : WX) (pn : List (Addr × Obj)) (xe : Value → Shared → Prop), Takes (X.tr pn xe) W → PSs (X.tr pn xe) body (tb W))
    (hsu : ∀ (a : Addr) (pn : List (Addr × Obj)), PSs (X.suite a pn) (b0 :: suite) (ts a)) :
    PS X (.Try body [.ExceptHandler (some (.Name x np)) (some n) (b0 :: suite) pos'] [] [] pos) (fun D σ H => tb (wKeep X.K c i ts D) D σ H) := by
  constructor
  intro pins s σ H D I h
  have frs' : X.A.frames = some (X.env :: X.outer) := by rw [I.ok.frames, stk]
  refine wpAny_Try_except (wpAny_mono ((hb (wKeep X.K c i ts D) (X.pn ++ pins) _ fun u s' ex => ?_).run [] s σ H D (I.toTry _) h) (fun f s1 sp => ?_) fun e s1 q => q)
  · obtain ⟨a, B, sI, pins', σ', H', cls, d, rfl, JT, nb, up, sky, na, os, ag, hm, go⟩ := ex
    have J : Inv X pins σ' H' sI := JT.ofTry I.ok
    have sky2 : Sky B (X.env :: X.outer) a (Zc cls d) X.env.locals s'.heap := stk ▸ sky
    refine Sky.land Zc.steady frs' frm sky2 fun h3 fl3 up3 => ?_
    have J3 : Inv X pins σ' H' { s' with heap := h3 } := J.landed nb fl3.1 (up.trans up3) os ag
    have away : ∀ {hp : Heap} {o : Obj} {vs : Array Value}, hp.FunFrames B (X.env :: X.outer) → hp.get? a = some o → o.data = .fields vs → a ∉ frs (X.env :: X.outer) := fun {hp o vs} ff e dd m => by
      obtain ⟨_, o', e', nf⟩ := ff.mem m
      rw [e] at e'
      cases e'
      exact nf _ dd
    obtain ⟨oe3, vs3, he3, hz3, hd3⟩ := fl3.there
    have nfr := away fl3.2.2.1 he3 hd3
    have nl : a ≠ X.env.locals := fun z => nfr (List.mem_filterMap.mpr ⟨X.env, List.mem_cons_self, by rw [frm, z]⟩)
    have nfs : a ∉ X.fs := fun m => by
      obtain ⟨e, he, q⟩ := List.mem_filterMap.mp m
      exact nfr (List.mem_filterMap.mpr ⟨e, List.mem_cons_of_mem _ he, q⟩)
    have newI : sI.heap.get? a = none := by
      cases q : sI.heap.get? a with
      | none => rfl
      | some ob =>
        have z := nb a ob q (by rw [stk]; exact nfr)
        rw [fl3.2.1] at z
        cases z
    have S3 := J3.suite he3 hd3 na nl nfs
    refine wpAny_handleBy_cons (codeAny_handlers_test ?_) (fun z => nomatch z)
    have name : ∀ {Q' : Value → Shared → Prop} {E' : Value → Shared → Prop}, Q' c { s' with heap := h3 } → wpAny (model X.prog X.w) (X.A.mark (some (.ref a))) (eval (.Name x np) X.env) Q' E' { s' with heap := h3 } := fun {Q' E'} q => by
      obtain ⟨gl, dbg, hit | ⟨miss, bt, nn⟩⟩ := nm
      · exact ld_glob (X := X.suite a ((a, oe3) :: (X.pn ++ pins))) S3 gl hit q dbg
      · exact ld_blt (X := X.suite a ((a, oe3) :: (X.pn ++ pins))) S3 gl miss bt q nn dbg
    have looks : PySem.W.Looks (model X.prog X.w) h3 (typeOf (.ref a)) cls := fun A' Q' E' t k q => wpAny_typeOf_ref (k _ _ he3) (hz3.1.symm ▸ q)
    refine name ((PySem.W.exm_one (M := model X.prog X.w) J3.kIn looks hm).here (codeAny_handlers_suite_as (HandSPX.lands_againZ fl3 fun h4 fl4 up4 => ?_)))
    · have J4 : Inv X pins σ' H' { s' with heap := h4 } := J.landed nb fl4.1 ((up.trans up3).trans up4) os ag
      obtain ⟨oe4, vs4, he4, hz4, hd4⟩ := fl4.there
      refine store_ok (X := X.suite a ((a, oe4) :: (X.pn ++ pins))) (v := .ref a) (J4.suite he4 hd4 na nl nfs) nd hi (.inl loc) rfl (fun s5 S5 => ?_) (.inr loc)
      refine wpAny_mono ((hsu a ((a, oe4) :: (X.pn ++ pins))).run [] s5 _ H' _ S5 (go a na)) (fun f s6 sp => ?_) fun _ _ z => (show False from z).elim
      cases f with
      | next =>
        obtain ⟨σ6, H6, S6, n6, q6⟩ := sp
        refine gone_ok (X := X.suite a ((a, oe4) :: (X.pn ++ pins))) S6 nd hi loc fun s7 S7 => ?_
        have at7 := (S7.pin (a, oe4) (List.mem_append_left _ List.mem_cons_self)).1
        exact ⟨_, _, inv_seen J newI (S7.unsuite I.ok) n6 (exC_ok at7 hz4 hd4), q6⟩
      | brk =>
        obtain ⟨_, _, _, z⟩ := sp
        exact (show False from z).elim
      | cont =>
        obtain ⟨_, _, _, z⟩ := sp
        exact (show False from z).elim
      | ret u =>
        obtain ⟨_, _, _, _, _, z⟩ := sp
        exact (show False from z).elim
  · cases f with
    | next =>
      obtain ⟨σ', H', J, q⟩ := sp
      exact wpAny_execs_nil ⟨σ', H', J.ofTry I.ok, q⟩
    | brk =>
      obtain ⟨σ', H', J, q⟩ := sp
      exact ⟨σ', H', J.ofTry I.ok, q⟩
    | cont =>
      obtain ⟨σ', H', J, q⟩ := sp
      exact ⟨σ', H', J.ofTry I.ok, q⟩
    | ret u =>
      obtain ⟨v, σ', H', J, r, q⟩ := sp
      exact ⟨v, σ', H', J.ofTry I.ok, r, q⟩

/-! ### a lambda of one parameter -/
structure LamP (sc scope : Scope) (p : Str) : Prop where
  kind : scope.kind = .function
  co : scope.isCoroutine = false
  gen : scope.isGenerator = false
  par : scope.names.lookup p = some .local
  own : ∀ y ∈ scope.names, y.2 ≠ .cell ∧ (y.2 = .local → y.1 = p)
  free : ∀ y ∈ scope.names, y.2 = .free → sc.names.lookup y.1 = some .cell ∨ sc.names.lookup y.1 = some .free
def lamPB (sc scope : Scope) (p : Str) : Bool := decide (scope.kind = .function) && (!scope.isCoroutine && (!scope.isGenerator && (decide (scope.names.lookup p = some .local) && scope.names.all fun y => !decide (y.2 = .cell) && ((!decide (y.2 = .local) || decide (y.1 = p)) && (!decide (y.2 = .free) || (decide (sc.names.lookup y.1 = some .cell) || decide (sc.names.lookup y.1 = some .free)))))))
theorem lamP_by {sc scope : Scope} {p : Str} (h : lamPB sc scope p = true) : LamP sc scope p := by
  unfold lamPB at h
  simp only [Bool.and_eq_true, Bool.or_eq_true, Bool.not_eq_true', decide_eq_true_eq, decide_eq_false_iff_not, List.all_eq_true] at h
  obtain ⟨h1, h2, h3, h4, h5⟩ := h
  refine ⟨h1, h2, h3, h4, fun y hy => ⟨(h5 y hy).1, fun e => ?_⟩, fun y hy e => ?_⟩
  · rcases (h5 y hy).2.1 with z | z
    · exact absurd e z
    · exact z
  · rcases (h5 y hy).2.2 with z | z
    · exact absurd e z
    · exact z
theorem LamP.has {X : Cx} {scope : Scope} {p : Str} (L : LamP X.env.scope scope p) (ok : X.Ok) {y : Str × NameKind} (hy : y ∈ scope.names) (e : y.2 = .free) : ∃ c, X.env.cells.lookup y.1 = some c := ok.has _ (L.free y hy e)
/-- the context of its body -/
def cxP (X : Cx) (A : Around) (outer : List Env) (s : Shared) (H : Hp) (E : XK) (scope : Scope) (p : Str) (f c' : Addr) : Cx := { LamX.lamCx X A outer s H E scope f c' with N := X.N ++ [p] }
section
variable {X : Cx} {pins : List (Addr × Obj)} {σ : L2.St} {H HZ : Hp} {s s1 : Shared} {A : Around} {outer : List Env} {E : XK} {scope : Scope} {p : Str} {f c' : Addr}
theorem lamP_start {h1 : Heap} {tk : Nat} {v : V} {u : Value} (I : Inv X pins σ H s) (L : LamP X.env.scope scope p) (np : ∀ (i : Nat) (v : V), X.N[i]? = some p → σ[i]? = some (some v) → False) (e0 : Env0 X.prog X.w X.K X.mg X.base A outer s1 HZ) (calm : A.handled = none)
    (un : Un (frs X.stack) [] H HZ s.heap s1.heap) (ns : h1.Ns s1.heap.objs.size fun y => ([(p, u)] : List (Str × Value)).reverse.lookup y) (kp : ∀ b o, s1.heap.get? b = some o → h1.get? b = some o) (r : RelV v u) :
    Inv (cxP X A outer s1 HZ E scope p f c') [] (σ ++ [some v]) HZ { s1 with heap := h1, toks := tk } := by
  -- the closure's cells are the maker's
  have back : ∀ {y : Str} {c : Addr}, (cloFrom X.env.cells scope.names []).lookup y = some c → X.env.cells.lookup y = some c := fun {y c} e => by
    rcases cloFrom_mem (PySem.mem_of_lookup e) with z | ⟨z, ec⟩
    · cases z
    · obtain ⟨c1, e1⟩ := L.has I.ok z rfl
      rw [ec, e1]
      rfl
  have fwd : ∀ {y : Str}, scope.names.lookup y = some .free → ∃ c, (cloFrom X.env.cells scope.names []).lookup y = some c := fun {y} e =>
    mem_lookup (cloFrom_has (cells := X.env.cells) (acc := []) (show (y, NameKind.free) ∈ scope.names from PySem.mem_of_lookup e))
  have cellOn : ∀ {c : Addr} {x : Option Value}, H c = none → s.heap.IsCell c x → h1.IsCell c x := fun {c x} n z => by
    obtain ⟨o, ho, hd⟩ := z
    obtain ⟨sl, q⟩ := un.any ho n (fun z => nomatch z)
    exact ⟨_, kp _ _ q, hd⟩
  have noCell : ∀ {y : Str}, scope.names.lookup y ≠ some .cell := fun {y} e => (L.own _ (PySem.mem_of_lookup e)).1 rfl
  have isOwn : ∀ {y : Str}, scope.names.lookup y = some .local → y = p := fun {y} e => (L.own _ (PySem.mem_of_lookup e)).2 rfl
  have ok : (cxP X A outer s1 HZ E scope p f c').Ok :=
    { mod := e0.mod
      kind := L.kind
      glob := rfl
      blt := rfl
      above := Nat.le_refl _
      inj := fun y z c e1 e2 => I.ok.inj y z c (back e1) (back e2)
      has := fun y hy => by
        rcases hy with hy | hy
        · exact absurd hy noCell
        · exact fwd hy
      cab := fun y c z _ => absurd (show false = true from z) Bool.false_ne_true
      hd := fun _ => calm
      frames := Around.frames_deeper e0.frames
      stk := .inr ⟨rfl, rfl⟩
      exf := fun b z => absurd (show b ∈ ([] : List Addr) from z) List.not_mem_nil
      bs := e0.bs
      bsz := e0.bsz
      noex := fun b _ _ z => absurd (show b ∈ ([] : List Addr) from z) List.not_mem_nil
      exfs := fun b z => absurd (show b ∈ ([] : List Addr) from z) List.not_mem_nil
      funs := e0.funs
      frf := e0.frf }
  refine ⟨ok, rfl, e0.bare, Un.kept kp, ⟨_, ns, fun i y x e1 e2 e3 => ?_⟩, fun y c e => ?_, e0.hok.fresh (Nat.le_refl _), fun y c e => ?_, fun q hq => absurd (show q ∈ ([] : List (Addr × Obj)) ++ [] from hq) List.not_mem_nil, e0.hok.kept kp, ?_⟩
  · have e1 : (X.N ++ [p])[i]? = some y := e1
    have e3 : Vis scope y := e3
    have ll : σ.length = X.N.length := I.len
    by_cases lt : i < X.N.length
    · rw [List.getElem?_append_left lt] at e1
      rw [List.getElem?_append_left (by rw [ll]; exact lt)] at e2
      have ny : y ≠ p := fun z => np i x (z ▸ e1) e2
      rcases e3 with k | k | k
      · exact absurd (isOwn k) ny
      · exact absurd k noCell
      · obtain ⟨m, _, at_⟩ := I.loc
        have fr := L.free _ (PySem.mem_of_lookup k) rfl
        obtain ⟨u', r', q⟩ := at_ i y x e1 e2 (.inr fr)
        obtain ⟨c, ec⟩ := fwd k
        refine ⟨u', r', .inr ⟨.inr k, c, ec, ?_⟩⟩
        rcases q with ⟨k', _⟩ | ⟨_, c2, ec2, z⟩
        · have k' : X.env.scope.names.lookup y = some .local := k'
          rcases fr with k2 | k2
          · rw [k'] at k2
            cases k2
          · rw [k'] at k2
            cases k2
        · rw [back ec] at ec2
          cases ec2
          exact cellOn (I.freeC y c (back ec)) z
    · have ge : X.N.length ≤ i := Nat.le_of_not_lt lt
      rw [List.getElem?_append_right ge] at e1
      rw [List.getElem?_append_right (by rw [ll]; exact ge), ll] at e2
      cases hi : i - X.N.length with
      | zero =>
        rw [hi] at e1 e2
        have ey : p = y := Option.some.inj e1
        have ev : v = x := Option.some.inj (Option.some.inj e2)
        subst ey ev
        refine ⟨u, r, .inl ⟨L.par, ?_⟩⟩
        show ([(p, u)] : List (Str × Value)).lookup p = some u
        rw [List.lookup_cons, beq_self_eq_true]
      | succ n =>
        rw [hi] at e1
        cases e1
  · obtain ⟨x, z⟩ := I.cell y c (back e)
    exact ⟨x, cellOn (I.freeC y c (back e)) z⟩
  · obtain ⟨x, o, ho, _⟩ := I.cell y c (back e)
    exact un.free c o ho (I.freeC y c (back e)) (fun z => nomatch z)
  · show (σ ++ [some v]).length = (X.N ++ [p]).length
    rw [List.length_append, List.length_append, I.len]
    rfl
/-- the lambda at f called with one thing, at any time behind its making -/
theorem lamP_run {k : Nat} {params : Arguments} {b : Expr} {pm ctv : Value} {tb : TE} {v : V} {u : Value} {Q : VK} (I : Inv X pins σ H s) (L : LamP X.env.scope scope p) (np : ∀ (i : Nat) (v : V), X.N[i]? = some p → σ[i]? = some (some v) → False)
    (hf : s.heap.get? f = some (PySem.W.kla_obj "<lambda>" (X.env.qual ++ "<lambda>") params b scope (cloFrom X.env.cells scope.names []) pm c' ctv)) (hfn : H f = none) (hfr : f ∉ frs X.stack)
    (bind : ∀ u, bindArgs (PySem.W.kla_fn "<lambda>" (X.env.qual ++ "<lambda>") params b scope (cloFrom X.env.cells scope.names []) pm (.ref c') ctv) ⟨[u], []⟩ = pure [(p, u)]) (room : Room (k + 1) A) (e0 : Env0 X.prog X.w X.K X.mg X.base A outer s1 HZ)
    (un : Un (frs X.stack) [] H HZ s.heap s1.heap) (code : HZ c' = some (LamX.CodeO c' (X.env.qual ++ "<lambda>"))) (body : ∀ (A : Around) (outer : List Env) (s : Shared) (H : Hp), Room k (A.deeper (LamX.lamEnv X scope s.heap.objs.size f c')) → PE (cxP X A outer s H E scope p f c') b tb)
    (r : RelV v u) (t : tb (σ ++ [some v]) HZ Q) : codeAny (model X.prog X.w) A (.call (.ref f) ⟨[u], []⟩) (CR (L2.CX X.prog X.w) outer X.prog X.w HZ s1 Q E) s1 := by
  have here := un.keep f _ hf hfn hfr (fun z => nomatch z)
  obtain ⟨⟨oc, vs, tk, ho, hd, hv⟩, _, _⟩ := e0.hok c' _ code
  refine PySem.W.kla_callFunE room.depth here rfl L.co L.gen rfl ⟨c', oc, vs, tk, rfl, ho, hd, hv⟩ ?_
  rw [bind u]
  refine wpAny_pure (wpAny_newFunctionEnv (fun y hy => (L.own y hy).1) (fun y hy => ?_) (fun h1 ns sb => ⟨?_, ?_⟩) L.kind)
  · rw [List.mem_singleton.mp hy]
    exact L.par
  · have kin : s1.heap.NoLimit := e0.mod.nolimit.keeps fun b o e => (e0.bs b o e).1
    exact kin.fresh _ sb
  · have kp : ∀ b o, s1.heap.get? b = some o → h1.get? b = some o := fun b o e => sb.extBut b o (Nat.ne_of_lt (Heap.lt_size e)) (Heap.get?_push_of_some _ e)
    have J := lamP_start (E := E) (f := f) (c' := c') (tk := s1.toks + ([(p, u)] : List (Str × Value)).length) I L np e0 room.hd un ns kp r
    show codeAny _ _ (.expr b (LamX.lamEnv X scope s1.heap.objs.size f c')) _ _
    refine PySem.W.kla_codeExpr (wpAny_mono ((body _ _ s1 HZ (room.deeper _)).run [] _ _ HZ Q J t) (fun w' s' z => ?_) fun e s' z => z)
    obtain ⟨x, H', J', rx, q⟩ := z
    exact ⟨x, H', J'.os, J'.bare, J'.base, J'.hok, rx, q⟩
end
/-! ### it is called by the def that got it -/
/-- that def's context, entered at s -/
abbrev gotCx (X : Cx) (Ng : List Str) (x : Str) (sg : Scope) (g : Addr) (cdg : Value) (s : Shared) (H : Hp) : Cx := cxOf CX0 X.prog X.w X.K X.mg X.base Ng x sg g cdg X.A X.stack s H E0
/-- a(e), a's slot the i-th: e's reading, then the lambda's of e's value -/
def tAct (i : Nat) (f c' : Addr) (q : Str) (ta : TA) (W : WX) (tl : XK → V → Hp → VK → Prop) : TE := fun σ H Q => σ[i]? = some (some (.ref f)) ∧ ta σ H fun vs H1 => ∃ v, vs = [v] ∧ H1 c' = some (LamX.CodeO c' q) ∧ tl (fun cls d H' => W cls d σ H') v H1 Q
theorem pe_actP {X : Cx} {pins : List (Addr × Obj)} {σ : L2.St} {H : Hp} {s : Shared} {scope : Scope} {p x a : Str} {f c' g : Addr} {k i : Nat} {params : Arguments} {b e : Expr} {pm ctv cdg : Value} {tb : XK → TE} {ta : TA} {Ng : List Str} {sg : Scope} {pn : List (Addr × Obj)} {xe : Value → Shared → Prop} {W : WX} {p1 p2 : Pos}
    (I : Inv X pins σ H s) (L : LamP X.env.scope scope p) (np : ∀ (i : Nat) (v : V), X.N[i]? = some p → σ[i]? = some (some v) → False) (hf : s.heap.get? f = some (PySem.W.kla_obj "<lambda>" (X.env.qual ++ "<lambda>") params b scope (cloFrom X.env.cells scope.names []) pm c' ctv)) (hfn : H f = none) (hfr : f ∉ frs X.stack)
    (bind : ∀ u, bindArgs (PySem.W.kla_fn "<lambda>" (X.env.qual ++ "<lambda>") params b scope (cloFrom X.env.cells scope.names []) pm (.ref c') ctv) ⟨[u], []⟩ = pure [(p, u)])
    (tk : Takes ((gotCx X Ng x sg g cdg s H).tr pn xe) W) (room : Room (k + 1) (X.A.deeper (envOfC x sg s.heap.objs.size g cdg)))
    (body : ∀ (A : Around) (outer : List Env) (s : Shared) (H : Hp) (E : XK), Room k (A.deeper (LamX.lamEnv X scope s.heap.objs.size f c')) → PE (cxP X A outer s H E scope p f c') b (tb E))
    (at_ : Ng[i]? = some a) (vis : Vis sg a) (args : PA ((gotCx X Ng x sg g cdg s H).tr pn xe) [e] ta)
    (star : starEach [e] ((gotCx X Ng x sg g cdg s H).tr pn xe).env = (false, eval e ((gotCx X Ng x sg g cdg s H).tr pn xe).env) :: starEach [] ((gotCx X Ng x sg g cdg s H).tr pn xe).env := by rfl)
    (d1 : (a == ("__debug__" : Str)) = false := by decide) (d2 : (a == ("__classdict__" : Str)) = false := by decide) :
    PE ((gotCx X Ng x sg g cdg s H).tr pn xe) (.Call (.Name a p1) [e] [] p2) (tAct i f c' (X.env.qual ++ "<lambda>") ta W fun E v H1 Q => tb E (σ ++ [some v]) H1 Q) := by
  constructor
  intro pz sz σz Hz Q Iz h
  obtain ⟨slot, ht⟩ := h
  refine wpAny_Call_Name_kw (thn ((pe_var (pos := p1) (i := i) at_ vis d1 d2).run pz sz σz Hz (fun v H1 => v = .ref f ∧ H1 = Hz) Iz ⟨.ref f, slot, rfl, rfl⟩) fun u s1 z => ?_)
  obtain ⟨v0, H1, I1, r1, rfl, rfl⟩ := z
  obtain rfl : u = Value.ref f := r1
  have still : ∀ {σ' : L2.St} {H' : Hp} {s' : Shared}, Inv ((gotCx X Ng x sg g cdg s H).tr pn xe) pz σ' H' s' → s'.heap.get? f = some (PySem.W.kla_obj "<lambda>" (X.env.qual ++ "<lambda>") params b scope (cloFrom X.env.cells scope.names []) pm c' ctv) := fun J => J.base.keep f _ hf hfn hfr (fun z => nomatch z)
  refine PySem.W.callWith_F ⟨_, _, _, _, still I1⟩ (thn (args.run p2 pz s1 σz H1 _ I1 ht) fun us s2 z => ?_) star rfl
  obtain ⟨vs, H2, I2, rv, v, rfl, hc, tl⟩ := z
  obtain ⟨u, rfl, ru⟩ := vals1 rv
  have e2 : Env0 X.prog X.w X.K X.mg X.base (X.A.deeper (envOfC x sg s.heap.objs.size g cdg)) (envOfC x sg s.heap.objs.size g cdg :: X.stack) s2 H2 := I2.env0
  have un : Un (frs X.stack) [] H H2 s.heap s2.heap := I2.base
  have run := lamP_run (X := X) (E := fun cls d H' => W cls d σz H') (k := k) (u := u) (Q := Q) I L np hf hfn hfr bind room e2 un hc (fun A outer s H rm => body A outer s H _ rm) ru tl
  refine ⟨⟨_, _, _, _, still I2⟩, wpAny_call (codeAny_mono run fun res s3 z => ?_)⟩
  cases res with
  | error er => exact tk er s3 (XE.of_call I2 (fun _ _ _ w => w) z)
  | ok fl =>
    cases fl with
    | ret u' => exact I2.after z
    | next => exact (show False from z).elim
    | brk => exact (show False from z).elim
    | cont => exact (show False from z).elim
/-- what the def makes of the lambda's reading tl and of the thing v: TT -/
def GivesP (X : Cx) (k : Nat) (Ng : List Str) (x : Str) (sg : Scope) (g : Addr) (cdg : Value) (bg : List Stmt) (a : Str) (q : Str) (TT : V → (XK → V → Hp → VK → Prop) → Hp → VK → Prop) : Prop :=
  ∀ (f c' : Addr) (v : V) (s : Shared) (H : Hp) (Q : VK) (tl : XK → V → Hp → VK → Prop), Room k (X.A.deeper (envOfC x sg s.heap.objs.size g cdg)) →
    (∀ (W : WX) (pn : List (Addr × Obj)) (xe : Value → Shared → Prop) (p1 p2 : Pos) (e : Expr) (ta : TA), Takes ((gotCx X Ng x sg g cdg s H).tr pn xe) W → PA ((gotCx X Ng x sg g cdg s H).tr pn xe) [e] ta →
      starEach [e] ((gotCx X Ng x sg g cdg s H).tr pn xe).env = (false, eval e ((gotCx X Ng x sg g cdg s H).tr pn xe).env) :: starEach [] ((gotCx X Ng x sg g cdg s H).tr pn xe).env →
      PE ((gotCx X Ng x sg g cdg s H).tr pn xe) (.Call (.Name a p1) [e] [] p2) (tAct 0 f c' q ta W tl)) →
    H c' = some (LamX.CodeO c' q) → TT v tl H Q →
    ∃ t, PSs (gotCx X Ng x sg g cdg s H).nox bg t ∧ t { nx := fun _ H' => Q .non H', rt := Q } (L2.start Ng [.ref f, v]) H
/-- the lambda is made: all but the table at P is as it was -/
theorem lam_new {X : Cx} {pins : List (Addr × Obj)} {σ : L2.St} {H : Hp} {s : Shared} {c P : Addr} {params : Arguments} {b : Expr} {scope : Scope} {pos : Pos} {E Q : Value → Shared → Prop} (J : Inv X pins σ H s) (tab : LamX.TabB X.base X.mg c P) (own : X.env.code = .ref c)
    (t0 : LamX.TabS H P (X.env.qual ++ "<lambda>")) (nodef : defaultsOf params X.env = ([], [])) (has : ∀ y ∈ scope.names, y.2 = .free → ∃ c, X.env.cells.lookup y.1 = some c)
    (go : ∀ (f c' : Addr) (pm ctv : Value) (H1 : Hp) (s1 : Shared), Inv X pins σ H1 s1 → But P H H1 → LamX.TabS H1 P (X.env.qual ++ "<lambda>") → s1.heap.get? f = some (PySem.W.kla_obj "<lambda>" (X.env.qual ++ "<lambda>") params b scope (cloFrom X.env.cells scope.names []) pm c' ctv) →
      H1 f = none → f ∉ frs X.stack → H1 c' = some (LamX.CodeO c' (X.env.qual ++ "<lambda>")) → Q (.ref f) s1) : wpAny (model X.prog X.w) X.A (eval (.Lambda params b scope pos) X.env) Q E s := by
  have seen := t0
  obtain ⟨ps, atP, tri, each⟩ := seen
  have blt : s.heap.BuiltinsAt X.mg P := tab.bm.keeps J.bk
  have objP : s.heap.get? P = some { cls := .none, data := .fields ps } := J.hok P _ atP
  have far : ∀ f, s.heap.objs.size ≤ f → f ∉ frs X.stack := fun f le m => by
    rcases List.mem_cons.mp (J.stkSub _ m) with e | e
    · have lt := J.lt
      rw [← e] at lt
      exact absurd (Nat.lt_of_lt_of_le lt le) (Nat.lt_irrefl _)
    · exact J.nofs le e
  refine PySem.W.kla_eval nodef ?_
  cases found : codeAmong pos ps.toList with
  | some cv =>
    obtain ⟨c', rfl, here⟩ := each pos cv found
    refine PySem.W.kla_makeFunctionHit (P := P) (c := c) (mg := X.mg) (ps := ps) (closure_ok has) J.ok.glob (J.mod.glob.keeps J.bk) own (tab.code.keeps J.bk) objP tri found blt fun ctv h' tk kept le => ?_
    have J1 : Inv X pins σ H { s with heap := h'.push (PySem.W.kla_obj "<lambda>" (X.env.qual ++ "<lambda>") params b scope (cloFrom X.env.cells scope.names []) ((X.mg "__name__").getD .none) c' ctv), toks := tk } := J.kept fun _ _ e => Heap.get?_push_of_some _ (kept _ _ e)
    exact go _ c' _ ctv H _ J1 .refl t0 (Heap.get?_push_size _ rfl) (J.hok.fresh le) (far _ le) here
  | none =>
    refine PySem.W.kla_makeFunction (P := P) (c := c) (mg := X.mg) (ps := ps) (closure_ok has) J.ok.glob (J.mod.glob.keeps J.bk) own (tab.code.keeps J.bk) objP tri found tab.gP blt fun c' ctv h' tk kept ge lt rec_ grown => ?_
    obtain ⟨c2, oc, vs, tk2, e2, atC, dat, nm⟩ := rec_
    cases e2
    have le : s.heap.objs.size ≤ h'.objs.size := Nat.le_trans ge (Nat.le_of_lt lt)
    have newC : H c' = none := J.hok.fresh ge
    have J1 := LamX.inv_table (t' := tk) (more := #[rawInt pos.line, rawInt pos.col, .ref c']) (h' := h'.push (PySem.W.kla_obj "<lambda>" (X.env.qual ++ "<lambda>") params b scope (cloFrom X.env.cells scope.names []) ((X.mg "__name__").getD .none) c' ctv)) J atP
      (fun _ _ nb e => Heap.get?_push_of_some _ (kept _ _ nb e)) (Heap.get?_push_of_some _ grown) ge ⟨oc, vs, tk2, Heap.get?_push_of_some _ atC, dat, nm⟩
    have but : But P H (upd (upd H P (.tbl (ps ++ #[rawInt pos.line, rawInt pos.col, .ref c']))) c' (LamX.CodeO c' (X.env.qual ++ "<lambda>"))) := fun d o e n => by
      rw [upd_ne (ne_of_none e newC), upd_ne n]
      exact e
    have toL : (ps ++ #[rawInt pos.line, rawInt pos.col, .ref c']).toList = ps.toList ++ [rawInt pos.line, rawInt pos.col, .ref c'] := by simp
    have away : ∀ {d : Addr} {q : Str}, H d = some (LamX.CodeO d q) → d ≠ P := fun {d q} e z => by
      rw [z, atP] at e
      exact LamX.codeO_ne ps (Option.some.inj e).symm
    refine go h'.objs.size c' _ ctv _ _ J1 but ⟨ps ++ #[rawInt pos.line, rawInt pos.col, .ref c'], ?_, ?_, fun p' cv among => ?_⟩ (Heap.get?_push_size _ rfl) ?_ (far _ le) upd_same
    · rw [upd_ne (ne_of_none atP newC), upd_same]
    · rw [toL]
      exact PySem.TriplesOk_snoc _ _ _ _ tri
    · rw [toL] at among
      rcases LamX.among_app _ tri among with z | z
      · obtain ⟨c0, e1, e2⟩ := each p' cv z
        exact ⟨c0, e1, but _ _ e2 (away e2)⟩
      · exact ⟨c', z, upd_same⟩
    · rw [upd_ne (Nat.ne_of_gt lt), upd_ne (Nat.ne_of_gt (Nat.lt_of_lt_of_le (Heap.lt_size objP) le))]
      exact J.hok.fresh le
def tLamP (P : Addr) (qn : Str) (TT : V → (XK → V → Hp → VK → Prop) → Hp → VK → Prop) (t : XK → TE) (ta : TA) : TE := fun σ H Q => LamX.TabS H P qn ∧ ∀ H1, But P H H1 → LamX.TabS H1 P qn → ta σ H1 fun vs H2 => ∃ v, vs = [v] ∧ LamX.ExtN H1 H2 ∧ TT v (fun E v H' Q' => t E (σ ++ [some v]) H' Q') H2 Q
theorem pinned_one {X : Cx} {pins : List (Addr × Obj)} {σ : L2.St} {H : Hp} {s : Shared} {f : Addr} {o : Obj} {fd : FuncData} (I : Inv X pins σ H s) (hf : s.heap.get? f = some o) (hd : o.data = .func fd) (hn : H f = none) (hfr : f ∉ frs X.stack) : Inv X ((f, o) :: pins) σ H s := by
  refine ⟨I.ok, I.os, I.bare, I.base, I.loc, I.cell, I.free, I.freeC, fun q hq => ?_, I.hok, I.len⟩
  rcases List.mem_append.mp hq with z | z
  · exact I.pin q (List.mem_append_left _ z)
  · rcases List.mem_cons.mp z with e | z
    · subst e
      refine ⟨hf, hn, fun e => ?_, fun m => hfr ?_, fun v e => ?_⟩
      · obtain ⟨m, ⟨ol, es, ep, el, dl, _⟩, _⟩ := I.loc
        have e' : f = X.env.locals := e
        rw [← e', hf] at el
        cases el
        rw [hd] at dl
        cases dl
      · rcases I.ok.stk with st | ⟨st, _⟩
        · rw [st]
          exact m
        · rw [st]
          obtain ⟨e1, m1, m2⟩ := List.mem_filterMap.mp m
          exact List.mem_filterMap.mpr ⟨e1, List.mem_cons_of_mem _ m1, m2⟩
      · have e' : o.data = .cell v := e
        rw [hd] at e'
        cases e'
    · exact I.pin q (List.mem_append_right _ z)
theorem unpin_one {X : Cx} {pins : List (Addr × Obj)} {σ : L2.St} {H : Hp} {s : Shared} {q : Addr × Obj} (I : Inv X (q :: pins) σ H s) : Inv X pins σ H s := by
  refine ⟨I.ok, I.os, I.bare, I.base, I.loc, I.cell, I.free, I.freeC, fun z hz => I.pin z ?_, I.hok, I.len⟩
  rcases List.mem_append.mp hz with m | m
  · exact List.mem_append_left _ m
  · exact List.mem_append_right _ (List.mem_cons_of_mem _ m)
/-- x(lambda p: b, e) -/
theorem pe_lamP {X : Cx} {TT : V → (XK → V → Hp → VK → Prop) → Hp → VK → Prop} {x a a2 p : Str} {g c P : Addr} {k : Nat} {pg : Arguments} {bg : List Stmt} {sg : Scope} {dV kV doc pm cdv ct oc : Value} {an od : Option Addr} {osl : Array (Option Value)} {Ng : List Str} {params : Arguments} {b e : Expr} {scope : Scope} {t : XK → TE} {ta : TA} {pp lpos pos : Pos}
    (gl : Gl X x) (mg : X.mg x = some (.ref g)) (keep : PySem.W.keepIn X.K (.ref g) = true) (look : X.K.lookup g = some ⟨oc, od, .func (PySem.W.fnOf x x pg bg sg dV kV doc pm an cdv ct), osl⟩) (code : PySem.W.codeIn X.K cdv x = true)
    (binds : L2.Binds X.K (PySem.W.fnOf x x pg bg sg dV kV doc pm an cdv ct) [a, a2] []) (S : FnScope Ng [a, a2] sg) (at0 : Ng[0]? = some a) (vis : Vis sg a) (gives : GivesP X (k + 1) Ng x sg g cdv bg a (X.env.qual ++ "<lambda>") TT)
    (TB : LamX.TabB X.base X.mg c P) (own : X.env.code = .ref c) (room : Room (k + 2) X.A) (L : LamP X.env.scope scope p) (np : p ∉ X.N) (nodef : defaultsOf params X.env = ([], []))
    (bind : ∀ (q : Str) (cl : List (Str × Addr)) (pm cv ctv u : Value), bindArgs (PySem.W.kla_fn "<lambda>" q params b scope cl pm cv ctv) ⟨[u], []⟩ = pure [(p, u)])
    (body : ∀ (A : Around) (outer : List Env) (s : Shared) (H : Hp) (E : XK) (f c' : Addr), Room k (A.deeper (LamX.lamEnv X scope s.heap.objs.size f c')) → PE (cxP X A outer s H E scope p f c') b (t E)) (args : PA X [e] ta)
    (star : starEach (.Lambda params b scope lpos :: [e]) X.env = (false, eval (.Lambda params b scope lpos) X.env) :: starEach [e] X.env := by rfl) (plain : (backTo pos (starEach [e] X.env)).any (·.1) = false := by rfl)
    (d0 : (x == ("__debug__" : Str)) = false := by decide) (d1 : (a == ("__debug__" : Str)) = false := by decide) (d2 : (a == ("__classdict__" : Str)) = false := by decide) :
    PE X (.Call (.Name x pp) [.Lambda params b scope lpos, e] [] pos) (tLamP P (X.env.qual ++ "<lambda>") TT t ta) := by
  constructor
  intro pins s σ H Q I h
  obtain ⟨hT, h⟩ := h
  refine wpAny_Call_Name_kw (ld_glob I gl mg ?_ d0)
  refine PySem.W.callWith_K (h₀ := X.base) I.ok.mod.kin keep ?_ star plain
  rw [star]
  show wpAny _ _ (spliced ((false, eval (.Lambda params b scope lpos) X.env) :: backTo pos (starEach [e] X.env))) _ _ s
  refine Calls.spliced_cons (lam_new I TB own hT nodef (fun y hy z => L.has I.ok hy z) fun f c' pm' ctv H1 s1 I1 ext T1 hf hfn hfr hco => ?_)
  have Ip := pinned_one I1 hf rfl hfn hfr
  refine thn (args.run pos _ s1 σ H1 _ Ip (h H1 ext T1)) fun us s2 z => ?_
  obtain ⟨vs, H2, I2, rv, v, rfl, ext2, tt⟩ := z
  obtain ⟨u, rfl, ru⟩ := vals1 rv
  have f2 := I2.pin (f, _) (List.mem_append_right _ List.mem_cons_self)
  have co2 : H2 c' = some (LamX.CodeO c' (X.env.qual ++ "<lambda>")) := ext2 _ _ hco (LamX.codeO_ne)
  refine ⟨I2.kIn, ?_⟩
  have run : codeAny (model X.prog X.w) X.A (.call (.ref g) ⟨[.ref f, u], []⟩) (CR CX0 X.stack X.prog X.w H2 s2 Q E0) s2 := by
    refine LamX.run_ofS (N := Ng) (ps := [a, a2]) (us := [.ref f, u]) (vs := [.ref f, v]) look code S room I2.env0 (binds s2 [.ref f, u] I2.kIn rfl) (.cons rfl (.cons ru .nil)) rfl fun hr' => ?_
    obtain ⟨t', ht', q'⟩ := gives f c' v s2 H2 Q (fun E v H' Q' => t E (σ ++ [some v]) H' Q') hr' (fun W pn xe p1 p2 e ta tk args star => pe_actP (k := k) I2 L (fun i v e _ => np (List.mem_of_getElem? e)) f2.1 f2.2.1 hfr (fun u => bind _ _ _ _ _ u) tk hr' (fun A outer s H E rm => body A outer s H E f c' rm) at0 vis args star d1 d2) co2 tt
    exact ⟨t', ht'.nox, q'⟩
  refine wpAny_call (codeAny_mono run fun res s3 z => ?_)
  cases res with
  | error er => exact (show False from z).elim
  | ok fl =>
    cases fl with
    | ret u' =>
      obtain ⟨v', H', J, r', q'⟩ := I2.after z
      exact ⟨v', H', unpin_one J, r', q'⟩
    | next => exact (show False from z).elim
    | brk => exact (show False from z).elim
    | cont => exact (show False from z).elim
/-- the same by the def's own facts -/
theorem pe_lamF {X : Cx} {TT : V → (XK → V → Hp → VK → Prop) → Hp → VK → Prop} {x a a2 p : Str} {g c P : Addr} {k : Nat} {st : Stmt} {fd : FuncData} {Ng : List Str} {params : Arguments} {b e : Expr} {scope : Scope} {t : XK → TE} {ta : TA} {pp lpos pos : Pos}
    (gl : Gl X x) (mg : X.mg x = some (.ref g)) (F : Fun X.K x x st g fd) (binds : L2.Binds X.K fd [a, a2] []) (S : FnScope Ng [a, a2] (defScope st)) (at0 : Ng[0]? = some a) (vis : Vis (defScope st) a) (gives : ∀ cdg, GivesP X (k + 1) Ng x (defScope st) g cdg (defBody st) a (X.env.qual ++ "<lambda>") TT)
    (TB : LamX.TabB X.base X.mg c P) (own : X.env.code = .ref c) (room : Room (k + 2) X.A) (L : LamP X.env.scope scope p) (np : p ∉ X.N) (nodef : defaultsOf params X.env = ([], []))
    (bind : ∀ (q : Str) (cl : List (Str × Addr)) (pm cv ctv u : Value), bindArgs (PySem.W.kla_fn "<lambda>" q params b scope cl pm cv ctv) ⟨[u], []⟩ = pure [(p, u)])
    (body : ∀ (A : Around) (outer : List Env) (s : Shared) (H : Hp) (E : XK) (f c' : Addr), Room k (A.deeper (LamX.lamEnv X scope s.heap.objs.size f c')) → PE (cxP X A outer s H E scope p f c') b (t E)) (args : PA X [e] ta)
    (star : starEach (.Lambda params b scope lpos :: [e]) X.env = (false, eval (.Lambda params b scope lpos) X.env) :: starEach [e] X.env := by rfl) (plain : (backTo pos (starEach [e] X.env)).any (·.1) = false := by rfl)
    (d0 : (x == ("__debug__" : Str)) = false := by decide) (d1 : (a == ("__debug__" : Str)) = false := by decide) (d2 : (a == ("__classdict__" : Str)) = false := by decide) :
    PE X (.Call (.Name x pp) [.Lambda params b scope lpos, e] [] pos) (tLamP P (X.env.qual ++ "<lambda>") TT t ta) := by
  have keep := F.kp
  obtain ⟨oc, od, kV, doc, pm, an, cdv, ct, osl, rfl, lk, hcd⟩ := F.ex
  exact pe_lamP gl mg keep lk hcd binds S at0 vis (gives cdv) TB own room L np nodef bind body args star plain d0 d1 d2

/-! ### a law called from the caller itself: nothing is shown around it -/
/-- at the law's call: its tables are empty, the script is frozen (or known by K) -/
def lawH (K : PySem.W.Frag) (cs : List (Addr × Addr)) (a : Addr) (o : Obj) (ns : List Int) : Hp := fun b => if b ∈ cs.map (·.2) then some (.tbl #[]) else if b = a ∧ K.lookup a = none then some (.frz o (.lst (ns.map V.int))) else none
theorem lawH_some {K : PySem.W.Frag} {cs : List (Addr × Addr)} {a b : Addr} {o : Obj} {ns : List Int} {u : HO} (h : lawH K cs a o ns b = some u) : (b ∈ cs.map (·.2) ∧ u = .tbl #[]) ∨ (b = a ∧ K.lookup a = none ∧ u = .frz o (.lst (ns.map V.int))) := by
  unfold lawH at h
  split at h
  · rename_i m
    exact .inl ⟨m, (Option.some.inj h).symm⟩
  · split at h
    · rename_i m
      exact .inr ⟨m.1, m.2, (Option.some.inj h).symm⟩
    · cases h
theorem call_law {P : Program} {w : World} {K : PySem.W.Frag} {mg mb : Str → Option Value} {fa a : Addr} {cs : List (Addr × Addr)} {s : Shared} {vs : List Value} {ns : List Int} (kin : K.In s.heap) (gl : s.heap.Ns mainGlobals mg) (bi : s.heap.Ns builtinsNs mb)
    (boot : ∀ x : Str, x ≠ "__name__" → mb x = bootBuiltins x) (lim : s.heap.NoLimit) (gens : s.gens = #[]) (tabs : ∀ p ∈ cs, s.heap.get? p.2 = some { cls := .none, data := .fields #[] }) (away : ∀ p ∈ cs, K.lookup p.2 = none) (code : ∀ p ∈ cs, PySem.W.CodeHd s.heap p.1 p.2)
    (bm : ∃ (bm : Addr) (ob : Obj), mg "__builtins__" = some (.ref bm) ∧ bm ≠ builtinsNs ∧ s.heap.get? bm = some ob ∧ ob.cls = .type "module" ∧ ob.dict = some builtinsNs ∧ ob.data = .plain) (scr : s.heap.get? a = some { cls := .type "list", data := .seq vs.toArray }) (iar : IntsAre vs ns) (len : ns.length ≤ sizeLine)
    (run : ∀ (base : Heap) (H : Hp), (∀ p ∈ cs, LamX.TabB base mg p.1 p.2) → Env0 P w K mg base callerA [] s H → (∀ p ∈ cs, H p.2 = some (.tbl #[])) → SqL K H a (ns.map V.int) →
      codeAny (model P w) callerA (.call (.ref fa) ⟨[.ref a], []⟩) (CR CX0 [] P w H s (fun v _ => v = .bl true) E0) s) :
    codeAny (model P w) callerA (.call (.ref fa) ⟨[.ref a], []⟩) (fun r s' => r = .ok (.ret (.bool true)) ∧ OldK s.heap s'.heap ∧ s'.os = s.os ∧ AllBare s'.gens) s := by
  have rel := vals_ints iar
  have tabAt : ∀ {b : Addr}, b ∈ cs.map (·.2) → s.heap.get? b = some { cls := .none, data := .fields #[] } := fun {b} m => by
    obtain ⟨p, hp, rfl⟩ := List.mem_map.mp m
    exact tabs p hp
  have notTab : a ∉ cs.map (·.2) := fun m => by
    have z := (tabAt m).symm.trans scr
    have z2 := congrArg Obj.data (Option.some.inj z)
    cases z2
  generalize hH : lawH K cs a { cls := .type "list", data := .seq vs.toArray } ns = H
  have some_ : ∀ {b : Addr} {u : HO}, H b = some u → (b ∈ cs.map (·.2) ∧ u = .tbl #[]) ∨ (b = a ∧ K.lookup a = none ∧ u = .frz { cls := .type "list", data := .seq vs.toArray } (.lst (ns.map V.int))) := fun {b u} e => by
    rw [← hH] at e
    exact lawH_some e
  have tabH : ∀ p ∈ cs, H p.2 = some (.tbl #[]) := fun p hp => by
    rw [← hH]
    exact if_pos (List.mem_map.mpr ⟨p, hp, rfl⟩)
  -- what is neither a list nor an empty table isn't tracked
  have loose : ∀ {b : Addr} {ob : Obj}, s.heap.get? b = some ob → (∀ xs n, ob.data ≠ .seq xs n) → ob.data ≠ .fields #[] → H b = none := fun {b ob} e n1 n2 => by
    cases q : H b with
    | none => rfl
    | some u =>
      rcases some_ q with ⟨m, _⟩ | ⟨rfl, _⟩
      · rw [tabAt m] at e
        cases e
        exact absurd rfl n2
      · rw [scr] at e
        cases e
        exact absurd rfl (n1 _ _)
  have nsOn : ∀ {b : Addr} {m : Str → Option Value}, s.heap.Ns b m → (hidT s.heap H).Ns b m := fun {b m} z => by
    obtain ⟨o, es, ep, e, d, r⟩ := z
    refine ⟨o, es, ep, hidT_get e (loose e (fun _ _ q => ?_) fun q => ?_), d, r⟩
    · rw [d] at q
      cases q
    · rw [d] at q
      cases q
  have kin' : K.In (hidT s.heap H) := fun b o e => hidT_get (kin b o e) (by
    cases q : H b with
    | none => rfl
    | some u =>
      rcases some_ q with ⟨m, _⟩ | ⟨rfl, n, _⟩
      · obtain ⟨p, hp, rfl⟩ := List.mem_map.mp m
        rw [away p hp] at e
        cases e
      · rw [n] at e
        cases e)
  have hok : HOk P w H s.heap := fun b u e => by
    rcases some_ e with ⟨m, rfl⟩ | ⟨rfl, _, rfl⟩
    · exact tabAt m
    · exact ⟨scr, by rw [List.length_map]; exact len, vs, _, rel, scr⟩
  have sq : SqL K H a (ns.map V.int) := by
    cases q : K.lookup a with
    | none =>
      refine .inl (.inr ⟨{ cls := .type "list", data := .seq vs.toArray }, ?_⟩)
      rw [← hH]
      exact (if_neg notTab).trans (if_pos ⟨rfl, q⟩)
    | some o =>
      have e := kin a o q
      rw [scr] at e
      cases e
      exact .inr ⟨_, vs.toArray, _, q, rfl, rfl, rfl, by rw [List.size_toArray, iar.length]; exact len, rel⟩
  have tb : ∀ p ∈ cs, LamX.TabB (hidT s.heap H) mg p.1 p.2 := fun p hp => by
    have pt := tabs p hp
    refine ⟨?_, ?_, fun e => ?_⟩
    · obtain ⟨o, us, fl, tf, fg, tg, iF, tx, tt, g1, g2, g3, g4, g5⟩ := code p hp
      refine ⟨o, us, fl, tf, fg, tg, iF, tx, tt, hidT_get g1 (loose g1 (fun _ _ q => ?_) fun q => ?_), g2, g3, g4, g5⟩
      · rw [g3] at q
        cases q
      · rw [g3] at q
        cases q
        simp at g4
    · obtain ⟨b, ob, m1, m2, m3, m4, m5, m6⟩ := bm
      refine ⟨b, ob, m1, m2, fun e => ?_, fun e => ?_, hidT_get m3 (loose m3 (fun _ _ q => ?_) fun q => ?_), m4, m5, m6⟩
      · obtain ⟨o, es, ep, e1, d1, _⟩ := gl
        rw [e, e1] at m3
        cases m3
        rw [d1] at m6
        cases m6
      · rw [e, pt] at m3
        cases m3
        cases m6
      · rw [m6] at q
        cases q
      · rw [m6] at q
        cases q
    · obtain ⟨o, es, ep, e1, d1, _⟩ := gl
      rw [e, pt] at e1
      cases e1
      cases d1
  have limOn : (hidT s.heap H).NoLimit := by
    obtain ⟨mc, l1, l2⟩ := lim
    exact ⟨mc, nsOn l1, l2⟩
  have env : Env0 P w K mg (hidT s.heap H) callerA [] s H := ⟨rfl, ⟨kin', nsOn gl, ⟨mb, nsOn bi, boot⟩, limOn⟩, fun b o e => of_hidT e, Nat.le_of_eq (hidT_size _ _), trivial, fun b hb => absurd (show b ∈ ([] : List Addr) from hb) List.not_mem_nil, hok, .of_eq gens⟩
  refine codeAny_mono (run _ H tb env tabH sq) fun r s' z => ?_
  cases r with
  | error e => exact (show False from z).elim
  | ok fl =>
    cases fl with
    | next => exact (show False from z).elim
    | brk => exact (show False from z).elim
    | cont => exact (show False from z).elim
    | ret u =>
      obtain ⟨v, H', os, bare, un, hok', rv, ev⟩ := z
      have ev : v = .bl true := ev
      subst ev
      obtain rfl : u = Value.bool true := rv
      have grown : ∀ p ∈ cs, ∃ more : Array Value, s'.heap.get? p.2 = some { cls := .none, data := .fields more } := fun p hp => by
        obtain ⟨more, q⟩ := un.tbls p.2 #[] (tabH p hp)
        exact ⟨_, hok' p.2 _ q⟩
      have stays : ∀ b o, b ∉ cs.map (·.2) → s.heap.get? b = some o → s'.heap.get? b = some o := fun b o nb e => by
        cases q : H b with
        | none => exact un.keep b o e q (fun z => absurd (show b ∈ ([] : List Addr) from z) List.not_mem_nil) List.not_mem_nil
        | some u =>
          rcases some_ q with ⟨m, _⟩ | ⟨_, _, rfl⟩
          · exact absurd m nb
          · have e1 := (hok b _ q).1
            have e2 := (hok' b _ (un.frzs b _ _ q)).1
            rw [e] at e1
            rw [Option.some.inj e1]
            exact e2
      refine ⟨rfl, ⟨fun b o e => ?_, fun b o e => ?_⟩, os, bare⟩
      · by_cases m : b ∈ cs.map (·.2)
        · obtain ⟨p, hp, rfl⟩ := List.mem_map.mp m
          obtain ⟨more, hm⟩ := grown p hp
          rw [tabs p hp] at e
          cases e
          exact .inr (.inl ⟨((code p hp).tab (tabs p hp)).isCodeTable, rfl, #[], more, rfl, by rw [Array.empty_append]; exact hm⟩)
        · exact .inl (stays b o m e)
      · by_cases m : b ∈ cs.map (·.2)
        · obtain ⟨p, hp, rfl⟩ := List.mem_map.mp m
          obtain ⟨more, hm⟩ := grown p hp
          exact ⟨_, hm⟩
        · exact ⟨o, stays b o m e⟩
theorem walk_law0 {l : PySem.W.OpenLaw} {most : Nat} {prog : Program} {lo : List Str} {XP : (Str → Option Value) → Heap → Prop} {YP : World → Heap → Prop} {df : DefRec} {K : Params → PySem.W.Frag} (names : List Str)
    (h1 : l.most = some most) (h2 : most ≤ sizeLine) (h3 : df.params.defaults = []) (recs : (names.all fun nm => (recsOf prog).any fun r => r.name == nm) = true) (kin : ∀ (w : World) (h : Heap), YP w h → (K w.params).In h)
    (at_ : ∀ (w : World) (mg : Str → Option Value) (fa : Addr) (h : Heap), (K w.params).In h → h.Ns mainGlobals mg → mg df.name = some (.ref fa) → (∀ nm ∈ names, TabAt mg h nm) →
      ∃ cs : List (Addr × Addr), (∀ p ∈ cs, h.get? p.2 = some { cls := .none, data := .fields #[] }) ∧ (∀ p ∈ cs, (K w.params).lookup p.2 = none) ∧ (∀ p ∈ cs, PySem.W.CodeHd h p.1 p.2) ∧
        ∀ (s : Shared) (H : Hp) (base : Heap) (a : Addr) (ns : List Int), ns.length ≤ most → (∀ z ∈ ns, Builtin.Int.intBits z ≤ 1048576) → (∀ p ∈ cs, LamX.TabB base mg p.1 p.2) → Env0 l.prog w (K w.params) mg base callerA [] s H → (∀ p ∈ cs, H p.2 = some (.tbl #[])) → SqL (K w.params) H a (ns.map V.int) →
          codeAny (model l.prog w) callerA (.call (.ref fa) ⟨[.ref a], []⟩) (CR CX0 [] l.prog w H s (fun v _ => v = .bl true) E0) s) :
    PySem.W.WalkO prog lo XP YP l.row.toRowW df [] (fun f vs => PySem.call f vs) := by
  refine Att.attach_callB h1 h3 fun w s0 s mg mb fa o pm cd doc a vs ns Gr Y _ _ _ name ob iar len bits gens => ?_
  have tabs : ∀ nm ∈ names, TabAt mg s.heap nm := fun nm hm => by
    obtain ⟨r, hr, er⟩ := List.any_eq_true.mp (List.all_eq_true.mp recs nm hm)
    obtain ⟨x1, x2, x3, x4, x5, y1, y2, y3, y4, _, y6⟩ := Gr.T.tab r hr
    rw [beq_iff_eq.mp er] at y1
    exact ⟨x1, x2, x3, x4, x5, y1, y2, y3, y4, y6⟩
  obtain ⟨cs, t1, t2, t3, go⟩ := at_ w mg fa _ (kin w _ Y) Gr.T.g name tabs
  exact call_law (kin w _ Y) Gr.T.g Gr.T.b Gr.T.builtins Gr.T.nolimit gens t1 t2 t3 Gr.T.bmain ob iar (Nat.le_trans len h2) fun base H tb e0 th sq => go s H base a ns len bits tb e0 th sq

end My
namespace My
open PySem PySem.Spec PyProof.Rows L2
/-! ### repr of what is nested; a list of truths counted; raise X() -/
def rRepr (K : PySem.W.Frag) : List V → Hp → VK → Prop := fun xs H Q => ∃ (v : V) (d : PyData), xs = [v] ∧ Dp K H v d ∧ isDisplay d = true ∧ d.showable = true ∧ d.hasDict = false ∧ d.depth ≤ 50 ∧ d.shown.length ≤ sizeLine ∧ Q (.str d.shown) H
theorem call_repr {X : Cx} (none_ : X.A.guards = some []) (room : X.A.units + 64 < cLine) : CallR X (.builtin "repr") (rRepr X.K) := by
  intro pins s σ H xs us Q I r h
  obtain ⟨v, d, rfl, dp, disp, shw, nod, dep, len, q⟩ := h
  obtain ⟨u, rfl, ru⟩ := vals1 r
  obtain ⟨as, rd⟩ := Dp.reads I d v u dp ru
  obtain ⟨a, rfl⟩ := isRef_of_reads rd disp
  exact repr_of_reads' rd shw (PyData.noDict_hsm nod) none_ (by omega) (fun _ _ e => e) (fun h' t tk hk => ⟨.str d.shown, H, I.kept (t' := tk) hk, ⟨t, rfl⟩, q⟩) len
/-- l.count(True), l a list of truths -/
def rCntB (K : PySem.W.Frag) : V → List V → Hp → VK → Prop := fun x xs H Q => ∃ (p : Addr) (bs : List Bool) (b : Bool), x = .ref p ∧ xs = [.bl b] ∧ SqL K H p (bs.map V.bl) ∧ Q (.int (bs.count b : Nat)) H
def isB (b : Bool) : Value → Bool
  | .bool c => c == b
  | _ => false
theorem bools_of {b : Bool} : ∀ {bs : List Bool} {us : List Value}, Vals (bs.map V.bl) us → (∀ y ∈ us, ∃ c, y = .bool c) ∧ us.countP (isB b) = bs.count b
  | [], _, r => by
    cases r
    exact ⟨fun y h => (nomatch h), rfl⟩
  | c :: bs, _, r => by
    rw [List.map_cons] at r
    cases r with
    | @cons a u as us ru rr =>
      obtain ⟨h1, h2⟩ := bools_of (b := b) rr
      obtain rfl : u = Value.bool c := ru
      refine ⟨fun y hy => ?_, ?_⟩
      · rcases List.mem_cons.mp hy with e | e
        · exact ⟨c, e⟩
        · exact h1 y e
      · rw [List.countP_cons, List.count_cons, h2]
        rfl
theorem mt_countB {X : Cx} : MtR X "list.count" (rCntB X.K) := by
  intro pins s σ H x xs v us Q I rx rxs h
  obtain ⟨p, bs, b, rfl, rfl, sq, q⟩ := h
  obtain rfl : v = Value.ref p := rx
  obtain ⟨u, rfl, ru⟩ := rxs.one
  obtain rfl : u = Value.bool b := ru
  obtain ⟨its, rel, ⟨ob, n, hob, cls, dct, dat⟩, _⟩ := I.list sq
  obtain ⟨oc, od, odt, osl⟩ := ob
  simp only at cls dat
  subst cls dat
  obtain ⟨all, cnt⟩ := bools_of (b := b) rel
  refine call_meets PySem.F.slot_list_count ⟨_, hob, rfl⟩ PySem.F.entry_list_count (PySem.F.args_list_count_2 _ _) (SeqAt.list_countAt p its.toArray n od osl (.bool b) (isB b)) ⟨hob, fun y hy => ?_, ?_⟩
  · obtain ⟨c, rfl⟩ := all y (by simpa using hy)
    exact SeqAt.EqAt.bool_bool c b
  · refine ⟨.int (bs.count b : Nat), H, I.tok _, ⟨s.toks, ?_⟩, q⟩
    show Value.int ((its.toArray.toList.countP (isB b) : Nat) : Int) s.toks = Value.int ((bs.count b : Nat) : Int) s.toks
    rw [← cnt]
/-- raise X() -/
theorem pmk_own0 {X : Cx} {C : Addr} {x : Str} {p pos : Pos} (ex : PySem.W.excIn X.K C veB "ValueError.__new__" = true) (gC : X.mg x = some (.ref C)) (kC : PySem.W.keepIn X.K (.ref C) = true) (rs : Raises X (.ref C)) (gl : Gl X x) (dbg : (x == ("__debug__" : Str)) = false := by decide) :
    PMk X (.Call (.Name x p) [] [] pos) (fun _ H Q => Q (.ref C) none H) := by
  intro pins st σ H Q I q
  refine wpAny_Call_Name_kw (ld_glob I gl gC ?_ dbg)
  refine PySem.W.callWith_K0 I.kIn kC ?_
  obtain ⟨bm, N, nm, qn, bs, hdct, sn, sub, ab, col, dd, k0, k1, k2, k3, k5, mN, hC, hN, hni, OT⟩ := exc_obj I.kIn ex
  exact wpAny_call_exc_subT PySem.F.excBase_ValueError OT hC hN hni (fun h' a made => mk_of I made rs q (I.hok.gone made.new)) (Nat.zero_le _)
/-- isinstance of a kept exception -/
def rIsC (K : PySem.W.Frag) : List V → Hp → VK → Prop := fun xs H Q => ∃ (a C : Addr) (c : V) (cv : Value) (b : Bool), xs = [.ref a, c] ∧ H a = some (ExC (.ref C) none a) ∧ XcC K C ∧ ClsV c cv ∧ PySem.W.kitOne K (.ref C) cv = some b ∧ Q (.bl b) H
theorem call_isC {X : Cx} : CallR X (.builtin "isinstance") (rIsC X.K) := by
  intro pins st σ H xs us Q I r h
  obtain ⟨a, C, c, cv, b, rfl, at_, xc, kc, e, q⟩ := h
  obtain ⟨u1, u2, rfl, r1, r2⟩ := vals2 r
  obtain rfl : u1 = Value.ref a := r1
  obtain rfl := kc.eq r2
  obtain ⟨⟨oe, vs, ho, hz, hd⟩, _, _⟩ := I.hok a _ at_
  have inst : PySem.W.InstAt st.heap a oe C none := by
    refine ⟨ho, hz.1, ?_, ?_⟩
    · unfold PySem.W.notCls
      rw [hd]
    · rw [hz.2]
      trivial
  exact PySem.W.kia_one (PySem.W.kitx_exc xc.cl xc.hg xc.hk xc.hs xc.ha xc.hn xc.ht xc.hm) I.kIn inst e (fun z => nomatch z) fun tk => ⟨.bl b, H, I.kept (t' := tk) fun _ _ z => z, rfl, q⟩

/-! ### len(set(t)) of a tuple of whole numbers -/
def tLenSetT (K : PySem.W.Frag) (ta : TE) : TE := fun σ H Q => ta σ H fun x H1 => ∃ (p : Addr) (ns : List Int), x = .ref p ∧ SqT K H1 p (ns.map V.int) ∧ ns.length ≤ 1000 ∧ ∀ out : List Int, out.Nodup → (∀ k, k ∈ out ↔ k ∈ ns) → Q (.int (out.length : Nat)) H1
theorem pe_lenSetT {X : Cx} {a : Expr} {ta : TE} {p p2 q pos : Pos} (hc : X.calm = true) (hg : Gl X "len") (hm : X.mg "len" = none) (hg2 : Gl X "set") (hm2 : X.mg "set" = none) (ha : PE X a ta)
    (na : starEach [a] X.env = (false, eval a X.env) :: starEach [] X.env := by rfl) : PE X (.Call (.Name "len" p) [.Call (.Name "set" p2) [a] [] q] [] pos) (tLenSetT X.K ta) := by
  refine ⟨fun pins s σ H Q I h => ?_⟩
  refine Call_ (ld_blt I hg hm boot_len ?_)
  refine PyProof.Rows.callWith_builtin1 (PyProof.Rows.args_cons ?_ rfl) rfl rfl
  refine Call_ (ld_blt I hg2 hm2 boot_set ?_)
  refine PyProof.Rows.callWith_type1 (PyProof.Rows.args_cons (thn (ha.run pins s σ H _ I h) fun v s1 ⟨x, H1, I1, r1, q1⟩ => PyProof.Rows.args_nil ?_) na) na rfl
  obtain ⟨p0, ns, rfl, hq, hl, q1⟩ := q1
  cases r1
  obtain ⟨its, rv, pt, hz⟩ := I1.tuple hq
  have hi : IntsAre its.toArray.toList ns := ints_of_vals rv
  refine call_set_tupI ns (I1.ok.hd hc) (show s1.heap.IsTuple p0 its.toArray from pt) hi (by unfold scanBound; omega) fun h' tk c R1 hcn k => ?_
  refine PyProof.Rows.args_nil ?_
  obtain ⟨o, es, ep, t, ho, hex, hdt, g, nd, hm2, hb, hf, hn, hr, hl2⟩ := R1
  have I2 : Inv X pins σ H1 { s1 with heap := h', toks := tk } := I1.kept fun b o e => k b o e
  have z := q1 (es.toList.map keyOf) nd fun j => by rw [← hm2 j, decide_eq_true_eq]
  rw [List.length_map, Array.length_toList] at z
  exact call_len_set (s := { s1 with heap := h', toks := tk }) ho hex hdt hf (by rw [hn]; omega) ⟨.int es.size, H1, I2.tok _, ⟨_, rfl⟩, z⟩
/-! ### all of a generator expression, by a walk -/
theorem gturns_it {J : It} {n : Nat} {G : Hp → Prop} {Y : Nat → Hp → V → Hp → Prop} (wk : Walk J n G Y) {g : TG} {te : TE} {σw : L2.St} {vs : List Nat} {Q : Bool → Hp → Prop} {H : Hp} (Pv : Nat → Hp → Prop) (h0 : Pv 0 H) (hG : ∀ i H, i ≤ n → Pv i H → G H)
    (hs : ∀ (i : Nat) (x : V) (H H' : Hp) (N : Hp → Prop), i < n → Pv i H → Y i H x H' → (∀ H3, Pv (i + 1) H3 → N H3) → g x σw H' fun σ2 H2 => wipe σ2 vs = σw ∧ te σ2 H2 fun v H3 => ∃ b, v = .bl b ∧ if b = true then N H3 else Q false H3)
    (hd : ∀ H, Pv n H → Q true H) : ∃ W : Nat → Nat → Hp → Prop, (∃ m, W 0 m H) ∧ gTurns J g te σw vs W Q := by
  refine ⟨fun i m H => m = n - i ∧ i ≤ n ∧ Pv i H, ⟨n, rfl, Nat.zero_le _, h0⟩, fun i m H st => ?_⟩
  obtain ⟨em, le, pv⟩ := st
  have q := hG i H le pv
  rcases Nat.lt_or_eq_of_le le with lt | eq
  · refine .inr ⟨wk.goes i H lt q, fun v H' y => ?_⟩
    exact hs i v H H' _ lt pv (wk.yields i H v H' lt q y) fun H3 p' => ⟨n - (i + 1), by omega, rfl, lt, p'⟩
  · subst eq
    exact .inl ⟨wk.stops H q, hd H pv⟩
theorem walk_zipT {K : PySem.W.Frag} {a b : Addr} {xs ys : List V} {n : Nat} (hn : n = min xs.length ys.length) : Walk (RZ.ItzT K a b) n (fun H => SqT K H a xs ∧ SqT K H b ys) (YPair (fun i => xs[i]?) (fun i => ys[i]?)) := by
  subst hn
  refine ⟨fun i _ hi q => ?_, fun _ q => ⟨xs, ys, q.1, q.2, by omega⟩, fun i H v H' _ q y => ?_⟩
  · have h1 : i < xs.length := by omega
    have h2 : i < ys.length := by omega
    exact ⟨xs, ys, xs[i], ys[i], q.1, q.2, by simp [h1], by simp [h2]⟩
  · obtain ⟨T, x, z, h1, h2, h3, h4, h5⟩ := y
    exact ⟨T, x, z, h1, h2, h3, h4 xs q.1, h5 ys q.2⟩

/-! ### sep.join(reversed(a list of texts)) -/
theorem not_of {b : Bool} (h : (!b) = true) : b = false := by
  cases b
  · rfl
  · cases h
theorem gives_tail {sep : Str} : ∀ {rs : List (Str × Tok)}, JoinOk sep (rs.map (·.1)) = true → Gives (joinTail sep (strValues rs)) (joinMade sep rs)
  | [], ok => gives_joinTail sep [] (not_of ok)
  | [p], ok => gives_joinTail sep [p] (not_of ok)
  | p :: q :: r, ok => gives_joinTail sep (p :: q :: r) (not_of ok)
theorem join_rev {prog : Program} {w : World} {A : Around} {E : Value → Shared → Prop} {s : Shared} {sep : Str} {t : Tok} {Q : Value → Shared → Prop} {it l : Addr} {us : List (Str × Tok)} (hh : A.handled = none) (hit : s.heap.IsRevIter it l (((strValues us).toArray.size : Int) - 1))
    (hl : s.heap.IsList l (strValues us).toArray) (hne : l ≠ it) (hn : (strValues us).toArray.size ≤ sizeLine) (hok : JoinOk sep (us.map (·.1)).reverse = true)
    (hq : ∀ (h' : Heap) (t' : Tok) (k : Nat), (∀ b o, b ≠ it → s.heap.get? b = some o → h'.get? b = some o) → Q (.str (Txt.join sep (us.map (·.1)).reverse) t') { s with heap := h', toks := k }) :
    wpAny (model prog w) A (call (.builtin "str.join") [.str sep t, .ref it]) Q E s := by
  refine wpAny_call (codeAny_call_builtin F.slot_str_join.plain F.entry_str_join (F.slot_str_join.check _ _ _ _ _ _ _ _ (typeIs_str _ _ _) (F.args_str_join_2 _ _) ?_))
  rw [join_tree_other]
  have ty : s.TypeIs (.ref it) "list_reverseiterator" := hit.typeIs
  refine wpAny_bind (wpAny_typeOf ty ?_)
  show wpAny _ A.in1 ((pyIter (.ref it)).tryCatch _ >>= fun i2 => collect i2 >>= fun zs => joinTail sep zs) _ _ s
  refine wpAny_bind (wpAny_tryCatch (wpAny_pyIter_revIter hit ?_))
  refine wpAny_bind (RT.collect_rev (A := A.in1) hh hit hl hne hn fun h' tk acc hk hacc => ?_)
  have eacc : acc.toList = strValues us.reverse := by
    have e1 : strValues us.reverse = (strValues us).reverse := by
      unfold strValues
      rw [List.map_reverse]
    rw [e1]
    refine List.ext_getElem? fun j => ?_
    have sz : acc.size = (strValues us).length := by
      rw [hacc.1, List.size_toArray]
    by_cases hj : j < (strValues us).length
    · rw [List.getElem?_reverse hj]
      have hja : j < acc.size := by omega
      have z := hacc.2 j _ (Array.getElem?_eq_getElem hja)
      rw [List.size_toArray, List.getElem?_toArray] at z
      rw [z, Array.getElem?_toList, Array.getElem?_eq_getElem hja]
    · rw [List.getElem?_eq_none (by rw [Array.length_toList]; omega), List.getElem?_eq_none (by rw [List.length_reverse]; omega)]
  rw [eacc]
  have ok2 : JoinOk sep (us.reverse.map (·.1)) = true := by
    rw [List.map_reverse]
    exact hok
  have g := gives_tail ok2
  refine g prog w A (wants Q E) _ (post_join us.reverse ⟨joinFit_length (not_of ok2), fun t' k => ?_⟩)
  rw [List.map_reverse]
  exact hq h' t' k hk
def tJoinRev (K : PySem.W.Frag) (to te : TE) : TE := fun σ H Q => to σ H fun v H1 => ∃ sep : Str, v = .str sep ∧ te σ H1 fun u H2 => ∃ (a : Addr) (ws : List Str), u = .ref a ∧ SqL K H2 a (ws.map V.str) ∧ JoinOk sep ws.reverse = true ∧ Q (.str (Txt.join sep ws.reverse)) H2
theorem strs_at : ∀ {ws : List Str} {us : List Value}, Vals (ws.map V.str) us → ∃ l : List (Str × Tok), strValues l = us ∧ l.map (·.1) = ws
  | [], _, .nil => ⟨[], rfl, rfl⟩
  | x :: ws, _ :: us, .cons r rs => by
    obtain ⟨t, rfl⟩ := r
    obtain ⟨l, e1, e2⟩ := strs_at rs
    exact ⟨(x, t) :: l, by rw [← e1]; rfl, by rw [← e2]; rfl⟩
theorem pe_joinRev {X : Cx} {o e : Expr} {to te : TE} {apos cpos p2 pos2 : Pos} (hc : X.calm = true) (ho : PE X o to) (hg2 : Gl X "reversed") (hm2 : X.mg "reversed" = none) (he : PE X e te)
    (hbase : attributeBase o "join" X.env (eval o X.env) = eval o X.env := by rfl)
    (hfew : ((backTo cpos (starEach [.Call (.Name "reversed" p2) [e] [] pos2] X.env)).all (fun x => !x.1) && (backToKw cpos (keywordEach [] X.env)).all (fun x => x.1.isSome)
      && decide (([.Call (.Name "reversed" p2) [e] [] pos2] : List Expr).length + ([] : List Keyword).length + (if ([] : List Keyword).isEmpty then 0 else 1) < 30)) = true := by rfl)
    (hline : (apos.endLine == cpos.line) = true := by rfl) (hs1 : starEach [e] X.env = (false, eval e X.env) :: starEach [] X.env := by rfl)
    (hs2 : starEach [.Call (.Name "reversed" p2) [e] [] pos2] X.env = (false, eval (.Call (.Name "reversed" p2) [e] [] pos2) X.env) :: starEach [] X.env := by rfl) (hpl : (backTo cpos (starEach [] X.env)).any (·.1) = false := by rfl) :
    PE X (.Call (.Attribute o "join" apos) [.Call (.Name "reversed" p2) [e] [] pos2] [] cpos) (tJoinRev X.K to te) := by
  constructor
  intro pins s σ H Q I h
  refine wpAny_Call_method_late hbase hfew hline rfl (thn (ho.run pins s σ H _ I h) fun v s1 z => ?_)
  obtain ⟨x', H1, I1, r1, sep, rfl, q1⟩ := z
  obtain ⟨tk, rfl⟩ := (show ∃ t, v = Value.str sep t from r1)
  refine ⟨"str", _, PySem.F.plainAttrs_str, PySem.F.slot_str_join, PySem.F.type_str_join, typeIs_str _ _ _, (fun _ z => nomatch z), ?_⟩
  rw [hs2]
  refine Calls.callWith_builtin (by show (false || (backTo cpos (starEach [] X.env)).any (·.1)) = false; rw [hpl]; rfl) (Calls.evalArgs_plain ?_)
  show wpAny _ _ (spliced ((false, eval (.Call (.Name "reversed" p2) [e] [] pos2) X.env) :: backTo cpos (starEach [] X.env))) _ _ s1
  refine Calls.spliced_cons (Call_ (ld_blt I1 hg2 hm2 PyProof.Rows.boot_reversed (PyProof.Rows.callWith_type1 (args_cons (thn (he.run pins s1 σ H1 _ I1 q1) fun u s2 z => args_nil ?_) hs1) hs1 rfl)))
  obtain ⟨y, H2, I2, r2, a, ws, rfl, sq, jok, q⟩ := z
  obtain rfl : u = Value.ref a := r2
  obtain ⟨its, rv, p', hz⟩ := I2.list sq
  obtain ⟨us, e1, e2⟩ := strs_at rv
  refine call_reversed_list p'.isList (Calls.spliced_nil ?_)
  obtain ⟨f0, f1, f2, f3, f4, f5⟩ := I2.fpOk (H' := H2) (b := s2.heap.objs.size) (Nat.le_refl _) (I2.hok.fresh (Nat.le_refl _))
  have hl := p'.isList
  obtain ⟨ol, hol, _⟩ := id hl
  have hne : a ≠ s2.heap.objs.size := Nat.ne_of_lt (Heap.lt_size hol)
  have hn : its.toArray.size ≤ sizeLine := by
    rw [List.size_toArray, ← rv.length]
    exact hz
  subst e1 e2
  have I3 : Inv X pins σ H2 { s2 with heap := s2.heap.push (revObj a (((strValues us).toArray.size : Int) - 1)) } := I2.kept (t' := s2.toks) fun b o e => Heap.get?_push_of_some _ e
  refine join_rev (s := { s2 with heap := s2.heap.push (revObj a (((strValues us).toArray.size : Int) - 1)) }) (I2.ok.hd hc) ⟨_, Heap.get?_push_size _ rfl, rfl, rfl⟩ (hl.push _) hne hn jok fun h' t' k hk => ?_
  have I4 : Inv X pins σ H2 { s2 with heap := h', toks := k } := I3.turned (t' := k) (fun b o hb e => hk b o hb e) f0 f1 f3 f4 f5
  exact ⟨.str _, H2, I4, ⟨t', rfl⟩, q⟩

/-! ### str of an int or of a text -/
theorem call_strA {X : Cx} : CallR X (.type "str") (fun xs H Q => (∃ i : Int, xs = [.int i] ∧ i.natAbs.log2 < 1920 ∧ Q (.str (Str.ofString (toString i))) H) ∨ ∃ a : Str, xs = [.str a] ∧ Q (.str a) H) := by
  intro pins s σ H xs us Q I r h
  rcases h with ⟨i, rfl, hl, q⟩ | ⟨a, rfl, q⟩
  · exact call_str_int pins s σ H _ us Q I r ⟨i, rfl, hl, q⟩
  · exact SkE.call_str_str pins s σ H _ us Q I r ⟨a, rfl, q⟩

end My
namespace My
open PySem PySem.Spec PyProof.Rows L2
/-! ### x, *ys = a tuple -/
theorem items_star {prog : Program} {w : World} {A : Around} {E : Value → Shared → Prop} {s : Shared} {l : Addr} {items : Array Value} {x : Value} {xs : List Value} {Q : List Value → Shared → Prop} (hl : s.heap.IsTuple l items) (hh : A.handled = none) (hx : items.toList = x :: xs) (hz : items.size ≤ 16384)
    (h : ∀ h' tk, Heap.ExtBut s.heap.objs.size s.heap h' → Q [x, .ref h'.objs.size] { s with heap := h'.push { cls := .type "list", data := .seq xs.toArray }, toks := tk }) : wpAny (model prog w) A (unpackItems (.ref l) 2 (some 1)) Q E s := by
  have hs : items.size = xs.length + 1 := by
    rw [← Array.length_toList, hx]
    rfl
  have hlt : l ≠ s.heap.objs.size := by obtain ⟨o, ho, _⟩ := hl; exact Nat.ne_of_lt (Heap.lt_size ho)
  unfold unpackItems
  refine wpAny_bind ?_
  unfold notIterableAtAll
  refine wpAny_bind (wpAny_specialOf hl.typeIs PySem.F.slot_tuple_iter.lookup ?_)
  refine wpAny_pure ?_
  simp only [Bool.false_eq_true, if_false]
  refine wpAny_bind (wpAny_holding (iter_tuple hl ?_))
  refine wpAny_bind (wpAny_holding (draw_tuple hlt 1 0 _ _ ⟨_, Heap.get?_push_size _ rfl, rfl, rfl⟩ (hl.push _) (by omega) fun h₁ hit₁ hs₁ => ?_))
  have hl₁ : h₁.IsTuple l items := (hl.push _).extBut hs₁.extBut hlt
  rw [Nat.zero_add] at hit₁
  have hit₁' := hit₁
  obtain ⟨oi, hoi, _⟩ := hit₁'
  have hl₁' := hl₁
  obtain ⟨ol, hol, _⟩ := hl₁'
  rw [List.drop_zero]
  have e1 : items.toList.take 1 = [x] := by rw [hx]; rfl
  rw [e1]
  rw [if_neg (show ¬ (([x] : List Value).length < 1) from Nat.lt_irrefl 1)]
  refine wpAny_bind (wpAny_holding (PySem.W.kun_collect (s := { s with heap := h₁ }) (T := "tuple_iterator") (.inr (.inr (.inr rfl))) (Walks.tuple (A := A.in1) hh s.heap.objs.size l hlt items) (fun j u st => st.1.typeIs) (k := 1) (by omega) ⟨hit₁, hl₁⟩ (Heap.lt_size hoi) (Heap.lt_size hol) (fun h₂ tk hk => ?_) (by rw [sizeLine_eq]; omega)))
  have e2 : items.toList.drop 1 = xs := by rw [hx]; rfl
  rw [e2]
  show wpAny _ _ (if xs.length < 2 - 1 - 1 then _ else _) _ _ _
  rw [if_neg (by omega)]
  have he : Heap.ExtBut s.heap.objs.size s.heap h₂ := fun b o hb e => hk b o hb (hs₁.extBut b o hb (Heap.get?_push_of_some _ e))
  refine wpAny_bind (wpAny_newList ?_ ?_)
  · refine wpAny_pure ?_
    show Q ([x] ++ [Value.ref h₂.objs.size] ++ List.drop (xs.length - (2 - 1 - 1)) xs) _
    have e3 : List.take (xs.length - (2 - 1 - 1)) xs = xs := List.take_of_length_le (by omega)
    have e4 : List.drop (xs.length - (2 - 1 - 1)) xs = [] := List.drop_of_length_le (by omega)
    rw [e4]
    have := h h₂ tk he
    simp only [e3]
    exact this
  · rw [List.length_take, sizeLine_eq]
    omega
section
variable {X : Cx} {pos : Pos}
theorem pgs_star {e : Expr} {es : List Expr} {sp : Pos} {t : TG} {u : TGs} (h1 : PG X e t) (h2 : PGs X es u)
    (hs : (assignEach (.Starred e sp :: es) X.env).map (·.2) = assign e X.env :: (assignEach es X.env).map (·.2) := by rfl) : PGs X (.Starred e sp :: es) (gCons t u) := by
  refine ⟨fun pins s σ H vs us Q I r h => ?_⟩
  obtain ⟨v, vr, e1, h⟩ := h
  subst e1
  cases r with
  | cons r rr =>
    rw [hs]
    refine assignInOrder_cons (thn (h1.run pins s σ H _ _ _ I r h) fun _ s1 ⟨σ1, H1, I1, q1⟩ => ?_)
    exact h2.run pins s1 σ1 H1 _ _ Q I1 rr q1
def gStar (K : PySem.W.Frag) (t : TGs) : TG := fun v σ H Q => ∃ a x xs, v = .ref a ∧ SqT K H a (x :: xs) ∧ xs.length ≤ 1000 ∧ ∀ l, H l = none → t [x, .ref l] σ (upd H l (.lst xs)) Q
theorem pg_star {es : List Expr} {k : Nat} {t : TGs} (hc : X.calm = true) (h : PGs X es t)
    (hn : (assignEach es X.env).length = 2 := by rfl) (hst : (assignEach es X.env).findIdx? (·.1) = some 1 := by rfl) : PG X (.Tuple es k pos) (gStar X.K t) := by
  refine ⟨fun pins s σ H v u Q I r hw => ?_⟩
  obtain ⟨a, x, xs, e1, hq, hl, hw⟩ := hw
  subst e1
  cases r
  obtain ⟨its, rv, ht, hz⟩ := I.tuple hq
  cases rv with
  | cons r1 rr =>
    rename_i u1 us
    have hus : xs.length = us.length := rr.length
    rw [PyProof.Rows.assign_Tuple]
    refine wpAny_bind (wpAny_standAt ?_)
    unfold unpack
    rw [hn, hst]
    refine wpAny_bind (wpAny_holding (items_star (x := u1) (xs := us) ht (I.ok.hd hc) (by simp) (by simp; omega) fun h' tk hx => ?_))
    have I1 : Inv X pins σ H { s with heap := h', toks := tk } := I.kept (t' := tk) fun b o e => hx b o (Nat.ne_of_lt (Heap.lt_size e)) e
    have I2 := I1.laid (t' := tk) (o := .lst xs) (h' := h'.push { cls := .type "list", data := .seq us.toArray }) (fun b ob q => Heap.get?_push_of_some _ q) (Nat.le_refl _) ⟨Nat.le_trans hl (by decide), us, 0, rr, Heap.get?_push_size _ rfl⟩
    exact h.run pins _ σ _ _ _ Q I2 (.cons r1 (.cons (show L2.RelV (.ref h'.objs.size) (.ref h'.objs.size) from rfl) .nil)) (hw _ (I1.hok.fresh (Nat.le_refl _)))
/-- a op1 b op2 c op3 d -/
def tChain3 (r r' r'' : R2) (ta tb tc td : TE) : TE := fun σ H Q => ta σ H fun x H1 => tb σ H1 fun y H2 => r x y H2 fun z H3 => ∃ k, z = .bl k ∧
  (if k = true then tc σ H3 fun w' H4 => r' y w' H4 fun z2 H5 => ∃ k2, z2 = .bl k2 ∧ (if k2 = true then td σ H5 fun u H6 => r'' w' u H6 Q else Q (.bl false) H5) else Q (.bl false) H3)
theorem pe_chain3 {a b c d : Expr} {ta tb tc td : TE} {op op' op'' : CmpOp} {r r' r'' : R2} (ho : OpR X (compareOp op) r) (ho' : OpR X (compareOp op') r') (ho'' : OpR X (compareOp op'') r'') (ha : PE X a ta) (hb : PE X b tb) (hc : PE X c tc) (hd : PE X d td)
    (hm : lastMarks [op, op', op''] [b, c, d] = false := by with_unfolding_all rfl) : PE X (.Compare a [op, op', op''] [b, c, d] pos) (tChain3 r r' r'' ta tb tc td) := by
  refine ⟨fun pins s σ H Q I h => ?_⟩
  refine Compare_chain (thn (ha.run pins s σ H _ I h) fun v s1 ⟨x, H1, I1, r1, q1⟩ => chain_link (thn (hb.run pins s1 σ H1 _ I1 q1) fun u s2 ⟨y, H2, I2, r2, q2⟩ =>
    thn (ho pins s2 σ H2 x y v u _ I2 r1 r2 q2) fun d s3 ⟨z, H3, I3, r3, k, e, q3⟩ => ?_)) hm
  subst e
  cases r3
  refine wpAny_truthy_bool ?_
  cases k with
  | false => exact ite_ff ⟨.bl false, H3, I3, rfl, q3⟩
  | true =>
    refine ite_tt (chain_link (thn (hc.run pins s3 σ H3 _ I3 q3) fun w' s4 ⟨z', H4, I4, r4, q4⟩ => thn (ho' pins s4 σ H4 y z' u w' _ I4 r2 r4 q4) fun d' s5 ⟨z5, H5, I5, r5, k5, e5, q5⟩ => ?_))
    subst e5
    cases r5
    refine wpAny_truthy_bool ?_
    cases k5 with
    | false => exact ite_ff ⟨.bl false, H5, I5, rfl, q5⟩
    | true => exact ite_tt (chain_last (thn (hd.run pins s5 σ H5 _ I5 q5) fun u6 s6 ⟨z6, H6, I6, r6, q6⟩ => ho'' pins s6 σ H6 z' z6 w' u6 Q I6 r4 r6 q6))
end
theorem op_ltTK {X : Cx} {K : PySem.W.Frag} (hK : X.K = K) (hu : X.A.units < cLine) : OpR X (compareOp .Lt) (rLtT K) := by
  subst hK
  exact op_ltT hu

end My
namespace My
open PySem PySem.Spec PyProof.Rows L2
/-! ### {k: v for .. in ..}, the keys tuples -/
section
variable {X : Cx}
theorem setT {pins : List (Addr × Obj)} {σ : L2.St} {M : Hp} {z : Shared} {F : Value → Shared → Prop} {Z b : Addr} {kvs : List (List Key × V)} {k : List Key} {v : V} {r : Value} {Q : Unit → Shared → Prop} (hu : X.A.units < cLine) (J : Inv X pins σ M z) (hZ : M Z = some (.dT kvs)) (hb : M b = some (.tup (k.map kV))) (few : kvs.length < sizeLine) (rv : RelV v r)
    (q : ∀ z', Inv X pins σ (upd M Z (.dT (putK kvs k v))) z' → Q () z') : wpAny (model X.prog X.w) X.A (dictSet Z (.ref b) r) Q F z := by
  obtain ⟨z0, nm, xs, rel, dd⟩ := dt_of J.hok hZ
  have zx : xs.length ≤ sizeLine := Paired.length rel ▸ z0
  have zp : (putK kvs k v).length ≤ sizeLine := Nat.le_trans (length_putK kvs k v) few
  refine wpAny_dictSet_heap (knd := tupleKind (mixKind X.prog X.w)) (hsz := zx) hu (key_of J.hok hb) dd fun h2 dd2 sb => q _ ?_
  obtain ⟨o, es, ep, g1, g2, g3, g4, _, g6⟩ := dd2
  refine d_write J (hZ ▸ True.intro) sb ⟨o, g1⟩ ⟨zp, nm, _, (rel.put k hb rv).keeps fun c ys ec => ?_, o, es, ep, g1, g2, g3, g4, g6⟩
  exact (upd_ne (ne_of ec hZ (fun y => nomatch y))).trans ec
def tDcT (wi : TI) (g : TG) (tt : TT) (tk tv : TE) (vs : List Nat) : TE := fun σ H Q => wi σ H fun J H1 => ∀ D, H1 D = none → ∃ W : Nat → Nat → Hp → Prop, (∃ m, W 0 m (upd H1 D (.dT []))) ∧ ∀ i m H, W i m H →
  (J.stop i H ∧ Q (.ref D) H) ∨ (J.go i H ∧ ∃ Nx : Hp → Prop, (∀ H', Nx H' → ∃ m', m' < m ∧ W (i + 1) m' H') ∧ ∀ x H', J.yld i H x H' → g x (wipe σ vs) H' fun σ2 H2 => wipe σ2 vs = wipe σ vs ∧ tt σ2 H2 fun b H3 =>
    if b = true then tk σ2 H3 fun y H4 => tv σ2 H4 fun z H5 => ∃ kvs k b, y = .ref b ∧ H5 b = some (.tup (k.map kV)) ∧ H5 D = some (.dT kvs) ∧ kvs.length < sizeLine ∧ Nx (upd H5 D (.dT (putK kvs k z))) else Nx H3)
set_option maxHeartbeats 8000000 in
theorem pe_dcT {kx vx tg iter : Expr} {ifs : List Expr} {scope : Scope} {own : List (Str × Nat)} {pos : Pos} {wi : TI} {g : TG} {tt : TT} {tk tv : TE} (calm : X.calm = true) (hu : X.A.units < cLine) (nodup : X.N.Nodup) (src : PI X tg iter wi) (blk : BlkOk X.N X.env.scope scope own)
    (hg : ∀ (z : Shared) (M : Hp) (C : Addr) (cl : List (Str × Addr)) (fp : List Addr), PG (X.blk z M scope (compEnvC scope cl C X.env) fp) tg g) (ht : ∀ (z : Shared) (M : Hp) (C : Addr) (cl : List (Str × Addr)) (fp : List Addr), PTs (X.blk z M scope (compEnvC scope cl C X.env) fp) ifs tt)
    (hk : ∀ (z : Shared) (M : Hp) (C : Addr) (cl : List (Str × Addr)) (fp : List Addr), PE (X.blk z M scope (compEnvC scope cl C X.env) fp) kx tk)
    (hv : ∀ (z : Shared) (M : Hp) (C : Addr) (cl : List (Str × Addr)) (fp : List Addr), PE (X.blk z M scope (compEnvC scope cl C X.env) fp) vx tv) (fs : ∀ x, foldedSetIterable iter X.env x = pure x := by intro _; rfl) :
    PE X (.DictComp kx vx [⟨tg, iter, ifs, 0⟩] scope pos) (tDcT wi g tt tk tv (own.map (·.2))) := by
  refine ⟨fun pins z0 σ M0 Q J0 h => ?_⟩
  rw [arm_eval_DictComp]
  have cells : ∀ y ∈ scope.names, y.2 = .free → ∃ c, X.env.cells.lookup y.1 = some c := fun y hy e => (blk.free y hy e).elim (fun k => J0.ok.has _ (.inl k)) fun k => J0.ok.has _ (.inr k)
  refine wpAny_comprehension_free (use := none) rfl fs (closure_ok cells) blk.kind (fun y hy e => (blk.uniq y hy).trans (congrArg some e)) (thn (src.run pins z0 σ M0 _ J0 h) fun xv z1 hx => thn hx fun itv z2 hit => ?_)
  obtain ⟨it, fp, tn, Jt, M2, rfl, J2, T, st2, f2, q⟩ := hit
  refine wpAny_newObj_type (newEnv_comp ?_)
  generalize eZ : z2.heap.objs.size = Z
  have nZ : M2 Z = none := J2.hok.fresh (Nat.le_of_eq eZ)
  obtain ⟨W, ⟨m0, w0⟩, turn⟩ := q Z nZ
  generalize ez3 : ({ z2 with heap := z2.heap.push { cls := .type "dict", data := .dict #[] } } : Shared) = z3
  have eh3 : z3.heap = z2.heap.push { cls := .type "dict", data := .dict #[] } := ez3 ▸ rfl
  have J3 : Inv X pins σ (upd M2 Z (.dT [])) z3 := ez3 ▸ J2.laid (t' := z2.toks) (fun b o e => Heap.get?_push_of_some _ e) (Nat.le_of_eq eZ) (eZ ▸ dt_empty z2.heap J2.big)
  have below : ∀ b ∈ fp, b < z2.heap.objs.size := fun b hb => let ⟨o, e, _⟩ := T.obj _ _ st2 b hb; Heap.lt_size e
  have f3 : ∀ b ∈ fp, FpOk X pins (upd M2 Z (.dT [])) b ∧ b < z3.heap.objs.size := fun b hb => by
    have lt := below b hb
    exact ⟨⟨(upd_ne (eZ ▸ Nat.ne_of_lt lt)).trans (f2 b hb).1, (f2 b hb).2⟩, eh3 ▸ (Heap.size_push .. ▸ Nat.lt_succ_of_lt lt)⟩
  have st3 : tn 0 z3.heap := T.keep _ _ _ st2 fun b _ o e => eh3 ▸ Heap.get?_push_of_some _ e
  have J4 := block_start J3 blk nodup f3
  have pg := hg z3 (upd M2 Z (.dT [])) z3.heap.objs.size (cellsFrom (z3.heap.objs.size + 1) scope.names (cloFrom X.env.cells scope.names [])) fp
  have pt := ht z3 (upd M2 Z (.dT [])) z3.heap.objs.size (cellsFrom (z3.heap.objs.size + 1) scope.names (cloFrom X.env.cells scope.names [])) fp
  have pk := hk z3 (upd M2 Z (.dT [])) z3.heap.objs.size (cellsFrom (z3.heap.objs.size + 1) scope.names (cloFrom X.env.cells scope.names [])) fp
  have pv' := hv z3 (upd M2 Z (.dT [])) z3.heap.objs.size (cellsFrom (z3.heap.objs.size + 1) scope.names (cloFrom X.env.cells scope.names [])) fp
  show codeAny _ _ (.compStart (.DictComp kx vx [⟨tg, iter, ifs, 0⟩] scope pos) 0 (.ref it) (.ref Z) (compEnvC scope (cellsFrom (z3.heap.objs.size + 1) scope.names (cloFrom X.env.cells scope.names [])) z3.heap.objs.size X.env)) (compPost (model X.prog X.w) X.A X.xe none _ (.ref Z) z3.heap.objs.size) { z3 with heap := pushCells (z3.heap.push { cls := .type "dict", data := .dict #[] }) scope.names }
  have nfp : ∀ b ∈ fp, (upd M2 Z (.dT [])) b = none := fun b hb => (f3 b hb).1.1
  generalize ece : compEnvC scope (cellsFrom (z3.heap.objs.size + 1) scope.names (cloFrom X.env.cells scope.names [])) z3.heap.objs.size X.env = ce at J4 pg pt pk pv' ⊢
  have cl : ce.locals = z3.heap.objs.size := ece ▸ rfl
  generalize eM3 : upd M2 Z (.dT []) = M3 at J3 J4 pg pt pk pv' w0 nfp f3
  generalize ez4 : ({ z3 with heap := pushCells (z3.heap.push { cls := .type "dict", data := .dict #[] }) scope.names } : Shared) = z4 at J4 ⊢
  have st4 : tn 0 z4.heap := T.keep _ _ _ st3 fun b _ o e => ez4 ▸ pushCells_keeps _ _ _ _ (Heap.get?_push_of_some _ e)
  have still : ∀ {τ : L2.St} {M' : Hp} {z' : Shared}, Inv (X.blk z3 M3 scope ce fp) [] τ M' z' → (∀ b ∈ fp, M' b = none) → ∀ b ∈ fp, FpOk (X.blk z3 M3 scope ce fp) [] M' b := fun {τ M' z'} J' nn b hb =>
    ⟨nn b hb, (J'.ok.exf b hb).1, J'.ok.exfs b hb, .inl hb, fun x c e => (J'.ok.exf b hb).2 x c e, fun p hp => absurd (show p ∈ ([] : List (Addr × Obj)) ++ [] from hp) (by simp)⟩
  have loop : codeAny (model X.prog X.w) X.A (.compLoop (.DictComp kx vx [⟨tg, iter, ifs, 0⟩] scope pos) 0 (.ref it) (.ref Z) ce) (compPost (model X.prog X.w) X.A X.xe none (EP X pins σ Q) (.ref Z) z3.heap.objs.size) z4 := by
    refine compLoop_anyD (fun n z' => ∃ i M', Inv (X.blk z3 M3 scope ce fp) [] (wipe σ (own.map (·.2))) M' z' ∧ tn i z'.heap ∧ (∀ b ∈ fp, M' b = none) ∧ W i n M') ?_ m0 ⟨0, M3, J4, st4, nfp, w0⟩
    rintro n z5 ⟨i, M5, J5, st5, n5, w5⟩
    rcases turn i n M5 w5 with ⟨stop, qq⟩ | ⟨go, Nx, hNx, step⟩
    · refine thnF (T.done (X.blk z3 M3 scope ce fp) rfl rfl rfl calm i [] z5 _ M5 (fun _ _ => False) J5 (still J5 n5) st5 stop) fun r z6 ⟨er, J6⟩ => ?_
      subst er
      have J7 : Inv X pins σ M5 z6 := J3.call' (ch := fp) J6.os J6.base J6.hok J6.bare fun b hb => ⟨(f3 b hb).1.2.2.2.1, (f3 b hb).1.2.1, (f3 b hb).1.2.2.2.2.1, (f3 b hb).1.2.2.2.2.2⟩
      have nC : M5 z3.heap.objs.size = none := cl ▸ (show M5 ce.locals = none from J6.free)
      obtain ⟨mm, hn, _⟩ := J6.loc
      have hn : z6.heap.Ns z3.heap.objs.size mm := cl ▸ (show z6.heap.Ns ce.locals mm from hn)
      refine ⟨mm, hn, fun h9 sb => ?_⟩
      obtain ⟨a0, a1, _, a3, a4, a5⟩ := J3.fpOk (Nat.le_refl _) nC
      exact ⟨.ref Z, M5, J7.turned (t' := z6.toks) (fun b o nb e => (sb.2 b nb).trans e) a0 a1 a3 a4 a5, rfl, qq⟩
    · refine thnF (T.item (X.blk z3 M3 scope ce fp) rfl rfl rfl calm i [] z5 _ M5 (fun _ _ => False) J5 (still J5 n5) st5 go) fun r z6 ⟨u, er, h6⟩ => ?_
      subst er
      refine thnF h6 fun _ z7 ⟨x, M7, J7, r7, y7, st7, n7⟩ => ?_
      refine thnF (pg.run _ z7 _ M7 x u _ (J7.pinned (still J7 n7) (T.obj _ _ st7)) r7 (step x M7 y7)) fun _ z8 ⟨τ, M8, J8, hw8, q8⟩ => ?_
      refine thnF (pt.run _ z8 τ M8 _ J8 q8) fun b z9 ⟨M9, J9, q9⟩ => ?_
      have fin : ∀ {z' : Shared} {M' : Hp}, Inv (X.blk z3 M3 scope ce fp) ([] ++ pinsAt fp z7.heap) τ M' z' → Nx M' → ∃ m, m < n ∧ ∃ i M', Inv (X.blk z3 M3 scope ce fp) [] (wipe σ (own.map (·.2))) M' z' ∧ tn i z'.heap ∧ (∀ b ∈ fp, M' b = none) ∧ W i m M' := fun {z' M'} J' nx => by
        obtain ⟨m', lt, w'⟩ := hNx M' nx
        have pin' : ∀ b ∈ fp, ∀ o, z7.heap.get? b = some o → z'.heap.get? b = some o ∧ M' b = none := fun b hb o e =>
          let y := J'.pin (b, o) (List.mem_append_right _ (List.mem_append_right _ (mem_pinsAt hb e)))
          ⟨y.1, y.2.1⟩
        refine ⟨m', lt, i + 1, M', (J'.unpinned (pins := [])).weak (by rw [← hw8, wipe_length]) (fun j v e => (wipe_some (hw8 ▸ e)).1), T.keep _ _ _ st7 fun b hb o e => (pin' b hb o e).1, fun b hb => ?_, w'⟩
        obtain ⟨o, e, _⟩ := T.obj _ _ st7 b hb
        exact (pin' b hb o e).2
      cases b with
      | false =>
        simp only [Bool.false_eq_true, if_false] at q9 ⊢
        exact fin J9 q9
      | true =>
        simp only [if_true] at q9 ⊢
        refine thnF (pk.run _ z9 τ M9 _ J9 q9) fun ku z10 ⟨yk, M10, J10, r10, q10⟩ => thnF (pv'.run _ z10 τ M10 _ J10 q10) fun vu z11 ⟨yv, M11, J11, r11, kvs, k, kb, ek, hkb, hZ11, few, nx⟩ => ?_
        subst ek
        cases (show ku = Value.ref kb from r10)
        exact setT (X := X.blk z3 M3 scope ce fp) hu J11 hZ11 hkb few r11 fun z12 J12 => fin J12 nx
  exact codeAny_compStart_dict loop (T.self X.A 0 _ _ _ st4 loop)
end

/-! ### a whole number asked of a dict whose keys are tuples -/
section
variable {prog : Program} {w : World} {A : Around} {E : Value → Shared → Prop} {s : Shared}
def keyD : Key → PyData
  | .inl i => .int i
  | .inr x => .str x
theorem items_read {h : Heap} : ∀ {ks : List Key} {vs : List Value}, ItemsAre (mixKind prog w) ks vs → ReadsAll h vs (ks.map keyD) []
  | _, _, .nil => .nil
  | k :: _, v :: _, .cons e r => by
    rcases keyIs_shape (show keyIs k v = true from e) with ⟨i, t, rfl, rfl⟩ | ⟨x, t, rfl, rfl⟩
    · exact ReadsAll.cons (as := []) (bs := []) (.int i t) (items_read r)
    · exact ReadsAll.cons (as := []) (bs := []) (.str x t) (items_read r)
theorem find_other {d : Addr} {xs : List (List Key × Addr × Value)} {i : Int} {t : Tok} {h : Int} {Q : Option Nat → Shared → Prop} (hm : s.heap.DictOfH (tupleKind (mixKind prog w)) d xs) (one : xs.length ≤ 1) (lay : ∀ x ∈ xs, PyData.canLayAll0 (x.1.map keyD) = true) (hu : A.units < cLine) (k : Q none s) :
    wpAny (model prog w) A (dictFind d (.int i t) h) Q E s := by
  obtain ⟨o, es, ep, ho, hc, hd, he, his, hn⟩ := hm
  have hz : es.size = xs.length := size_of_entries he
  unfold dictFind
  refine wpAny_holding (wpAny_bind (wpAny_dictEntries ho hd ?_))
  dsimp only
  match xs, one with
  | [], _ =>
    have e0 : es = #[] := Array.toList_inj.mp (by rw [he]; rfl)
    subst e0
    exact wpAny_pure k
  | [x], _ =>
    have e0 : es = #[entryOfKey (tupleKind (mixKind prog w)) x] := Array.toList_inj.mp (by rw [he]; rfl)
    subst e0
    by_cases eh : (tupleKind (mixKind prog w)).hash x.1 = h
    · have ep : placesWithHash (#[entryOfKey (tupleKind (mixKind prog w)) x] : Array DictEntry).size (fun i => (#[entryOfKey (tupleKind (mixKind prog w)) x] : Array DictEntry)[i]?.map (·.hash)) h = [0] := by
        unfold placesWithHash
        simp [entryOfKey, eh, List.range_succ]
      rw [ep]
      have es0 : List.filterMap (fun i => Option.map (fun x => x.key) (#[entryOfKey (tupleKind (mixKind prog w)) x] : Array DictEntry)[i]?) [0] = [Value.ref x.2.1] := rfl
      rw [es0, if_neg (by simp [carriedByValue]), if_neg (by simp)]
      refine wpAny_bind (m := tableMayTell (.int i t) [Value.ref x.2.1]) ?_
      unfold tableMayTell
      rw [if_neg (by simp)]
      refine wpAny_bind (m := eqIsQuiet 8 (.int i t)) (wpAny_pure ?_)
      rw [if_neg (by simp)]
      simp only [List.forIn_cons, List.forIn_nil]
      have isx := his x List.mem_cons_self
      have layx := lay x List.mem_cons_self
      refine wpAny_bind (wpAny_bind (wpAny_bind ((tupleKind (mixKind prog w)).quiet isx ?_)))
      refine wpAny_pure (wpAny_pure (wpAny_pure ?_))
      rw [if_neg (by simp)]
      obtain ⟨ob, its, nb, b1, b2, b3, b4⟩ := isx
      have rd : Reads s.heap (.ref x.2.1) (.tuple (x.1.map keyD)) [] := .tuple b1 b2 b3 (items_read b4)
      refine wpAny_bind (wpAny_bind ?_)
      show wpAny _ _ (if ((tupleKind (mixKind prog w)).hash x.1 == h) = true then _ else _) _ _ _
      rw [if_pos (by simp [eh])]
      refine wpAny_bind (wpAny_dictEpoch ho hd (wpAny_bind (SeqAt.eqBoolOverData prog w A _ s (.ref x.2.1) (.int i t) _ _ [] [] _ rd (.int i t) layx rfl (by show A.units + min _ 0 < cLine; omega) (wpAny_bind (wpAny_dictEpoch ho hd ?_)))))
      rw [if_neg (by simp), if_neg (by show ¬ (false = true); decide)]
      refine wpAny_bind (wpAny_rule ?_)
      rw [if_neg (by simp)]
      exact wpAny_pure (wpAny_pure (wpAny_pure k))
    · have ep : placesWithHash (#[entryOfKey (tupleKind (mixKind prog w)) x] : Array DictEntry).size (fun i => (#[entryOfKey (tupleKind (mixKind prog w)) x] : Array DictEntry)[i]?.map (·.hash)) h = [] := by
        unfold placesWithHash
        simp [entryOfKey, eh, List.range_succ]
      rw [ep]
      exact wpAny_pure k
end
section
variable {prog : Program} {w : World} {A : Around} {E : Value → Shared → Prop} {s : Shared}
theorem in_other {d : Addr} {xs : List (List Key × Addr × Value)} {i : Int} {t : Tok} {Q : Value → Shared → Prop} (hm : s.heap.DictOfH (tupleKind (mixKind prog w)) d xs) (one : xs.length ≤ 1) (lay : ∀ x ∈ xs, PyData.canLayAll0 (x.1.map keyD) = true) (hu : A.units + 1 < cLine) (nd : (d == sysModules) = false)
    (k : ∀ tk, Q (.bool false) { s with toks := tk }) : wpAny (model prog w) A (compareOp .In (.int i t) (.ref d)) Q E s := by
  refine wpAny_bind (m := contains (.ref d) (.int i t)) ?_
  unfold contains
  refine wpAny_holding (wpAny_bind (wpAny_specialOf hm.typeIs PySem.F.slot_dict_contains.lookup ?_))
  show wpAny _ _ (if (some (Value.builtin "dict.__contains__") == some Value.none) = true then _ else _) _ E s
  rw [if_neg (fun z => by rw [beq_builtin_none] at z; cases z)]
  refine wpAny_bind (wpAny_callSpecialUnlessNone?_slot (name := Str.ofString "__contains__") hm.typeIs PySem.F.slot_dict_contains (wpAny_call_entry PySem.F.slot_dict_contains hm.typeIs PySem.F.entry_dict_contains ?_ (args_dict_contains _ _)))
  refine wpAny_bind (m := dictGet d (.int i t)) ?_
  unfold dictGet
  refine wpAny_holding (wpAny_bind ((intKind prog w).pyHash (k := i) (intKind_is _ _ _ _) (wpAny_bind (find_other (s := { s with toks := s.toks + 1 }) hm one lay (by show A.units + 1 < cLine; exact hu) (wpAny_pure ?_)))))
  rw [if_neg (by decide)]
  exact wpAny_bind (wpAny_pendingKey_int (wpAny_pure ⟨_, rfl, wpAny_truthy_bool (wpAny_pure (k _))⟩))
end
def tDInX (ty td : TE) : TE := fun σ H Q => ty σ H fun y H1 => td σ H1 fun x H2 => ∃ a, x = .ref a ∧ ((∃ o, DGet H2 a y o ∧ Q (.bl o.isSome) H2) ∨ ∃ i kvs, y = .int i ∧ Rd H2 a (.dT kvs) ∧ kvs.length ≤ 1 ∧ (∀ kv ∈ kvs, PyData.canLayAll0 (kv.1.map keyD) = true) ∧ Q (.bl false) H2)
theorem pc_dinX {X : Cx} {i o : Expr} {ty td : TE} (hu : X.A.units + 1 < cLine) (hi : PE X i ty) (ho : PE X o td) : PC X .In i o (tDInX ty td) := by
  refine ⟨fun pins z σ H Q I h => thn (hi.run pins z σ H _ I h) fun iv z1 ⟨y, H1, I1, ry, q1⟩ => thn (ho.run pins z1 σ H1 _ I1 q1) fun u z2 ⟨x, H2, I2, rx, a, ex, q2⟩ => ?_⟩
  subst ex
  cases (show u = Value.ref a from rx)
  rcases q2 with ⟨ov, g, q2⟩ | ⟨n, kvs, rfl, rd, one, lay, q2⟩
  · exact d_in hu I2 g ry fun z3 I3 => ⟨.bl ov.isSome, H2, I3, rfl, q2⟩
  · obtain ⟨t, rfl⟩ := ry
    obtain ⟨_, nm, xs, rel, dd⟩ := dt_rd I2.hok rd
    have keys : ∀ {l : List (List Key × V)} {m : List (List Key × Addr × Value)}, KT H2 l m → ∀ x ∈ m, ∃ kv ∈ l, kv.1 = x.1 := by
      intro l m r
      induction r with
      | nil => intro x hx; exact nomatch hx
      | @cons p q ps qs hq r ih =>
        intro x hx
        rcases List.mem_cons.mp hx with rfl | hx
        · exact ⟨p, List.mem_cons_self, hq.1⟩
        · obtain ⟨kv, m, e⟩ := ih x hx
          exact ⟨kv, List.mem_cons_of_mem _ m, e⟩
    refine in_other dd (by rw [← Paired.length rel]; exact one) (fun x hx => ?_) hu nm fun tk => ⟨.bl false, H2, I2.tok _, rfl, q2⟩
    obtain ⟨kv, m, e⟩ := keys rel x hx
    rw [← e]
    exact lay kv m

/-! ### != of anything and () -/
theorem dict_ne_declines_tuple (l b : Addr) (es : Array DictEntry) (items2 : Array Value) (n n2 : Nat) (dd dd2 : Option Addr) (sl sl2 : Array (Option Value)) :
    PySem.Meets (Builtin.«dict.__ne__» ⟨[.ref l, .ref b], []⟩) (fun _ R s => s.heap.get? l = some { cls := .type "dict", dict := dd, data := .dict es n, slots := sl } ∧ s.heap.get? b = some { cls := .type "tuple", dict := dd2, data := .seq items2 n2, slots := sl2 } ∧ R (.ok (.ret .notImplemented)) s) :=
  .of_wp fun prog w A R s h => by obtain ⟨hp, g, d, tk, os⟩ := s; obtain ⟨hl, hb, h⟩ := h; have f1 := F.sub_tuple_dict; wp_walk using PySem.AutoSeq1.wpAny_loadPart' hl, PySem.AutoSeq1.wpAny_loadPart' hb; exact ⟨_, rfl, h⟩
theorem tuple_ne_declines_dict (l b : Addr) (items : Array Value) (es2 : Array DictEntry) (n n2 : Nat) (dd dd2 : Option Addr) (sl sl2 : Array (Option Value)) :
    PySem.Meets (Builtin.«tuple.__ne__» ⟨[.ref l, .ref b], []⟩) (fun _ R s => s.heap.get? l = some { cls := .type "tuple", dict := dd, data := .seq items n, slots := sl } ∧ s.heap.get? b = some { cls := .type "dict", dict := dd2, data := .dict es2 n2, slots := sl2 } ∧ R (.ok (.ret .notImplemented)) s) :=
  .of_wp fun prog w A R s h => by obtain ⟨hp, g, d, tk, os⟩ := s; obtain ⟨hl, hb, h⟩ := h; have f1 := F.sub_dict_tuple; wp_walk using PySem.AutoSeq1.wpAny_loadPart' hl, PySem.AutoSeq1.wpAny_loadPart' hb; exact ⟨_, rfl, h⟩
theorem rcne_dict_tuple {A : Around} {s : Shared} {l b : Addr} {o : Obj} {es : Array DictEntry} {n : Nat} {items2 : Array Value} (ho : s.heap.get? l = some o) (hc : o.cls = .type "dict") (hd : o.data = .dict es n) (hb : s.heap.IsTuple b items2) (hu : A.units < cLine) : PySem.SeqAt.RcNeAt A s (.ref l) (.ref b) true := fun prog w E Q h => by
  obtain ⟨cls, dd, data, sl⟩ := o
  obtain ⟨⟨cls2, dd2, data2, sl2⟩, ho2, hc2, n2, hd2⟩ := id hb
  simp only at hc hd hc2 hd2
  subst hc hd hc2 hd2
  have hne : l ≠ b := by
    rintro rfl
    have z := Option.some.inj (ho.symm.trans ho2)
    injection z with z1
    injection z1 with z2
    exact absurd z2 (by decide)
  exact (PySem.SeqAt.rc_ne_decline_or (k := false) ⟨_, ho, rfl⟩ ⟨_, ho2, rfl⟩ (by decide) F.sub_tuple_dict F.slot_dict_ne F.slot_tuple_ne_refl
    (fun _ hq => call_meets F.slot_dict_ne ⟨_, ho, rfl⟩ F.entry_dict_ne (F.args_dict_ne_2 _ _) (dict_ne_declines_tuple l b es items2 n n2 dd dd2 sl sl2) ⟨ho, ho2, hq⟩)
    (fun _ hq => call_meets F.slot_tuple_ne_refl ⟨_, ho2, rfl⟩ F.entry_tuple_ne (F.args_tuple_ne_2 _ _) (tuple_ne_declines_dict b l items2 es n2 n dd2 dd sl2 sl) ⟨ho2, ho, hq⟩)
    (fun _ hq => PySem.wpAny_isSame_ref_other hne ho ho2 (by simp) hq) (.inr hu) h)
def rNeE : R2 := fun x y H Q => ∃ b, y = .ref b ∧ H b = some (.tup []) ∧ ((∃ a xs, x = .ref a ∧ H a = some (.tup xs) ∧ Q (.bl (!xs.isEmpty)) H) ∨ ((x = .non ∨ (∃ c, x = .bl c) ∨ (∃ i, x = .int i) ∨ (∃ z, x = .str z) ∨ (∃ a xs, x = .ref a ∧ H a = some (.lst xs)) ∨ ∃ a kvs, x = .ref a ∧ H a = some (.dK kvs)) ∧ Q (.bl true) H))
theorem op_neE {X : Cx} (hu : X.A.units < cLine) : OpR X (compareOp .NotEq) rNeE := by
  intro pins s σ H x y v u Q I rx ry h
  obtain ⟨b, rfl, hb, h⟩ := h
  cases ry
  obtain ⟨its2, r2, p2, _⟩ := I.tuple (SqT.of (K := X.K) hb)
  rcases h with ⟨a, xs, rfl, ha, q⟩ | ⟨hx, q⟩
  · cases rx
    obtain ⟨its, r1, p1, _⟩ := I.tuple (SqT.of (K := X.K) ha)
    have z2 : its2.toArray.size = 0 := by
      have := r2.length
      simpa using this.symm
    have z1 : its.toArray.size = xs.length := by
      have := r1.length
      simpa using this.symm
    have key := SeqAt.RcNeAt.tuples (A := X.A) (e := fun _ => true) p1 p2 hu (fun j h1 h2 => absurd h2 (by omega))
    refine key X.prog X.w _ _ ⟨.bl _, H, I, ?_, q⟩
    show Value.bool _ = Value.bool _
    rw [z2, z1]
    cases xs <;> simp
  · rcases hx with rfl | ⟨c, rfl⟩ | ⟨i, rfl⟩ | ⟨z, rfl⟩ | ⟨a, xs, rfl, ha⟩ | ⟨a, kvs, rfl, ha⟩
    · cases rx
      exact SeqAt.RcNeAt.none_tuple p2 hu X.prog X.w _ _ ⟨.bl true, H, I, rfl, q⟩
    · cases rx
      exact SeqAt.RcNeAt.bool_tuple c p2 hu X.prog X.w _ _ ⟨.bl true, H, I, rfl, q⟩
    · obtain ⟨t, rfl⟩ := rx
      exact SeqAt.RcNeAt.int_tuple i t p2 hu X.prog X.w _ _ ⟨.bl true, H, I, rfl, q⟩
    · obtain ⟨t, rfl⟩ := rx
      exact SeqAt.RcNeAt.str_tuple z t p2 hu X.prog X.w _ _ ⟨.bl true, H, I, rfl, q⟩
    · cases rx
      obtain ⟨its, r1, p1, _⟩ := I.list (SqL.of (K := X.K) ha)
      obtain ⟨o, n, e1, e2, e3, e4⟩ := p1
      have p1 : s.heap.IsList a its.toArray := ⟨o, e1, by assumption, n, e4⟩
      exact SeqAt.RcNeAt.list_tuple p1 p2 hu X.prog X.w _ _ ⟨.bl true, H, I, rfl, q⟩
    · cases rx
      obtain ⟨_, _, vs, _, o, es, ep, h1, h2, h3, _⟩ := dk_of I.hok ha
      exact rcne_dict_tuple h1 h2.1 h3 p2 hu X.prog X.w _ _ ⟨.bl true, H, I, rfl, q⟩

/-! ### rules within a block, the written part by its own letter -/
theorem ix_tupK {X : Cx} {K : PySem.W.Frag} (hK : X.K = K) : IxR X (rIxT K) := by
  subst hK
  exact ix_tup
theorem ix_listK {X : Cx} {K : PySem.W.Frag} (hK : X.K = K) : IxR X (rIxL K) := by
  subst hK
  exact ix_list
theorem call_len_seqK {X : Cx} {K : PySem.W.Frag} (hK : X.K = K) : CallR X (.builtin "len") (fun xs H Q => ∃ p ys, xs = [.ref p] ∧ (SqL K H p ys ∨ SqT K H p ys) ∧ Q (.int ys.length) H) := by
  subst hK
  exact call_len_seq

end My
namespace My
open PySem L2
inductive Sl | pt | oth | num | plc | knd
  deriving DecidableEq
def fit : Sl → V → Prop
  | .pt, v => ∃ i, v = .int i
  | .oth, v => v = .non ∨ ∃ i, v = .int i
  | .num, v => ∃ i, v = .int i
  | .plc, v => ∃ i : Int, v = .int i ∧ 0 ≤ i
  | .knd, v => ∃ k, v = .str k ∧ k ∈ kinds
inductive FitAll : List Sl → List V → Prop
  | nil : FitAll [] []
  | cons {s : Sl} {v : V} {ss : List Sl} {vs : List V} : fit s v → FitAll ss vs → FitAll (s :: ss) (v :: vs)
def forms : List (Str × List Sl) := [("new", [.num, .knd]), ("put", [.pt, .num]), ("paint", [.pt, .knd]), ("tie", [.pt, .pt]), ("cut", [.pt, .pt]), ("add", [.pt, .pt, .num]), ("spread", [.pt, .oth, .num]),
  ("joined", [.pt, .pt]), ("way", [.pt, .pt]), ("total", [.pt, .pt]), ("many", [.pt, .pt]), ("most", [.pt, .pt]), ("first", [.pt, .pt, .knd]), ("reach", [.pt, .pt, .num]), ("kth", [.pt, .pt, .plc]), ("meet", [.pt, .pt, .pt]), ("sum", [.pt, .oth]), ("size", [.pt, .oth]), ("top", [.pt, .oth]), ("least", [.pt, .oth, .knd])]
def evs : List Str := ["new", "put", "paint", "tie", "cut", "add", "spread", "joined", "way", "total", "many", "most", "first", "reach", "kth", "meet", "sum", "size", "top", "least"]

/-! ### a written dict from texts to tuples of texts -/
def formB (K : PySem.W.Frag) : List DictEntry → List (Str × List Str) → Bool
  | [], [] => true
  | e :: es, f :: fs => e.key.isStr f.1 && ((match e.val with | .ref a => tupB K a f.2 | _ => false) && formB K es fs)
  | _, _ => false
theorem isStr_key {v : Value} {x : Str} (h : v.isStr x = true) : ∃ t, v = .str x t := by
  cases v with
  | str y t =>
    have e : (y == x) = true := h
    exact ⟨t, by rw [beq_iff_eq.mp e]⟩
  | _ => exact nomatch h
theorem formB_ns {K : PySem.W.Frag} : ∀ {es : List DictEntry} {fs : List (Str × List Str)}, formB K es fs = true → es.any (·.refKey) = false ∧ ∀ z : Str, match fs.lookup z with
    | none => es.find? (·.key.isStr z) = none
    | some ws => ∃ e a, es.find? (·.key.isStr z) = some e ∧ e.val = .ref a ∧ tupB K a ws = true
  | [], [], _ => ⟨rfl, fun _ => rfl⟩
  | [], _ :: _, h => nomatch h
  | _ :: _, [], h => nomatch h
  | e :: es, f :: fs, h => by
    unfold formB at h
    rw [Bool.and_eq_true, Bool.and_eq_true] at h
    obtain ⟨h1, h2, h3⟩ := h
    obtain ⟨r1, r2⟩ := formB_ns h3
    obtain ⟨t, ek⟩ := isStr_key h1
    refine ⟨?_, fun z => ?_⟩
    · rw [List.any_cons, r1, Bool.or_false]
      obtain ⟨hs, k, v⟩ := e
      dsimp only at ek
      subst ek
      rfl
    · have q := r2 z
      rw [List.lookup_cons, List.find?_cons]
      by_cases ez : z = f.1
      · subst ez
        rw [beq_self_eq_true]
        dsimp only
        rw [h1]
        dsimp only
        cases ev : e.val with
        | ref a =>
          rw [ev] at h2
          exact ⟨e, a, rfl, ev, h2⟩
        | _ =>
          rw [ev] at h2
          exact nomatch h2
      · have e1 : (z == f.1) = false := beq_eq_false_iff_ne.mpr ez
        have e2 : e.key.isStr z = false := by
          rw [ek]
          show (f.1 == z) = false
          exact beq_eq_false_iff_ne.mpr fun y => ez y.symm
        rw [e1, e2]
        dsimp only
        exact q
theorem formB_get {K : PySem.W.Frag} {d : Addr} {c : Value} {od : Option Addr} {es : Array DictEntry} {n : Nat} {sl : Array (Option Value)} {fs : List (Str × List Str)} (hl : K.lookup d = some ⟨c, od, .dict es n, sl⟩) (h : formB K es.toList fs = true) (z : Str) :
    match fs.lookup z with
    | none => PySem.W.nsIn K d z = some none
    | some ws => ∃ a, PySem.W.nsIn K d z = some (some (.ref a)) ∧ tupB K a ws = true := by
  obtain ⟨r1, r2⟩ := formB_ns h
  have q := r2 z
  unfold PySem.W.nsIn
  rw [hl]
  cases e : fs.lookup z with
  | none =>
    rw [e] at q
    dsimp only at q ⊢
    rw [q]
    dsimp only
    rw [r1]
    rfl
  | some ws =>
    rw [e] at q
    obtain ⟨en, a, h1, h2, h3⟩ := q
    refine ⟨a, ?_, h3⟩
    dsimp only
    rw [h1]
    dsimp only
    rw [h2]
/-! ### anything -/
inductive AnyV (H : Hp) : V → Prop
  | non : AnyV H .non
  | bl (b : Bool) : AnyV H (.bl b)
  | int (i : Int) : AnyV H (.int i)
  | str (x : Str) : AnyV H (.str x)
  | tup {a : Addr} {xs : List V} (h : H a = some (.tup xs)) : AnyV H (.ref a)
  | lst {a : Addr} {xs : List V} (h : H a = some (.lst xs)) : AnyV H (.ref a)
  | dK {a : Addr} {kvs : List (Key × V)} (h : H a = some (.dK kvs)) : AnyV H (.ref a)
/-- all but tables of code objects stays -/
def Kp (H H' : Hp) : Prop := ∀ a o, H a = some o → (∀ ps, o ≠ .tbl ps) → H' a = some o
theorem Kp.refl (H : Hp) : Kp H H := fun _ _ e _ => e
theorem Kp.trans {H H1 H2 : Hp} (x : Kp H H1) (y : Kp H1 H2) : Kp H H2 := fun a o e n => y a o (x a o e n) n
theorem Kp.of_same {H H' : Hp} (s : Same H H') : Kp H H' := fun a o e _ => s a o e
theorem Kp.of_tab {H H' : Hp} {P : Addr} (g : GxR.TabG H P) (t : GxR.Tabbed P H H') : Kp H H' := fun a o e n => by
  by_cases h : a = P
  · subst h
    obtain ⟨ps, hp, _⟩ := g
    rw [hp] at e
    exact absurd (Option.some.inj e).symm (n ps)
  · rw [t.2 a h]
    exact e
theorem AnyV.kp {H H' : Hp} (k : Kp H H') {v : V} (h : AnyV H v) : AnyV H' v := by
  cases h with
  | non => exact .non
  | bl b => exact .bl b
  | int i => exact .int i
  | str x => exact .str x
  | tup h => exact .tup (k _ _ h (by intro ps z; cases z))
  | lst h => exact .lst (k _ _ h (by intro ps z; cases z))
  | dK h => exact .dK (k _ _ h (by intro ps z; cases z))
/-- isinstance with int, bool, str, tuple -/
def isIntV : V → Bool
  | .bl _ => true
  | .int _ => true
  | _ => false
def isBoolV : V → Bool
  | .bl _ => true
  | _ => false
def isStrV : V → Bool
  | .str _ => true
  | _ => false
theorem int_ok {K : PySem.W.Frag} {H : Hp} {v : V} (h : AnyV H v) : ∃ t, TyX K H v t ∧ PySem.W.kitOne K t (.type "int") = some (isIntV v) := by
  cases h with
  | non => exact ⟨_, .base .non, kit_ty (show kitB _ _ = some false by decide +kernel)⟩
  | bl b => exact ⟨_, .base (.bl b), kit_ty (show kitB _ _ = some true by decide +kernel)⟩
  | int i => exact ⟨_, .base (.int i), kit_ty (show kitB _ _ = some true by decide +kernel)⟩
  | str x => exact ⟨_, .base (.str x), kit_ty (show kitB _ _ = some false by decide +kernel)⟩
  | tup h => exact ⟨_, .base (.tup h), kit_ty (show kitB _ _ = some false by decide +kernel)⟩
  | lst h => exact ⟨_, .base (.lst h), kit_ty (show kitB _ _ = some false by decide +kernel)⟩
  | dK h => exact ⟨_, .base (.dK h), kit_ty (show kitB _ _ = some false by decide +kernel)⟩
theorem bool_ok {K : PySem.W.Frag} {H : Hp} {v : V} (h : AnyV H v) : ∃ t, TyX K H v t ∧ PySem.W.kitOne K t (.type "bool") = some (isBoolV v) := by
  cases h with
  | non => exact ⟨_, .base .non, kit_ty (show kitB _ _ = some false by decide +kernel)⟩
  | bl b => exact ⟨_, .base (.bl b), kit_ty (show kitB _ _ = some true by decide +kernel)⟩
  | int i => exact ⟨_, .base (.int i), kit_ty (show kitB _ _ = some false by decide +kernel)⟩
  | str x => exact ⟨_, .base (.str x), kit_ty (show kitB _ _ = some false by decide +kernel)⟩
  | tup h => exact ⟨_, .base (.tup h), kit_ty (show kitB _ _ = some false by decide +kernel)⟩
  | lst h => exact ⟨_, .base (.lst h), kit_ty (show kitB _ _ = some false by decide +kernel)⟩
  | dK h => exact ⟨_, .base (.dK h), kit_ty (show kitB _ _ = some false by decide +kernel)⟩
theorem str_ok {K : PySem.W.Frag} {H : Hp} {v : V} (h : AnyV H v) : ∃ t, TyX K H v t ∧ PySem.W.kitOne K t (.type "str") = some (isStrV v) := by
  cases h with
  | non => exact ⟨_, .base .non, kit_ty (show kitB _ _ = some false by decide +kernel)⟩
  | bl b => exact ⟨_, .base (.bl b), kit_ty (show kitB _ _ = some false by decide +kernel)⟩
  | int i => exact ⟨_, .base (.int i), kit_ty (show kitB _ _ = some false by decide +kernel)⟩
  | str x => exact ⟨_, .base (.str x), kit_ty (show kitB _ _ = some true by decide +kernel)⟩
  | tup h => exact ⟨_, .base (.tup h), kit_ty (show kitB _ _ = some false by decide +kernel)⟩
  | lst h => exact ⟨_, .base (.lst h), kit_ty (show kitB _ _ = some false by decide +kernel)⟩
  | dK h => exact ⟨_, .base (.dK h), kit_ty (show kitB _ _ = some false by decide +kernel)⟩
/-! ### rows by their form -/
def wholeB : V → Bool
  | .int _ => true
  | _ => false
def kindB : V → Bool
  | .str k => decide (k ∈ kinds)
  | _ => false
def fitB : Sl → V → Bool
  | .knd, v => kindB v
  | .oth, v => decide (v = .non) || wholeB v
  | .plc, .int i => decide (0 ≤ i)
  | .plc, _ => false
  | _, v => wholeB v
def slT : Sl → Str
  | .pt => "point"
  | .oth => "other"
  | .num => "number"
  | .plc => "place"
  | .knd => "kind"
def fitsB : List Sl → List V → Bool
  | [], [] => true
  | s :: ss, v :: vs => fitB s v && fitsB ss vs
  | _, _ => false
theorem fits_len : ∀ {ss : List Sl} {vs : List V}, vs.length ≠ ss.length → fitsB ss vs = false
  | [], [], h => absurd rfl h
  | [], _ :: _, _ => rfl
  | _ :: _, [], _ => rfl
  | s :: ss, v :: vs, h => by
    show (fitB s v && fitsB ss vs) = false
    rw [fits_len (ss := ss) (vs := vs) fun z => h (by rw [List.length_cons, List.length_cons, z]), Bool.and_false]
theorem drop_at {α : Type} {xs : List α} {i : Nat} {x : α} (h : xs[i]? = some x) : xs.drop i = x :: xs.drop (i + 1) := by
  obtain ⟨hl, e⟩ := List.getElem?_eq_some_iff.mp h
  rw [List.drop_eq_getElem_cons hl, e]
def rowB : List V → Bool
  | .str w :: ps => (match forms.lookup w with | some sl => fitsB sl ps | none => false)
  | _ => false
def formsT : List (Str × List Str) := forms.map fun f => (f.1, f.2.map slT)
theorem formsT_lookup (z : Str) : formsT.lookup z = (forms.lookup z).map fun sl => sl.map slT := by
  have g : ∀ l : List (Str × List Sl), (l.map fun f => (f.1, f.2.map slT)).lookup z = (l.lookup z).map fun sl => sl.map slT := by
    intro l
    induction l with
    | nil => rfl
    | cons f r ih =>
      obtain ⟨a, b⟩ := f
      rw [List.map_cons, List.lookup_cons, List.lookup_cons]
      cases e : z == a with
      | true => rfl
      | false => exact ih
  exact g forms
/-- a def by its body, its code object known -/
theorem okC {P : Program} {w : World} {K : PySem.W.Frag} {mg : Str → Option Value} {base : Heap} {x qual : Str} {st : Stmt} {f c : Addr} {fd : FuncData} {N ps : List Str} {k : Nat} {sp : Sp} (F : Fun K x qual st f fd) (hcd : fd.code = .ref c) (S : FnScope N ps (defScope st))
    (len : ∀ vs H Q E, sp vs H Q E → vs.length = ps.length)
    (body : ∀ (A : Around) (outer : List Env) (s : Shared) (H : Hp) (vs : List V) (Q : VK) (E : XK), Room k (A.deeper (PyProof.Rows.envOfC qual (defScope st) s.heap.objs.size f (.ref c))) → sp vs H Q E →
      ∃ t, PSs (cxOf CX0 P w K mg base N qual (defScope st) f (.ref c) A outer s H E).nox (defBody st) t ∧ t { nx := fun _ H' => Q .non H', rt := Q } (start N vs) H) : FnOk P w K mg base CX0 (k + 1) f fd ps sp := by
  obtain ⟨oc, od, kV, doc, pm, an, cdv, ct, osl, rfl, lk, hc⟩ := F.ex
  have e : cdv = .ref c := hcd
  subst e
  refine fn_of lk hc S len fun A outer s H vs Q E hr hsp => ?_
  obtain ⟨t, h, q⟩ := body A outer s H vs Q E hr hsp
  exact ⟨t, h.nox, q⟩

end My
namespace My
open PySem L2

/-! ### the text by places -/
def topS (i : Nat) : Stmt := PySem.Challenge.pw_tiedcut_k24_shapes_of_anything.main.body.getD i (.Pass ⟨0, 0, 0, 0⟩)
abbrev s_iswhole : Stmt := topS 1
abbrev s_isrising : Stmt := topS 2
abbrev s_ismark : Stmt := topS 4
abbrev s_isname : Stmt := topS 5
abbrev s_isshape : Stmt := topS 7
abbrev s_isshaperow : Stmt := topS 8
abbrev s_arelinked : Stmt := topS 9
abbrev s_isbelow : Stmt := topS 10
abbrev s_hasringabove : Stmt := topS 11
abbrev s_Lmixed : Stmt := topS 13
abbrev s_Lpot : Stmt := topS 14
abbrev s_Ltake : Stmt := topS 15
abbrev s_Ldeep : Stmt := topS 16
abbrev s_Lodd : Stmt := topS 17
abbrev s_law : Stmt := topS 18
theorem sc_iswhole : FnScope ["thing"] ["thing"] (defScope s_iswhole) := ⟨rfl, rfl, rfl, by decide +kernel, rfl, by decide +kernel, by decide +kernel⟩
theorem sc_isrising : FnScope ["row", "low", "high"] ["row"] (defScope s_isrising) := ⟨rfl, rfl, rfl, by decide +kernel, rfl, by decide +kernel, by decide +kernel⟩
theorem sc_ismark : FnScope ["thing", "number"] ["thing"] (defScope s_ismark) := ⟨rfl, rfl, rfl, by decide +kernel, rfl, by decide +kernel, by decide +kernel⟩
theorem sc_isname : FnScope ["thing"] ["thing"] (defScope s_isname) := ⟨rfl, rfl, rfl, by decide +kernel, rfl, by decide +kernel, by decide +kernel⟩
theorem sc_isshape : FnScope ["thing", "row", "names", "name"] ["thing"] (defScope s_isshape) := ⟨rfl, rfl, rfl, by decide +kernel, rfl, by decide +kernel, by decide +kernel⟩
theorem sc_isshaperow : FnScope ["thing", "name", "left", "right", "above", "turned", "other"] ["thing"] (defScope s_isshaperow) := ⟨rfl, rfl, rfl, by decide +kernel, rfl, by decide +kernel, by decide +kernel⟩
theorem sc_arelinked : FnScope ["rows", "above", "row", "name", "left", "right", "over", "turned", "child"] ["rows"] (defScope s_arelinked) := ⟨rfl, rfl, rfl, by decide +kernel, rfl, by decide +kernel, by decide +kernel⟩
theorem sc_isbelow : FnScope ["above", "child", "name"] ["above", "child", "name"] (defScope s_isbelow) := ⟨rfl, rfl, rfl, by decide +kernel, rfl, by decide +kernel, by decide +kernel⟩
theorem sc_hasringabove : FnScope ["above", "begun", "start", "name"] ["above"] (defScope s_hasringabove) := ⟨rfl, rfl, rfl, by decide +kernel, rfl, by decide +kernel, by decide +kernel⟩
theorem sc_Lmixed : FnScope ["_law_cell", "_law_k", "_law_number", "_law_other"] ["_law_cell", "_law_k"] (defScope s_Lmixed) := ⟨rfl, rfl, rfl, by decide +kernel, rfl, by decide +kernel, by decide +kernel⟩
theorem sc_Lpot : FnScope ["_law_script", "_law_total", "_law_k", "_law_cell"] ["_law_script"] (defScope s_Lpot) := ⟨rfl, rfl, rfl, by decide +kernel, rfl, by decide +kernel, by decide +kernel⟩
theorem sc_Ltake : FnScope ["_law_pot_here", "_law_many", "_law_digit"] ["_law_pot_here", "_law_many"] (defScope s_Ltake) := ⟨rfl, rfl, rfl, by decide +kernel, rfl, by decide +kernel, by decide +kernel⟩
theorem sc_Ldeep : FnScope ["_law_pot_here", "_law_thing", "_law_k", "_law_some"] ["_law_pot_here"] (defScope s_Ldeep) := ⟨rfl, rfl, rfl, by decide +kernel, rfl, by decide +kernel, by decide +kernel⟩
theorem sc_Lodd : FnScope ["_law_thing", "_law_row", "_law_mark", "_law_some", "_law_rows", "_law_one", "_law_below"] ["_law_thing"] (defScope s_Lodd) := ⟨rfl, rfl, rfl, by decide +kernel, rfl, by decide +kernel, by decide +kernel⟩
theorem sc_law : FnScope ["_law_script", "_law_pot_here", "_law_turn", "_law_thing", "_law_odd_here", "_law_names", "_law_name"] ["_law_script"] (defScope s_law) := ⟨rfl, rfl, rfl, by decide +kernel, rfl, by decide +kernel, by decide +kernel⟩
/-- what the top has left -/
structure Top (K : PySem.W.Frag) (mg : Str → Option Value) where
  a_iswhole : Addr
  d_iswhole : FuncData
  F_iswhole : Fun K "is_whole" "is_whole" s_iswhole a_iswhole d_iswhole
  b_iswhole : Binds K d_iswhole ["thing"] []
  g_iswhole : mg "is_whole" = some (.ref a_iswhole)
  a_isrising : Addr
  d_isrising : FuncData
  F_isrising : Fun K "is_rising" "is_rising" s_isrising a_isrising d_isrising
  b_isrising : Binds K d_isrising ["row"] []
  g_isrising : mg "is_rising" = some (.ref a_isrising)
  a_ismark : Addr
  d_ismark : FuncData
  F_ismark : Fun K "is_mark" "is_mark" s_ismark a_ismark d_ismark
  b_ismark : Binds K d_ismark ["thing"] []
  g_ismark : mg "is_mark" = some (.ref a_ismark)
  a_isname : Addr
  d_isname : FuncData
  F_isname : Fun K "is_name" "is_name" s_isname a_isname d_isname
  b_isname : Binds K d_isname ["thing"] []
  g_isname : mg "is_name" = some (.ref a_isname)
  a_isshape : Addr
  d_isshape : FuncData
  F_isshape : Fun K "is_shape" "is_shape" s_isshape a_isshape d_isshape
  b_isshape : Binds K d_isshape ["thing"] []
  g_isshape : mg "is_shape" = some (.ref a_isshape)
  a_isshaperow : Addr
  d_isshaperow : FuncData
  F_isshaperow : Fun K "is_shape_row" "is_shape_row" s_isshaperow a_isshaperow d_isshaperow
  b_isshaperow : Binds K d_isshaperow ["thing"] []
  g_isshaperow : mg "is_shape_row" = some (.ref a_isshaperow)
  a_arelinked : Addr
  d_arelinked : FuncData
  F_arelinked : Fun K "are_linked" "are_linked" s_arelinked a_arelinked d_arelinked
  b_arelinked : Binds K d_arelinked ["rows"] []
  g_arelinked : mg "are_linked" = some (.ref a_arelinked)
  a_isbelow : Addr
  d_isbelow : FuncData
  F_isbelow : Fun K "is_below" "is_below" s_isbelow a_isbelow d_isbelow
  b_isbelow : Binds K d_isbelow ["above", "child", "name"] []
  g_isbelow : mg "is_below" = some (.ref a_isbelow)
  a_hasringabove : Addr
  d_hasringabove : FuncData
  F_hasringabove : Fun K "has_ring_above" "has_ring_above" s_hasringabove a_hasringabove d_hasringabove
  b_hasringabove : Binds K d_hasringabove ["above"] []
  g_hasringabove : mg "has_ring_above" = some (.ref a_hasringabove)
  a_Lmixed : Addr
  d_Lmixed : FuncData
  F_Lmixed : Fun K "_law_mixed" "_law_mixed" s_Lmixed a_Lmixed d_Lmixed
  b_Lmixed : Binds K d_Lmixed ["_law_cell", "_law_k"] []
  g_Lmixed : mg "_law_mixed" = some (.ref a_Lmixed)
  a_Lpot : Addr
  d_Lpot : FuncData
  F_Lpot : Fun K "_law_pot" "_law_pot" s_Lpot a_Lpot d_Lpot
  b_Lpot : Binds K d_Lpot ["_law_script"] []
  g_Lpot : mg "_law_pot" = some (.ref a_Lpot)
  a_Ltake : Addr
  d_Ltake : FuncData
  F_Ltake : Fun K "_law_take" "_law_take" s_Ltake a_Ltake d_Ltake
  b_Ltake : Binds K d_Ltake ["_law_pot_here", "_law_many"] []
  g_Ltake : mg "_law_take" = some (.ref a_Ltake)
  a_Ldeep : Addr
  d_Ldeep : FuncData
  F_Ldeep : Fun K "_law_deep" "_law_deep" s_Ldeep a_Ldeep d_Ldeep
  b_Ldeep : Binds K d_Ldeep ["_law_pot_here"] []
  g_Ldeep : mg "_law_deep" = some (.ref a_Ldeep)
  a_Lodd : Addr
  d_Lodd : FuncData
  F_Lodd : Fun K "_law_odd" "_law_odd" s_Lodd a_Lodd d_Lodd
  b_Lodd : Binds K d_Lodd ["_law_thing"] []
  g_Lodd : mg "_law_odd" = some (.ref a_Lodd)
  a_law : Addr
  d_law : FuncData
  F_law : Fun K "law" "law" s_law a_law d_law
  b_law : Binds K d_law ["_law_script"] []
  g_law : mg "law" = some (.ref a_law)
  m_abs : mg "abs" = none
  m_all : mg "all" = none
  m_bool : mg "bool" = none
  m_enumerate : mg "enumerate" = none
  m_int : mg "int" = none
  m_isinstance : mg "isinstance" = none
  m_len : mg "len" = none
  m_range : mg "range" = none
  m_str : mg "str" = none
  m_tuple : mg "tuple" = none
  m_zip : mg "zip" = none
  cM : Addr
  PM : Addr
  hcM : d_ismark.code = .ref cM
  cS : Addr
  PS : Addr
  hcS : d_isshaperow.code = .ref cS
  cR : Addr
  PR : Addr
  hcR : d_isrising.code = .ref cR
  cH : Addr
  PH : Addr
  hcH : d_isshape.code = .ref cH
  cK : Addr
  PK : Addr
  hcK : d_arelinked.code = .ref cK
  neP : ([PM, PS, PR, PH, PK] : List Addr).Nodup
end My
namespace My
open PySem L2
theorem tabg_same {H H' : Hp} {P : Addr} (s : Same H H') (g : GxR.TabG H P) : GxR.TabG H' P := by
  obtain ⟨ps, h, t⟩ := g
  exact ⟨ps, s _ _ h, t⟩
/-! ### the tables of code made on the way: what is no table stays -/
theorem But.of_same {P : Addr} {H H' : Hp} (s : Same H H') : But P H H' := fun a o e _ => s a o e
theorem But.of_tab {P : Addr} {H H' : Hp} (t : GxR.Tabbed P H H') : But P H H' := fun a o e n => (t.2 a n).trans e
theorem Kp.of_but {P : Addr} {H H' : Hp} (g : GxR.TabG H P) (k : But P H H') : Kp H H' := fun a o e n => by
  refine k a o e fun h => ?_
  subst h
  obtain ⟨ps, hp, _⟩ := g
  rw [hp] at e
  exact n ps (Option.some.inj e).symm
theorem TabG.ne {P a : Addr} {H : Hp} {o : HO} (g : GxR.TabG H P) (e : H a = some o) (n : ∀ ps, o ≠ .tbl ps) : a ≠ P := fun h => by
  subst h
  obtain ⟨ps, hp, _⟩ := g
  rw [hp] at e
  exact n ps (Option.some.inj e).symm
/-! ### tables kept -/
theorem tabs_same {H H' : Hp} {P : Addr} {q : Str} (s : Same H H') (g : LamX.TabS H P q) : LamX.TabS H' P q := g.ext s
/-- the other table's writing -/
theorem tabs_other {H H' : Hp} {P R : Addr} {q : Str} (n : P ≠ R) (gR : GxR.TabG H R) (k : But R H H') (g : LamX.TabS H P q) : LamX.TabS H' P q := by
  obtain ⟨ps, hp, t, e⟩ := g
  refine ⟨ps, k _ _ hp n, t, fun pos cv hc => ?_⟩
  obtain ⟨c, e1, e2⟩ := e pos cv hc
  exact ⟨c, e1, k _ _ e2 (TabG.ne gR e2 LamX.codeO_ne)⟩
theorem tabg_other {H H' : Hp} {P R : Addr} (n : R ≠ P) (k : But P H H') (g : GxR.TabG H R) : GxR.TabG H' R := by
  obtain ⟨ps, hp, t⟩ := g
  exact ⟨ps, k _ _ hp n, t⟩
theorem TabS.g {H : Hp} {P : Addr} {q : Str} (g : LamX.TabS H P q) : GxR.TabG H P := by
  obtain ⟨ps, hp, t, _⟩ := g
  exact ⟨ps, hp, t⟩
theorem Tups.of_tab {K : PySem.W.Frag} {H H' : Hp} {P : Addr} (g : GxR.TabG H P) (k : But P H H') : Tups K H H' := fun a xs h => by
  rcases h with h | h
  · rcases h with h | ⟨o, h⟩
    · exact .inl (.inl (k _ _ h (TabG.ne g h (by intro ps z; cases z))))
    · exact .inl (.inr ⟨o, k _ _ h (TabG.ne g h (by intro ps z; cases z))⟩)
  · exact .inr h

theorem Tups.of_kp {K : PySem.W.Frag} {H H' : Hp} (k : Kp H H') : Tups K H H' := fun a xs h => by
  rcases h with h | h
  · rcases h with h | ⟨o, h⟩
    · exact .inl (.inl (k _ _ h (by intro ps z; cases z)))
    · exact .inl (.inr ⟨o, k _ _ h (by intro ps z; cases z)⟩)
  · exact .inr h
theorem Kp.same {H H1 H2 : Hp} (k : Kp H H1) (s : Same H1 H2) : Kp H H2 := k.trans (Kp.of_same s)
/-- each table as it has to be: of generators (none), of lambdas that stand in one def (its name) -/
def Tb (ts : List (Addr × Option Str)) (H : Hp) : Prop := ∀ t ∈ ts, match t.2 with | none => GxR.TabG H t.1 | some q => LamX.TabS H t.1 q
section
variable {ts : List (Addr × Option Str)} {H H' : Hp}
theorem Tb.g {P : Addr} (h : Tb ts H) (m : (P, none) ∈ ts) : GxR.TabG H P := h _ m
theorem Tb.s {P : Addr} {q : Str} (h : Tb ts H) (m : (P, some q) ∈ ts) : LamX.TabS H P q := h _ m
theorem Tb.mk (h : ∀ P, (P, none) ∈ ts → GxR.TabG H P) (k : ∀ P q, (P, some q) ∈ ts → LamX.TabS H P q) : Tb ts H := fun t m => by
  obtain ⟨P, o⟩ := t
  cases o with
  | none => exact h P m
  | some q => exact k P q m
theorem Tb.same (h : Tb ts H) (s : Same H H') : Tb ts H' := .mk (fun P m => tabg_same s (h.g m)) (fun P q m => tabs_same s (h.s m))
theorem nd_fst : ∀ {ts : List (Addr × Option Str)}, (ts.map (·.1)).Nodup → ∀ {x y : Addr × Option Str}, x ∈ ts → y ∈ ts → x.1 = y.1 → x = y
  | [], _, _, _, hx, _, _ => nomatch hx
  | t :: r, nd, x, y, hx, hy, e => by
    rw [List.map_cons, List.nodup_cons] at nd
    rcases List.mem_cons.mp hx with e1 | h1
    · rcases List.mem_cons.mp hy with e2 | h2
      · rw [e1, e2]
      · exact absurd (List.mem_map.mpr ⟨y, h2, by rw [← e, e1]⟩) nd.1
    · rcases List.mem_cons.mp hy with e2 | h2
      · exact absurd (List.mem_map.mpr ⟨x, h1, by rw [e, e2]⟩) nd.1
      · exact nd_fst nd.2 h1 h2 e
/-- one of generators was written -/
theorem Tb.tab {P : Addr} (h : Tb ts H) (nd : (ts.map (·.1)).Nodup) (m : (P, none) ∈ ts) (k : But P H H') (g : GxR.TabG H' P) : Tb ts H' := by
  refine .mk (fun R mR => ?_) (fun R q mR => ?_)
  · by_cases e : R = P
    · subst e
      exact g
    · exact tabg_other e k (h.g mR)
  · refine tabs_other (fun e => ?_) (h.g m) k (h.s mR)
    subst e
    cases nd_fst nd m mR rfl
/-- one of lambdas was written -/
theorem Tb.lam {P : Addr} {q : Str} (h : Tb ts H) (nd : (ts.map (·.1)).Nodup) (m : (P, some q) ∈ ts) (k : But P H H') (g : LamX.TabS H' P q) : Tb ts H' := by
  refine .mk (fun R mR => ?_) (fun R q2 mR => ?_)
  · refine tabg_other (fun e => ?_) k (h.g mR)
    subst e
    cases nd_fst nd m mR rfl
  · by_cases e : R = P
    · subst e
      cases nd_fst nd m mR rfl
      exact g
    · exact tabs_other e (TabS.g (h.s m)) k (h.s mR)
end

section
variable {K : PySem.W.Frag} {mg : Str → Option Value}
def Top.tbs (T : Top K mg) : List (Addr × Option Str) := [(T.PM, none), (T.PS, none), (T.PR, none), (T.PH, none), (T.PK, none)]
theorem Top.mM (T : Top K mg) : (T.PM, none) ∈ T.tbs := List.mem_cons_self
theorem Top.mS (T : Top K mg) : (T.PS, none) ∈ T.tbs := (List.mem_cons_of_mem _ List.mem_cons_self)
theorem Top.mR (T : Top K mg) : (T.PR, none) ∈ T.tbs := (List.mem_cons_of_mem _ (List.mem_cons_of_mem _ List.mem_cons_self))
theorem Top.mH (T : Top K mg) : (T.PH, none) ∈ T.tbs := (List.mem_cons_of_mem _ (List.mem_cons_of_mem _ (List.mem_cons_of_mem _ List.mem_cons_self)))
theorem Top.mK (T : Top K mg) : (T.PK, none) ∈ T.tbs := (List.mem_cons_of_mem _ (List.mem_cons_of_mem _ (List.mem_cons_of_mem _ (List.mem_cons_of_mem _ List.mem_cons_self))))
theorem Top.nd (T : Top K mg) : (T.tbs.map (·.1)).Nodup := T.neP
structure TBs (T : Top K mg) (base : Heap) : Prop where
  M : GxR.TabB base mg T.cM T.PM
  S : GxR.TabB base mg T.cS T.PS
  R : GxR.TabB base mg T.cR T.PR
  H : GxR.TabB base mg T.cH T.PH
  K : GxR.TabB base mg T.cK T.PK
theorem tbs0 (T : Top K mg) {H : Hp} (hM : H T.PM = some (.tbl #[])) (hS : H T.PS = some (.tbl #[])) (hR : H T.PR = some (.tbl #[])) (hH : H T.PH = some (.tbl #[])) (hK : H T.PK = some (.tbl #[])) : Tb T.tbs H := by
  intro t m
  rcases List.mem_cons.mp m with rfl | m
  · exact ⟨#[], hM, True.intro⟩
  rcases List.mem_cons.mp m with rfl | m
  · exact ⟨#[], hS, True.intro⟩
  rcases List.mem_cons.mp m with rfl | m
  · exact ⟨#[], hR, True.intro⟩
  rcases List.mem_cons.mp m with rfl | m
  · exact ⟨#[], hH, True.intro⟩
  rw [List.mem_singleton.mp m]
  exact ⟨#[], hK, True.intro⟩
end
theorem mem1 {α : Type} {p a : α} (h : p ∈ [a]) : p = a := List.mem_singleton.mp h
theorem mem2 {α : Type} {p a0 a1 : α} (h : p ∈ [a0, a1]) : p = a0 ∨ p = a1 := (List.mem_cons.mp h).imp id mem1
theorem mem3 {α : Type} {p a0 a1 a2 : α} (h : p ∈ [a0, a1, a2]) : p = a0 ∨ p = a1 ∨ p = a2 := (List.mem_cons.mp h).imp id mem2
theorem mem4 {α : Type} {p a0 a1 a2 a3 : α} (h : p ∈ [a0, a1, a2, a3]) : p = a0 ∨ p = a1 ∨ p = a2 ∨ p = a3 := (List.mem_cons.mp h).imp id mem3
theorem mem5 {α : Type} {p a0 a1 a2 a3 a4 : α} (h : p ∈ [a0, a1, a2, a3, a4]) : p = a0 ∨ p = a1 ∨ p = a2 ∨ p = a3 ∨ p = a4 := (List.mem_cons.mp h).imp id mem4
end My
namespace My
open PySem L2
/-! ### in, not in: a tuple of data -/
section
variable {X : Cx}
def rInT (K : PySem.W.Frag) (neg : Bool) : R2 := fun x y H Q => ∃ d ds, Dp K H x d ∧ Dp K H y (.tuple ds) ∧ SeqAt.shaped d = true ∧ SeqAt.shaped (.tuple ds) = true ∧ Q (.bl (if neg then !ds.any (fun z => PyData.eqv z d) else ds.any fun z => PyData.eqv z d)) H
theorem op_inT (hu : X.A.units + 65 < cLine) : OpR X (compareOp .In) (rInT X.K false) := by
  intro pins s σ H x y v u Q I rx ry h
  obtain ⟨d, ds, hd, he, sd, se, q⟩ := h
  obtain ⟨as, z1⟩ := Dp.reads I d x v hd rx
  obtain ⟨bs, z2⟩ := Dp.reads I (.tuple ds) y u he ry
  exact SeqAt.in_tuple_reads z2 z1 (SeqAt.canLay_of_shaped se) (SeqAt.canLay_of_shaped sd) (PyProof.Rows.room_in_shaped sd hu) ⟨.bl _, H, I, rfl, q⟩
theorem op_notInT (hu : X.A.units + 65 < cLine) : OpR X (compareOp .NotIn) (rInT X.K true) := by
  intro pins s σ H x y v u Q I rx ry h
  obtain ⟨d, ds, hd, he, sd, se, q⟩ := h
  obtain ⟨as, z1⟩ := Dp.reads I d x v hd rx
  obtain ⟨bs, z2⟩ := Dp.reads I (.tuple ds) y u he ry
  exact SeqAt.notIn_tuple_reads z2 z1 (SeqAt.canLay_of_shaped se) (SeqAt.canLay_of_shaped sd) (PyProof.Rows.room_in_shaped sd hu) ⟨.bl _, H, I, rfl, q⟩
end

/-! ### marks and names -/
/-- anything but a tuple -/
inductive NoTup (H : Hp) : V → Prop
  | non : NoTup H .non
  | bl (b : Bool) : NoTup H (.bl b)
  | int (i : Int) : NoTup H (.int i)
  | str (x : Str) : NoTup H (.str x)
  | lst {a : Addr} {xs : List V} (h : H a = some (.lst xs)) : NoTup H (.ref a)
  | dK {a : Addr} {kvs : List (Key × V)} (h : H a = some (.dK kvs)) : NoTup H (.ref a)
theorem NoTup.kp {H H' : Hp} (k : Kp H H') {v : V} (h : NoTup H v) : NoTup H' v := by
  cases h with
  | non => exact .non
  | bl b => exact .bl b
  | int i => exact .int i
  | str x => exact .str x
  | lst h => exact .lst (k _ _ h (by intro ps z; cases z))
  | dK h => exact .dK (k _ _ h (by intro ps z; cases z))
theorem notup_ok {K : PySem.W.Frag} {H : Hp} {v : V} (h : NoTup H v) : ∃ t, TyX K H v t ∧ PySem.W.kitOne K t (.type "tuple") = some false := by
  cases h with
  | non => exact ⟨_, .base .non, kit_ty (show kitB _ _ = some false by decide +kernel)⟩
  | bl b => exact ⟨_, .base (.bl b), kit_ty (show kitB _ _ = some false by decide +kernel)⟩
  | int i => exact ⟨_, .base (.int i), kit_ty (show kitB _ _ = some false by decide +kernel)⟩
  | str x => exact ⟨_, .base (.str x), kit_ty (show kitB _ _ = some false by decide +kernel)⟩
  | lst h => exact ⟨_, .base (.lst h), kit_ty (show kitB _ _ = some false by decide +kernel)⟩
  | dK h => exact ⟨_, .base (.dK h), kit_ty (show kitB _ _ = some false by decide +kernel)⟩
theorem not_whole {x : V} {ps : List V} : ¬ (HT.sIx (x :: ps).length 0 (some 1) = 0 ∧ HT.sIx (x :: ps).length (x :: ps).length none = (x :: ps).length) := by
  rintro ⟨z1, _⟩
  have e1 : HT.sIx (x :: ps).length 0 (some 1) = 1 := by
    rw [show (1 : Int) = ((1 : Nat) : Int) from rfl, HT.sIx_nat, List.length_cons]
    omega
  rw [e1] at z1
  exact nomatch z1
theorem Kp.of_tabd {P : Addr} {H H' : Hp} (g : GxR.TabG H P) (t : GxR.Tabbed P H H') : Kp H H' := Kp.of_but g (But.of_tab t)
theorem Kp.tup {H H' : Hp} (k : Kp H H') {t : Addr} {xs : List V} (e : H t = some (.tup xs)) : H' t = some (.tup xs) := k _ _ e (by intro ps z; cases z)
def natV : V → Bool
  | .int i => decide (0 ≤ i)
  | _ => false
def markB : List V → Bool
  | .str z :: r => r.all natV && (decide (z = "point" ∧ r.length = 1) || decide (z = "over" ∧ r.length = 2))
  | _ => false
/-- a thing, and whether it is a mark -/
def MkV (H : Hp) (v : V) (b : Bool) : Prop := (∃ (a : Addr) (xs : List V), v = .ref a ∧ xs.length ≤ 1000 ∧ H a = some (.tup xs) ∧ (∀ x ∈ xs, AnyV H x) ∧ (∀ z r, xs = .str z :: r → SeqAt.shaped (.str z) = true) ∧ b = markB xs) ∨ (NoTup H v ∧ b = false)
section
variable {P : Program} {w : World} {K : PySem.W.Frag} {mg : Str → Option Value} {base : Heap}
def spWhole : Sp := fun vs H Q _ => ∃ v, vs = [v] ∧ AnyV H v ∧ Q (.bl (wholeB v)) H
theorem ok_whole (T : Top K mg) : FnOk P w K mg base CX0 1 T.a_iswhole T.d_iswhole ["thing"] spWhole := by
  refine T.F_iswhole.ok sc_iswhole (fun vs H Q E h => ?_) (fun cdv A outer s H vs Q E hr h => ?_)
  · obtain ⟨v, rfl, _⟩ := h
    rfl
  · obtain ⟨v, rfl, hv, q⟩ := h
    refine ⟨_, (pss_one (ps_ret (pe_and (pe_callB call_isi (by rfl) T.m_isinstance (by decide +kernel) (pa_cons (pv 0) (pa_cons (pe_bltn (v := .ty "int") (by rfl) T.m_int (by decide +kernel) rfl) pa_nil))) (pe_one (pe_not (pe_callB call_isi (by rfl) T.m_isinstance (by decide +kernel) (pa_cons (pv 0) (pa_cons (pe_bltn (v := .ty "bool") (by rfl) T.m_bool (by decide +kernel) rfl) pa_nil)))))))), ?_⟩
    obtain ⟨t, ty, kt⟩ := int_ok (K := K) hv
    refine ⟨_, rfl, _, _, _, _, _, rfl, ClsV.ty _, ty, kt, _, rfl, ?_⟩
    obtain ⟨t2, ty2, kt2⟩ := bool_ok (K := K) hv
    have fin : isIntV v = true → ∀ b, b = isBoolV v → Q (.bl (!b)) H := fun e b eb => by
      have z : (!b) = wholeB v := by
        subst eb
        cases v <;> first | rfl | exact nomatch e
      rw [z]
      exact q
    refine ite2 (fun e => ?_) (fun e => ?_)
    · exact ⟨_, rfl, _, _, _, _, _, rfl, ClsV.ty _, ty2, kt2, _, rfl, fin e _ rfl⟩
    · have z : wholeB v = false := by
        cases v <;> first | rfl | exact absurd rfl e
      rw [z] at q
      exact q
def spMark (T : Top K mg) : Sp := fun vs H Q _ => ∃ (v : V) (b : Bool), vs = [v] ∧ Tb T.tbs H ∧ MkV H v b ∧ ∀ H', Kp H H' → Tb T.tbs H' → Q (.bl b) H'
theorem mark_in (z : Str) (n : Nat) : ([PyData.tuple [.str "point", .int 2], .tuple [.str "over", .int 3]].any fun y => PyData.eqv y (.tuple [.str z, .int ((n + 1 : Nat) : Int)])) = (decide (z = "point" ∧ n = 1) || decide (z = "over" ∧ n = 2)) := by
  have e : ∀ (y : Str) (m : Int), PyData.eqv (.tuple [.str y, .int m]) (.tuple [.str z, .int ((n + 1 : Nat) : Int)]) = (y == z && (m == ((n + 1 : Nat) : Int) && true)) := fun y m => rfl
  simp only [List.any_cons, List.any_nil, e, Bool.or_false, Bool.and_true]
  rw [Bool.eq_iff_iff]
  simp only [Bool.or_eq_true, Bool.and_eq_true, beq_iff_eq, decide_eq_true_eq]
  constructor
  · rintro (⟨h1, h2⟩ | ⟨h1, h2⟩)
    · exact .inl ⟨h1.symm, by omega⟩
    · exact .inr ⟨h1.symm, by omega⟩
  · rintro (⟨h1, h2⟩ | ⟨h1, h2⟩)
    · exact .inl ⟨h1.symm, by omega⟩
    · exact .inr ⟨h1.symm, by omega⟩
theorem ok_mark (T : Top K mg) (TB : GxR.TabB base mg T.cM T.PM) : FnOk P w K mg base CX0 3 T.a_ismark T.d_ismark ["thing"] (spMark T) := by
  have G_iswhole : FnOk P w K mg base CX0 1 _ _ _ _ := ok_whole T
  refine okC T.F_ismark T.hcM sc_ismark (fun vs H Q E h => ?_) (fun A outer s H vs Q E hr h => ?_)
  · obtain ⟨v, b, rfl, _⟩ := h
    rfl
  · obtain ⟨v, b, rfl, tb, hx, q⟩ := h
    refine ⟨_, (pss_cons (ps_if (PW.pt (pw_or (pt_not (pt_val (pe_callB call_isi (by rfl) T.m_isinstance (by decide +kernel) (pa_cons (pv 0) (pa_cons (pe_bltn (v := .ty "tuple") (by rfl) T.m_tuple (by decide +kernel) rfl) pa_nil))))) (pw_or (pt_cmpR op_eq (pe_callB call_len_seq (by rfl) T.m_len PySem.boot_len (pa_cons (pv 0) pa_nil)) pe_int (nomark _)) (pw_or1 (pt_not (pt_val (pe_callB call_isi (by rfl) T.m_isinstance (by decide +kernel) (pa_cons (pe_ix ix_tup (pv 0) pe_int (fun _ _ => rfl)) (pa_cons (pe_bltn (v := .ty "str") (by rfl) T.m_str (by decide +kernel) rfl) pa_nil))))))))) (pss_one (ps_ret pe_bl)) pss_nil)
      (pss_cons (ps_if (pt_not (pt_val (pe_allG (own := [("number", 1)]) hr rfl sc_ismark.nd (by rfl) T.m_all (by decide +kernel) TB rfl (blkOk_by (own := [("number", 1)]) (N := ["thing", "number"]) (sc := defScope s_ismark) (by decide +kernel)) (by rfl) (by decide +kernel) (by rfl) (pi_tup (pe_slice sl_tup (pv 0) (po_some pe_int) po_none)) (fun _ _ _ _ _ _ _ => (pg_name (i := 1) sc_ismark.nd rfl (.inl rfl) (hf := Or.inr rfl))) (fun _ _ _ _ _ _ _ hr' => (pe_and (pe_call G_iswhole hr' (by rfl) T.g_iswhole T.F_iswhole.kp T.b_iswhole .nil pass0 (pa_cons (pv 1) pa_nil)) (pe_one (pe_cmpR op_ge (pv 1) pe_int (nomark _)))))))) (pss_one (ps_ret pe_bl)) pss_nil)
      (pss_one (ps_ret (pe_cmpR (op_inT (u65 hr)) (pe_tup (pa_cons (pe_ix ix_tup (pv 0) pe_int (fun _ _ => rfl)) (pa_cons (pe_callB call_len_seq (by rfl) T.m_len PySem.boot_len (pa_cons (pv 0) pa_nil)) pa_nil))) (pe_tup (pa_cons (pe_tup (pa_cons pe_str (pa_cons pe_int pa_nil))) (pa_cons (pe_tup (pa_cons pe_str (pa_cons pe_int pa_nil))) pa_nil))) (by rfl)))))), ?_⟩
    rcases hx with ⟨a, xs, rfl, hlen, ha, hany, hsh, rfl⟩ | ⟨nt, rfl⟩
    · refine ⟨_, rfl, _, _, _, _, true, rfl, ClsV.ty _, .base (.tup ha), kit_ty (by decide +kernel), _, rfl, iteF ?_⟩
      cases xs with
      | nil =>
        refine ⟨_, rfl, a, _, rfl, .inr (SqT.of ha), rfl, _, rfl, iteT ?_⟩
        exact iteT (q H (Kp.refl H) tb)
      | cons x ps =>
        refine ⟨_, rfl, a, _, rfl, .inr (SqT.of ha), rfl, _, rfl, ?_⟩
        refine ite2 (fun e => ?_) (fun _ => ?_)
        · have z : ((x :: ps).length : Int) = 0 := V.int.inj (of_decide_eq_true e)
          rw [List.length_cons] at z
          omega
        · obtain ⟨t, ty, kt⟩ := str_ok (K := K) (hany x List.mem_cons_self)
          refine ⟨_, rfl, a, _, _, _, rfl, rfl, SqT.of ha, atI_nat (j := 0) rfl, _, _, _, _, _, rfl, ClsV.ty _, ty, kt, _, rfl, ?_⟩
          cases x with
          | str z =>
            refine iteF ?_
            refine ⟨_, rfl, 1, rfl, a, _, rfl, SqT.of ha, not_whole, fun pp np => ?_⟩
            have ec : cutV (V.str z :: ps) (some 1) none = ps := cut_tail _ _
            rw [ec]
            have s1 := same_new (o := .tup ps) np
            have hp1 : upd H pp (.tup ps) pp = some (.tup ps) := upd_same
            generalize upd H pp (.tup ps) = H1 at s1 hp1 ⊢
            have tb1 := tb.same s1
            refine ⟨pp, rfl, ⟨_, SqT.of hp1⟩, tb1.g T.mM, fun H2 tab => ?_⟩
            have k2 : Kp H H2 := (Kp.of_same s1).trans (Kp.of_tabd (tb1.g T.mM) tab)
            have k12 : Kp H1 H2 := Kp.of_tabd (tb1.g T.mM) tab
            have tb2 := tb1.tab T.nd T.mM (But.of_tab tab) tab.1
            refine gturns_it (walk_tup (xs := ps)) (fun i H3 => Kp H H3 ∧ Kp H1 H3 ∧ Tb T.tbs H3 ∧ (ps.take i).all natV = true) ⟨k2, k12, tb2, rfl⟩ (fun i H3 _ z => SqT.of (z.2.1.tup hp1)) ?_ (fun H3 z => ?_)
            · rintro i x H3 H4 N hi ⟨k3, k13, tb3, al⟩ ⟨rfl, hx⟩ nx
              have ax := (hany x (List.mem_cons_of_mem _ (List.mem_of_getElem? hx))).kp k3
              have no : natV x = false → Q (.bl false) H4 := fun e => by
                have z1 : markB (.str z :: ps) = false := by
                  show (ps.all natV && _) = false
                  have : ps.all natV = false := by
                    rw [List.all_eq_false]
                    exact ⟨x, List.mem_of_getElem? hx, by rw [e]; exact Bool.false_ne_true⟩
                  rw [this]
                  rfl
                have := q H4 k3 tb3
                rw [z1] at this
                exact this
              have yes : natV x = true → N H4 := fun e => nx H4 ⟨k3, k13, tb3, by rw [List.take_succ, hx, List.all_append, al]; show (true && (natV x && true)) = true; rw [e]; rfl⟩
              refine ⟨rfl, _, rfl, x, rfl, ax, _, rfl, ?_⟩
              cases x with
              | int n =>
                refine iteT ?_
                refine ⟨_, rfl, _, _, rfl, rfl, ?_⟩
                by_cases h0 : 0 ≤ n
                · exact ⟨true, congrArg V.bl (decide_eq_true h0), iteT (yes (decide_eq_true h0))⟩
                · exact ⟨false, congrArg V.bl (decide_eq_false h0), iteF ⟨_, rfl, iteT (no (decide_eq_false h0))⟩⟩
              | _ => exact iteF ⟨false, rfl, iteF ⟨_, rfl, iteT (no rfl)⟩⟩
            · obtain ⟨k3, k13, tb3, al⟩ := z
              rw [List.take_of_length_le (Nat.le_refl _)] at al
              have ha3 := k3.tup ha
              refine ⟨_, rfl, iteF ?_⟩
              refine ⟨_, rfl, a, _, _, _, rfl, rfl, SqT.of ha3, atI_nat (j := 0) rfl, _, rfl, a, _, rfl, .inr (SqT.of ha3), (by show 2 ≤ sizeLine; decide), fun p1 n1 => ?_⟩
              have u1 := same_new (o := .tup [.str z, .int ((V.str z :: ps).length : Int)]) n1
              have g1 : upd H3 p1 (.tup [.str z, .int ((V.str z :: ps).length : Int)]) p1 = some (.tup [.str z, .int ((V.str z :: ps).length : Int)]) := upd_same
              generalize upd H3 p1 (.tup [.str z, .int ((V.str z :: ps).length : Int)]) = H4 at u1 g1 ⊢
              refine ⟨(by show 2 ≤ sizeLine; decide), fun p2 n2 => ?_⟩
              have u2 := same_new (o := .tup [.str "point", .int 2]) n2
              have g2 : upd H4 p2 (.tup [.str "point", .int 2]) p2 = some (.tup [.str "point", .int 2]) := upd_same
              generalize upd H4 p2 (.tup [.str "point", .int 2]) = H5 at u2 g2 ⊢
              refine ⟨(by show 2 ≤ sizeLine; decide), fun p3 n3 => ?_⟩
              have u3 := same_new (o := .tup [.str "over", .int 3]) n3
              have g3 : upd H5 p3 (.tup [.str "over", .int 3]) p3 = some (.tup [.str "over", .int 3]) := upd_same
              generalize upd H5 p3 (.tup [.str "over", .int 3]) = H6 at u3 g3 ⊢
              refine ⟨(by show 2 ≤ sizeLine; decide), fun p4 n4 => ?_⟩
              have u4 := same_new (o := .tup [.ref p2, .ref p3]) n4
              have s36 := (u1.trans u2).trans (u3.trans u4)
              have sz := hsh z ps rfl
              have sd : SeqAt.shaped (.tuple [.str z, .int ((ps.length + 1 : Nat) : Int)]) = true := by
                have c := SeqAt.canLay_of_shaped sz
                unfold SeqAt.shaped
                rw [show PyData.canLay0 (.tuple [.str z, .int ((ps.length + 1 : Nat) : Int)]) = true by show (PyData.canLay0 (.str z) && true) = true; rw [c]; rfl]
                rfl
              refine ⟨.tuple [.str z, .int ((ps.length + 1 : Nat) : Int)], [.tuple [.str "point", .int 2], .tuple [.str "over", .int 3]], .tup (SqT.of (u4 _ _ (u3 _ _ (u2 _ _ g1)))) (.cons (.str z) (.cons (.int _) .nil)), .tup (SqT.of upd_same) (.cons (.tup (SqT.of (u4 _ _ (u3 _ _ g2))) (.cons (.str _) (.cons (.int _) .nil))) (.cons (.tup (SqT.of (u4 _ _ g3)) (.cons (.str _) (.cons (.int _) .nil))) .nil)), sd, by decide +kernel, ?_⟩
              have fin := q _ (k3.same s36) (tb3.same s36)
              have z1 : markB (.str z :: ps) = (decide (z = "point" ∧ ps.length = 1) || decide (z = "over" ∧ ps.length = 2)) := by
                show (ps.all natV && _) = _
                rw [al, Bool.true_and]
              rw [z1, ← mark_in] at fin
              exact fin
          | _ => exact iteT (q H (Kp.refl H) tb)
    · obtain ⟨t, ty, kt⟩ := notup_ok (K := K) nt
      refine ⟨_, rfl, _, _, _, _, false, rfl, ClsV.ty _, ty, kt, _, rfl, iteT ?_⟩
      exact iteT (q H (Kp.refl H) tb)
def spName (T : Top K mg) : Sp := fun vs H Q _ => ∃ (v : V) (b : Bool), vs = [v] ∧ Tb T.tbs H ∧ AnyV H v ∧ MkV H v b ∧ ∀ H', Kp H H' → Tb T.tbs H' → Q (.bl (wholeB v || b)) H'
theorem ok_name (T : Top K mg) (TB : GxR.TabB base mg T.cM T.PM) : FnOk P w K mg base CX0 4 T.a_isname T.d_isname ["thing"] (spName T) := by
  have G_iswhole : FnOk P w K mg base CX0 1 _ _ _ _ := ok_whole T
  have G_ismark : FnOk P w K mg base CX0 3 _ _ _ _ := ok_mark T TB
  refine T.F_isname.ok sc_isname (fun vs H Q E h => ?_) (fun cdv A outer s H vs Q E hr h => ?_)
  · obtain ⟨v, b, rfl, _⟩ := h
    rfl
  · obtain ⟨v, b, rfl, tb, av, mk, q⟩ := h
    refine ⟨_, (pss_one (ps_ret (pe_or (pe_call G_iswhole (hr.mono (by decide)) (by rfl) T.g_iswhole T.F_iswhole.kp T.b_iswhole .nil pass0 (pa_cons (pv 0) pa_nil)) (pe_one (pe_call G_ismark hr (by rfl) T.g_ismark T.F_ismark.kp T.b_ismark .nil pass0 (pa_cons (pv 0) pa_nil)))))), ?_⟩
    refine ⟨_, rfl, v, rfl, av, _, rfl, ?_⟩
    cases hw : wholeB v with
    | true =>
      refine iteT ?_
      have := q H (Kp.refl H) tb
      rw [hw] at this
      exact this
    | false =>
      refine iteF ?_
      refine ⟨_, rfl, v, b, rfl, tb, mk, fun H1 k1 tb1 => ?_⟩
      have := q H1 k1 tb1
      rw [hw] at this
      exact this
end

end My
namespace My
open PySem L2
/-! ### rows of shapes -/
def nmB (v : V) (m : Bool) : Bool := wholeB v || m
def orB (v : V) (m : Bool) : Bool := decide (v = .non) || nmB v m
def shB : List V → List Bool → Bool
  | [n, l, r, a, t], [mn, ml, mr, ma, _] => nmB n mn && (isBoolV t && (orB l ml && (orB r mr && orB a ma)))
  | _, _ => false
theorem shB_len {xs : List V} {ms : List Bool} (h : xs.length ≠ 5) : shB xs ms = false := by
  unfold shB
  split
  · exact absurd rfl h
  · rfl
inductive Mks (H : Hp) : List V → List Bool → Prop
  | nil : Mks H [] []
  | cons {v : V} {m : Bool} {vs : List V} {ms : List Bool} : AnyV H v → MkV H v m → Mks H vs ms → Mks H (v :: vs) (m :: ms)
def ShV (H : Hp) (v : V) (b : Bool) : Prop := (∃ (a : Addr) (xs : List V) (ms : List Bool), v = .ref a ∧ xs.length ≤ 1000 ∧ H a = some (.tup xs) ∧ Mks H xs ms ∧ b = shB xs ms) ∨ (NoTup H v ∧ b = false)
theorem MkV.kp {H H' : Hp} (k : Kp H H') {v : V} {b : Bool} (h : MkV H v b) : MkV H' v b := by
  rcases h with ⟨a, xs, e, hl, ha, hany, hs, hb⟩ | ⟨nt, hb⟩
  · exact .inl ⟨a, xs, e, hl, k _ _ ha (by intro ps z; cases z), fun x m => (hany x m).kp k, hs, hb⟩
  · exact .inr ⟨nt.kp k, hb⟩
section
variable {P : Program} {w : World} {K : PySem.W.Frag} {mg : Str → Option Value} {base : Heap}
def spShRow (T : Top K mg) : Sp := fun vs H Q _ => ∃ (v : V) (b : Bool), vs = [v] ∧ Tb T.tbs H ∧ ShV H v b ∧ ∀ H', Kp H H' → Tb T.tbs H' → Q (.bl b) H'
theorem ok_shrow (T : Top K mg) (TM : GxR.TabB base mg T.cM T.PM) (TB : GxR.TabB base mg T.cS T.PS) : FnOk P w K mg base CX0 6 T.a_isshaperow T.d_isshaperow ["thing"] (spShRow T) := by
  have G_isname : FnOk P w K mg base CX0 4 _ _ _ _ := ok_name T TM
  refine okC T.F_isshaperow T.hcS sc_isshaperow (fun vs H Q E h => ?_) (fun A outer s H vs Q E hr h => ?_)
  · obtain ⟨v, b, rfl, _⟩ := h
    rfl
  · obtain ⟨v, b, rfl, tb, hx, q⟩ := h
    refine ⟨_, (pss_cons (ps_if (PW.pt (pw_or (pt_not (pt_val (pe_callB call_isi (by rfl) T.m_isinstance (by decide +kernel) (pa_cons (pv 0) (pa_cons (pe_bltn (v := .ty "tuple") (by rfl) T.m_tuple (by decide +kernel) rfl) pa_nil))))) (pw_or1 (pt_cmpR op_ne (pe_callB call_len_seq (by rfl) T.m_len PySem.boot_len (pa_cons (pv 0) pa_nil)) pe_int (nomark _))))) (pss_one (ps_ret pe_bl)) pss_nil)
      (pss_cons (ps_asg (pv 0) (pg_tup rfl (pgs_cons (pg_name (i := 1) sc_isshaperow.nd rfl (.inl rfl)) (pgs_cons (pg_name (i := 2) sc_isshaperow.nd rfl (.inl rfl)) (pgs_cons (pg_name (i := 3) sc_isshaperow.nd rfl (.inl rfl)) (pgs_cons (pg_name (i := 4) sc_isshaperow.nd rfl (.inl rfl)) (pgs_cons (pg_name (i := 5) sc_isshaperow.nd rfl (.inl rfl)) pgs_nil)))))))
      (pss_cons (ps_if (PW.pt (pw_or (pt_not (pt_val (pe_call G_isname (hr.mono (by decide)) (by rfl) T.g_isname T.F_isname.kp T.b_isname .nil pass0 (pa_cons (pv 1) pa_nil)))) (pw_or1 (pt_not (pt_val (pe_callB call_isi (by rfl) T.m_isinstance (by decide +kernel) (pa_cons (pv 5) (pa_cons (pe_bltn (v := .ty "bool") (by rfl) T.m_bool (by decide +kernel) rfl) pa_nil)))))))) (pss_one (ps_ret pe_bl)) pss_nil)
      (pss_one (ps_ret (pe_allG (own := [("other", 6)]) hr rfl sc_isshaperow.nd (by rfl) T.m_all (by decide +kernel) TB rfl (blkOk_by (own := [("other", 6)]) (N := ["thing", "name", "left", "right", "above", "turned", "other"]) (sc := defScope s_isshaperow) (by decide +kernel)) (by rfl) (by decide +kernel) (by rfl) (pi_tup (pe_tup (pa_cons (pv 2) (pa_cons (pv 3) (pa_cons (pv 4) pa_nil))))) (fun _ _ _ _ _ _ _ => (pg_name (i := 6) sc_isshaperow.nd rfl (.inl rfl) (hf := Or.inr rfl))) (fun _ _ _ _ _ _ _ hr' => (pe_or (pe_cmpR op_isN (pv 6) pe_non (nomark _)) (pe_one (pe_call G_isname hr' (by rfl) T.g_isname T.F_isname.kp T.b_isname .nil pass0 (pa_cons (pv 6) pa_nil))))))))))), ?_⟩
    rcases hx with ⟨a, xs, ms, rfl, hlen, ha, mk, rfl⟩ | ⟨nt, rfl⟩
    · refine ⟨_, rfl, _, _, _, _, true, rfl, ClsV.ty _, .base (.tup ha), kit_ty (by decide +kernel), _, rfl, iteF ?_⟩
      refine ⟨_, rfl, a, _, rfl, .inr (SqT.of ha), rfl, _, rfl, ite2 (fun e => ?_) (fun e => ?_)⟩
      · have z : xs.length ≠ 5 := fun z => by
          rw [z] at e
          exact nomatch e
        have := q H (Kp.refl H) tb
        rw [shB_len z] at this
        exact this
      · have z : xs.length = 5 := by
          by_cases z : xs.length = 5
          · exact z
          · exfalso
            apply e
            have : decide (V.int (xs.length : Int) = V.int 5) = false := decide_eq_false fun y => z (by have := V.int.inj y; omega)
            show (!decide (V.int (xs.length : Int) = V.int 5)) = true
            rw [this]
            rfl
        cases mk with
        | nil => exact nomatch z
        | @cons n mn xs ms an kn mk =>
        cases mk with
        | nil => exact nomatch z
        | @cons l ml xs ms al kl mk =>
        cases mk with
        | nil => exact nomatch z
        | @cons r mr xs ms ar kr mk =>
        cases mk with
        | nil => exact nomatch z
        | @cons u mu xs ms au ku mk =>
        cases mk with
        | nil => exact nomatch z
        | @cons t mt xs ms at_ kt mk =>
        cases mk with
        | cons _ _ _ => exact absurd z (by simp [List.length_cons])
        | nil =>
          refine ⟨_, rfl, a, _, rfl, SqT.of ha, rfl, _, _, rfl, _, _, rfl, _, _, rfl, _, _, rfl, _, _, rfl, rfl, ?_⟩
          have qn : ∀ {H' : Hp}, Kp H H' → Tb T.tbs H' → shB [n, l, r, u, t] [mn, ml, mr, mu, mt] = false → Q (.bl false) H' := fun {H'} k tb' e => by
            have := q H' k tb'
            rw [e] at this
            exact this
          refine ⟨_, rfl, n, mn, rfl, tb, an, kn, fun H1 k1 tb1 => ?_⟩
          have en : shB [n, l, r, u, t] [mn, ml, mr, mu, mt] = ((wholeB n || mn) && (isBoolV t && (orB l ml && (orB r mr && orB u mu)))) := rfl
          generalize (wholeB n || mn) = bn at en ⊢
          cases bn with
          | false => exact ⟨_, rfl, iteT (iteT (qn k1 tb1 (by rw [en]; rfl)))⟩
          | true =>
            refine ⟨_, rfl, iteF ?_⟩
            obtain ⟨tt, ty, kt'⟩ := bool_ok (K := K) (at_.kp k1)
            refine ⟨_, rfl, _, _, _, _, _, rfl, ClsV.ty _, ty, kt', ?_⟩
            generalize isBoolV t = bt at en ⊢
            cases bt with
            | false => exact ⟨_, rfl, iteT (qn k1 tb1 (by rw [en]; rfl))⟩
            | true =>
              refine ⟨_, rfl, iteF ?_⟩
              refine ⟨_, rfl, _, rfl, _, rfl, (by show 3 ≤ sizeLine; decide), fun p np => ?_⟩
              have sp := same_new (o := .tup [l, r, u]) np
              have hp : upd H1 p (.tup [l, r, u]) p = some (.tup [l, r, u]) := upd_same
              generalize upd H1 p (.tup [l, r, u]) = H2 at sp hp ⊢
              have tb2 := tb1.same sp
              refine ⟨p, rfl, ⟨_, SqT.of hp⟩, tb2.g T.mS, fun H3 tab => ?_⟩
              have k23 := Kp.of_tabd (tb2.g T.mS) tab
              have tb3 := tb2.tab T.nd T.mS (But.of_tab tab) tab.1
              have k3 : Kp H H3 := (k1.same sp).trans k23
              refine gturns_it (walk_tup (xs := [l, r, u])) (fun i H4 => Kp H H4 ∧ H4 p = some (.tup [l, r, u]) ∧ Tb T.tbs H4 ∧ ([(l, ml), (r, mr), (u, mu)].take i).all (fun o => orB o.1 o.2) = true) ⟨k3, k23.tup hp, tb3, rfl⟩ (fun i H4 _ z => SqT.of z.2.1) ?_ (fun H4 z => ?_)
              · rintro i x H4 H5 N hi ⟨k4, hp4, tb4, al4⟩ ⟨rfl, hx⟩ nx
                have om : ∃ m, [(l, ml), (r, mr), (u, mu)][i]? = some (x, m) ∧ AnyV H x ∧ MkV H x m := by
                  match i, hx with
                  | 0, hx => cases Option.some.inj hx; exact ⟨ml, rfl, al, kl⟩
                  | 1, hx => cases Option.some.inj hx; exact ⟨mr, rfl, ar, kr⟩
                  | 2, hx => cases Option.some.inj hx; exact ⟨mu, rfl, au, ku⟩
                  | i + 3, hx => exact absurd hi (by show ¬ i + 3 < 3; omega)
                obtain ⟨m, hm, ax, mx⟩ := om
                have yes : orB x m = true → ∀ H6, Kp H5 H6 → Tb T.tbs H6 → N H6 := fun e H6 k6 tb6 => nx H6 ⟨k4.trans k6, k6.tup hp4, tb6, by rw [List.take_succ, hm, List.all_append, al4]; show (true && (orB x m && true)) = true; rw [e]; rfl⟩
                have no : orB x m = false → shB [n, l, r, u, t] [mn, ml, mr, mu, mt] = false := fun e => by
                  rw [en]
                  have ef : [(l, ml), (r, mr), (u, mu)].all (fun o => orB o.1 o.2) = false := by
                    rw [List.all_eq_false]
                    exact ⟨(x, m), List.mem_of_getElem? hm, by show ¬ orB x m = true; rw [e]; exact Bool.false_ne_true⟩
                  have ef : (orB l ml && (orB r mr && (orB u mu && true))) = false := ef
                  rw [Bool.and_true] at ef
                  rw [ef]
                  rfl
                refine ⟨rfl, _, rfl, rfl, _, rfl, ite2 (fun e => ?_) (fun e => ?_)⟩
                · refine ⟨true, rfl, iteT (yes ?_ _ (Kp.refl _) tb4)⟩
                  unfold orB
                  rw [e]
                  rfl
                · refine ⟨_, rfl, x, m, rfl, tb4, ax.kp k4, mx.kp k4, fun H6 k6 tb6 => ?_⟩
                  have eo : orB x m = (wholeB x || m) := by
                    unfold orB
                    rw [Bool.eq_false_iff.mpr e]
                    rfl
                  generalize (wholeB x || m) = bx at eo ⊢
                  cases bx with
                  | true => exact ⟨true, rfl, iteT (yes eo _ k6 tb6)⟩
                  | false => exact ⟨false, rfl, iteF (qn (k4.trans k6) tb6 (no eo))⟩
              · obtain ⟨k4, hp4, tb4, al4⟩ := z
                have := q H4 k4 tb4
                have ef : (orB l ml && (orB r mr && (orB u mu && true))) = true := al4
                rw [Bool.and_true] at ef
                rw [en, ef] at this
                exact this
    · obtain ⟨t, ty, kt⟩ := notup_ok (K := K) nt
      refine ⟨_, rfl, _, _, _, _, false, rfl, ClsV.ty _, ty, kt, _, rfl, iteT ?_⟩
      exact iteT (q H (Kp.refl H) tb)
end

end My
namespace My
open PySem L2
/-! ### names below, rings above -/
def okD (d : List (Key × V)) : Prop := ∀ kv ∈ d, kv.2 = .non ∨ ∃ n : Int, kv.2 = .int n
def okG (d : List (Key × V)) : Prop := ∀ kv ∈ d, ∃ n : Int, kv.2 = .int n
theorem valV_mem {κ : Type} [DecidableEq κ] {d : List (κ × V)} {k : κ} {v : V} (h : valV d k = some v) : (k, v) ∈ d := by
  induction d with
  | nil => exact nomatch h
  | cons p r ih =>
    by_cases e : p.1 = k
    · rw [valV_pos e] at h
      cases h
      subst e
      exact List.mem_cons_self
    · have : valV (p :: r) k = valV r k := by
        unfold valV
        rw [List.find?_cons_of_neg (by simpa using e)]
      rw [this] at h
      exact List.mem_cons_of_mem _ (ih h)
theorem putK_mem {κ : Type} [DecidableEq κ] {d : List (κ × V)} {k : κ} {v : V} {kv : κ × V} (h : kv ∈ putK d k v) : kv ∈ d ∨ kv = (k, v) := by
  unfold putK at h
  split at h
  · obtain ⟨x, mx, e⟩ := List.mem_map.mp h
    split at e
    · rename_i e2
      subst e2
      exact .inr e.symm
    · subst e
      exact .inl mx
  · rcases List.mem_append.mp h with h | h
    · exact .inl h
    · exact .inr (List.mem_singleton.mp h)
def stopB (g : List (Key × V)) : V → Bool
  | .int n => (valV g (.inl n)).isSome
  | _ => true
def walkR (d : List (Key × V)) (s : Int) : Nat → List (Key × V) → V → Option (List (Key × V) × V)
  | 0, g, v => if stopB g v then some (g, v) else none
  | k + 1, g, v => if stopB g v then some (g, v) else match v with
    | .int n => (match valV d (.inl n) with
      | some u => walkR d s k (putK g (.inl n) (.int s)) u
      | none => none)
    | _ => none
def ringR (d : List (Key × V)) : List (Key × V) → List (Key × V) → Option Bool
  | [], _ => some false
  | (.inl s, _) :: r, g => match walkR d s (d.length + 1) g (.int s) with
    | none => none
    | some (g', v) => match v with
      | .int n => if valV g' (.inl n) = some (.int s) then some true else ringR d r g'
      | _ => ringR d r g'
  | _, _ => none
def belB (d : List (Key × V)) (c : Int) (n : Int) : Bool := match valV d (.inl c) with
  | some v => decide (v = .int n)
  | none => false
theorem notNo {k : Key} : decide (kV k = V.non) = false := by cases k <;> rfl
section
variable {P : Program} {w : World} {K : PySem.W.Frag} {mg : Str → Option Value} {base : Heap}
def spRisL (T : Top K mg) : Sp := fun vs H Q _ => ∃ (a : Addr) (xs : List V) (b : Bool), vs = [.ref a] ∧ H a = some (.lst xs) ∧ ((∃ v, xs = [v] ∧ b = true) ∨ (xs = [] ∧ b = true) ∨ ∃ x y : Int, xs = [.int x, .int y] ∧ b = decide (x < y)) ∧ Tb T.tbs H ∧ ∀ H', Kp H H' → Tb T.tbs H' → Q (.bl b) H'
theorem ok_risL (T : Top K mg) (TB : GxR.TabB base mg T.cR T.PR) : FnOk P w K mg base CX0 2 T.a_isrising T.d_isrising ["row"] (spRisL T) := by
  refine okC T.F_isrising T.hcR sc_isrising (fun vs H Q E h => ?_) (fun A outer s H vs Q E hr h => ?_)
  · obtain ⟨a, xs, b, rfl, _⟩ := h
    rfl
  · obtain ⟨a, xs, b, rfl, ha, hx, tb, q⟩ := h
    refine ⟨_, (pss_one (ps_ret (pe_allG (own := [("low", 1), ("high", 2)]) hr rfl sc_isrising.nd (by rfl) T.m_all (by decide +kernel) TB rfl (blkOk_by (own := [("low", 1), ("high", 2)]) (N := ["row", "low", "high"]) (sc := defScope s_isrising) (by decide +kernel)) (by rfl) (by decide +kernel) (by rfl) (pi_zip (by rfl) T.m_zip (pa_cons (pv 0) (pa_cons (pe_slice sl_list (pv 0) (po_some pe_int) po_none) pa_nil))) (fun _ _ _ _ _ _ _ => (pg_tupK (K := K) (n := 2) rfl rfl (pgs_cons (pg_name (i := 1) sc_isrising.nd rfl (.inl rfl) (hf := Or.inr rfl)) (pgs_cons (pg_name (i := 2) sc_isrising.nd rfl (.inl rfl) (hf := Or.inr rfl)) pgs_nil)) rfl)) (fun _ _ _ _ _ _ _ hr' => (pe_cmpR op_lt (pv 1) (pv 2) (nomark _)))))), ?_⟩
    refine ⟨_, rfl, _, rfl, 1, rfl, a, _, rfl, SqL.of ha, fun p np => ?_⟩
    have ec : cutV xs (some 1) none = xs.tail := by
      rcases hx with ⟨v, rfl, _⟩ | ⟨rfl, _⟩ | ⟨x, y, rfl, _⟩
      · rfl
      · rfl
      · rfl
    rw [ec]
    have sp := same_new (o := .lst xs.tail) np
    have hp : upd H p (.lst xs.tail) p = some (.lst xs.tail) := upd_same
    have ha1 := sp _ _ ha
    have tb1 := tb.same sp
    have k1 := Kp.of_same sp
    generalize upd H p (.lst xs.tail) = H1 at sp hp ha1 tb1 k1 ⊢
    refine ⟨a, p, _, _, rfl, SqL.of ha1, SqL.of hp, tb1.g T.mR, fun H2 tab => ?_⟩
    have k2 := Kp.of_tabd (tb1.g T.mR) tab
    have tb2 := tb1.tab T.nd T.mR (But.of_tab tab) tab.1
    have ll : ∀ {H3 : Hp} {c : Addr} {zs : List V}, Kp H1 H3 → H1 c = some (.lst zs) → H3 c = some (.lst zs) := fun k e => k _ _ e (by intro ps z; cases z)
    rcases hx with ⟨v, rfl, rfl⟩ | ⟨rfl, rfl⟩ | ⟨x, y, rfl, rfl⟩
    · refine gturns_it (walk_zip (xs := [v]) (ys := []) (n := 0) rfl) (fun i H3 => Kp H1 H3 ∧ Tb T.tbs H3) ⟨k2, tb2⟩ (fun i H3 _ z => ⟨SqL.of (ll z.1 ha1), SqL.of (ll z.1 hp)⟩) (fun i x H3 H4 N hi => absurd hi (Nat.not_lt_zero _)) (fun H3 z => q H3 (k1.trans z.1) z.2)
    · refine gturns_it (walk_zip (xs := []) (ys := []) (n := 0) rfl) (fun i H3 => Kp H1 H3 ∧ Tb T.tbs H3) ⟨k2, tb2⟩ (fun i H3 _ z => ⟨SqL.of (ll z.1 ha1), SqL.of (ll z.1 hp)⟩) (fun i x H3 H4 N hi => absurd hi (Nat.not_lt_zero _)) (fun H3 z => q H3 (k1.trans z.1) z.2)
    · refine gturns_it (walk_zip (xs := [.int x, .int y]) (ys := [.int y]) (n := 1) rfl) (fun i H3 => Kp H1 H3 ∧ Tb T.tbs H3 ∧ (i = 1 → x < y)) ⟨k2, tb2, fun z => nomatch z⟩ (fun i H3 _ z => ⟨SqL.of (ll z.1 ha1), SqL.of (ll z.1 hp)⟩) ?_ (fun H3 z => ?_)
      · rintro i v H3 H4 N hi ⟨k3, tb3, _⟩ ⟨t, u, v, rfl, nt, rfl, hu, hv⟩ nx
        obtain rfl : i = 0 := by omega
        dsimp only at hu hv
        cases Option.some.inj hu
        cases Option.some.inj hv
        have st := same_new (o := .tup [V.int x, V.int y]) nt
        refine ⟨t, _, rfl, SqT.of upd_same, rfl, _, _, rfl, _, _, rfl, rfl, rfl, _, rfl, _, rfl, _, _, rfl, rfl, decide (x < y), rfl, ?_⟩
        by_cases e : x < y
        · rw [decide_eq_true e]
          exact iteT (nx _ ⟨k3.same st, tb3.same st, fun _ => e⟩)
        · have z := q _ ((k1.trans k3).same st) (tb3.same st)
          rw [decide_eq_false e] at z ⊢
          exact iteF z
      · have z1 := q H3 (k1.trans z.1) z.2.1
        rw [decide_eq_true (z.2.2 rfl)] at z1
        exact z1
def spBelow : Sp := fun vs H Q _ => ∃ (d : Addr) (c : Int) (nm : V) (b : Bool), vs = [.ref d, .int c, nm] ∧ ((∃ (kvs : List (Key × V)) (n : Int), H d = some (.dK kvs) ∧ okD kvs ∧ nm = .int n ∧ b = belB kvs c n) ∨ ∃ k : List Key, H d = some (.dT [(k, .non)]) ∧ PyData.canLayAll0 (k.map keyD) = true ∧ b = false) ∧ Q (.bl b) H
theorem ok_below (T : Top K mg) : FnOk P w K mg base CX0 1 T.a_isbelow T.d_isbelow ["above", "child", "name"] spBelow := by
  refine T.F_isbelow.ok sc_isbelow (fun vs H Q E h => ?_) (fun cdv A outer s H vs Q E hr h => ?_)
  · obtain ⟨d, c, nm, b, rfl, _⟩ := h
    rfl
  · obtain ⟨d, c, nm, b, rfl, hx, q⟩ := h
    refine ⟨_, (pss_one (ps_ret (pe_and (pe_cmp (pc_dinX (u1 hr) (pv 1) (pv 0))) (pe_one (pe_cmpR (op_eqD hr.units) (pe_dget (u1 hr) (pv 0) (pv 1) (fun _ _ => rfl)) (pv 2) (nomark _)))))), ?_⟩
    rcases hx with ⟨kvs, n, hd, ok, rfl, rfl⟩ | ⟨k, hd, lay, rfl⟩
    · refine ⟨_, rfl, _, rfl, d, rfl, .inl ⟨_, DGet.k (k := .inl c) hd, ?_⟩⟩
      unfold belB at q
      cases e : valV kvs (.inl c) with
      | none =>
        rw [e] at q
        exact ⟨false, rfl, iteF q⟩
      | some v =>
        rw [e] at q
        refine ⟨true, rfl, iteT ?_⟩
        have g : DGet H d (kV (.inl c)) (some v) := by
          rw [← e]
          exact DGet.k hd
        refine ⟨_, rfl, _, rfl, d, v, rfl, g, _, rfl, ?_⟩
        rcases ok _ (valV_mem e) with e2 | ⟨m, e2⟩
        · dsimp only at e2
          subst e2
          exact ⟨_, _, .non, .int n, rfl, rfl, q⟩
        · dsimp only at e2
          subst e2
          refine ⟨_, _, .int m, .int n, rfl, rfl, ?_⟩
          have z : PyData.eqv (.int m) (.int n) = decide (V.int m = V.int n) := by
            rw [Bool.eq_iff_iff, decide_eq_true_eq]
            show (m == n) = true ↔ _
            rw [beq_iff_eq]
            exact ⟨fun h => h ▸ rfl, fun h => V.int.inj h⟩
          rw [z]
          exact q
    · refine ⟨_, rfl, _, rfl, d, rfl, .inr ⟨c, _, rfl, .inl hd, Nat.le_refl _, fun kv m => ?_, false, rfl, iteF q⟩⟩
      rw [List.mem_singleton.mp m]
      exact lay
def RgV (H : Hp) (d : Addr) (b : Bool) : Prop := (∃ kvs : List (Key × V), H d = some (.dK kvs) ∧ okD kvs ∧ kvs.length ≤ 10 ∧ ringR kvs kvs [] = some b) ∨ ∃ k : List Key, H d = some (.dT [(k, .non)]) ∧ b = false
def spRing : Sp := fun vs H Q _ => ∃ (d : Addr) (b : Bool), vs = [.ref d] ∧ RgV H d b ∧ ∀ H', Same H H' → Q (.bl b) H'
theorem ok_ring (T : Top K mg) : FnOk P w K mg base CX0 1 T.a_hasringabove T.d_hasringabove ["above"] spRing := by
  refine T.F_hasringabove.ok sc_hasringabove (fun vs H Q E h => ?_) (fun cdv A outer s H vs Q E hr h => ?_)
  · obtain ⟨d, b, rfl, _⟩ := h
    rfl
  · obtain ⟨d, b, rfl, hx, q⟩ := h
    rcases hx with ⟨kvs, hd, ok, hl, hb⟩ | ⟨k, hd, rfl⟩
    · refine ⟨_, (pss_cons (ps_set (i := 1) sc_hasringabove.nd rfl (.inl rfl) pe_dnewK)
      (pss_cons (ps_lock (ps_for PassesOwn.never rfl (pi_keys (pv 0)) (pg_name (i := 2) sc_hasringabove.nd rfl (.inl rfl)) (pss_cons (ps_set (i := 3) sc_hasringabove.nd rfl (.inl rfl) (pv 2))
      (pss_cons (ps_while PassesOwn.never (PW.pt (pw_and (pt_cmpR op_notN (pv 3) pe_non (nomark _)) (pw_and1 (pt_cmp (pc_dnotin (u1 hr) (pv 3) (pv 1)))))) (pss_cons (ps_dput (u1 hr) (pv 1) (pv 3) (pv 2) rfl)
      (pss_one (ps_set (i := 3) sc_hasringabove.nd rfl (.inl rfl) (pe_dget (u1 hr) (pv 0) (pv 3) (fun _ _ => rfl))))))
      (pss_one (ps_if (PW.pt (pw_and (pt_cmpR op_notN (pv 3) pe_non (nomark _)) (pw_and1 (pt_cmpR (op_eqD hr.units) (pe_dget (u1 hr) (pv 1) (pv 3) (fun _ _ => rfl)) (pv 2) (nomark _))))) (pss_one (ps_ret pe_bl)) pss_nil))))))
      (pss_one (ps_ret pe_bl)))), fun g ng => ?_⟩
      have sg := same_new (o := .dK []) ng
      have hg : upd H g (.dK []) g = some (.dK []) := upd_same
      have ndg : d ≠ g := fun z => by
        rw [z, ng] at hd
        cases hd
      have hd1 := sg _ _ hd
      generalize upd H g (.dK []) = H1 at sg hg hd1 ⊢
      refine ⟨d, _, hd1, trivial, fun od => ?_⟩
      refine ⟨_, rfl, d, od, rfl, .inl ⟨_, upd_same, ?_⟩⟩
      have fin : ∀ {b' : Bool} {H2 : Hp}, b' = b → H2 d = some (.frz od (.dK kvs)) → (∀ c o, c ≠ d → c ≠ g → H1 c = some o → H2 c = some o) → Q (.bl b') (upd H2 d (.dK kvs)) := fun {b' H2} e hd2 k2 => by
        subst e
        refine q _ fun c o e => ?_
        by_cases z : c = d
        · subst z
          rw [upd_same, ← e, hd]
        · rw [upd_ne z]
          refine k2 c o z (fun y => ?_) (sg _ _ e)
          rw [y, ng] at e
          cases e
      refine for_it walk_keys (fun i σ H2 => ∃ (gs : List (Key × V)) (y2 y3 : Option V), σ = [some (.ref d), some (.ref g), y2, y3] ∧ H2 d = some (.frz od (.dK kvs)) ∧ H2 g = some (.dK gs) ∧ okG gs ∧ gs.length ≤ 11 * i ∧ ringR kvs (kvs.drop i) gs = some b ∧ ∀ c o, c ≠ d → c ≠ g → H1 c = some o → H2 c = some o) ⟨[], none, none, rfl, upd_same, by rw [upd_ne ndg.symm]; exact hg, (fun kv m => nomatch m), Nat.le_refl _, hb, fun c o n1 _ e => by rw [upd_ne n1]; exact e⟩ (fun i σ H2 _ z => by obtain ⟨_, _, _, _, z, _⟩ := z; exact z) ?_ ?_
      · rintro i v σ H2 H3 hi ⟨gs, y2, y3, rfl, hd2, hg2, og, lg, rg, k2⟩ ⟨rfl, k, u, ek, rfl⟩
        have hdrop : kvs.drop i = (k, u) :: kvs.drop (i + 1) := by
          obtain ⟨h1, h2⟩ := List.getElem?_eq_some_iff.mp ek
          rw [List.drop_eq_getElem_cons h1, h2]
        rw [hdrop] at rg
        cases k with
        | inr x => exact nomatch rg
        | inl st =>
        refine ⟨_, rfl, ?_⟩
        unfold ringR at rg
        cases ew : walkR kvs st (kvs.length + 1) gs (.int st) with
        | none =>
          rw [ew] at rg
          exact nomatch rg
        | some r =>
        obtain ⟨gE, vE⟩ := r
        rw [ew] at rg
        dsimp only at rg
        refine ⟨fun k σ H4 => ∃ (gs : List (Key × V)) (v : V), σ = [some (.ref d), some (.ref g), some (.int st), some v] ∧ H4 d = some (.frz od (.dK kvs)) ∧ H4 g = some (.dK gs) ∧ okG gs ∧ gs.length + k ≤ 11 * i + 11 ∧ walkR kvs st k gs v = some (gE, vE) ∧ (v = .non ∨ ∃ n : Int, v = .int n) ∧ ∀ c o, c ≠ d → c ≠ g → H1 c = some o → H4 c = some o, ⟨kvs.length + 1, gs, .int st, rfl, hd2, hg2, og, by omega, ew, .inr ⟨st, rfl⟩, k2⟩, ?_⟩
        rintro k σ H4 ⟨g4, v, rfl, hd4, hg4, og4, lg4, ew4, hv, k4⟩
        have stopped : stopB g4 v = true → g4 = gE ∧ v = vE := fun e => by
          cases k with
          | zero =>
            unfold walkR at ew4
            rw [if_pos e] at ew4
            cases ew4
            exact ⟨rfl, rfl⟩
          | succ k =>
            unfold walkR at ew4
            rw [if_pos e] at ew4
            cases ew4
            exact ⟨rfl, rfl⟩
        have nxt : ∀ {y2 y3 : Option V}, (∀ n : Int, vE = .int n → valV gE (.inl n) ≠ some (.int st)) → (g4 = gE ∧ v = vE) → ∃ (gs : List (Key × V)) (z2 z3 : Option V), [some (V.ref d), some (V.ref g), y2, y3] = [some (.ref d), some (.ref g), z2, z3] ∧ H4 d = some (.frz od (.dK kvs)) ∧ H4 g = some (.dK gs) ∧ okG gs ∧ gs.length ≤ 11 * (i + 1) ∧ ringR kvs (kvs.drop (i + 1)) gs = some b ∧ ∀ c o, c ≠ d → c ≠ g → H1 c = some o → H4 c = some o := fun {y2 y3} no ⟨e1, e2⟩ => by
          subst e1 e2
          refine ⟨g4, _, _, rfl, hd4, hg4, og4, by omega, ?_, k4⟩
          rcases hv with rfl | ⟨n, rfl⟩
          · exact rg
          · dsimp only at rg
            rw [if_neg (no n rfl)] at rg
            exact rg
        rcases hv with rfl | ⟨n, rfl⟩
        · obtain ⟨e1, e2⟩ := stopped rfl
          refine ⟨_, rfl, rfl, _, rfl, iteF ?_⟩
          refine iteF ?_
          refine ⟨_, rfl, rfl, _, rfl, iteF ?_⟩
          exact iteF (nxt (fun n z => by rw [← e2] at z; cases z) ⟨e1, e2⟩)
        · refine ⟨_, rfl, rfl, _, rfl, iteT ?_⟩
          refine ⟨_, rfl, _, rfl, g, _, rfl, DGet.k (k := .inl n) hg4, ?_⟩
          cases eg : valV g4 (.inl n) with
          | some z =>
            obtain ⟨e1, e2⟩ := stopped (by show (valV g4 (.inl n)).isSome = true; rw [eg]; rfl)
            refine ⟨_, rfl, iteF ?_⟩
            refine ⟨_, rfl, rfl, _, rfl, iteT ?_⟩
            have gg : DGet H4 g (kV (.inl n)) (some z) := by
              rw [← eg]
              exact DGet.k hg4
            obtain ⟨m, em⟩ := og4 _ (valV_mem eg)
            dsimp only at em
            subst em
            refine ⟨_, rfl, _, rfl, g, _, rfl, gg, _, rfl, _, _, .int m, .int st, rfl, rfl, ?_⟩
            have ez : PyData.eqv (.int m) (.int st) = decide (m = st) := by
              rw [Bool.eq_iff_iff, decide_eq_true_eq]
              show (m == st) = true ↔ _
              rw [beq_iff_eq]
            rw [ez]
            by_cases ems : m = st
            · rw [decide_eq_true ems]
              refine ⟨_, rfl, iteT ⟨hd4, fin ?_ hd4 k4⟩⟩
              rw [← e1, ← e2] at rg
              dsimp only at rg
              rw [eg, ems, if_pos rfl] at rg
              exact Option.some.inj rg
            · rw [decide_eq_false ems]
              refine ⟨_, rfl, iteF (nxt (fun n' z => ?_) ⟨e1, e2⟩)⟩
              rw [← e2] at z
              cases z
              rw [← e1, eg]
              intro y
              exact ems (V.int.inj (Option.some.inj y))
          | none =>
            have es : stopB g4 (.int n) = false := by
              show (valV g4 (.inl n)).isSome = false
              rw [eg]
              rfl
            cases k with
            | zero =>
              unfold walkR at ew4
              rw [es, if_neg (by decide)] at ew4
              exact nomatch ew4
            | succ k =>
            unfold walkR at ew4
            rw [es, if_neg (by decide)] at ew4
            dsimp only at ew4
            cases ed : valV kvs (.inl n) with
            | none =>
              rw [ed] at ew4
              exact nomatch ew4
            | some u' =>
            rw [ed] at ew4
            dsimp only at ew4
            refine ⟨_, rfl, iteT ?_⟩
            refine ⟨fun σ' H' => ∃ v, (v = .non ∨ ∃ n : Int, v = .int n) ∧ σ' = [some (.ref d), some (.ref g), some (.int st), some v] ∧ H' d = some (.frz od (.dK kvs)) ∧ H' g = some (.dK (putK g4 (.inl n) (.int st))) ∧ walkR kvs st k (putK g4 (.inl n) (.int st)) v = some (gE, vE) ∧ ∀ c o, c ≠ d → c ≠ g → H1 c = some o → H' c = some o, fun σ' H' z => ?_, ?_⟩
            · obtain ⟨v, hv, e1, z1, z2, z3, z4⟩ := z
              refine ⟨k, Nat.lt_succ_self _, _, v, e1, z1, z2, fun kv m => ?_, ?_, z3, hv, z4⟩
              · rcases putK_mem m with m | rfl
                · exact og4 _ m
                · exact ⟨st, rfl⟩
              · have := length_putK g4 (.inl n) (.int st)
                omega
            · refine ⟨_, rfl, _, rfl, _, rfl, g, _, rfl, DPut.k (k := .inl n) hg4 ?_, ?_⟩
              · have : (512 : Nat) ≤ sizeLine := by decide
                omega
              have hd5 : upd H4 g (.dK (putK g4 (.inl n) (.int st))) d = some (.frz od (.dK kvs)) := by
                rw [upd_ne ndg]
                exact hd4
              have hv' := ok _ (valV_mem ed)
              refine ⟨_, rfl, _, rfl, d, u', rfl, .inl ⟨kvs, .inl n, .inr ⟨od, hd5⟩, rfl, ed.symm⟩, u', hv', rfl, hd5, upd_same, ew4, fun c o n1 n2 e => ?_⟩
              rw [upd_ne n2]
              exact k4 c o n1 n2 e
      · rintro σ H2 ⟨gs, y2, y3, rfl, hd2, hg2, og, lg, rg, k2⟩
        rw [List.drop_of_length_le (Nat.le_refl _)] at rg
        exact ⟨hd2, fin (Option.some.inj rg) hd2 k2⟩
    · refine ⟨_, (pss_cons (ps_set (i := 1) sc_hasringabove.nd rfl (.inl rfl) pe_dnewT)
      (pss_cons (ps_lock (ps_for PassesOwn.never rfl (pi_keys (pv 0)) (pg_name (i := 2) sc_hasringabove.nd rfl (.inl rfl)) (pss_cons (ps_set (i := 3) sc_hasringabove.nd rfl (.inl rfl) (pv 2))
      (pss_cons (ps_while PassesOwn.never (PW.pt (pw_and (pt_cmpR op_notN (pv 3) pe_non (nomark _)) (pw_and1 (pt_cmp (pc_dnotin (u1 hr) (pv 3) (pv 1)))))) (pss_cons (ps_dput (u1 hr) (pv 1) (pv 3) (pv 2) rfl)
      (pss_one (ps_set (i := 3) sc_hasringabove.nd rfl (.inl rfl) (pe_dget (u1 hr) (pv 0) (pv 3) (fun _ _ => rfl))))))
      (pss_one (ps_if (PW.pt (pw_and (pt_cmpR op_notN (pv 3) pe_non (nomark _)) (pw_and1 (pt_cmpR (op_eqD hr.units) (pe_dget (u1 hr) (pv 1) (pv 3) (fun _ _ => rfl)) (pv 2) (nomark _))))) (pss_one (ps_ret pe_bl)) pss_nil))))))
      (pss_one (ps_ret pe_bl)))), fun g ng => ?_⟩
      have sg := same_new (o := .dT []) ng
      have hg : upd H g (.dT []) g = some (.dT []) := upd_same
      have ndg : d ≠ g := fun z => by
        rw [z, ng] at hd
        cases hd
      have hd1 := sg _ _ hd
      generalize upd H g (.dT []) = H1 at sg hg hd1 ⊢
      refine ⟨d, _, hd1, trivial, fun od => ?_⟩
      refine ⟨_, rfl, d, od, rfl, .inr ⟨_, upd_same, ?_⟩⟩
      have fin : ∀ {H2 : Hp}, H2 d = some (.frz od (.dT [(k, V.non)])) → (∀ c o, c ≠ d → c ≠ g → H1 c = some o → H2 c = some o) → Q (.bl false) (upd H2 d (.dT [(k, V.non)])) := fun {H2} hd2 k2 => by
        refine q _ fun c o e => ?_
        by_cases z : c = d
        · subst z
          rw [upd_same, ← e, hd]
        · rw [upd_ne z]
          refine k2 c o z (fun y => ?_) (sg _ _ e)
          rw [y, ng] at e
          cases e
      refine for_it walk_keysT (fun i σ H2 => ∃ (y2 y3 : Option V), σ = [some (.ref d), some (.ref g), y2, y3] ∧ H2 d = some (.frz od (.dT [(k, V.non)])) ∧ (i = 0 → H2 g = some (.dT [])) ∧ ∀ c o, c ≠ d → c ≠ g → H1 c = some o → H2 c = some o) ⟨none, none, rfl, upd_same, fun _ => by rw [upd_ne ndg.symm]; exact hg, fun c o n1 _ e => by rw [upd_ne n1]; exact e⟩ (fun i σ H2 _ z => by obtain ⟨_, _, _, z, _⟩ := z; exact z) ?_ ?_
      · rintro i v σ H2 H3 hi ⟨y2, y3, rfl, hd2, hg2, k2⟩ ⟨rfl, k', u, p, ek, rfl, hp⟩
        obtain rfl : i = 0 := by
          have : i < 1 := hi
          omega
        cases Option.some.inj ek
        have hg2 := hg2 rfl
        have npd : p ≠ d := fun z => by
          rw [z, hd2] at hp
          cases hp
        have npg : p ≠ g := fun z => by
          rw [z, hg2] at hp
          cases hp
        refine ⟨_, rfl, ?_⟩
        refine ⟨fun m σ H4 => ∃ v, σ = [some (.ref d), some (.ref g), some (.ref p), some v] ∧ H4 d = some (.frz od (.dT [(k, V.non)])) ∧ (∀ c o, c ≠ d → c ≠ g → H1 c = some o → H4 c = some o) ∧ ((m = 0 ∧ v = .non) ∨ (m = 1 ∧ v = .ref p ∧ H4 g = some (.dT []) ∧ H4 p = some (.tup (k.map kV)))), ⟨1, _, rfl, hd2, k2, .inr ⟨rfl, rfl, hg2, hp⟩⟩, ?_⟩
        rintro m σ H4 ⟨v, rfl, hd4, k4, ⟨rfl, rfl⟩ | ⟨rfl, rfl, hg4, hp4⟩⟩
        · refine ⟨_, rfl, rfl, _, rfl, iteF ?_⟩
          refine iteF ?_
          refine ⟨_, rfl, rfl, _, rfl, iteF ?_⟩
          exact iteF ⟨_, _, rfl, hd4, (fun z => nomatch z), k4⟩
        · refine ⟨_, rfl, rfl, _, rfl, iteT ?_⟩
          refine ⟨_, rfl, _, rfl, g, _, rfl, DGet.t hg4 hp4, _, rfl, iteT ?_⟩
          refine ⟨fun σ' H' => σ' = [some (.ref d), some (.ref g), some (.ref p), some .non] ∧ H' d = some (.frz od (.dT [(k, V.non)])) ∧ ∀ c o, c ≠ d → c ≠ g → H1 c = some o → H' c = some o, fun σ' H' z => ⟨0, Nat.zero_lt_one, .non, z.1, z.2.1, z.2.2, .inl ⟨rfl, rfl⟩⟩, ?_⟩
          refine ⟨_, rfl, _, rfl, _, rfl, g, _, rfl, DPut.t hg4 hp4 (by decide), ?_⟩
          have hd5 : upd H4 g (.dT (putK [] k (.ref p))) d = some (.frz od (.dT [(k, V.non)])) := by
            rw [upd_ne ndg]
            exact hd4
          have hp5 : upd H4 g (.dT (putK [] k (.ref p))) p = some (.tup (k.map kV)) := by
            rw [upd_ne npg]
            exact hp4
          refine ⟨_, rfl, _, rfl, d, V.non, rfl, .inr ⟨[(k, V.non)], k, p, .inr ⟨od, hd5⟩, rfl, hp5, (valV_pos (p := (k, V.non)) (r := []) rfl).symm⟩, rfl, hd5, fun c o n1 n2 e => ?_⟩
          rw [upd_ne n2]
          exact k4 c o n1 n2 e
      · rintro σ H2 ⟨y2, y3, rfl, hd2, hg2, k2⟩
        exact ⟨hd2, fin hd2 k2⟩
end

end My
namespace My
open PySem L2
/-! ### rows that are linked -/
theorem cutR {B R G : Prop} (f : (B → R) → G) (r : B → R) : G := f r
def oV : Option Int → V
  | none => .non
  | some i => .int i
theorem oV_scal (l r : Option Int) : scal (oV l) (oV r) = true := by cases l <;> cases r <;> rfl
theorem oV_no {l : Option Int} (h : (!decide (oV l = V.non)) = true) : ∃ i, l = some i := by
  cases l with
  | none => exact absurd h (by decide)
  | some i => exact ⟨i, rfl⟩
theorem oV_non {l : Option Int} (h : ¬ (!decide (oV l = V.non)) = true) : l = none := by
  cases l with
  | none => rfl
  | some i => exact absurd (show (!decide (V.int i = V.non)) = true by rfl) h
abbrev RowI := Int × Option Int × Option Int × Option Int × Bool
def rowVI (r : RowI) : List V := [.int r.1, oV r.2.1, oV r.2.2.1, oV r.2.2.2.1, .bl r.2.2.2.2]
def putI (d : List (Key × V)) (r : RowI) : List (Key × V) := putK d (.inl r.1) (oV r.2.2.2.1)
theorem okD_fold : ∀ (rs : List RowI) (d : List (Key × V)), okD d → okD (rs.foldl putI d)
  | [], _, h => h
  | r :: rs, d, h => okD_fold rs _ fun kv m => by
    rcases putK_mem m with m | rfl
    · exact h _ m
    · show oV r.2.2.2.1 = .non ∨ _
      cases r.2.2.2.1 with
      | none => exact .inl rfl
      | some i => exact .inr ⟨i, rfl⟩
theorem len_fold : ∀ (rs : List RowI) (d : List (Key × V)), (rs.foldl putI d).length ≤ d.length + rs.length
  | [], _ => Nat.le_refl _
  | r :: rs, d => by
    have h1 := len_fold rs (putI d r)
    have h2 : (putI d r).length ≤ d.length + 1 := length_putK d _ _
    rw [List.length_cons]
    exact Nat.le_trans h1 (by omega)
def chB (d : List (Key × V)) (n : Int) : Option Int → Bool
  | none => true
  | some c => belB d c n
def lostB (d : List (Key × V)) : Option Int → Bool
  | none => false
  | some c => !(valV d (.inl c)).isSome
def badI (d : List (Key × V)) (r : RowI) : Bool := (r.2.1.isSome && decide (oV r.2.1 = oV r.2.2.1)) || (lostB d r.2.2.2.1 || !(chB d r.1 r.2.1 && chB d r.1 r.2.2.1))
def linkR (rs : List RowI) : Option Bool := if rs.any (badI (rs.foldl putI [])) then some false else (ringR (rs.foldl putI []) (rs.foldl putI []) []).map (!·)
inductive RwI (H : Hp) : List V → List RowI → Prop
  | nil : RwI H [] []
  | cons {p : Addr} {xs : List V} {r : RowI} {rs : List RowI} : H p = some (.tup (rowVI r)) → RwI H xs rs → RwI H (.ref p :: xs) (r :: rs)
theorem RwI.len {H : Hp} : ∀ {xs : List V} {rs : List RowI}, RwI H xs rs → xs.length = rs.length
  | _, _, .nil => rfl
  | _, _, .cons _ k => congrArg (· + 1) k.len
theorem RwI.at_ {H : Hp} : ∀ {xs : List V} {rs : List RowI} {i : Nat} {x : V}, RwI H xs rs → xs[i]? = some x → ∃ p r, x = .ref p ∧ rs[i]? = some r ∧ H p = some (.tup (rowVI r))
  | _, _, _, _, .nil, h => nomatch h
  | _, _, 0, _, .cons e _, h => by
    cases Option.some.inj h
    exact ⟨_, _, rfl, rfl, e⟩
  | _, _, i + 1, _, .cons _ k, h => by
    obtain ⟨p, r, h1, h2, h3⟩ := k.at_ (i := i) h
    exact ⟨p, r, h1, h2, h3⟩
theorem RwI.kp {H H' : Hp} (k : Kp H H') : ∀ {xs : List V} {rs : List RowI}, RwI H xs rs → RwI H' xs rs
  | _, _, .nil => .nil
  | _, _, .cons e r => .cons (k.tup e) (r.kp k)
def LkV (H : Hp) (v : V) (b : Bool) : Prop := (∃ (a : Addr) (xs : List V) (rs : List RowI), v = .ref a ∧ H a = some (.tup xs) ∧ RwI H xs rs ∧ rs.length ≤ 10 ∧ linkR rs = some b) ∨
  ∃ (a p m : Addr) (k : List Key) (l : Option Int) (t : Bool), v = .ref a ∧ H a = some (.tup [.ref p]) ∧ H p = some (.tup [.ref m, oV l, .non, .non, .bl t]) ∧ H m = some (.tup (k.map kV)) ∧ PyData.canLayAll0 (k.map keyD) = true ∧ b = l.isNone
theorem dcT_tup {K : PySem.W.Frag} {a : Addr} {xs : List V} {g : TG} {tt : TT} {tk tv : TE} {vs : List Nat} {σ : L2.St} {H1 : Hp} {D : Addr} {Qd : Hp → Prop} (Pv : Nat → Hp → Prop) (h0 : Pv 0 (upd H1 D (.dT []))) (hl : ∀ i H, i ≤ xs.length → Pv i H → SqT K H a xs)
    (hs : ∀ i x H, xs[i]? = some x → Pv i H → g x (wipe σ vs) H fun σ2 H2 => wipe σ2 vs = wipe σ vs ∧ tt σ2 H2 fun b H3 =>
      if b = true then tk σ2 H3 fun y H4 => tv σ2 H4 fun z H5 => ∃ kvs k b, y = .ref b ∧ H5 b = some (.tup (k.map kV)) ∧ H5 D = some (.dT kvs) ∧ kvs.length < sizeLine ∧ Pv (i + 1) (upd H5 D (.dT (putK kvs k z))) else Pv (i + 1) H3) (hd : ∀ H, Pv xs.length H → Qd H) :
    ∃ W : Nat → Nat → Hp → Prop, (∃ m, W 0 m (upd H1 D (.dT []))) ∧ ∀ i m H, W i m H →
      ((Itt K a).stop i H ∧ Qd H) ∨ ((Itt K a).go i H ∧ ∃ Nx : Hp → Prop, (∀ H', Nx H' → ∃ m', m' < m ∧ W (i + 1) m' H') ∧ ∀ x H', (Itt K a).yld i H x H' → g x (wipe σ vs) H' fun σ2 H2 => wipe σ2 vs = wipe σ vs ∧ tt σ2 H2 fun b H3 =>
        if b = true then tk σ2 H3 fun y H4 => tv σ2 H4 fun z H5 => ∃ kvs k b, y = .ref b ∧ H5 b = some (.tup (k.map kV)) ∧ H5 D = some (.dT kvs) ∧ kvs.length < sizeLine ∧ Nx (upd H5 D (.dT (putK kvs k z))) else Nx H3) := by
  refine ⟨fun i m H => m = xs.length - i ∧ i ≤ xs.length ∧ Pv i H, ⟨xs.length, by simp, Nat.zero_le _, h0⟩, ?_⟩
  rintro i m H ⟨rfl, hi, p⟩
  have q := hl i H hi p
  rcases Nat.lt_or_eq_of_le hi with lt | eq
  · refine .inr ⟨⟨xs, xs[i], q, by simp [lt]⟩, Pv (i + 1), fun H' p' => ⟨xs.length - (i + 1), by omega, rfl, lt, p'⟩, fun x H' y => ?_⟩
    obtain ⟨e, y⟩ := y
    subst e
    exact hs i x _ (y xs q) p
  · subst eq
    exact .inl ⟨⟨xs, q, Nat.le_refl _⟩, hd H p⟩
section
variable {P : Program} {w : World} {K : PySem.W.Frag} {mg : Str → Option Value} {base : Heap}
def spLinked (T : Top K mg) : Sp := fun vs H Q _ => ∃ (v : V) (b : Bool), vs = [v] ∧ Tb T.tbs H ∧ LkV H v b ∧ ∀ H', Kp H H' → Tb T.tbs H' → Q (.bl b) H'
theorem ok_linked (T : Top K mg) (TB : GxR.TabB base mg T.cK T.PK) : FnOk P w K mg base CX0 3 T.a_arelinked T.d_arelinked ["rows"] (spLinked T) := by
  have G_isbelow : FnOk P w K mg base CX0 1 _ _ _ _ := ok_below T
  have G_hasringabove : FnOk P w K mg base CX0 1 _ _ _ _ := ok_ring T
  refine okC T.F_arelinked T.hcK sc_arelinked (fun vs H Q E h => ?_) (fun A outer s H vs Q E hr h => ?_)
  · obtain ⟨v, b, rfl, _⟩ := h
    rfl
  · obtain ⟨v, b, rfl, tb, hx, q⟩ := h
    rcases hx with ⟨a, xs, rs, rfl, ha, hrw, hlr, hb⟩ | ⟨a, p, m, k, l, t, rfl, ha, hp, hm, lay, rfl⟩
    · refine ⟨_, (pss_cons (ps_set (i := 1) sc_arelinked.nd rfl (.inr rfl) (pe_dc rfl sc_arelinked.nd (pi_tup (pv 0)) (blkOk_by (own := [("row", 2)]) (N := ["rows", "above", "row", "name", "left", "right", "over", "turned", "child"]) (sc := defScope s_arelinked) (by decide +kernel)) (fun _ _ _ _ _ => (pg_name (i := 2) sc_arelinked.nd rfl (.inl rfl))) (fun _ _ _ _ _ => pts_nil) (fun _ _ _ _ _ => (pe_ix (ix_tupK (K := K) rfl) (pv 2) pe_int (fun _ _ => rfl))) (fun _ _ _ _ _ => (pe_ix (ix_tupK (K := K) rfl) (pv 2) pe_int (fun _ _ => rfl)))))
      (pss_cons (ps_for PassesOwn.never rfl (pi_tup (pv 0)) (pg_tup rfl (pgs_cons (pg_name (i := 3) sc_arelinked.nd rfl (.inr rfl)) (pgs_cons (pg_name (i := 4) sc_arelinked.nd rfl (.inl rfl)) (pgs_cons (pg_name (i := 5) sc_arelinked.nd rfl (.inl rfl)) (pgs_cons (pg_name (i := 6) sc_arelinked.nd rfl (.inl rfl)) (pgs_cons (pg_name (i := 7) sc_arelinked.nd rfl (.inl rfl)) pgs_nil)))))) (pss_cons (ps_if (PW.pt (pw_and (pt_cmpR op_notN (pv 4) pe_non (nomark _)) (pw_and1 (pt_cmpR op_eq (pv 4) (pv 5) (nomark _))))) (pss_one (ps_ret pe_bl)) pss_nil)
      (pss_cons (ps_if (PW.pt (pw_and (pt_cmpR op_notN (pv 6) pe_non (nomark _)) (pw_and1 (pt_cmp (pc_dnotin (u1 hr) (pv 6) (pv 1)))))) (pss_one (ps_ret pe_bl)) pss_nil)
      (pss_one (ps_if (pt_not (pt_val (pe_allG (own := [("child", 8)]) hr rfl sc_arelinked.nd (by rfl) T.m_all (by decide +kernel) TB rfl (blkOk_by (own := [("child", 8)]) (N := ["rows", "above", "row", "name", "left", "right", "over", "turned", "child"]) (sc := defScope s_arelinked) (by decide +kernel)) (by rfl) (by decide +kernel) (by rfl) (pi_tup (pe_tup (pa_cons (pv 4) (pa_cons (pv 5) pa_nil)))) (fun _ _ _ _ _ _ _ => (pg_name (i := 8) sc_arelinked.nd rfl (.inl rfl) (hf := Or.inr rfl))) (fun _ _ _ _ _ _ _ hr' => (pe_or (pe_cmpR op_isN (pv 8) pe_non (nomark _)) (pe_one (pe_call G_isbelow hr' (by rfl) T.g_isbelow T.F_isbelow.kp T.b_isbelow .nil pass0 (pa_cons (pv 1) (pa_cons (pv 8) (pa_cons (pv 3) pa_nil)))))))))) (pss_one (ps_ret pe_bl)) pss_nil)))))
      (pss_one (ps_ret (pe_not (pe_call G_hasringabove (hr.mono (by decide)) (by rfl) T.g_hasringabove T.F_hasringabove.kp T.b_hasringabove .nil pass0 (pa_cons (pv 1) pa_nil))))))), ?_⟩
      refine ⟨_, rfl, a, rfl, ⟨_, SqT.of ha⟩, fun D nD => ?_⟩
      have hlx := hrw.len
      have big : (512 : Nat) ≤ sizeLine := by decide
      refine dc_tup (xs := xs) (fun i H1 => Same H H1 ∧ H1 D = some (.dK ((rs.take i).foldl putI []))) ⟨same_new nD, upd_same⟩ (fun i H1 _ z => SqT.of (z.1 _ _ ha)) ?_ ?_
      · rintro i x H1 hxi ⟨s1, hD⟩
        obtain ⟨p, r, rfl, hri, hp⟩ := hrw.at_ hxi
        have hp1 := s1 _ _ hp
        refine ⟨rfl, _, rfl, p, _, _, _, rfl, rfl, SqT.of hp1, atI_nat (j := 0) rfl, ?_⟩
        refine ⟨_, rfl, p, _, _, _, rfl, rfl, SqT.of hp1, atI_nat (j := 3) rfl, ?_⟩
        refine ⟨_, .inl r.1, rfl, hD, ?_, ?_, ?_⟩
        · have h1 := len_fold (rs.take i) []
          rw [List.length_take] at h1
          have h0 : ([] : List (Key × V)).length = 0 := rfl
          omega
        · intro c o e
          rw [upd_ne (ne_of_none e nD)]
          exact s1 _ _ e
        · rw [upd_same, List.take_succ, hri, List.foldl_append]
          rfl
      rintro H1 ⟨s1, hD⟩
      rw [hlx, List.take_of_length_le (Nat.le_refl _)] at hD
      have okd : okD (rs.foldl putI []) := okD_fold rs [] fun kv m => nomatch m
      have ld : (rs.foldl putI []).length ≤ 10 := Nat.le_trans (len_fold rs []) (by rw [List.length_nil]; omega)
      unfold linkR at hb
      generalize rs.foldl putI [] = d at hD okd ld hb
      have ha1 := s1 _ _ ha
      have hrw1 := hrw.kp (Kp.of_same s1)
      have tb1 := tb.same s1
      have k1 := Kp.of_same s1
      have hDk : ∀ {G : Hp}, Kp H1 G → G D = some (.dK d) := fun k => k _ _ hD (by intro ps z; cases z)
      refine ⟨_, rfl, a, rfl, ⟨_, SqT.of ha1⟩, for_it (walk_tup (xs := xs)) (fun i σ H2 => ∃ y3 y4 y5 y6 y7 : Option V, σ = [some (.ref a), some (.ref D), none, y3, y4, y5, y6, y7, none] ∧ Kp H1 H2 ∧ Tb T.tbs H2 ∧ (rs.take i).any (badI d) = false) ⟨none, none, none, none, none, rfl, Kp.refl _, tb1, rfl⟩ (fun i σ H2 _ z => by obtain ⟨_, _, _, _, _, _, z, _⟩ := z; exact SqT.of (z.tup ha1)) ?_ ?_⟩
      · rintro i v σ H2 H3 hi ⟨y3, y4, y5, y6, y7, rfl, k2, tb2, al⟩ ⟨rfl, hxi⟩
        obtain ⟨p, ⟨n, l, rr, o, t⟩, rfl, hri, hp⟩ := hrw1.at_ hxi
        have hp2 : H3 p = some (.tup [.int n, oV l, oV rr, oV o, .bl t]) := k2.tup hp
        refine ⟨p, _, rfl, SqT.of hp2, rfl, _, _, rfl, _, _, rfl, _, _, rfl, _, _, rfl, _, _, rfl, rfl, ?_⟩
        have no : badI d (n, l, rr, o, t) = true → ∀ {G : Hp}, Kp H1 G → Tb T.tbs G → Q (.bl false) G := fun e {G} kG tG => by
          have z : rs.any (badI d) = true := List.any_eq_true.mpr ⟨_, List.mem_of_getElem? hri, e⟩
          rw [z, if_pos rfl] at hb
          cases hb
          exact q G (k1.trans kG) tG
        have yes : badI d (n, l, rr, o, t) = false → (rs.take (i + 1)).any (badI d) = false := fun e => by
          rw [List.take_succ, hri, List.any_append, al]
          show (false || (badI d (n, l, rr, o, t) || false)) = false
          rw [e]
          rfl
        have eb : badI d (n, l, rr, o, t) = ((l.isSome && decide (oV l = oV rr)) || (lostB d o || !(chB d n l && chB d n rr))) := rfl
        apply cutR (B := (l.isSome && decide (oV l = oV rr)) = false)
        · intro rest
          refine ⟨_, rfl, rfl, _, rfl, ite2 (fun e => ?_) (fun e => iteF (rest (by rw [oV_non e]; rfl)))⟩
          obtain ⟨li, hli⟩ := oV_no e
          refine ⟨_, rfl, _, rfl, oV_scal l rr, _, rfl, ite2 (fun e2 => no ?_ k2 tb2) (fun e2 => rest ?_)⟩
          · have e2 : decide (oV l = oV rr) = true := e2
            rw [eb, e2, hli]
            rfl
          · have e2 : decide (oV l = oV rr) = false := Bool.eq_false_iff.mpr e2
            rw [e2, Bool.and_false]
        intro b1
        rw [b1, Bool.false_or] at eb
        apply cutR (B := lostB d o = false)
        · intro rest
          refine ⟨_, rfl, rfl, _, rfl, ite2 (fun e => ?_) (fun e => iteF (rest (by rw [oV_non e]; rfl)))⟩
          obtain ⟨oi, hoi⟩ := oV_no e
          have el : lostB d o = !(valV d (.inl oi)).isSome := by
            rw [hoi]
            rfl
          refine ⟨_, rfl, _, rfl, D, _, rfl, .inl ⟨d, .inl oi, .inl (hDk k2), (by show oV o = _; rw [hoi]; rfl), rfl⟩, _, rfl, ite2 (fun e2 => no ?_ k2 tb2) (fun e2 => rest ?_)⟩
          · have e2 : (!(valV d (.inl oi)).isSome) = true := e2
            rw [eb, el, e2]
            rfl
          · rw [el]
            exact Bool.eq_false_iff.mpr e2
        intro b2
        rw [b2, Bool.false_or] at eb
        refine ⟨_, rfl, _, rfl, (by show 2 ≤ sizeLine; decide), fun p' np => ?_⟩
        have sp := same_new (o := .tup [oV l, oV rr]) np
        have hp' : upd H3 p' (.tup [oV l, oV rr]) p' = some (.tup [oV l, oV rr]) := upd_same
        generalize upd H3 p' (.tup [oV l, oV rr]) = H4 at sp hp' ⊢
        have tb4 := tb2.same sp
        refine ⟨p', rfl, ⟨_, SqT.of hp'⟩, tb4.g T.mK, fun H5 tab => ?_⟩
        have k45 := Kp.of_tabd (tb4.g T.mK) tab
        have tb5 := tb4.tab T.nd T.mK (But.of_tab tab) tab.1
        have k5 : Kp H1 H5 := (k2.same sp).trans k45
        refine gturns_it (walk_tup (xs := [oV l, oV rr])) (fun j H6 => Kp H1 H6 ∧ H6 p' = some (.tup [oV l, oV rr]) ∧ Tb T.tbs H6 ∧ ([l, rr].take j).all (chB d n) = true) ⟨k5, k45.tup hp', tb5, rfl⟩ (fun j H6 _ z => SqT.of z.2.1) ?_ (fun H6 z => ?_)
        · rintro j x H6 H7 N hj ⟨k6, hp6, tb6, al6⟩ ⟨rfl, hxj⟩ nx
          have om : ∃ c, [l, rr][j]? = some c ∧ x = oV c := by
            match j, hxj with
            | 0, hx => cases Option.some.inj hx; exact ⟨l, rfl, rfl⟩
            | 1, hx => cases Option.some.inj hx; exact ⟨rr, rfl, rfl⟩
            | j + 2, hx => exact absurd hj (by show ¬ j + 2 < 2; omega)
          obtain ⟨c, hc, rfl⟩ := om
          have yes6 : chB d n c = true → ([l, rr].take (j + 1)).all (chB d n) = true := fun e => by
            rw [List.take_succ, hc, List.all_append, al6]
            show (true && (chB d n c && true)) = true
            rw [e]
            rfl
          refine ⟨rfl, _, rfl, rfl, _, rfl, ?_⟩
          cases c with
          | none => exact iteT ⟨true, rfl, iteT (nx _ ⟨k6, hp6, tb6, yes6 rfl⟩)⟩
          | some c =>
            refine iteF ?_
            refine ⟨_, rfl, _, rfl, _, rfl, D, c, _, belB d c n, rfl, .inl ⟨d, n, hDk k6, okd, rfl, rfl⟩, ?_⟩
            cases e : belB d c n with
            | true => exact ⟨true, rfl, iteT (nx _ ⟨k6, hp6, tb6, yes6 e⟩)⟩
            | false =>
              refine ⟨false, rfl, iteF ⟨_, rfl, iteT (no ?_ k6 tb6)⟩⟩
              have ef : [l, rr].all (chB d n) = false := by
                rw [List.all_eq_false]
                exact ⟨some c, List.mem_of_getElem? hc, by show ¬ belB d c n = true; rw [e]; exact Bool.false_ne_true⟩
              have ef : (chB d n l && (chB d n rr && true)) = false := ef
              rw [Bool.and_true] at ef
              rw [eb, ef]
              rfl
        · obtain ⟨k6, hp6, tb6, al6⟩ := z
          have ef : (chB d n l && (chB d n rr && true)) = true := al6
          rw [Bool.and_true] at ef
          exact ⟨_, rfl, iteF ⟨_, _, _, _, _, rfl, k6, tb6, yes (by rw [eb, ef]; rfl)⟩⟩
      · rintro σ H2 ⟨y3, y4, y5, y6, y7, rfl, k2, tb2, al⟩
        rw [hlx, List.take_of_length_le (Nat.le_refl _)] at al
        rw [al, if_neg (by decide)] at hb
        obtain ⟨rb, er, eb⟩ := Option.map_eq_some_iff.mp hb
        refine ⟨_, rfl, D, rb, rfl, .inl ⟨d, hDk k2, okd, ld, er⟩, fun H3 s3 => ⟨_, rfl, ?_⟩⟩
        have z := q H3 (k1.trans (k2.same s3)) (tb2.same s3)
        rw [← eb] at z
        exact z
    · refine ⟨_, (pss_cons (ps_set (i := 1) sc_arelinked.nd rfl (.inr rfl) (pe_dcT rfl (u0 hr) sc_arelinked.nd (pi_tup (pv 0)) (blkOk_by (own := [("row", 2)]) (N := ["rows", "above", "row", "name", "left", "right", "over", "turned", "child"]) (sc := defScope s_arelinked) (by decide +kernel)) (fun _ _ _ _ _ => (pg_name (i := 2) sc_arelinked.nd rfl (.inl rfl))) (fun _ _ _ _ _ => pts_nil) (fun _ _ _ _ _ => (pe_ix (ix_tupK (K := K) rfl) (pv 2) pe_int (fun _ _ => rfl))) (fun _ _ _ _ _ => (pe_ix (ix_tupK (K := K) rfl) (pv 2) pe_int (fun _ _ => rfl)))))
      (pss_cons (ps_for PassesOwn.never rfl (pi_tup (pv 0)) (pg_tup rfl (pgs_cons (pg_name (i := 3) sc_arelinked.nd rfl (.inr rfl)) (pgs_cons (pg_name (i := 4) sc_arelinked.nd rfl (.inl rfl)) (pgs_cons (pg_name (i := 5) sc_arelinked.nd rfl (.inl rfl)) (pgs_cons (pg_name (i := 6) sc_arelinked.nd rfl (.inl rfl)) (pgs_cons (pg_name (i := 7) sc_arelinked.nd rfl (.inl rfl)) pgs_nil)))))) (pss_cons (ps_if (PW.pt (pw_and (pt_cmpR op_notN (pv 4) pe_non (nomark _)) (pw_and1 (pt_cmpR op_eq (pv 4) (pv 5) (nomark _))))) (pss_one (ps_ret pe_bl)) pss_nil)
      (pss_cons (ps_if (PW.pt (pw_and (pt_cmpR op_notN (pv 6) pe_non (nomark _)) (pw_and1 (pt_cmp (pc_dnotin (u1 hr) (pv 6) (pv 1)))))) (pss_one (ps_ret pe_bl)) pss_nil)
      (pss_one (ps_if (pt_not (pt_val (pe_allG (own := [("child", 8)]) hr rfl sc_arelinked.nd (by rfl) T.m_all (by decide +kernel) TB rfl (blkOk_by (own := [("child", 8)]) (N := ["rows", "above", "row", "name", "left", "right", "over", "turned", "child"]) (sc := defScope s_arelinked) (by decide +kernel)) (by rfl) (by decide +kernel) (by rfl) (pi_tup (pe_tup (pa_cons (pv 4) (pa_cons (pv 5) pa_nil)))) (fun _ _ _ _ _ _ _ => (pg_name (i := 8) sc_arelinked.nd rfl (.inl rfl) (hf := Or.inr rfl))) (fun _ _ _ _ _ _ _ hr' => (pe_or (pe_cmpR op_isN (pv 8) pe_non (nomark _)) (pe_one (pe_call G_isbelow hr' (by rfl) T.g_isbelow T.F_isbelow.kp T.b_isbelow .nil pass0 (pa_cons (pv 1) (pa_cons (pv 8) (pa_cons (pv 3) pa_nil)))))))))) (pss_one (ps_ret pe_bl)) pss_nil)))))
      (pss_one (ps_ret (pe_not (pe_call G_hasringabove (hr.mono (by decide)) (by rfl) T.g_hasringabove T.F_hasringabove.kp T.b_hasringabove .nil pass0 (pa_cons (pv 1) pa_nil))))))), ?_⟩
      refine ⟨_, rfl, a, rfl, ⟨_, SqT.of ha⟩, fun D nD => ?_⟩
      refine dcT_tup (xs := [V.ref p]) (fun i H1 => Same H H1 ∧ ((i = 0 ∧ H1 D = some (.dT [])) ∨ (i = 1 ∧ H1 D = some (.dT [(k, .non)])))) ⟨same_new nD, .inl ⟨rfl, upd_same⟩⟩ (fun i H1 _ z => SqT.of (z.1 _ _ ha)) ?_ ?_
      · rintro i x H1 hxi ⟨s1, ⟨rfl, hD⟩ | ⟨rfl, hD⟩⟩
        · cases Option.some.inj hxi
          have hp1 := s1 _ _ hp
          refine ⟨rfl, _, rfl, p, _, _, _, rfl, rfl, SqT.of hp1, atI_nat (j := 0) rfl, ?_⟩
          refine ⟨_, rfl, p, _, _, _, rfl, rfl, SqT.of hp1, atI_nat (j := 3) rfl, ?_⟩
          refine ⟨_, k, m, rfl, s1 _ _ hm, hD, (by decide), ?_, .inr ⟨rfl, upd_same⟩⟩
          intro c o e
          rw [upd_ne (ne_of_none e nD)]
          exact s1 _ _ e
        · exact nomatch hxi
      rintro H1 ⟨s1, ⟨z, _⟩ | ⟨_, hD⟩⟩
      · exact nomatch z
      have ha1 := s1 _ _ ha
      have hp1 := s1 _ _ hp
      have tb1 := tb.same s1
      have k1 := Kp.of_same s1
      have hDk : ∀ {G : Hp}, Kp H1 G → G D = some (.dT [(k, .non)]) := fun k => k _ _ hD (by intro ps z; cases z)
      refine ⟨_, rfl, a, rfl, ⟨_, SqT.of ha1⟩, for_it (walk_tup (xs := [V.ref p])) (fun i σ H2 => ∃ y3 y4 y5 y6 y7 : Option V, σ = [some (.ref a), some (.ref D), none, y3, y4, y5, y6, y7, none] ∧ Kp H1 H2 ∧ Tb T.tbs H2 ∧ (i = 1 → l = none)) ⟨none, none, none, none, none, rfl, Kp.refl _, tb1, fun z => nomatch z⟩ (fun i σ H2 _ z => by obtain ⟨_, _, _, _, _, _, z, _⟩ := z; exact SqT.of (z.tup ha1)) ?_ ?_⟩
      · rintro i v σ H2 H3 hi ⟨y3, y4, y5, y6, y7, rfl, k2, tb2, al⟩ ⟨rfl, hxi⟩
        obtain rfl : i = 0 := by
          have : i < 1 := hi
          omega
        cases Option.some.inj hxi
        have hp2 := k2.tup hp1
        refine ⟨p, _, rfl, SqT.of hp2, rfl, _, _, rfl, _, _, rfl, _, _, rfl, _, _, rfl, _, _, rfl, rfl, ?_⟩
        apply cutR (B := True)
        · intro rest
          refine ⟨_, rfl, rfl, _, rfl, ite2 (fun e => ?_) (fun e => iteF (rest trivial))⟩
          obtain ⟨li, hli⟩ := oV_no e
          refine ⟨_, rfl, _, rfl, oV_scal l none, _, rfl, ite2 (fun e2 => ?_) (fun e2 => rest trivial)⟩
          have e2 : decide (oV l = V.non) = true := e2
          rw [hli] at e2
          exact absurd e2 (by show ¬ decide (V.int li = V.non) = true; simp)
        intro _
        refine ⟨_, rfl, rfl, _, rfl, iteF (iteF ?_)⟩
        refine ⟨_, rfl, _, rfl, (by show 2 ≤ sizeLine; decide), fun p' np => ?_⟩
        have sp := same_new (o := .tup [oV l, .non]) np
        have hp' : upd H3 p' (.tup [oV l, .non]) p' = some (.tup [oV l, .non]) := upd_same
        generalize upd H3 p' (.tup [oV l, .non]) = H4 at sp hp' ⊢
        have tb4 := tb2.same sp
        refine ⟨p', rfl, ⟨_, SqT.of hp'⟩, tb4.g T.mK, fun H5 tab => ?_⟩
        have k45 := Kp.of_tabd (tb4.g T.mK) tab
        have tb5 := tb4.tab T.nd T.mK (But.of_tab tab) tab.1
        have k5 : Kp H1 H5 := (k2.same sp).trans k45
        refine gturns_it (walk_tup (xs := [oV l, .non])) (fun j H6 => Kp H1 H6 ∧ H6 p' = some (.tup [oV l, .non]) ∧ Tb T.tbs H6 ∧ (1 ≤ j → l = none)) ⟨k5, k45.tup hp', tb5, fun z => absurd z (by decide)⟩ (fun j H6 _ z => SqT.of z.2.1) ?_ (fun H6 z => ?_)
        · rintro j x H6 H7 N hj ⟨k6, hp6, tb6, al6⟩ ⟨rfl, hxj⟩ nx
          have om : (j = 0 ∧ x = oV l) ∨ (1 ≤ j ∧ x = .non) := by
            match j, hxj with
            | 0, hx => cases Option.some.inj hx; exact .inl ⟨rfl, rfl⟩
            | 1, hx => cases Option.some.inj hx; exact .inr ⟨Nat.le_refl _, rfl⟩
            | j + 2, hx => exact absurd hj (by show ¬ j + 2 < 2; omega)
          refine ⟨rfl, _, rfl, rfl, _, rfl, ?_⟩
          rcases om with ⟨rfl, rfl⟩ | ⟨j1, rfl⟩
          · cases l with
            | none => exact iteT ⟨true, rfl, iteT (nx _ ⟨k6, hp6, tb6, fun _ => rfl⟩)⟩
            | some c =>
              refine iteF ?_
              refine ⟨_, rfl, _, rfl, _, rfl, D, c, _, false, rfl, .inr ⟨k, hDk k6, lay, rfl⟩, ?_⟩
              exact ⟨false, rfl, iteF ⟨_, rfl, iteT (q _ (k1.trans k6) tb6)⟩⟩
          · exact iteT ⟨true, rfl, iteT (nx _ ⟨k6, hp6, tb6, fun _ => al6 j1⟩)⟩
        · obtain ⟨k6, hp6, tb6, al6⟩ := z
          exact ⟨_, rfl, iteF ⟨_, _, _, _, _, rfl, k6, tb6, fun _ => al6 (by show 1 ≤ 2; decide)⟩⟩
      · rintro σ H2 ⟨y3, y4, y5, y6, y7, rfl, k2, tb2, al⟩
        refine ⟨_, rfl, D, false, rfl, .inr ⟨k, hDk k2, rfl⟩, fun H3 s3 => ⟨_, rfl, ?_⟩⟩
        have z := q H3 (k1.trans (k2.same s3)) (tb2.same s3)
        rw [al rfl] at z
        exact z
end

end My
namespace My
open PySem L2
/-! ### shapes -/
theorem cutH {B R : Hp → Prop} {G : Prop} (f : (∀ h, B h → R h) → G) (r : ∀ h, B h → R h) : G := f r
theorem Mks.kp {H H' : Hp} (k : Kp H H') : ∀ {vs : List V} {ms : List Bool}, Mks H vs ms → Mks H' vs ms
  | _, _, .nil => .nil
  | _, _, .cons a m r => .cons (a.kp k) (m.kp k) (r.kp k)
theorem ShV.kp {H H' : Hp} (k : Kp H H') {v : V} {b : Bool} (h : ShV H v b) : ShV H' v b := by
  rcases h with ⟨a, xs, ms, e, hl, ha, mk, hb⟩ | ⟨nt, hb⟩
  · exact .inl ⟨a, xs, ms, e, hl, k.tup ha, mk.kp k, hb⟩
  · exact .inr ⟨nt.kp k, hb⟩
theorem LkV.kp {H H' : Hp} (k : Kp H H') {v : V} {b : Bool} (h : LkV H v b) : LkV H' v b := by
  rcases h with ⟨a, xs, rs, e, ha, hrw, hl, hb⟩ | ⟨a, p, m, ks, l, t, e, ha, hp, hm, lay, hb⟩
  · exact .inl ⟨a, xs, rs, e, k.tup ha, hrw.kp k, hl, hb⟩
  · exact .inr ⟨a, p, m, ks, l, t, e, k.tup ha, k.tup hp, k.tup hm, lay, hb⟩
inductive ShAll (H : Hp) : List V → List Bool → Prop
  | nil : ShAll H [] []
  | cons {v : V} {b : Bool} {vs : List V} {bs : List Bool} : ShV H v b → ShAll H vs bs → ShAll H (v :: vs) (b :: bs)
theorem ShAll.len {H : Hp} : ∀ {vs : List V} {bs : List Bool}, ShAll H vs bs → vs.length = bs.length
  | _, _, .nil => rfl
  | _, _, .cons _ k => congrArg (· + 1) k.len
theorem ShAll.at_ {H : Hp} : ∀ {vs : List V} {bs : List Bool} {i : Nat} {x : V}, ShAll H vs bs → vs[i]? = some x → ∃ b, bs[i]? = some b ∧ ShV H x b
  | _, _, _, _, .nil, h => nomatch h
  | _, _, 0, _, .cons e _, h => by
    cases Option.some.inj h
    exact ⟨_, rfl, e⟩
  | _, _, i + 1, _, .cons _ k, h => k.at_ (i := i) h
theorem ShAll.kp {H H' : Hp} (k : Kp H H') : ∀ {vs : List V} {bs : List Bool}, ShAll H vs bs → ShAll H' vs bs
  | _, _, .nil => .nil
  | _, _, .cons e r => .cons (e.kp k) (r.kp k)
/-- rows, their names, and which of them are marks -/
inductive NmA (H : Hp) : List V → List V → List Bool → Prop
  | nil : NmA H [] [] []
  | cons {p : Addr} {n : V} {ys : List V} {m : Bool} {xs ns : List V} {ms : List Bool} : H p = some (.tup (n :: ys)) → AnyV H n → MkV H n m → NmA H xs ns ms → NmA H (.ref p :: xs) (n :: ns) (m :: ms)
theorem NmA.len {H : Hp} : ∀ {xs ns : List V} {ms : List Bool}, NmA H xs ns ms → xs.length = ns.length ∧ ns.length = ms.length
  | _, _, _, .nil => ⟨rfl, rfl⟩
  | _, _, _, .cons _ _ _ k => ⟨congrArg (· + 1) k.len.1, congrArg (· + 1) k.len.2⟩
theorem NmA.at_ {H : Hp} : ∀ {xs ns : List V} {ms : List Bool} {i : Nat} {x : V}, NmA H xs ns ms → xs[i]? = some x → ∃ p n ys, x = .ref p ∧ ns[i]? = some n ∧ H p = some (.tup (n :: ys))
  | _, _, _, _, _, .nil, h => nomatch h
  | _, _, _, 0, _, .cons e _ _ _, h => by
    cases Option.some.inj h
    exact ⟨_, _, _, rfl, rfl, e⟩
  | _, _, _, i + 1, _, .cons _ _ _ k, h => k.at_ (i := i) h
theorem NmA.nm {H : Hp} : ∀ {xs ns : List V} {ms : List Bool} {i : Nat} {n : V}, NmA H xs ns ms → ns[i]? = some n → ∃ m, ms[i]? = some m ∧ AnyV H n ∧ MkV H n m
  | _, _, _, _, _, .nil, h => nomatch h
  | _, _, _, 0, _, .cons _ a m _, h => by
    cases Option.some.inj h
    exact ⟨_, rfl, a, m⟩
  | _, _, _, i + 1, _, .cons _ _ _ k, h => k.nm (i := i) h
theorem NmA.kp {H H' : Hp} (k : Kp H H') : ∀ {xs ns : List V} {ms : List Bool}, NmA H xs ns ms → NmA H' xs ns ms
  | _, _, _, .nil => .nil
  | _, _, _, .cons e a m r => .cons (k.tup e) (a.kp k) (m.kp k) (r.kp k)
def RisC (ns : List V) (b : Bool) : Prop := (∃ v, ns = [v] ∧ b = true) ∨ (ns = [] ∧ b = true) ∨ ∃ x y : Int, ns = [.int x, .int y] ∧ b = decide (x < y)
/-- a thing, and whether it is a shape -/
def SpV (H : Hp) (v : V) (b : Bool) : Prop := (NoTup H v ∧ b = false) ∨ ∃ (a : Addr) (xs : List V) (bs : List Bool), v = .ref a ∧ xs.length ≤ 1000 ∧ H a = some (.tup xs) ∧ ShAll H xs bs ∧
  ((bs.all id = false ∧ b = false) ∨ ∃ (ns : List V) (ms : List Bool), bs.all id = true ∧ NmA H xs ns ms ∧ ((ns.all wholeB = false ∧ ms.all id = false ∧ b = false) ∨ ((ns.all wholeB || ms.all id) = true ∧ ∃ rb, RisC ns rb ∧ ((rb = false ∧ b = false) ∨ (rb = true ∧ LkV H v b)))))
theorem SpV.kp {H H' : Hp} (k : Kp H H') {v : V} {b : Bool} (h : SpV H v b) : SpV H' v b := by
  rcases h with ⟨nt, hb⟩ | ⟨a, xs, bs, e, hl, ha, sh, h⟩
  · exact .inl ⟨nt.kp k, hb⟩
  · refine .inr ⟨a, xs, bs, e, hl, k.tup ha, sh.kp k, ?_⟩
    rcases h with h | ⟨ns, ms, hbs, nm, h⟩
    · exact .inl h
    · refine .inr ⟨ns, ms, hbs, nm.kp k, ?_⟩
      rcases h with h | ⟨h, rb, hr, h2⟩
      · exact .inl h
      · refine .inr ⟨h, rb, hr, ?_⟩
        rcases h2 with h2 | ⟨h2, lk⟩
        · exact .inl h2
        · exact .inr ⟨h2, lk.kp k⟩
section
variable {P : Program} {w : World} {K : PySem.W.Frag} {mg : Str → Option Value} {base : Heap}
def spShape (T : Top K mg) : Sp := fun vs H Q _ => ∃ (v : V) (b : Bool), vs = [v] ∧ Tb T.tbs H ∧ SpV H v b ∧ ∀ H', Kp H H' → Tb T.tbs H' → Q (.bl b) H'
theorem ok_shape (T : Top K mg) (TM : GxR.TabB base mg T.cM T.PM) (TS : GxR.TabB base mg T.cS T.PS) (TR : GxR.TabB base mg T.cR T.PR) (TK : GxR.TabB base mg T.cK T.PK) (TB : GxR.TabB base mg T.cH T.PH) : FnOk P w K mg base CX0 8 T.a_isshape T.d_isshape ["thing"] (spShape T) := by
  have G_isshaperow : FnOk P w K mg base CX0 6 _ _ _ _ := ok_shrow T TM TS
  have G_iswhole : FnOk P w K mg base CX0 1 _ _ _ _ := ok_whole T
  have G_ismark : FnOk P w K mg base CX0 3 _ _ _ _ := ok_mark T TM
  have G_isrising : FnOk P w K mg base CX0 2 _ _ _ _ := ok_risL T TR
  have G_arelinked : FnOk P w K mg base CX0 3 _ _ _ _ := ok_linked T TK
  refine okC T.F_isshape T.hcH sc_isshape (fun vs H Q E h => ?_) (fun A outer s H vs Q E hr h => ?_)
  · obtain ⟨v, b, rfl, _⟩ := h
    rfl
  · obtain ⟨v, b, rfl, tb, hx, q⟩ := h
    refine ⟨_, (pss_cons (ps_if (PW.pt (pw_or (pt_not (pt_val (pe_callB call_isi (by rfl) T.m_isinstance (by decide +kernel) (pa_cons (pv 0) (pa_cons (pe_bltn (v := .ty "tuple") (by rfl) T.m_tuple (by decide +kernel) rfl) pa_nil))))) (pw_or1 (pt_not (pt_val (pe_allG (own := [("row", 1)]) hr rfl sc_isshape.nd (by rfl) T.m_all (by decide +kernel) TB rfl (blkOk_by (own := [("row", 1)]) (N := ["thing", "row", "names", "name"]) (sc := defScope s_isshape) (by decide +kernel)) (by rfl) (by decide +kernel) (by rfl) (pi_tup (pv 0)) (fun _ _ _ _ _ _ _ => (pg_name (i := 1) sc_isshape.nd rfl (.inl rfl) (hf := Or.inr rfl))) (fun _ _ _ _ _ _ _ hr' => (pe_call G_isshaperow hr' (by rfl) T.g_isshaperow T.F_isshaperow.kp T.b_isshaperow .nil pass0 (pa_cons (pv 1) pa_nil))))))))) (pss_one (ps_ret pe_bl)) pss_nil)
      (pss_cons (ps_setLc (i := 2) (own := [("row", 1)]) (g := gName 1) (tt := tYes) (by rfl) sc_isshape.nd rfl rfl (sw_true rfl rfl rfl (by decide +kernel)) (pi_tup (pv 0)) (blkOk_by (own := [("row", 1)]) (N := ["thing", "row", "names", "name"]) (sc := defScope s_isshape) (by decide +kernel)) (fun _ _ _ _ _ => (pg_name (i := 1) sc_isshape.nd rfl (.inl rfl))) (fun _ _ _ _ _ => pts_nil) (fun _ _ _ _ _ => (pe_ix (ix_tupK (K := K) rfl) (pv 1) pe_int (fun _ _ => rfl))))
      (pss_cons (ps_if (PW.pt (pw_and (pt_not (pt_val (pe_allG (own := [("name", 3)]) hr rfl sc_isshape.nd (by rfl) T.m_all (by decide +kernel) TB rfl (blkOk_by (own := [("name", 3)]) (N := ["thing", "row", "names", "name"]) (sc := defScope s_isshape) (by decide +kernel)) (by rfl) (by decide +kernel) (by rfl) (pi_list (pv 2)) (fun _ _ _ _ _ _ _ => (pg_name (i := 3) sc_isshape.nd rfl (.inl rfl) (hf := Or.inr rfl))) (fun _ _ _ _ _ _ _ hr' => (pe_call G_iswhole (hr'.mono (by decide)) (by rfl) T.g_iswhole T.F_iswhole.kp T.b_iswhole .nil pass0 (pa_cons (pv 3) pa_nil)))))) (pw_and1 (pt_not (pt_val (pe_allG (own := [("name", 3)]) hr rfl sc_isshape.nd (by rfl) T.m_all (by decide +kernel) TB rfl (blkOk_by (own := [("name", 3)]) (N := ["thing", "row", "names", "name"]) (sc := defScope s_isshape) (by decide +kernel)) (by rfl) (by decide +kernel) (by rfl) (pi_list (pv 2)) (fun _ _ _ _ _ _ _ => (pg_name (i := 3) sc_isshape.nd rfl (.inl rfl) (hf := Or.inr rfl))) (fun _ _ _ _ _ _ _ hr' => (pe_call G_ismark (hr'.mono (by decide)) (by rfl) T.g_ismark T.F_ismark.kp T.b_ismark .nil pass0 (pa_cons (pv 3) pa_nil))))))))) (pss_one (ps_ret pe_bl)) pss_nil)
      (pss_one (ps_ret (pe_and (pe_call G_isrising (hr.mono (by decide)) (by rfl) T.g_isrising T.F_isrising.kp T.b_isrising .nil pass0 (pa_cons (pv 2) pa_nil)) (pe_one (pe_call G_arelinked (hr.mono (by decide)) (by rfl) T.g_arelinked T.F_arelinked.kp T.b_arelinked .nil pass0 (pa_cons (pv 0) pa_nil))))))))), ?_⟩
    rcases hx with ⟨nt, rfl⟩ | ⟨a, xs, bs, rfl, hlen, ha, sh, hx⟩
    · obtain ⟨t, ty, kt⟩ := notup_ok (K := K) nt
      refine ⟨_, rfl, _, _, _, _, false, rfl, ClsV.ty _, ty, kt, _, rfl, iteT ?_⟩
      exact iteT (q H (Kp.refl H) tb)
    · refine ⟨_, rfl, _, _, _, _, true, rfl, ClsV.ty _, .base (.tup ha), kit_ty (by decide +kernel), _, rfl, iteF ?_⟩
      have big : (2000 : Nat) ≤ sizeLine := by decide
      refine ⟨_, rfl, a, rfl, ⟨_, SqT.of ha⟩, tb.g T.mH, fun H2 tab => ?_⟩
      have k2 := Kp.of_tabd (tb.g T.mH) tab
      have tb2 := tb.tab T.nd T.mH (But.of_tab tab) tab.1
      refine gturns_it (walk_tup (xs := xs)) (fun i H3 => Kp H H3 ∧ Tb T.tbs H3 ∧ (bs.take i).all id = true) ⟨k2, tb2, rfl⟩ (fun i H3 _ z => SqT.of (z.1.tup ha)) ?_ (fun H3 z => ?_)
      · rintro i x H3 H4 N hi ⟨k3, tb3, al3⟩ ⟨rfl, hxi⟩ nx
        obtain ⟨c, hc, sx⟩ := sh.at_ hxi
        refine ⟨rfl, _, rfl, x, c, rfl, tb3, sx.kp k3, fun H5 k5 tb5 => ⟨c, rfl, ?_⟩⟩
        cases c with
        | true =>
          refine iteT (nx _ ⟨k3.trans k5, tb5, ?_⟩)
          rw [List.take_succ, hc, List.all_append, al3]
          rfl
        | false =>
          refine iteF ⟨_, rfl, iteT ?_⟩
          have ef : bs.all id = false := by
            rw [List.all_eq_false]
            exact ⟨false, List.mem_of_getElem? hc, by decide⟩
          rcases hx with ⟨_, rfl⟩ | ⟨ns, ms, hbs, nm, hx⟩
          · exact q _ (k3.trans k5) tb5
          · rw [ef] at hbs
            exact nomatch hbs
      · obtain ⟨k3, tb3, al3⟩ := z
        rw [sh.len, List.take_of_length_le (Nat.le_refl _)] at al3
        refine ⟨_, rfl, iteF ?_⟩
        rcases hx with ⟨e, _⟩ | ⟨ns, ms, _, nm, hx⟩
        · rw [al3] at e
          exact nomatch e
        have nl := nm.len
        have ha3 := k3.tup ha
        have nm3 := nm.kp k3
        refine ⟨_, rfl, a, rfl, ⟨_, SqT.of ha3⟩, fun D nD => ?_⟩
        refine lc_tup (xs := xs) (fun i H4 => Same H3 H4 ∧ H4 D = some (.lst (ns.take i))) ⟨same_new nD, upd_same⟩ (fun i H4 _ z => SqT.of (z.1 _ _ ha3)) ?_ ?_
        · rintro i x H4 hxi ⟨s4, hD⟩
          obtain ⟨p, n, ys, rfl, hni, hp⟩ := nm3.at_ hxi
          refine ⟨rfl, _, rfl, p, _, _, _, rfl, rfl, SqT.of (s4 _ _ hp), atI_nat (j := 0) rfl, _, hD, ?_, ?_, ?_⟩
          · rw [List.length_take]
            omega
          · intro c o e
            rw [upd_ne (ne_of_none e nD)]
            exact s4 _ _ e
          · rw [upd_same, List.take_succ, hni]
            rfl
        rintro H4 ⟨s4, hD⟩
        rw [nl.1, List.take_of_length_le (Nat.le_refl _)] at hD
        have tb4 := tb3.same s4
        have k4 : Kp H H4 := k3.same s4
        have hDk : ∀ {G : Hp}, Kp H4 G → G D = some (.lst ns) := fun k => k _ _ hD (by intro ps z; cases z)
        apply cutH (B := fun h => (ns.all wholeB || ms.all id) = true ∧ Kp H4 h ∧ Tb T.tbs h)
        · intro rest
          refine ⟨_, rfl, D, rfl, ⟨_, SqL.of hD⟩, tb4.g T.mH, fun H5 tab5 => ?_⟩
          have k5 := Kp.of_tabd (tb4.g T.mH) tab5
          have tb5 := tb4.tab T.nd T.mH (But.of_tab tab5) tab5.1
          refine gturns_it (walk_list (xs := ns)) (fun i H6 => Kp H4 H6 ∧ Tb T.tbs H6 ∧ (ns.take i).all wholeB = true) ⟨k5, tb5, rfl⟩ (fun i H6 _ z => SqL.of (hDk z.1)) ?_ (fun H6 z => ?_)
          · rintro i x H6 H7 N hi ⟨k6, tb6, al6⟩ ⟨rfl, hxi⟩ nx
            obtain ⟨m, hm, ax, mx⟩ := nm.nm hxi
            refine ⟨rfl, _, rfl, x, rfl, ax.kp (k4.trans k6), wholeB x, rfl, ?_⟩
            cases e : wholeB x with
            | true =>
              refine iteT (nx _ ⟨k6, tb6, ?_⟩)
              rw [List.take_succ, hxi, List.all_append, al6]
              show (true && (wholeB x && true)) = true
              rw [e]
              rfl
            | false =>
              have ew : ns.all wholeB = false := by
                rw [List.all_eq_false]
                exact ⟨x, List.mem_of_getElem? hxi, by rw [e]; exact Bool.false_ne_true⟩
              refine iteF ⟨_, rfl, iteT ?_⟩
              refine ⟨_, rfl, D, rfl, ⟨_, SqL.of (hDk k6)⟩, tb6.g T.mH, fun H8 tab8 => ?_⟩
              have k8 : Kp H4 H8 := k6.trans (Kp.of_tabd (tb6.g T.mH) tab8)
              have tb8 := tb6.tab T.nd T.mH (But.of_tab tab8) tab8.1
              refine gturns_it (walk_list (xs := ns)) (fun i H6 => Kp H4 H6 ∧ Tb T.tbs H6 ∧ (ms.take i).all id = true) ⟨k8, tb8, rfl⟩ (fun i H6 _ z => SqL.of (hDk z.1)) ?_ (fun H9 z => ?_)
              · rintro j y H9 H10 N2 hj ⟨k9, tb9, al9⟩ ⟨rfl, hyj⟩ nx2
                obtain ⟨m2, hm2, ay, my⟩ := nm.nm hyj
                refine ⟨rfl, _, rfl, y, m2, rfl, tb9, my.kp (k4.trans k9), fun H11 k11 tb11 => ⟨m2, rfl, ?_⟩⟩
                cases m2 with
                | true =>
                  refine iteT (nx2 _ ⟨k9.trans k11, tb11, ?_⟩)
                  rw [List.take_succ, hm2, List.all_append, al9]
                  rfl
                | false =>
                  have em : ms.all id = false := by
                    rw [List.all_eq_false]
                    exact ⟨false, List.mem_of_getElem? hm2, by decide⟩
                  refine iteF ⟨_, rfl, iteT ?_⟩
                  rcases hx with ⟨_, _, rfl⟩ | ⟨h, _⟩
                  · exact q _ (k4.trans (k9.trans k11)) tb11
                  · rw [ew, em] at h
                    exact nomatch h
              · obtain ⟨k9, tb9, al9⟩ := z
                rw [nl.2, List.take_of_length_le (Nat.le_refl _)] at al9
                exact ⟨_, rfl, iteF (rest H9 ⟨by rw [al9, Bool.or_true], k9, tb9⟩)⟩
          · obtain ⟨k6, tb6, al6⟩ := z
            rw [List.take_of_length_le (Nat.le_refl _)] at al6
            exact ⟨_, rfl, iteF (iteF (rest H6 ⟨by rw [al6, Bool.true_or], k6, tb6⟩))⟩
        rintro H6 ⟨hor, k6, tb6⟩
        rcases hx with ⟨e1, e2, _⟩ | ⟨_, rb, ris, hx⟩
        · rw [e1, e2] at hor
          exact nomatch hor
        refine ⟨_, rfl, D, ns, rb, rfl, hDk k6, ris, tb6, fun H7 k7 tb7 => ?_⟩
        rcases hx with ⟨rfl, rfl⟩ | ⟨rfl, lk⟩
        · exact ⟨_, rfl, iteF (q _ (k4.trans (k6.trans k7)) tb7)⟩
        · exact ⟨_, rfl, iteT ⟨_, rfl, _, b, rfl, tb7, lk.kp (k4.trans (k6.trans k7)), fun H8 k8 tb8 => q _ (k4.trans (k6.trans (k7.trans k8))) tb8⟩⟩
end

end My
namespace My
open PySem L2
/-! ### the pot of draws -/
theorem emod_small {x m j : Int} (h : 0 < m) (h2 : m < 2 ^ 64) : CMul (x % m) j := .inl ⟨by have := Int.emod_nonneg x (show m ≠ 0 by omega); omega, by have := Int.emod_lt_of_pos x h; omega⟩
theorem lay_ints : ∀ l : List Int, PyData.canLayAll0 (l.map .int) = true ∧ PyData.depthAll (l.map .int) ≤ 1
  | [] => ⟨rfl, Nat.zero_le _⟩
  | x :: r => by
    have ih := lay_ints r
    refine ⟨?_, ?_⟩
    · show (PyData.canLay0 (.int x) && PyData.canLayAll0 (r.map .int)) = true
      rw [ih.1, Bool.and_true]
      rfl
    · show max (PyData.depth (.int x)) (PyData.depthAll (r.map .int)) ≤ 1
      exact Nat.max_le.mpr ⟨Nat.zero_le _, ih.2⟩
theorem dp_intsL {K : PySem.W.Frag} {H : Hp} : ∀ l : List Int, DpAll K H (l.map V.int) (l.map PyData.int)
  | [] => .nil
  | x :: l => .cons (.int x) (dp_intsL l)
theorem shp_ints (l : List Int) : SeqAt.shaped (.list (l.map .int)) = true := by
  have h := lay_ints l
  unfold SeqAt.shaped
  rw [show PyData.canLay0 (.list (l.map .int)) = true from h.1, decide_eq_true (show PyData.depth (.list (l.map .int)) ≤ 64 by show PyData.depthAll _ + 1 ≤ 64; omega)]
  rfl
theorem eq_nilL : ∀ l : List Int, PyData.eqv (.list (l.map .int)) (.list []) = l.isEmpty
  | [] => by decide +kernel
  | x :: l => by
    show PyData.eqv (.list (.int x :: l.map .int)) (.list []) = false
    simp [PyData.eqv, PyData.eqvAll]
theorem ix0 (n : Nat) : ixN (n + 1) 0 = some 0 := by
  unfold ixN
  simp
  try omega
/-- all but b and L as it was -/
def But2 (b L : Addr) (H H' : Hp) : Prop := ∀ a o, H a = some o → a ≠ b → a ≠ L → H' a = some o
theorem But2.refl {b L : Addr} {H : Hp} : But2 b L H H := fun _ _ e _ _ => e
theorem But2.same {b L : Addr} {H H1 H2 : Hp} (k : But2 b L H H1) (s : Same H1 H2) : But2 b L H H2 := fun a o e n1 n2 => s _ _ (k a o e n1 n2)
theorem But2.trans {b L : Addr} {H H1 H2 : Hp} (k : But2 b L H H1) (g : But2 b L H1 H2) : But2 b L H H2 := fun a o e n1 n2 => g a o (k a o e n1 n2) n1 n2
theorem But2.putL {b L : Addr} {H H1 : Hp} {o : HO} (k : But2 b L H H1) : But2 b L H (upd H1 L o) := fun a x e n1 n2 => by
  rw [upd_ne n2]
  exact k a x e n1 n2
theorem But2.putB {b L : Addr} {H H1 : Hp} {o : HO} (k : But2 b L H H1) : But2 b L H (upd H1 b o) := fun a x e n1 n2 => by
  rw [upd_ne n1]
  exact k a x e n1 n2
/-- the pot: at most m times stirred -/
structure Pot (H : Hp) (b L : Addr) (ns : List Int) (tot n : Int) : Prop where
  hb : H b = some (.lst [.ref L, .int tot, .int n])
  hL : H L = some (.lst (ns.map V.int))
  ne : L ≠ b
def PotAt (H : Hp) (b L : Addr) (m : Int) : Prop := ∃ ns tot n, Pot H b L ns tot n ∧ 0 ≤ n ∧ n ≤ m
theorem Pot.same {H H' : Hp} {b L : Addr} {ns : List Int} {tot n : Int} (h : Pot H b L ns tot n) (s : Same H H') : Pot H' b L ns tot n := ⟨s _ _ h.hb, s _ _ h.hL, h.ne⟩
theorem PotAt.same {H H' : Hp} {b L : Addr} {m : Int} (h : PotAt H b L m) (s : Same H H') : PotAt H' b L m := by
  obtain ⟨ns, tot, n, h1, h2⟩ := h
  exact ⟨ns, tot, n, h1.same s, h2⟩
section
variable {P : Program} {w : World} {K : PySem.W.Frag} {mg : Str → Option Value} {base : Heap}
def spMixed : Sp := fun vs H Q _ => ∃ (c k : Int), vs = [.int c, .int k] ∧ 0 ≤ k ∧ k < 2 ^ 60 ∧ ∀ v : Int, Q (.int v) H
theorem ok_mixed (T : Top K mg) : FnOk P w K mg base CX0 1 T.a_Lmixed T.d_Lmixed ["_law_cell", "_law_k"] spMixed := by
  refine T.F_Lmixed.ok sc_Lmixed (fun vs H Q E h => ?_) (fun cdv A outer s H vs Q E hr h => ?_)
  · obtain ⟨c, k, rfl, _⟩ := h
    rfl
  · obtain ⟨c, k, rfl, k0, k1, q⟩ := h
    refine ⟨_, (pss_cons (ps_set (i := 2) sc_Lmixed.nd rfl (.inl rfl) (pe_op op_mod (pe_op op_add (pe_op op_add (pe_op op_mul (pe_op op_mod (pv 0) pe_int) (pe_op op_add pe_int (pe_op op_mul (pe_op op_mul pe_int (pv 1)) (pv 1)))) (pe_op op_mul pe_int (pv 1))) pe_int) pe_int))
      (pss_cons (ps_set (i := 2) sc_Lmixed.nd rfl (.inl rfl) (pe_op op_fdivW (pe_op op_mod (pe_op op_mul (pv 2) (pv 2)) pe_int) pe_int))
      (pss_cons (ps_set (i := 3) sc_Lmixed.nd rfl (.inl rfl) (pe_op op_mod (pe_op op_add (pe_op op_add (pe_op op_mul (pv 2) pe_int) (pe_op op_mul pe_int (pv 1))) pe_int) pe_int))
      (pss_one (ps_ret (pe_op op_fdivW (pe_op op_mod (pe_op op_mul (pv 3) (pe_op op_add (pe_op op_mod (pv 2) pe_int) pe_int)) pe_int) pe_int)))))), ?_⟩
    refine ⟨_, rfl, _, _, rfl, rfl, (by show (0 : Int) < 2147483647; decide), ?_⟩
    refine ⟨_, rfl, _, _, rfl, rfl, .inl ⟨by decide, by decide⟩, _, rfl, _, _, rfl, rfl, .inr ⟨by omega, by omega⟩, ?_⟩
    refine ⟨_, _, rfl, rfl, ?_⟩
    refine ⟨_, _, rfl, rfl, emod_small (m := 2147483647) (by decide) (by decide), ?_⟩
    refine ⟨_, rfl, _, _, rfl, rfl, .inl ⟨by decide, by decide⟩, ?_⟩
    refine ⟨_, _, rfl, rfl, ?_⟩
    refine ⟨_, _, rfl, rfl, ?_⟩
    refine ⟨_, _, rfl, rfl, (by show (0 : Int) < 2147483629; decide), ?_⟩
    refine ⟨_, rfl, _, rfl, _, _, rfl, rfl, emod_small (m := 2147483629) (by decide) (by decide), _, _, rfl, rfl, (by show (0 : Int) < 2147483587; decide), _, _, rfl, rfl, wide_ok (by decide) (by decide), ?_⟩
    refine ⟨_, rfl, _, _, rfl, rfl, .inr ⟨by decide, by decide⟩, ?_⟩
    refine ⟨_, rfl, _, _, rfl, rfl, .inl ⟨by decide, by decide⟩, ?_⟩
    refine ⟨_, _, rfl, rfl, ?_⟩
    refine ⟨_, _, rfl, rfl, ?_⟩
    refine ⟨_, _, rfl, rfl, (by show (0 : Int) < 2147483579; decide), ?_⟩
    refine ⟨_, rfl, _, rfl, ?_⟩
    refine ⟨_, _, rfl, rfl, (by show (0 : Int) < 65521; decide), ?_⟩
    refine ⟨_, _, rfl, rfl, ?_⟩
    refine ⟨_, _, rfl, rfl, emod_small (m := 2147483579) (by decide) (by decide), ?_⟩
    refine ⟨_, _, rfl, rfl, (by show (0 : Int) < 2147483563; decide), ?_⟩
    exact ⟨_, _, rfl, rfl, wide_ok (by decide) (by decide), q _⟩
def spTake : Sp := fun vs H Q _ => ∃ (b L : Addr) (m many : Int), vs = [.ref b, .int many] ∧ PotAt H b L m ∧ m < 2 ^ 50 ∧ 0 < many ∧ many < 2 ^ 90 ∧ ∀ (x : Int) (H' : Hp), 0 ≤ x → x < many → PotAt H' b L (m + 1) → But2 b L H H' → Q (.int x) H'
theorem ok_take (T : Top K mg) : FnOk P w K mg base CX0 2 T.a_Ltake T.d_Ltake ["_law_pot_here", "_law_many"] spTake := by
  have G_Lmixed : FnOk P w K mg base CX0 1 _ _ _ _ := ok_mixed T
  refine T.F_Ltake.ok sc_Ltake (fun vs H Q E h => ?_) (fun cdv A outer s H vs Q E hr h => ?_)
  · obtain ⟨b, L, m, many, rfl, _⟩ := h
    rfl
  · obtain ⟨b, L, m, many, rfl, ⟨ns, tot, n, pt, n0, nm⟩, hm, m0, m1, q⟩ := h
    refine ⟨_, (pss_cons (ps_while PassesOwn.never (PW.pt (pw_and (pt_cmpR (op_neD hr.units) (pe_ix ix_list (pv 0) pe_int (fun _ _ => rfl)) (pe_lst pa_nil) (nomark _)) (pw_and1 (pt_cmpR op_eq (pe_ix ix_list (pe_ix ix_list (pv 0) pe_int (fun _ _ => rfl)) pe_int (fun _ _ => rfl)) pe_int (nomark _))))) (pss_one (ps_expr (pe_bm PySem.F.plainAttrs_list PySem.F.slot_list_pop PySem.F.type_list_pop mt_popAt (pe_ix ix_list (pv 0) pe_int (fun _ _ => rfl)) (pa_cons pe_int pa_nil)))))
      (pss_cons (ps_if (pt_cmpR (op_neD hr.units) (pe_ix ix_list (pv 0) pe_int (fun _ _ => rfl)) (pe_lst pa_nil) (nomark _)) (pss_cons (ps_set (i := 2) sc_Ltake.nd rfl (.inl rfl) (pe_op op_mod (pe_ix ix_list (pe_ix ix_list (pv 0) pe_int (fun _ _ => rfl)) pe_int (fun _ _ => rfl)) (pv 1)))
      (pss_cons (ps_asg (pe_op op_fdivW (pe_ix ix_list (pe_ix ix_list (pv 0) pe_int (fun _ _ => rfl)) pe_int (fun _ _ => rfl)) (pv 1)) (pg_sub (pe_ix ix_list (pv 0) pe_int (fun _ _ => rfl)) pe_int set_list))
      (pss_one (ps_ret (pv 2))))) pss_nil)
      (pss_cons (ps_augS (pv 0) pe_int get_list pe_int ip_add set_list)
      (pss_one (ps_ret (pe_op op_mod (pe_call G_Lmixed hr (by rfl) T.g_Lmixed T.F_Lmixed.kp T.b_Lmixed .nil pass0 (pa_cons (pe_op op_add (pe_ix ix_list (pv 0) pe_int (fun _ _ => rfl)) (pe_op op_mul pe_int (pe_ix ix_list (pv 0) pe_int (fun _ _ => rfl)))) (pa_cons (pe_ix ix_list (pv 0) pe_int (fun _ _ => rfl)) pa_nil))) (pv 1))))))), ?_⟩
    have fin : ∀ (x : Int) (H' : Hp) (ns' : List Int) (n' : Int), Pot H' b L ns' tot n' → 0 ≤ n' → n' ≤ m + 1 → But2 b L H H' → Q (.int (x % many)) H' := fun x H' ns' n' p' h1 h2 k => q _ _ (Int.emod_nonneg x (by omega)) (Int.emod_lt_of_pos x m0) ⟨ns', tot, n', p', h1, h2⟩ k
    refine ⟨fun k σ H2 => ∃ ns, k = ns.length ∧ σ = [some (.ref b), some (.int many), none] ∧ Pot H2 b L ns tot n ∧ But2 b L H H2, ⟨ns.length, ns, rfl, rfl, pt, .refl⟩, ?_⟩
    rintro k σ H2 ⟨ns, rfl, rfl, p2, k2⟩
    refine ⟨_, rfl, b, _, _, _, rfl, rfl, SqL.of p2.hb, atI_nat (j := 0) rfl, Nat.zero_le _, fun e ne => ?_⟩
    have se := same_new (o := .lst []) ne
    have he : upd H2 e (.lst []) e = some (.lst []) := upd_same
    generalize upd H2 e (.lst []) = H3 at se he ⊢
    have p3 := p2.same se
    have k3 := k2.same se
    refine ⟨_, _, .lst (SqL.of p3.hL) (dp_intsL ns), .lst (SqL.of he) .nil, shp_ints ns, rfl, ?_⟩
    rw [eq_nilL]
    cases ns with
    | nil =>
      refine ⟨_, rfl, iteF ?_⟩
      refine iteF ?_
      refine ⟨_, rfl, b, _, _, _, rfl, rfl, SqL.of p3.hb, atI_nat (j := 0) rfl, Nat.zero_le _, fun e2 ne2 => ?_⟩
      have se2 := same_new (o := .lst []) ne2
      have he2 : upd H3 e2 (.lst []) e2 = some (.lst []) := upd_same
      generalize upd H3 e2 (.lst []) = H4 at se2 he2 ⊢
      have p4 := p3.same se2
      have k4 := k3.same se2
      refine ⟨.list [], .list [], .lst (SqL.of p4.hL) .nil, .lst (SqL.of he2) .nil, rfl, rfl, ?_⟩
      rw [show PyData.eqv (.list []) (.list []) = true by decide +kernel]
      refine ⟨_, rfl, iteF ?_⟩
      refine ⟨_, rfl, b, _, _, _, rfl, rfl, SqL.of p4.hb, atI_nat (j := 2) rfl, _, _, rfl, rfl, b, _, _, 2, rfl, rfl, p4.hb, rfl, ?_⟩
      have p5 : Pot (upd H4 b (.lst ([V.ref L, V.int tot, V.int n].set 2 (.int (n + 1))))) b L [] tot (n + 1) := ⟨upd_same, by rw [upd_ne p4.ne]; exact p4.hL, p4.ne⟩
      have k5 : But2 b L H (upd H4 b (.lst ([V.ref L, V.int tot, V.int n].set 2 (.int (n + 1))))) := k4.putB
      generalize upd H4 b (.lst ([V.ref L, V.int tot, V.int n].set 2 (.int (n + 1)))) = H5 at p5 k5 ⊢
      refine ⟨_, rfl, b, _, _, _, rfl, rfl, SqL.of p5.hb, atI_nat (j := 1) rfl, ?_⟩
      refine ⟨_, rfl, b, _, _, _, rfl, rfl, SqL.of p5.hb, atI_nat (j := 2) rfl, _, _, rfl, rfl, .inl ⟨by decide, by decide⟩, ?_⟩
      refine ⟨_, _, rfl, rfl, ?_⟩
      refine ⟨_, rfl, b, _, _, _, rfl, rfl, SqL.of p5.hb, atI_nat (j := 2) rfl, ?_⟩
      refine ⟨_, _, rfl, by omega, by omega, fun v => ?_⟩
      exact ⟨_, rfl, _, _, rfl, rfl, m0, fin _ _ _ _ p5 (by omega) (by omega) k5⟩
    | cons x r =>
      refine ⟨_, rfl, iteT ?_⟩
      refine ⟨_, rfl, b, _, _, _, rfl, rfl, SqL.of p3.hb, atI_nat (j := 0) rfl, L, _, _, _, rfl, rfl, SqL.of p3.hL, atI_nat (j := 0) rfl, rfl, _, rfl, ite2 (fun _ => ?_) (fun _ => ?_)⟩
      · refine ⟨fun σ' H' => σ' = [some (.ref b), some (.int many), none] ∧ Pot H' b L r tot n ∧ But2 b L H H', fun σ' H' z => ⟨r.length, by rw [List.length_cons]; omega, r, rfl, z.1, z.2.1, z.2.2⟩, ?_⟩
        refine ⟨_, rfl, b, _, _, _, rfl, rfl, SqL.of p3.hb, atI_nat (j := 0) rfl, .inl ⟨rfl, _, SqL.of p3.hL⟩, L, _, 0, 0, _, rfl, rfl, p3.hL, by decide, by decide, ?_, rfl, rfl, ⟨?_, upd_same, p3.ne⟩, k3.putL⟩
        · simp [seqIndex?]
        · rw [upd_ne p3.ne.symm]
          exact p3.hb
      · refine ⟨_, rfl, b, _, _, _, rfl, rfl, SqL.of p3.hb, atI_nat (j := 0) rfl, Nat.zero_le _, fun e2 ne2 => ?_⟩
        have se2 := same_new (o := .lst []) ne2
        have he2 : upd H3 e2 (.lst []) e2 = some (.lst []) := upd_same
        generalize upd H3 e2 (.lst []) = H4 at se2 he2 ⊢
        have p4 := p3.same se2
        have k4 := k3.same se2
        refine ⟨_, _, .lst (SqL.of p4.hL) (dp_intsL (x :: r)), .lst (SqL.of he2) .nil, shp_ints (x :: r), rfl, ?_⟩
        rw [eq_nilL]
        refine ⟨_, rfl, iteT ?_⟩
        refine ⟨_, rfl, b, _, _, _, rfl, rfl, SqL.of p4.hb, atI_nat (j := 0) rfl, L, _, _, _, rfl, rfl, SqL.of p4.hL, atI_nat (j := 0) rfl, _, rfl, _, _, rfl, rfl, m0, ?_⟩
        refine ⟨_, rfl, b, _, _, _, rfl, rfl, SqL.of p4.hb, atI_nat (j := 0) rfl, L, _, _, _, rfl, rfl, SqL.of p4.hL, atI_nat (j := 0) rfl, _, rfl, _, _, rfl, rfl, wide_ok m0 (by omega), ?_⟩
        refine ⟨_, rfl, b, _, _, _, rfl, rfl, SqL.of p4.hb, atI_nat (j := 0) rfl, L, _, 0, 0, rfl, rfl, p4.hL, (by rw [List.length_map, List.length_cons]; exact ix0 _), ?_⟩
        exact ⟨_, rfl, fin x _ ((x / many) :: r) n ⟨by rw [upd_ne p4.ne.symm]; exact p4.hb, upd_same, p4.ne⟩ n0 (by omega) k4.putL⟩
def spPot (K : PySem.W.Frag) : Sp := fun vs H Q _ => ∃ (a : Addr) (ns : List Int), vs = [.ref a] ∧ SqL K H a (ns.map V.int) ∧ ∀ (b L : Addr) (H' : Hp), Same H H' → H b = none → H L = none → PotAt H' b L 0 → Q (.ref b) H'
theorem ok_pot (T : Top K mg) : FnOk P w K mg base CX0 1 T.a_Lpot T.d_Lpot ["_law_script"] (spPot K) := by
  refine T.F_Lpot.ok sc_Lpot (fun vs H Q E h => ?_) (fun cdv A outer s H vs Q E hr h => ?_)
  · obtain ⟨a, ns, rfl, _⟩ := h
    rfl
  · obtain ⟨a, ns, rfl, hS, q⟩ := h
    refine ⟨_, (pss_cons (ps_set (i := 1) sc_Lpot.nd rfl (.inl rfl) pe_int)
      (pss_cons (ps_for PassesOwn.never rfl (pi_enum (by rfl) T.m_enumerate (pa_cons (pe_slice sl_list (pv 0) po_none (po_some pe_int)) pa_nil)) (pg_tup rfl (pgs_cons (pg_name (i := 2) sc_Lpot.nd rfl (.inl rfl)) (pgs_cons (pg_name (i := 3) sc_Lpot.nd rfl (.inl rfl)) pgs_nil))) (pss_one (ps_set (i := 1) sc_Lpot.nd rfl (.inl rfl) (pe_op op_mod (pe_op op_add (pe_op op_add (pe_op op_add (pe_op op_mul (pv 1) pe_int) (pv 3)) (pe_op op_mul pe_int (pv 2))) pe_int) (pe_op op_add (pe_op op_pow pe_int pe_int) pe_int)))))
      (pss_one (ps_ret (pe_lst (pa_cons (pe_lc (own := [("_law_cell", 3)]) (g := gName 3) (by rfl) sc_Lpot.nd (pi_list (pe_slice sl_list (pv 0) po_none (po_some pe_int))) (blkOk_by (own := [("_law_cell", 3)]) (N := ["_law_script", "_law_total", "_law_k", "_law_cell"]) (sc := defScope s_Lpot) (by decide +kernel)) (fun _ _ _ _ _ => (pg_name (i := 3) sc_Lpot.nd rfl (.inl rfl))) (fun _ _ _ _ _ => (pts_one (pt_cmpR op_ge (pe_callB call_abs (by rfl) T.m_abs (by decide +kernel) (pa_cons (pv 3) pa_nil)) (pe_op op_pow pe_int pe_int) (nomark _)))) (fun _ _ _ _ _ => (pe_callB call_abs (by rfl) T.m_abs (by decide +kernel) (pa_cons (pv 3) pa_nil)))) (pa_cons (pv 1) (pa_cons pe_int pa_nil)))))))), ?_⟩
    have hints : ∀ v ∈ cutV (ns.map V.int) none (some 63), ∃ c, v = .int c := fun v m => by
      have m : v ∈ ns.map V.int := by
        unfold cutV at m
        exact List.mem_of_mem_drop (List.mem_of_mem_take m)
      obtain ⟨c, _, rfl⟩ := List.mem_map.mp m
      exact ⟨c, rfl⟩
    have cl : (cutV (ns.map V.int) none (some 63)).length ≤ 63 := by
      unfold cutV
      rw [List.length_take]
      have : HT.sIx (ns.map V.int).length (ns.map V.int).length (some 63) ≤ 63 := by
        rw [show (63 : Int) = ((63 : Nat) : Int) from rfl, HT.sIx_nat]
        omega
      omega
    refine ⟨_, rfl, 63, rfl, a, _, rfl, hS, fun p np => ?_⟩
    have sp := same_new (o := .lst (cutV (ns.map V.int) none (some 63))) np
    have hp : upd H p (.lst (cutV (ns.map V.int) none (some 63))) p = some (.lst (cutV (ns.map V.int) none (some 63))) := upd_same
    generalize upd H p (.lst (cutV (ns.map V.int) none (some 63))) = H1 at sp hp ⊢
    refine ⟨p, _, rfl, SqL.of hp, for_it walk_enum (fun i σ H2 => ∃ (t : Int) (y2 y3 : Option V), σ = [some (.ref a), some (.int t), y2, y3] ∧ Same H1 H2) ⟨0, none, none, rfl, fun _ _ e => e⟩ (fun i σ H2 _ z => by obtain ⟨_, _, _, _, z⟩ := z; exact SqL.of (z _ _ hp)) ?_ ?_⟩
    · rintro i v σ H2 H3 hi ⟨t, y2, y3, rfl, s2⟩ ⟨T0, x, y, rfl, nT, rfl, hx, hy⟩
      dsimp only at hx hy
      obtain ⟨c, rfl⟩ := hints y (List.mem_of_getElem? hy)
      obtain rfl : V.int (i : Int) = x := Option.some.inj hx
      have sT := same_new (o := .tup [V.int (i : Int), V.int c]) nT
      refine ⟨T0, _, rfl, SqT.of upd_same, rfl, _, _, rfl, _, _, rfl, rfl, ?_⟩
      refine ⟨_, rfl, _, _, rfl, rfl, .inr ⟨by decide, by decide⟩, ?_⟩
      refine ⟨_, rfl, _, _, rfl, rfl, ?_⟩
      refine ⟨_, rfl, _, _, rfl, rfl, .inl ⟨by decide, by decide⟩, ?_⟩
      refine ⟨_, _, rfl, rfl, ?_⟩
      refine ⟨_, _, rfl, rfl, ?_⟩
      refine ⟨_, _, rfl, rfl, ⟨by decide, by decide, by decide⟩, ?_⟩
      refine ⟨_, _, rfl, rfl, ?_⟩
      exact ⟨_, _, rfl, rfl, (by show (0 : Int) < 10 ^ (18 : Int).toNat + 9; decide +kernel), _, _, _, rfl, s2.trans sT⟩
    · rintro σ H2 ⟨t, y2, y3, rfl, s2⟩
      refine ⟨_, rfl, 63, rfl, a, _, rfl, (sp.trans s2).seq hS, fun p2 np2 => ?_⟩
      have sp2 := same_new (o := .lst (cutV (ns.map V.int) none (some 63))) np2
      have hp2 : upd H2 p2 (.lst (cutV (ns.map V.int) none (some 63))) p2 = some (.lst (cutV (ns.map V.int) none (some 63))) := upd_same
      generalize upd H2 p2 (.lst (cutV (ns.map V.int) none (some 63))) = H3 at sp2 hp2 ⊢
      have s03 : Same H H3 := (sp.trans s2).trans sp2
      refine ⟨p2, rfl, ⟨_, SqL.of hp2⟩, fun D nD => ?_⟩
      refine lc_list (xs := cutV (ns.map V.int) none (some 63)) (fun i H4 => Same H3 H4 ∧ ∃ ms : List Int, H4 D = some (.lst (ms.map V.int)) ∧ ms.length ≤ i) ⟨same_new nD, [], upd_same, Nat.le_refl _⟩ (fun i H4 _ z => SqL.of (z.1 _ _ hp2)) ?_ ?_
      · rintro i v H4 hv ⟨s4, ms, hD, lm⟩
        obtain ⟨c, rfl⟩ := hints v (List.mem_of_getElem? hv)
        have hi := (List.getElem?_eq_some_iff.mp hv).1
        refine ⟨rfl, _, rfl, _, rfl, ?_⟩
        refine ⟨_, _, rfl, rfl, ⟨by decide, by decide, by decide⟩, ?_⟩
        refine ⟨_, _, rfl, rfl, _, rfl, ite2 (fun _ => ?_) (fun _ => ⟨s4, ms, hD, by omega⟩)⟩
        refine ⟨_, rfl, _, rfl, _, hD, szl (by rw [List.length_map]; omega), ?_, ms ++ [if c < 0 then -c else c], ?_, by rw [List.length_append]; show ms.length + 1 ≤ i + 1; omega⟩
        · intro b o e
          rw [upd_ne (ne_of_none e nD)]
          exact s4 _ _ e
        · rw [upd_same, List.map_append]
          rfl
      · rintro H4 ⟨s4, ms, hD, lm⟩
        refine ⟨_, rfl, (by show 3 ≤ sizeLine; decide), fun b nb => ?_⟩
        have sb := same_new (o := .lst [.ref D, .int t, .int 0]) nb
        have s0 : Same H (upd H4 b (.lst [.ref D, .int t, .int 0])) := s03.trans (s4.trans sb)
        have none_of : ∀ {X : Hp} {c : Addr}, Same H X → X c = none → H c = none := fun {X c} sx n => by
          cases e : H c with
          | none => rfl
          | some o =>
            rw [sx _ _ e] at n
            cases n
        refine q b D _ s0 (none_of (s03.trans s4) nb) (none_of s03 nD) ⟨ms, t, 0, ⟨upd_same, sb _ _ hD, ?_⟩, Int.le_refl _, Int.le_refl _⟩
        intro e
        rw [← e, hD] at nb
        cases nb
end

end My
namespace My
open PySem L2
/-! ### what lies deep -/
/-- all stays, but tables of code, and lists stay lists -/
structure KpL (H H' : Hp) : Prop where
  k : ∀ a o, H a = some o → (∀ ps, o ≠ .tbl ps) → (∀ xs, o ≠ .lst xs) → H' a = some o
  l : ∀ a xs, H a = some (.lst xs) → ∃ ys, H' a = some (.lst ys)
theorem KpL.of_kp {H H' : Hp} (k : Kp H H') : KpL H H' := ⟨fun a o e n _ => k a o e n, fun a xs e => ⟨xs, k _ _ e (by intro ps z; cases z)⟩⟩
theorem KpL.tup {H H' : Hp} (k : KpL H H') {t : Addr} {xs : List V} (e : H t = some (.tup xs)) : H' t = some (.tup xs) := k.k _ _ e (by intro ps z; cases z) (by intro ps z; cases z)
theorem KpL.of_pot {H H' : Hp} {b L : Addr} {m m' : Int} (p : PotAt H b L m) (p' : PotAt H' b L m') (k : But2 b L H H') : KpL H H' := by
  obtain ⟨ns, tot, n, h, _⟩ := p
  obtain ⟨ns', tot', n', h', _⟩ := p'
  refine ⟨fun a o e n1 n2 => k a o e (fun z => ?_) (fun z => ?_), fun a xs e => ?_⟩
  · subst z
    rw [h.hb] at e
    exact n2 _ (Option.some.inj e).symm
  · subst z
    rw [h.hL] at e
    exact n2 _ (Option.some.inj e).symm
  · by_cases z : a = b
    · subst z
      exact ⟨_, h'.hb⟩
    · by_cases z2 : a = L
      · subst z2
        exact ⟨_, h'.hL⟩
      · exact ⟨xs, k a _ e z z2⟩
section
variable {H H' : Hp}
theorem NoTup.kpl (k : KpL H H') {v : V} (h : NoTup H v) : NoTup H' v := by
  cases h with
  | non => exact .non
  | bl b => exact .bl b
  | int i => exact .int i
  | str x => exact .str x
  | lst h => exact .lst (k.l _ _ h).choose_spec
  | dK h => exact .dK (k.k _ _ h (by intro ps z; cases z) (by intro ps z; cases z))
theorem AnyV.kpl (k : KpL H H') {v : V} (h : AnyV H v) : AnyV H' v := by
  cases h with
  | non => exact .non
  | bl b => exact .bl b
  | int i => exact .int i
  | str x => exact .str x
  | tup h => exact .tup (k.tup h)
  | lst h => exact .lst (k.l _ _ h).choose_spec
  | dK h => exact .dK (k.k _ _ h (by intro ps z; cases z) (by intro ps z; cases z))
theorem MkV.kpl (k : KpL H H') {v : V} {b : Bool} (h : MkV H v b) : MkV H' v b := by
  rcases h with ⟨a, xs, e, hl, ha, hany, hs, hb⟩ | ⟨nt, hb⟩
  · exact .inl ⟨a, xs, e, hl, k.tup ha, fun x m => (hany x m).kpl k, hs, hb⟩
  · exact .inr ⟨nt.kpl k, hb⟩
theorem Mks.kpl (k : KpL H H') : ∀ {vs : List V} {ms : List Bool}, Mks H vs ms → Mks H' vs ms
  | _, _, .nil => .nil
  | _, _, .cons a m r => .cons (a.kpl k) (m.kpl k) (r.kpl k)
theorem ShV.kpl (k : KpL H H') {v : V} {b : Bool} (h : ShV H v b) : ShV H' v b := by
  rcases h with ⟨a, xs, ms, e, hl, ha, mk, hb⟩ | ⟨nt, hb⟩
  · exact .inl ⟨a, xs, ms, e, hl, k.tup ha, mk.kpl k, hb⟩
  · exact .inr ⟨nt.kpl k, hb⟩
theorem RwI.kpl (k : KpL H H') : ∀ {xs : List V} {rs : List RowI}, RwI H xs rs → RwI H' xs rs
  | _, _, .nil => .nil
  | _, _, .cons e r => .cons (k.tup e) (r.kpl k)
theorem LkV.kpl (k : KpL H H') {v : V} {b : Bool} (h : LkV H v b) : LkV H' v b := by
  rcases h with ⟨a, xs, rs, e, ha, hrw, hl, hb⟩ | ⟨a, p, m, ks, l, t, e, ha, hp, hm, lay, hb⟩
  · exact .inl ⟨a, xs, rs, e, k.tup ha, hrw.kpl k, hl, hb⟩
  · exact .inr ⟨a, p, m, ks, l, t, e, k.tup ha, k.tup hp, k.tup hm, lay, hb⟩
theorem ShAll.kpl (k : KpL H H') : ∀ {vs : List V} {bs : List Bool}, ShAll H vs bs → ShAll H' vs bs
  | _, _, .nil => .nil
  | _, _, .cons e r => .cons (e.kpl k) (r.kpl k)
theorem NmA.kpl (k : KpL H H') : ∀ {xs ns : List V} {ms : List Bool}, NmA H xs ns ms → NmA H' xs ns ms
  | _, _, _, .nil => .nil
  | _, _, _, .cons e a m r => .cons (k.tup e) (a.kpl k) (m.kpl k) (r.kpl k)
theorem SpV.kpl (k : KpL H H') {v : V} {b : Bool} (h : SpV H v b) : SpV H' v b := by
  rcases h with ⟨nt, hb⟩ | ⟨a, xs, bs, e, hl, ha, sh, h⟩
  · exact .inl ⟨nt.kpl k, hb⟩
  · refine .inr ⟨a, xs, bs, e, hl, k.tup ha, sh.kpl k, ?_⟩
    rcases h with h | ⟨ns, ms, hbs, nm, h⟩
    · exact .inl h
    · refine .inr ⟨ns, ms, hbs, nm.kpl k, ?_⟩
      rcases h with h | ⟨h, rb, hr, h2⟩
      · exact .inl h
      · refine .inr ⟨h, rb, hr, ?_⟩
        rcases h2 with h2 | ⟨h2, lk⟩
        · exact .inl h2
        · exact .inr ⟨h2, lk.kpl k⟩
end
def mkP : List V := [.str "point", .int 0]
def rowA : List V := [.int 0, .int 0, .non, .non, .bl false]
/-- the classes of what lies deep -/
inductive Dk (H : Hp) : V → Prop
  | z0 {a : Addr} : H a = some (.tup []) → Dk H (.ref a)
  | i0 : Dk H (.int 0)
  | mk {a : Addr} : H a = some (.tup mkP) → Dk H (.ref a)
  | rowA {a : Addr} : H a = some (.tup rowA) → Dk H (.ref a)
  | rowB {a m : Addr} : H m = some (.tup mkP) → H a = some (.tup [.ref m, .int 0, .non, .non, .bl false]) → Dk H (.ref a)
  | shA {a p : Addr} : H p = some (.tup My.rowA) → H a = some (.tup [.ref p]) → Dk H (.ref a)
  | shB {a p m : Addr} : H m = some (.tup mkP) → H p = some (.tup [.ref m, .int 0, .non, .non, .bl false]) → H a = some (.tup [.ref p]) → Dk H (.ref a)
  | oth {v : V} : AnyV H v → wholeB v = false → (∀ z, v = .str z → SeqAt.shaped (.str z) = true) → MkV H v false → ShV H v false → SpV H v false → Dk H v
theorem Dk.kpl {H H' : Hp} (k : KpL H H') {v : V} (h : Dk H v) : Dk H' v := by
  cases h with
  | z0 h => exact .z0 (k.tup h)
  | i0 => exact .i0
  | mk h => exact .mk (k.tup h)
  | rowA h => exact .rowA (k.tup h)
  | rowB h g => exact .rowB (k.tup h) (k.tup g)
  | shA h g => exact .shA (k.tup h) (k.tup g)
  | shB h g f => exact .shB (k.tup h) (k.tup g) (k.tup f)
  | oth a w s m r p => exact .oth (a.kpl k) w s (m.kpl k) (r.kpl k) (p.kpl k)
section
variable {H : Hp}
theorem mk_nt {v : V} (h : NoTup H v) : MkV H v false := .inr ⟨h, rfl⟩
theorem sh_nt {v : V} (h : NoTup H v) : ShV H v false := .inr ⟨h, rfl⟩
theorem mk_tup {a : Addr} {xs : List V} (ha : H a = some (.tup xs)) (hl : xs.length ≤ 1000) (an : ∀ x ∈ xs, AnyV H x) (sh : ∀ z r, xs = .str z :: r → SeqAt.shaped (.str z) = true) : MkV H (.ref a) (markB xs) := .inl ⟨a, xs, rfl, hl, ha, an, sh, rfl⟩
theorem Mks.any : ∀ {vs : List V} {ms : List Bool}, Mks H vs ms → ∀ x ∈ vs, AnyV H x
  | _, _, .nil, x, m => nomatch m
  | _, _, .cons a _ r, x, m => by
    rcases List.mem_cons.mp m with rfl | m
    · exact a
    · exact Mks.any r x m
theorem oth_tup {a : Addr} {xs : List V} {ms bs : List Bool} (ha : H a = some (.tup xs)) (hl : xs.length ≤ 1000) (mk : Mks H xs ms) (sh : ∀ z r, xs = .str z :: r → SeqAt.shaped (.str z) = true) (em : markB xs = false) (er : shB xs ms = false) (sa : ShAll H xs bs) (eb : bs.all id = false) : Dk H (.ref a) := by
  refine .oth (.tup ha) rfl (fun z e => nomatch e) ?_ (.inl ⟨a, xs, ms, rfl, hl, ha, mk, er.symm⟩) (.inr ⟨a, xs, bs, rfl, hl, ha, sa, .inl ⟨eb, rfl⟩⟩)
  have := mk_tup ha hl mk.any sh
  rw [em] at this
  exact this
theorem rest_mks : Mks H [.int 0, .non, .non, .bl false] [false, false, false, false] := .cons (.int 0) (mk_nt (.int 0)) (.cons .non (mk_nt .non) (.cons .non (mk_nt .non) (.cons (.bl false) (mk_nt (.bl false)) .nil)))
theorem rest_sh : ShAll H [.int 0, .non, .non, .bl false] [false, false, false, false] := .cons (sh_nt (.int 0)) (.cons (sh_nt .non) (.cons (sh_nt .non) (.cons (sh_nt (.bl false)) .nil)))
theorem mkP_any : ∀ x ∈ mkP, AnyV H x := fun x m => by
  rcases List.mem_cons.mp m with rfl | m
  · exact .str _
  · rw [List.mem_singleton.mp m]
    exact .int 0
theorem mkP_ok {a : Addr} (h : H a = some (.tup mkP)) : MkV H (.ref a) true := mk_tup h (Nat.le_of_ble_eq_true rfl) mkP_any (fun z r e => by cases e; decide +kernel)
theorem mkP_mks : Mks H mkP [false, false] := .cons (.str _) (mk_nt (.str _)) (.cons (.int 0) (mk_nt (.int 0)) .nil)
theorem rowA_mks : Mks H rowA [false, false, false, false, false] := .cons (.int 0) (mk_nt (.int 0)) rest_mks
theorem rowA_ok {a : Addr} (h : H a = some (.tup rowA)) : ShV H (.ref a) true := .inl ⟨a, _, _, rfl, (Nat.le_of_ble_eq_true rfl), h, rowA_mks, rfl⟩
theorem rowB_mks {m : Addr} (hm : H m = some (.tup mkP)) : Mks H [.ref m, .int 0, .non, .non, .bl false] [true, false, false, false, false] := .cons (.tup hm) (mkP_ok hm) rest_mks
theorem rowB_ok {a m : Addr} (hm : H m = some (.tup mkP)) (h : H a = some (.tup [.ref m, .int 0, .non, .non, .bl false])) : ShV H (.ref a) true := .inl ⟨a, _, _, rfl, (Nat.le_of_ble_eq_true rfl), h, rowB_mks hm, rfl⟩
theorem noStr {a : Addr} {xs : List V} {z : Str} {r : List V} {P : Prop} (e : V.ref a :: xs = .str z :: r) : P := by cases e
theorem one_mk {a p : Addr} (hp : AnyV H (.ref p)) (h : H a = some (.tup [.ref p])) : MkV H (.ref a) false := mk_tup h (Nat.le_of_ble_eq_true rfl) (fun x m => by rw [List.mem_singleton.mp m]; exact hp) (fun z r e => noStr e)
theorem Dk.any {v : V} (h : Dk H v) : AnyV H v := by
  cases h with
  | i0 => exact .int 0
  | oth a _ _ _ _ _ => exact a
  | z0 h => exact .tup h
  | mk h => exact .tup h
  | rowA h => exact .tup h
  | rowB _ h => exact .tup h
  | shA _ h => exact .tup h
  | shB _ _ h => exact .tup h
theorem Dk.str {v : V} (h : Dk H v) : ∀ z, v = .str z → SeqAt.shaped (.str z) = true := fun z e => by
  subst e
  cases h with
  | oth _ _ s _ _ _ => exact s z rfl
/-- as a name -/
theorem Dk.name {v : V} (h : Dk H v) : v = .int 0 ∨ (∃ a, v = .ref a ∧ H a = some (.tup mkP)) ∨ (wholeB v = false ∧ MkV H v false) := by
  cases h with
  | i0 => exact .inl rfl
  | mk h => exact .inr (.inl ⟨_, rfl, h⟩)
  | oth a w _ m _ _ => exact .inr (.inr ⟨w, m⟩)
  | z0 h => exact .inr (.inr ⟨rfl, mk_tup h (Nat.le_of_ble_eq_true rfl) (fun x m => nomatch m) (fun z r e => nomatch e)⟩)
  | rowA h => exact .inr (.inr ⟨rfl, mk_tup h (Nat.le_of_ble_eq_true rfl) rowA_mks.any (fun z r e => by cases e)⟩)
  | rowB hm h => exact .inr (.inr ⟨rfl, mk_tup h (Nat.le_of_ble_eq_true rfl) (rowB_mks hm).any (fun z r e => noStr e)⟩)
  | shA hp h => exact .inr (.inr ⟨rfl, one_mk (.tup hp) h⟩)
  | shB _ hp h => exact .inr (.inr ⟨rfl, one_mk (.tup hp) h⟩)
theorem Dk.mkv {v : V} (h : Dk H v) : ∃ m, MkV H v m := by
  rcases h.name with rfl | ⟨a, rfl, g⟩ | ⟨_, g⟩
  · exact ⟨false, mk_nt (.int 0)⟩
  · exact ⟨true, mkP_ok g⟩
  · exact ⟨false, g⟩
/-- as a row -/
theorem Dk.row {v : V} (h : Dk H v) : (∃ a, v = .ref a ∧ H a = some (.tup My.rowA)) ∨ (∃ a m, v = .ref a ∧ H m = some (.tup mkP) ∧ H a = some (.tup [.ref m, .int 0, .non, .non, .bl false])) ∨ ShV H v false := by
  cases h with
  | i0 => exact .inr (.inr (sh_nt (.int 0)))
  | mk h => exact .inr (.inr (.inl ⟨_, _, _, rfl, (Nat.le_of_ble_eq_true rfl), h, mkP_mks, rfl⟩))
  | oth _ _ _ _ r _ => exact .inr (.inr r)
  | z0 h => exact .inr (.inr (.inl ⟨_, _, _, rfl, (Nat.le_of_ble_eq_true rfl), h, .nil, rfl⟩))
  | rowA h => exact .inl ⟨_, rfl, h⟩
  | rowB hm h => exact .inr (.inl ⟨_, _, rfl, hm, h⟩)
  | shA hp h => exact .inr (.inr (.inl ⟨_, _, _, rfl, (Nat.le_of_ble_eq_true rfl), h, .cons (.tup hp) (mk_tup hp (Nat.le_of_ble_eq_true rfl) rowA_mks.any (fun z r e => by cases e)) .nil, rfl⟩))
  | shB hm hp h => exact .inr (.inr (.inl ⟨_, _, _, rfl, (Nat.le_of_ble_eq_true rfl), h, .cons (.tup hp) (mk_tup hp (Nat.le_of_ble_eq_true rfl) (rowB_mks hm).any (fun z r e => noStr e)) .nil, rfl⟩))
theorem one_str (v : V) : markB [v] = false := by
  cases v <;> simp [markB]
theorem Dk.tup1 {v : V} (h : Dk H v) {a : Addr} (ha : H a = some (.tup [v])) : Dk H (.ref a) := by
  rcases h.row with ⟨p, rfl, hp⟩ | ⟨p, m, rfl, hm, hp⟩ | sh
  · exact .shA hp ha
  · exact .shB hm hp ha
  · obtain ⟨m, mv⟩ := h.mkv
    refine oth_tup ha (Nat.le_of_ble_eq_true rfl) (.cons h.any mv .nil) (fun z r e => ?_) (one_str v) rfl (.cons sh .nil) rfl
    injection e with e1 _
    exact h.str z e1
theorem Dk.row5 {v : V} (h : Dk H v) {a : Addr} (ha : H a = some (.tup [v, .int 0, .non, .non, .bl false])) : Dk H (.ref a) := by
  rcases h.name with rfl | ⟨p, rfl, hp⟩ | ⟨w, m⟩
  · exact .rowA ha
  · exact .rowB hp ha
  · have sv : ∃ c, ShV H v c := by
      rcases h.row with ⟨p, rfl, hp⟩ | ⟨p, m, rfl, hm, hp⟩ | sh
      · exact ⟨true, rowA_ok hp⟩
      · exact ⟨true, rowB_ok hm hp⟩
      · exact ⟨false, sh⟩
    obtain ⟨c, sc⟩ := sv
    refine oth_tup ha (Nat.le_of_ble_eq_true rfl) (.cons h.any m rest_mks) (fun z r e => ?_) ?_ ?_ (.cons sc rest_sh) (by cases c <;> rfl)
    · injection e with e1 _
      exact h.str z e1
    · cases v <;> first | rfl | simp [markB, natV]
    · show ((wholeB v || false) && _) = false
      rw [w]
      rfl
theorem Dk.zrow {v : V} (h : Dk H v) {a : Addr} (ha : H a = some (.tup [.str "0", v, .non, .non, .bl false])) : Dk H (.ref a) := by
  obtain ⟨m, mv⟩ := h.mkv
  have sv : ∃ c, ShV H v c := by
    rcases h.row with ⟨p, rfl, hp⟩ | ⟨p, m, rfl, hm, hp⟩ | sh
    · exact ⟨true, rowA_ok hp⟩
    · exact ⟨true, rowB_ok hm hp⟩
    · exact ⟨false, sh⟩
  obtain ⟨c, sc⟩ := sv
  refine oth_tup ha (Nat.le_of_ble_eq_true rfl) (.cons (.str _) (mk_nt (.str _)) (.cons h.any mv (.cons .non (mk_nt .non) (.cons .non (mk_nt .non) (.cons (.bl false) (mk_nt (.bl false)) .nil))))) (fun z r e => ?_) ?_ rfl (.cons (sh_nt (.str _)) (.cons sc (.cons (sh_nt .non) (.cons (sh_nt .non) (.cons (sh_nt (.bl false)) .nil))))) rfl
  · injection e with e1 _
    cases e1
    decide +kernel
  · simp [markB, natV]
theorem Dk.nt {v : V} (h : NoTup H v) (w : wholeB v = false) (s : ∀ z, v = .str z → SeqAt.shaped (.str z) = true) : Dk H v := by
  refine .oth ?_ w s (mk_nt h) (sh_nt h) (.inl ⟨h, rfl⟩)
  cases h with
  | non => exact .non
  | bl b => exact .bl b
  | int i => exact .int i
  | str x => exact .str x
  | lst h => exact .lst h
  | dK h => exact .dK h
/-- no shape but () -/
theorem Dk.shape {v : V} (h : Dk H v) : (∃ a, v = .ref a ∧ H a = some (.tup [])) ∨ SpV H v false := by
  cases h with
  | z0 h => exact .inl ⟨_, rfl, h⟩
  | i0 => exact .inr (.inl ⟨.int 0, rfl⟩)
  | oth _ _ _ _ _ s => exact .inr s
  | mk h => exact .inr (.inr ⟨_, _, _, rfl, (Nat.le_of_ble_eq_true rfl), h, .cons (sh_nt (.str _)) (.cons (sh_nt (.int 0)) .nil), .inl ⟨rfl, rfl⟩⟩)
  | rowA h => exact .inr (.inr ⟨_, _, _, rfl, (Nat.le_of_ble_eq_true rfl), h, .cons (sh_nt (.int 0)) rest_sh, .inl ⟨rfl, rfl⟩⟩)
  | rowB hm h => exact .inr (.inr ⟨_, _, _, rfl, (Nat.le_of_ble_eq_true rfl), h, .cons (.inl ⟨_, _, _, rfl, (Nat.le_of_ble_eq_true rfl), hm, mkP_mks, rfl⟩) rest_sh, .inl ⟨rfl, rfl⟩⟩)
  | shA hp h =>
    refine .inr (.inr ⟨_, _, _, rfl, (Nat.le_of_ble_eq_true rfl), h, .cons (rowA_ok hp) .nil, .inr ⟨_, _, rfl, .cons hp (.int 0) (mk_nt (.int 0)) .nil, .inr ⟨rfl, true, .inl ⟨_, rfl, rfl⟩, .inr ⟨rfl, .inl ⟨_, _, [(0, some 0, none, none, false)], rfl, h, .cons hp .nil, (Nat.le_of_ble_eq_true rfl), ?_⟩⟩⟩⟩⟩)
    decide +kernel
  | shB hm hp h =>
    refine .inr (.inr ⟨_, _, _, rfl, (Nat.le_of_ble_eq_true rfl), h, .cons (rowB_ok hm hp) .nil, .inr ⟨_, _, rfl, .cons hp (.tup hm) (mkP_ok hm) .nil, .inr ⟨rfl, true, .inl ⟨_, rfl, rfl⟩, .inr ⟨rfl, .inr ⟨_, _, _, [.inr "point", .inl 0], some 0, false, rfl, h, hp, hm, ?_, rfl⟩⟩⟩⟩⟩)
    decide +kernel
end

end My
namespace My
open PySem L2
section
variable {P : Program} {w : World} {K : PySem.W.Frag} {mg : Str → Option Value} {base : Heap}
def spDeep : Sp := fun vs H Q _ => ∃ (b L : Addr) (m : Int), vs = [.ref b] ∧ PotAt H b L m ∧ 0 ≤ m ∧ m < 2 ^ 40 ∧ ∀ (v : V) (H' : Hp), PotAt H' b L (m + 30) → But2 b L H H' → Dk H' v → Q v H'
theorem PotAt.le {H : Hp} {b L : Addr} {m m' : Int} (h : PotAt H b L m) (e : m ≤ m') : PotAt H b L m' := by
  obtain ⟨ns, tot, n, p, h0, h1⟩ := h
  exact ⟨ns, tot, n, p, h0, by omega⟩
theorem dict_new {H : Hp} {p : Addr} {x y : HO} (n : H p = none) : Same H (upd (upd H p x) p y) := fun a o e => by
  rw [upd_ne (ne_of_none e n), upd_ne (ne_of_none e n)]
  exact e
theorem PotAt.nl {H : Hp} {b L l : Addr} {m : Int} (h : PotAt H b L m) (n : H l = none) : l ≠ b ∧ l ≠ L := by
  obtain ⟨ns, tot, k, p, _⟩ := h
  exact ⟨fun z => (by rw [z, p.hb] at n; cases n), fun z => (by rw [z, p.hL] at n; cases n)⟩
theorem ok_deep (T : Top K mg) : FnOk P w K mg base CX0 3 T.a_Ldeep T.d_Ldeep ["_law_pot_here"] spDeep := by
  have G_Ltake : FnOk P w K mg base CX0 2 _ _ _ _ := ok_take T
  refine T.F_Ldeep.ok sc_Ldeep (fun vs H Q E h => ?_) (fun cdv A outer s H vs Q E hr h => ?_)
  · obtain ⟨b, L, m, rfl, _⟩ := h
    rfl
  · obtain ⟨b, L, m, rfl, P0, m0, m1, q⟩ := h
    refine ⟨_, (pss_cons (ps_set (i := 1) sc_Ldeep.nd rfl (.inl rfl) (pe_ix ix_list (pe_lst (pa_cons (pe_tup pa_nil) (pa_cons pe_int (pa_cons pe_str (pa_cons pe_non (pa_cons pe_bl (pa_cons (pe_tup (pa_cons pe_str (pa_cons pe_int pa_nil))) pa_nil))))))) (pe_call G_Ltake hr (by rfl) T.g_Ltake T.F_Ltake.kp T.b_Ltake .nil pass0 (pa_cons (pv 0) (pa_cons pe_int pa_nil))) (fun _ _ => rfl)))
      (pss_cons (ps_for PassesOwn.never rfl (pi_range1 (by rfl) T.m_range (pa_cons (pe_call G_Ltake hr (by rfl) T.g_Ltake T.F_Ltake.kp T.b_Ltake .nil pass0 (pa_cons (pv 0) (pa_cons pe_int pa_nil))) pa_nil)) (pg_name (i := 2) sc_Ldeep.nd rfl (.inl rfl)) (pss_cons (ps_set (i := 3) sc_Ldeep.nd rfl (.inl rfl) (pe_lst (pa_cons (pe_tup (pa_cons (pv 1) pa_nil)) (pa_cons (pe_lst (pa_cons (pv 1) pa_nil)) (pa_cons (pe_disp (pps_cons pe_str (pv 1) pps_nil) (by rfl) (by rfl) (fun z => by cases z) (by decide)) (pa_cons (pe_tup (pa_cons (pv 1) (pa_cons pe_int (pa_cons pe_non (pa_cons pe_non (pa_cons pe_bl pa_nil)))))) pa_nil))))))
      (pss_one (ps_set (i := 1) sc_Ldeep.nd rfl (.inl rfl) (pe_ix ix_list (pe_op op_cat (pv 3) (pe_lst (pa_cons (pe_tup (pa_cons pe_str (pa_cons (pv 1) (pa_cons pe_non (pa_cons pe_non (pa_cons pe_bl pa_nil)))))) pa_nil))) (pe_call G_Ltake hr (by rfl) T.g_Ltake T.F_Ltake.kp T.b_Ltake .nil pass0 (pa_cons (pv 0) (pa_cons pe_int pa_nil))) (fun _ _ => rfl))))))
      (pss_one (ps_ret (pv 1))))), ?_⟩
    refine ⟨Nat.zero_le _, fun p0 n0 => ?_⟩
    have s1 := same_new (o := .tup []) n0
    have h1 : upd H p0 (.tup []) p0 = some (.tup []) := upd_same
    generalize upd H p0 (.tup []) = H1 at s1 h1 ⊢
    refine ⟨(by show 2 ≤ sizeLine; decide), fun p1 n1 => ?_⟩
    have s2 := same_new (o := .tup [.str "point", .int 0]) n1
    have h2 : upd H1 p1 (.tup [.str "point", .int 0]) p1 = some (.tup mkP) := upd_same
    generalize upd H1 p1 (.tup [.str "point", .int 0]) = H2 at s2 h2 ⊢
    refine ⟨(by show 6 ≤ sizeLine; decide), fun l nl => ?_⟩
    have s3 := same_new (o := .lst [.ref p0, .int 0, .str "point", .non, .bl true, .ref p1]) nl
    have h3 : upd H2 l (.lst [.ref p0, .int 0, .str "point", .non, .bl true, .ref p1]) l = some (.lst [.ref p0, .int 0, .str "point", .non, .bl true, .ref p1]) := upd_same
    have nl' := (P0.same (s1.trans s2)).nl nl
    generalize upd H2 l (.lst [.ref p0, .int 0, .str "point", .non, .bl true, .ref p1]) = H3 at s3 h3 ⊢
    have P3 := P0.same (s1.trans (s2.trans s3))
    refine ⟨_, rfl, b, L, m, 6, rfl, P3, by omega, by decide, by decide, fun x H4 x0 x6 P4 k4 => ?_⟩
    have pick : ∃ v, atI [V.ref p0, .int 0, .str "point", .non, .bl true, .ref p1] x = some v ∧ Dk H3 v := by
      have hc : x = 0 ∨ x = 1 ∨ x = 2 ∨ x = 3 ∨ x = 4 ∨ x = 5 := by omega
      rcases hc with rfl | rfl | rfl | rfl | rfl | rfl
      · exact ⟨_, rfl, .z0 (s3 _ _ (s2 _ _ h1))⟩
      · exact ⟨_, rfl, .i0⟩
      · exact ⟨_, rfl, .nt (.str _) rfl (fun z e => by cases e; decide +kernel)⟩
      · exact ⟨_, rfl, .nt .non rfl (fun z e => by cases e)⟩
      · exact ⟨_, rfl, .nt (.bl true) rfl (fun z e => by cases e)⟩
      · exact ⟨_, rfl, .mk (s3 _ _ h2)⟩
    obtain ⟨v0, hv0, D3⟩ := pick
    refine ⟨l, _, _, _, rfl, rfl, SqL.of (k4 _ _ h3 nl'.1 nl'.2), hv0, ?_⟩
    have D4 := D3.kpl (.of_pot P3 P4 k4)
    have b4 : But2 b L H H4 := (But2.refl.same (s1.trans (s2.trans s3))).trans k4
    refine ⟨_, rfl, b, L, m + 1, 27, rfl, P4, by omega, by decide, by decide, fun y H5 y0 y1 P5 k5 => ?_⟩
    refine ⟨y, rfl, (by omega), (by omega), for_range (lo := 0) (n := y.toNat) (fun i σ H6 => ∃ (v : V) (z2 z3 : Option V), σ = [some (.ref b), some v, z2, z3] ∧ PotAt H6 b L (m + 2 + (i : Int)) ∧ But2 b L H H6 ∧ Dk H6 v) ⟨v0, none, none, rfl, P5.le (by omega), b4.trans k5, D4.kpl (.of_pot P4 P5 k5)⟩ ?_ ?_⟩
    · rintro i σ H6 hi ⟨v, z2, z3, rfl, P6, b6, D6⟩
      refine ⟨_, rfl, (by show 1 ≤ sizeLine; decide), fun q1 w1 => ?_⟩
      have t1 := same_new (o := .tup [v]) w1
      have g1 : upd H6 q1 (.tup [v]) q1 = some (.tup [v]) := upd_same
      generalize upd H6 q1 (.tup [v]) = G1 at t1 g1 ⊢
      refine ⟨_, rfl, (by show 1 ≤ sizeLine; decide), fun q2 w2 => ?_⟩
      have t2 := same_new (o := .lst [v]) w2
      have g2 : upd G1 q2 (.lst [v]) q2 = some (.lst [v]) := upd_same
      generalize upd G1 q2 (.lst [v]) = G2 at t2 g2 ⊢
      refine fun q3 w3 => ⟨_, rfl, upd_same, [(.inr "point", v)], rfl, (Nat.le_of_ble_eq_true rfl), ?_⟩
      have t3 := dict_new (x := .dK []) (y := .dK (mergeK [] [(.inr "point", v)])) w3
      have g3 : upd (upd G2 q3 (.dK [])) q3 (.dK (mergeK [] [(.inr "point", v)])) q3 = some (.dK (mergeK [] [(.inr "point", v)])) := upd_same
      generalize upd (upd G2 q3 (.dK [])) q3 (.dK (mergeK [] [(.inr "point", v)])) = G3 at t3 g3 ⊢
      refine ⟨_, rfl, (by show 5 ≤ sizeLine; decide), fun q4 w4 => ?_⟩
      have t4 := same_new (o := .tup [v, .int 0, .non, .non, .bl false]) w4
      have g4 : upd G3 q4 (.tup [v, .int 0, .non, .non, .bl false]) q4 = some (.tup [v, .int 0, .non, .non, .bl false]) := upd_same
      generalize upd G3 q4 (.tup [v, .int 0, .non, .non, .bl false]) = G4 at t4 g4 ⊢
      refine ⟨(by show 4 ≤ sizeLine; decide), fun q5 w5 => ?_⟩
      have t5 := same_new (o := .lst [.ref q1, .ref q2, .ref q3, .ref q4]) w5
      have g5 : upd G4 q5 (.lst [.ref q1, .ref q2, .ref q3, .ref q4]) q5 = some (.lst [.ref q1, .ref q2, .ref q3, .ref q4]) := upd_same
      generalize upd G4 q5 (.lst [.ref q1, .ref q2, .ref q3, .ref q4]) = G5 at t5 g5 ⊢
      refine ⟨_, rfl, _, rfl, (by show 5 ≤ sizeLine; decide), fun q6 w6 => ?_⟩
      have t6 := same_new (o := .tup [.str "0", v, .non, .non, .bl false]) w6
      have g6 : upd G5 q6 (.tup [.str "0", v, .non, .non, .bl false]) q6 = some (.tup [.str "0", v, .non, .non, .bl false]) := upd_same
      generalize upd G5 q6 (.tup [.str "0", v, .non, .non, .bl false]) = G6 at t6 g6 ⊢
      refine ⟨(by show 1 ≤ sizeLine; decide), fun q7 w7 => ?_⟩
      have t7 := same_new (o := .lst [.ref q6]) w7
      have g7 : upd G6 q7 (.lst [.ref q6]) q7 = some (.lst [.ref q6]) := upd_same
      generalize upd G6 q7 (.lst [.ref q6]) = G7 at t7 g7 ⊢
      refine ⟨q5, q7, _, _, rfl, rfl, t7 _ _ (t6 _ _ g5), g7, (by show 5 ≤ sizeLine; decide), fun q8 w8 => ?_⟩
      have t8 := same_new (o := .lst ([.ref q1, .ref q2, .ref q3, .ref q4] ++ [.ref q6])) w8
      have g8 : upd G7 q8 (.lst ([.ref q1, .ref q2, .ref q3, .ref q4] ++ [.ref q6])) q8 = some (.lst [.ref q1, .ref q2, .ref q3, .ref q4, .ref q6]) := upd_same
      have t17 : Same H6 G7 := t1.trans (t2.trans (t3.trans (t4.trans (t5.trans (t6.trans t7)))))
      have n8 := (P6.same t17).nl w8
      generalize upd G7 q8 (.lst ([.ref q1, .ref q2, .ref q3, .ref q4] ++ [.ref q6])) = G8 at t8 g8 ⊢
      have t18 : Same H6 G8 := t17.trans t8
      have P8 := P6.same t18
      refine ⟨_, rfl, b, L, m + 2 + (i : Int), 5, rfl, P8, by omega, by decide, by decide, fun x H9 x0 x5 P9 k9 => ?_⟩
      have D8 := D6.kpl (.of_kp (Kp.of_same t18))
      have t28 : Same G1 G8 := t2.trans (t3.trans (t4.trans (t5.trans (t6.trans (t7.trans t8)))))
      have t38 : Same G2 G8 := t3.trans (t4.trans (t5.trans (t6.trans (t7.trans t8))))
      have t48 : Same G3 G8 := t4.trans (t5.trans (t6.trans (t7.trans t8)))
      have t58 : Same G4 G8 := t5.trans (t6.trans (t7.trans t8))
      have pick : ∃ v, atI [V.ref q1, .ref q2, .ref q3, .ref q4, .ref q6] x = some v ∧ Dk G8 v := by
        have hc : x = 0 ∨ x = 1 ∨ x = 2 ∨ x = 3 ∨ x = 4 := by omega
        rcases hc with rfl | rfl | rfl | rfl | rfl
        · exact ⟨_, rfl, D8.tup1 (t28 _ _ g1)⟩
        · exact ⟨_, rfl, .nt (.lst (t38 _ _ g2)) rfl (fun z e => by cases e)⟩
        · exact ⟨_, rfl, .nt (.dK (t48 _ _ g3)) rfl (fun z e => by cases e)⟩
        · exact ⟨_, rfl, D8.row5 (t58 _ _ g4)⟩
        · exact ⟨_, rfl, D8.zrow (t8 _ _ (t7 _ _ g6))⟩
      obtain ⟨v1, hv1, D9⟩ := pick
      refine ⟨q8, _, _, _, rfl, rfl, SqL.of (k9 _ _ g8 n8.1 n8.2), hv1, ?_⟩
      exact ⟨v1, _, _, rfl, P9.le (by omega), (b6.same t18).trans k9, D9.kpl (.of_pot P8 P9 k9)⟩
    · rintro σ H6 ⟨v, z2, z3, rfl, P6, b6, D6⟩
      exact ⟨_, rfl, q v H6 (P6.le (by omega)) b6 D6⟩
end

end My
namespace My
open PySem L2
/-! ### things that are no shapes -/
def rowN : List V := [.int 0, .non, .non, .non, .bl false]
/-- a row that makes no shape by itself -/
def RowNo (H : Hp) (x : V) : Prop := ∀ (a : Addr) (H' : Hp), Kp H H' → H' a = some (.tup [x]) → SpV H' (.ref a) false
theorem RowNo.kp {H H' : Hp} (k : Kp H H') {x : V} (h : RowNo H x) : RowNo H' x := fun a G g e => h a G (k.trans g) e
section
variable {H : Hp}
theorem one_bad {x : V} {a : Addr} (h : ShV H x false) (ha : H a = some (.tup [x])) : SpV H (.ref a) false := .inr ⟨a, [x], [false], rfl, (Nat.le_of_ble_eq_true rfl), ha, .cons h .nil, .inl ⟨rfl, rfl⟩⟩
theorem rowNo_sh {x : V} (h : ShV H x false) : RowNo H x := fun a H' k e => one_bad (h.kp k) e
theorem oV_nt (l : Option Int) : NoTup H (oV l) := by
  cases l with
  | none => exact .non
  | some i => exact .int i
theorem oV_any (l : Option Int) : AnyV H (oV l) := by
  cases l with
  | none => exact .non
  | some i => exact .int i
theorem rowVI_sh {p : Addr} {r : RowI} (h : H p = some (.tup (rowVI r))) : ShV H (.ref p) true := by
  obtain ⟨n, l, rr, o, t⟩ := r
  refine .inl ⟨p, _, [false, false, false, false, false], rfl, (Nat.le_of_ble_eq_true rfl), h, .cons (.int n) (mk_nt (.int n)) (.cons (oV_any l) (mk_nt (oV_nt l)) (.cons (oV_any rr) (mk_nt (oV_nt rr)) (.cons (oV_any o) (mk_nt (oV_nt o)) (.cons (.bl t) (mk_nt (.bl t)) .nil)))), ?_⟩
  cases l <;> cases rr <;> cases o <;> rfl
theorem rowNo_int {p : Addr} {r : RowI} (h : H p = some (.tup (rowVI r))) (e : linkR [r] = some false) : RowNo H (.ref p) := fun a H' k ha =>
  .inr ⟨a, _, _, rfl, (Nat.le_of_ble_eq_true rfl), ha, .cons (rowVI_sh (k.tup h)) .nil, .inr ⟨[.int r.1], [false], rfl, .cons (k.tup h) (.int _) (mk_nt (.int _)) .nil, .inr ⟨rfl, true, .inl ⟨_, rfl, rfl⟩, .inr ⟨rfl, .inl ⟨a, _, [r], rfl, ha, .cons (k.tup h) .nil, (Nat.le_of_ble_eq_true rfl), e⟩⟩⟩⟩⟩
theorem two_int {p1 p2 a : Addr} {r1 r2 : RowI} (h1 : H p1 = some (.tup (rowVI r1))) (h2 : H p2 = some (.tup (rowVI r2))) (ha : H a = some (.tup [.ref p1, .ref p2])) (e : r1.1 < r2.1 → linkR [r1, r2] = some false) : SpV H (.ref a) false := by
  refine .inr ⟨a, _, _, rfl, (Nat.le_of_ble_eq_true rfl), ha, .cons (rowVI_sh h1) (.cons (rowVI_sh h2) .nil), .inr ⟨[.int r1.1, .int r2.1], [false, false], rfl, .cons h1 (.int _) (mk_nt (.int _)) (.cons h2 (.int _) (mk_nt (.int _)) .nil), .inr ⟨rfl, decide (r1.1 < r2.1), .inr (.inr ⟨_, _, rfl, rfl⟩), ?_⟩⟩⟩
  by_cases z : r1.1 < r2.1
  · exact .inr ⟨decide_eq_true z, .inl ⟨a, _, [r1, r2], rfl, ha, .cons h1 (.cons h2 .nil), (Nat.le_of_ble_eq_true rfl), e z⟩⟩
  · exact .inl ⟨decide_eq_false z, rfl⟩
theorem two_bad {x y : V} {a : Addr} {c d : Bool} (h1 : ShV H x c) (h2 : ShV H y d) (e : (c && d) = false) (ha : H a = some (.tup [x, y])) : SpV H (.ref a) false :=
  .inr ⟨a, [x, y], [c, d], rfl, (Nat.le_of_ble_eq_true rfl), ha, .cons h1 (.cons h2 .nil), .inl ⟨by show (c && (d && true)) = false; rw [Bool.and_true]; exact e, rfl⟩⟩
theorem two_mix {p1 p2 m a : Addr} {r : RowI} {ys : List V} (h1 : H p1 = some (.tup (rowVI r))) (hm : H m = some (.tup mkP)) (h2 : H p2 = some (.tup (.ref m :: ys))) (s2 : ShV H (.ref p2) true) (ha : H a = some (.tup [.ref p1, .ref p2]) ∨ H a = some (.tup [.ref p2, .ref p1])) : SpV H (.ref a) false := by
  rcases ha with ha | ha
  · exact .inr ⟨a, _, _, rfl, (Nat.le_of_ble_eq_true rfl), ha, .cons (rowVI_sh h1) (.cons s2 .nil), .inr ⟨_, _, rfl, .cons h1 (.int _) (mk_nt (.int _)) (.cons h2 (.tup hm) (mkP_ok hm) .nil), .inl ⟨rfl, rfl, rfl⟩⟩⟩
  · exact .inr ⟨a, _, _, rfl, (Nat.le_of_ble_eq_true rfl), ha, .cons s2 (.cons (rowVI_sh h1) .nil), .inr ⟨_, _, rfl, .cons h2 (.tup hm) (mkP_ok hm) (.cons h1 (.int _) (mk_nt (.int _)) .nil), .inl ⟨rfl, rfl, rfl⟩⟩⟩
theorem markN_ok {m a : Addr} {t : Bool} (hm : H m = some (.tup mkP)) (h : H a = some (.tup [.ref m, .non, .non, .non, .bl t])) : ShV H (.ref a) true := .inl ⟨a, _, _, rfl, (Nat.le_of_ble_eq_true rfl), h, .cons (.tup hm) (mkP_ok hm) (.cons .non (mk_nt .non) (.cons .non (mk_nt .non) (.cons .non (mk_nt .non) (.cons (.bl t) (mk_nt (.bl t)) .nil)))), rfl⟩
theorem two_deep {v : V} {r a : Addr} (d : Dk H v) (hr : H r = some (.tup rowN)) (ha : H a = some (.tup [v, .ref r]) ∨ H a = some (.tup [.ref r, v])) : SpV H (.ref a) false := by
  have h0 : H r = some (.tup (rowVI (0, none, none, none, false))) := hr
  rcases d.row with ⟨p, rfl, hp⟩ | ⟨p, m, rfl, hm, hp⟩ | sh
  · have h1 : H p = some (.tup (rowVI (0, some 0, none, none, false))) := hp
    rcases ha with ha | ha
    · exact two_int h1 h0 ha (fun z => absurd z (by decide))
    · exact two_int h0 h1 ha (fun z => absurd z (by decide))
  · exact two_mix h0 hm hp (rowB_ok hm hp) ha.symm
  · rcases ha with ha | ha
    · exact two_bad sh (rowVI_sh h0) rfl ha
    · exact two_bad (rowVI_sh h0) sh rfl ha
theorem rest4_mks (x : V) (t : V) (hx : NoTup H x) (ax : AnyV H x) (ht : NoTup H t) (at_ : AnyV H t) : Mks H [x, .non, .non, t] [false, false, false, false] := .cons ax (mk_nt hx) (.cons .non (mk_nt .non) (.cons .non (mk_nt .non) (.cons at_ (mk_nt ht) .nil)))
/-- a row (n, .., t) that is none, its name no tuple -/
theorem row_bad {p : Addr} {n l r o t : V} (hn : AnyV H n ∧ NoTup H n) (hl : AnyV H l ∧ NoTup H l) (hr : AnyV H r ∧ NoTup H r) (ho : AnyV H o ∧ NoTup H o) (ht : AnyV H t ∧ NoTup H t) (h : H p = some (.tup [n, l, r, o, t])) (e : shB [n, l, r, o, t] [false, false, false, false, false] = false) : ShV H (.ref p) false :=
  .inl ⟨p, _, _, rfl, (Nat.le_of_ble_eq_true rfl), h, .cons hn.1 (mk_nt hn.2) (.cons hl.1 (mk_nt hl.2) (.cons hr.1 (mk_nt hr.2) (.cons ho.1 (mk_nt ho.2) (.cons ht.1 (mk_nt ht.2) .nil)))), e.symm⟩
/-- its name a tuple that is no mark -/
theorem row_badT {p m : Addr} {xs : List V} (hm : H m = some (.tup xs)) (mm : MkV H (.ref m) false) (h : H p = some (.tup [.ref m, .non, .non, .non, .bl false])) : ShV H (.ref p) false :=
  .inl ⟨p, _, _, rfl, (Nat.le_of_ble_eq_true rfl), h, .cons (.tup hm) mm (.cons .non (mk_nt .non) (.cons .non (mk_nt .non) (.cons .non (mk_nt .non) (.cons (.bl false) (mk_nt (.bl false)) .nil)))), rfl⟩
theorem anN : AnyV H .non ∧ NoTup H .non := ⟨.non, .non⟩
theorem anB (b : Bool) : AnyV H (.bl b) ∧ NoTup H (.bl b) := ⟨.bl b, .bl b⟩
theorem anI (i : Int) : AnyV H (.int i) ∧ NoTup H (.int i) := ⟨.int i, .int i⟩
theorem anS (x : Str) : AnyV H (.str x) ∧ NoTup H (.str x) := ⟨.str x, .str x⟩
theorem row_thing {p : Addr} {n : V} {l r o t : V} {c : Bool} (hn : ShV H n c) (hl : NoTup H l) (hr : NoTup H r) (ho : NoTup H o) (ht : NoTup H t) (h : H p = some (.tup [n, l, r, o, t])) : SpV H (.ref p) false :=
  .inr ⟨p, _, _, rfl, (Nat.le_of_ble_eq_true rfl), h, .cons hn (.cons (sh_nt hl) (.cons (sh_nt hr) (.cons (sh_nt ho) (.cons (sh_nt ht) .nil)))), .inl ⟨by cases c <;> rfl, rfl⟩⟩
theorem mark_no {m : Addr} {z : Str} {xs : List Int} (h : H m = some (.tup (.str z :: xs.map V.int))) (hl : (V.str z :: xs.map V.int).length ≤ 1000) (sh : SeqAt.shaped (.str z) = true) (e : markB (.str z :: xs.map V.int) = false) : MkV H (.ref m) false := by
  have := mk_tup h hl (fun x mx => ?_) (fun y r e2 => ?_)
  · rw [e] at this
    exact this
  · rcases List.mem_cons.mp mx with rfl | mx
    · exact .str _
    · obtain ⟨i, _, rfl⟩ := List.mem_map.mp mx
      exact .int i
  · injection e2 with e3 _
    cases e3
    exact sh
end
/-- a stage of the making: new from H0 on -/
structure Od (H0 H : Hp) (r m p : Addr) (t : V) (vs rs : List V) : Prop where
  s : Same H0 H
  hr : H r = some (.tup rowN)
  hp : H p = some (.tup mkP)
  hm : H m = some (.tup [.ref p, .non, .non, .non, .bl false])
  d : Dk H t
  v : ∀ x ∈ vs, SpV H x false
  w : ∀ x ∈ rs, RowNo H x
section
variable {H0 H : Hp} {r m p q : Addr} {t : V} {vs rs : List V}
theorem Od.skipS (S : Od H0 H r m p t vs rs) {H' : Hp} (s1 : Same H H') : Od H0 H' r m p t vs rs := by
  have k1 := Kp.of_same s1
  exact ⟨S.s.trans s1, s1 _ _ S.hr, s1 _ _ S.hp, s1 _ _ S.hm, S.d.kpl (.of_kp k1), fun x h => (S.v x h).kp k1, fun x h => (S.w x h).kp k1⟩
theorem Od.skip (S : Od H0 H r m p t vs rs) {o : HO} (n : H q = none) : Od H0 (upd H q o) r m p t vs rs := S.skipS (same_new n)
theorem Od.thing (S : Od H0 H r m p t vs rs) {x : V} (h : SpV H x false) : Od H0 H r m p t (x :: vs) rs := ⟨S.s, S.hr, S.hp, S.hm, S.d, fun y hy => by
  rcases List.mem_cons.mp hy with rfl | hy
  · exact h
  · exact S.v y hy, S.w⟩
theorem Od.rown (S : Od H0 H r m p t vs rs) {x : V} (h : RowNo H x) : Od H0 H r m p t vs (x :: rs) := ⟨S.s, S.hr, S.hp, S.hm, S.d, S.v, fun y hy => by
  rcases List.mem_cons.mp hy with rfl | hy
  · exact h
  · exact S.w y hy⟩
theorem Od.fresh (S : Od H0 H r m p t vs rs) : Od H H r m p t [] [] := ⟨fun _ _ e => e, S.hr, S.hp, S.hm, S.d, (fun x h => nomatch h), (fun x h => nomatch h)⟩
end

end My
namespace My
open PySem L2
section
variable {P : Program} {w : World} {K : PySem.W.Frag} {mg : Str → Option Value} {base : Heap}
def spOdd : Sp := fun vs H Q _ => ∃ v : V, vs = [v] ∧ Dk H v ∧ ∀ (l : Addr) (xs : List V) (H' : Hp), Same H H' → H' l = some (.lst xs) → xs.length ≤ 100 → (∀ x ∈ xs, SpV H' x false) → Q (.ref l) H'
theorem ok_odd (T : Top K mg) : FnOk P w K mg base CX0 1 T.a_Lodd T.d_Lodd ["_law_thing"] spOdd := by
  refine T.F_Lodd.ok sc_Lodd (fun vs H Q E h => ?_) (fun cdv A outer s H vs Q E hr h => ?_)
  · obtain ⟨v, rfl, _⟩ := h
    rfl
  · obtain ⟨v, rfl, dk, q⟩ := h
    refine ⟨_, (pss_cons (ps_asg (pe_tup (pa_cons (pe_tup (pa_cons pe_int (pa_cons pe_non (pa_cons pe_non (pa_cons pe_non (pa_cons pe_bl pa_nil)))))) (pa_cons (pe_tup (pa_cons (pe_tup (pa_cons pe_str (pa_cons pe_int pa_nil))) (pa_cons pe_non (pa_cons pe_non (pa_cons pe_non (pa_cons pe_bl pa_nil)))))) pa_nil))) (pg_tup rfl (pgs_cons (pg_name (i := 1) sc_Lodd.nd rfl (.inl rfl)) (pgs_cons (pg_name (i := 2) sc_Lodd.nd rfl (.inl rfl)) pgs_nil))))
      (pss_cons (ps_set (i := 3) sc_Lodd.nd rfl (.inl rfl) (pe_lst (pa_cons pe_non (pa_cons pe_bl (pa_cons pe_bl (pa_cons pe_int (pa_cons pe_int (pa_cons pe_str (pa_cons pe_str (pa_cons (pe_lst pa_nil) (pa_cons pe_dnewK (pa_cons (pe_tup (pa_cons pe_non pa_nil)) (pa_cons (pe_tup (pa_cons pe_int pa_nil)) (pa_cons (pe_tup (pa_cons pe_str pa_nil)) (pa_cons (pe_tup (pa_cons (pe_tup pa_nil) pa_nil)) (pa_cons (pe_lst (pa_cons (pv 1) pa_nil)) (pa_cons (pe_disp (pps_cons pe_str (pv 1) pps_nil) (by rfl) (by rfl) (fun z => by cases z) (by decide)) pa_nil)))))))))))))))))
      (pss_cons (ps_set (i := 3) sc_Lodd.nd rfl (.inl rfl) (pe_op op_cat (pv 3) (pe_lst (pa_cons (pe_tup (pa_cons (pv 1) (pa_cons (pv 2) pa_nil))) (pa_cons (pe_tup (pa_cons (pv 2) (pa_cons (pv 1) pa_nil))) (pa_cons (pv 1) (pa_cons (pv 2) (pa_cons (pe_tup (pa_cons (pv 1) (pa_cons (pv 1) pa_nil))) (pa_cons (pe_tup (pa_cons (pv 0) (pa_cons (pv 1) pa_nil))) (pa_cons (pe_tup (pa_cons (pv 1) (pa_cons (pv 0) pa_nil))) pa_nil))))))))))
      (pss_cons (ps_set (i := 4) sc_Lodd.nd rfl (.inl rfl) (pe_lst (pa_cons (pe_tup (pa_cons pe_int (pa_cons pe_int (pa_cons pe_non (pa_cons pe_non (pa_cons pe_bl pa_nil)))))) (pa_cons (pe_tup (pa_cons pe_int (pa_cons pe_non (pa_cons pe_non (pa_cons pe_int (pa_cons pe_bl pa_nil)))))) (pa_cons (pe_tup (pa_cons pe_int (pa_cons pe_non (pa_cons pe_non (pa_cons pe_non (pa_cons pe_int pa_nil)))))) pa_nil)))))
      (pss_cons (ps_set (i := 4) sc_Lodd.nd rfl (.inl rfl) (pe_op op_cat (pv 4) (pe_lst (pa_cons (pe_tup (pa_cons pe_int (pa_cons pe_non (pa_cons pe_non (pa_cons pe_non (pa_cons pe_non pa_nil)))))) (pa_cons (pe_tup (pa_cons pe_bl (pa_cons pe_non (pa_cons pe_non (pa_cons pe_non (pa_cons pe_bl pa_nil)))))) (pa_cons (pe_tup (pa_cons pe_str (pa_cons pe_non (pa_cons pe_non (pa_cons pe_non (pa_cons pe_bl pa_nil)))))) pa_nil))))))
      (pss_cons (ps_set (i := 4) sc_Lodd.nd rfl (.inl rfl) (pe_op op_cat (pv 4) (pe_lst (pa_cons (pe_tup (pa_cons pe_non (pa_cons pe_non (pa_cons pe_non (pa_cons pe_non (pa_cons pe_bl pa_nil)))))) (pa_cons (pe_tup (pa_cons pe_int (pa_cons pe_int (pa_cons pe_non (pa_cons pe_non (pa_cons pe_bl pa_nil)))))) (pa_cons (pe_tup (pa_cons pe_int (pa_cons pe_bl (pa_cons pe_non (pa_cons pe_non (pa_cons pe_bl pa_nil)))))) pa_nil))))))
      (pss_cons (ps_set (i := 4) sc_Lodd.nd rfl (.inl rfl) (pe_op op_cat (pv 4) (pe_lst (pa_cons (pe_tup (pa_cons (pe_tup (pa_cons pe_str (pa_cons pe_int (pa_cons pe_int pa_nil)))) (pa_cons pe_non (pa_cons pe_non (pa_cons pe_non (pa_cons pe_bl pa_nil)))))) (pa_cons (pe_tup (pa_cons (pe_tup (pa_cons pe_str (pa_cons pe_int pa_nil))) (pa_cons pe_non (pa_cons pe_non (pa_cons pe_non (pa_cons pe_bl pa_nil)))))) pa_nil)))))
      (pss_cons (ps_set (i := 4) sc_Lodd.nd rfl (.inl rfl) (pe_op op_cat (pv 4) (pe_lst (pa_cons (pe_tup (pa_cons (pe_tup (pa_cons pe_str (pa_cons pe_int pa_nil))) (pa_cons pe_non (pa_cons pe_non (pa_cons pe_non (pa_cons pe_bl pa_nil)))))) (pa_cons (pe_tup (pa_cons (pe_lst (pa_cons pe_int pa_nil)) (pa_cons pe_non (pa_cons pe_non (pa_cons pe_non (pa_cons pe_bl pa_nil)))))) pa_nil)))))
      (pss_cons (ps_set (i := 3) sc_Lodd.nd rfl (.inl rfl) (pe_op op_cat (pv 3) (pe_lc (own := [("_law_one", 5)]) (g := gName 5) (tt := tYes) (by rfl) sc_Lodd.nd (pi_list (pv 4)) (blkOk_by (own := [("_law_one", 5)]) (N := ["_law_thing", "_law_row", "_law_mark", "_law_some", "_law_rows", "_law_one", "_law_below"]) (sc := defScope s_Lodd) (by decide +kernel)) (fun _ _ _ _ _ => (pg_name (i := 5) sc_Lodd.nd rfl (.inl rfl))) (fun _ _ _ _ _ => pts_nil) (fun _ _ _ _ _ => (pe_tup (pa_cons (pv 5) pa_nil))))))
      (pss_cons (ps_set (i := 6) sc_Lodd.nd rfl (.inl rfl) (pe_tup (pa_cons pe_int (pa_cons pe_non (pa_cons pe_non (pa_cons pe_int (pa_cons pe_bl pa_nil)))))))
      (pss_cons (ps_set (i := 3) sc_Lodd.nd rfl (.inl rfl) (pe_op op_cat (pv 3) (pe_lst (pa_cons (pe_tup (pa_cons (pe_tup (pa_cons pe_int (pa_cons pe_int (pa_cons pe_int (pa_cons pe_non (pa_cons pe_bl pa_nil)))))) (pa_cons (pv 6) pa_nil))) (pa_cons (pe_tup (pa_cons (pe_tup (pa_cons pe_int (pa_cons pe_non (pa_cons pe_non (pa_cons pe_int (pa_cons pe_bl pa_nil)))))) (pa_cons (pv 6) pa_nil))) pa_nil)))))
      (pss_one (ps_ret (pe_op op_cat (pv 3) (pe_lst (pa_cons (pe_tup (pa_cons (pe_tup (pa_cons pe_int (pa_cons pe_int (pa_cons pe_non (pa_cons pe_non (pa_cons pe_bl pa_nil)))))) (pa_cons (pe_tup (pa_cons pe_int (pa_cons pe_non (pa_cons pe_non (pa_cons pe_non (pa_cons pe_bl pa_nil)))))) pa_nil))) pa_nil)))))))))))))))), ?_⟩
    have s0 : Same H H := fun _ _ e => e
    refine ⟨(by show 5 ≤ sizeLine; decide), fun q1 w1 => ?_⟩
    have sn := same_new (o := .tup [.int 0, .non, .non, .non, .bl false]) w1
    have hrow : upd H q1 (.tup [.int 0, .non, .non, .non, .bl false]) q1 = some (.tup [.int 0, .non, .non, .non, .bl false]) := upd_same
    replace s0 := s0.trans sn
    clear sn
    generalize upd H q1 (.tup [.int 0, .non, .non, .non, .bl false]) = G1 at s0 hrow ⊢
    refine ⟨(by show 2 ≤ sizeLine; decide), fun q2 w2 => ?_⟩
    have sn := same_new (o := .tup [.str "point", .int 0]) w2
    have hpt : upd G1 q2 (.tup [.str "point", .int 0]) q2 = some (.tup [.str "point", .int 0]) := upd_same
    replace hrow := sn _ _ hrow
    replace s0 := s0.trans sn
    clear sn
    generalize upd G1 q2 (.tup [.str "point", .int 0]) = G2 at s0 hpt hrow ⊢
    refine ⟨(by show 5 ≤ sizeLine; decide), fun q3 w3 => ?_⟩
    have sn := same_new (o := .tup [.ref q2, .non, .non, .non, .bl false]) w3
    have hmk : upd G2 q3 (.tup [.ref q2, .non, .non, .non, .bl false]) q3 = some (.tup [.ref q2, .non, .non, .non, .bl false]) := upd_same
    replace hrow := sn _ _ hrow
    replace hpt := sn _ _ hpt
    replace s0 := s0.trans sn
    clear sn
    generalize upd G2 q3 (.tup [.ref q2, .non, .non, .non, .bl false]) = G3 at s0 hmk hrow hpt ⊢
    have S : Od G3 G3 q1 q3 q2 v [] [] := ⟨fun _ _ e => e, hrow, hpt, hmk, dk.kpl (.of_kp (Kp.of_same s0)), (fun x h => nomatch h), (fun x h => nomatch h)⟩
    clear hrow hpt hmk
    refine ⟨(by show 2 ≤ sizeLine; decide), fun q4 w4 => ?_⟩
    have sn := same_new (o := .tup [.ref q1, .ref q3]) w4
    have hout : upd G3 q4 (.tup [.ref q1, .ref q3]) q4 = some (.tup [.ref q1, .ref q3]) := upd_same
    replace s0 := s0.trans sn
    replace S := S.skipS sn
    clear sn
    generalize upd G3 q4 (.tup [.ref q1, .ref q3]) = G4 at S s0 hout ⊢
    refine ⟨q4, _, rfl, SqT.of hout, rfl, _, _, rfl, _, _, rfl, rfl, ?_⟩
    clear hout
    refine ⟨(by show 0 ≤ sizeLine; decide), fun q5 w5 => ?_⟩
    have sn := same_new (o := .lst []) w5
    have h5 : upd G4 q5 (.lst []) q5 = some (.lst []) := upd_same
    replace s0 := s0.trans sn
    replace S := S.skipS sn
    clear sn
    generalize upd G4 q5 (.lst []) = G5 at S s0 h5 ⊢
    replace S := S.thing (.inl ⟨.lst h5, rfl⟩)
    refine fun q6 w6 => ?_
    have sn := same_new (o := .dK []) w6
    have h6 : upd G5 q6 (.dK []) q6 = some (.dK []) := upd_same
    replace s0 := s0.trans sn
    replace S := S.skipS sn
    clear sn
    generalize upd G5 q6 (.dK []) = G6 at S s0 h6 ⊢
    replace S := S.thing (.inl ⟨.dK h6, rfl⟩)
    refine ⟨(by show 1 ≤ sizeLine; decide), fun q7 w7 => ?_⟩
    have sn := same_new (o := .tup [.non]) w7
    have h7 : upd G6 q7 (.tup [.non]) q7 = some (.tup [.non]) := upd_same
    replace s0 := s0.trans sn
    replace S := S.skipS sn
    clear sn
    generalize upd G6 q7 (.tup [.non]) = G7 at S s0 h7 ⊢
    replace S := S.thing (one_bad (sh_nt .non) h7)
    refine ⟨(by show 1 ≤ sizeLine; decide), fun q8 w8 => ?_⟩
    have sn := same_new (o := .tup [.int 0]) w8
    have h8 : upd G7 q8 (.tup [.int 0]) q8 = some (.tup [.int 0]) := upd_same
    replace s0 := s0.trans sn
    replace S := S.skipS sn
    clear sn
    generalize upd G7 q8 (.tup [.int 0]) = G8 at S s0 h8 ⊢
    replace S := S.thing (one_bad (sh_nt (.int 0)) h8)
    refine ⟨(by show 1 ≤ sizeLine; decide), fun q9 w9 => ?_⟩
    have sn := same_new (o := .tup [.str ""]) w9
    have h9 : upd G8 q9 (.tup [.str ""]) q9 = some (.tup [.str ""]) := upd_same
    replace s0 := s0.trans sn
    replace S := S.skipS sn
    clear sn
    generalize upd G8 q9 (.tup [.str ""]) = G9 at S s0 h9 ⊢
    replace S := S.thing (one_bad (sh_nt (.str _)) h9)
    refine ⟨(by show 0 ≤ sizeLine; decide), fun q10 w10 => ?_⟩
    have sn := same_new (o := .tup []) w10
    have hun : upd G9 q10 (.tup []) q10 = some (.tup []) := upd_same
    replace s0 := s0.trans sn
    replace S := S.skipS sn
    clear sn
    generalize upd G9 q10 (.tup []) = G10 at S s0 hun ⊢
    refine ⟨(by show 1 ≤ sizeLine; decide), fun q11 w11 => ?_⟩
    have sn := same_new (o := .tup [.ref q10]) w11
    have h11 : upd G10 q11 (.tup [.ref q10]) q11 = some (.tup [.ref q10]) := upd_same
    replace hun := sn _ _ hun
    replace s0 := s0.trans sn
    replace S := S.skipS sn
    clear sn
    generalize upd G10 q11 (.tup [.ref q10]) = G11 at S s0 h11 hun ⊢
    replace S := S.thing (one_bad (.inl ⟨_, _, [], rfl, Nat.zero_le _, hun, .nil, rfl⟩) h11)
    clear hun
    refine ⟨_, rfl, (by show 1 ≤ sizeLine; decide), fun q12 w12 => ?_⟩
    have sn := same_new (o := .lst [.ref q1]) w12
    have h12 : upd G11 q12 (.lst [.ref q1]) q12 = some (.lst [.ref q1]) := upd_same
    replace s0 := s0.trans sn
    replace S := S.skipS sn
    clear sn
    generalize upd G11 q12 (.lst [.ref q1]) = G12 at S s0 h12 ⊢
    replace S := S.thing (.inl ⟨.lst h12, rfl⟩)
    refine fun q13 w13 => ⟨_, rfl, upd_same, [(.inr "row", .ref q1)], rfl, (Nat.le_of_ble_eq_true rfl), ?_⟩
    have sn := dict_new (x := .dK []) (y := .dK (mergeK [] [(.inr "row", .ref q1)])) w13
    have h13 : (upd (upd G12 q13 (.dK [])) q13 (.dK (mergeK [] [(.inr "row", .ref q1)]))) q13 = some (.dK (mergeK [] [(.inr "row", .ref q1)])) := upd_same
    replace s0 := s0.trans sn
    replace S := S.skipS sn
    clear sn
    generalize upd (upd G12 q13 (.dK [])) q13 (.dK (mergeK [] [(.inr "row", .ref q1)])) = G13 at S s0 h13 ⊢
    replace S := S.thing (.inl ⟨.dK h13, rfl⟩)
    refine ⟨(by show 15 ≤ sizeLine; decide), fun q14 w14 => ?_⟩
    have sn := same_new (o := .lst [.non, .bl true, .bl false, .int 0, .int 7, .str "", .str "shape", .ref q5, .ref q6, .ref q7, .ref q8, .ref q9, .ref q11, .ref q12, .ref q13]) w14
    have h14 : upd G13 q14 (.lst [.non, .bl true, .bl false, .int 0, .int 7, .str "", .str "shape", .ref q5, .ref q6, .ref q7, .ref q8, .ref q9, .ref q11, .ref q12, .ref q13]) q14 = some (.lst [.non, .bl true, .bl false, .int 0, .int 7, .str "", .str "shape", .ref q5, .ref q6, .ref q7, .ref q8, .ref q9, .ref q11, .ref q12, .ref q13]) := upd_same
    replace s0 := s0.trans sn
    replace S := S.skipS sn
    clear sn
    generalize upd G13 q14 (.lst [.non, .bl true, .bl false, .int 0, .int 7, .str "", .str "shape", .ref q5, .ref q6, .ref q7, .ref q8, .ref q9, .ref q11, .ref q12, .ref q13]) = G14 at S s0 h14 ⊢
    have pt : ∀ x ∈ ([.non, .bl true, .bl false, .int 0, .int 7, .str "", .str "shape", .ref q5, .ref q6, .ref q7, .ref q8, .ref q9, .ref q11, .ref q12, .ref q13] : List V), SpV G14 x false := fun x hx => by
      simp only [List.mem_cons, List.not_mem_nil, or_false] at hx
      rcases hx with rfl | rfl | rfl | rfl | rfl | rfl | rfl | rfl | rfl | rfl | rfl | rfl | rfl | rfl | rfl
      all_goals first | exact .inl ⟨.non, rfl⟩ | exact .inl ⟨.bl _, rfl⟩ | exact .inl ⟨.int _, rfl⟩ | exact .inl ⟨.str _, rfl⟩ | exact S.v _ (by simp)
    have lt : ([.non, .bl true, .bl false, .int 0, .int 7, .str "", .str "shape", .ref q5, .ref q6, .ref q7, .ref q8, .ref q9, .ref q11, .ref q12, .ref q13] : List V).length ≤ 15 := Nat.le_refl _
    generalize ([.non, .bl true, .bl false, .int 0, .int 7, .str "", .str "shape", .ref q5, .ref q6, .ref q7, .ref q8, .ref q9, .ref q11, .ref q12, .ref q13] : List V) = xt at h14 pt lt
    have ht := h14
    clear h14
    have S' := S.fresh
    clear S
    have S := S'
    clear S'
    replace S := S.thing (row_thing (sh_nt (.int 0)) .non .non .non (.bl false) S.hr)
    replace S := S.thing (row_thing (.inl ⟨_, _, _, rfl, (Nat.le_of_ble_eq_true rfl), S.hp, mkP_mks, rfl⟩) .non .non .non (.bl false) S.hm)
    refine ⟨_, rfl, _, rfl, _, rfl, (by show 2 ≤ sizeLine; decide), fun q15 w15 => ?_⟩
    have sn := same_new (o := .tup [.ref q1, .ref q3]) w15
    have h15 : upd G14 q15 (.tup [.ref q1, .ref q3]) q15 = some (.tup [.ref q1, .ref q3]) := upd_same
    replace ht := sn _ _ ht
    replace s0 := s0.trans sn
    replace S := S.skipS sn
    clear sn
    generalize upd G14 q15 (.tup [.ref q1, .ref q3]) = G15 at S s0 h15 ht ⊢
    replace S := S.thing (two_mix (r := (0, none, none, none, false)) S.hr S.hp S.hm (markN_ok S.hp S.hm) (.inl h15))
    refine ⟨_, rfl, _, rfl, (by show 2 ≤ sizeLine; decide), fun q16 w16 => ?_⟩
    have sn := same_new (o := .tup [.ref q3, .ref q1]) w16
    have h16 : upd G15 q16 (.tup [.ref q3, .ref q1]) q16 = some (.tup [.ref q3, .ref q1]) := upd_same
    replace ht := sn _ _ ht
    replace s0 := s0.trans sn
    replace S := S.skipS sn
    clear sn
    generalize upd G15 q16 (.tup [.ref q3, .ref q1]) = G16 at S s0 h16 ht ⊢
    replace S := S.thing (two_mix (r := (0, none, none, none, false)) S.hr S.hp S.hm (markN_ok S.hp S.hm) (.inr h16))
    refine ⟨_, rfl, _, rfl, _, rfl, _, rfl, (by show 2 ≤ sizeLine; decide), fun q17 w17 => ?_⟩
    have sn := same_new (o := .tup [.ref q1, .ref q1]) w17
    have h17 : upd G16 q17 (.tup [.ref q1, .ref q1]) q17 = some (.tup [.ref q1, .ref q1]) := upd_same
    replace ht := sn _ _ ht
    replace s0 := s0.trans sn
    replace S := S.skipS sn
    clear sn
    generalize upd G16 q17 (.tup [.ref q1, .ref q1]) = G17 at S s0 h17 ht ⊢
    replace S := S.thing (two_int (r1 := (0, none, none, none, false)) (r2 := (0, none, none, none, false)) S.hr S.hr h17 (fun z => absurd z (by decide)))
    refine ⟨_, rfl, _, rfl, (by show 2 ≤ sizeLine; decide), fun q18 w18 => ?_⟩
    have sn := same_new (o := .tup [v, .ref q1]) w18
    have h18 : upd G17 q18 (.tup [v, .ref q1]) q18 = some (.tup [v, .ref q1]) := upd_same
    replace ht := sn _ _ ht
    replace s0 := s0.trans sn
    replace S := S.skipS sn
    clear sn
    generalize upd G17 q18 (.tup [v, .ref q1]) = G18 at S s0 h18 ht ⊢
    replace S := S.thing (two_deep S.d S.hr (.inl h18))
    refine ⟨_, rfl, _, rfl, (by show 2 ≤ sizeLine; decide), fun q19 w19 => ?_⟩
    have sn := same_new (o := .tup [.ref q1, v]) w19
    have h19 : upd G18 q19 (.tup [.ref q1, v]) q19 = some (.tup [.ref q1, v]) := upd_same
    replace ht := sn _ _ ht
    replace s0 := s0.trans sn
    replace S := S.skipS sn
    clear sn
    generalize upd G18 q19 (.tup [.ref q1, v]) = G19 at S s0 h19 ht ⊢
    replace S := S.thing (two_deep S.d S.hr (.inr h19))
    refine ⟨(by show 7 ≤ sizeLine; decide), fun q20 w20 => ?_⟩
    have sn := same_new (o := .lst [.ref q15, .ref q16, .ref q1, .ref q3, .ref q17, .ref q18, .ref q19]) w20
    have h20 : upd G19 q20 (.lst [.ref q15, .ref q16, .ref q1, .ref q3, .ref q17, .ref q18, .ref q19]) q20 = some (.lst [.ref q15, .ref q16, .ref q1, .ref q3, .ref q17, .ref q18, .ref q19]) := upd_same
    replace ht := sn _ _ ht
    replace s0 := s0.trans sn
    replace S := S.skipS sn
    clear sn
    generalize upd G19 q20 (.lst [.ref q15, .ref q16, .ref q1, .ref q3, .ref q17, .ref q18, .ref q19]) = G20 at S s0 h20 ht ⊢
    have pnew : ∀ x ∈ ([.ref q15, .ref q16, .ref q1, .ref q3, .ref q17, .ref q18, .ref q19] : List V), SpV G20 x false := fun x hx => by
      simp only [List.mem_cons, List.not_mem_nil, or_false] at hx
      rcases hx with rfl | rfl | rfl | rfl | rfl | rfl | rfl
      all_goals first | exact .inl ⟨.non, rfl⟩ | exact .inl ⟨.bl _, rfl⟩ | exact .inl ⟨.int _, rfl⟩ | exact .inl ⟨.str _, rfl⟩ | exact S.v _ (by simp)
    have ly : (([.ref q15, .ref q16, .ref q1, .ref q3, .ref q17, .ref q18, .ref q19] : List V) : List V).length ≤ 7 := Nat.le_refl _
    refine ⟨q14, q20, _, _, rfl, rfl, ht, h20, (Nat.le_trans (Nat.add_le_add lt ly) (by decide)), fun q21 w21 => ?_⟩
    have scat := same_new (o := .lst (xt ++ ([.ref q15, .ref q16, .ref q1, .ref q3, .ref q17, .ref q18, .ref q19] : List V))) w21
    have h21 : upd G20 q21 (.lst (xt ++ ([.ref q15, .ref q16, .ref q1, .ref q3, .ref q17, .ref q18, .ref q19] : List V))) q21 = some (.lst (xt ++ ([.ref q15, .ref q16, .ref q1, .ref q3, .ref q17, .ref q18, .ref q19] : List V))) := upd_same
    replace ht := scat _ _ ht
    replace s0 := s0.trans scat
    replace S := S.skipS scat
    generalize upd G20 q21 (.lst (xt ++ ([.ref q15, .ref q16, .ref q1, .ref q3, .ref q17, .ref q18, .ref q19] : List V))) = G21 at S s0 scat h21 ht ⊢
    have a2 : ∀ x ∈ xt ++ ([.ref q15, .ref q16, .ref q1, .ref q3, .ref q17, .ref q18, .ref q19] : List V), SpV G21 x false := fun x hx => by
      rcases List.mem_append.mp hx with hx | hx
      · exact (pt x hx).kp (Kp.of_same S.s)
      · exact (pnew x hx).kp (Kp.of_same scat)
    have l2 : (xt ++ ([.ref q15, .ref q16, .ref q1, .ref q3, .ref q17, .ref q18, .ref q19] : List V)).length ≤ 22 := by rw [List.length_append]; exact Nat.add_le_add lt ly
    generalize xt ++ ([.ref q15, .ref q16, .ref q1, .ref q3, .ref q17, .ref q18, .ref q19] : List V) = zt at h21 a2 l2
    clear pt lt ht pnew ly scat h20
    have ht := h21
    have pt := a2
    have lt := l2
    clear h21 a2 l2 xt
    have ⟨xt, ext⟩ : ∃ y, y = zt := ⟨_, rfl⟩
    rw [← ext] at ht pt lt
    clear ext
    have S' := S.fresh
    clear S
    have S := S'
    clear S'
    refine ⟨(by show 5 ≤ sizeLine; decide), fun q22 w22 => ?_⟩
    have sn := same_new (o := .tup [.int 0, .int 0, .non, .non, .bl false]) w22
    have h22 : upd G21 q22 (.tup [.int 0, .int 0, .non, .non, .bl false]) q22 = some (.tup [.int 0, .int 0, .non, .non, .bl false]) := upd_same
    replace ht := sn _ _ ht
    replace s0 := s0.trans sn
    replace S := S.skipS sn
    clear sn
    generalize upd G21 q22 (.tup [.int 0, .int 0, .non, .non, .bl false]) = G22 at S s0 h22 ht ⊢
    replace S := S.rown (rowNo_int (r := (0, some 0, none, none, false)) h22 (by decide +kernel))
    refine ⟨(by show 5 ≤ sizeLine; decide), fun q23 w23 => ?_⟩
    have sn := same_new (o := .tup [.int 0, .non, .non, .int 0, .bl false]) w23
    have h23 : upd G22 q23 (.tup [.int 0, .non, .non, .int 0, .bl false]) q23 = some (.tup [.int 0, .non, .non, .int 0, .bl false]) := upd_same
    replace ht := sn _ _ ht
    replace s0 := s0.trans sn
    replace S := S.skipS sn
    clear sn
    generalize upd G22 q23 (.tup [.int 0, .non, .non, .int 0, .bl false]) = G23 at S s0 h23 ht ⊢
    replace S := S.rown (rowNo_int (r := (0, none, none, some 0, false)) h23 (by decide +kernel))
    refine ⟨(by show 5 ≤ sizeLine; decide), fun q24 w24 => ?_⟩
    have sn := same_new (o := .tup [.int 0, .non, .non, .non, .int 0]) w24
    have h24 : upd G23 q24 (.tup [.int 0, .non, .non, .non, .int 0]) q24 = some (.tup [.int 0, .non, .non, .non, .int 0]) := upd_same
    replace ht := sn _ _ ht
    replace s0 := s0.trans sn
    replace S := S.skipS sn
    clear sn
    generalize upd G23 q24 (.tup [.int 0, .non, .non, .non, .int 0]) = G24 at S s0 h24 ht ⊢
    replace S := S.rown (rowNo_sh (row_bad (anI 0) anN anN anN (anI 0) h24 rfl))
    refine ⟨(by show 3 ≤ sizeLine; decide), fun q25 w25 => ?_⟩
    have sn := same_new (o := .lst [.ref q22, .ref q23, .ref q24]) w25
    have h25 : upd G24 q25 (.lst [.ref q22, .ref q23, .ref q24]) q25 = some (.lst [.ref q22, .ref q23, .ref q24]) := upd_same
    replace ht := sn _ _ ht
    replace s0 := s0.trans sn
    replace S := S.skipS sn
    clear sn
    generalize upd G24 q25 (.lst [.ref q22, .ref q23, .ref q24]) = G25 at S s0 h25 ht ⊢
    have pw : ∀ x ∈ ([.ref q22, .ref q23, .ref q24] : List V), RowNo G25 x := fun x hx => by
      simp only [List.mem_cons, List.not_mem_nil, or_false] at hx
      rcases hx with rfl | rfl | rfl
      all_goals first | exact .inl ⟨.non, rfl⟩ | exact .inl ⟨.bl _, rfl⟩ | exact .inl ⟨.int _, rfl⟩ | exact .inl ⟨.str _, rfl⟩ | exact S.w _ (by simp)
    have lw : ([.ref q22, .ref q23, .ref q24] : List V).length ≤ 3 := Nat.le_refl _
    replace pt : ∀ x ∈ xt, SpV G25 x false := fun x hx => (pt x hx).kp (Kp.of_same S.s)
    generalize ([.ref q22, .ref q23, .ref q24] : List V) = xw at h25 pw lw
    have hw := h25
    clear h25
    have S' := S.fresh
    clear S
    have S := S'
    clear S'
    refine ⟨_, rfl, (by show 5 ≤ sizeLine; decide), fun q26 w26 => ?_⟩
    have sn := same_new (o := .tup [.int 0, .non, .non, .non, .non]) w26
    have h26 : upd G25 q26 (.tup [.int 0, .non, .non, .non, .non]) q26 = some (.tup [.int 0, .non, .non, .non, .non]) := upd_same
    replace ht := sn _ _ ht
    replace hw := sn _ _ hw
    replace s0 := s0.trans sn
    replace S := S.skipS sn
    clear sn
    generalize upd G25 q26 (.tup [.int 0, .non, .non, .non, .non]) = G26 at S s0 h26 ht hw ⊢
    replace S := S.rown (rowNo_sh (row_bad (anI 0) anN anN anN anN h26 rfl))
    refine ⟨(by show 5 ≤ sizeLine; decide), fun q27 w27 => ?_⟩
    have sn := same_new (o := .tup [.bl true, .non, .non, .non, .bl false]) w27
    have h27 : upd G26 q27 (.tup [.bl true, .non, .non, .non, .bl false]) q27 = some (.tup [.bl true, .non, .non, .non, .bl false]) := upd_same
    replace ht := sn _ _ ht
    replace hw := sn _ _ hw
    replace s0 := s0.trans sn
    replace S := S.skipS sn
    clear sn
    generalize upd G26 q27 (.tup [.bl true, .non, .non, .non, .bl false]) = G27 at S s0 h27 ht hw ⊢
    replace S := S.rown (rowNo_sh (row_bad (anB true) anN anN anN (anB false) h27 rfl))
    refine ⟨(by show 5 ≤ sizeLine; decide), fun q28 w28 => ?_⟩
    have sn := same_new (o := .tup [.str "0", .non, .non, .non, .bl false]) w28
    have h28 : upd G27 q28 (.tup [.str "0", .non, .non, .non, .bl false]) q28 = some (.tup [.str "0", .non, .non, .non, .bl false]) := upd_same
    replace ht := sn _ _ ht
    replace hw := sn _ _ hw
    replace s0 := s0.trans sn
    replace S := S.skipS sn
    clear sn
    generalize upd G27 q28 (.tup [.str "0", .non, .non, .non, .bl false]) = G28 at S s0 h28 ht hw ⊢
    replace S := S.rown (rowNo_sh (row_bad (anS _) anN anN anN (anB false) h28 rfl))
    refine ⟨(by show 3 ≤ sizeLine; decide), fun q29 w29 => ?_⟩
    have sn := same_new (o := .lst [.ref q26, .ref q27, .ref q28]) w29
    have h29 : upd G28 q29 (.lst [.ref q26, .ref q27, .ref q28]) q29 = some (.lst [.ref q26, .ref q27, .ref q28]) := upd_same
    replace ht := sn _ _ ht
    replace hw := sn _ _ hw
    replace s0 := s0.trans sn
    replace S := S.skipS sn
    clear sn
    generalize upd G28 q29 (.lst [.ref q26, .ref q27, .ref q28]) = G29 at S s0 h29 ht hw ⊢
    have pnew : ∀ x ∈ ([.ref q26, .ref q27, .ref q28] : List V), RowNo G29 x := fun x hx => by
      simp only [List.mem_cons, List.not_mem_nil, or_false] at hx
      rcases hx with rfl | rfl | rfl
      all_goals first | exact .inl ⟨.non, rfl⟩ | exact .inl ⟨.bl _, rfl⟩ | exact .inl ⟨.int _, rfl⟩ | exact .inl ⟨.str _, rfl⟩ | exact S.w _ (by simp)
    have ly : (([.ref q26, .ref q27, .ref q28] : List V) : List V).length ≤ 3 := Nat.le_refl _
    refine ⟨q25, q29, _, _, rfl, rfl, hw, h29, (Nat.le_trans (Nat.add_le_add lw ly) (by decide)), fun q30 w30 => ?_⟩
    have scat := same_new (o := .lst (xw ++ ([.ref q26, .ref q27, .ref q28] : List V))) w30
    have h30 : upd G29 q30 (.lst (xw ++ ([.ref q26, .ref q27, .ref q28] : List V))) q30 = some (.lst (xw ++ ([.ref q26, .ref q27, .ref q28] : List V))) := upd_same
    replace ht := scat _ _ ht
    replace hw := scat _ _ hw
    replace s0 := s0.trans scat
    replace S := S.skipS scat
    generalize upd G29 q30 (.lst (xw ++ ([.ref q26, .ref q27, .ref q28] : List V))) = G30 at S s0 scat h30 ht hw ⊢
    have a2 : ∀ x ∈ xw ++ ([.ref q26, .ref q27, .ref q28] : List V), RowNo G30 x := fun x hx => by
      rcases List.mem_append.mp hx with hx | hx
      · exact (pw x hx).kp (Kp.of_same S.s)
      · exact (pnew x hx).kp (Kp.of_same scat)
    have l2 : (xw ++ ([.ref q26, .ref q27, .ref q28] : List V)).length ≤ 6 := by rw [List.length_append]; exact Nat.add_le_add lw ly
    replace pt : ∀ x ∈ xt, SpV G30 x false := fun x hx => (pt x hx).kp (Kp.of_same S.s)
    generalize xw ++ ([.ref q26, .ref q27, .ref q28] : List V) = zw at h30 a2 l2
    clear pw lw hw pnew ly scat h29
    have hw := h30
    have pw := a2
    have lw := l2
    clear h30 a2 l2 xw
    have ⟨xw, exw⟩ : ∃ y, y = zw := ⟨_, rfl⟩
    rw [← exw] at hw pw lw
    clear exw
    have S' := S.fresh
    clear S
    have S := S'
    clear S'
    refine ⟨_, rfl, (by show 5 ≤ sizeLine; decide), fun q31 w31 => ?_⟩
    have sn := same_new (o := .tup [.non, .non, .non, .non, .bl false]) w31
    have h31 : upd G30 q31 (.tup [.non, .non, .non, .non, .bl false]) q31 = some (.tup [.non, .non, .non, .non, .bl false]) := upd_same
    replace ht := sn _ _ ht
    replace hw := sn _ _ hw
    replace s0 := s0.trans sn
    replace S := S.skipS sn
    clear sn
    generalize upd G30 q31 (.tup [.non, .non, .non, .non, .bl false]) = G31 at S s0 h31 ht hw ⊢
    replace S := S.rown (rowNo_sh (row_bad anN anN anN anN (anB false) h31 rfl))
    refine ⟨(by show 5 ≤ sizeLine; decide), fun q32 w32 => ?_⟩
    have sn := same_new (o := .tup [.int 0, .int 1, .non, .non, .bl false]) w32
    have h32 : upd G31 q32 (.tup [.int 0, .int 1, .non, .non, .bl false]) q32 = some (.tup [.int 0, .int 1, .non, .non, .bl false]) := upd_same
    replace ht := sn _ _ ht
    replace hw := sn _ _ hw
    replace s0 := s0.trans sn
    replace S := S.skipS sn
    clear sn
    generalize upd G31 q32 (.tup [.int 0, .int 1, .non, .non, .bl false]) = G32 at S s0 h32 ht hw ⊢
    replace S := S.rown (rowNo_int (r := (0, some 1, none, none, false)) h32 (by decide +kernel))
    refine ⟨(by show 5 ≤ sizeLine; decide), fun q33 w33 => ?_⟩
    have sn := same_new (o := .tup [.int 0, .bl false, .non, .non, .bl false]) w33
    have h33 : upd G32 q33 (.tup [.int 0, .bl false, .non, .non, .bl false]) q33 = some (.tup [.int 0, .bl false, .non, .non, .bl false]) := upd_same
    replace ht := sn _ _ ht
    replace hw := sn _ _ hw
    replace s0 := s0.trans sn
    replace S := S.skipS sn
    clear sn
    generalize upd G32 q33 (.tup [.int 0, .bl false, .non, .non, .bl false]) = G33 at S s0 h33 ht hw ⊢
    replace S := S.rown (rowNo_sh (row_bad (anI 0) (anB false) anN anN (anB false) h33 rfl))
    refine ⟨(by show 3 ≤ sizeLine; decide), fun q34 w34 => ?_⟩
    have sn := same_new (o := .lst [.ref q31, .ref q32, .ref q33]) w34
    have h34 : upd G33 q34 (.lst [.ref q31, .ref q32, .ref q33]) q34 = some (.lst [.ref q31, .ref q32, .ref q33]) := upd_same
    replace ht := sn _ _ ht
    replace hw := sn _ _ hw
    replace s0 := s0.trans sn
    replace S := S.skipS sn
    clear sn
    generalize upd G33 q34 (.lst [.ref q31, .ref q32, .ref q33]) = G34 at S s0 h34 ht hw ⊢
    have pnew : ∀ x ∈ ([.ref q31, .ref q32, .ref q33] : List V), RowNo G34 x := fun x hx => by
      simp only [List.mem_cons, List.not_mem_nil, or_false] at hx
      rcases hx with rfl | rfl | rfl
      all_goals first | exact .inl ⟨.non, rfl⟩ | exact .inl ⟨.bl _, rfl⟩ | exact .inl ⟨.int _, rfl⟩ | exact .inl ⟨.str _, rfl⟩ | exact S.w _ (by simp)
    have ly : (([.ref q31, .ref q32, .ref q33] : List V) : List V).length ≤ 3 := Nat.le_refl _
    refine ⟨q30, q34, _, _, rfl, rfl, hw, h34, (Nat.le_trans (Nat.add_le_add lw ly) (by decide)), fun q35 w35 => ?_⟩
    have scat := same_new (o := .lst (xw ++ ([.ref q31, .ref q32, .ref q33] : List V))) w35
    have h35 : upd G34 q35 (.lst (xw ++ ([.ref q31, .ref q32, .ref q33] : List V))) q35 = some (.lst (xw ++ ([.ref q31, .ref q32, .ref q33] : List V))) := upd_same
    replace ht := scat _ _ ht
    replace hw := scat _ _ hw
    replace s0 := s0.trans scat
    replace S := S.skipS scat
    generalize upd G34 q35 (.lst (xw ++ ([.ref q31, .ref q32, .ref q33] : List V))) = G35 at S s0 scat h35 ht hw ⊢
    have a2 : ∀ x ∈ xw ++ ([.ref q31, .ref q32, .ref q33] : List V), RowNo G35 x := fun x hx => by
      rcases List.mem_append.mp hx with hx | hx
      · exact (pw x hx).kp (Kp.of_same S.s)
      · exact (pnew x hx).kp (Kp.of_same scat)
    have l2 : (xw ++ ([.ref q31, .ref q32, .ref q33] : List V)).length ≤ 9 := by rw [List.length_append]; exact Nat.add_le_add lw ly
    replace pt : ∀ x ∈ xt, SpV G35 x false := fun x hx => (pt x hx).kp (Kp.of_same S.s)
    generalize xw ++ ([.ref q31, .ref q32, .ref q33] : List V) = zw at h35 a2 l2
    clear pw lw hw pnew ly scat h34
    have hw := h35
    have pw := a2
    have lw := l2
    clear h35 a2 l2 xw
    have ⟨xw, exw⟩ : ∃ y, y = zw := ⟨_, rfl⟩
    rw [← exw] at hw pw lw
    clear exw
    have S' := S.fresh
    clear S
    have S := S'
    clear S'
    refine ⟨_, rfl, (by show 3 ≤ sizeLine; decide), fun q36 w36 => ?_⟩
    have sn := same_new (o := .tup [.str "point", .int 0, .int 1]) w36
    have hnm : upd G35 q36 (.tup [.str "point", .int 0, .int 1]) q36 = some (.tup [.str "point", .int 0, .int 1]) := upd_same
    replace ht := sn _ _ ht
    replace hw := sn _ _ hw
    replace s0 := s0.trans sn
    replace S := S.skipS sn
    clear sn
    generalize upd G35 q36 (.tup [.str "point", .int 0, .int 1]) = G36 at S s0 hnm ht hw ⊢
    refine ⟨(by show 5 ≤ sizeLine; decide), fun q37 w37 => ?_⟩
    have sn := same_new (o := .tup [.ref q36, .non, .non, .non, .bl false]) w37
    have h37 : upd G36 q37 (.tup [.ref q36, .non, .non, .non, .bl false]) q37 = some (.tup [.ref q36, .non, .non, .non, .bl false]) := upd_same
    replace ht := sn _ _ ht
    replace hw := sn _ _ hw
    replace hnm := sn _ _ hnm
    replace s0 := s0.trans sn
    replace S := S.skipS sn
    clear sn
    generalize upd G36 q37 (.tup [.ref q36, .non, .non, .non, .bl false]) = G37 at S s0 h37 ht hw hnm ⊢
    replace S := S.rown (rowNo_sh (row_badT hnm (mark_no (xs := [0, 1]) hnm (Nat.le_of_ble_eq_true rfl) (by decide +kernel) (by decide +kernel)) h37))
    clear hnm
    refine ⟨(by show 2 ≤ sizeLine; decide), fun q38 w38 => ?_⟩
    have sn := same_new (o := .tup [.str "over", .int 0]) w38
    have hnm : upd G37 q38 (.tup [.str "over", .int 0]) q38 = some (.tup [.str "over", .int 0]) := upd_same
    replace ht := sn _ _ ht
    replace hw := sn _ _ hw
    replace s0 := s0.trans sn
    replace S := S.skipS sn
    clear sn
    generalize upd G37 q38 (.tup [.str "over", .int 0]) = G38 at S s0 hnm ht hw ⊢
    refine ⟨(by show 5 ≤ sizeLine; decide), fun q39 w39 => ?_⟩
    have sn := same_new (o := .tup [.ref q38, .non, .non, .non, .bl false]) w39
    have h39 : upd G38 q39 (.tup [.ref q38, .non, .non, .non, .bl false]) q39 = some (.tup [.ref q38, .non, .non, .non, .bl false]) := upd_same
    replace ht := sn _ _ ht
    replace hw := sn _ _ hw
    replace hnm := sn _ _ hnm
    replace s0 := s0.trans sn
    replace S := S.skipS sn
    clear sn
    generalize upd G38 q39 (.tup [.ref q38, .non, .non, .non, .bl false]) = G39 at S s0 h39 ht hw hnm ⊢
    replace S := S.rown (rowNo_sh (row_badT hnm (mark_no (xs := [0]) hnm (Nat.le_of_ble_eq_true rfl) (by decide +kernel) (by decide +kernel)) h39))
    clear hnm
    refine ⟨(by show 2 ≤ sizeLine; decide), fun q40 w40 => ?_⟩
    have sn := same_new (o := .lst [.ref q37, .ref q39]) w40
    have h40 : upd G39 q40 (.lst [.ref q37, .ref q39]) q40 = some (.lst [.ref q37, .ref q39]) := upd_same
    replace ht := sn _ _ ht
    replace hw := sn _ _ hw
    replace s0 := s0.trans sn
    replace S := S.skipS sn
    clear sn
    generalize upd G39 q40 (.lst [.ref q37, .ref q39]) = G40 at S s0 h40 ht hw ⊢
    have pnew : ∀ x ∈ ([.ref q37, .ref q39] : List V), RowNo G40 x := fun x hx => by
      simp only [List.mem_cons, List.not_mem_nil, or_false] at hx
      rcases hx with rfl | rfl
      all_goals first | exact .inl ⟨.non, rfl⟩ | exact .inl ⟨.bl _, rfl⟩ | exact .inl ⟨.int _, rfl⟩ | exact .inl ⟨.str _, rfl⟩ | exact S.w _ (by simp)
    have ly : (([.ref q37, .ref q39] : List V) : List V).length ≤ 2 := Nat.le_refl _
    refine ⟨q35, q40, _, _, rfl, rfl, hw, h40, (Nat.le_trans (Nat.add_le_add lw ly) (by decide)), fun q41 w41 => ?_⟩
    have scat := same_new (o := .lst (xw ++ ([.ref q37, .ref q39] : List V))) w41
    have h41 : upd G40 q41 (.lst (xw ++ ([.ref q37, .ref q39] : List V))) q41 = some (.lst (xw ++ ([.ref q37, .ref q39] : List V))) := upd_same
    replace ht := scat _ _ ht
    replace hw := scat _ _ hw
    replace s0 := s0.trans scat
    replace S := S.skipS scat
    generalize upd G40 q41 (.lst (xw ++ ([.ref q37, .ref q39] : List V))) = G41 at S s0 scat h41 ht hw ⊢
    have a2 : ∀ x ∈ xw ++ ([.ref q37, .ref q39] : List V), RowNo G41 x := fun x hx => by
      rcases List.mem_append.mp hx with hx | hx
      · exact (pw x hx).kp (Kp.of_same S.s)
      · exact (pnew x hx).kp (Kp.of_same scat)
    have l2 : (xw ++ ([.ref q37, .ref q39] : List V)).length ≤ 11 := by rw [List.length_append]; exact Nat.add_le_add lw ly
    replace pt : ∀ x ∈ xt, SpV G41 x false := fun x hx => (pt x hx).kp (Kp.of_same S.s)
    generalize xw ++ ([.ref q37, .ref q39] : List V) = zw at h41 a2 l2
    clear pw lw hw pnew ly scat h40
    have hw := h41
    have pw := a2
    have lw := l2
    clear h41 a2 l2 xw
    have ⟨xw, exw⟩ : ∃ y, y = zw := ⟨_, rfl⟩
    rw [← exw] at hw pw lw
    clear exw
    have S' := S.fresh
    clear S
    have S := S'
    clear S'
    refine ⟨_, rfl, (by show 2 ≤ sizeLine; decide), fun q42 w42 => ?_⟩
    have sn := same_new (o := .tup [.str "points", .int 0]) w42
    have hnm : upd G41 q42 (.tup [.str "points", .int 0]) q42 = some (.tup [.str "points", .int 0]) := upd_same
    replace ht := sn _ _ ht
    replace hw := sn _ _ hw
    replace s0 := s0.trans sn
    replace S := S.skipS sn
    clear sn
    generalize upd G41 q42 (.tup [.str "points", .int 0]) = G42 at S s0 hnm ht hw ⊢
    refine ⟨(by show 5 ≤ sizeLine; decide), fun q43 w43 => ?_⟩
    have sn := same_new (o := .tup [.ref q42, .non, .non, .non, .bl false]) w43
    have h43 : upd G42 q43 (.tup [.ref q42, .non, .non, .non, .bl false]) q43 = some (.tup [.ref q42, .non, .non, .non, .bl false]) := upd_same
    replace ht := sn _ _ ht
    replace hw := sn _ _ hw
    replace hnm := sn _ _ hnm
    replace s0 := s0.trans sn
    replace S := S.skipS sn
    clear sn
    generalize upd G42 q43 (.tup [.ref q42, .non, .non, .non, .bl false]) = G43 at S s0 h43 ht hw hnm ⊢
    replace S := S.rown (rowNo_sh (row_badT hnm (mark_no (xs := [0]) hnm (Nat.le_of_ble_eq_true rfl) (by decide +kernel) (by decide +kernel)) h43))
    clear hnm
    refine ⟨(by show 1 ≤ sizeLine; decide), fun q44 w44 => ?_⟩
    have sn := same_new (o := .lst [.int 0]) w44
    have hnm : upd G43 q44 (.lst [.int 0]) q44 = some (.lst [.int 0]) := upd_same
    replace ht := sn _ _ ht
    replace hw := sn _ _ hw
    replace s0 := s0.trans sn
    replace S := S.skipS sn
    clear sn
    generalize upd G43 q44 (.lst [.int 0]) = G44 at S s0 hnm ht hw ⊢
    refine ⟨(by show 5 ≤ sizeLine; decide), fun q45 w45 => ?_⟩
    have sn := same_new (o := .tup [.ref q44, .non, .non, .non, .bl false]) w45
    have h45 : upd G44 q45 (.tup [.ref q44, .non, .non, .non, .bl false]) q45 = some (.tup [.ref q44, .non, .non, .non, .bl false]) := upd_same
    replace ht := sn _ _ ht
    replace hw := sn _ _ hw
    replace hnm := sn _ _ hnm
    replace s0 := s0.trans sn
    replace S := S.skipS sn
    clear sn
    generalize upd G44 q45 (.tup [.ref q44, .non, .non, .non, .bl false]) = G45 at S s0 h45 ht hw hnm ⊢
    replace S := S.rown (rowNo_sh (row_bad ⟨.lst hnm, .lst hnm⟩ anN anN anN (anB false) h45 rfl))
    clear hnm
    refine ⟨(by show 2 ≤ sizeLine; decide), fun q46 w46 => ?_⟩
    have sn := same_new (o := .lst [.ref q43, .ref q45]) w46
    have h46 : upd G45 q46 (.lst [.ref q43, .ref q45]) q46 = some (.lst [.ref q43, .ref q45]) := upd_same
    replace ht := sn _ _ ht
    replace hw := sn _ _ hw
    replace s0 := s0.trans sn
    replace S := S.skipS sn
    clear sn
    generalize upd G45 q46 (.lst [.ref q43, .ref q45]) = G46 at S s0 h46 ht hw ⊢
    have pnew : ∀ x ∈ ([.ref q43, .ref q45] : List V), RowNo G46 x := fun x hx => by
      simp only [List.mem_cons, List.not_mem_nil, or_false] at hx
      rcases hx with rfl | rfl
      all_goals first | exact .inl ⟨.non, rfl⟩ | exact .inl ⟨.bl _, rfl⟩ | exact .inl ⟨.int _, rfl⟩ | exact .inl ⟨.str _, rfl⟩ | exact S.w _ (by simp)
    have ly : (([.ref q43, .ref q45] : List V) : List V).length ≤ 2 := Nat.le_refl _
    refine ⟨q41, q46, _, _, rfl, rfl, hw, h46, (Nat.le_trans (Nat.add_le_add lw ly) (by decide)), fun q47 w47 => ?_⟩
    have scat := same_new (o := .lst (xw ++ ([.ref q43, .ref q45] : List V))) w47
    have h47 : upd G46 q47 (.lst (xw ++ ([.ref q43, .ref q45] : List V))) q47 = some (.lst (xw ++ ([.ref q43, .ref q45] : List V))) := upd_same
    replace ht := scat _ _ ht
    replace hw := scat _ _ hw
    replace s0 := s0.trans scat
    replace S := S.skipS scat
    generalize upd G46 q47 (.lst (xw ++ ([.ref q43, .ref q45] : List V))) = G47 at S s0 scat h47 ht hw ⊢
    have a2 : ∀ x ∈ xw ++ ([.ref q43, .ref q45] : List V), RowNo G47 x := fun x hx => by
      rcases List.mem_append.mp hx with hx | hx
      · exact (pw x hx).kp (Kp.of_same S.s)
      · exact (pnew x hx).kp (Kp.of_same scat)
    have l2 : (xw ++ ([.ref q43, .ref q45] : List V)).length ≤ 13 := by rw [List.length_append]; exact Nat.add_le_add lw ly
    replace pt : ∀ x ∈ xt, SpV G47 x false := fun x hx => (pt x hx).kp (Kp.of_same S.s)
    generalize xw ++ ([.ref q43, .ref q45] : List V) = zw at h47 a2 l2
    clear pw lw hw pnew ly scat h46
    have hw := h47
    have pw := a2
    have lw := l2
    clear h47 a2 l2 xw
    have ⟨xw, exw⟩ : ∃ y, y = zw := ⟨_, rfl⟩
    rw [← exw] at hw pw lw
    clear exw
    have S' := S.fresh
    clear S
    have S := S'
    clear S'
    refine ⟨_, rfl, _, rfl, q47, rfl, ⟨_, SqL.of hw⟩, fun D nD => ?_⟩
    refine lc_list (xs := xw) (fun i G => Same G47 G ∧ ∃ zs : List V, G D = some (.lst zs) ∧ zs.length ≤ i ∧ ∀ x ∈ zs, SpV G x false) ⟨same_new nD, [], upd_same, Nat.le_refl _, fun x h => nomatch h⟩ (fun i G _ z => SqL.of (z.1 _ _ hw)) ?_ ?_
    · rintro i x G hx ⟨sG, zs, hD, lz, az⟩
      have hi := (List.getElem?_eq_some_iff.mp hx).1
      refine ⟨rfl, _, rfl, (by show 1 ≤ sizeLine; decide), fun q nq => ?_⟩
      have sq := same_new (o := .tup [x]) nq
      have hq : upd G q (.tup [x]) q = some (.tup [x]) := upd_same
      generalize upd G q (.tup [x]) = G' at sq hq ⊢
      have big : (512 : Nat) ≤ sizeLine := by decide
      have sD : Same G47 (upd G' D (.lst (zs ++ [.ref q]))) := fun c o ec => by rw [upd_ne (ne_of_none ec nD)]; exact sq _ _ (sG _ _ ec)
      have kD : KpL G' (upd G' D (.lst (zs ++ [.ref q]))) := ⟨fun c o ec _ n2 => by rw [upd_ne (fun z => by rw [z, sq _ _ hD] at ec; exact n2 _ (Option.some.inj ec).symm)]; exact ec, fun c ys ec => by
        by_cases z : c = D
        · rw [z, upd_same]; exact ⟨_, rfl⟩
        · rw [upd_ne z]; exact ⟨_, ec⟩⟩
      refine ⟨_, sq _ _ hD, (by omega), sD, _, upd_same, (by rw [List.length_append]; exact Nat.add_le_add_right lz 1), fun y hy => ?_⟩
      rcases List.mem_append.mp hy with hy | hy
      · exact ((az y hy).kp (Kp.of_same sq)).kpl kD
      · rw [List.mem_singleton.mp hy]
        exact (pw x (List.mem_of_getElem? hx) q G' (Kp.of_same (sG.trans sq)) hq).kpl kD
    rintro GL ⟨sL, zs, hD, lz, pnew⟩
    replace s0 := s0.trans sL
    replace S := S.skipS sL
    replace ht := sL _ _ ht
    replace hw := sL _ _ hw
    have ly : (zs : List V).length ≤ 13 := Nat.le_trans lz lw
    refine ⟨q21, D, _, _, rfl, rfl, ht, hD, (Nat.le_trans (Nat.add_le_add lt ly) (by decide)), fun q48 w48 => ?_⟩
    have scat := same_new (o := .lst (xt ++ zs)) w48
    have h48 : upd GL q48 (.lst (xt ++ zs)) q48 = some (.lst (xt ++ zs)) := upd_same
    replace ht := scat _ _ ht
    replace s0 := s0.trans scat
    replace S := S.skipS scat
    generalize upd GL q48 (.lst (xt ++ zs)) = G48 at S s0 scat h48 ht ⊢
    have a2 : ∀ x ∈ xt ++ zs, SpV G48 x false := fun x hx => by
      rcases List.mem_append.mp hx with hx | hx
      · exact (pt x hx).kp (Kp.of_same S.s)
      · exact (pnew x hx).kp (Kp.of_same scat)
    have l2 : (xt ++ zs).length ≤ 35 := by rw [List.length_append]; exact Nat.add_le_add lt ly
    generalize xt ++ zs = zt at h48 a2 l2
    clear pt lt ht pnew ly scat hD
    have ht := h48
    have pt := a2
    have lt := l2
    clear h48 a2 l2 xt
    have ⟨xt, ext⟩ : ∃ y, y = zt := ⟨_, rfl⟩
    rw [← ext] at ht pt lt
    clear ext
    have S' := S.fresh
    clear S
    have S := S'
    clear S'
    clear hw pw lw
    refine ⟨(by show 5 ≤ sizeLine; decide), fun q49 w49 => ?_⟩
    have sn := same_new (o := .tup [.int 1, .non, .non, .int 0, .bl false]) w49
    have hbl : upd G48 q49 (.tup [.int 1, .non, .non, .int 0, .bl false]) q49 = some (.tup [.int 1, .non, .non, .int 0, .bl false]) := upd_same
    replace ht := sn _ _ ht
    replace s0 := s0.trans sn
    replace S := S.skipS sn
    clear sn
    generalize upd G48 q49 (.tup [.int 1, .non, .non, .int 0, .bl false]) = G49 at S s0 hbl ht ⊢
    refine ⟨_, rfl, (by show 5 ≤ sizeLine; decide), fun q50 w50 => ?_⟩
    have sn := same_new (o := .tup [.int 0, .int 1, .int 1, .non, .bl false]) w50
    have hd : upd G49 q50 (.tup [.int 0, .int 1, .int 1, .non, .bl false]) q50 = some (.tup [.int 0, .int 1, .int 1, .non, .bl false]) := upd_same
    replace ht := sn _ _ ht
    replace hbl := sn _ _ hbl
    replace s0 := s0.trans sn
    replace S := S.skipS sn
    clear sn
    generalize upd G49 q50 (.tup [.int 0, .int 1, .int 1, .non, .bl false]) = G50 at S s0 hd ht hbl ⊢
    refine ⟨_, rfl, (by show 2 ≤ sizeLine; decide), fun q51 w51 => ?_⟩
    have sn := same_new (o := .tup [.ref q50, .ref q49]) w51
    have h51 : upd G50 q51 (.tup [.ref q50, .ref q49]) q51 = some (.tup [.ref q50, .ref q49]) := upd_same
    replace ht := sn _ _ ht
    replace hbl := sn _ _ hbl
    replace hd := sn _ _ hd
    replace s0 := s0.trans sn
    replace S := S.skipS sn
    clear sn
    generalize upd G50 q51 (.tup [.ref q50, .ref q49]) = G51 at S s0 h51 ht hbl hd ⊢
    replace S := S.thing (two_int (r1 := (0, some 1, some 1, none, false)) (r2 := (1, none, none, some 0, false)) hd hbl h51 (fun _ => by decide +kernel))
    clear hd
    refine ⟨(by show 5 ≤ sizeLine; decide), fun q52 w52 => ?_⟩
    have sn := same_new (o := .tup [.int 0, .non, .non, .int 1, .bl false]) w52
    have hd : upd G51 q52 (.tup [.int 0, .non, .non, .int 1, .bl false]) q52 = some (.tup [.int 0, .non, .non, .int 1, .bl false]) := upd_same
    replace ht := sn _ _ ht
    replace hbl := sn _ _ hbl
    replace s0 := s0.trans sn
    replace S := S.skipS sn
    clear sn
    generalize upd G51 q52 (.tup [.int 0, .non, .non, .int 1, .bl false]) = G52 at S s0 hd ht hbl ⊢
    refine ⟨_, rfl, (by show 2 ≤ sizeLine; decide), fun q53 w53 => ?_⟩
    have sn := same_new (o := .tup [.ref q52, .ref q49]) w53
    have h53 : upd G52 q53 (.tup [.ref q52, .ref q49]) q53 = some (.tup [.ref q52, .ref q49]) := upd_same
    replace ht := sn _ _ ht
    replace hbl := sn _ _ hbl
    replace hd := sn _ _ hd
    replace s0 := s0.trans sn
    replace S := S.skipS sn
    clear sn
    generalize upd G52 q53 (.tup [.ref q52, .ref q49]) = G53 at S s0 h53 ht hbl hd ⊢
    replace S := S.thing (two_int (r1 := (0, none, none, some 1, false)) (r2 := (1, none, none, some 0, false)) hd hbl h53 (fun _ => by decide +kernel))
    clear hd
    refine ⟨(by show 2 ≤ sizeLine; decide), fun q54 w54 => ?_⟩
    have sn := same_new (o := .lst [.ref q51, .ref q53]) w54
    have h54 : upd G53 q54 (.lst [.ref q51, .ref q53]) q54 = some (.lst [.ref q51, .ref q53]) := upd_same
    replace ht := sn _ _ ht
    replace hbl := sn _ _ hbl
    replace s0 := s0.trans sn
    replace S := S.skipS sn
    clear sn
    generalize upd G53 q54 (.lst [.ref q51, .ref q53]) = G54 at S s0 h54 ht hbl ⊢
    have pnew : ∀ x ∈ ([.ref q51, .ref q53] : List V), SpV G54 x false := fun x hx => by
      simp only [List.mem_cons, List.not_mem_nil, or_false] at hx
      rcases hx with rfl | rfl
      all_goals first | exact .inl ⟨.non, rfl⟩ | exact .inl ⟨.bl _, rfl⟩ | exact .inl ⟨.int _, rfl⟩ | exact .inl ⟨.str _, rfl⟩ | exact S.v _ (by simp)
    have ly : (([.ref q51, .ref q53] : List V) : List V).length ≤ 2 := Nat.le_refl _
    refine ⟨q48, q54, _, _, rfl, rfl, ht, h54, (Nat.le_trans (Nat.add_le_add lt ly) (by decide)), fun q55 w55 => ?_⟩
    have scat := same_new (o := .lst (xt ++ ([.ref q51, .ref q53] : List V))) w55
    have h55 : upd G54 q55 (.lst (xt ++ ([.ref q51, .ref q53] : List V))) q55 = some (.lst (xt ++ ([.ref q51, .ref q53] : List V))) := upd_same
    replace ht := scat _ _ ht
    replace hbl := scat _ _ hbl
    replace s0 := s0.trans scat
    replace S := S.skipS scat
    generalize upd G54 q55 (.lst (xt ++ ([.ref q51, .ref q53] : List V))) = G55 at S s0 scat h55 ht hbl ⊢
    have a2 : ∀ x ∈ xt ++ ([.ref q51, .ref q53] : List V), SpV G55 x false := fun x hx => by
      rcases List.mem_append.mp hx with hx | hx
      · exact (pt x hx).kp (Kp.of_same S.s)
      · exact (pnew x hx).kp (Kp.of_same scat)
    have l2 : (xt ++ ([.ref q51, .ref q53] : List V)).length ≤ 37 := by rw [List.length_append]; exact Nat.add_le_add lt ly
    generalize xt ++ ([.ref q51, .ref q53] : List V) = zt at h55 a2 l2
    clear pt lt ht pnew ly scat h54
    have ht := h55
    have pt := a2
    have lt := l2
    clear h55 a2 l2 xt
    have ⟨xt, ext⟩ : ∃ y, y = zt := ⟨_, rfl⟩
    rw [← ext] at ht pt lt
    clear ext
    have S' := S.fresh
    clear S
    have S := S'
    clear S'
    clear hbl
    refine ⟨_, rfl, (by show 5 ≤ sizeLine; decide), fun q56 w56 => ?_⟩
    have sn := same_new (o := .tup [.int 0, .int 1, .non, .non, .bl false]) w56
    have hd : upd G55 q56 (.tup [.int 0, .int 1, .non, .non, .bl false]) q56 = some (.tup [.int 0, .int 1, .non, .non, .bl false]) := upd_same
    replace ht := sn _ _ ht
    replace s0 := s0.trans sn
    replace S := S.skipS sn
    clear sn
    generalize upd G55 q56 (.tup [.int 0, .int 1, .non, .non, .bl false]) = G56 at S s0 hd ht ⊢
    refine ⟨(by show 5 ≤ sizeLine; decide), fun q57 w57 => ?_⟩
    have sn := same_new (o := .tup [.int 1, .non, .non, .non, .bl false]) w57
    have he : upd G56 q57 (.tup [.int 1, .non, .non, .non, .bl false]) q57 = some (.tup [.int 1, .non, .non, .non, .bl false]) := upd_same
    replace ht := sn _ _ ht
    replace hd := sn _ _ hd
    replace s0 := s0.trans sn
    replace S := S.skipS sn
    clear sn
    generalize upd G56 q57 (.tup [.int 1, .non, .non, .non, .bl false]) = G57 at S s0 he ht hd ⊢
    refine ⟨(by show 2 ≤ sizeLine; decide), fun q58 w58 => ?_⟩
    have sn := same_new (o := .tup [.ref q56, .ref q57]) w58
    have h58 : upd G57 q58 (.tup [.ref q56, .ref q57]) q58 = some (.tup [.ref q56, .ref q57]) := upd_same
    replace ht := sn _ _ ht
    replace hd := sn _ _ hd
    replace he := sn _ _ he
    replace s0 := s0.trans sn
    replace S := S.skipS sn
    clear sn
    generalize upd G57 q58 (.tup [.ref q56, .ref q57]) = G58 at S s0 h58 ht hd he ⊢
    replace S := S.thing (two_int (r1 := (0, some 1, none, none, false)) (r2 := (1, none, none, none, false)) hd he h58 (fun _ => by decide +kernel))
    clear hd he
    refine ⟨(by show 1 ≤ sizeLine; decide), fun q59 w59 => ?_⟩
    have sn := same_new (o := .lst [.ref q58]) w59
    have h59 : upd G58 q59 (.lst [.ref q58]) q59 = some (.lst [.ref q58]) := upd_same
    replace ht := sn _ _ ht
    replace s0 := s0.trans sn
    replace S := S.skipS sn
    clear sn
    generalize upd G58 q59 (.lst [.ref q58]) = G59 at S s0 h59 ht ⊢
    have pnew : ∀ x ∈ ([.ref q58] : List V), SpV G59 x false := fun x hx => by
      simp only [List.mem_cons, List.not_mem_nil, or_false] at hx
      rcases hx with rfl
      all_goals first | exact .inl ⟨.non, rfl⟩ | exact .inl ⟨.bl _, rfl⟩ | exact .inl ⟨.int _, rfl⟩ | exact .inl ⟨.str _, rfl⟩ | exact S.v _ (by simp)
    have ly : (([.ref q58] : List V) : List V).length ≤ 1 := Nat.le_refl _
    refine ⟨q55, q59, _, _, rfl, rfl, ht, h59, (Nat.le_trans (Nat.add_le_add lt ly) (by decide)), fun q60 w60 => ?_⟩
    have scat := same_new (o := .lst (xt ++ ([.ref q58] : List V))) w60
    have h60 : upd G59 q60 (.lst (xt ++ ([.ref q58] : List V))) q60 = some (.lst (xt ++ ([.ref q58] : List V))) := upd_same
    replace ht := scat _ _ ht
    replace s0 := s0.trans scat
    replace S := S.skipS scat
    generalize upd G59 q60 (.lst (xt ++ ([.ref q58] : List V))) = G60 at S s0 scat h60 ht ⊢
    have a2 : ∀ x ∈ xt ++ ([.ref q58] : List V), SpV G60 x false := fun x hx => by
      rcases List.mem_append.mp hx with hx | hx
      · exact (pt x hx).kp (Kp.of_same S.s)
      · exact (pnew x hx).kp (Kp.of_same scat)
    have l2 : (xt ++ ([.ref q58] : List V)).length ≤ 38 := by rw [List.length_append]; exact Nat.add_le_add lt ly
    generalize xt ++ ([.ref q58] : List V) = zt at h60 a2 l2
    clear pt lt ht pnew ly scat h59
    have ht := h60
    have pt := a2
    have lt := l2
    clear h60 a2 l2 xt
    have ⟨xt, ext⟩ : ∃ y, y = zt := ⟨_, rfl⟩
    rw [← ext] at ht pt lt
    clear ext
    have S' := S.fresh
    clear S
    have S := S'
    clear S'
    exact q _ xt _ s0 ht (by omega) pt
end

end My
namespace My
open PySem L2
/-! ### the law -/
section
variable {K : PySem.W.Frag} {mg : Str → Option Value} {H H' : Hp}
theorem tb_none (T : Top K mg) (h : Tb T.tbs H) (g : ∀ P, GxR.TabG H P → GxR.TabG H' P) : Tb T.tbs H' := .mk (fun P m => g P (h.g m)) (fun P q m => by simp [Top.tbs] at m)
theorem tb_but2 (T : Top K mg) {b L : Addr} {m : Int} (h : Tb T.tbs H) (p : PotAt H b L m) (k : But2 b L H H') : Tb T.tbs H' := by
  obtain ⟨ns, tot, n, p, _⟩ := p
  refine tb_none T h fun P g => ?_
  obtain ⟨ps, e, t⟩ := g
  refine ⟨ps, k _ _ e (fun z => ?_) (fun z => ?_), t⟩
  · rw [z, p.hb] at e
    cases e
  · rw [z, p.hL] at e
    cases e
theorem tb_lst (T : Top K mg) {c : Addr} {zs : List V} {o : HO} (h : Tb T.tbs H) (hc : H c = some (.lst zs)) : Tb T.tbs (upd H c o) := by
  refine tb_none T h fun P g => ?_
  obtain ⟨ps, e, t⟩ := g
  refine ⟨ps, ?_, t⟩
  rw [upd_ne (fun z => by rw [z, hc] at e; cases e)]
  exact e
theorem PotAt.kp {b L : Addr} {m : Int} (h : PotAt H b L m) (k : Kp H H') : PotAt H' b L m := by
  obtain ⟨ns, tot, n, p, hn⟩ := h
  exact ⟨ns, tot, n, ⟨k _ _ p.hb (by intro ps z; cases z), k _ _ p.hL (by intro ps z; cases z), p.ne⟩, hn⟩
theorem nil_shape {a : Addr} (h : H a = some (.tup [])) : SpV H (.ref a) true := .inr ⟨a, [], [], rfl, Nat.zero_le _, h, .nil, .inr ⟨[], [], rfl, .nil, .inr ⟨rfl, true, .inr (.inl ⟨rfl, rfl⟩), .inr ⟨rfl, .inl ⟨a, [], [], rfl, h, .nil, Nat.zero_le _, by decide +kernel⟩⟩⟩⟩⟩
theorem int_shape {a p : Addr} {n : Int} (hp : H p = some (.tup [.int n, .non, .non, .non, .bl true])) (h : H a = some (.tup [.ref p])) (e : linkR [(n, none, none, none, true)] = some true) : SpV H (.ref a) true := by
  have hp' : H p = some (.tup (rowVI (n, none, none, none, true))) := hp
  exact .inr ⟨a, _, _, rfl, (Nat.le_of_ble_eq_true rfl), h, .cons (rowVI_sh hp') .nil, .inr ⟨[.int n], [false], rfl, .cons hp' (.int _) (mk_nt (.int _)) .nil, .inr ⟨rfl, true, .inl ⟨_, rfl, rfl⟩, .inr ⟨rfl, .inl ⟨a, _, [(n, none, none, none, true)], rfl, h, .cons hp' .nil, (Nat.le_of_ble_eq_true rfl), e⟩⟩⟩⟩⟩
theorem mark_shape {a p m : Addr} {k : List Key} (hm : H m = some (.tup (k.map kV))) (mm : MkV H (.ref m) true) (lay : PyData.canLayAll0 (k.map keyD) = true) (hp : H p = some (.tup [.ref m, .non, .non, .non, .bl true])) (h : H a = some (.tup [.ref p])) : SpV H (.ref a) true := by
  have sh : ShV H (.ref p) true := .inl ⟨p, _, _, rfl, (Nat.le_of_ble_eq_true rfl), hp, .cons (.tup hm) mm (.cons .non (mk_nt .non) (.cons .non (mk_nt .non) (.cons .non (mk_nt .non) (.cons (.bl true) (mk_nt (.bl true)) .nil)))), rfl⟩
  exact .inr ⟨a, _, _, rfl, (Nat.le_of_ble_eq_true rfl), h, .cons sh .nil, .inr ⟨_, _, rfl, .cons hp (.tup hm) mm .nil, .inr ⟨rfl, true, .inl ⟨_, rfl, rfl⟩, .inr ⟨rfl, .inr ⟨a, p, m, k, none, true, rfl, h, hp, hm, lay, rfl⟩⟩⟩⟩⟩
def overV : List V := [.str "over", .int 3, .int 1]
def pointV : List V := [.str "point", .int 7]
end
section
variable {P : Program} {w : World} {K : PySem.W.Frag} {mg : Str → Option Value} {base : Heap}
theorem run_law (T : Top K mg) {s : Shared} {H : Hp} {a : Addr} {ns : List Int} (TM : GxR.TabB base mg T.cM T.PM) (TS : GxR.TabB base mg T.cS T.PS) (TR : GxR.TabB base mg T.cR T.PR) (TH : GxR.TabB base mg T.cH T.PH) (TK : GxR.TabB base mg T.cK T.PK) (e0 : Env0 P w K mg base callerA [] s H) (hM : H T.PM = some (.tbl #[])) (hZ : H T.PS = some (.tbl #[])) (hR : H T.PR = some (.tbl #[])) (hH : H T.PH = some (.tbl #[])) (hK : H T.PK = some (.tbl #[])) (hS : SqL K H a (ns.map V.int)) (hlen : ns.length ≤ 63) (room : Room 9 callerA) (bind : ∀ (s : Shared) (u : Value), BindsTo s T.d_law ⟨[u], []⟩ [("_law_script", u)]) :
    codeAny (model P w) callerA (.call (.ref T.a_law) ⟨[.ref a], []⟩) (CR CX0 [] P w H s (fun v _ => v = .bl true) E0) s := by
  have G_Lpot : FnOk P w K mg base CX0 1 _ _ _ _ := ok_pot T
  have G_Ldeep : FnOk P w K mg base CX0 3 _ _ _ _ := ok_deep T
  have G_Lodd : FnOk P w K mg base CX0 1 _ _ _ _ := ok_odd T
  have G_isshape : FnOk P w K mg base CX0 8 _ _ _ _ := ok_shape T TM TS TR TK TH
  have tb0 := tbs0 T hM hZ hR hH hK
  obtain ⟨oc, od, kV', doc, pm, an, cdv, ct, osl, ed, lk, hcd⟩ := T.F_law.ex
  rw [ed] at lk
  refine LamX.run_ofS (k := 8) (N := ["_law_script", "_law_pot_here", "_law_turn", "_law_thing", "_law_odd_here", "_law_names", "_law_name"]) (ps := ["_law_script"]) (us := [.ref a]) (vs := [.ref a]) lk hcd sc_law room e0 (by rw [← ed]; exact bind s _) (.cons rfl .nil) rfl fun hr => ?_
  refine ⟨_, PSs.nox (pss_cons (ps_set (i := 1) sc_law.nd rfl (.inl rfl) (pe_call G_Lpot (hr.mono (by decide)) (by rfl) T.g_Lpot T.F_Lpot.kp T.b_Lpot .nil pass0 (pa_cons (pv 0) pa_nil)))
      (pss_cons (ps_for PassesOwn.never rfl (pi_range1 (by rfl) T.m_range (pa_cons pe_int pa_nil)) (pg_name (i := 2) sc_law.nd rfl (.inl rfl)) (pss_cons (ps_set (i := 3) sc_law.nd rfl (.inl rfl) (pe_call G_Ldeep (hr.mono (by decide)) (by rfl) T.g_Ldeep T.F_Ldeep.kp T.b_Ldeep .nil pass0 (pa_cons (pv 1) pa_nil)))
      (pss_cons (ps_if (PW.pt (pw_and (pt_cmpR (op_neE (u0 hr)) (pv 3) (pe_tup pa_nil) (nomark _)) (pw_and1 (pt_cmpR op_isnot_bl (pe_call G_isshape hr (by rfl) T.g_isshape T.F_isshape.kp T.b_isshape .nil pass0 (pa_cons (pv 3) pa_nil)) pe_bl (nomark _))))) (pss_one (ps_ret pe_bl)) pss_nil)
      (pss_one (ps_for PassesOwn.never rfl (pi_list (pe_call G_Lodd (hr.mono (by decide)) (by rfl) T.g_Lodd T.F_Lodd.kp T.b_Lodd .nil pass0 (pa_cons (pv 3) pa_nil))) (pg_name (i := 4) sc_law.nd rfl (.inl rfl)) (pss_one (ps_if (pt_cmpR op_isnot_bl (pe_call G_isshape hr (by rfl) T.g_isshape T.F_isshape.kp T.b_isshape .nil pass0 (pa_cons (pv 4) pa_nil)) pe_bl (nomark _)) (pss_one (ps_ret pe_bl)) pss_nil)))))))
      (pss_cons (ps_set (i := 5) sc_law.nd rfl (.inl rfl) (pe_lst (pa_cons pe_int (pa_cons (pe_un un_neg pe_int) (pa_cons (pe_tup (pa_cons pe_str (pa_cons pe_int (pa_cons pe_int pa_nil)))) (pa_cons (pe_tup (pa_cons pe_str (pa_cons pe_int pa_nil))) pa_nil))))))
      (pss_one (ps_ret (pe_and (pe_cmpR op_is_bl (pe_call G_isshape hr (by rfl) T.g_isshape T.F_isshape.kp T.b_isshape .nil pass0 (pa_cons (pe_tup pa_nil) pa_nil)) pe_bl (nomark _)) (pe_one (pe_callB (cr_all rfl) (by rfl) T.m_all (by decide +kernel) (pa_cons (pe_lc (own := [("_law_name", 6)]) (g := gName 6) (tt := tYes) (by rfl) sc_law.nd (pi_list (pv 5)) (blkOk_by (own := [("_law_name", 6)]) (N := ["_law_script", "_law_pot_here", "_law_turn", "_law_thing", "_law_odd_here", "_law_names", "_law_name"]) (sc := defScope s_law) (by decide +kernel)) (fun _ _ _ _ _ => (pg_name (i := 6) sc_law.nd rfl (.inl rfl))) (fun _ _ _ _ _ => pts_nil) (fun _ _ _ _ _ => (pe_cmpR op_is_bl (pe_call G_isshape hr (by rfl) T.g_isshape T.F_isshape.kp T.b_isshape .nil pass0 (pa_cons (pe_tup (pa_cons (pe_tup (pa_cons (pv 6) (pa_cons pe_non (pa_cons pe_non (pa_cons pe_non (pa_cons pe_bl pa_nil)))))) pa_nil)) pa_nil)) pe_bl (nomark _)))) pa_nil))))))))), ?_⟩
  refine ⟨_, rfl, a, ns, rfl, hS, fun b L H1 s1 nb nL P1 => ?_⟩
  refine ⟨_, rfl, (by decide), (by decide), ?_⟩
  refine for_range (lo := 0) (n := 3) (fun i σ H2 => ∃ y2 y3 y4 : Option V, σ = [some (.ref a), some (.ref b), y2, y3, y4, none, none] ∧ PotAt H2 b L (30 * (i : Int)) ∧ Tb T.tbs H2) ⟨none, none, none, rfl, P1.le (by omega), tb0.same s1⟩ ?_ ?_
  · rintro i σ H2 hi ⟨y2, y3, y4, rfl, P2, tb2⟩
    refine ⟨_, rfl, b, L, _, rfl, P2, (by omega), (by omega), fun v H3 P3 k3 D3 => ?_⟩
    have tb3 := tb_but2 T tb2 P2 k3
    refine ⟨_, rfl, Nat.zero_le _, fun e ne => ?_⟩
    have se := same_new (o := .tup []) ne
    have he : upd H3 e (.tup []) e = some (.tup []) := upd_same
    generalize upd H3 e (.tup []) = H4 at se he ⊢
    have tb4 := tb3.same se
    have P4 := P3.same se
    have D4 := D3.kpl (.of_kp (Kp.of_same se))
    have kd : (∃ a xs, v = .ref a ∧ H4 a = some (.tup xs) ∧ (xs = [] ∨ SpV H4 v false)) ∨ ((v = .non ∨ (∃ c, v = .bl c) ∨ (∃ i, v = .int i) ∨ (∃ z, v = .str z) ∨ (∃ a xs, v = .ref a ∧ H4 a = some (.lst xs)) ∨ ∃ a kvs, v = .ref a ∧ H4 a = some (.dK kvs)) ∧ SpV H4 v false) := by
      rcases D4.shape with ⟨a', ev, ha'⟩ | sp
      · exact .inl ⟨a', [], ev, ha', .inl rfl⟩
      · cases D4.any with
        | tup h => exact .inl ⟨_, _, rfl, h, .inr sp⟩
        | non => exact .inr ⟨.inl rfl, sp⟩
        | bl c => exact .inr ⟨.inr (.inl ⟨c, rfl⟩), sp⟩
        | int c => exact .inr ⟨.inr (.inr (.inl ⟨c, rfl⟩)), sp⟩
        | str c => exact .inr ⟨.inr (.inr (.inr (.inl ⟨c, rfl⟩))), sp⟩
        | lst h => exact .inr ⟨.inr (.inr (.inr (.inr (.inl ⟨_, _, rfl, h⟩)))), sp⟩
        | dK h => exact .inr ⟨.inr (.inr (.inr (.inr (.inr ⟨_, _, rfl, h⟩)))), sp⟩
    apply cutH (B := fun h => Kp H4 h ∧ Tb T.tbs h)
    · intro rest
      refine ⟨e, rfl, he, ?_⟩
      rcases kd with ⟨a', xs, ev, hx, sp⟩ | ⟨nt, sp⟩
      · refine .inl ⟨a', xs, ev, hx, _, rfl, ite2 (fun ex => ?_) (fun ex => iteF (rest H4 ⟨Kp.refl H4, tb4⟩))⟩
        rcases sp with z | sp
        · rw [z] at ex
          exact nomatch ex
        · exact ⟨_, rfl, v, false, rfl, tb4, sp, fun H5 k5 tb5 => ⟨false, false, rfl, rfl, _, rfl, iteF (rest H5 ⟨k5, tb5⟩)⟩⟩
      · exact .inr ⟨nt, _, rfl, iteT ⟨_, rfl, v, false, rfl, tb4, sp, fun H5 k5 tb5 => ⟨false, false, rfl, rfl, _, rfl, iteF (rest H5 ⟨k5, tb5⟩)⟩⟩⟩
    rintro H5 ⟨k5, tb5⟩
    refine ⟨_, rfl, v, rfl, D4.kpl (.of_kp k5), fun l xs H6 s6 hl len ax => ?_⟩
    have tb6 := tb5.same s6
    have P6 := (P4.kp k5).same s6
    refine ⟨l, rfl, ⟨_, SqL.of hl⟩, for_it (walk_list (xs := xs)) (fun j σ H7 => ∃ z2 z4 : Option V, σ = [some (.ref a), some (.ref b), z2, some v, z4, none, none] ∧ Kp H6 H7 ∧ Tb T.tbs H7) ⟨_, _, rfl, Kp.refl _, tb6⟩ (fun j σ H7 _ z => by obtain ⟨_, _, _, z, _⟩ := z; exact SqL.of (z _ _ hl (by intro ps z; cases z))) ?_ ?_⟩
    · rintro j x σ H7 H8 hj ⟨z2, z4, rfl, k7, tb7⟩ ⟨rfl, hx⟩
      exact ⟨_, rfl, x, false, rfl, tb7, (ax x (List.mem_of_getElem? hx)).kp k7, fun H9 k9 tb9 => ⟨false, false, rfl, rfl, _, rfl, iteF ⟨_, _, rfl, k7.trans k9, tb9⟩⟩⟩
    · rintro σ H7 ⟨z2, z4, rfl, k7, tb7⟩
      refine ⟨_, _, _, rfl, ?_, tb7⟩
      have := P6.kp k7
      have e30 : 30 * (i : Int) + 30 = 30 * ((i + 1 : Nat) : Int) := by omega
      rw [e30] at this
      exact this
  · rintro σ H2 ⟨y2, y3, y4, rfl, P2, tb2⟩
    refine ⟨5, rfl, (by show 3 ≤ sizeLine; decide), fun p1 n1 => ?_⟩
    have s3 := same_new (o := .tup [.str "over", .int 3, .int 1]) n1
    have h3 : upd H2 p1 (.tup [.str "over", .int 3, .int 1]) p1 = some (.tup overV) := upd_same
    generalize upd H2 p1 (.tup [.str "over", .int 3, .int 1]) = H3 at s3 h3 ⊢
    refine ⟨(by show 2 ≤ sizeLine; decide), fun p2 n2 => ?_⟩
    have s4 := same_new (o := .tup [.str "point", .int 7]) n2
    have h4 : upd H3 p2 (.tup [.str "point", .int 7]) p2 = some (.tup pointV) := upd_same
    generalize upd H3 p2 (.tup [.str "point", .int 7]) = H4 at s4 h4 ⊢
    refine ⟨(by show 4 ≤ sizeLine; decide), fun l nl => ?_⟩
    have s5 := same_new (o := .lst [.int 0, .int (-5), .ref p1, .ref p2]) nl
    have h5 : upd H4 l (.lst [.int 0, .int (-5), .ref p1, .ref p2]) l = some (.lst [.int 0, .int (-5), .ref p1, .ref p2]) := upd_same
    generalize upd H4 l (.lst [.int 0, .int (-5), .ref p1, .ref p2]) = H5 at s5 h5 ⊢
    have tb5 := tb2.same (s3.trans (s4.trans s5))
    have f3 := s5 _ _ (s4 _ _ h3)
    have f4 := s5 _ _ h4
    refine ⟨Nat.zero_le _, fun e ne => ?_⟩
    have se := same_new (o := .tup []) ne
    have he : upd H5 e (.tup []) e = some (.tup []) := upd_same
    generalize upd H5 e (.tup []) = H6 at se he ⊢
    refine ⟨_, true, rfl, tb5.same se, nil_shape he, fun H7 k7 tb7 => ⟨true, true, rfl, rfl, _, rfl, iteT ?_⟩⟩
    have kk : Kp H5 H7 := (Kp.of_same se).trans k7
    have g3 := kk.tup f3
    have g4 := kk.tup f4
    have g5 : H7 l = some (.lst [.int 0, .int (-5), .ref p1, .ref p2]) := kk _ _ h5 (by intro ps z; cases z)
    refine ⟨_, rfl, l, rfl, ⟨_, SqL.of g5⟩, fun D nD => ?_⟩
    have nDl : l ≠ D := fun z => by
      rw [← z, g5] at nD
      cases nD
    refine lc_list (xs := [.int 0, .int (-5), .ref p1, .ref p2]) (fun i G => G D = some (.lst ((List.replicate i true).map V.bl)) ∧ G l = some (.lst [.int 0, .int (-5), .ref p1, .ref p2]) ∧ G p1 = some (.tup overV) ∧ G p2 = some (.tup pointV) ∧ Tb T.tbs G) ⟨upd_same, same_new nD _ _ g5, same_new nD _ _ g3, same_new nD _ _ g4, tb7.same (same_new nD)⟩ (fun i G _ z => SqL.of z.2.1) ?_ ?_
    · rintro i x G hx ⟨gD, gl, q1, q2, tG⟩
      have hi : i < 4 := (List.getElem?_eq_some_iff.mp hx).1
      refine ⟨rfl, _, rfl, (by show 5 ≤ sizeLine; decide), fun p np => ?_⟩
      have sp := same_new (o := .tup [x, .non, .non, .non, .bl true]) np
      have hp : upd G p (.tup [x, .non, .non, .non, .bl true]) p = some (.tup [x, .non, .non, .non, .bl true]) := upd_same
      generalize upd G p (.tup [x, .non, .non, .non, .bl true]) = G1 at sp hp ⊢
      refine ⟨(by show 1 ≤ sizeLine; decide), fun p' np' => ?_⟩
      have sp' := same_new (o := .tup [.ref p]) np'
      have hp' : upd G1 p' (.tup [.ref p]) p' = some (.tup [.ref p]) := upd_same
      generalize upd G1 p' (.tup [.ref p]) = G2 at sp' hp' ⊢
      have hp2 := sp' _ _ hp
      have s02 : Same G G2 := sp.trans sp'
      have ok : SpV G2 (.ref p') true := by
        match i, hx with
        | 0, hx =>
          cases Option.some.inj hx
          exact int_shape hp2 hp' (by decide +kernel)
        | 1, hx =>
          cases Option.some.inj hx
          exact int_shape hp2 hp' (by decide +kernel)
        | 2, hx =>
          cases Option.some.inj hx
          have q := s02 _ _ q1
          refine mark_shape (k := [.inr "over", .inl 3, .inl 1]) q (mk_tup q (by decide) (fun x m => ?_) (fun z r e => by cases e; decide +kernel)) (by decide +kernel) hp2 hp'
          rcases List.mem_cons.mp m with rfl | m
          · exact .str _
          · rcases List.mem_cons.mp m with rfl | m
            · exact .int _
            · rw [List.mem_singleton.mp m]
              exact .int _
        | 3, hx =>
          cases Option.some.inj hx
          have q := s02 _ _ q2
          refine mark_shape (k := [.inr "point", .inl 7]) q (mk_tup q (by decide) (fun x m => ?_) (fun z r e => by cases e; decide +kernel)) (by decide +kernel) hp2 hp'
          rcases List.mem_cons.mp m with rfl | m
          · exact .str _
          · rw [List.mem_singleton.mp m]
            exact .int _
        | i + 4, _ => omega
      refine ⟨_, true, rfl, tG.same s02, ok, fun G3 k3 tb3 => ⟨true, true, rfl, rfl, ?_⟩⟩
      have gk : ∀ {c : Addr} {zs : List V}, G c = some (.lst zs) → G3 c = some (.lst zs) := fun h => k3 _ _ (s02 _ _ h) (by intro ps z; cases z)
      have gt : ∀ {c : Addr} {zs : List V}, G c = some (.tup zs) → G3 c = some (.tup zs) := fun h => k3 _ _ (s02 _ _ h) (by intro ps z; cases z)
      have ne1 : ∀ {c : Addr} {zs : List V}, G3 c = some (.tup zs) → c ≠ D := fun h z => by
        rw [z, gk gD] at h
        cases h
      refine ⟨_, gk gD, ?_, ?_, ?_, ?_, ?_, ?_⟩
      · rw [List.length_map, List.length_replicate]
        have : (512 : Nat) ≤ sizeLine := by decide
        omega
      · rw [upd_same, List.replicate_succ', List.map_append]
        rfl
      · rw [upd_ne nDl]
        exact gk gl
      · rw [upd_ne (ne1 (gt q1))]
        exact gt q1
      · rw [upd_ne (ne1 (gt q2))]
        exact gt q2
      · exact tb_lst T tb3 (gk gD)
    · rintro G ⟨gD, gl, q1, q2, tG⟩
      exact ⟨D, _, rfl, SqL.of gD, rfl⟩
end

end My
namespace My
open PySem L2
theorem all_mk {l : PySem.W.OpenLaw} {w : World} {K : PySem.W.Frag} {h : Heap} {mg : Str → Option Value} {fa f0 f1 f2 f3 f4 f5 f6 f7 f8 f9 f10 f11 f12 f13 f14 : Addr} {cM PM : Addr} {eM : Value} {ddM : Option Addr} {vsM : Array Value} {sloM : Array (Option Value)} {cS PS : Addr} {eS : Value} {ddS : Option Addr} {vsS : Array Value} {sloS : Array (Option Value)} {cR PR : Addr} {eR : Value} {ddR : Option Addr} {vsR : Array Value} {sloR : Array (Option Value)} {cH PH : Addr} {eH : Value} {ddH : Option Addr} {vsH : Array Value} {sloH : Array (Option Value)} {cK PK : Addr} {eK : Value} {ddK : Option Addr} {vsK : Array Value} {sloK : Array (Option Value)} (X : K.In h) (G : h.Ns mainGlobals mg) (hfa : mg "law" = some (.ref fa))
    {od0 an0 od1 an1 od2 an2 od3 an3 od4 an4 od5 an5 od6 an6 od7 an7 od8 an8 od9 an9 od10 an10 od11 an11 od12 an12 od13 an13 od14 an14 : Option Addr} {sl0 sl1 sl2 sl3 sl4 sl5 sl6 sl7 sl8 sl9 sl10 sl11 sl12 sl13 sl14 : Array (Option Value)} {oc0 kV0 dc0 pm0 cd0 ct0 oc1 kV1 dc1 pm1 cd1 ct1 oc2 kV2 dc2 pm2 cd2 ct2 oc3 kV3 dc3 pm3 cd3 ct3 oc4 kV4 dc4 pm4 cd4 ct4 oc5 kV5 dc5 pm5 cd5 ct5 oc6 kV6 dc6 pm6 cd6 ct6 oc7 kV7 dc7 pm7 cd7 ct7 oc8 kV8 dc8 pm8 cd8 ct8 oc9 kV9 dc9 pm9 cd9 ct9 oc10 kV10 dc10 pm10 cd10 ct10 oc11 kV11 dc11 pm11 cd11 ct11 oc12 kV12 dc12 pm12 cd12 ct12 oc13 kV13 dc13 pm13 cd13 ct13 oc14 kV14 dc14 pm14 cd14 ct14 : Value}
    (a0 : PySem.W.nsIn K mainGlobals "is_whole" = some (some (.ref f0))) (l0 : K.lookup f0 = some ⟨oc0, od0, .func (PySem.W.fnOf "is_whole" "is_whole" (defArgs s_iswhole) (defBody s_iswhole) (defScope s_iswhole) .none kV0 dc0 pm0 an0 cd0 ct0), sl0⟩) (c0 : PySem.W.codeIn K cd0 "is_whole" = true) (k0 : PySem.W.keepIn K (.ref f0) = true)
    (a1 : PySem.W.nsIn K mainGlobals "is_rising" = some (some (.ref f1))) (l1 : K.lookup f1 = some ⟨oc1, od1, .func (PySem.W.fnOf "is_rising" "is_rising" (defArgs s_isrising) (defBody s_isrising) (defScope s_isrising) .none kV1 dc1 pm1 an1 cd1 ct1), sl1⟩) (c1 : PySem.W.codeIn K cd1 "is_rising" = true) (k1 : PySem.W.keepIn K (.ref f1) = true)
    (a2 : PySem.W.nsIn K mainGlobals "is_mark" = some (some (.ref f2))) (l2 : K.lookup f2 = some ⟨oc2, od2, .func (PySem.W.fnOf "is_mark" "is_mark" (defArgs s_ismark) (defBody s_ismark) (defScope s_ismark) .none kV2 dc2 pm2 an2 cd2 ct2), sl2⟩) (c2 : PySem.W.codeIn K cd2 "is_mark" = true) (k2 : PySem.W.keepIn K (.ref f2) = true)
    (a3 : PySem.W.nsIn K mainGlobals "is_name" = some (some (.ref f3))) (l3 : K.lookup f3 = some ⟨oc3, od3, .func (PySem.W.fnOf "is_name" "is_name" (defArgs s_isname) (defBody s_isname) (defScope s_isname) .none kV3 dc3 pm3 an3 cd3 ct3), sl3⟩) (c3 : PySem.W.codeIn K cd3 "is_name" = true) (k3 : PySem.W.keepIn K (.ref f3) = true)
    (a4 : PySem.W.nsIn K mainGlobals "is_shape" = some (some (.ref f4))) (l4 : K.lookup f4 = some ⟨oc4, od4, .func (PySem.W.fnOf "is_shape" "is_shape" (defArgs s_isshape) (defBody s_isshape) (defScope s_isshape) .none kV4 dc4 pm4 an4 cd4 ct4), sl4⟩) (c4 : PySem.W.codeIn K cd4 "is_shape" = true) (k4 : PySem.W.keepIn K (.ref f4) = true)
    (a5 : PySem.W.nsIn K mainGlobals "is_shape_row" = some (some (.ref f5))) (l5 : K.lookup f5 = some ⟨oc5, od5, .func (PySem.W.fnOf "is_shape_row" "is_shape_row" (defArgs s_isshaperow) (defBody s_isshaperow) (defScope s_isshaperow) .none kV5 dc5 pm5 an5 cd5 ct5), sl5⟩) (c5 : PySem.W.codeIn K cd5 "is_shape_row" = true) (k5 : PySem.W.keepIn K (.ref f5) = true)
    (a6 : PySem.W.nsIn K mainGlobals "are_linked" = some (some (.ref f6))) (l6 : K.lookup f6 = some ⟨oc6, od6, .func (PySem.W.fnOf "are_linked" "are_linked" (defArgs s_arelinked) (defBody s_arelinked) (defScope s_arelinked) .none kV6 dc6 pm6 an6 cd6 ct6), sl6⟩) (c6 : PySem.W.codeIn K cd6 "are_linked" = true) (k6 : PySem.W.keepIn K (.ref f6) = true)
    (a7 : PySem.W.nsIn K mainGlobals "is_below" = some (some (.ref f7))) (l7 : K.lookup f7 = some ⟨oc7, od7, .func (PySem.W.fnOf "is_below" "is_below" (defArgs s_isbelow) (defBody s_isbelow) (defScope s_isbelow) .none kV7 dc7 pm7 an7 cd7 ct7), sl7⟩) (c7 : PySem.W.codeIn K cd7 "is_below" = true) (k7 : PySem.W.keepIn K (.ref f7) = true)
    (a8 : PySem.W.nsIn K mainGlobals "has_ring_above" = some (some (.ref f8))) (l8 : K.lookup f8 = some ⟨oc8, od8, .func (PySem.W.fnOf "has_ring_above" "has_ring_above" (defArgs s_hasringabove) (defBody s_hasringabove) (defScope s_hasringabove) .none kV8 dc8 pm8 an8 cd8 ct8), sl8⟩) (c8 : PySem.W.codeIn K cd8 "has_ring_above" = true) (k8 : PySem.W.keepIn K (.ref f8) = true)
    (a9 : PySem.W.nsIn K mainGlobals "_law_mixed" = some (some (.ref f9))) (l9 : K.lookup f9 = some ⟨oc9, od9, .func (PySem.W.fnOf "_law_mixed" "_law_mixed" (defArgs s_Lmixed) (defBody s_Lmixed) (defScope s_Lmixed) .none kV9 dc9 pm9 an9 cd9 ct9), sl9⟩) (c9 : PySem.W.codeIn K cd9 "_law_mixed" = true) (k9 : PySem.W.keepIn K (.ref f9) = true)
    (a10 : PySem.W.nsIn K mainGlobals "_law_pot" = some (some (.ref f10))) (l10 : K.lookup f10 = some ⟨oc10, od10, .func (PySem.W.fnOf "_law_pot" "_law_pot" (defArgs s_Lpot) (defBody s_Lpot) (defScope s_Lpot) .none kV10 dc10 pm10 an10 cd10 ct10), sl10⟩) (c10 : PySem.W.codeIn K cd10 "_law_pot" = true) (k10 : PySem.W.keepIn K (.ref f10) = true)
    (a11 : PySem.W.nsIn K mainGlobals "_law_take" = some (some (.ref f11))) (l11 : K.lookup f11 = some ⟨oc11, od11, .func (PySem.W.fnOf "_law_take" "_law_take" (defArgs s_Ltake) (defBody s_Ltake) (defScope s_Ltake) .none kV11 dc11 pm11 an11 cd11 ct11), sl11⟩) (c11 : PySem.W.codeIn K cd11 "_law_take" = true) (k11 : PySem.W.keepIn K (.ref f11) = true)
    (a12 : PySem.W.nsIn K mainGlobals "_law_deep" = some (some (.ref f12))) (l12 : K.lookup f12 = some ⟨oc12, od12, .func (PySem.W.fnOf "_law_deep" "_law_deep" (defArgs s_Ldeep) (defBody s_Ldeep) (defScope s_Ldeep) .none kV12 dc12 pm12 an12 cd12 ct12), sl12⟩) (c12 : PySem.W.codeIn K cd12 "_law_deep" = true) (k12 : PySem.W.keepIn K (.ref f12) = true)
    (a13 : PySem.W.nsIn K mainGlobals "_law_odd" = some (some (.ref f13))) (l13 : K.lookup f13 = some ⟨oc13, od13, .func (PySem.W.fnOf "_law_odd" "_law_odd" (defArgs s_Lodd) (defBody s_Lodd) (defScope s_Lodd) .none kV13 dc13 pm13 an13 cd13 ct13), sl13⟩) (c13 : PySem.W.codeIn K cd13 "_law_odd" = true) (k13 : PySem.W.keepIn K (.ref f13) = true)
    (a14 : PySem.W.nsIn K mainGlobals "law" = some (some (.ref f14))) (l14 : K.lookup f14 = some ⟨oc14, od14, .func (PySem.W.fnOf "law" "law" (defArgs s_law) (defBody s_law) (defScope s_law) .none kV14 dc14 pm14 an14 cd14 ct14), sl14⟩) (c14 : PySem.W.codeIn K cd14 "law" = true) (k14 : PySem.W.keepIn K (.ref f14) = true)
    (z0 : PySem.W.nsIn K mainGlobals "abs" = some none)
    (z1 : PySem.W.nsIn K mainGlobals "all" = some none)
    (z2 : PySem.W.nsIn K mainGlobals "bool" = some none)
    (z3 : PySem.W.nsIn K mainGlobals "enumerate" = some none)
    (z4 : PySem.W.nsIn K mainGlobals "int" = some none)
    (z5 : PySem.W.nsIn K mainGlobals "isinstance" = some none)
    (z6 : PySem.W.nsIn K mainGlobals "len" = some none)
    (z7 : PySem.W.nsIn K mainGlobals "range" = some none)
    (z8 : PySem.W.nsIn K mainGlobals "str" = some none)
    (z9 : PySem.W.nsIn K mainGlobals "tuple" = some none)
    (z10 : PySem.W.nsIn K mainGlobals "zip" = some none)
    (hcM : cd2 = .ref cM)
    (lcM : K.lookup cM = some ⟨eM, ddM, .fields vsM, sloM⟩)
    (v11M : vsM[11]? = some (.ref PM))
    (nPM : K.lookup PM = none)
    (hdM : PySem.W.codeHdIn K cM PM = true)
    (hcS : cd5 = .ref cS)
    (lcS : K.lookup cS = some ⟨eS, ddS, .fields vsS, sloS⟩)
    (v11S : vsS[11]? = some (.ref PS))
    (nPS : K.lookup PS = none)
    (hdS : PySem.W.codeHdIn K cS PS = true)
    (hcR : cd1 = .ref cR)
    (lcR : K.lookup cR = some ⟨eR, ddR, .fields vsR, sloR⟩)
    (v11R : vsR[11]? = some (.ref PR))
    (nPR : K.lookup PR = none)
    (hdR : PySem.W.codeHdIn K cR PR = true)
    (hcH : cd4 = .ref cH)
    (lcH : K.lookup cH = some ⟨eH, ddH, .fields vsH, sloH⟩)
    (v11H : vsH[11]? = some (.ref PH))
    (nPH : K.lookup PH = none)
    (hdH : PySem.W.codeHdIn K cH PH = true)
    (hcK : cd6 = .ref cK)
    (lcK : K.lookup cK = some ⟨eK, ddK, .fields vsK, sloK⟩)
    (v11K : vsK[11]? = some (.ref PK))
    (nPK : K.lookup PK = none)
    (hdK : PySem.W.codeHdIn K cK PK = true)
    (hneP : ([PM, PS, PR, PH, PK] : List Addr).Nodup)
    (tabs : ∀ nm ∈ (["is_mark", "is_shape_row", "is_rising", "is_shape", "are_linked"] : List Str), TabAt mg h nm) : ∃ cs : List (Addr × Addr), (∀ p ∈ cs, h.get? p.2 = some { cls := .none, data := .fields #[] }) ∧ (∀ p ∈ cs, K.lookup p.2 = none) ∧ (∀ p ∈ cs, PySem.W.CodeHd h p.1 p.2) ∧
      ∀ (s : Shared) (H : Hp) (base : Heap) (a : Addr) (ns : List Int), ns.length ≤ 63 → (∀ z ∈ ns, Builtin.Int.intBits z ≤ 1048576) → (∀ p ∈ cs, LamX.TabB base mg p.1 p.2) → Env0 l.prog w K mg base callerA [] s H → (∀ p ∈ cs, H p.2 = some (.tbl #[])) → SqL K H a (ns.map V.int) →
        codeAny (model l.prog w) callerA (.call (.ref fa) ⟨[.ref a], []⟩) (CR CX0 [] l.prog w H s (fun v _ => v = .bl true) E0) s := by
  have e := hfa.symm.trans (PySem.W.mg_of X G a14)
  cases e
  have F0 := fun_mk (st := s_iswhole) l0 c0 k0
  have b0 := F0.binds (ps := ["thing"]) fun _ _ _ _ _ _ us hl => match us, hl with | [_], _ => rfl
  have F1 := fun_mk (st := s_isrising) l1 c1 k1
  have b1 := F1.binds (ps := ["row"]) fun _ _ _ _ _ _ us hl => match us, hl with | [_], _ => rfl
  have F2 := fun_mk (st := s_ismark) l2 c2 k2
  have b2 := F2.binds (ps := ["thing"]) fun _ _ _ _ _ _ us hl => match us, hl with | [_], _ => rfl
  have F3 := fun_mk (st := s_isname) l3 c3 k3
  have b3 := F3.binds (ps := ["thing"]) fun _ _ _ _ _ _ us hl => match us, hl with | [_], _ => rfl
  have F4 := fun_mk (st := s_isshape) l4 c4 k4
  have b4 := F4.binds (ps := ["thing"]) fun _ _ _ _ _ _ us hl => match us, hl with | [_], _ => rfl
  have F5 := fun_mk (st := s_isshaperow) l5 c5 k5
  have b5 := F5.binds (ps := ["thing"]) fun _ _ _ _ _ _ us hl => match us, hl with | [_], _ => rfl
  have F6 := fun_mk (st := s_arelinked) l6 c6 k6
  have b6 := F6.binds (ps := ["rows"]) fun _ _ _ _ _ _ us hl => match us, hl with | [_], _ => rfl
  have F7 := fun_mk (st := s_isbelow) l7 c7 k7
  have b7 := F7.binds (ps := ["above", "child", "name"]) fun _ _ _ _ _ _ us hl => match us, hl with | [_, _, _], _ => rfl
  have F8 := fun_mk (st := s_hasringabove) l8 c8 k8
  have b8 := F8.binds (ps := ["above"]) fun _ _ _ _ _ _ us hl => match us, hl with | [_], _ => rfl
  have F9 := fun_mk (st := s_Lmixed) l9 c9 k9
  have b9 := F9.binds (ps := ["_law_cell", "_law_k"]) fun _ _ _ _ _ _ us hl => match us, hl with | [_, _], _ => rfl
  have F10 := fun_mk (st := s_Lpot) l10 c10 k10
  have b10 := F10.binds (ps := ["_law_script"]) fun _ _ _ _ _ _ us hl => match us, hl with | [_], _ => rfl
  have F11 := fun_mk (st := s_Ltake) l11 c11 k11
  have b11 := F11.binds (ps := ["_law_pot_here", "_law_many"]) fun _ _ _ _ _ _ us hl => match us, hl with | [_, _], _ => rfl
  have F12 := fun_mk (st := s_Ldeep) l12 c12 k12
  have b12 := F12.binds (ps := ["_law_pot_here"]) fun _ _ _ _ _ _ us hl => match us, hl with | [_], _ => rfl
  have F13 := fun_mk (st := s_Lodd) l13 c13 k13
  have b13 := F13.binds (ps := ["_law_thing"]) fun _ _ _ _ _ _ us hl => match us, hl with | [_], _ => rfl
  have F14 := fun_mk (st := s_law) l14 c14 k14
  have b14 := F14.binds (ps := ["_law_script"]) fun _ _ _ _ _ _ us hl => match us, hl with | [_], _ => rfl
  let T : Top K mg := ⟨_, _, F0, b0, PySem.W.mg_of X G a0, _, _, F1, b1, PySem.W.mg_of X G a1, _, _, F2, b2, PySem.W.mg_of X G a2, _, _, F3, b3, PySem.W.mg_of X G a3, _, _, F4, b4, PySem.W.mg_of X G a4, _, _, F5, b5, PySem.W.mg_of X G a5, _, _, F6, b6, PySem.W.mg_of X G a6, _, _, F7, b7, PySem.W.mg_of X G a7, _, _, F8, b8, PySem.W.mg_of X G a8, _, _, F9, b9, PySem.W.mg_of X G a9, _, _, F10, b10, PySem.W.mg_of X G a10, _, _, F11, b11, PySem.W.mg_of X G a11, _, _, F12, b12, PySem.W.mg_of X G a12, _, _, F13, b13, PySem.W.mg_of X G a13, _, _, F14, b14, PySem.W.mg_of X G a14, PySem.W.mg_none_of X G z0, PySem.W.mg_none_of X G z1, PySem.W.mg_none_of X G z2, PySem.W.mg_none_of X G z3, PySem.W.mg_none_of X G z4, PySem.W.mg_none_of X G z5, PySem.W.mg_none_of X G z6, PySem.W.mg_none_of X G z7, PySem.W.mg_none_of X G z8, PySem.W.mg_none_of X G z9, PySem.W.mg_none_of X G z10, cM, PM, hcM, cS, PS, hcS, cR, PR, hcR, cH, PH, hcH, cK, PK, hcK, hneP⟩
  refine ⟨[(cM, PM), (cS, PS), (cR, PR), (cH, PH), (cK, PK)], ?_, ?_, ?_, fun s H base a ns hlen hbits tb e0 th sq => ?_⟩
  · intro p hp
    rcases mem5 hp with rfl | rfl | rfl | rfl | rfl
    · exact tab_empty (tabs _ List.mem_cons_self) X (PySem.W.mg_of X G a2) l2 rfl hcM lcM v11M
    · exact tab_empty (tabs _ (List.mem_cons_of_mem _ List.mem_cons_self)) X (PySem.W.mg_of X G a5) l5 rfl hcS lcS v11S
    · exact tab_empty (tabs _ (List.mem_cons_of_mem _ (List.mem_cons_of_mem _ List.mem_cons_self))) X (PySem.W.mg_of X G a1) l1 rfl hcR lcR v11R
    · exact tab_empty (tabs _ (List.mem_cons_of_mem _ (List.mem_cons_of_mem _ (List.mem_cons_of_mem _ List.mem_cons_self)))) X (PySem.W.mg_of X G a4) l4 rfl hcH lcH v11H
    · exact tab_empty (tabs _ (List.mem_cons_of_mem _ (List.mem_cons_of_mem _ (List.mem_cons_of_mem _ (List.mem_cons_of_mem _ List.mem_cons_self))))) X (PySem.W.mg_of X G a6) l6 rfl hcK lcK v11K
  · intro p hp
    rcases mem5 hp with rfl | rfl | rfl | rfl | rfl
    · exact nPM
    · exact nPS
    · exact nPR
    · exact nPH
    · exact nPK
  · intro p hp
    rcases mem5 hp with rfl | rfl | rfl | rfl | rfl
    · exact PySem.W.codeHd_of_K X hdM
    · exact PySem.W.codeHd_of_K X hdS
    · exact PySem.W.codeHd_of_K X hdR
    · exact PySem.W.codeHd_of_K X hdH
    · exact PySem.W.codeHd_of_K X hdK
  · exact run_law T ⟨(tb _ List.mem_cons_self).code, (tb _ List.mem_cons_self).bm, (tb _ List.mem_cons_self).gP⟩ ⟨(tb _ (List.mem_cons_of_mem _ List.mem_cons_self)).code, (tb _ (List.mem_cons_of_mem _ List.mem_cons_self)).bm, (tb _ (List.mem_cons_of_mem _ List.mem_cons_self)).gP⟩ ⟨(tb _ (List.mem_cons_of_mem _ (List.mem_cons_of_mem _ List.mem_cons_self))).code, (tb _ (List.mem_cons_of_mem _ (List.mem_cons_of_mem _ List.mem_cons_self))).bm, (tb _ (List.mem_cons_of_mem _ (List.mem_cons_of_mem _ List.mem_cons_self))).gP⟩ ⟨(tb _ (List.mem_cons_of_mem _ (List.mem_cons_of_mem _ (List.mem_cons_of_mem _ List.mem_cons_self)))).code, (tb _ (List.mem_cons_of_mem _ (List.mem_cons_of_mem _ (List.mem_cons_of_mem _ List.mem_cons_self)))).bm, (tb _ (List.mem_cons_of_mem _ (List.mem_cons_of_mem _ (List.mem_cons_of_mem _ List.mem_cons_self)))).gP⟩ ⟨(tb _ (List.mem_cons_of_mem _ (List.mem_cons_of_mem _ (List.mem_cons_of_mem _ (List.mem_cons_of_mem _ List.mem_cons_self))))).code, (tb _ (List.mem_cons_of_mem _ (List.mem_cons_of_mem _ (List.mem_cons_of_mem _ (List.mem_cons_of_mem _ List.mem_cons_self))))).bm, (tb _ (List.mem_cons_of_mem _ (List.mem_cons_of_mem _ (List.mem_cons_of_mem _ (List.mem_cons_of_mem _ List.mem_cons_self))))).gP⟩ e0 (th _ List.mem_cons_self) (th _ (List.mem_cons_of_mem _ List.mem_cons_self)) (th _ (List.mem_cons_of_mem _ (List.mem_cons_of_mem _ List.mem_cons_self))) (th _ (List.mem_cons_of_mem _ (List.mem_cons_of_mem _ (List.mem_cons_of_mem _ List.mem_cons_self)))) (th _ (List.mem_cons_of_mem _ (List.mem_cons_of_mem _ (List.mem_cons_of_mem _ (List.mem_cons_of_mem _ List.mem_cons_self))))) sq hlen ⟨rfl, by decide, by decide⟩ (fun s u => .of_eq rfl)
end My
open PySem PySem.W PyProof.Rows
set_option maxRecDepth 100000 in
set_option maxHeartbeats 0 in
theorem PySem.Challenge.cw_tiedcut_k24_shapes_of_anything_holds : PySem.Challenge.rw_tiedcut_k24_shapes_of_anything.Holds := by
  w_on; o_law; k_head; (case hw => w_witness2)
  k_fill
  refine My.walk_law0 (l := PySem.Challenge.rw_tiedcut_k24_shapes_of_anything) (most := 63) ["is_mark", "is_shape_row", "is_rising", "is_shape", "are_linked"] rfl (by decide) rfl (by decide +kernel) (fun w h Y => by first | exact PySem.W.kIn_of Y | exact PySem.W.km_in_of Y) ?F
  case F =>
    intro w mg fa h KX G hmg tabs
    refine' My.all_mk KX G hmg ?a0 ?l0 ?c0 ?k0 ?a1 ?l1 ?c1 ?k1 ?a2 ?l2 ?c2 ?k2 ?a3 ?l3 ?c3 ?k3 ?a4 ?l4 ?c4 ?k4 ?a5 ?l5 ?c5 ?k5 ?a6 ?l6 ?c6 ?k6 ?a7 ?l7 ?c7 ?k7 ?a8 ?l8 ?c8 ?k8 ?a9 ?l9 ?c9 ?k9 ?a10 ?l10 ?c10 ?k10 ?a11 ?l11 ?c11 ?k11 ?a12 ?l12 ?c12 ?k12 ?a13 ?l13 ?c13 ?k13 ?a14 ?l14 ?c14 ?k14 ?z0 ?z1 ?z2 ?z3 ?z4 ?z5 ?z6 ?z7 ?z8 ?z9 ?z10 ?hcM ?lcM ?v11M ?nPM ?hdM ?hcS ?lcS ?v11S ?nPS ?hdS ?hcR ?lcR ?v11R ?nPR ?hdR ?hcH ?lcH ?v11H ?nPH ?hdH ?hcK ?lcK ?v11K ?nPK ?hdK ?hneP tabs
    (case a0 => k_is)
    (case l0 => k_is)
    (case c0 => k_is)
    (case k0 => k_is)
    (case a1 => k_is)
    (case l1 => k_is)
    (case c1 => k_is)
    (case k1 => k_is)
    (case a2 => k_is)
    (case l2 => k_is)
    (case c2 => k_is)
    (case k2 => k_is)
    (case a3 => k_is)
    (case l3 => k_is)
    (case c3 => k_is)
    (case k3 => k_is)
    (case a4 => k_is)
    (case l4 => k_is)
    (case c4 => k_is)
    (case k4 => k_is)
    (case a5 => k_is)
    (case l5 => k_is)
    (case c5 => k_is)
    (case k5 => k_is)
    (case a6 => k_is)
    (case l6 => k_is)
    (case c6 => k_is)
    (case k6 => k_is)
    (case a7 => k_is)
    (case l7 => k_is)
    (case c7 => k_is)
    (case k7 => k_is)
    (case a8 => k_is)
    (case l8 => k_is)
    (case c8 => k_is)
    (case k8 => k_is)
    (case a9 => k_is)
    (case l9 => k_is)
    (case c9 => k_is)
    (case k9 => k_is)
    (case a10 => k_is)
    (case l10 => k_is)
    (case c10 => k_is)
    (case k10 => k_is)
    (case a11 => k_is)
    (case l11 => k_is)
    (case c11 => k_is)
    (case k11 => k_is)
    (case a12 => k_is)
    (case l12 => k_is)
    (case c12 => k_is)
    (case k12 => k_is)
    (case a13 => k_is)
    (case l13 => k_is)
    (case c13 => k_is)
    (case k13 => k_is)
    (case a14 => k_is)
    (case l14 => k_is)
    (case c14 => k_is)
    (case k14 => k_is)
    (case z0 => k_is)
    (case z1 => k_is)
    (case z2 => k_is)
    (case z3 => k_is)
    (case z4 => k_is)
    (case z5 => k_is)
    (case z6 => k_is)
    (case z7 => k_is)
    (case z8 => k_is)
    (case z9 => k_is)
    (case z10 => k_is)
    (case hcM => rfl)
    (case lcM => k_is)
    (case v11M => rfl)
    (case nPM => kernel_rfl)
    (case hdM => kernel_rfl)
    (case hcS => rfl)
    (case lcS => k_is)
    (case v11S => rfl)
    (case nPS => kernel_rfl)
    (case hdS => kernel_rfl)
    (case hcR => rfl)
    (case lcR => k_is)
    (case v11R => rfl)
    (case nPR => kernel_rfl)
    (case hdR => kernel_rfl)
    (case hcH => rfl)
    (case lcH => k_is)
    (case v11H => rfl)
    (case nPH => kernel_rfl)
    (case hdH => kernel_rfl)
    (case hcK => rfl)
    (case lcK => k_is)
    (case v11K => rfl)
    (case nPK => kernel_rfl)
    (case hdK => kernel_rfl)
    (case hneP => decide +kernel)
