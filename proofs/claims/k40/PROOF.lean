import PyProof.Rows.All
import Wide.All
import OpenK.AllK
import Wide.FinOn
import HandS.ForMost
import HandS.More
import HandS.Sort
import HandS.Wide
import HandS.WideBits
import HandS.IsInst
import HandS.EndBits
import HandS.Exc
import HandS.ExcOwn
import HandS.ExcValue
import HandS.ExcInit
import HandS.ExcField
import HandS.WordsExc
import KE.KExcIs
import HandS.HotCalls
import HandS.TupLe
import HandS.TupAny
import HandS.Zip
import HandS.Walk
import HandS.Star
import HandS.Style
import HandS.CallLocal
import HandS.Deep
import HandS.AnyAll
import HandS.GenOver
import HandS.EndTab
import HandS.Lambda
import PyProof.TupleOfGen
import PyProof.GenCompD
import PyProof.EqLayable
import HandS.SortInts
import HandS.RaiseMore
import HandS.SetFor
import HandS.Strs
import HandS.SortRule
import HandS.TryOnly
import HandS.Set
import HandS.Flow
import HandS.TupLen
import KE.KDictPairs
import KE.DataFind
import KE.GoesMore
import HandS.RevTup
import HandS.Rev
import HandS.Text
import HandS.StrMore
import HandS.Replace
import PyProof.StrLawsAffix
import PyProof.JoinWalk
import HandS.Conv
import HandS.Iter
import KE.KUnpackStar
import HandS.DictComp
import HandS.TupSets
import HandS.TupMul
import HandS.SortKw
import KE.DatumOrd
import KE.DataMinKey
import HandS.DictTup
import KE.KDictCopyH
import KE.KDictWalk
import PyProof.AutoSeq1
import PyProof.ReprRoads
import PyProof.ReprLen
import KE.SortData
import PyProof.DictMoreH
import HandS.Small
import HandS.Defaults
import PySem.Challenge.RW_tiedcut_k40_things_that_are_no_steps
set_option Elab.async false
set_option linter.all false
set_option maxRecDepth 100000
set_option maxHeartbeats 4000000
namespace My
open PySem PySem.Spec PyProof.Rows L2
/-! ### a generator expression, consumed by all: its own frame -/
def gcx (X : Cx) (s : Shared) (H : Hp) (ge : Env) (fp : List Addr) (Ag : Around) : Cx :=
  { X with A := Ag, s_0 := s, H_0 := H, env := ge, outer := X.stack, stack := ge :: X.stack, ex := fp, fn := fun _ => false, pn := [], xe := fun _ _ => False }
section
variable {X : Cx} {pins : List (Addr × Obj)} {σ : L2.St} {H : Hp} {s : Shared}
theorem clo_in {scope : Scope} {own : List (Str × Nat)} (I : Inv X pins σ H s) (ok : BlkOk X.N X.env.scope scope own) {y : Str} {c : Addr} (hm : (y, c) ∈ cloFrom X.env.cells scope.names []) : X.env.cells.lookup y = some c ∧ c < s.heap.objs.size ∧ (y, NameKind.free) ∈ scope.names := by
  rcases cloFrom_mem hm with z | ⟨h1, rfl⟩
  · cases z
  · have hc : ∃ c, X.env.cells.lookup y = some c := by
      rcases ok.free _ h1 rfl with k | k
      · exact I.ok.has _ (.inl k)
      · exact I.ok.has _ (.inr k)
    obtain ⟨c, hc⟩ := hc
    obtain ⟨v, z⟩ := I.cell _ _ hc
    rw [hc]
    exact ⟨rfl, z.lt, h1⟩
theorem gen_start {scope : Scope} {own : List (Str × Nat)} {fp : List Addr} {ge : Env} {code : Value} {Ag : Around} {s5 : Shared} {m : Str → Option Value} {ga : Addr} {go : Obj} (I : Inv X pins σ H s) (ok : BlkOk X.N X.env.scope scope own) (hN : X.N.Nodup)
    (hfp : ∀ b ∈ fp, FpOk X pins H b ∧ b < s.heap.objs.size) (hge : ge = genEnv scope (cloFrom X.env.cells scope.names []) s.heap.objs.size code builtinsNs X.env) (nocell : ∀ y ∈ scope.names, y.2 ≠ .cell)
    (hA : Ag.handled = none) (hfr : Ag.frames = some (ge :: X.stack)) (k5 : ∀ b o, s.heap.get? b = some o → s5.heap.get? b = some o) (os5 : s5.os = s.os) (bare5 : AllBare s5.gens)
    (ns5 : s5.heap.Ns s.heap.objs.size m) (hga : s5.heap.get? ga = some go) (hgt : s.heap.objs.size < ga) (hgd : ∀ v, go.data ≠ .cell v) :
    Inv (gcx X s H ge fp Ag) [(ga, go)] (wipe σ (own.map (·.2))) H s5 := by
  have hL : ge.locals = s.heap.objs.size := by
    rw [hge]
    rfl
  have hC : ge.cells = cloFrom X.env.cells scope.names [] := by
    rw [hge]
    rfl
  have hS : ge.scope = scope := by
    rw [hge]
    rfl
  have inC : ∀ {y c}, ge.cells.lookup y = some c → X.env.cells.lookup y = some c ∧ c < s.heap.objs.size := fun {y c} e => by
    rw [hC] at e
    have z := clo_in I ok (PySem.mem_of_lookup e)
    exact ⟨z.1, z.2.1⟩
  have look : ∀ {y}, scope.names.lookup y = some .free → ∃ c, ge.cells.lookup y = some c ∧ X.env.cells.lookup y = some c := fun {y} hl => by
    have hm := cloFrom_has (cells := X.env.cells) (acc := []) (PySem.mem_of_lookup hl)
    obtain ⟨c, e⟩ := mem_lookup hm
    rw [← hC] at e
    exact ⟨c, e, (inC e).1⟩
  have kindF : ∀ {y k}, scope.names.lookup y = some k → (k = .cell ∨ k = .free) → scope.names.lookup y = some .free := fun {y k} e hk => by
    rcases hk with rfl | rfl
    · exact absurd rfl (nocell _ (PySem.mem_of_lookup e))
    · exact e
  have okG : (gcx X s H ge fp Ag).Ok := by
    refine ⟨I.ok.mod, ?_, ?_, ?_, ?_, ?_, ?_, ?_, fun _ => hA, hfr, .inr ⟨rfl, ?_⟩, ?_, I.bs, Nat.le_trans I.ok.bsz I.sz, ?_, ?_, I.stack, I.stkFree⟩
    · show ge.scope.kind = .function
      rw [hS]
      exact ok.kind
    · show ge.globals = mainGlobals
      rw [hge]
      exact I.ok.glob
    · show ge.builtins = builtinsNs
      rw [hge]
      rfl
    · show s.heap.objs.size ≤ ge.locals
      rw [hL]
      exact Nat.le_refl _
    · intro y z c e1 e2
      exact I.ok.inj y z c (inC e1).1 (inC e2).1
    · intro y hy
      have e : scope.names.lookup y = some .free := by
        rcases hy with hy | hy
        · have hy2 : ge.scope.names.lookup y = some .cell := hy
          rw [hS] at hy2
          exact kindF hy2 (.inl rfl)
        · have hy2 : ge.scope.names.lookup y = some .free := hy
          rw [hS] at hy2
          exact hy2
      obtain ⟨c, e1, _⟩ := look e
      exact ⟨c, e1⟩
    · intro y c z
      cases z
    · show ge.frame = some ge.locals
      rw [hge]
      rfl
    · intro b hb
      refine ⟨?_, fun y c e z => ?_⟩
      · show b ≠ ge.locals
        rw [hL]
        exact Nat.ne_of_lt (hfp b hb).2
      · exact (hfp b hb).1.2.2.2.2.1 y c (inC e).1 z
    · intro b o e hb
      rcases (hfp b hb).1.2.2.2.1 with z | z
      · exact I.ok.noex b o e z
      · exact absurd (Nat.lt_of_lt_of_le (Heap.lt_size e) (Nat.le_trans I.ok.bsz z)) (Nat.lt_irrefl _)
    · intro b hb z
      rcases List.mem_cons.mp (I.stkSub b z) with z | z
      · exact (hfp b hb).1.2.1 z
      · exact (hfp b hb).1.2.2.1 z
  have frL : H s.heap.objs.size = none := I.hok.fresh (Nat.le_refl _)
  refine ⟨okG, os5, bare5, Un.kept k5, ⟨m, ?_, fun i y av e1 e2 e3 => ?_⟩, fun y c e => ?_, ?_, fun y c e => I.freeC y c (inC e).1, fun p hp => ?_, I.hok.kept k5, by rw [wipe_length]; exact I.len⟩
  · show s5.heap.Ns ge.locals m
    rw [hL]
    exact ns5
  · obtain ⟨e2, hne⟩ := wipe_some e2
    have e3 : Vis ge.scope y := e3
    rw [hS] at e3
    have nol : scope.names.lookup y ≠ some .local := fun z => by
      rcases ok.own _ (PySem.mem_of_lookup z) (.inl rfl) with q | q
      · obtain ⟨p, hp, hpy⟩ := List.mem_map.mp q
        have e5 := ok.ix p hp
        have e6 : p.1 = y := hpy
        rw [e6] at e5
        exact hne (List.mem_map.mpr ⟨p, hp, nodup_ix hN e5 e1⟩)
      · exact q (List.mem_of_getElem? e1)
    have hf : scope.names.lookup y = some .free := by
      rcases e3 with z | z | z
      · exact absurd z nol
      · exact kindF z (.inl rfl)
      · exact z
    obtain ⟨m0, hn, hl⟩ := I.loc
    have hvis : Vis X.env.scope y := (ok.free _ (PySem.mem_of_lookup hf) rfl).elim (fun k => .inr (.inl k)) (fun k => .inr (.inr k))
    obtain ⟨u, r, q⟩ := hl i y av e1 e2 hvis
    obtain ⟨c, g1, g2⟩ := look hf
    refine ⟨u, r, .inr ⟨.inr ?_, c, g1, ?_⟩⟩
    · show ge.scope.names.lookup y = some .free
      rw [hS]
      exact hf
    · rcases q with ⟨k, _⟩ | ⟨_, c', e', z⟩
      · have k : X.env.scope.names.lookup y = some .local := k
        rcases ok.free _ (PySem.mem_of_lookup hf) rfl with k' | k'
        · have k2 : X.env.scope.names.lookup y = some .cell := k'
          rw [k2] at k
          cases k
        · have k2 : X.env.scope.names.lookup y = some .free := k'
          rw [k2] at k
          cases k
      · rw [g2] at e'
        cases e'
        exact z.keeps k5
  · obtain ⟨v, z⟩ := I.cell y c (inC e).1
    exact ⟨v, z.keeps k5⟩
  · show H ge.locals = none
    rw [hL]
    exact frL
  · have hp2 : p ∈ ([] : List (Addr × Obj)) ++ [(ga, go)] := hp
    rw [List.nil_append] at hp2
    rcases List.mem_cons.mp hp2 with e | e
    · subst e
      refine ⟨hga, I.hok.fresh (Nat.le_of_lt hgt), ?_, fun z => ?_, hgd⟩
      · show ga ≠ ge.locals
        rw [hL]
        exact Nat.ne_of_gt hgt
      · have z2 : ga ∈ frs X.stack := z
        obtain ⟨_, o, ho, _⟩ := I.stack.mem z2
        exact absurd (Nat.lt_trans (Heap.lt_size ho) hgt) (Nat.lt_irrefl _)
    · cases e
end
section
variable {X : Cx} {pins : List (Addr × Obj)} {σ : L2.St} {H : Hp} {s : Shared}
/-- the generator's object -/
def genO (X : Cx) (s4 : Shared) : Obj := { cls := .type "generator", data := .fields #[.int s4.gens.size 0, .str "<genexpr>" (s4.toks + 1), .str (X.env.qual ++ "<genexpr>") (s4.toks + 1 + 1)] }
/-- the generator is made: its source has come, the def's table may have grown -/
theorem gen_make {c P : Addr} {elt tg iter : Expr} {gpos : Pos} {scope : Scope} {own : List (Str × Nat)} {wi : TI} {k : Nat} {Q' : Value → Shared → Prop} {R : It → Hp → Prop} (hr : Room k X.A) (TB : GxR.TabB X.base X.mg c P) (hcode : X.env.code = .ref c)
    (ok : BlkOk X.N X.env.scope scope own) (hco : scope.isCoroutine = false) (nocell : ∀ y ∈ scope.names, y.2 ≠ .cell) (hdot : scope.names.lookup (".0" : Str) = some NameKind.local) (hi : PI X tg iter wi) (hs : ∀ v, genFold iter X.env v = pure v)
    (I : Inv X pins σ H s) (h : wi σ H fun J H1 => GxR.TabG H1 P ∧ R J H1)
    (hQ : ∀ (it : Addr) (fp : List Addr) (tn : Nat → Heap → Prop) (J : It) (H1 H2 : Hp) (code : Value) (s4 : Shared) (h5 : Heap), Inv X pins σ H2 s4 → GxR.Tabbed P H1 H2 → Turn X.prog X.w X.K tg J fp it tn → tn 0 s4.heap →
      (∀ b ∈ fp, FpOk X pins H2 b ∧ b < s4.heap.objs.size) → R J H1 → h5.Ns s4.heap.objs.size (fun y => if y = ".0" then some (.ref it) else none) → Heap.SameBut s4.heap.objs.size (s4.heap.push { cls := .type "frame", data := .dict #[] }) h5 →
      Q' (.ref h5.objs.size) { s4 with gens := s4.gens.push (.fresh (.compStart (.GeneratorExp elt [⟨tg, iter, [], 0⟩] scope gpos) 0 (.ref it) .none (genEnv scope (cloFrom X.env.cells scope.names []) s4.heap.objs.size code builtinsNs X.env))), toks := s4.toks + 1 + 1 + 1, heap := h5.push (genO X s4) }) :
    wpAny (model X.prog X.w) X.A (eval (.GeneratorExp elt [⟨tg, iter, [], 0⟩] scope gpos) X.env) Q' X.xe s := by
  have hfree : ∀ y ∈ scope.names, y.2 = .free → ∃ c, X.env.cells.lookup y.1 = some c := fun y hy e => by
    rcases ok.free y hy e with z | z
    · exact I.ok.has _ (.inl z)
    · exact I.ok.has _ (.inr z)
  refine wpAny_GeneratorExp_make hco (closure_ok hfree) nocell hdot ok.kind (by have := hr.dp; omega) ?_ hs
  refine thn (hi.run pins s σ H _ I h) fun xv s1 hx => thn hx fun itv s2 h2 => ?_
  obtain ⟨it, fp, tn, J, H1, rfl, I1, T, st, f1, ⟨ps, hP, ht⟩, q1⟩ := h2
  have hPs : s2.heap.get? P = some { cls := .none, data := .fields ps } := I1.hok P _ hP
  have cd : PySem.W.CodeHd s2.heap c P := TB.code.keeps fun b u e => I1.bk b u e
  have nP : ∀ b, H1 b = none → b ≠ P := fun b e z => by
    rw [z, hP] at e
    cases e
  have fsz : ∀ b ∈ fp, b < s2.heap.objs.size := fun b hb => by
    obtain ⟨o, e, _⟩ := T.obj _ _ st b hb
    exact Heap.lt_size e
  have cont : ∀ (code : Value) (h3 : Heap) (tk : Nat) (ps' : Array Value), Heap.ExtBut P s2.heap h3 → s2.heap.objs.size ≤ h3.objs.size → h3.get? P = some { cls := .none, data := .fields ps' } → (∃ more, ps' = ps ++ more) → TriplesOk ps'.toList →
      wpAny (model X.prog X.w) X.A (builtinsFor X.env.globals X.env.builtins) (fun bi s4 => ∀ h5, h5.Ns s4.heap.objs.size (fun y => if y = ".0" then some (.ref it) else none) → Heap.SameBut s4.heap.objs.size (s4.heap.push { cls := .type "frame", data := .dict #[] }) h5 →
        Q' (.ref h5.objs.size) { s4 with gens := s4.gens.push (.fresh (.compStart (.GeneratorExp elt [⟨tg, iter, [], 0⟩] scope gpos) 0 (.ref it) .none (genEnv scope (cloFrom X.env.cells scope.names []) s4.heap.objs.size code bi X.env))), toks := s4.toks + 1 + 1 + 1, heap := h5.push (genO X s4) }) X.xe { s2 with heap := h3, toks := tk } := by
    intro code h3 tk ps' hx hsz hP3 hmore ht3
    obtain ⟨bm, ob, e1, e2, e3, e4, e5, e6, e7, e8⟩ := TB.bm
    have keep3 : ∀ b u, b ≠ P → s2.heap.get? b = some u → h3.get? b = some u := fun b u hb e => hx b u hb e
    refine wpAny_builtinsFor (m := X.mg) (by rw [I1.ok.glob]; exact (I1.mod.glob.keeps I1.bk).extBut hx TB.gP) e1 e2 (keep3 _ _ e4 (I1.bk _ _ e5)) e6 e7 e8 ?_
    intro h5 n5 b5
    obtain ⟨more, em⟩ := hmore
    have J0 := GxR.inv_tab (more := more) (h' := h3) (g' := s2.gens) (d' := s2.drawn) (t' := tk) I1 hP keep3 (by rw [← em]; exact hP3) I1.bare
    refine hQ it fp tn J H1 (upd H1 P (.tbl (ps ++ more))) code { s2 with heap := h3, toks := tk } h5 J0 ⟨⟨ps ++ more, upd_same, by rw [← em]; exact ht3⟩, fun b hb => upd_ne hb⟩ T ?_ ?_ q1 n5 b5
    · refine T.keep _ _ _ st fun b hb o e => keep3 b o (nP b (f1 b hb).1) e
    · intro b hb
      refine ⟨⟨?_, (f1 b hb).2⟩, Nat.lt_of_lt_of_le (fsz b hb) hsz⟩
      rw [upd_ne (nP b (f1 b hb).1)]
      exact (f1 b hb).1
  refine ⟨I1.nolimit, ?_⟩
  cases hf : codeAmong gpos ps.toList with
  | none =>
    refine wpAny_genexprCodeX hcode (cd.code hPs ht) (cd.tab hPs) hf fun c' h' tk hx hge hlt hco' _ htab' _ => ?_
    obtain ⟨o1, vs, f1', tf, fl, tg', inF, tx, tt, op, _, _, _, _, _, _, _, _, _, htr, _⟩ := hco'
    exact cont _ h' tk _ hx (Nat.le_trans hge (Nat.le_of_lt hlt)) htab'.2 ⟨_, rfl⟩ htr
  | some cv =>
    refine wpAny_genexprCode_hit hcode (cd.code hPs ht) hf ?_
    exact cont cv s2.heap s2.toks ps (Heap.ExtBut.refl _ _) (Nat.le_refl _) hPs ⟨#[], by simp⟩ ht
end
/-- nothing but the table of generators has changed -/
structure Woke (s s2 : Shared) : Prop where
  hp : s2.heap = s.heap
  os : s2.os = s.os
  br : AllBare s2.gens
theorem inv_woke {X : Cx} {pins : List (Addr × Obj)} {σ : L2.St} {H : Hp} {s s2 : Shared} (I : Inv X pins σ H s) (k : Woke s s2) : Inv X pins σ H s2 := by
  obtain ⟨h2, g2, d2, t2, o2⟩ := s2
  obtain ⟨h1, g1, d1, t1, o1⟩ := s
  obtain ⟨e1, e2, br⟩ := k
  dsimp only at e1 e2
  subst e1 e2
  exact ⟨I.ok, I.os, br, I.base, I.loc, I.cell, I.free, I.freeC, I.pin, I.hok, I.len⟩
/-- what a generator expression under all is asked -/
def gTurns (J : It) (g : TG) (te : TE) (σw : L2.St) (vs : List Nat) (W : Nat → Nat → Hp → Prop) (Q : Bool → Hp → Prop) : Prop :=
  ∀ i m H, W i m H → (J.stop i H ∧ Q true H) ∨ (J.go i H ∧ ∀ x H', J.yld i H x H' → g x σw H' fun σ2 H2 => wipe σ2 vs = σw ∧ te σ2 H2 fun y H3 => ∃ b, y = .bl b ∧ if b = true then ∃ m', m' < m ∧ W (i + 1) m' H3 else Q false H3)
def gFin (G : Cx) (pn : Addr × Obj) (σw : L2.St) (Q : Bool → Hp → Prop) (b : Bool) (s : Shared) : Prop := ∃ H', Inv G [pn] σw H' s ∧ Q b H'
def gY (G : Cx) (pn : Addr × Obj) (σw : L2.St) (Q : Bool → Hp → Prop) : Protocol := fun _ _ v s kap =>
  ∃ b : Bool, v = .bool b ∧ (∃ H', Inv G [pn] σw H' s) ∧ (b = true → ∀ s2, Woke s s2 → kap (.send .none) s2) ∧ (b = false → gFin G pn σw Q false s)
section
variable {G : Cx} {pn : Addr × Obj} {σw : L2.St} {Q : Bool → Hp → Prop} {A2 : Around} {elt tg iter : Expr} {scope : Scope} {gpos : Pos} {it : Addr} {fp : List Addr} {tn : Nat → Heap → Prop} {J : It} {g : TG} {te : TE} {vs : List Nat} {W : Nat → Nat → Hp → Prop}
theorem gen_loop (hA : G.A = A2.over (.compLoop (.GeneratorExp elt [⟨tg, iter, [], 0⟩] scope gpos) 0 (.ref it) .none G.env) []) (hc : G.calm = true) (hex : G.ex = fp) (hpn : G.pn = []) (hxe : G.xe = fun _ _ => False) (hco : G.env.scope.isCoroutine = false)
    (T : Turn G.prog G.w G.K tg J fp it tn) (hgp : ∀ b ∈ fp, pn.1 ≠ b) (pg : PG G tg g) (pe : PE G elt te) (hsw : ∀ σ2 : L2.St, wipe σ2 vs = σw → σ2.length = σw.length ∧ ∀ (i : Nat) v, σw[i]? = some (some v) → σ2[i]? = some (some v)) (turn : gTurns J g te σw vs W Q) :
    ∀ (m n i : Nat) (s₀ s : Shared), m < n → (∃ H', Inv G [pn] σw H' s ∧ tn i s.heap ∧ (∀ b ∈ fp, H' b = none) ∧ W i m H') →
      Seg (model G.prog G.w) A2 (fun _ _ r s1 => r = .ok .next ∧ gFin G pn σw Q true s1) (gY G pn σw Q) n s₀ (.compLoop (.GeneratorExp elt [⟨tg, iter, [], 0⟩] scope gpos) 0 (.ref it) .none G.env)
        ((model G.prog G.w).den (.compLoop (.GeneratorExp elt [⟨tg, iter, [], 0⟩] scope gpos) 0 (.ref it) .none G.env)) [] s := by
  have stat : ∀ {σ' : L2.St} {H' : Hp} {s' : Shared}, Inv G [pn] σ' H' s' → (∀ b ∈ fp, H' b = none) → ∀ b ∈ fp, FpOk G [pn] H' b := fun {σ' H' s'} I' hn b hb => by
    have hb2 : b ∈ G.ex := by
      rw [hex]
      exact hb
    refine ⟨hn b hb, (I'.ok.exf b hb2).1, I'.ok.exfs b hb2, .inl hb2, fun x c e => (I'.ok.exf b hb2).2 x c e, fun p hp => ?_⟩
    rw [hpn] at hp
    have hp2 : p ∈ [pn] := hp
    rw [List.mem_singleton.mp hp2]
    exact hgp b hb
  intro m
  induction m using Nat.strongRecOn with
  | ind m ih =>
    rintro n i s₀ s hmn ⟨H', I, st, nf, w⟩
    obtain ⟨n, rfl⟩ : ∃ n', n = n' + 1 := ⟨n - 1, by omega⟩
    show Seg _ A2 _ _ _ s₀ _ ((compTurn (.GeneratorExp elt [⟨tg, iter, [], 0⟩] scope gpos) 0 (.ref it) .none G.env).onRaise (leaving G.env)) [] s
    rw [compTurn_gen, Sem.onRaise_eq_wrap]
    refine seg_bind_wrap (wpAny_standAt ?_)
    rcases turn i m H' w with ⟨stop, qq⟩ | ⟨gox, step⟩
    · have td := T.done G rfl rfl rfl hc i [pn] s σw H' (fun _ _ => False) I (stat I nf) st stop
      rw [hA] at td
      refine seg_bind_wrap (thnF td fun r s6 z => ?_)
      obtain ⟨hr, I6⟩ := z
      subst hr
      exact seg_end (.ok .next) ⟨rfl, H', I6, qq⟩
    · have ti := T.item G rfl rfl rfl hc i [pn] s σw H' (fun _ _ => False) I (stat I nf) st gox
      rw [hA] at ti
      refine seg_bind_wrap (thnF ti fun r s6 z => ?_)
      obtain ⟨u, hr, h6⟩ := z
      subst hr
      refine seg_bind_wrap (thnF h6 fun _ s7 z => ?_)
      obtain ⟨x, H7, I7, r7, y7, st7, n7⟩ := z
      have I7' := I7.pinned (stat I7 n7) (T.obj _ _ st7)
      have pr := pg.run _ s7 _ H7 x u _ I7' r7 (step x H7 y7)
      rw [hA, hxe] at pr
      refine seg_bind_wrap (thnF pr fun _ s8 z => ?_)
      obtain ⟨σ8, H8, I8, hw8, q8⟩ := z
      have hy : ∀ v, yieldOut G.env v = yieldValue v := fun v => by simp only [yieldOut, hco, Bool.false_eq_true, if_false]
      simp only [List.forIn_nil, hy]
      refine seg_bind_wrap (wpAny_pure ?_)
      simp only [if_true]
      rw [Sem.bind_eq_wrap', Sem.bind_eq_wrap', Sem.wrap_wrap, Sem.wrap_wrap]
      have er := pe.run _ s8 σ8 H8 _ I8 q8
      rw [hA, hxe] at er
      refine seg_wrap (thnF er fun z s10 zz => ?_)
      obtain ⟨yv, H10, I10, r10, b, rfl, nx⟩ := zz
      cases r10
      have pin' : ∀ b ∈ fp, ∀ o, s7.heap.get? b = some o → s10.heap.get? b = some o ∧ H10 b = none := fun b hb o e =>
        let z := I10.pin (b, o) (List.mem_append_right _ (List.mem_append_right _ (mem_pinsAt hb e)))
        ⟨z.1, z.2.1⟩
      obtain ⟨hl8, hk8⟩ := hsw σ8 hw8
      have J10 : Inv G [pn] σw H10 s10 := (I10.unpinned (pins := [pn])).weak hl8.symm hk8
      refine seg_at (seg_yield rfl rfl rfl ⟨b, rfl, ⟨H10, J10⟩, fun hb s2 wk => ?_, fun hb => ?_⟩)
      · subst hb
        rw [if_pos rfl] at nx
        obtain ⟨m', hm', w'⟩ := nx
        refine seg_again rfl (ih m' hm' n (i + 1) s2 s2 (by omega) ⟨H10, inv_woke J10 wk, ?_, fun b hb => ?_, w'⟩)
        · rw [wk.hp]
          exact T.keep _ _ _ st7 fun b hb o e => (pin' b hb o e).1
        · obtain ⟨o, e, _⟩ := T.obj _ _ st7 b hb
          exact (pin' b hb o e).2
      · subst hb
        exact ⟨H10, J10, nx⟩
end
section
variable {M : Model} {A2 : Around} {R : GenEnd} {Y : Protocol} {n : Nat} {s₀ s : Shared} {elt tg iter : Expr} {scope : Scope} {gpos : Pos} {it : Addr} {ge : Env}
/-- the first turn -/
theorem gen_first {P : Program} {w : World} (hself : ∀ (Q : Value → Shared → Prop) (E : Value → Shared → Prop), Q (.ref it) s → wpAny (model P w) (A2.over (.compStart (.GeneratorExp elt [⟨tg, iter, [], 0⟩] scope gpos) 0 (.ref it) .none ge) []) (pyIter (.ref it)) Q E s)
    (loop : Seg (model P w) A2 R Y n s₀ (.compLoop (.GeneratorExp elt [⟨tg, iter, [], 0⟩] scope gpos) 0 (.ref it) .none ge) ((model P w).den (.compLoop (.GeneratorExp elt [⟨tg, iter, [], 0⟩] scope gpos) 0 (.ref it) .none ge)) [] s) :
    Seg (model P w) A2 R Y n s₀ (.compStart (.GeneratorExp elt [⟨tg, iter, [], 0⟩] scope gpos) 0 (.ref it) .none ge) ((model P w).den (.compStart (.GeneratorExp elt [⟨tg, iter, [], 0⟩] scope gpos) 0 (.ref it) .none ge)) [] s := by
  show Seg _ A2 _ _ _ s₀ _ ((compStart (.GeneratorExp elt [⟨tg, iter, [], 0⟩] scope gpos) 0 (.ref it) .none ge).onRaise (leaving ge)) [] s
  unfold compStart
  rw [Sem.onRaise_eq_wrap]
  show Seg _ A2 _ _ _ s₀ _ ((ask >>= _).wrap _ _ _ _) [] s
  refine seg_bind_wrap (wpAny_askSetting ?_)
  split
  · exact seg_again rfl loop
  · first
      | exact seg_bind_wrap (wpAny_rule (seg_bind_wrap (wpAny_standAt (seg_bind_wrap (hself _ _ (seg_again rfl loop))))))
      | (refine seg_bind_wrap (wpAny_rule ?_)
         show Seg _ A2 _ _ _ s₀ _ ((standAt iter.pos >>= _).wrap _ _ _ _) [] s
         exact seg_bind_wrap (wpAny_standAt (seg_bind_wrap (hself _ _ (seg_again rfl loop)))))
end
theorem bare_set {gens : Array GenState} {x : GenState} (h : AllBare gens) (hx : x.bare = true) (i : Nat) : AllBare (gens.setIfInBounds i x) := fun y hy => by
  rw [Array.mem_iff_getElem?] at hy
  obtain ⟨j, hj⟩ := hy
  by_cases e : i = j
  · subst e
    by_cases hi : i < gens.size
    · rw [Array.getElem?_setIfInBounds_self_of_lt hi] at hj
      rw [← Option.some.inj hj]
      exact hx
    · rw [Array.getElem?_eq_none (by simpa using hi)] at hj
      cases hj
  · rw [Array.getElem?_setIfInBounds_ne e] at hj
    exact h y (Array.mem_iff_getElem?.mpr ⟨j, hj⟩)
/-- all over the generator at a, number gi: its turns by the protocol -/
theorem all_gen {G : Cx} {pn : Addr × Obj} {σw : L2.St} {Q : Bool → Hp → Prop} {A : Around} {gi : Nat} {RR : Result → Shared → Prop} (hh : A.handled = none) (hroom : A.depth < recursionLimit) (hgen : ∀ h : Heap, h.get? pn.1 = some pn.2 → h.IsGen pn.1 gi)
    (hR : ∀ b s1, gFin G pn σw Q b s1 → ∀ s2 : Shared, (∀ b o, s1.heap.get? b = some o → s2.heap.get? b = some o) → s2.os = s1.os → AllBare s2.gens → RR (.ok (.ret (.bool b))) s2) :
    ∀ (n : Nat) (s : Shared), (∃ H', Inv G [pn] σw H' s) → gi < s.gens.size → (∃ gs, s.gens[gi]? = some gs ∧ ∀ s2, Woke s s2 → gs.Goes (model G.prog G.w) A.in1.in1 (fun _ _ r s1 => r = .ok .next ∧ gFin G pn σw Q true s1) (gY G pn σw Q) n (.send .none) s2) →
      codeAny (model G.prog G.w) A (.builtin "all.loop" ⟨[.ref pn.1], []⟩) RR s := by
  intro n
  induction n using Nat.strongRecOn with
  | ind n ih =>
    rintro s ⟨H', I⟩ hgi ⟨gs, hgs, hgo⟩
    have hpin := (I.pin pn (List.mem_append_right _ (List.mem_singleton.mpr rfl))).1
    have brun : AllBare (s.setGen gi .running).gens := bare_set I.bare rfl gi
    refine codeAny_builtin F.entry_all_loop ?_
    rw [Around.under_plainId F.plain_all_loop _]
    show wpAny _ A.in1 (pyNext (.ref pn.1) >>= _) _ _ s
    refine wpAny_bind (GenW.wpAny_gsz (n := s.gens.size) (Nat.le_refl _) ?_)
    refine wpAny_pyNext_genexpQ (P := fun _ _ s1 => gFin G pn σw Q true s1) hh I.nolimit hroom (hgen _ hpin) hgs (hgo _ ⟨rfl, rfl, brun⟩) (fun v s₁ gs' hb hv hsz => ?_) (fun s₁ hp h' hk hsz => ?_)
    · obtain ⟨b, rfl, ⟨H1, I1⟩, ht, hf⟩ := hv
      have b1 : AllBare (s₁.setGen gi gs').gens := bare_set I1.bare hb gi
      refine wpAny_bind (wpAny_holding (wpAny_truthy_bool ?_))
      refine wpAny_bind (wpAny_letGo ?_)
      cases b with
      | false =>
        simp only [Bool.false_eq_true, if_false]
        refine wpAny_bind (wpAny_rule (wpAny_pure ?_))
        exact hR false s₁ (hf rfl) (s₁.setGen gi gs') (fun _ _ e => e) rfl b1
      | true =>
        simp only [if_true]
        have hlt : gi < (s₁.setGen gi gs').gens.size := Nat.lt_of_lt_of_le hgi hsz
        have hlt1 : gi < s₁.gens.size := by
          have e := GenW.setGen_size s₁ gi gs'
          omega
        cases n with
        | zero => exact absurd (ht rfl s₁ ⟨rfl, rfl, I1.bare⟩) id
        | succ n =>
          refine wpAny_pure ⟨plainId_quiet F.plain_all_loop _, ih n (Nat.lt_succ_self n) (s₁.setGen gi gs') ⟨H1, inv_woke I1 ⟨rfl, rfl, b1⟩⟩ hlt ⟨gs', ?_, fun s2 wk => ht rfl s2 ⟨wk.hp, wk.os, wk.br⟩⟩⟩
          show (s₁.gens.setIfInBounds gi gs')[gi]? = some gs'
          rw [Array.getElem?_setIfInBounds_self_of_lt hlt1]
    · refine wpAny_bind (wpAny_rule (wpAny_pure ?_))
      obtain ⟨H1, I1, q1⟩ := id hp
      exact hR true s₁ hp { s₁.setGen gi .finished with heap := h' } hk rfl (bare_set I1.bare rfl gi)
def tAllG (P : Addr) (wi : TI) (g : TG) (te : TE) (vs : List Nat) : TE := fun σ H Q => wi σ H fun J H1 => GxR.TabG H1 P ∧ ∀ H2, GxR.Tabbed P H1 H2 → ∃ W : Nat → Nat → Hp → Prop, (∃ m, W 0 m H2) ∧ gTurns J g te (wipe σ vs) vs W (fun b H' => Q (.bl b) H')
theorem pe_allG {X : Cx} {c P : Addr} {elt tg iter : Expr} {p pos gpos : Pos} {scope : Scope} {own : List (Str × Nat)} {wi : TI} {g : TG} {te : TE} {k : Nat} (hr : Room (k + 1) X.A) (hc : X.calm = true) (hN : X.N.Nodup) (hg : Gl X "all") (hm : X.mg "all" = none) (hb : bootBuiltins "all" = some (.builtin "all"))
    (TB : GxR.TabB X.base X.mg c P) (hcode : X.env.code = .ref c) (ok : BlkOk X.N X.env.scope scope own) (hco : scope.isCoroutine = false) (nocell : ∀ y ∈ scope.names, y.2 ≠ .cell) (hdot : scope.names.lookup (".0" : Str) = some NameKind.local) (hi : PI X tg iter wi)
    (hgt : ∀ (s : Shared) (H : Hp) (cl : List (Str × Addr)) (C : Addr) (code : Value) (fp : List Addr) (Ag : Around), PG (gcx X s H (genEnv scope cl C code builtinsNs X.env) fp Ag) tg g)
    (hel : ∀ (s : Shared) (H : Hp) (cl : List (Str × Addr)) (C : Addr) (code : Value) (fp : List Addr) (Ag : Around), Room k Ag → PE (gcx X s H (genEnv scope cl C code builtinsNs X.env) fp Ag) elt te)
    (hs : ∀ v, genFold iter X.env v = pure v := by intro _; rfl)
    (he : starEach [.GeneratorExp elt [⟨tg, iter, [], 0⟩] scope gpos] X.env = (false, eval (.GeneratorExp elt [⟨tg, iter, [], 0⟩] scope gpos) X.env) :: starEach [] X.env := by rfl) :
    PE X (.Call (.Name "all" p) [.GeneratorExp elt [⟨tg, iter, [], 0⟩] scope gpos] [] pos) (tAllG P wi g te (own.map (·.2))) := by
  constructor
  intro pins s σ H Q I h
  refine wpAny_Call_Name_kw (ld_blt I hg hm hb ?_)
  refine PyProof.Rows.callWith_builtin1 ?_ he (by rfl)
  rw [he]
  show wpAny _ _ (spliced ((false, eval (.GeneratorExp elt [⟨tg, iter, [], 0⟩] scope gpos) X.env) :: backTo pos (starEach [] X.env))) _ _ s
  refine Calls.spliced_cons (gen_make (hr.mono (Nat.le_succ k)) TB hcode ok hco nocell hdot hi hs I h fun it fp tn J H1 H2 code s4 h5 I4 tb T st f4 hR n5 b5 => ?_)
  refine Calls.spliced_nil ?_
  obtain ⟨W, ⟨m, w0⟩, turns⟩ := hR H2 tb
  show wpAny _ _ (call (.builtin "all") [.ref h5.objs.size]) _ _ _
  have sz5 : h5.objs.size = s4.heap.objs.size + 1 := by
    rw [b5.1, Heap.size_push]
  generalize hge : genEnv scope (cloFrom X.env.cells scope.names []) s4.heap.objs.size code builtinsNs X.env = ge
  have k5 : ∀ b o, s4.heap.get? b = some o → (h5.push (genO X s4)).get? b = some o := fun b o e =>
    Heap.get?_push_of_some _ (b5.extBut b o (Nat.ne_of_lt (Heap.lt_size e)) (Heap.get?_push_of_some _ e))
  have ga5 : (h5.push (genO X s4)).get? h5.objs.size = some (genO X s4) := Heap.get?_push_size _ rfl
  have hAg : (X.A.in1.in1.over (.compLoop (.GeneratorExp elt [⟨tg, iter, [], 0⟩] scope gpos) 0 (.ref it) .none ge) []).handled = none := hr.hd
  have hFr : (X.A.in1.in1.over (.compLoop (.GeneratorExp elt [⟨tg, iter, [], 0⟩] scope gpos) 0 (.ref it) .none ge) []).frames = some (ge :: X.stack) := by
    show pushEnvs [ge] (pushEnvs [] X.A.frames) = some (ge :: X.stack)
    rw [I4.ok.frames]
    rfl
  have hRm : Room k (X.A.in1.in1.over (.compLoop (.GeneratorExp elt [⟨tg, iter, [], 0⟩] scope gpos) 0 (.ref it) .none ge) []) := by
    have e1 : (X.A.in1.in1.over (.compLoop (.GeneratorExp elt [⟨tg, iter, [], 0⟩] scope gpos) 0 (.ref it) .none ge) []).depth = X.A.depth + 1 := rfl
    have e2 : (X.A.in1.in1.over (.compLoop (.GeneratorExp elt [⟨tg, iter, [], 0⟩] scope gpos) 0 (.ref it) .none ge) []).units = X.A.units + 5 := rfl
    have d1 := hr.dp
    have d2 := hr.un
    exact ⟨hr.hd, by rw [e1]; omega, by rw [e2]; omega⟩
  have I5 := gen_start (s5 := { s4 with gens := s4.gens.push (.fresh (.compStart (.GeneratorExp elt [⟨tg, iter, [], 0⟩] scope gpos) 0 (.ref it) .none ge)), toks := s4.toks + 1 + 1 + 1, heap := h5.push (genO X s4) }) I4 ok hN f4 hge.symm nocell hAg hFr k5 rfl (I4.bare.push rfl) (n5.keeps fun b o e => Heap.get?_push_of_some _ e) ga5 (by omega) (fun v z => by cases z)
  have st5 : tn 0 (h5.push (genO X s4)) := T.keep _ _ _ st fun b _ o e => k5 b o e
  refine call_function_tree F.kind_all F.plain_all F.entry_all (F.args_all1 _) ?_
  unfold Builtin.«all»
  refine wpAny_bind (m := oneArg "all" _) (wpAny_pure ?_)
  have isg : ∀ hh : Heap, hh.get? h5.objs.size = some (genO X s4) → hh.IsGen h5.objs.size s4.gens.size := fun hh e => ⟨_, _, _, e, rfl, rfl, rfl⟩
  refine wpAny_bind (wpAny_pyIter_gen (isg _ ga5) ?_)
  refine wpAny_pure ⟨plainId_quiet F.plain_all_loop _, ?_⟩
  refine all_gen (G := gcx X s4 H2 ge fp (X.A.in1.in1.over (.compLoop (.GeneratorExp elt [⟨tg, iter, [], 0⟩] scope gpos) 0 (.ref it) .none ge) [])) (pn := (h5.objs.size, genO X s4)) (σw := wipe σ (own.map (·.2))) (Q := fun b H' => Q (.bl b) H') (gi := s4.gens.size)
    hr.hd (by have := hr.dp; omega) isg (fun b s1 hf s2 hk ho hbr => ?_) (m + 1) _ ⟨H2, I5⟩ (by show s4.gens.size < (s4.gens.push _).size; rw [Array.size_push]; omega) ⟨.fresh (.compStart (.GeneratorExp elt [⟨tg, iter, [], 0⟩] scope gpos) 0 (.ref it) .none ge), by show (s4.gens.push _)[s4.gens.size]? = some _; rw [Array.getElem?_push_size], fun s2 wk => ⟨rfl, ?_⟩⟩
  · obtain ⟨H', I', q'⟩ := hf
    have un : Un (frs X.stack) fp H2 H' s4.heap s2.heap := Un.trans I'.base (Un.kept hk)
    have J' : Inv X pins σ H' s2 := I4.call' (ch := fp) (ho.trans I'.os) un (I'.hok.kept hk) hbr fun b hb => ⟨(f4 b hb).1.2.2.2.1, (f4 b hb).1.2.1, (f4 b hb).1.2.2.2.2.1, (f4 b hb).1.2.2.2.2.2⟩
    exact ⟨.bl b, H', J', rfl, q'⟩
  · have nfp : ∀ b ∈ fp, H2 b = none := fun b hb => (f4 b hb).1.1
    refine gen_first (fun Q1 E1 q1 => T.self _ 0 s2 Q1 E1 (by rw [wk.hp]; exact st5) q1) ?_
    refine gen_loop (G := gcx X s4 H2 ge fp (X.A.in1.in1.over (.compLoop (.GeneratorExp elt [⟨tg, iter, [], 0⟩] scope gpos) 0 (.ref it) .none ge) [])) (tn := tn) (vs := own.map (·.2)) (W := W) rfl hc rfl rfl rfl ?_ T (fun b hb => ?_) ?_ ?_ ?_ turns m (m + 1) 0 s2 s2 (Nat.lt_succ_self m) ⟨H2, inv_woke I5 wk, by rw [wk.hp]; exact st5, nfp, w0⟩
    · show ge.scope.isCoroutine = false
      rw [← hge]
      exact hco
    · have hb4 : b < s4.heap.objs.size := (f4 b hb).2
      intro z
      have z2 : h5.objs.size = b := z
      rw [← z2, sz5] at hb4
      exact absurd hb4 (Nat.not_lt.mpr (Nat.le_succ _))
    · rw [← hge]
      exact hgt _ _ _ _ _ _ _
    · subst hge
      exact hel _ _ _ _ _ _ _ hRm
    · intro σ2 e2
      refine ⟨?_, fun i v e3 => ?_⟩
      · rw [← wipe_length σ2 (own.map (·.2)), e2]
      · rw [← e2] at e3
        exact (wipe_some e3).1

/-- all over zip of two tuples of one length -/
theorem gturns_zipT {K : PySem.W.Frag} {a b : Addr} {xs ys : List V} {g : TG} {te : TE} {σw : L2.St} {vs : List Nat} {Q : Bool → Hp → Prop} {H : Hp} (hl : xs.length = ys.length) (Pv : Nat → Hp → Prop) (h0 : Pv 0 H) (hq : ∀ i H, Pv i H → SqT K H a xs ∧ SqT K H b ys)
    (hs : ∀ (i : Nat) (x y : V) (T : Addr) (H : Hp) (N : Hp → Prop), xs[i]? = some x → ys[i]? = some y → Pv i H → H T = none → (∀ H3, Pv (i + 1) H3 → N H3) → g (.ref T) σw (upd H T (.tup [x, y])) fun σ2 H2 => wipe σ2 vs = σw ∧ te σ2 H2 fun v H3 => ∃ b, v = .bl b ∧ if b = true then N H3 else Q false H3)
    (hd : ∀ H, Pv xs.length H → Q true H) : ∃ W : Nat → Nat → Hp → Prop, (∃ m, W 0 m H) ∧ gTurns (RZ.ItzT K a b) g te σw vs W Q := by
  refine ⟨fun i m H => m = xs.length - i ∧ i ≤ xs.length ∧ Pv i H, ⟨xs.length, rfl, Nat.zero_le _, h0⟩, fun i m H st => ?_⟩
  obtain ⟨em, le, pv⟩ := st
  have two := hq i H pv
  rcases Nat.lt_or_eq_of_le le with lt | eq
  · refine .inr ⟨⟨xs, ys, xs[i], ys[i], two.1, two.2, List.getElem?_eq_getElem lt, List.getElem?_eq_getElem (hl ▸ lt)⟩, fun v H' y => ?_⟩
    obtain ⟨tp, a1, a2, rfl, free, rfl, w1, w2⟩ := y
    exact hs i a1 a2 tp H _ (w1 xs two.1) (w2 ys two.2) pv free fun H3 p' => ⟨xs.length - (i + 1), by omega, rfl, lt, p'⟩
  · subst eq
    exact .inl ⟨⟨xs, ys, two.1, two.2, Or.inl (Nat.le_refl _)⟩, hd H pv⟩

/-! ### zip of a text and a tuple -/
def ItzS (K : PySem.W.Frag) (x : Str) (b : Addr) : It :=
  ⟨fun i H => ∃ (ys : List V) (c : Nat) (y : V), SqT K H b ys ∧ x.cps[i]? = some c ∧ ys[i]? = some y,
    fun i H v H' => ∃ (T : Addr) (c : Nat) (y : V), v = .ref T ∧ H T = none ∧ H' = upd H T (.tup [.str ⟨#[c]⟩, y]) ∧ x.cps[i]? = some c ∧ ∀ ys, SqT K H b ys → ys[i]? = some y,
    fun i H => ∃ ys : List V, SqT K H b ys ∧ i ≤ x.cps.size ∧ i ≤ ys.length ∧ (i = x.cps.size ∨ i = ys.length)⟩
theorem zip_sep {z TI TO i1 i2 b : Addr} (D : ZipApart z TI TO i1 i2 b b) : ZipSep2 z TI TO i1 i2 [i1] [i2, b] where
  TIz := D.TIz
  TOz := D.TOz
  TITO := D.TITO
  TIi1 := D.TIi1
  mem1 := List.mem_singleton.mpr rfl
  zf1 := fun h => D.i1z (List.mem_singleton.mp h).symm
  Tf1 := fun h => D.TOi1 (List.mem_singleton.mp h)
  TIi2 := D.TIi2
  mem2 := List.mem_cons_self
  zf2 := fun h => by
    rcases List.mem_cons.mp h with e | e
    · exact D.i2z e.symm
    · exact D.l1z (List.mem_singleton.mp e).symm
  Tf2 := fun h => by
    rcases List.mem_cons.mp h with e | e
    · exact D.TOi2 e
    · exact D.l1TO (List.mem_singleton.mp e).symm
  sep1_2 := fun h => by
    rcases List.mem_cons.mp h with e | e
    · exact D.i12 e
    · exact D.l1i1 (List.mem_singleton.mp e).symm
  sep2_1 := fun h => D.i12 (List.mem_singleton.mp h).symm
/-- the five cells of a running zip of the text x and the tuple at b, i turns done -/
structure ZipGo (x : Str) (t : Tok) (z TI TO i1 i2 b : Addr) (i : Nat) (h : Heap) : Prop where
  zp : IsZip h z TI TO .none
  ins : IsPair h TI (.ref i1) (.ref i2)
  out : ∃ p : Value × Value, IsPair h TO p.1 p.2
  txt : h.IsStrIter i1 (strIterType x) x t i
  tup : h.IsTupleIter i2 b i
theorem five {z TI TO i1 i2 c : Addr} {Pr : Addr → Prop} (h : c ∈ [z, TI, TO, i1, i2]) (pz : Pr z) (pI : Pr TI) (pO : Pr TO) (p1 : Pr i1) (p2 : Pr i2) : Pr c := by
  simp only [List.mem_cons, List.not_mem_nil, or_false] at h
  rcases h with rfl | rfl | rfl | rfl | rfl
  all_goals assumption
theorem apart5 {z TI TO i1 i2 c : Addr} (h : c ∉ [z, TI, TO, i1, i2]) : c ≠ z ∧ c ≠ TO ∧ c ≠ i1 ∧ c ≠ i2 := by
  simp only [List.mem_cons, List.not_mem_nil, or_false, not_or] at h
  exact ⟨h.1, h.2.2.1, h.2.2.2.1, h.2.2.2.2⟩
section
variable {x : Str} {t : Tok} {z TI TO i1 i2 b : Addr} {i : Nat} {h h' : Heap}
theorem ZipGo.obj (g : ZipGo x t z TI TO i1 i2 b i h) {c : Addr} (hc : c ∈ [z, TI, TO, i1, i2]) : ∃ o, h.get? c = some o ∧ ∀ v, o.data ≠ .cell v := by
  obtain ⟨p, hp⟩ := g.out
  obtain ⟨oa, ea, _, da⟩ := g.txt
  obtain ⟨ob, eb, _, db⟩ := g.tup
  refine five (Pr := fun c => ∃ o, h.get? c = some o ∧ ∀ v, o.data ≠ .cell v) hc ⟨_, g.zp, ?_⟩ ⟨_, g.ins, ?_⟩ ⟨_, hp, ?_⟩ ⟨oa, ea, ?_⟩ ⟨ob, eb, ?_⟩
  · intro v e; cases e
  · intro v e; cases e
  · intro v e; cases e
  · intro v e; rw [da] at e; cases e
  · intro v e; rw [db] at e; cases e
theorem ZipGo.lt (g : ZipGo x t z TI TO i1 i2 b i h) {c : Addr} (hc : c ∈ [z, TI, TO, i1, i2]) : c < h.objs.size := by
  obtain ⟨o, e, _⟩ := g.obj hc
  exact Heap.lt_size e
theorem ZipGo.on (g : ZipGo x t z TI TO i1 i2 b i h) (k : ∀ c ∈ [z, TI, TO, i1, i2], ∀ o, h.get? c = some o → h'.get? c = some o) : ZipGo x t z TI TO i1 i2 b i h' := by
  obtain ⟨p, hp⟩ := g.out
  obtain ⟨oa, ea, ra⟩ := g.txt
  exact ⟨k z (by simp) _ g.zp, k TI (by simp) _ g.ins, ⟨p, k TO (by simp) _ hp⟩, ⟨oa, k i1 (by simp) _ ea, ra⟩, g.tup.at (k i2 (by simp))⟩
end
theorem turn_zipS {P : Program} {w : World} {K : PySem.W.Frag} {elts : List Expr} {kk : Nat} {tpos : Pos} {x : Str} {t : Tok} {b z TI TO i1 i2 : Addr} (D : ZipApart z TI TO i1 i2 b b) :
    Turn P w K (.Tuple elts kk tpos) (ItzS K x b) [z, TI, TO, i1, i2] z (ZipGo x t z TI TO i1 i2 b) where
  mem := List.mem_cons_self
  obj := fun _ _ g _ hc => g.obj hc
  keep := fun _ _ _ g k => g.on k
  item := by
    intro X eP ew eK calm n pins s σ H E I fps g go
    subst eP ew eK
    obtain ⟨ys, c, y, tys, ec, ey⟩ := go
    obtain ⟨vs, rel, tupAt, _⟩ := I.tuple tys
    obtain ⟨u, eu, ru⟩ := rel.get ey
    obtain ⟨p, hp⟩ := g.out
    have zlt := g.lt (c := z) (by simp)
    have n1 : n < x.cps.size := Nat.lt_of_not_le fun le => by
      rw [Array.getElem?_eq_none le] at ec
      cases ec
    have n2 : n < vs.toArray.size := by simpa using (List.getElem?_eq_some_iff.mp eu).1
    have calmA : X.A.in1.handled = none := I.ok.hd calm
    refine wpAny_pyNext_zipD2_item (zip_sep D) (Draws.text calmA i1 x t) (Draws.tuple calmA i2 b D.l1i2 vs.toArray) g.zp g.ins hp g.txt ⟨g.tup, tupAt⟩ n1 n2 fun v1 v2 h1 tk P1 P2 zp1 out1 txt1 tup1 new1 _ kept1 => ?_
    obtain ⟨c', k, ec', rfl⟩ := P1
    obtain rfl : c = c' := Option.some.inj (ec.symm.trans ec')
    obtain rfl : u = v2 := Option.some.inj (eu.symm.trans (by simpa using P2))
    refine ⟨_, rfl, wpAny_letOwnedTupleGo_zip (s := { s with heap := h1, toks := tk }) zp1 fun h2 zp2 sb => ?_⟩
    have up : ∀ d, d ≠ z → h2.get? d = h1.get? d := fun d nd => sb.2 d nd
    have kept2 : ∀ d o, d ∉ [z, TI, TO, i1, i2] → s.heap.get? d = some o → h2.get? d = some o := fun d o nd e => by
      obtain ⟨a1, a2, a3, a4⟩ := apart5 nd
      rw [up d a1]
      exact kept1 d o a1 a2 a3 a4 e
    have new2 : h2.get? s.heap.objs.size = some { cls := .type "tuple", data := .seq #[.str ⟨#[c]⟩ k, u] } := (up _ (Nat.ne_of_gt zlt)).trans new1
    have I2 := I.turnedNew (t' := tk) (ch := [z, TI, TO, i1, i2]) (ob := .tup [.str ⟨#[c]⟩, y]) kept2 fps (Nat.le_refl _) ⟨show 2 ≤ sizeLine by decide, [.str ⟨#[c]⟩ k, u], .cons ⟨k, rfl⟩ (.cons ru .nil), ⟨_, new2, rfl, _, rfl⟩⟩
    refine ⟨.ref s.heap.objs.size, _, I2, rfl, ⟨_, c, y, rfl, I.hok.fresh (Nat.le_refl _), rfl, ec, fun l tl => (I.tuple_inj tl tys) ▸ ey⟩, ⟨zp2, ?_, ⟨(_, _), (up _ D.TOz).trans out1⟩, ?_, tup1.1.at fun o e => (up _ D.i2z).trans e⟩, fun d hd => ?_⟩
    · exact (up _ D.TIz).trans (kept1 TI _ D.TIz D.TITO D.TIi1 D.TIi2 g.ins)
    · obtain ⟨o, e, r⟩ := txt1
      exact ⟨o, (up _ D.i1z).trans e, r⟩
    · rw [upd_ne (Nat.ne_of_lt (g.lt hd))]
      exact (fps d hd).1
  done := by
    intro X eP ew eK calm n pins s σ H E I fps g stop
    subst eP ew eK
    obtain ⟨ys, tys, le1, le2, last⟩ := stop
    obtain ⟨vs, rel, tupAt, _⟩ := I.tuple tys
    obtain ⟨p, hp⟩ := g.out
    have lv : vs.toArray.size = ys.length := by simpa using rel.length.symm
    have calmA : X.A.in1.handled = none := I.ok.hd calm
    refine wpAny_pyNext_zipD2_end (zip_sep D) (Draws.text calmA i1 x t) (Draws.tuple calmA i2 b D.l1i2 vs.toArray) g.zp g.ins hp g.txt ⟨g.tup, tupAt⟩ le1 (by omega) (by omega) fun h1 tk kept1 => ⟨rfl, ?_⟩
    refine I.turnedL (t' := tk) (ch := [z, TI, TO, i1, i2]) (fun d o nd e => ?_) fps
    obtain ⟨a1, a2, a3, a4⟩ := apart5 nd
    exact kept1 d o a1 a2 a3 a4 e
  self := fun _ _ _ _ _ g q => wpAny_pyIter_zip g.zp q
def iZipS (K : PySem.W.Frag) (ta : TA) : TI := fun σ H R => ta σ H fun vs H1 => ∃ x b ys, vs = [.str x, .ref b] ∧ SqT K H1 b ys ∧ R (ItzS K x b) H1
theorem pi_zipS {X : Cx} {ea eb : Expr} {ta : TA} {p pos tpos : Pos} {elts : List Expr} {kk : Nat} (gl : Gl X "zip") (own : X.mg "zip" = none) (args : PA X [ea, eb] ta)
    (star : starEach [ea, eb] X.env = (false, eval ea X.env) :: starEach [eb] X.env := by rfl) (plain : (backTo pos (starEach [eb] X.env)).any (·.1) = false := by rfl) :
    PI X (.Tuple elts kk tpos) (.Call (.Name "zip" p) [ea, eb] [] pos) (iZipS X.K ta) := by
  constructor
  intro pins s σ H R I q
  refine Call_ (ld_blt I gl own PyProof.Rows.boot_zip (PyProof.Rows.callWith_type1 ?_ star plain))
  refine thn (args.run pos pins s σ H _ I q) fun us s1 ans => ?_
  obtain ⟨vs, H1, J, rel, x, b, ys, rfl, tys, go⟩ := ans
  obtain ⟨u1, u2, rfl, r1, r2⟩ := vals2 rel
  obtain ⟨t, rfl⟩ := r1
  obtain rfl : u2 = Value.ref b := r2
  obtain ⟨its, _, tupAt, _⟩ := J.tuple tys
  have blt : b < s1.heap.objs.size := by
    obtain ⟨_, e, _⟩ := id tupAt
    exact Heap.lt_size e
  have fresh : ∀ c, s1.heap.objs.size ≤ c → FpOk X pins H1 c := fun c le => J.fpOk le (J.hok.fresh le)
  refine zip_begins2 (begins_text x t) (begins_tuple b its.toArray) trivial tupAt fun h2 zp ins out o1 o2 _ kept => wpAny_pyIter_zip zp ?_
  refine ⟨_, [s1.heap.objs.size + 4, s1.heap.objs.size + 2, s1.heap.objs.size + 3, s1.heap.objs.size, s1.heap.objs.size + 1], _, _, H1, rfl, J.kept (t' := s1.toks) kept, turn_zipS (t := t) (PySem.W.ktu_apart s1.heap.objs.size b b blt blt), ?_, fun c hc => ?_, go⟩
  · exact ⟨zp, ins, ⟨(_, _), out⟩, ⟨_, o1, rfl, rfl⟩, ⟨_, o2, rfl, rfl⟩⟩
  · exact five (Pr := FpOk X pins H1) hc (fresh _ (by omega)) (fresh _ (by omega)) (fresh _ (by omega)) (fresh _ (by omega)) (fresh _ (by omega))
/-- a loop over zip of a text and a tuple of one length -/
theorem for_zipS {K : PySem.W.Frag} {x : Str} {b : Addr} {ys : List V} {g : TG} {tb : TS} {D : Ends} {σ : L2.St} {H : Hp} (hl : x.cps.size = ys.length) (Pv : Nat → L2.St → Hp → Prop) (h0 : Pv 0 σ H) (hq : ∀ i σ H, Pv i σ H → SqT K H b ys)
    (hs : ∀ (i c : Nat) (y : V) (T : Addr) (σ : L2.St) (H : Hp), x.cps[i]? = some c → ys[i]? = some y → Pv i σ H → H T = none → g (.ref T) σ (upd H T (.tup [.str ⟨#[c]⟩, y])) fun σ2 H2 => tb { D with nx := Pv (i + 1), ct := Pv (i + 1), bk := D.nx } σ2 H2) (hd : ∀ σ H, Pv ys.length σ H → D.nx σ H) :
    ∃ W : Nat → Nat → L2.St → Hp → Prop, (∃ m, W 0 m σ H) ∧ ∀ i m σ H, W i m σ H →
      ((ItzS K x b).stop i H ∧ D.nx σ H) ∨ ((ItzS K x b).go i H ∧ ∃ N : L2.St → Hp → Prop, (∀ σ' H', N σ' H' → ∃ m', m' < m ∧ W (i + 1) m' σ' H') ∧ ∀ v H', (ItzS K x b).yld i H v H' → g v σ H' fun σ2 H2 => tb { D with nx := N, ct := N, bk := D.nx } σ2 H2) := by
  refine ⟨fun i m σ H => m = ys.length - i ∧ i ≤ ys.length ∧ Pv i σ H, ⟨ys.length, rfl, Nat.zero_le _, h0⟩, fun i m σ H st => ?_⟩
  obtain ⟨em, le, pv⟩ := st
  have tys := hq i σ H pv
  rcases Nat.lt_or_eq_of_le le with lt | eq
  · refine .inr ⟨⟨ys, x.cps[i], ys[i], tys, Array.getElem?_eq_getElem (hl.symm ▸ lt), List.getElem?_eq_getElem lt⟩, Pv (i + 1), fun σ' H' p' => ⟨ys.length - (i + 1), by omega, rfl, lt, p'⟩, fun v H' y => ?_⟩
    obtain ⟨tp, c, a2, rfl, free, rfl, w1, w2⟩ := y
    exact hs i c a2 tp σ H w1 (w2 ys tys) pv free
  · subst eq
    exact .inl ⟨⟨ys, tys, Nat.le_of_eq hl.symm, Nat.le_refl _, .inr rfl⟩, hd σ H pv⟩
/-! ### d.update(e) -/
def tDUpd (td ty : TE) : TE := fun σ H Q => td σ H fun x H1 => ∃ a, x = .ref a ∧ IsD H1 a ∧ ty σ H1 fun y H2 => ∃ b kvs more, y = .ref b ∧ H2 a = some (.dK kvs) ∧ H2 b = some (.dK more) ∧ a ≠ b ∧ kvs.length + more.length ≤ sizeLine ∧ Q .non (upd H2 a (.dK (mergeK kvs more)))
theorem pe_dupd {X : Cx} {o e : Expr} {apos cpos : Pos} {td ty : TE} (ho : PE X o td) (he : PE X e ty) (m : M1 X o "update" apos e cpos) : PE X (.Call (.Attribute o "update" apos) [e] [] cpos) (tDUpd td ty) := by
  refine ⟨fun pins s σ H Q I h => ?_⟩
  refine wpAny_Call_method m.base m.few m.line PySem.F.plainAttrs_dict PySem.F.slot_dict_update PySem.F.type_dict_update (thn (ho.run pins s σ H _ I h) fun u s1 ⟨x, H1, I1, rx, a, ex, d, q1⟩ => ?_)
  subst ex
  obtain rfl : u = Value.ref a := rx
  obtain ⟨t1, t2, _⟩ := isD_at I1 d
  refine ⟨t1, t2, ?_⟩
  rw [m.trees]
  refine Calls.callWith_builtin rfl (Calls.evalArgs_plain (Calls.spliced_cons (thn (he.run pins s1 σ H1 _ I1 q1) fun iv s2 ⟨y, H2, I2, ry, b, kvs, more, ey, ea, eb, ne, hz, q2⟩ => Calls.spliced_nil ?_)))
  subst ey
  obtain rfl : iv = Value.ref b := ry
  obtain ⟨za, hda, vs, ra, dda⟩ := dk_of I2.hok ea
  obtain ⟨zb, hdb, ws, rb, ddb⟩ := dk_of I2.hok eb
  refine call_meetsIn PySem.F.slot_dict_update dda.typeIs PySem.F.entry_dict_update (PySem.F.args_dict_update_2 _ _) (meets_dict_update (mixKind X.prog X.w) a b ne hdb) ⟨vs, ws, dda, ddb, (by rw [← ra.length, ← rb.length]; exact hz), fun h' hmm _ hs => ?_⟩
  have he' : ∃ q, h'.get? a = some q := let ⟨q, _, _, hq, _⟩ := hmm; ⟨q, hq⟩
  exact ⟨.non, _, d_write I2 (by rw [ea]; exact True.intro) hs he' (dk_new (Nat.le_trans (length_mergeK more kvs) hz) hda (rb.merge ra) hmm), rfl, q2⟩
/-! ### list(text), tuple == () -/
def sgs (x : Str) : List V := x.cps.toList.map fun c => V.str ⟨#[c]⟩
theorem vals_at : ∀ {xs : List V} {us : List Value}, xs.length = us.length → (∀ (j : Nat) (v : V) (u : Value), xs[j]? = some v → us[j]? = some u → RelV v u) → Vals xs us
  | [], [], _, _ => .nil
  | [], _ :: _, h, _ => nomatch h
  | _ :: _, [], h, _ => nomatch h
  | v :: xs, u :: us, h, k => .cons (k 0 v u rfl rfl) (vals_at (Nat.succ.inj h) fun j a b ha hb => k (j + 1) a b ha hb)
theorem call_list_txt {X : Cx} (hc : X.calm = true) : CallR X (.type "list") (fun xs H Q => ∃ x : Str, xs = [.str x] ∧ x.cps.size ≤ sizeLine ∧ ∀ l, H l = none → Q (.ref l) (upd H l (.lst (sgs x)))) := by
  intro pins s σ H xs us Q I r h
  obtain ⟨x, rfl, hz, q⟩ := h
  obtain ⟨u, rfl, rx⟩ := vals1 r
  obtain ⟨t, rfl⟩ := rx
  refine call_list_str (I.ok.hd hc) x t (hn := hz) fun h' tk acc' c' hk hS' hacc => ?_
  have hl : (sgs x).length = acc'.toList.length := by
    unfold sgs
    rw [List.length_map, Array.length_toList, Array.length_toList]
    exact hacc.1.symm
  have rv : Vals (sgs x) acc'.toList := vals_at hl fun j v u hv hu => by
    obtain ⟨c, k, hc', rfl⟩ := hacc.2 j u (by simpa using hu)
    unfold sgs at hv
    rw [List.getElem?_map] at hv
    obtain ⟨c2, h2, rfl⟩ := Option.map_eq_some_iff.mp hv
    have z : x.cps.toList[j]? = some c := by simpa using hc'
    rw [z] at h2
    cases h2
    exact ⟨k, rfl⟩
  have hz2 : (sgs x).length ≤ sizeLine := by
    unfold sgs
    rw [List.length_map, Array.length_toList]
    exact hz
  exact ⟨.ref s.heap.objs.size, _, I.laid (t' := tk) hk (Nat.le_refl _) (show ObjOk X.prog X.w _ h' _ (.lst (sgs x)) from ⟨hz2, acc'.toList, c', rv, by simpa using hS'⟩), rfl, q _ (I.hok.fresh (Nat.le_refl _))⟩
def rEq0 (K : PySem.W.Frag) : R2 := fun x y H Q => ∃ a b xs, x = .ref a ∧ y = .ref b ∧ SqT K H a xs ∧ SqT K H b [] ∧ Q (.bl xs.isEmpty) H
theorem op_eq0 {X : Cx} (hu : X.A.units < cLine) : OpR X (compareOp .Eq) (rEq0 X.K) := by
  intro pins s σ H x y v u Q I rx ry h
  obtain ⟨a, b, xs, rfl, rfl, ha, hb, q⟩ := h
  cases rx
  cases ry
  obtain ⟨its, r1, p1, _⟩ := I.tuple ha
  obtain ⟨its2, r2, p2, _⟩ := I.tuple hb
  cases r2
  refine SeqAt.eq_tupleAt (e := fun _ => true) p1 p2 hu (fun j h1 h2 => by simp at h2) ?_
  have e : ((List.range (min its.toArray.size ([] : List Value).toArray.size)).all (fun _ => true) && its.toArray.size == ([] : List Value).toArray.size) = xs.isEmpty := by
    cases r1 with
    | nil => rfl
    | cons _ _ => simp
  rw [e]
  exact ⟨.bl _, H, I, rfl, q⟩

/-! ### the end of a law whose defs make generator expressions -/
/-- the def nm of the top, its code object's table empty -/
def TabAt (mg : Str → Option Value) (h : Heap) (nm : Str) : Prop := ∃ (f : Addr) (o : Obj) (fd : FuncData) (c P : Addr), mg nm = some (.ref f) ∧ h.get? f = some o ∧ o.data = .func fd ∧ fd.code = .ref c ∧ h.TableAt c P #[]
theorem tab_empty {K : PySem.W.Frag} {mg : Str → Option Value} {h : Heap} {nm : Str} {f c P : Addr} {o : Obj} {fd : FuncData} {e : Value} {dd : Option Addr} {vs : Array Value} {sl : Array (Option Value)} (t : TabAt mg h nm) (X : K.In h) (g : mg nm = some (.ref f))
    (lf : K.lookup f = some o) (df : o.data = .func fd) (cf : fd.code = .ref c) (lc : K.lookup c = some ⟨e, dd, .fields vs, sl⟩) (at11 : vs[11]? = some (.ref P)) : h.get? P = some { cls := .none, data := .fields #[] } := by
  obtain ⟨f', o', fd', c', P', m1, m2, m3, m4, ⟨oc, vc, w1, _, w3, w4⟩, tp⟩ := t
  have ef : f = f' := Value.ref.inj (Option.some.inj (g.symm.trans m1))
  subst ef
  have eo : o = o' := Option.some.inj ((X f o lf).symm.trans m2)
  subst eo
  have ed : fd = fd' := Data.func.inj (df.symm.trans m3)
  subst ed
  have ec : c = c' := Value.ref.inj (cf.symm.trans m4)
  subst ec
  have eq : (⟨e, dd, .fields vs, sl⟩ : Obj) = oc := Option.some.inj ((X c _ lc).symm.trans w1)
  subst eq
  have ev : vs = vc := Data.fields.inj w3
  subst ev
  have eP : P = P' := Value.ref.inj (Option.some.inj (at11.symm.trans w4))
  subst eP
  exact tp
theorem walk_tabs {l : PySem.W.OpenLaw} {most lv : Nat} {prog : Program} {lo : List Str} {XP : (Str → Option Value) → Heap → Prop} {YP : World → Heap → Prop} {df : DefRec} {K : Params → PySem.W.Frag} {par : Str} (names : List Str)
    (h1 : l.most = some most) (h2 : most ≤ sizeLine) (h3 : df.params.defaults = []) (room : Room lv callerA) (recs : (names.all fun nm => (recsOf prog).any fun r => r.name == nm) = true) (kin : ∀ (w : World) (h : Heap), YP w h → (K w.params).In h)
    (at_ : ∀ (w : World) (mg : Str → Option Value) (fa : Addr) (h : Heap), (K w.params).In h → h.Ns mainGlobals mg → mg df.name = some (.ref fa) → (∀ nm ∈ names, TabAt mg h nm) → LamX.LawAtS l w (K w.params) CX0 lv most par mg fa h) :
    PySem.W.WalkO prog lo XP YP l.row.toRowW df [] (fun f vs => PySem.call f vs) := by
  refine Att.attach_callB h1 h3 fun w s0 s mg mb fa o pm cd doc a vs ns Gr Y _ _ _ name ob iar len bits gens => ?_
  have tabs : ∀ nm ∈ names, TabAt mg s.heap nm := fun nm hm => by
    obtain ⟨r, hr, er⟩ := List.any_eq_true.mp (List.all_eq_true.mp recs nm hm)
    obtain ⟨x1, x2, x3, x4, x5, y1, y2, y3, y4, _, y6⟩ := Gr.T.tab r hr
    rw [beq_iff_eq.mp er] at y1
    exact ⟨x1, x2, x3, x4, x5, y1, y2, y3, y4, y6⟩
  obtain ⟨fd, cs, sp, t1, t2, t3, bind, asked, ok⟩ := at_ w mg fa _ (kin w _ Y) Gr.T.g name tabs
  exact LamX.law_callTs (kin w _ Y) Gr.T.g Gr.T.b Gr.T.builtins Gr.T.nolimit gens t1 t2 t3 Gr.T.bmain ob iar (Nat.le_trans len h2) room ok bind (fun H hH hS => asked H a ns len bits hH hS) fun _ _ _ z => z

end My
namespace My
open PySem L2
/-! ### a mid-condition behind a statement, an expression, a test -/
def sMid (t : TS) : TS := fun D σ H => ∃ M : L2.St → Hp → Prop, t { D with nx := M } σ H ∧ ∀ σ' H', M σ' H' → D.nx σ' H'
theorem ps_mid {X : Cx} {st : Stmt} {t : TS} (h : PS X st t) : PS X st (sMid t) := by
  refine ⟨fun pins s σ H D I z => ?_⟩
  obtain ⟨M, q, k⟩ := z
  refine thn (h.run pins s σ H { D with nx := M } I q) fun f s1 y => ?_
  cases f with
  | next =>
    obtain ⟨σ', H', I', y⟩ := y
    exact ⟨σ', H', I', k _ _ y⟩
  | ret v => exact y
  | brk => exact y
  | cont => exact y
def tMid (t : TT) : TT := fun σ H Q => ∃ M : Bool → Hp → Prop, t σ H M ∧ ∀ b H', M b H' → Q b H'
theorem pt_mid {X : Cx} {e : Expr} {t : TT} (h : PT X e t) : PT X e (tMid t) := by
  refine ⟨fun pins s σ H Q I z => ?_⟩
  obtain ⟨M, q, k⟩ := z
  exact thn (h.run pins s σ H M I q) fun b s1 ⟨H', I', y⟩ => ⟨H', I', k _ _ y⟩
def eMid (t : TE) : TE := fun σ H Q => ∃ M : V → Hp → Prop, t σ H M ∧ ∀ v H', M v H' → Q v H'
theorem pe_mid {X : Cx} {e : Expr} {t : TE} (h : PE X e t) : PE X e (eMid t) := by
  refine ⟨fun pins s σ H Q I z => ?_⟩
  obtain ⟨M, q, k⟩ := z
  exact thn (h.run pins s σ H M I q) fun u s1 ⟨v, H', I', r, y⟩ => ⟨v, H', I', r, k _ _ y⟩
theorem yes_ite {σ : L2.St} {H : Hp} {A B : Hp → Prop} (h : A H) : tYes σ H (fun b H3 => if b = true then A H3 else B H3) := by
  unfold tYes
  exact (show (if true = true then A H else B H) from iteT h)
/-- xs[i] op= e, the read -/
theorem get_list {X : Cx} : PGet X (rIxL X.K) := by
  intro pins s σ H x y v u Q I rx ry h
  obtain ⟨p, xs, i, z, rfl, rfl, hq, he, q⟩ := h
  cases rx
  obtain ⟨t, rfl⟩ := ry
  obtain ⟨its, r, pl, hz⟩ := I.list hq
  obtain ⟨j, h1, h2, h3, h4, h5⟩ := atI_get he
  obtain ⟨w, ew, rw'⟩ := r.get h2
  have hl := r.length
  have hn := line63
  have fin : EP X pins σ Q w s := ⟨z, H, I, rw', q⟩
  by_cases h0 : 0 ≤ i
  · have hj : i.toNat = j := by
      rw [PySem.seqIndex_of h0 h5] at h1
      exact Option.some.inj h1
    exact PySem.wpAny_getItem_list pl.isList h0 (by omega) (by rw [hj]; simpa using ew) fin
  · have hj : (i + (its.toArray.size : Int)).toNat = j := by
      rw [PySem.seqIndex_neg (by omega) h4] at h1
      rw [List.size_toArray, ← hl]
      exact Option.some.inj h1
    exact PySem.wpAny_getItem_list_neg pl.isList (by omega) (by rw [List.size_toArray] <;> omega) (by omega) (by rw [hj]; simpa using ew) fin
theorem same_new {H : Hp} {p : Addr} {o : HO} (h : H p = none) : Same H (upd H p o) := fun b u q => by rw [upd_ne (ne_of_none q h)]; exact q
/-- all but d as it was -/
def But (d : Addr) (H H' : Hp) : Prop := ∀ b o, H b = some o → b ≠ d → H' b = some o
theorem But.refl {d : Addr} {H : Hp} : But d H H := fun _ _ e _ => e
theorem But.trans {d : Addr} {H H1 H2 : Hp} (x : But d H H1) (y : But d H1 H2) : But d H H2 := fun b o e n => y b o (x b o e n) n
theorem But.put {d : Addr} {H H1 : Hp} {o : HO} (x : But d H H1) : But d H (upd H1 d o) := fun b u e n => by
  rw [upd_ne n]
  exact x b u e n
theorem But.new {d p : Addr} {H H1 : Hp} {o : HO} (x : But d H H1) (n : H1 p = none) : But d H (upd H1 p o) := fun b u e nb => by
  have q := x b u e nb
  rw [upd_ne (ne_of_none q n)]
  exact q
theorem But.same {d : Addr} {H H1 H2 : Hp} (x : But d H H1) (s : Same H1 H2) : But d H H2 := fun b u e nb => s _ _ (x b u e nb)
theorem at_map {ns : List Int} {k : Int} (h0 : 0 ≤ k) (h : k < (ns.length : Int)) : ∃ v : Int, atI (ns.map V.int) k = some (.int v) ∧ v ∈ ns := by
  have hk : k.toNat < ns.length := by omega
  have ek : k = ((k.toNat : Nat) : Int) := by omega
  have q : atI (ns.map V.int) ((k.toNat : Nat) : Int) = some (.int ns[k.toNat]) := atI_nat (by rw [List.getElem?_map, List.getElem?_eq_getElem hk] <;> rfl)
  rw [← ek] at q
  exact ⟨_, q, List.getElem_mem _⟩
theorem at_any {α : Type} {xs : List α} {k : Int} (h0 : 0 ≤ k) (h : k < (xs.length : Int)) : ∃ v : α, atI xs k = some v ∧ v ∈ xs := by
  have hk : k.toNat < xs.length := by omega
  have ek : k = ((k.toNat : Nat) : Int) := by omega
  have q : atI xs ((k.toNat : Nat) : Int) = some xs[k.toNat] := atI_nat (List.getElem?_eq_getElem hk)
  rw [← ek] at q
  exact ⟨_, q, List.getElem_mem _⟩
theorem wide_ok {i j : Int} (h : 0 < j) (h2 : j < 2 ^ 100) : CDivW i j := wide_div (b := 100) h (by
  have e : ((j.natAbs : Nat) : Int) < ((2 ^ 100 : Nat) : Int) := by
    rw [Int.natCast_pow]
    show (j.natAbs : Int) < 2 ^ 100
    omega
  exact_mod_cast e) (by decide) (by decide)
theorem cut_map (ns : List Int) (hi : Option Int) : ∃ k : Nat, cutV (ns.map V.int) none hi = (ns.take k).map V.int := by
  refine ⟨HT.sIx ns.length ns.length hi, ?_⟩
  unfold cutV
  rw [HT.sIx_none, List.drop_zero, Nat.sub_zero, List.length_map, List.map_take]
theorem cut_nat {α : Type} (xs : List V) (k : Nat) : cutV xs none (some (k : Int)) = xs.take k := by
  unfold cutV
  rw [HT.sIx_none, List.drop_zero, Nat.sub_zero, HT.sIx_nat]
  by_cases h : k ≤ xs.length
  · rw [Nat.min_eq_left h]
  · rw [Nat.min_eq_right (by omega), List.take_of_length_le (Nat.le_refl _), List.take_of_length_le (by omega)]
theorem sz {n : Nat} (h : n ≤ 100000) : n ≤ sizeLine := Nat.le_trans h (by decide)
theorem szl {n : Nat} (h : n < 100000) : n < sizeLine := Nat.lt_of_lt_of_le h (by decide)
def spLaw (K : PySem.W.Frag) : Sp := fun vs H Q _ => ∃ (a : Addr) (ns : List Int), vs = [.ref a] ∧ SqL K H a (ns.map V.int) ∧ ns.length ≤ 63 ∧ (∀ z ∈ ns, Builtin.Int.intBits z ≤ 1048576) ∧ ∀ H', Q (.bl true) H'
/-! ### data of tuples -/
mutual
inductive Td (K : PySem.W.Frag) (H : Hp) : V → PyData → Prop
  | non : Td K H .non .none
  | bl (b : Bool) : Td K H (.bl b) (.bool b)
  | int (i : Int) : Td K H (.int i) (.int i)
  | str (x : Str) : Td K H (.str x) (.str x)
  | tup {a : Addr} {xs : List V} {ds : List PyData} : SqT K H a xs → TdAll K H xs ds → Td K H (.ref a) (.tuple ds)
inductive TdAll (K : PySem.W.Frag) (H : Hp) : List V → List PyData → Prop
  | nil : TdAll K H [] []
  | cons {v : V} {vs : List V} {d : PyData} {ds : List PyData} : Td K H v d → TdAll K H vs ds → TdAll K H (v :: vs) (d :: ds)
end
/-- tuples stay -/
def Tups (K : PySem.W.Frag) (H H' : Hp) : Prop := ∀ a xs, SqT K H a xs → SqT K H' a xs
theorem Tups.of_same {K : PySem.W.Frag} {H H' : Hp} (s : Same H H') : Tups K H H' := fun a xs h => by
  rcases h with h | h
  · rcases h with h | ⟨o, h⟩
    · exact .inl (.inl (s _ _ h))
    · exact .inl (.inr ⟨o, s _ _ h⟩)
  · exact .inr h
theorem Tups.of_but {K : PySem.W.Frag} {H H' : Hp} {d : Addr} {l : List V} (s : But d H H') (e : H d = some (.lst l)) : Tups K H H' := fun a xs h => by
  rcases h with h | h
  · rcases h with h | ⟨o, h⟩
    · exact .inl (.inl (s _ _ h (ne_of h e (by intro z; cases z))))
    · exact .inl (.inr ⟨o, s _ _ h (ne_of h e (by intro z; cases z))⟩)
  · exact .inr h
theorem Tups.trans {K : PySem.W.Frag} {H H1 H2 : Hp} (a : Tups K H H1) (b : Tups K H1 H2) : Tups K H H2 := fun p xs h => b _ _ (a _ _ h)
mutual
theorem Td.mono {K : PySem.W.Frag} {H H' : Hp} (t : Tups K H H') : ∀ {v : V} {d : PyData}, Td K H v d → Td K H' v d
  | _, _, .non => .non
  | _, _, .bl b => .bl b
  | _, _, .int i => .int i
  | _, _, .str x => .str x
  | _, _, .tup h k => .tup (t _ _ h) (TdAll.mono t k)
theorem TdAll.mono {K : PySem.W.Frag} {H H' : Hp} (t : Tups K H H') : ∀ {vs : List V} {ds : List PyData}, TdAll K H vs ds → TdAll K H' vs ds
  | _, _, .nil => .nil
  | _, _, .cons h k => .cons (Td.mono t h) (TdAll.mono t k)
end
mutual
theorem Td.dp {K : PySem.W.Frag} {H : Hp} : ∀ {v : V} {d : PyData}, Td K H v d → Dp K H v d
  | _, _, .non => .non
  | _, _, .bl b => .bl b
  | _, _, .int i => .int i
  | _, _, .str x => .str x
  | _, _, .tup h k => .tup h (TdAll.dp k)
theorem TdAll.dp {K : PySem.W.Frag} {H : Hp} : ∀ {vs : List V} {ds : List PyData}, TdAll K H vs ds → DpAll K H vs ds
  | _, _, .nil => .nil
  | _, _, .cons h k => .cons (Td.dp h) (TdAll.dp k)
end
theorem TdAll.length {K : PySem.W.Frag} {H : Hp} : ∀ {vs : List V} {ds : List PyData}, TdAll K H vs ds → vs.length = ds.length
  | _, _, .nil => rfl
  | _, _, .cons _ k => congrArg (· + 1) (TdAll.length k)
theorem TdAll.append {K : PySem.W.Frag} {H : Hp} : ∀ {vs ws : List V} {ds es : List PyData}, TdAll K H vs ds → TdAll K H ws es → TdAll K H (vs ++ ws) (ds ++ es)
  | _, _, _, _, .nil, k => k
  | _, _, _, _, .cons h k, z => .cons h (TdAll.append k z)
theorem TdAll.get {K : PySem.W.Frag} {H : Hp} : ∀ {vs : List V} {ds : List PyData}, TdAll K H vs ds → ∀ {v : V}, v ∈ vs → ∃ d, d ∈ ds ∧ Td K H v d
  | _, _, .nil, _, h => nomatch h
  | _, _, .cons (d := d) h k, v, m => by
    rcases List.mem_cons.mp m with e | m
    · subst e
      exact ⟨d, List.mem_cons_self, h⟩
    · obtain ⟨d', hd, t⟩ := TdAll.get k m
      exact ⟨d', List.mem_cons_of_mem _ hd, t⟩
theorem inV_str (w : Str) : ∀ ws : List Str, inV (.str w) (ws.map V.str) = decide (w ∈ ws)
  | [] => rfl
  | x :: r => by
    have ih := inV_str w r
    unfold inV at ih ⊢
    rw [List.map_cons, List.any_cons, ih]
    by_cases e : x = w
    · subst e
      simp [eqV]
    · have e2 : ¬ w = x := fun z => e z.symm
      simp [eqV, e, e2]
theorem flat_strs : ∀ ws : List Str, (ws.map V.str).all flatV = true
  | [] => rfl
  | _ :: r => by
    rw [List.map_cons, List.all_cons, flat_strs r]
    rfl
/-- the kinds -/
def kinds : List Str := ["a", "b", "c", "d", "e", "f", "g", "h"]
/-- a tuple as a target, the table and the number as they are written -/
theorem pg_tupK {X : Cx} {K : PySem.W.Frag} {pos : Pos} {es : List Expr} {k : Nat} {t : TGs} {n : Nat} (hK : X.K = K) (hc : X.calm = true) (h : PGs X es t)
    (hn : (assignEach es X.env).length = n) (hst : (assignEach es X.env).findIdx? (·.1) = none := by rfl) : PG X (.Tuple es k pos) (gTup K n t) := by
  subst hK
  exact pg_tup hc h hn hst
theorem cut_tail (x : V) (ps : List V) : cutV (x :: ps) (some 1) none = ps := by
  unfold cutV
  rw [show (1 : Int) = ((1 : Nat) : Int) from rfl, HT.sIx_nat, HT.sIx_none, List.length_cons]
  have e : min 1 (ps.length + 1) = 1 := by omega
  rw [e, List.drop_succ_cons, List.drop_zero, Nat.add_sub_cancel, List.take_of_length_le (Nat.le_refl _)]
theorem u1 {k : Nat} {A : Around} (h : Room k A) : A.units + 1 < cLine := by
  have := h.units
  omega
theorem u0 {k : Nat} {A : Around} (h : Room k A) : A.units < cLine := by
  have := h.units
  omega
theorem u65 {k : Nat} {A : Around} (h : Room k A) : A.units + 65 < cLine := by
  have := h.un
  omega
theorem op_in_seqK {X : Cx} {K : PySem.W.Frag} (hK : X.K = K) : OpR X (compareOp .In) (rIn K false) := by
  subst hK
  exact op_in_seq
theorem op_notIn_seqK {X : Cx} {K : PySem.W.Frag} (hK : X.K = K) : OpR X (compareOp .NotIn) (rIn K true) := by
  subst hK
  exact op_notIn_seq

/-! ### own exceptions as values -/
def veB : List Value := [.type "ValueError", .type "Exception", .type "BaseException", .type "object"]
/-- an exception object of the class C, not raised, with or without fields -/
def ExAt (H : Hp) (a C : Addr) : Prop := H a = some (ExO (.ref C) a) ∨ ∃ (d : Addr) (fs : List (Str × V)), H a = some (exo a C (some d)) ∧ H d = some (exd d fs)
theorem ExAt.same {H H' : Hp} {a C : Addr} (s : Same H H') (h : ExAt H a C) : ExAt H' a C := by
  rcases h with h | ⟨d, fs, h, g⟩
  · exact .inl (s _ _ h)
  · exact .inr ⟨d, fs, s _ _ h, s _ _ g⟩
section
variable {X : Cx}
theorem ExAt.inst {pins : List (Addr × Obj)} {σ : L2.St} {H : Hp} {s : Shared} {a C : Addr} (I : Inv X pins σ H s) (h : ExAt H a C) : ∃ (oe : Obj) (od : Option Obj), PySem.W.InstAt s.heap a oe C od := by
  rcases h with h | ⟨d, fs, h, g⟩
  · obtain ⟨⟨oe, vs, ho, hz, hd, _⟩, _, _⟩ := I.hok a _ h
    refine ⟨oe, none, ho, hz.1, ?_, ?_⟩
    · unfold PySem.W.notCls
      rw [hd]
    · rw [hz.2]
      trivial
  · obtain ⟨t1, ho⟩ := exo_at I.hok h
    obtain ⟨mA, hm, _⟩ := exd_at I.hok g
    obtain ⟨od, hod, _⟩ := lookIn_ns hm
    exact ⟨_, some od, ho, rfl, rfl, hod⟩
theorem pe_exc0 {C : Addr} {x : Str} {p pos : Pos} (hc : PySem.W.excIn X.K C veB "ValueError.__new__" = true) (gC : X.mg x = some (.ref C)) (kC : PySem.W.keepIn X.K (.ref C) = true) (hg : Gl X x) (hdb : (x == ("__debug__" : Str)) = false := by decide) :
    PE X (.Call (.Name x p) [] [] pos) (fun _ H Q => ∀ a, H a = none → Q (.ref a) (upd H a (ExO (.ref C) a))) := by
  constructor
  intro pins st σ H Q I h
  refine wpAny_Call_Name_kw (ld_glob I hg gC ?_ hdb)
  refine PySem.W.callWith_K0 I.kIn kC ?_
  obtain ⟨bm, N, nm, qn, bs, hdct, sn, sub, ab, col, dd, k0, k1, k2, k3, k5, mN, hC, hN, hni, OT⟩ := exc_obj I.kIn hc
  refine wpAny_call_exc_subT PySem.F.excBase_ValueError OT hC hN hni (fun h' a hm => ?_) (Nat.zero_le _)
  have free : H a = none := I.hok.gone hm.new
  obtain ⟨t, ht, _, _⟩ := hm.there
  have ok : ObjOk X.prog X.w (upd H a (ExO (.ref C) a)) h' a (ExO (.ref C) a) := exO_ok ht ⟨rfl, rfl⟩ rfl rfl rfl (show 4 < 6 by decide)
  exact ⟨.ref a, _, I.laidN hm.keeps hm.new free ok, rfl, h a free⟩
/-- C(e, ..), C an own exception class with an own __init__, as a value -/
def tOexV (C : Addr) (sp : Sp) (ta : TA) : TE := fun σ H Q => ta σ H fun vs H1 => vs.length ≤ 1000 ∧ ∀ a, H1 a = none → sp (.ref a :: vs) (upd H1 a (exo a C none)) (fun v H2 => v = .non ∧ Q (.ref a) H2) (fun _ _ _ => False)
theorem pe_oexV {x : Str} {C fI : Addr} {k : Nat} {fd : FuncData} {ps : List Str} {sp : Sp} {e : Expr} {es : List Expr} {ta : TA} {p pos : Pos} (OC : OexC X.K C) (iC : PySem.W.findIn X.K (.ref C) "__init__" = some (some (.ref fI)))
    (tI : PySem.W.typeIn X.K (.ref fI) = some (.type "function")) (F1 : FnOk X.prog X.w X.K X.mg X.base CX0 k fI fd ps sp) (hr : Room (k + 1) X.A) (hb : Binds X.K fd ps []) (hg : Gl X x) (hm : X.mg x = some (.ref C)) (ha : PA X (e :: es) ta)
    (hdb : (x == ("__debug__" : Str)) = false := by decide) (he : starEach (e :: es) X.env = (false, eval e X.env) :: starEach es X.env := by rfl) (hpl : (backTo pos (starEach es X.env)).any (·.1) = false := by rfl) :
    PE X (.Call (.Name x p) (e :: es) [] pos) (tOexV C sp ta) := by
  constructor
  intro pins st σ H Q I h
  obtain ⟨nm, q, N, bs, bm, sn, sub, ab, col, dd, k0, k1, k2, k3, k5, hC, hbm⟩ := OC.cls
  refine wpAny_Call_Name_kw (ld_glob I hg hm ?_ hdb)
  refine PySem.W.callWith_K (h₀ := X.base) I.ok.mod.kin OC.kC (thn (ha.run pos pins st σ H _ I h) fun us s1 z => ?_) he hpl
  obtain ⟨vs, H1, I1, r1, hz, q1⟩ := z
  refine ⟨I1.kIn, ?_⟩
  obtain ⟨hp, g, dr, tk, os⟩ := s1
  have hn : H1 (hp.objs.size + 1) = none := I1.hok.fresh (Nat.le_succ _)
  have hq := q1 _ hn
  have kk : ∀ b o, hp.get? b = some o → ((hp.push (PySem.W.kdv_tup us)).push (PySem.HandSPX.excO C hp.objs.size)).get? b = some o := fun b o z =>
    Heap.get?_push_of_some _ (Heap.get?_push_of_some _ z)
  have hget : ((hp.push (PySem.W.kdv_tup us)).push (PySem.HandSPX.excO C hp.objs.size)).get? (hp.objs.size + 1) = some (PySem.HandSPX.excO C hp.objs.size) := by
    heap_get
  have I2 : Inv X pins σ (upd H1 (hp.objs.size + 1) (exo (hp.objs.size + 1) C none)) ⟨(hp.push (PySem.W.kdv_tup us)).push (PySem.HandSPX.excO C hp.objs.size), g, dr, tk, os⟩ :=
    I1.laid (t' := tk) (a := hp.objs.size + 1) (o := exo (hp.objs.size + 1) C none) (h' := (hp.push (PySem.W.kdv_tup us)).push (PySem.HandSPX.excO C hp.objs.size)) kk (Nat.le_succ _) (exo_ok hget)
  have r2 : Vals (V.ref (hp.objs.size + 1) :: vs) (Value.ref (hp.objs.size + 1) :: us) := .cons rfl r1
  have hl : (Value.ref (hp.objs.size + 1) :: us).length = ps.length := by
    rw [← r2.length]
    exact F1.len _ _ _ _ hq
  have hus : us.length ≤ sizeLine := by
    rw [← Paired.length r1, sizeLine_eq]
    omega
  have hb2 := hb ⟨(hp.push (PySem.W.kdv_tup us)).push (PySem.HandSPX.excO C hp.objs.size), g, dr, tk, os⟩ (Value.ref (hp.objs.size + 1) :: us) I2.kIn (by rw [List.append_nil]; exact hl)
  rw [List.append_nil] at hb2
  refine wpAny_call (PySem.HandSPX.call_own PySem.F.excBase_ValueError (fun Y => PySem.HandSPX.refsVE_contains Y bm hbm) (I1.kIn _ _ hC) (PySem.W.looks_findIn I1.kIn iC) (fun self => PySem.W.bind_fn I1.kIn self tI) hus
    (codeAny_mono (F1.run _ X.stack _ _ ⟨Value.ref (hp.objs.size + 1) :: us, []⟩ (Value.ref (hp.objs.size + 1) :: us) _ _ (fun _ _ _ => False) (hr.make C us []) (I2.env0.make C us []) hb2 r2 hq) fun r s' z => ?_))
  cases r with
  | error er => exact absurd z id
  | ok fl =>
    cases fl with
    | ret u =>
      obtain ⟨v, H', J, rv, ev, qq⟩ := I2.after z
      subst ev
      exact ⟨rv, .ref (hp.objs.size + 1), H', J, rfl, qq⟩
    | next => exact absurd z id
    | brk => exact absurd z id
    | cont => exact absurd z id
/-- what isinstance asks of the class of an exception -/
structure XcC (K : PySem.W.Frag) (C : Addr) : Prop where
  cl : (PySem.W.clsIn K C).isSome = true
  hg : PySem.W.findIn K (.ref C) "__getattribute__" = some (some (.builtin "BaseException.__getattribute__"))
  hk : PySem.W.findIn K (.ref C) "__getattr__" = some none
  hs : PySem.W.subIn K (.ref C) (.type "BaseException") = some true
  ha : PySem.W.findIn K (.ref C) "__class__" = some (some (.builtin "object.__class__"))
  hn : PySem.W.specialIn K (.builtin "object.__class__") "__get__" = some (some (.builtin "getset_descriptor.__get__"))
  ht : PySem.W.takesIn K (.builtin "object.__class__") = some true
  hm : PySem.W.mroIn K C (.type "object") = some true
def xcB (K : PySem.W.Frag) (C : Addr) : Bool := (PySem.W.clsIn K C).isSome && (decide (PySem.W.findIn K (.ref C) "__getattribute__" = some (some (.builtin "BaseException.__getattribute__"))) && (decide (PySem.W.findIn K (.ref C) "__getattr__" = some none) &&
  (decide (PySem.W.subIn K (.ref C) (.type "BaseException") = some true) && (decide (PySem.W.findIn K (.ref C) "__class__" = some (some (.builtin "object.__class__"))) && (decide (PySem.W.specialIn K (.builtin "object.__class__") "__get__" = some (some (.builtin "getset_descriptor.__get__"))) &&
  (decide (PySem.W.takesIn K (.builtin "object.__class__") = some true) && decide (PySem.W.mroIn K C (.type "object") = some true)))))))
theorem xcB_ok {K : PySem.W.Frag} {C : Addr} (h : xcB K C = true) : XcC K C := by
  unfold xcB at h
  simp only [Bool.and_eq_true, decide_eq_true_eq] at h
  obtain ⟨h1, h2, h3, h4, h5, h6, h7, h8⟩ := h
  exact ⟨h1, h2, h3, h4, h5, h6, h7, h8⟩
def rIsX (K : PySem.W.Frag) : List V → Hp → VK → Prop := fun xs H Q => ∃ (a C : Addr) (c : V) (cv : Value) (b : Bool), xs = [.ref a, c] ∧ ExAt H a C ∧ XcC K C ∧ ClsV c cv ∧ PySem.W.kitOne K (.ref C) cv = some b ∧ Q (.bl b) H
theorem call_isX : CallR X (.builtin "isinstance") (rIsX X.K) := by
  intro pins st σ H xs us Q I r h
  obtain ⟨a, C, c, cv, b, rfl, ex, xc, kc, e, q⟩ := h
  obtain ⟨u1, u2, rfl, r1, r2⟩ := vals2 r
  cases r1
  have e2 := kc.eq r2
  subst e2
  obtain ⟨oe, od, J⟩ := ex.inst I
  exact PySem.W.kia_one (PySem.W.kitx_exc xc.cl xc.hg xc.hk xc.hs xc.ha xc.hn xc.ht xc.hm) I.kIn J e (fun z => nomatch z) fun tk => ⟨.bl b, H, I.kept (t' := tk) fun _ _ z => z, rfl, q⟩
theorem call_isXK {K : PySem.W.Frag} (hK : X.K = K) : CallR X (.builtin "isinstance") (rIsX K) := by
  subst hK
  exact call_isX
/-- e.f of such an object -/
def tXv (K : PySem.W.Frag) (f : Str) (te : TE) : TE := fun σ H Q => te σ H fun x H1 => ∃ (a C d : Addr) (fs : List (Str × V)) (v : V), x = .ref a ∧ H1 a = some (exo a C (some d)) ∧ H1 d = some (exd d fs) ∧ XfC K C ∧ PySem.W.findIn K (.ref C) f = some none ∧ fs.lookup f = some v ∧ Q v H1
theorem pe_xv {e : Expr} {te : TE} {pos : Pos} {n : Str} (he : PE X e te) (hb : attributeBase e n X.env (eval e X.env) = eval e X.env := by rfl) : PE X (.Attribute e n pos) (tXv X.K n te) := by
  constructor
  intro pins st σ H Q I h
  refine attr_of hb (thn (he.run pins st σ H _ I h) fun u s1 z => ?_)
  obtain ⟨x, H1, I1, rx, a, C, d, fs, v, rfl, h1, h2, xf, hno, hl, q⟩ := z
  cases rx
  obtain ⟨t1, ho⟩ := exo_at I1.hok h1
  obtain ⟨mA, hns, hrel⟩ := exd_at I1.hok h2
  obtain ⟨od, hod, hlk⟩ := lookIn_ns hns
  obtain ⟨u, hu, ru⟩ := RelO.some_of (v := v) (o := mA n) (by rw [← hl]; exact hrel n)
  have J : PySem.W.InstAt s1.heap a _ C (some od) := ⟨ho, rfl, rfl, hod⟩
  exact HandSPX.exc_get I1.kIn J xf.ga xf.gg xf.exC (PySem.W.findObj_own xf.hdC hno rfl (by rw [hlk, hu])) (handed_of ru) ⟨v, H1, I1.tok _, ru, q⟩
end
/-! ### facts of the written part, by one kernel run each -/
/-- a written tuple of texts -/
def strOf : Value → Option Str
  | .str x _ => some x
  | _ => none
def tupB (K : PySem.W.Frag) (a : Addr) (ws : List Str) : Bool := match K.lookup a with
  | some o => decide (o.cls = .type "tuple") && (match o.data with
    | .seq its _ => decide (its.size ≤ 1000) && decide (its.toList.map strOf = ws.map some)
    | _ => false)
  | none => false
theorem vals_str : ∀ {us : List Value} {ws : List Str}, us.map strOf = ws.map some → Vals (ws.map V.str) us
  | [], [], _ => .nil
  | [], _ :: _, h => nomatch h
  | _ :: _, [], h => nomatch h
  | u :: us, w :: ws, h => by
    rw [List.map_cons, List.map_cons] at h
    obtain ⟨h1, h2⟩ := List.cons.inj h
    refine .cons ?_ (vals_str h2)
    cases u with
    | str x t =>
      have e : x = w := Option.some.inj h1
      subst e
      exact ⟨t, rfl⟩
    | _ => exact nomatch h1
theorem tupB_ok {K : PySem.W.Frag} {a : Addr} {ws : List Str} (h : tupB K a ws = true) (H : Hp) : SqT K H a (ws.map V.str) := by
  unfold tupB at h
  split at h
  · rename_i o ho
    rw [Bool.and_eq_true] at h
    obtain ⟨h1, h2⟩ := h
    split at h2
    · rename_i its n hd
      rw [Bool.and_eq_true] at h2
      exact .inr ⟨o, its, n, ho, of_decide_eq_true h1, hd, sz (Nat.le_trans (of_decide_eq_true h2.1) (by decide)), vals_str (of_decide_eq_true h2.2)⟩
    · cases h2
  · cases h
/-- the refusals among one another, and under the first of them -/
def kitsB (K : PySem.W.Frag) (t : Addr) (cs : List Addr) : Bool := (List.range cs.length).all fun i => decide (PySem.W.kitOne K (.ref (cs.getD i 0)) (.ref t) = some true) && (List.range cs.length).all fun j => decide (PySem.W.kitOne K (.ref (cs.getD i 0)) (.ref (cs.getD j 0)) = some (decide (i = j)))
theorem kitsB_top {K : PySem.W.Frag} {t : Addr} {cs : List Addr} (h : kitsB K t cs = true) {i : Nat} (hi : i < cs.length) : PySem.W.kitOne K (.ref (cs.getD i 0)) (.ref t) = some true := by
  unfold kitsB at h
  have z := List.all_eq_true.mp h i (List.mem_range.mpr hi)
  rw [Bool.and_eq_true] at z
  exact of_decide_eq_true z.1
theorem kitsB_two {K : PySem.W.Frag} {t : Addr} {cs : List Addr} (h : kitsB K t cs = true) {i j : Nat} (hi : i < cs.length) (hj : j < cs.length) : PySem.W.kitOne K (.ref (cs.getD i 0)) (.ref (cs.getD j 0)) = some (decide (i = j)) := by
  unfold kitsB at h
  have z := List.all_eq_true.mp h i (List.mem_range.mpr hi)
  rw [Bool.and_eq_true] at z
  exact of_decide_eq_true (List.all_eq_true.mp z.2 j (List.mem_range.mpr hj))
def dws : List Str := ["new", "put", "paint", "tie", "cut", "add", "spread"]

end My
namespace My
open PySem PySem.Spec PyProof.Rows L2
/-! ### an exception caught and kept -/
/-- at a stands an exception of the class cls that was raised -/
def ExC (cls : Value) (d : Option Addr) (a : Addr) : HO := .ext fun h => ∃ (oe : Obj) (vs : Array Value), h.get? a = some oe ∧ Zc cls d oe ∧ oe.data = .fields vs
theorem exC_ok {P : Program} {w : World} {H : Hp} {h : Heap} {a : Addr} {cls : Value} {d : Option Addr} {oe : Obj} {vs : Array Value} (e : h.get? a = some oe) (z : Zc cls d oe) (dd : oe.data = .fields vs) : ObjOk P w H h a (ExC cls d a) := by
  refine ⟨⟨oe, vs, e, z, dd⟩, ⟨oe, e⟩, ?_⟩
  rintro h1 h2 ⟨o, v, e1, z1, d1⟩ st
  exact ⟨o, v, st _ e1, z1, d1⟩
/-- what stood nowhere at sI is none of the context's own: it may be tracked -/
theorem inv_seen {X : Cx} {pins : List (Addr × Obj)} {σI σ : L2.St} {HI H : Hp} {sI s : Shared} {a : Addr} {o : HO} (J : Inv X pins σI HI sI) (new : sI.heap.get? a = none) (I : Inv X pins σ H s) (na : H a = none) (ok : ObjOk X.prog X.w (upd H a o) s.heap a o) :
    Inv X pins σ (upd H a o) s := by
  have old : ∀ {b : Addr} {ob : Obj}, sI.heap.get? b = some ob → upd H a o b = H b := fun {b ob} e => upd_ne fun z => by
    rw [z, new] at e
    cases e
  have trk : ∀ {b : Addr} {u : HO}, H b = some u → upd H a o b = some u := fun {b u} e => (upd_ne (ne_of_none e na)).trans e
  refine ⟨I.ok, I.os, I.bare, ⟨I.base.keep, I.base.slot, ?_, I.base.there, ?_, ?_, ?_⟩, I.loc, I.cell, ?_, ?_, ?_, ?_, I.len⟩
  · intro b ob e nb hx
    obtain ⟨o', e'⟩ := J.base.there b ob e hx
    rw [old e']
    exact I.base.free b ob e nb hx
  · intro b xs e
    exact trk (I.base.tups b xs e)
  · intro b ob u e
    exact trk (I.base.frzs b ob u e)
  · intro b ps e
    obtain ⟨more, q⟩ := I.base.tbls b ps e
    exact ⟨more, trk q⟩
  · obtain ⟨m, ⟨ol, _, _, el, _⟩, _⟩ := J.loc
    rw [old el]
    exact I.free
  · intro y c e
    obtain ⟨v, oc, ec, _⟩ := J.cell y c e
    rw [old ec]
    exact I.freeC y c e
  · intro p hp
    obtain ⟨p1, p2, p3⟩ := I.pin p hp
    exact ⟨p1, (old (J.pin p hp).1).trans p2, p3⟩
  · intro b u e
    by_cases hb : b = a
    · subst hb
      rw [upd_same] at e
      cases e
      exact ok
    · rw [upd_ne hb] at e
      exact (I.hok b u e).stay (fun _ _ _ q => q) (fun _ q => trk q) fun _ _ q => trk q
/-- what 'except x as n' wishes, the exception kept behind it -/
def wKeep (K : PySem.W.Frag) (c : Value) (i : Nat) (ts : Addr → TS) (D : Ends) : WX := fun cls d σ H =>
  PySem.W.exmOne K cls c = some true ∧ ∀ a, H a = none → ts a { nx := fun σ' H' => H' a = none ∧ D.nx (σ'.set i none) (upd H' a (ExC cls d a)), rt := fun _ _ => False, bk := fun _ _ => False, ct := fun _ _ => False } (σ.set i (some (.ref a))) H
theorem ps_try_keep {X : Cx} {x n : Str} {c : Value} {i : Nat} {body suite : List Stmt} {b0 : Stmt} {np pos pos' : Pos} {tb : WX → TS} {ts : Addr → TS} (stk : X.stack = X.env :: X.outer) (frm : X.env.frame = some X.env.locals) (nd : X.N.Nodup) (hi : X.N[i]? = some n) (loc : X.env.kindOf n = some .local) (nm : Names X x c)
    (hb : ∀ (W : WX) (pn : List (Addr × Obj)) (xe : Value → Shared → Prop), Takes (X.tr pn xe) W → PSs (X.tr pn xe) body (tb W))
    (hsu : ∀ (a : Addr) (pn : List (Addr × Obj)), PSs (X.suite a pn) (b0 :: suite) (ts a)) :
    PS X (.Try body [.ExceptHandler (some (.Name x np)) (some n) (b0 :: suite) pos'] [] [] pos) (fun D σ H => tb (wKeep X.K c i ts D) D σ H) := by
  constructor
  intro pins s σ H D I h
  have frs' : X.A.frames = some (X.env :: X.outer) := by rw [I.ok.frames, stk]
  refine wpAny_Try_except (wpAny_mono ((hb (wKeep X.K c i ts D) (X.pn ++ pins) _ fun u s' ex => ?_).run [] s σ H D (I.toTry _) h) (fun f s1 sp => ?_) fun e s1 q => q)
  · obtain ⟨a, B, sI, pins', σ', H', cls, d, rfl, JT, nb, up, sky, na, os, ag, hm, go⟩ := ex
    have J : Inv X pins σ' H' sI := JT.ofTry I.ok
    have sky2 : Sky B (X.env :: X.outer) a (Zc cls d) X.env.locals s'.heap := stk ▸ sky
    refine Sky.land Zc.steady frs' frm sky2 fun h3 fl3 up3 => ?_
    have J3 : Inv X pins σ' H' { s' with heap := h3 } := J.landed nb fl3.1 (up.trans up3) os ag
    have away : ∀ {hp : Heap} {o : Obj} {vs : Array Value}, hp.FunFrames B (X.env :: X.outer) → hp.get? a = some o → o.data = .fields vs → a ∉ frs (X.env :: X.outer) := fun {hp o vs} ff e dd m => by
      obtain ⟨_, o', e', nf⟩ := ff.mem m
      rw [e] at e'
      cases e'
      exact nf _ dd
    obtain ⟨oe3, vs3, he3, hz3, hd3⟩ := fl3.there
    have nfr := away fl3.2.2.1 he3 hd3
    have nl : a ≠ X.env.locals := fun z => nfr (List.mem_filterMap.mpr ⟨X.env, List.mem_cons_self, by rw [frm, z]⟩)
    have nfs : a ∉ X.fs := fun m => by
      obtain ⟨e, he, q⟩ := List.mem_filterMap.mp m
      exact nfr (List.mem_filterMap.mpr ⟨e, List.mem_cons_of_mem _ he, q⟩)
    have newI : sI.heap.get? a = none := by
      cases q : sI.heap.get? a with
      | none => rfl
      | some ob =>
        have z := nb a ob q (by rw [stk]; exact nfr)
        rw [fl3.2.1] at z
        cases z
    have S3 := J3.suite he3 hd3 na nl nfs
    refine wpAny_handleBy_cons (codeAny_handlers_test ?_) (fun z => nomatch z)
    have name : ∀ {Q' : Value → Shared → Prop} {E' : Value → Shared → Prop}, Q' c { s' with heap := h3 } → wpAny (model X.prog X.w) (X.A.mark (some (.ref a))) (eval (.Name x np) X.env) Q' E' { s' with heap := h3 } := fun {Q' E'} q => by
      obtain ⟨gl, dbg, hit | ⟨miss, bt, nn⟩⟩ := nm
      · exact ld_glob (X := X.suite a ((a, oe3) :: (X.pn ++ pins))) S3 gl hit q dbg
      · exact ld_blt (X := X.suite a ((a, oe3) :: (X.pn ++ pins))) S3 gl miss bt q nn dbg
    have looks : PySem.W.Looks (model X.prog X.w) h3 (typeOf (.ref a)) cls := fun A' Q' E' t k q => wpAny_typeOf_ref (k _ _ he3) (hz3.1.symm ▸ q)
    refine name ((PySem.W.exm_one (M := model X.prog X.w) J3.kIn looks hm).here (codeAny_handlers_suite_as (HandSPX.lands_againZ fl3 fun h4 fl4 up4 => ?_)))
    · have J4 : Inv X pins σ' H' { s' with heap := h4 } := J.landed nb fl4.1 ((up.trans up3).trans up4) os ag
      obtain ⟨oe4, vs4, he4, hz4, hd4⟩ := fl4.there
      refine store_ok (X := X.suite a ((a, oe4) :: (X.pn ++ pins))) (v := .ref a) (J4.suite he4 hd4 na nl nfs) nd hi (.inl loc) rfl (fun s5 S5 => ?_) (.inr loc)
      refine wpAny_mono ((hsu a ((a, oe4) :: (X.pn ++ pins))).run [] s5 _ H' _ S5 (go a na)) (fun f s6 sp => ?_) fun _ _ z => (show False from z).elim
      cases f with
      | next =>
        obtain ⟨σ6, H6, S6, n6, q6⟩ := sp
        refine gone_ok (X := X.suite a ((a, oe4) :: (X.pn ++ pins))) S6 nd hi loc fun s7 S7 => ?_
        have at7 := (S7.pin (a, oe4) (List.mem_append_left _ List.mem_cons_self)).1
        exact ⟨_, _, inv_seen J newI (S7.unsuite I.ok) n6 (exC_ok at7 hz4 hd4), q6⟩
      | brk =>
        obtain ⟨_, _, _, z⟩ := sp
        exact (show False from z).elim
      | cont =>
        obtain ⟨_, _, _, z⟩ := sp
        exact (show False from z).elim
      | ret u =>
        obtain ⟨_, _, _, _, _, z⟩ := sp
        exact (show False from z).elim
  · cases f with
    | next =>
      obtain ⟨σ', H', J, q⟩ := sp
      exact wpAny_execs_nil ⟨σ', H', J.ofTry I.ok, q⟩
    | brk =>
      obtain ⟨σ', H', J, q⟩ := sp
      exact ⟨σ', H', J.ofTry I.ok, q⟩
    | cont =>
      obtain ⟨σ', H', J, q⟩ := sp
      exact ⟨σ', H', J.ofTry I.ok, q⟩
    | ret u =>
      obtain ⟨v, σ', H', J, r, q⟩ := sp
      exact ⟨v, σ', H', J.ofTry I.ok, r, q⟩

/-! ### a lambda of one parameter -/
structure LamP (sc scope : Scope) (p : Str) : Prop where
  kind : scope.kind = .function
  co : scope.isCoroutine = false
  gen : scope.isGenerator = false
  par : scope.names.lookup p = some .local
  own : ∀ y ∈ scope.names, y.2 ≠ .cell ∧ (y.2 = .local → y.1 = p)
  free : ∀ y ∈ scope.names, y.2 = .free → sc.names.lookup y.1 = some .cell ∨ sc.names.lookup y.1 = some .free
def lamPB (sc scope : Scope) (p : Str) : Bool := decide (scope.kind = .function) && (!scope.isCoroutine && (!scope.isGenerator && (decide (scope.names.lookup p = some .local) && scope.names.all fun y => !decide (y.2 = .cell) && ((!decide (y.2 = .local) || decide (y.1 = p)) && (!decide (y.2 = .free) || (decide (sc.names.lookup y.1 = some .cell) || decide (sc.names.lookup y.1 = some .free)))))))
theorem lamP_by {sc scope : Scope} {p : Str} (h : lamPB sc scope p = true) : LamP sc scope p := by
  unfold lamPB at h
  simp only [Bool.and_eq_true, Bool.or_eq_true, Bool.not_eq_true', decide_eq_true_eq, decide_eq_false_iff_not, List.all_eq_true] at h
  obtain ⟨h1, h2, h3, h4, h5⟩ := h
  refine ⟨h1, h2, h3, h4, fun y hy => ⟨(h5 y hy).1, fun e => ?_⟩, fun y hy e => ?_⟩
  · rcases (h5 y hy).2.1 with z | z
    · exact absurd e z
    · exact z
  · rcases (h5 y hy).2.2 with z | z
    · exact absurd e z
    · exact z
theorem LamP.has {X : Cx} {scope : Scope} {p : Str} (L : LamP X.env.scope scope p) (ok : X.Ok) {y : Str × NameKind} (hy : y ∈ scope.names) (e : y.2 = .free) : ∃ c, X.env.cells.lookup y.1 = some c := ok.has _ (L.free y hy e)
/-- the context of its body -/
def cxP (X : Cx) (A : Around) (outer : List Env) (s : Shared) (H : Hp) (E : XK) (scope : Scope) (p : Str) (f c' : Addr) : Cx := { LamX.lamCx X A outer s H E scope f c' with N := X.N ++ [p] }
section
variable {X : Cx} {pins : List (Addr × Obj)} {σ : L2.St} {H HZ : Hp} {s s1 : Shared} {A : Around} {outer : List Env} {E : XK} {scope : Scope} {p : Str} {f c' : Addr}
theorem lamP_start {h1 : Heap} {tk : Nat} {v : V} {u : Value} (I : Inv X pins σ H s) (L : LamP X.env.scope scope p) (np : ∀ (i : Nat) (v : V), X.N[i]? = some p → σ[i]? = some (some v) → False) (e0 : Env0 X.prog X.w X.K X.mg X.base A outer s1 HZ) (calm : A.handled = none)
    (un : Un (frs X.stack) [] H HZ s.heap s1.heap) (ns : h1.Ns s1.heap.objs.size fun y => ([(p, u)] : List (Str × Value)).reverse.lookup y) (kp : ∀ b o, s1.heap.get? b = some o → h1.get? b = some o) (r : RelV v u) :
    Inv (cxP X A outer s1 HZ E scope p f c') [] (σ ++ [some v]) HZ { s1 with heap := h1, toks := tk } := by
  -- the closure's cells are the maker's
  have back : ∀ {y : Str} {c : Addr}, (cloFrom X.env.cells scope.names []).lookup y = some c → X.env.cells.lookup y = some c := fun {y c} e => by
    rcases cloFrom_mem (PySem.mem_of_lookup e) with z | ⟨z, ec⟩
    · cases z
    · obtain ⟨c1, e1⟩ := L.has I.ok z rfl
      rw [ec, e1]
      rfl
  have fwd : ∀ {y : Str}, scope.names.lookup y = some .free → ∃ c, (cloFrom X.env.cells scope.names []).lookup y = some c := fun {y} e =>
    mem_lookup (cloFrom_has (cells := X.env.cells) (acc := []) (show (y, NameKind.free) ∈ scope.names from PySem.mem_of_lookup e))
  have cellOn : ∀ {c : Addr} {x : Option Value}, H c = none → s.heap.IsCell c x → h1.IsCell c x := fun {c x} n z => by
    obtain ⟨o, ho, hd⟩ := z
    obtain ⟨sl, q⟩ := un.any ho n (fun z => nomatch z)
    exact ⟨_, kp _ _ q, hd⟩
  have noCell : ∀ {y : Str}, scope.names.lookup y ≠ some .cell := fun {y} e => (L.own _ (PySem.mem_of_lookup e)).1 rfl
  have isOwn : ∀ {y : Str}, scope.names.lookup y = some .local → y = p := fun {y} e => (L.own _ (PySem.mem_of_lookup e)).2 rfl
  have ok : (cxP X A outer s1 HZ E scope p f c').Ok :=
    { mod := e0.mod
      kind := L.kind
      glob := rfl
      blt := rfl
      above := Nat.le_refl _
      inj := fun y z c e1 e2 => I.ok.inj y z c (back e1) (back e2)
      has := fun y hy => by
        rcases hy with hy | hy
        · exact absurd hy noCell
        · exact fwd hy
      cab := fun y c z _ => absurd (show false = true from z) Bool.false_ne_true
      hd := fun _ => calm
      frames := Around.frames_deeper e0.frames
      stk := .inr ⟨rfl, rfl⟩
      exf := fun b z => absurd (show b ∈ ([] : List Addr) from z) List.not_mem_nil
      bs := e0.bs
      bsz := e0.bsz
      noex := fun b _ _ z => absurd (show b ∈ ([] : List Addr) from z) List.not_mem_nil
      exfs := fun b z => absurd (show b ∈ ([] : List Addr) from z) List.not_mem_nil
      funs := e0.funs
      frf := e0.frf }
  refine ⟨ok, rfl, e0.bare, Un.kept kp, ⟨_, ns, fun i y x e1 e2 e3 => ?_⟩, fun y c e => ?_, e0.hok.fresh (Nat.le_refl _), fun y c e => ?_, fun q hq => absurd (show q ∈ ([] : List (Addr × Obj)) ++ [] from hq) List.not_mem_nil, e0.hok.kept kp, ?_⟩
  · have e1 : (X.N ++ [p])[i]? = some y := e1
    have e3 : Vis scope y := e3
    have ll : σ.length = X.N.length := I.len
    by_cases lt : i < X.N.length
    · rw [List.getElem?_append_left lt] at e1
      rw [List.getElem?_append_left (by rw [ll]; exact lt)] at e2
      have ny : y ≠ p := fun z => np i x (z ▸ e1) e2
      rcases e3 with k | k | k
      · exact absurd (isOwn k) ny
      · exact absurd k noCell
      · obtain ⟨m, _, at_⟩ := I.loc
        have fr := L.free _ (PySem.mem_of_lookup k) rfl
        obtain ⟨u', r', q⟩ := at_ i y x e1 e2 (.inr fr)
        obtain ⟨c, ec⟩ := fwd k
        refine ⟨u', r', .inr ⟨.inr k, c, ec, ?_⟩⟩
        rcases q with ⟨k', _⟩ | ⟨_, c2, ec2, z⟩
        · have k' : X.env.scope.names.lookup y = some .local := k'
          rcases fr with k2 | k2
          · rw [k'] at k2
            cases k2
          · rw [k'] at k2
            cases k2
        · rw [back ec] at ec2
          cases ec2
          exact cellOn (I.freeC y c (back ec)) z
    · have ge : X.N.length ≤ i := Nat.le_of_not_lt lt
      rw [List.getElem?_append_right ge] at e1
      rw [List.getElem?_append_right (by rw [ll]; exact ge), ll] at e2
      cases hi : i - X.N.length with
      | zero =>
        rw [hi] at e1 e2
        have ey : p = y := Option.some.inj e1
        have ev : v = x := Option.some.inj (Option.some.inj e2)
        subst ey ev
        refine ⟨u, r, .inl ⟨L.par, ?_⟩⟩
        show ([(p, u)] : List (Str × Value)).lookup p = some u
        rw [List.lookup_cons, beq_self_eq_true]
      | succ n =>
        rw [hi] at e1
        cases e1
  · obtain ⟨x, z⟩ := I.cell y c (back e)
    exact ⟨x, cellOn (I.freeC y c (back e)) z⟩
  · obtain ⟨x, o, ho, _⟩ := I.cell y c (back e)
    exact un.free c o ho (I.freeC y c (back e)) (fun z => nomatch z)
  · show (σ ++ [some v]).length = (X.N ++ [p]).length
    rw [List.length_append, List.length_append, I.len]
    rfl
/-- the lambda at f called with one thing, at any time behind its making -/
theorem lamP_run {k : Nat} {params : Arguments} {b : Expr} {pm ctv : Value} {tb : TE} {v : V} {u : Value} {Q : VK} (I : Inv X pins σ H s) (L : LamP X.env.scope scope p) (np : ∀ (i : Nat) (v : V), X.N[i]? = some p → σ[i]? = some (some v) → False)
    (hf : s.heap.get? f = some (PySem.W.kla_obj "<lambda>" (X.env.qual ++ "<lambda>") params b scope (cloFrom X.env.cells scope.names []) pm c' ctv)) (hfn : H f = none) (hfr : f ∉ frs X.stack)
    (bind : ∀ u, bindArgs (PySem.W.kla_fn "<lambda>" (X.env.qual ++ "<lambda>") params b scope (cloFrom X.env.cells scope.names []) pm (.ref c') ctv) ⟨[u], []⟩ = pure [(p, u)]) (room : Room (k + 1) A) (e0 : Env0 X.prog X.w X.K X.mg X.base A outer s1 HZ)
    (un : Un (frs X.stack) [] H HZ s.heap s1.heap) (code : HZ c' = some (LamX.CodeO c' (X.env.qual ++ "<lambda>"))) (body : ∀ (A : Around) (outer : List Env) (s : Shared) (H : Hp), Room k (A.deeper (LamX.lamEnv X scope s.heap.objs.size f c')) → PE (cxP X A outer s H E scope p f c') b tb)
    (r : RelV v u) (t : tb (σ ++ [some v]) HZ Q) : codeAny (model X.prog X.w) A (.call (.ref f) ⟨[u], []⟩) (CR (L2.CX X.prog X.w) outer X.prog X.w HZ s1 Q E) s1 := by
  have here := un.keep f _ hf hfn hfr (fun z => nomatch z)
  obtain ⟨⟨oc, vs, tk, ho, hd, hv⟩, _, _⟩ := e0.hok c' _ code
  refine PySem.W.kla_callFunE room.depth here rfl L.co L.gen rfl ⟨c', oc, vs, tk, rfl, ho, hd, hv⟩ ?_
  rw [bind u]
  refine wpAny_pure (wpAny_newFunctionEnv (fun y hy => (L.own y hy).1) (fun y hy => ?_) (fun h1 ns sb => ⟨?_, ?_⟩) L.kind)
  · rw [List.mem_singleton.mp hy]
    exact L.par
  · have kin : s1.heap.NoLimit := e0.mod.nolimit.keeps fun b o e => (e0.bs b o e).1
    exact kin.fresh _ sb
  · have kp : ∀ b o, s1.heap.get? b = some o → h1.get? b = some o := fun b o e => sb.extBut b o (Nat.ne_of_lt (Heap.lt_size e)) (Heap.get?_push_of_some _ e)
    have J := lamP_start (E := E) (f := f) (c' := c') (tk := s1.toks + ([(p, u)] : List (Str × Value)).length) I L np e0 room.hd un ns kp r
    show codeAny _ _ (.expr b (LamX.lamEnv X scope s1.heap.objs.size f c')) _ _
    refine PySem.W.kla_codeExpr (wpAny_mono ((body _ _ s1 HZ (room.deeper _)).run [] _ _ HZ Q J t) (fun w' s' z => ?_) fun e s' z => z)
    obtain ⟨x, H', J', rx, q⟩ := z
    exact ⟨x, H', J'.os, J'.bare, J'.base, J'.hok, rx, q⟩
end
/-! ### it is called by the def that got it -/
/-- that def's context, entered at s -/
abbrev gotCx (X : Cx) (Ng : List Str) (x : Str) (sg : Scope) (g : Addr) (cdg : Value) (s : Shared) (H : Hp) : Cx := cxOf CX0 X.prog X.w X.K X.mg X.base Ng x sg g cdg X.A X.stack s H E0
/-- a(e), a's slot the i-th: e's reading, then the lambda's of e's value -/
def tAct (i : Nat) (f c' : Addr) (q : Str) (ta : TA) (W : WX) (tl : XK → V → Hp → VK → Prop) : TE := fun σ H Q => σ[i]? = some (some (.ref f)) ∧ ta σ H fun vs H1 => ∃ v, vs = [v] ∧ H1 c' = some (LamX.CodeO c' q) ∧ tl (fun cls d H' => W cls d σ H') v H1 Q
theorem pe_actP {X : Cx} {pins : List (Addr × Obj)} {σ : L2.St} {H : Hp} {s : Shared} {scope : Scope} {p x a : Str} {f c' g : Addr} {k i : Nat} {params : Arguments} {b e : Expr} {pm ctv cdg : Value} {tb : XK → TE} {ta : TA} {Ng : List Str} {sg : Scope} {pn : List (Addr × Obj)} {xe : Value → Shared → Prop} {W : WX} {p1 p2 : Pos}
    (I : Inv X pins σ H s) (L : LamP X.env.scope scope p) (np : ∀ (i : Nat) (v : V), X.N[i]? = some p → σ[i]? = some (some v) → False) (hf : s.heap.get? f = some (PySem.W.kla_obj "<lambda>" (X.env.qual ++ "<lambda>") params b scope (cloFrom X.env.cells scope.names []) pm c' ctv)) (hfn : H f = none) (hfr : f ∉ frs X.stack)
    (bind : ∀ u, bindArgs (PySem.W.kla_fn "<lambda>" (X.env.qual ++ "<lambda>") params b scope (cloFrom X.env.cells scope.names []) pm (.ref c') ctv) ⟨[u], []⟩ = pure [(p, u)])
    (tk : Takes ((gotCx X Ng x sg g cdg s H).tr pn xe) W) (room : Room (k + 1) (X.A.deeper (envOfC x sg s.heap.objs.size g cdg)))
    (body : ∀ (A : Around) (outer : List Env) (s : Shared) (H : Hp) (E : XK), Room k (A.deeper (LamX.lamEnv X scope s.heap.objs.size f c')) → PE (cxP X A outer s H E scope p f c') b (tb E))
    (at_ : Ng[i]? = some a) (vis : Vis sg a) (args : PA ((gotCx X Ng x sg g cdg s H).tr pn xe) [e] ta)
    (star : starEach [e] ((gotCx X Ng x sg g cdg s H).tr pn xe).env = (false, eval e ((gotCx X Ng x sg g cdg s H).tr pn xe).env) :: starEach [] ((gotCx X Ng x sg g cdg s H).tr pn xe).env := by rfl)
    (d1 : (a == ("__debug__" : Str)) = false := by decide) (d2 : (a == ("__classdict__" : Str)) = false := by decide) :
    PE ((gotCx X Ng x sg g cdg s H).tr pn xe) (.Call (.Name a p1) [e] [] p2) (tAct i f c' (X.env.qual ++ "<lambda>") ta W fun E v H1 Q => tb E (σ ++ [some v]) H1 Q) := by
  constructor
  intro pz sz σz Hz Q Iz h
  obtain ⟨slot, ht⟩ := h
  refine wpAny_Call_Name_kw (thn ((pe_var (pos := p1) (i := i) at_ vis d1 d2).run pz sz σz Hz (fun v H1 => v = .ref f ∧ H1 = Hz) Iz ⟨.ref f, slot, rfl, rfl⟩) fun u s1 z => ?_)
  obtain ⟨v0, H1, I1, r1, rfl, rfl⟩ := z
  obtain rfl : u = Value.ref f := r1
  have still : ∀ {σ' : L2.St} {H' : Hp} {s' : Shared}, Inv ((gotCx X Ng x sg g cdg s H).tr pn xe) pz σ' H' s' → s'.heap.get? f = some (PySem.W.kla_obj "<lambda>" (X.env.qual ++ "<lambda>") params b scope (cloFrom X.env.cells scope.names []) pm c' ctv) := fun J => J.base.keep f _ hf hfn hfr (fun z => nomatch z)
  refine PySem.W.callWith_F ⟨_, _, _, _, still I1⟩ (thn (args.run p2 pz s1 σz H1 _ I1 ht) fun us s2 z => ?_) star rfl
  obtain ⟨vs, H2, I2, rv, v, rfl, hc, tl⟩ := z
  obtain ⟨u, rfl, ru⟩ := vals1 rv
  have e2 : Env0 X.prog X.w X.K X.mg X.base (X.A.deeper (envOfC x sg s.heap.objs.size g cdg)) (envOfC x sg s.heap.objs.size g cdg :: X.stack) s2 H2 := I2.env0
  have un : Un (frs X.stack) [] H H2 s.heap s2.heap := I2.base
  have run := lamP_run (X := X) (E := fun cls d H' => W cls d σz H') (k := k) (u := u) (Q := Q) I L np hf hfn hfr bind room e2 un hc (fun A outer s H rm => body A outer s H _ rm) ru tl
  refine ⟨⟨_, _, _, _, still I2⟩, wpAny_call (codeAny_mono run fun res s3 z => ?_)⟩
  cases res with
  | error er => exact tk er s3 (XE.of_call I2 (fun _ _ _ w => w) z)
  | ok fl =>
    cases fl with
    | ret u' => exact I2.after z
    | next => exact (show False from z).elim
    | brk => exact (show False from z).elim
    | cont => exact (show False from z).elim
/-- what the def makes of the lambda's reading tl and of the thing v: TT -/
def GivesP (X : Cx) (k : Nat) (Ng : List Str) (x : Str) (sg : Scope) (g : Addr) (cdg : Value) (bg : List Stmt) (a : Str) (q : Str) (TT : V → (XK → V → Hp → VK → Prop) → Hp → VK → Prop) : Prop :=
  ∀ (f c' : Addr) (v : V) (s : Shared) (H : Hp) (Q : VK) (tl : XK → V → Hp → VK → Prop), Room k (X.A.deeper (envOfC x sg s.heap.objs.size g cdg)) →
    (∀ (W : WX) (pn : List (Addr × Obj)) (xe : Value → Shared → Prop) (p1 p2 : Pos) (e : Expr) (ta : TA), Takes ((gotCx X Ng x sg g cdg s H).tr pn xe) W → PA ((gotCx X Ng x sg g cdg s H).tr pn xe) [e] ta →
      starEach [e] ((gotCx X Ng x sg g cdg s H).tr pn xe).env = (false, eval e ((gotCx X Ng x sg g cdg s H).tr pn xe).env) :: starEach [] ((gotCx X Ng x sg g cdg s H).tr pn xe).env →
      PE ((gotCx X Ng x sg g cdg s H).tr pn xe) (.Call (.Name a p1) [e] [] p2) (tAct 0 f c' q ta W tl)) →
    H c' = some (LamX.CodeO c' q) → TT v tl H Q →
    ∃ t, PSs (gotCx X Ng x sg g cdg s H).nox bg t ∧ t { nx := fun _ H' => Q .non H', rt := Q } (L2.start Ng [.ref f, v]) H
/-- the lambda is made: all but the table at P is as it was -/
theorem lam_new {X : Cx} {pins : List (Addr × Obj)} {σ : L2.St} {H : Hp} {s : Shared} {c P : Addr} {params : Arguments} {b : Expr} {scope : Scope} {pos : Pos} {E Q : Value → Shared → Prop} (J : Inv X pins σ H s) (tab : LamX.TabB X.base X.mg c P) (own : X.env.code = .ref c)
    (t0 : LamX.TabS H P (X.env.qual ++ "<lambda>")) (nodef : defaultsOf params X.env = ([], [])) (has : ∀ y ∈ scope.names, y.2 = .free → ∃ c, X.env.cells.lookup y.1 = some c)
    (go : ∀ (f c' : Addr) (pm ctv : Value) (H1 : Hp) (s1 : Shared), Inv X pins σ H1 s1 → But P H H1 → LamX.TabS H1 P (X.env.qual ++ "<lambda>") → s1.heap.get? f = some (PySem.W.kla_obj "<lambda>" (X.env.qual ++ "<lambda>") params b scope (cloFrom X.env.cells scope.names []) pm c' ctv) →
      H1 f = none → f ∉ frs X.stack → H1 c' = some (LamX.CodeO c' (X.env.qual ++ "<lambda>")) → Q (.ref f) s1) : wpAny (model X.prog X.w) X.A (eval (.Lambda params b scope pos) X.env) Q E s := by
  have seen := t0
  obtain ⟨ps, atP, tri, each⟩ := seen
  have blt : s.heap.BuiltinsAt X.mg P := tab.bm.keeps J.bk
  have objP : s.heap.get? P = some { cls := .none, data := .fields ps } := J.hok P _ atP
  have far : ∀ f, s.heap.objs.size ≤ f → f ∉ frs X.stack := fun f le m => by
    rcases List.mem_cons.mp (J.stkSub _ m) with e | e
    · have lt := J.lt
      rw [← e] at lt
      exact absurd (Nat.lt_of_lt_of_le lt le) (Nat.lt_irrefl _)
    · exact J.nofs le e
  refine PySem.W.kla_eval nodef ?_
  cases found : codeAmong pos ps.toList with
  | some cv =>
    obtain ⟨c', rfl, here⟩ := each pos cv found
    refine PySem.W.kla_makeFunctionHit (P := P) (c := c) (mg := X.mg) (ps := ps) (closure_ok has) J.ok.glob (J.mod.glob.keeps J.bk) own (tab.code.keeps J.bk) objP tri found blt fun ctv h' tk kept le => ?_
    have J1 : Inv X pins σ H { s with heap := h'.push (PySem.W.kla_obj "<lambda>" (X.env.qual ++ "<lambda>") params b scope (cloFrom X.env.cells scope.names []) ((X.mg "__name__").getD .none) c' ctv), toks := tk } := J.kept fun _ _ e => Heap.get?_push_of_some _ (kept _ _ e)
    exact go _ c' _ ctv H _ J1 .refl t0 (Heap.get?_push_size _ rfl) (J.hok.fresh le) (far _ le) here
  | none =>
    refine PySem.W.kla_makeFunction (P := P) (c := c) (mg := X.mg) (ps := ps) (closure_ok has) J.ok.glob (J.mod.glob.keeps J.bk) own (tab.code.keeps J.bk) objP tri found tab.gP blt fun c' ctv h' tk kept ge lt rec_ grown => ?_
    obtain ⟨c2, oc, vs, tk2, e2, atC, dat, nm⟩ := rec_
    cases e2
    have le : s.heap.objs.size ≤ h'.objs.size := Nat.le_trans ge (Nat.le_of_lt lt)
    have newC : H c' = none := J.hok.fresh ge
    have J1 := LamX.inv_table (t' := tk) (more := #[rawInt pos.line, rawInt pos.col, .ref c']) (h' := h'.push (PySem.W.kla_obj "<lambda>" (X.env.qual ++ "<lambda>") params b scope (cloFrom X.env.cells scope.names []) ((X.mg "__name__").getD .none) c' ctv)) J atP
      (fun _ _ nb e => Heap.get?_push_of_some _ (kept _ _ nb e)) (Heap.get?_push_of_some _ grown) ge ⟨oc, vs, tk2, Heap.get?_push_of_some _ atC, dat, nm⟩
    have but : But P H (upd (upd H P (.tbl (ps ++ #[rawInt pos.line, rawInt pos.col, .ref c']))) c' (LamX.CodeO c' (X.env.qual ++ "<lambda>"))) := fun d o e n => by
      rw [upd_ne (ne_of_none e newC), upd_ne n]
      exact e
    have toL : (ps ++ #[rawInt pos.line, rawInt pos.col, .ref c']).toList = ps.toList ++ [rawInt pos.line, rawInt pos.col, .ref c'] := by simp
    have away : ∀ {d : Addr} {q : Str}, H d = some (LamX.CodeO d q) → d ≠ P := fun {d q} e z => by
      rw [z, atP] at e
      exact LamX.codeO_ne ps (Option.some.inj e).symm
    refine go h'.objs.size c' _ ctv _ _ J1 but ⟨ps ++ #[rawInt pos.line, rawInt pos.col, .ref c'], ?_, ?_, fun p' cv among => ?_⟩ (Heap.get?_push_size _ rfl) ?_ (far _ le) upd_same
    · rw [upd_ne (ne_of_none atP newC), upd_same]
    · rw [toL]
      exact PySem.TriplesOk_snoc _ _ _ _ tri
    · rw [toL] at among
      rcases LamX.among_app _ tri among with z | z
      · obtain ⟨c0, e1, e2⟩ := each p' cv z
        exact ⟨c0, e1, but _ _ e2 (away e2)⟩
      · exact ⟨c', z, upd_same⟩
    · rw [upd_ne (Nat.ne_of_gt lt), upd_ne (Nat.ne_of_gt (Nat.lt_of_lt_of_le (Heap.lt_size objP) le))]
      exact J.hok.fresh le
def tLamP (P : Addr) (qn : Str) (TT : V → (XK → V → Hp → VK → Prop) → Hp → VK → Prop) (t : XK → TE) (ta : TA) : TE := fun σ H Q => LamX.TabS H P qn ∧ ∀ H1, But P H H1 → LamX.TabS H1 P qn → ta σ H1 fun vs H2 => ∃ v, vs = [v] ∧ LamX.ExtN H1 H2 ∧ TT v (fun E v H' Q' => t E (σ ++ [some v]) H' Q') H2 Q
theorem pinned_one {X : Cx} {pins : List (Addr × Obj)} {σ : L2.St} {H : Hp} {s : Shared} {f : Addr} {o : Obj} {fd : FuncData} (I : Inv X pins σ H s) (hf : s.heap.get? f = some o) (hd : o.data = .func fd) (hn : H f = none) (hfr : f ∉ frs X.stack) : Inv X ((f, o) :: pins) σ H s := by
  refine ⟨I.ok, I.os, I.bare, I.base, I.loc, I.cell, I.free, I.freeC, fun q hq => ?_, I.hok, I.len⟩
  rcases List.mem_append.mp hq with z | z
  · exact I.pin q (List.mem_append_left _ z)
  · rcases List.mem_cons.mp z with e | z
    · subst e
      refine ⟨hf, hn, fun e => ?_, fun m => hfr ?_, fun v e => ?_⟩
      · obtain ⟨m, ⟨ol, es, ep, el, dl, _⟩, _⟩ := I.loc
        have e' : f = X.env.locals := e
        rw [← e', hf] at el
        cases el
        rw [hd] at dl
        cases dl
      · rcases I.ok.stk with st | ⟨st, _⟩
        · rw [st]
          exact m
        · rw [st]
          obtain ⟨e1, m1, m2⟩ := List.mem_filterMap.mp m
          exact List.mem_filterMap.mpr ⟨e1, List.mem_cons_of_mem _ m1, m2⟩
      · have e' : o.data = .cell v := e
        rw [hd] at e'
        cases e'
    · exact I.pin q (List.mem_append_right _ z)
theorem unpin_one {X : Cx} {pins : List (Addr × Obj)} {σ : L2.St} {H : Hp} {s : Shared} {q : Addr × Obj} (I : Inv X (q :: pins) σ H s) : Inv X pins σ H s := by
  refine ⟨I.ok, I.os, I.bare, I.base, I.loc, I.cell, I.free, I.freeC, fun z hz => I.pin z ?_, I.hok, I.len⟩
  rcases List.mem_append.mp hz with m | m
  · exact List.mem_append_left _ m
  · exact List.mem_append_right _ (List.mem_cons_of_mem _ m)
/-- x(lambda p: b, e) -/
theorem pe_lamP {X : Cx} {TT : V → (XK → V → Hp → VK → Prop) → Hp → VK → Prop} {x a a2 p : Str} {g c P : Addr} {k : Nat} {pg : Arguments} {bg : List Stmt} {sg : Scope} {dV kV doc pm cdv ct oc : Value} {an od : Option Addr} {osl : Array (Option Value)} {Ng : List Str} {params : Arguments} {b e : Expr} {scope : Scope} {t : XK → TE} {ta : TA} {pp lpos pos : Pos}
    (gl : Gl X x) (mg : X.mg x = some (.ref g)) (keep : PySem.W.keepIn X.K (.ref g) = true) (look : X.K.lookup g = some ⟨oc, od, .func (PySem.W.fnOf x x pg bg sg dV kV doc pm an cdv ct), osl⟩) (code : PySem.W.codeIn X.K cdv x = true)
    (binds : L2.Binds X.K (PySem.W.fnOf x x pg bg sg dV kV doc pm an cdv ct) [a, a2] []) (S : FnScope Ng [a, a2] sg) (at0 : Ng[0]? = some a) (vis : Vis sg a) (gives : GivesP X (k + 1) Ng x sg g cdv bg a (X.env.qual ++ "<lambda>") TT)
    (TB : LamX.TabB X.base X.mg c P) (own : X.env.code = .ref c) (room : Room (k + 2) X.A) (L : LamP X.env.scope scope p) (np : p ∉ X.N) (nodef : defaultsOf params X.env = ([], []))
    (bind : ∀ (q : Str) (cl : List (Str × Addr)) (pm cv ctv u : Value), bindArgs (PySem.W.kla_fn "<lambda>" q params b scope cl pm cv ctv) ⟨[u], []⟩ = pure [(p, u)])
    (body : ∀ (A : Around) (outer : List Env) (s : Shared) (H : Hp) (E : XK) (f c' : Addr), Room k (A.deeper (LamX.lamEnv X scope s.heap.objs.size f c')) → PE (cxP X A outer s H E scope p f c') b (t E)) (args : PA X [e] ta)
    (star : starEach (.Lambda params b scope lpos :: [e]) X.env = (false, eval (.Lambda params b scope lpos) X.env) :: starEach [e] X.env := by rfl) (plain : (backTo pos (starEach [e] X.env)).any (·.1) = false := by rfl)
    (d0 : (x == ("__debug__" : Str)) = false := by decide) (d1 : (a == ("__debug__" : Str)) = false := by decide) (d2 : (a == ("__classdict__" : Str)) = false := by decide) :
    PE X (.Call (.Name x pp) [.Lambda params b scope lpos, e] [] pos) (tLamP P (X.env.qual ++ "<lambda>") TT t ta) := by
  constructor
  intro pins s σ H Q I h
  obtain ⟨hT, h⟩ := h
  refine wpAny_Call_Name_kw (ld_glob I gl mg ?_ d0)
  refine PySem.W.callWith_K (h₀ := X.base) I.ok.mod.kin keep ?_ star plain
  rw [star]
  show wpAny _ _ (spliced ((false, eval (.Lambda params b scope lpos) X.env) :: backTo pos (starEach [e] X.env))) _ _ s
  refine Calls.spliced_cons (lam_new I TB own hT nodef (fun y hy z => L.has I.ok hy z) fun f c' pm' ctv H1 s1 I1 ext T1 hf hfn hfr hco => ?_)
  have Ip := pinned_one I1 hf rfl hfn hfr
  refine thn (args.run pos _ s1 σ H1 _ Ip (h H1 ext T1)) fun us s2 z => ?_
  obtain ⟨vs, H2, I2, rv, v, rfl, ext2, tt⟩ := z
  obtain ⟨u, rfl, ru⟩ := vals1 rv
  have f2 := I2.pin (f, _) (List.mem_append_right _ List.mem_cons_self)
  have co2 : H2 c' = some (LamX.CodeO c' (X.env.qual ++ "<lambda>")) := ext2 _ _ hco (LamX.codeO_ne)
  refine ⟨I2.kIn, ?_⟩
  have run : codeAny (model X.prog X.w) X.A (.call (.ref g) ⟨[.ref f, u], []⟩) (CR CX0 X.stack X.prog X.w H2 s2 Q E0) s2 := by
    refine LamX.run_ofS (N := Ng) (ps := [a, a2]) (us := [.ref f, u]) (vs := [.ref f, v]) look code S room I2.env0 (binds s2 [.ref f, u] I2.kIn rfl) (.cons rfl (.cons ru .nil)) rfl fun hr' => ?_
    obtain ⟨t', ht', q'⟩ := gives f c' v s2 H2 Q (fun E v H' Q' => t E (σ ++ [some v]) H' Q') hr' (fun W pn xe p1 p2 e ta tk args star => pe_actP (k := k) I2 L (fun i v e _ => np (List.mem_of_getElem? e)) f2.1 f2.2.1 hfr (fun u => bind _ _ _ _ _ u) tk hr' (fun A outer s H E rm => body A outer s H E f c' rm) at0 vis args star d1 d2) co2 tt
    exact ⟨t', ht'.nox, q'⟩
  refine wpAny_call (codeAny_mono run fun res s3 z => ?_)
  cases res with
  | error er => exact (show False from z).elim
  | ok fl =>
    cases fl with
    | ret u' =>
      obtain ⟨v', H', J, r', q'⟩ := I2.after z
      exact ⟨v', H', unpin_one J, r', q'⟩
    | next => exact (show False from z).elim
    | brk => exact (show False from z).elim
    | cont => exact (show False from z).elim
/-- the same by the def's own facts -/
theorem pe_lamF {X : Cx} {TT : V → (XK → V → Hp → VK → Prop) → Hp → VK → Prop} {x a a2 p : Str} {g c P : Addr} {k : Nat} {st : Stmt} {fd : FuncData} {Ng : List Str} {params : Arguments} {b e : Expr} {scope : Scope} {t : XK → TE} {ta : TA} {pp lpos pos : Pos}
    (gl : Gl X x) (mg : X.mg x = some (.ref g)) (F : Fun X.K x x st g fd) (binds : L2.Binds X.K fd [a, a2] []) (S : FnScope Ng [a, a2] (defScope st)) (at0 : Ng[0]? = some a) (vis : Vis (defScope st) a) (gives : ∀ cdg, GivesP X (k + 1) Ng x (defScope st) g cdg (defBody st) a (X.env.qual ++ "<lambda>") TT)
    (TB : LamX.TabB X.base X.mg c P) (own : X.env.code = .ref c) (room : Room (k + 2) X.A) (L : LamP X.env.scope scope p) (np : p ∉ X.N) (nodef : defaultsOf params X.env = ([], []))
    (bind : ∀ (q : Str) (cl : List (Str × Addr)) (pm cv ctv u : Value), bindArgs (PySem.W.kla_fn "<lambda>" q params b scope cl pm cv ctv) ⟨[u], []⟩ = pure [(p, u)])
    (body : ∀ (A : Around) (outer : List Env) (s : Shared) (H : Hp) (E : XK) (f c' : Addr), Room k (A.deeper (LamX.lamEnv X scope s.heap.objs.size f c')) → PE (cxP X A outer s H E scope p f c') b (t E)) (args : PA X [e] ta)
    (star : starEach (.Lambda params b scope lpos :: [e]) X.env = (false, eval (.Lambda params b scope lpos) X.env) :: starEach [e] X.env := by rfl) (plain : (backTo pos (starEach [e] X.env)).any (·.1) = false := by rfl)
    (d0 : (x == ("__debug__" : Str)) = false := by decide) (d1 : (a == ("__debug__" : Str)) = false := by decide) (d2 : (a == ("__classdict__" : Str)) = false := by decide) :
    PE X (.Call (.Name x pp) [.Lambda params b scope lpos, e] [] pos) (tLamP P (X.env.qual ++ "<lambda>") TT t ta) := by
  have keep := F.kp
  obtain ⟨oc, od, kV, doc, pm, an, cdv, ct, osl, rfl, lk, hcd⟩ := F.ex
  exact pe_lamP gl mg keep lk hcd binds S at0 vis (gives cdv) TB own room L np nodef bind body args star plain d0 d1 d2

/-! ### a lambda given as the second thing: x(e, lambda p: b) -/
/-- what the def makes of the thing v and of the lambda's reading tl: TT -/
def GivesP2 (X : Cx) (k : Nat) (Ng : List Str) (x : Str) (sg : Scope) (g : Addr) (cdg : Value) (bg : List Stmt) (a : Str) (q : Str) (TT : V → (XK → V → Hp → VK → Prop) → Hp → VK → Prop) : Prop :=
  ∀ (f c' : Addr) (v : V) (s : Shared) (H : Hp) (Q : VK) (tl : XK → V → Hp → VK → Prop), Room k (X.A.deeper (envOfC x sg s.heap.objs.size g cdg)) →
    (∀ (W : WX) (pn : List (Addr × Obj)) (xe : Value → Shared → Prop) (p1 p2 : Pos) (e : Expr) (ta : TA), Takes ((gotCx X Ng x sg g cdg s H).tr pn xe) W → PA ((gotCx X Ng x sg g cdg s H).tr pn xe) [e] ta →
      starEach [e] ((gotCx X Ng x sg g cdg s H).tr pn xe).env = (false, eval e ((gotCx X Ng x sg g cdg s H).tr pn xe).env) :: starEach [] ((gotCx X Ng x sg g cdg s H).tr pn xe).env →
      PE ((gotCx X Ng x sg g cdg s H).tr pn xe) (.Call (.Name a p1) [e] [] p2) (tAct 1 f c' q ta W tl)) →
    H c' = some (LamX.CodeO c' q) → TT v tl H Q →
    ∃ t, PSs (gotCx X Ng x sg g cdg s H).nox bg t ∧ t { nx := fun _ H' => Q .non H', rt := Q } (L2.start Ng [v, .ref f]) H
/-- nothing stands in a slot of this name -/
def NoVal (p : Str) : List Str → L2.St → Prop
  | x :: N, o :: σ => (x = p → o = none) ∧ NoVal p N σ
  | _, _ => True
theorem NoVal.at {p : Str} : ∀ {N : List Str} {σ : L2.St}, NoVal p N σ → ∀ (i : Nat) (v : V), N[i]? = some p → σ[i]? = some (some v) → False
  | [], _, _, i, v, e, _ => by cases i <;> cases e
  | _ :: _, [], _, i, v, _, e => by cases i <;> cases e
  | x :: N, o :: σ, h, 0, v, e1, e2 => by
    have e1 : x = p := Option.some.inj e1
    have e2 : o = some v := Option.some.inj e2
    rw [h.1 e1] at e2
    cases e2
  | x :: N, o :: σ, h, i + 1, v, e1, e2 => NoVal.at (N := N) (σ := σ) h.2 i v e1 e2
def tLamP2 (N : List Str) (p : Str) (P : Addr) (qn : Str) (TT : V → (XK → V → Hp → VK → Prop) → Hp → VK → Prop) (t : XK → TE) (te : TE) : TE := fun σ H Q => NoVal p N σ ∧ te σ H fun v H1 => LamX.TabS H1 P qn ∧ ∀ H2, But P H1 H2 → LamX.TabS H2 P qn → TT v (fun E v H' Q' => t E (σ ++ [some v]) H' Q') H2 Q
theorem pe_lamP2 {X : Cx} {TT : V → (XK → V → Hp → VK → Prop) → Hp → VK → Prop} {x a a1 p : Str} {g c P : Addr} {k : Nat} {pg : Arguments} {bg : List Stmt} {sg : Scope} {dV kV doc pm cdv ct oc : Value} {an od : Option Addr} {osl : Array (Option Value)} {Ng : List Str} {params : Arguments} {b e : Expr} {scope : Scope} {t : XK → TE} {te : TE} {pp lpos pos : Pos}
    (gl : Gl X x) (mg : X.mg x = some (.ref g)) (keep : PySem.W.keepIn X.K (.ref g) = true) (look : X.K.lookup g = some ⟨oc, od, .func (PySem.W.fnOf x x pg bg sg dV kV doc pm an cdv ct), osl⟩) (code : PySem.W.codeIn X.K cdv x = true)
    (binds : L2.Binds X.K (PySem.W.fnOf x x pg bg sg dV kV doc pm an cdv ct) [a1, a] []) (S : FnScope Ng [a1, a] sg) (at1 : Ng[1]? = some a) (vis : Vis sg a) (gives : GivesP2 X (k + 1) Ng x sg g cdv bg a (X.env.qual ++ "<lambda>") TT)
    (TB : LamX.TabB X.base X.mg c P) (own : X.env.code = .ref c) (room : Room (k + 2) X.A) (L : LamP X.env.scope scope p) (nodef : defaultsOf params X.env = ([], []))
    (bind : ∀ (q : Str) (cl : List (Str × Addr)) (pm cv ctv u : Value), bindArgs (PySem.W.kla_fn "<lambda>" q params b scope cl pm cv ctv) ⟨[u], []⟩ = pure [(p, u)])
    (body : ∀ (A : Around) (outer : List Env) (s : Shared) (H : Hp) (E : XK) (f c' : Addr), Room k (A.deeper (LamX.lamEnv X scope s.heap.objs.size f c')) → PE (cxP X A outer s H E scope p f c') b (t E)) (arg : PE X e te)
    (star : starEach (e :: [.Lambda params b scope lpos]) X.env = (false, eval e X.env) :: starEach [.Lambda params b scope lpos] X.env := by rfl) (star2 : starEach [.Lambda params b scope lpos] X.env = (false, eval (.Lambda params b scope lpos) X.env) :: starEach [] X.env := by rfl) (plain : (backTo pos (starEach [.Lambda params b scope lpos] X.env)).any (·.1) = false := by rfl)
    (d0 : (x == ("__debug__" : Str)) = false := by decide) (d1 : (a == ("__debug__" : Str)) = false := by decide) (d2 : (a == ("__classdict__" : Str)) = false := by decide) :
    PE X (.Call (.Name x pp) [e, .Lambda params b scope lpos] [] pos) (tLamP2 X.N p P (X.env.qual ++ "<lambda>") TT t te) := by
  constructor
  intro pins s σ H Q I h
  obtain ⟨np, h⟩ := h
  refine wpAny_Call_Name_kw (ld_glob I gl mg ?_ d0)
  refine PySem.W.callWith_K (h₀ := X.base) I.ok.mod.kin keep ?_ star plain
  rw [star]
  show wpAny _ _ (spliced ((false, eval e X.env) :: backTo pos (starEach [.Lambda params b scope lpos] X.env))) _ _ s
  refine Calls.spliced_cons (thn (arg.run pins s σ H _ I h) fun u s1 z => ?_)
  obtain ⟨v, H1, I1, ru, hT, h1⟩ := z
  rw [star2]
  show wpAny _ _ (spliced ((false, eval (.Lambda params b scope lpos) X.env) :: backTo pos (starEach [] X.env))) _ _ s1
  refine Calls.spliced_cons (lam_new I1 TB own hT nodef (fun y hy z => L.has I1.ok hy z) fun f c' pm' ctv H2 s2 I2 ext T2 hf hfn hfr hco => ?_)
  refine Calls.spliced_nil ?_
  have tt := h1 H2 ext T2
  refine ⟨I2.kIn, ?_⟩
  have run : codeAny (model X.prog X.w) X.A (.call (.ref g) ⟨[u, .ref f], []⟩) (CR CX0 X.stack X.prog X.w H2 s2 Q E0) s2 := by
    refine LamX.run_ofS (N := Ng) (ps := [a1, a]) (us := [u, .ref f]) (vs := [v, .ref f]) look code S room I2.env0 (binds s2 [u, .ref f] I2.kIn rfl) (.cons ru (.cons rfl .nil)) rfl fun hr' => ?_
    obtain ⟨t', ht', q'⟩ := gives f c' v s2 H2 Q (fun E v H' Q' => t E (σ ++ [some v]) H' Q') hr' (fun W pn xe p1 p2 e ta tk args star => pe_actP (k := k) I2 L (NoVal.at np) hf hfn hfr (fun u => bind _ _ _ _ _ u) tk hr' (fun A outer s H E rm => body A outer s H E f c' rm) at1 vis args star d1 d2) hco tt
    exact ⟨t', ht'.nox, q'⟩
  refine wpAny_call (codeAny_mono run fun res s3 z => ?_)
  cases res with
  | error er => exact (show False from z).elim
  | ok fl =>
    cases fl with
    | ret u' => exact I2.after z
    | next => exact (show False from z).elim
    | brk => exact (show False from z).elim
    | cont => exact (show False from z).elim
theorem pe_lamF2 {X : Cx} {TT : V → (XK → V → Hp → VK → Prop) → Hp → VK → Prop} {x a a1 p : Str} {g c P : Addr} {k : Nat} {st : Stmt} {fd : FuncData} {Ng : List Str} {params : Arguments} {b e : Expr} {scope : Scope} {t : XK → TE} {te : TE} {pp lpos pos : Pos}
    (gl : Gl X x) (mg : X.mg x = some (.ref g)) (F : Fun X.K x x st g fd) (binds : L2.Binds X.K fd [a1, a] []) (S : FnScope Ng [a1, a] (defScope st)) (at1 : Ng[1]? = some a) (vis : Vis (defScope st) a) (gives : ∀ cdg, GivesP2 X (k + 1) Ng x (defScope st) g cdg (defBody st) a (X.env.qual ++ "<lambda>") TT)
    (TB : LamX.TabB X.base X.mg c P) (own : X.env.code = .ref c) (room : Room (k + 2) X.A) (L : LamP X.env.scope scope p) (nodef : defaultsOf params X.env = ([], []))
    (bind : ∀ (q : Str) (cl : List (Str × Addr)) (pm cv ctv u : Value), bindArgs (PySem.W.kla_fn "<lambda>" q params b scope cl pm cv ctv) ⟨[u], []⟩ = pure [(p, u)])
    (body : ∀ (A : Around) (outer : List Env) (s : Shared) (H : Hp) (E : XK) (f c' : Addr), Room k (A.deeper (LamX.lamEnv X scope s.heap.objs.size f c')) → PE (cxP X A outer s H E scope p f c') b (t E)) (arg : PE X e te)
    (star : starEach (e :: [.Lambda params b scope lpos]) X.env = (false, eval e X.env) :: starEach [.Lambda params b scope lpos] X.env := by rfl) (star2 : starEach [.Lambda params b scope lpos] X.env = (false, eval (.Lambda params b scope lpos) X.env) :: starEach [] X.env := by rfl) (plain : (backTo pos (starEach [.Lambda params b scope lpos] X.env)).any (·.1) = false := by rfl)
    (d0 : (x == ("__debug__" : Str)) = false := by decide) (d1 : (a == ("__debug__" : Str)) = false := by decide) (d2 : (a == ("__classdict__" : Str)) = false := by decide) :
    PE X (.Call (.Name x pp) [e, .Lambda params b scope lpos] [] pos) (tLamP2 X.N p P (X.env.qual ++ "<lambda>") TT t te) := by
  have keep := F.kp
  obtain ⟨oc, od, kV, doc, pm, an, cdv, ct, osl, rfl, lk, hcd⟩ := F.ex
  exact pe_lamP2 gl mg keep lk hcd binds S at1 vis (gives cdv) TB own room L nodef bind body arg star star2 plain d0 d1 d2

/-! ### a law called from the caller itself: nothing is shown around it -/
/-- at the law's call: its tables are empty, the script is frozen (or known by K) -/
def lawH (K : PySem.W.Frag) (cs : List (Addr × Addr)) (a : Addr) (o : Obj) (ns : List Int) : Hp := fun b => if b ∈ cs.map (·.2) then some (.tbl #[]) else if b = a ∧ K.lookup a = none then some (.frz o (.lst (ns.map V.int))) else none
theorem lawH_some {K : PySem.W.Frag} {cs : List (Addr × Addr)} {a b : Addr} {o : Obj} {ns : List Int} {u : HO} (h : lawH K cs a o ns b = some u) : (b ∈ cs.map (·.2) ∧ u = .tbl #[]) ∨ (b = a ∧ K.lookup a = none ∧ u = .frz o (.lst (ns.map V.int))) := by
  unfold lawH at h
  split at h
  · rename_i m
    exact .inl ⟨m, (Option.some.inj h).symm⟩
  · split at h
    · rename_i m
      exact .inr ⟨m.1, m.2, (Option.some.inj h).symm⟩
    · cases h
theorem call_law {P : Program} {w : World} {K : PySem.W.Frag} {mg mb : Str → Option Value} {fa a : Addr} {cs : List (Addr × Addr)} {s : Shared} {vs : List Value} {ns : List Int} (kin : K.In s.heap) (gl : s.heap.Ns mainGlobals mg) (bi : s.heap.Ns builtinsNs mb)
    (boot : ∀ x : Str, x ≠ "__name__" → mb x = bootBuiltins x) (lim : s.heap.NoLimit) (gens : s.gens = #[]) (tabs : ∀ p ∈ cs, s.heap.get? p.2 = some { cls := .none, data := .fields #[] }) (away : ∀ p ∈ cs, K.lookup p.2 = none) (code : ∀ p ∈ cs, PySem.W.CodeHd s.heap p.1 p.2)
    (bm : ∃ (bm : Addr) (ob : Obj), mg "__builtins__" = some (.ref bm) ∧ bm ≠ builtinsNs ∧ s.heap.get? bm = some ob ∧ ob.cls = .type "module" ∧ ob.dict = some builtinsNs ∧ ob.data = .plain) (scr : s.heap.get? a = some { cls := .type "list", data := .seq vs.toArray }) (iar : IntsAre vs ns) (len : ns.length ≤ sizeLine)
    (run : ∀ (base : Heap) (H : Hp), (∀ p ∈ cs, LamX.TabB base mg p.1 p.2) → Env0 P w K mg base callerA [] s H → (∀ p ∈ cs, H p.2 = some (.tbl #[])) → SqL K H a (ns.map V.int) →
      codeAny (model P w) callerA (.call (.ref fa) ⟨[.ref a], []⟩) (CR CX0 [] P w H s (fun v _ => v = .bl true) E0) s) :
    codeAny (model P w) callerA (.call (.ref fa) ⟨[.ref a], []⟩) (fun r s' => r = .ok (.ret (.bool true)) ∧ OldK s.heap s'.heap ∧ s'.os = s.os ∧ AllBare s'.gens) s := by
  have rel := vals_ints iar
  have tabAt : ∀ {b : Addr}, b ∈ cs.map (·.2) → s.heap.get? b = some { cls := .none, data := .fields #[] } := fun {b} m => by
    obtain ⟨p, hp, rfl⟩ := List.mem_map.mp m
    exact tabs p hp
  have notTab : a ∉ cs.map (·.2) := fun m => by
    have z := (tabAt m).symm.trans scr
    have z2 := congrArg Obj.data (Option.some.inj z)
    cases z2
  generalize hH : lawH K cs a { cls := .type "list", data := .seq vs.toArray } ns = H
  have some_ : ∀ {b : Addr} {u : HO}, H b = some u → (b ∈ cs.map (·.2) ∧ u = .tbl #[]) ∨ (b = a ∧ K.lookup a = none ∧ u = .frz { cls := .type "list", data := .seq vs.toArray } (.lst (ns.map V.int))) := fun {b u} e => by
    rw [← hH] at e
    exact lawH_some e
  have tabH : ∀ p ∈ cs, H p.2 = some (.tbl #[]) := fun p hp => by
    rw [← hH]
    exact if_pos (List.mem_map.mpr ⟨p, hp, rfl⟩)
  -- what is neither a list nor an empty table isn't tracked
  have loose : ∀ {b : Addr} {ob : Obj}, s.heap.get? b = some ob → (∀ xs n, ob.data ≠ .seq xs n) → ob.data ≠ .fields #[] → H b = none := fun {b ob} e n1 n2 => by
    cases q : H b with
    | none => rfl
    | some u =>
      rcases some_ q with ⟨m, _⟩ | ⟨rfl, _⟩
      · rw [tabAt m] at e
        cases e
        exact absurd rfl n2
      · rw [scr] at e
        cases e
        exact absurd rfl (n1 _ _)
  have nsOn : ∀ {b : Addr} {m : Str → Option Value}, s.heap.Ns b m → (hidT s.heap H).Ns b m := fun {b m} z => by
    obtain ⟨o, es, ep, e, d, r⟩ := z
    refine ⟨o, es, ep, hidT_get e (loose e (fun _ _ q => ?_) fun q => ?_), d, r⟩
    · rw [d] at q
      cases q
    · rw [d] at q
      cases q
  have kin' : K.In (hidT s.heap H) := fun b o e => hidT_get (kin b o e) (by
    cases q : H b with
    | none => rfl
    | some u =>
      rcases some_ q with ⟨m, _⟩ | ⟨rfl, n, _⟩
      · obtain ⟨p, hp, rfl⟩ := List.mem_map.mp m
        rw [away p hp] at e
        cases e
      · rw [n] at e
        cases e)
  have hok : HOk P w H s.heap := fun b u e => by
    rcases some_ e with ⟨m, rfl⟩ | ⟨rfl, _, rfl⟩
    · exact tabAt m
    · exact ⟨scr, by rw [List.length_map]; exact len, vs, _, rel, scr⟩
  have sq : SqL K H a (ns.map V.int) := by
    cases q : K.lookup a with
    | none =>
      refine .inl (.inr ⟨{ cls := .type "list", data := .seq vs.toArray }, ?_⟩)
      rw [← hH]
      exact (if_neg notTab).trans (if_pos ⟨rfl, q⟩)
    | some o =>
      have e := kin a o q
      rw [scr] at e
      cases e
      exact .inr ⟨_, vs.toArray, _, q, rfl, rfl, rfl, by rw [List.size_toArray, iar.length]; exact len, rel⟩
  have tb : ∀ p ∈ cs, LamX.TabB (hidT s.heap H) mg p.1 p.2 := fun p hp => by
    have pt := tabs p hp
    refine ⟨?_, ?_, fun e => ?_⟩
    · obtain ⟨o, us, fl, tf, fg, tg, iF, tx, tt, g1, g2, g3, g4, g5⟩ := code p hp
      refine ⟨o, us, fl, tf, fg, tg, iF, tx, tt, hidT_get g1 (loose g1 (fun _ _ q => ?_) fun q => ?_), g2, g3, g4, g5⟩
      · rw [g3] at q
        cases q
      · rw [g3] at q
        cases q
        simp at g4
    · obtain ⟨b, ob, m1, m2, m3, m4, m5, m6⟩ := bm
      refine ⟨b, ob, m1, m2, fun e => ?_, fun e => ?_, hidT_get m3 (loose m3 (fun _ _ q => ?_) fun q => ?_), m4, m5, m6⟩
      · obtain ⟨o, es, ep, e1, d1, _⟩ := gl
        rw [e, e1] at m3
        cases m3
        rw [d1] at m6
        cases m6
      · rw [e, pt] at m3
        cases m3
        cases m6
      · rw [m6] at q
        cases q
      · rw [m6] at q
        cases q
    · obtain ⟨o, es, ep, e1, d1, _⟩ := gl
      rw [e, pt] at e1
      cases e1
      cases d1
  have limOn : (hidT s.heap H).NoLimit := by
    obtain ⟨mc, l1, l2⟩ := lim
    exact ⟨mc, nsOn l1, l2⟩
  have env : Env0 P w K mg (hidT s.heap H) callerA [] s H := ⟨rfl, ⟨kin', nsOn gl, ⟨mb, nsOn bi, boot⟩, limOn⟩, fun b o e => of_hidT e, Nat.le_of_eq (hidT_size _ _), trivial, fun b hb => absurd (show b ∈ ([] : List Addr) from hb) List.not_mem_nil, hok, .of_eq gens⟩
  refine codeAny_mono (run _ H tb env tabH sq) fun r s' z => ?_
  cases r with
  | error e => exact (show False from z).elim
  | ok fl =>
    cases fl with
    | next => exact (show False from z).elim
    | brk => exact (show False from z).elim
    | cont => exact (show False from z).elim
    | ret u =>
      obtain ⟨v, H', os, bare, un, hok', rv, ev⟩ := z
      have ev : v = .bl true := ev
      subst ev
      obtain rfl : u = Value.bool true := rv
      have grown : ∀ p ∈ cs, ∃ more : Array Value, s'.heap.get? p.2 = some { cls := .none, data := .fields more } := fun p hp => by
        obtain ⟨more, q⟩ := un.tbls p.2 #[] (tabH p hp)
        exact ⟨_, hok' p.2 _ q⟩
      have stays : ∀ b o, b ∉ cs.map (·.2) → s.heap.get? b = some o → s'.heap.get? b = some o := fun b o nb e => by
        cases q : H b with
        | none => exact un.keep b o e q (fun z => absurd (show b ∈ ([] : List Addr) from z) List.not_mem_nil) List.not_mem_nil
        | some u =>
          rcases some_ q with ⟨m, _⟩ | ⟨_, _, rfl⟩
          · exact absurd m nb
          · have e1 := (hok b _ q).1
            have e2 := (hok' b _ (un.frzs b _ _ q)).1
            rw [e] at e1
            rw [Option.some.inj e1]
            exact e2
      refine ⟨rfl, ⟨fun b o e => ?_, fun b o e => ?_⟩, os, bare⟩
      · by_cases m : b ∈ cs.map (·.2)
        · obtain ⟨p, hp, rfl⟩ := List.mem_map.mp m
          obtain ⟨more, hm⟩ := grown p hp
          rw [tabs p hp] at e
          cases e
          exact .inr (.inl ⟨((code p hp).tab (tabs p hp)).isCodeTable, rfl, #[], more, rfl, by rw [Array.empty_append]; exact hm⟩)
        · exact .inl (stays b o m e)
      · by_cases m : b ∈ cs.map (·.2)
        · obtain ⟨p, hp, rfl⟩ := List.mem_map.mp m
          obtain ⟨more, hm⟩ := grown p hp
          exact ⟨_, hm⟩
        · exact ⟨o, stays b o m e⟩
theorem walk_law0 {l : PySem.W.OpenLaw} {most : Nat} {prog : Program} {lo : List Str} {XP : (Str → Option Value) → Heap → Prop} {YP : World → Heap → Prop} {df : DefRec} {K : Params → PySem.W.Frag} (names : List Str)
    (h1 : l.most = some most) (h2 : most ≤ sizeLine) (h3 : df.params.defaults = []) (recs : (names.all fun nm => (recsOf prog).any fun r => r.name == nm) = true) (kin : ∀ (w : World) (h : Heap), YP w h → (K w.params).In h)
    (at_ : ∀ (w : World) (mg : Str → Option Value) (fa : Addr) (h : Heap), (K w.params).In h → h.Ns mainGlobals mg → mg df.name = some (.ref fa) → (∀ nm ∈ names, TabAt mg h nm) →
      ∃ cs : List (Addr × Addr), (∀ p ∈ cs, h.get? p.2 = some { cls := .none, data := .fields #[] }) ∧ (∀ p ∈ cs, (K w.params).lookup p.2 = none) ∧ (∀ p ∈ cs, PySem.W.CodeHd h p.1 p.2) ∧
        ∀ (s : Shared) (H : Hp) (base : Heap) (a : Addr) (ns : List Int), ns.length ≤ most → (∀ z ∈ ns, Builtin.Int.intBits z ≤ 1048576) → (∀ p ∈ cs, LamX.TabB base mg p.1 p.2) → Env0 l.prog w (K w.params) mg base callerA [] s H → (∀ p ∈ cs, H p.2 = some (.tbl #[])) → SqL (K w.params) H a (ns.map V.int) →
          codeAny (model l.prog w) callerA (.call (.ref fa) ⟨[.ref a], []⟩) (CR CX0 [] l.prog w H s (fun v _ => v = .bl true) E0) s) :
    PySem.W.WalkO prog lo XP YP l.row.toRowW df [] (fun f vs => PySem.call f vs) := by
  refine Att.attach_callB h1 h3 fun w s0 s mg mb fa o pm cd doc a vs ns Gr Y _ _ _ name ob iar len bits gens => ?_
  have tabs : ∀ nm ∈ names, TabAt mg s.heap nm := fun nm hm => by
    obtain ⟨r, hr, er⟩ := List.any_eq_true.mp (List.all_eq_true.mp recs nm hm)
    obtain ⟨x1, x2, x3, x4, x5, y1, y2, y3, y4, _, y6⟩ := Gr.T.tab r hr
    rw [beq_iff_eq.mp er] at y1
    exact ⟨x1, x2, x3, x4, x5, y1, y2, y3, y4, y6⟩
  obtain ⟨cs, t1, t2, t3, go⟩ := at_ w mg fa _ (kin w _ Y) Gr.T.g name tabs
  exact call_law (kin w _ Y) Gr.T.g Gr.T.b Gr.T.builtins Gr.T.nolimit gens t1 t2 t3 Gr.T.bmain ob iar (Nat.le_trans len h2) fun base H tb e0 th sq => go s H base a ns len bits tb e0 th sq

/-! ### a law whose methods make lambdas -/
theorem walk_law1 {l : PySem.W.OpenLaw} {most : Nat} {prog : Program} {lo : List Str} {XP : (Str → Option Value) → Heap → Prop} {YP : World → Heap → Prop} {df : DefRec} {K : Params → PySem.W.Frag} {ts : List Addr} (names : List Str)
    (h1 : l.most = some most) (h2 : most ≤ sizeLine) (h3 : df.params.defaults = []) (recs : (names.all fun nm => (recsOf prog).any fun r => r.name == nm) = true) (kin : ∀ (w : World) (h : Heap), YP w h → (K w.params).In h) (tsf : ∀ (w : World) (h : Heap), YP w h → ∀ P ∈ ts, h.get? P = some (PySem.W.tabObj #[]))
    (at_ : ∀ (w : World) (mg : Str → Option Value) (fa : Addr) (h : Heap), (K w.params).In h → h.Ns mainGlobals mg → mg df.name = some (.ref fa) → (∀ P ∈ ts, h.get? P = some (PySem.W.tabObj #[])) → (∀ nm ∈ names, TabAt mg h nm) →
      ∃ cs : List (Addr × Addr), (∀ p ∈ cs, h.get? p.2 = some { cls := .none, data := .fields #[] }) ∧ (∀ p ∈ cs, (K w.params).lookup p.2 = none) ∧ (∀ p ∈ cs, PySem.W.CodeHd h p.1 p.2) ∧
        ∀ (s : Shared) (H : Hp) (base : Heap) (a : Addr) (ns : List Int), ns.length ≤ most → (∀ z ∈ ns, Builtin.Int.intBits z ≤ 1048576) → (∀ p ∈ cs, LamX.TabB base mg p.1 p.2) → Env0 l.prog w (K w.params) mg base callerA [] s H → (∀ p ∈ cs, H p.2 = some (.tbl #[])) → SqL (K w.params) H a (ns.map V.int) →
          codeAny (model l.prog w) callerA (.call (.ref fa) ⟨[.ref a], []⟩) (CR CX0 [] l.prog w H s (fun v _ => v = .bl true) E0) s) :
    PySem.W.WalkO prog lo XP YP l.row.toRowW df [] (fun f vs => PySem.call f vs) := by
  refine Att.attach_callB h1 h3 fun w s0 s mg mb fa o pm cd doc a vs ns Gr Y _ _ _ name ob iar len bits gens => ?_
  have tabs : ∀ nm ∈ names, TabAt mg s.heap nm := fun nm hm => by
    obtain ⟨r, hr, er⟩ := List.any_eq_true.mp (List.all_eq_true.mp recs nm hm)
    obtain ⟨x1, x2, x3, x4, x5, y1, y2, y3, y4, _, y6⟩ := Gr.T.tab r hr
    rw [beq_iff_eq.mp er] at y1
    exact ⟨x1, x2, x3, x4, x5, y1, y2, y3, y4, y6⟩
  obtain ⟨cs, t1, t2, t3, go⟩ := at_ w mg fa _ (kin w _ Y) Gr.T.g name (tsf w _ Y) tabs
  exact call_law (kin w _ Y) Gr.T.g Gr.T.b Gr.T.builtins Gr.T.nolimit gens t1 t2 t3 Gr.T.bmain ob iar (Nat.le_trans len h2) fun base H tb e0 th sq => go s H base a ns len bits tb e0 th sq

end My
namespace My
open PySem PySem.Spec PyProof.Rows L2
/-! ### repr of what is nested; a list of truths counted; raise X() -/
def rRepr (K : PySem.W.Frag) : List V → Hp → VK → Prop := fun xs H Q => ∃ (v : V) (d : PyData), xs = [v] ∧ Dp K H v d ∧ isDisplay d = true ∧ d.showable = true ∧ d.hasDict = false ∧ d.depth ≤ 50 ∧ d.shown.length ≤ sizeLine ∧ Q (.str d.shown) H
theorem call_repr {X : Cx} (none_ : X.A.guards = some []) (room : X.A.units + 64 < cLine) : CallR X (.builtin "repr") (rRepr X.K) := by
  intro pins s σ H xs us Q I r h
  obtain ⟨v, d, rfl, dp, disp, shw, nod, dep, len, q⟩ := h
  obtain ⟨u, rfl, ru⟩ := vals1 r
  obtain ⟨as, rd⟩ := Dp.reads I d v u dp ru
  obtain ⟨a, rfl⟩ := isRef_of_reads rd disp
  exact repr_of_reads' rd shw (PyData.noDict_hsm nod) none_ (by omega) (fun _ _ e => e) (fun h' t tk hk => ⟨.str d.shown, H, I.kept (t' := tk) hk, ⟨t, rfl⟩, q⟩) len
/-- l.count(True), l a list of truths -/
def rCntB (K : PySem.W.Frag) : V → List V → Hp → VK → Prop := fun x xs H Q => ∃ (p : Addr) (bs : List Bool) (b : Bool), x = .ref p ∧ xs = [.bl b] ∧ SqL K H p (bs.map V.bl) ∧ Q (.int (bs.count b : Nat)) H
def isB (b : Bool) : Value → Bool
  | .bool c => c == b
  | _ => false
theorem bools_of {b : Bool} : ∀ {bs : List Bool} {us : List Value}, Vals (bs.map V.bl) us → (∀ y ∈ us, ∃ c, y = .bool c) ∧ us.countP (isB b) = bs.count b
  | [], _, r => by
    cases r
    exact ⟨fun y h => (nomatch h), rfl⟩
  | c :: bs, _, r => by
    rw [List.map_cons] at r
    cases r with
    | @cons a u as us ru rr =>
      obtain ⟨h1, h2⟩ := bools_of (b := b) rr
      obtain rfl : u = Value.bool c := ru
      refine ⟨fun y hy => ?_, ?_⟩
      · rcases List.mem_cons.mp hy with e | e
        · exact ⟨c, e⟩
        · exact h1 y e
      · rw [List.countP_cons, List.count_cons, h2]
        rfl
theorem mt_countB {X : Cx} : MtR X "list.count" (rCntB X.K) := by
  intro pins s σ H x xs v us Q I rx rxs h
  obtain ⟨p, bs, b, rfl, rfl, sq, q⟩ := h
  obtain rfl : v = Value.ref p := rx
  obtain ⟨u, rfl, ru⟩ := rxs.one
  obtain rfl : u = Value.bool b := ru
  obtain ⟨its, rel, ⟨ob, n, hob, cls, dct, dat⟩, _⟩ := I.list sq
  obtain ⟨oc, od, odt, osl⟩ := ob
  simp only at cls dat
  subst cls dat
  obtain ⟨all, cnt⟩ := bools_of (b := b) rel
  refine call_meets PySem.F.slot_list_count ⟨_, hob, rfl⟩ PySem.F.entry_list_count (PySem.F.args_list_count_2 _ _) (SeqAt.list_countAt p its.toArray n od osl (.bool b) (isB b)) ⟨hob, fun y hy => ?_, ?_⟩
  · obtain ⟨c, rfl⟩ := all y (by simpa using hy)
    exact SeqAt.EqAt.bool_bool c b
  · refine ⟨.int (bs.count b : Nat), H, I.tok _, ⟨s.toks, ?_⟩, q⟩
    show Value.int ((its.toArray.toList.countP (isB b) : Nat) : Int) s.toks = Value.int ((bs.count b : Nat) : Int) s.toks
    rw [← cnt]
/-- raise X() -/
theorem pmk_own0 {X : Cx} {C : Addr} {x : Str} {p pos : Pos} (ex : PySem.W.excIn X.K C veB "ValueError.__new__" = true) (gC : X.mg x = some (.ref C)) (kC : PySem.W.keepIn X.K (.ref C) = true) (rs : Raises X (.ref C)) (gl : Gl X x) (dbg : (x == ("__debug__" : Str)) = false := by decide) :
    PMk X (.Call (.Name x p) [] [] pos) (fun _ H Q => Q (.ref C) none H) := by
  intro pins st σ H Q I q
  refine wpAny_Call_Name_kw (ld_glob I gl gC ?_ dbg)
  refine PySem.W.callWith_K0 I.kIn kC ?_
  obtain ⟨bm, N, nm, qn, bs, hdct, sn, sub, ab, col, dd, k0, k1, k2, k3, k5, mN, hC, hN, hni, OT⟩ := exc_obj I.kIn ex
  exact wpAny_call_exc_subT PySem.F.excBase_ValueError OT hC hN hni (fun h' a made => mk_of I made rs q (I.hok.gone made.new)) (Nat.zero_le _)
/-- isinstance of a kept exception -/
def rIsC (K : PySem.W.Frag) : List V → Hp → VK → Prop := fun xs H Q => ∃ (a C : Addr) (c : V) (cv : Value) (b : Bool), xs = [.ref a, c] ∧ H a = some (ExC (.ref C) none a) ∧ XcC K C ∧ ClsV c cv ∧ PySem.W.kitOne K (.ref C) cv = some b ∧ Q (.bl b) H
theorem call_isC {X : Cx} : CallR X (.builtin "isinstance") (rIsC X.K) := by
  intro pins st σ H xs us Q I r h
  obtain ⟨a, C, c, cv, b, rfl, at_, xc, kc, e, q⟩ := h
  obtain ⟨u1, u2, rfl, r1, r2⟩ := vals2 r
  obtain rfl : u1 = Value.ref a := r1
  obtain rfl := kc.eq r2
  obtain ⟨⟨oe, vs, ho, hz, hd⟩, _, _⟩ := I.hok a _ at_
  have inst : PySem.W.InstAt st.heap a oe C none := by
    refine ⟨ho, hz.1, ?_, ?_⟩
    · unfold PySem.W.notCls
      rw [hd]
    · rw [hz.2]
      trivial
  exact PySem.W.kia_one (PySem.W.kitx_exc xc.cl xc.hg xc.hk xc.hs xc.ha xc.hn xc.ht xc.hm) I.kIn inst e (fun z => nomatch z) fun tk => ⟨.bl b, H, I.kept (t' := tk) fun _ _ z => z, rfl, q⟩

/-! ### len(set(t)) of a tuple of whole numbers -/
def tLenSetT (K : PySem.W.Frag) (ta : TE) : TE := fun σ H Q => ta σ H fun x H1 => ∃ (p : Addr) (ns : List Int), x = .ref p ∧ SqT K H1 p (ns.map V.int) ∧ ns.length ≤ 1000 ∧ ∀ out : List Int, out.Nodup → (∀ k, k ∈ out ↔ k ∈ ns) → Q (.int (out.length : Nat)) H1
theorem pe_lenSetT {X : Cx} {a : Expr} {ta : TE} {p p2 q pos : Pos} (hc : X.calm = true) (hg : Gl X "len") (hm : X.mg "len" = none) (hg2 : Gl X "set") (hm2 : X.mg "set" = none) (ha : PE X a ta)
    (na : starEach [a] X.env = (false, eval a X.env) :: starEach [] X.env := by rfl) : PE X (.Call (.Name "len" p) [.Call (.Name "set" p2) [a] [] q] [] pos) (tLenSetT X.K ta) := by
  refine ⟨fun pins s σ H Q I h => ?_⟩
  refine Call_ (ld_blt I hg hm boot_len ?_)
  refine PyProof.Rows.callWith_builtin1 (PyProof.Rows.args_cons ?_ rfl) rfl rfl
  refine Call_ (ld_blt I hg2 hm2 boot_set ?_)
  refine PyProof.Rows.callWith_type1 (PyProof.Rows.args_cons (thn (ha.run pins s σ H _ I h) fun v s1 ⟨x, H1, I1, r1, q1⟩ => PyProof.Rows.args_nil ?_) na) na rfl
  obtain ⟨p0, ns, rfl, hq, hl, q1⟩ := q1
  cases r1
  obtain ⟨its, rv, pt, hz⟩ := I1.tuple hq
  have hi : IntsAre its.toArray.toList ns := ints_of_vals rv
  refine call_set_tupI ns (I1.ok.hd hc) (show s1.heap.IsTuple p0 its.toArray from pt) hi (by unfold scanBound; omega) fun h' tk c R1 hcn k => ?_
  refine PyProof.Rows.args_nil ?_
  obtain ⟨o, es, ep, t, ho, hex, hdt, g, nd, hm2, hb, hf, hn, hr, hl2⟩ := R1
  have I2 : Inv X pins σ H1 { s1 with heap := h', toks := tk } := I1.kept fun b o e => k b o e
  have z := q1 (es.toList.map keyOf) nd fun j => by rw [← hm2 j, decide_eq_true_eq]
  rw [List.length_map, Array.length_toList] at z
  exact call_len_set (s := { s1 with heap := h', toks := tk }) ho hex hdt hf (by rw [hn]; omega) ⟨.int es.size, H1, I2.tok _, ⟨_, rfl⟩, z⟩
/-! ### all of a generator expression, by a walk -/
theorem gturns_it {J : It} {n : Nat} {G : Hp → Prop} {Y : Nat → Hp → V → Hp → Prop} (wk : Walk J n G Y) {g : TG} {te : TE} {σw : L2.St} {vs : List Nat} {Q : Bool → Hp → Prop} {H : Hp} (Pv : Nat → Hp → Prop) (h0 : Pv 0 H) (hG : ∀ i H, i ≤ n → Pv i H → G H)
    (hs : ∀ (i : Nat) (x : V) (H H' : Hp) (N : Hp → Prop), i < n → Pv i H → Y i H x H' → (∀ H3, Pv (i + 1) H3 → N H3) → g x σw H' fun σ2 H2 => wipe σ2 vs = σw ∧ te σ2 H2 fun v H3 => ∃ b, v = .bl b ∧ if b = true then N H3 else Q false H3)
    (hd : ∀ H, Pv n H → Q true H) : ∃ W : Nat → Nat → Hp → Prop, (∃ m, W 0 m H) ∧ gTurns J g te σw vs W Q := by
  refine ⟨fun i m H => m = n - i ∧ i ≤ n ∧ Pv i H, ⟨n, rfl, Nat.zero_le _, h0⟩, fun i m H st => ?_⟩
  obtain ⟨em, le, pv⟩ := st
  have q := hG i H le pv
  rcases Nat.lt_or_eq_of_le le with lt | eq
  · refine .inr ⟨wk.goes i H lt q, fun v H' y => ?_⟩
    exact hs i v H H' _ lt pv (wk.yields i H v H' lt q y) fun H3 p' => ⟨n - (i + 1), by omega, rfl, lt, p'⟩
  · subst eq
    exact .inl ⟨wk.stops H q, hd H pv⟩
theorem walk_zipT {K : PySem.W.Frag} {a b : Addr} {xs ys : List V} {n : Nat} (hn : n = min xs.length ys.length) : Walk (RZ.ItzT K a b) n (fun H => SqT K H a xs ∧ SqT K H b ys) (YPair (fun i => xs[i]?) (fun i => ys[i]?)) := by
  subst hn
  refine ⟨fun i _ hi q => ?_, fun _ q => ⟨xs, ys, q.1, q.2, by omega⟩, fun i H v H' _ q y => ?_⟩
  · have h1 : i < xs.length := by omega
    have h2 : i < ys.length := by omega
    exact ⟨xs, ys, xs[i], ys[i], q.1, q.2, by simp [h1], by simp [h2]⟩
  · obtain ⟨T, x, z, h1, h2, h3, h4, h5⟩ := y
    exact ⟨T, x, z, h1, h2, h3, h4 xs q.1, h5 ys q.2⟩

end My
namespace My
open PySem PySem.Spec PyProof.Rows L2
/-! ### enumerate over a tuple -/
theorem enum_tup_new (a : Addr) (its : Array Value) (n : Nat) (dc : Option Addr) (sl : Array (Option Value)) :
    Meets (Builtin.«enumerate.__new__» ⟨[.type "enumerate", .ref a], []⟩) (fun _ R s => s.heap.get? a = some { cls := .type "tuple", dict := dc, data := .seq its n, slots := sl } ∧
      R (.ok (.ret (.ref (s.heap.push { cls := .type "tuple_iterator", data := .fields #[.ref a, .int 0 0] }).objs.size))) { s with heap := (s.heap.push { cls := .type "tuple_iterator", data := .fields #[.ref a, .int 0 0] }).push { cls := .type "enumerate", data := .fields #[.none, .bool false, .ref s.heap.objs.size, rawInt 0, .none, .none] } }) :=
  .of_wp fun prog w A R s h => by
    obtain ⟨hp, g, d, tk, os⟩ := s
    obtain ⟨hl, h⟩ := h
    have hsub := sub_enumerate
    have hT : Heap.IsTuple (Shared.heap ⟨hp, g, d, tk, os⟩) a its := ⟨_, hl, rfl, n, rfl⟩
    wp_walk using AutoSeq1.wpAny_loadPart' hl
    refine wpAny_stack_any (fun stk => wpAny_pure ?_)
    split
    · rename_i cc _ _ _ _ _
      cases (cc == Value.type "enumerate")
      · wp_walk using AutoSeq1.wpAny_loadPart' hl, wpAny_pyIter_tuple hT
        exact ⟨_, rfl, h⟩
      · wp_walk using AutoSeq1.wpAny_loadPart' hl, wpAny_pyIter_tuple hT
        exact ⟨_, rfl, h⟩
    · wp_walk using AutoSeq1.wpAny_loadPart' hl, wpAny_pyIter_tuple hT
      exact ⟨_, rfl, h⟩
theorem call_enum_tup {prog : Program} {w : World} {A : Around} {E : Value → Shared → Prop} {s : Shared} {a : Addr} {its : Array Value} {Q : Value → Shared → Prop} (ht : s.heap.IsTuple a its)
    (h : ∀ h', IsEnum h' (s.heap.objs.size + 1) s.heap.objs.size 0 .none → h'.IsTupleIter s.heap.objs.size a 0 → (∀ b o, s.heap.get? b = some o → h'.get? b = some o) → Q (.ref (s.heap.objs.size + 1)) { s with heap := h' }) :
    wpAny (model prog w) A (call (.type "enumerate") [.ref a]) Q E s := by
  obtain ⟨⟨c, dc, dt, sl⟩, hl, hc, n, hd⟩ := ht
  obtain rfl : c = .type "tuple" := hc
  obtain rfl : dt = .seq its n := hd
  refine callType_new F.called_enumerate (by decide) (F.typeCall_enumerate_1 _) (F.newCall_enumerate_1 _) (fun obj => F.args_object_init_2 obj _) F.entry_enumerate_new (enum_tup_new a its n dc sl) ⟨hl, ?_⟩
  have sz : (s.heap.push { cls := .type "tuple_iterator", data := .fields #[.ref a, .int 0 0] }).objs.size = s.heap.objs.size + 1 := Heap.size_push ..
  show _ ∧ _
  rw [sz]
  have he : IsEnum ((s.heap.push { cls := .type "tuple_iterator", data := .fields #[.ref a, .int 0 0] }).push { cls := .type "enumerate", data := .fields #[.none, .bool false, .ref s.heap.objs.size, rawInt 0, .none, .none] }) (s.heap.objs.size + 1) s.heap.objs.size 0 .none := by
    have z := Heap.get?_push_size (s.heap.push { cls := .type "tuple_iterator", data := .fields #[.ref a, .int 0 0] }) (o := { cls := .type "enumerate", data := .fields #[.none, .bool false, .ref s.heap.objs.size, rawInt 0, .none, .none] }) rfl
    rw [sz] at z
    exact z
  exact ⟨⟨_, he, rfl⟩, h _ he ⟨_, Heap.get?_push_of_some _ (Heap.get?_push_size _ rfl), rfl, rfl⟩ fun b o y => Heap.get?_push_of_some _ (Heap.get?_push_of_some _ y)⟩
/-- the tuple at a, each item in a new pair with its number -/
def ItE (K : PySem.W.Frag) (a : Addr) : It :=
  ⟨fun i H => ∃ (xs : List V) (x : V), SqT K H a xs ∧ xs[i]? = some x,
    fun i H v H' => ∃ (T : Addr) (x : V), v = .ref T ∧ H T = none ∧ H' = upd H T (.tup [.int (i : Nat), x]) ∧ ∀ xs, SqT K H a xs → xs[i]? = some x,
    fun i H => ∃ xs : List V, SqT K H a xs ∧ xs.length = i⟩
theorem turn_enumT {P : Program} {w : World} {K : PySem.W.Frag} {elts : List Expr} {kk : Nat} {tpos : Pos} (a e it : Addr) :
    Turn P w K (.Tuple elts kk tpos) (ItE K a) [e, it] e (fun i h => (∃ old, IsEnum h e it ((i : Nat) : Int) old) ∧ h.IsTupleIter it a i ∧ e ≠ it) where
  mem := List.mem_cons_self
  obj := fun i h st b hb => by
    obtain ⟨⟨old, he⟩, ⟨o, ho, hc, hd⟩, _⟩ := st
    rcases List.mem_cons.mp hb with z | z
    · rw [z]
      exact ⟨_, he, fun v q => nomatch q⟩
    · rw [List.mem_singleton.mp z]
      exact ⟨o, ho, fun v q => by rw [hd] at q; cases q⟩
  keep := fun i h h' st k => by
    obtain ⟨⟨old, he⟩, hi, hne⟩ := st
    exact ⟨⟨old, k e List.mem_cons_self _ he⟩, hi.at fun o q => k it (List.mem_cons_of_mem _ List.mem_cons_self) o q, hne⟩
  item := by
    intro X hP hw hK hc i pins s σ H E I hf st hg
    subst hP hw hK
    obtain ⟨⟨old, he⟩, hit, hne⟩ := st
    obtain ⟨xs, x, hq, hx⟩ := hg
    obtain ⟨its, rv, tp, hz⟩ := I.tuple hq
    obtain ⟨u, hu, ru⟩ := rv.get hx
    have ea : e ≠ a := fun z => by
      obtain ⟨o, h1, h2, _⟩ := id tp
      have he2 : s.heap.get? e = some _ := he
      rw [z, h1] at he2
      rw [Option.some.inj he2] at h2
      injection h2 with z2
      exact absurd z2 (by decide)
    have ia : a ≠ it := fun z => by
      obtain ⟨o, h1, h2, _⟩ := id tp
      obtain ⟨o2, g1, g2, _⟩ := id hit
      rw [← z, h1] at g1
      rw [Option.some.inj g1, g2] at h2
      injection h2 with z2
      exact absurd z2 (by decide)
    have hel : e < s.heap.objs.size := Heap.lt_size he
    have hil : it < s.heap.objs.size := by
      obtain ⟨_, q, _⟩ := id hit
      exact Heap.lt_size q
    have hui : its.toArray[i]? = some u := by simpa using hu
    have hlt : i < its.toArray.size := (Array.getElem?_eq_some_iff.mp hui).1
    refine wpAny_pyNext_enum_itemD (Draws.tuple (A := X.A.in1) (I.ok.hd hc) it a ia its.toArray) he ⟨hit, tp⟩ hlt hne (fun z => ?_) fun y h' tk hy ho st' hT hsz hk => ?_
    · rcases List.mem_cons.mp z with z | z
      · exact hne z
      · exact ea (List.mem_singleton.mp z)
    · have ey : y = u := by
        have hy2 : its.toArray[i]? = some y := hy
        rw [hui] at hy2
        exact (Option.some.inj hy2).symm
      subst ey
      refine ⟨_, rfl, wpAny_letOwnedTupleGo_enum (s := { s with heap := h', toks := tk + 1 }) ho fun h'' he' sb => ?_⟩
      have hT2 : h''.get? s.heap.objs.size = some { cls := .type "tuple", data := .seq #[.int i tk, y] } := (sb.2 _ (Nat.ne_of_gt hel)).trans hT
      have new : ObjOk X.prog X.w (upd H s.heap.objs.size (.tup [.int (i : Nat), x])) h'' s.heap.objs.size (.tup [.int (i : Nat), x]) :=
        ⟨by show 2 ≤ sizeLine; decide, [.int i tk, y], .cons ⟨_, rfl⟩ (.cons ru .nil), ⟨_, hT2, rfl, _, rfl⟩⟩
      have fr : ∀ b ob, b ∉ [e, it] → s.heap.get? b = some ob → h''.get? b = some ob := fun b ob hb q => by
        have n1 : b ≠ e := fun z => hb (z ▸ List.mem_cons_self)
        have n2 : b ≠ it := fun z => hb (z ▸ List.mem_cons_of_mem _ List.mem_cons_self)
        exact (sb.2 b n1).trans (hk b ob n1 n2 q)
      have I1 : Inv X pins σ (upd H s.heap.objs.size (.tup [.int (i : Nat), x])) { s with heap := h'', toks := tk + 1 } := I.turnedNew (ch := [e, it]) fr hf (Nat.le_refl _) new
      refine ⟨.ref s.heap.objs.size, _, I1, rfl, ⟨_, x, rfl, I.hok.fresh (Nat.le_refl _), rfl, fun ys hy => by rw [I.tuple_inj hy hq]; exact hx⟩, ⟨⟨y, ?_⟩, (st'.1).at fun o q => (sb.2 it (Ne.symm hne)).trans q, hne⟩, fun b hb => ?_⟩
      · have e1 : ((i + 1 : Nat) : Int) = (i : Int) + 1 := by omega
        rw [e1]
        exact he'
      · have hb' : b < s.heap.objs.size := by
          rcases List.mem_cons.mp hb with z | z
          · rw [z]
            exact hel
          · rw [List.mem_singleton.mp z]
            exact hil
        rw [upd_ne (Nat.ne_of_lt hb')]
        exact (hf b hb).1
  done := by
    intro X hP hw hK hc i pins s σ H E I hf st hg
    subst hP hw hK
    obtain ⟨⟨old, he⟩, hit, hne⟩ := st
    obtain ⟨xs, hq, hx⟩ := hg
    obtain ⟨its, rv, tp, hz⟩ := I.tuple hq
    obtain ⟨f0, f1, f2, f3, f4, f5⟩ := hf it (List.mem_cons_of_mem _ List.mem_cons_self)
    have ia : a ≠ it := fun z => by
      obtain ⟨o, h1, h2, _⟩ := id tp
      obtain ⟨o2, g1, g2, _⟩ := id hit
      rw [← z, h1] at g1
      rw [Option.some.inj g1, g2] at h2
      injection h2 with z2
      exact absurd z2 (by decide)
    have hl : i = its.toArray.size := by
      rw [List.size_toArray, ← rv.length, hx]
    subst hl
    exact wpAny_pyNext_enum_endD (Draws.tuple (A := X.A.in1) (I.ok.hd hc) it a ia its.toArray) he ⟨hit, tp⟩ fun h' eb => ⟨rfl, I.turned (t' := s.toks) (fun b o hb q => eb b o hb q) f0 f1 f3 f4 f5⟩
  self := fun A i s Q E st h => by
    obtain ⟨⟨_, he⟩, _⟩ := st
    exact wpAny_pyIter_enum he h
def iEnumT (K : PySem.W.Frag) (ta : TA) : TI := fun σ H R => ta σ H fun vs H1 => ∃ (a : Addr) (xs : List V), vs = [.ref a] ∧ SqT K H1 a xs ∧ R (ItE K a) H1
theorem pi_enumT {X : Cx} {e : Expr} {ta : TA} {p pos tpos : Pos} {elts : List Expr} {kk : Nat} (hg : Gl X "enumerate") (hm : X.mg "enumerate" = none) (ha : PA X [e] ta) (hs : starEach [e] X.env = [(false, eval e X.env)] := by rfl) :
    PI X (.Tuple elts kk tpos) (.Call (.Name "enumerate" p) [e] [] pos) (iEnumT X.K ta) := by
  constructor
  intro pins s σ H R I h
  refine Call_ (ld_blt I hg hm boot_enumerate (PyProof.Rows.callWith_type1 (thn (ha.run pos pins s σ H _ I h) fun us s1 z => ?_) hs rfl))
  obtain ⟨vs, H1, I1, r1, a, xs, rfl, hq, q⟩ := z
  obtain ⟨u, rfl, r⟩ := vals1 r1
  obtain rfl : u = Value.ref a := r
  obtain ⟨its, rv, tp, hz⟩ := I1.tuple hq
  refine call_enum_tup tp fun h' he hit hk => wpAny_pyIter_enum he ?_
  have I2 : Inv X pins σ H1 { s1 with heap := h' } := I1.kept (t' := s1.toks) hk
  refine ⟨s1.heap.objs.size + 1, [s1.heap.objs.size + 1, s1.heap.objs.size], _, _, H1, rfl, I2, turn_enumT a (s1.heap.objs.size + 1) s1.heap.objs.size, ⟨⟨.none, he⟩, hit, Nat.succ_ne_self _⟩, fun b hb => ?_, q⟩
  have hle : s1.heap.objs.size ≤ b := by
    rcases List.mem_cons.mp hb with z | z
    · rw [z]
      exact Nat.le_succ _
    · rw [List.mem_singleton.mp z]
      exact Nat.le_refl _
  exact I1.fpOk hle (I1.hok.fresh hle)
theorem walk_enumT {K : PySem.W.Frag} {a : Addr} {xs : List V} : L2.Walk (ItE K a) xs.length (fun H => SqT K H a xs) (YPair (fun i => some (.int (i : Nat))) (fun i => xs[i]?)) := by
  refine ⟨fun i _ hi q => ⟨xs, xs[i], q, List.getElem?_eq_getElem hi⟩, fun _ q => ⟨xs, q, rfl⟩, fun i H v H' _ q y => ?_⟩
  obtain ⟨T, x, h1, h2, h3, h4⟩ := y
  exact ⟨T, .int (i : Nat), x, h1, h2, h3, rfl, h4 xs q⟩

/-! ### sorted of a dict's keys, of a tuple: ints, any number of them -/
section
variable {X : Cx}
theorem call_sortedDX (hcalm : X.calm = true) : CallR X (.builtin "sorted") (fun xs H Q => ∃ (a : Addr) (kvs : List (Key × V)) (ks : List Int), xs = [.ref a] ∧ Rd H a (.dK kvs) ∧ kvs.map (·.1) = ks.map Sum.inl ∧ ks.length ≤ 100000 ∧
    ∀ (ys : List Int) (p : Addr), ys.Perm ks → ys.Pairwise (· ≤ ·) → H p = none → Q (.ref p) (upd H p (.lst (ys.map V.int)))) := by
  intro pins s σ H xs us Q I r q
  obtain ⟨a, kvs, ks, ex, hd, hks, hz, q⟩ := q
  subst ex
  obtain ⟨u, eu, rx⟩ := vals1 r
  subst eu
  cases rx
  obtain ⟨z, lo, vs, rel, dd⟩ := dk_rd I.hok hd
  obtain ⟨ep, hat⟩ := dd.dictAt
  have hkeys : vs.map (·.1) = ks.map Sum.inl := rel.keys.symm.trans hks
  have hl : vs.length = ks.length := by
    have e := congrArg List.length hkeys
    rw [List.length_map, List.length_map] at e
    exact e
  refine Calls.call_function_entry PyProof.Rows.kind_sorted PyProof.Rows.plain_sorted PyProof.Rows.entry_sorted (PyProof.Rows.args_sorted1 _) ?_
  unfold Builtin.«sorted»
  refine wpAny_bind (m := checkCount "sorted" 1 1 _) (wpAny_pure ?_)
  refine wpAny_bind (PySem.W.kdu_collect (A := X.A.in1) (PySem.W.kdl_dict (knd := mixKind X.prog X.w) (kvs := vs) (ep := ep) lo) (I.ok.hd hcalm) hat (by rw [hl]; exact sz hz) fun h' tk acc hk hacc => ?_)
  have hal : acc.toList.length = ks.length := by rw [Array.length_toList, hacc.1, hl]
  have hS : PyProof.Rows.IntsAre acc.toList ks := ints_each hal fun j v e => by
    obtain ⟨k, x, e1, e2⟩ := hacc.2 j v (by rw [← Array.getElem?_toList]; exact e)
    have e3 : (vs.map (·.1))[j]? = some k := by rw [List.getElem?_map, e1]; rfl
    rw [hkeys, List.getElem?_map] at e3
    cases e4 : ks[j]? with
    | none => rw [e4] at e3; cases e3
    | some y =>
      rw [e4] at e3
      have e5 : Sum.inl y = k := Option.some.inj e3
      subst e5
      rcases keyIs_shape (show keyIs (Sum.inl y) v = true from e2) with ⟨i, t, ek, ev⟩ | ⟨z, t, ek, ev⟩
      · cases ek
        exact ⟨y, t, rfl, ev⟩
      · cases ek
  have I1 : Inv X pins σ H { s with heap := h', toks := tk } := I.kept hk
  refine wpAny_bind (wpAny_newList ?_ (by rw [hal]; exact sz hz))
  have hoL : (h'.push (seqObj "list" acc.toList.toArray 0)).get? h'.objs.size = some (seqObj "list" acc.toList.toArray 0) := Heap.get?_push_size _ rfl
  show wpAny _ _ _ _ _ { s with heap := h'.push (seqObj "list" acc.toList.toArray 0), toks := tk }
  refine wpAny_bind (wpAny_holding (wpAny_call_entry PyProof.Rows.slot_list_sort ⟨_, hoL, rfl⟩ PyProof.Rows.entry_list_sort
    (SrtO.list_sort_ord (s := { s with heap := h'.push (seqObj "list" acc.toList.toArray 0), toks := tk }) SrtO.swo_int hoL (by rw [hal]; exact sz hz) (fun h2 => SrtO.ints_sortable hS h2) fun out h1 h2 => ⟨_, rfl, ?_⟩) (PyProof.Rows.args_list_sort _)))
  obtain ⟨k1, k2, k3⟩ := SrtO.ints_out hS h1 h2
  obtain ⟨e', he'⟩ := PyProof.Rows.sortedHeap_at (vs := acc.toList) (out := out.toArray) hoL
  have hlen : ((out.map SrtO.iv).map V.int).length ≤ sizeLine := by
    rw [List.length_map, k2.length_eq]
    exact sz hz
  refine wpAny_pure ⟨_, rfl, .ref h'.objs.size, upd H h'.objs.size (.lst ((out.map SrtO.iv).map V.int)), I1.laid (t' := tk) (fun b u e => ?_) (Nat.le_refl _)
    (show ObjOk X.prog X.w _ _ _ (.lst ((out.map SrtO.iv).map V.int)) from ⟨hlen, out, e', vals_of_ints k1, he'⟩), rfl, q _ _ k2 k3 (I1.hok.fresh (Nat.le_refl _))⟩
  have hb : b < h'.objs.size := Heap.lt_size e
  rw [PyProof.Rows.sortedHeap_old (Nat.ne_of_lt hb) (by rw [size_push']; exact Nat.lt_succ_of_lt hb)]
  exact Heap.get?_push_of_some _ e
end

/-! ### t[::-1] of a tuple -/
theorem adjust_rev (n : Nat) : Builtin.Slice.sliceAdjust none none (-1) (n : Int) = ((n : Int) - 1, -1) := by
  first
  | rfl
  | (unfold Builtin.Slice.sliceAdjust; simp)
theorem places_rev (n : Nat) : Builtin.Slice.slicePlaces ((n : Int) - 1) (-1) (-1) = n := by
  unfold Builtin.Slice.slicePlaces
  have h1 : ¬ ((-1 : Int) > 0) := by decide
  simp only [h1, if_false]
  by_cases h : (n : Int) - 1 > -1
  · rw [if_pos (by omega)]
    have e : ((n : Int) - 1 - -1 - 1) / (- -1) = (n : Int) - 1 := by
      rw [show (- -1 : Int) = 1 by decide, Int.ediv_one]
      omega
    omega
  · rw [if_neg (by omega)]
    omega
theorem filterMap_ext {α β : Type} {f g : α → Option β} : ∀ {l : List α}, (∀ x ∈ l, f x = g x) → l.filterMap f = l.filterMap g
  | [], _ => rfl
  | x :: l, h => by
    rw [List.filterMap_cons, List.filterMap_cons, h x List.mem_cons_self, filterMap_ext fun y hy => h y (List.mem_cons_of_mem _ hy)]
theorem pick_rev (xs : Array Value) : ((List.range xs.size).filterMap fun (m : Nat) => xs[(((xs.size : Int) - 1) + (m : Int) * (-1)).toNat]?).toArray = xs.toList.reverse.toArray := by
  have e : (List.range xs.size).filterMap (fun (m : Nat) => xs[(((xs.size : Int) - 1) + (m : Int) * (-1)).toNat]?) = ((List.range xs.size).map fun k => xs.size - 1 - k).filterMap (xs[·]?) := by
    rw [List.filterMap_map]
    refine filterMap_ext fun m hm => ?_
    have := List.mem_range.mp hm
    show xs[(((xs.size : Int) - 1) + (m : Int) * (-1)).toNat]? = xs[xs.size - 1 - m]?
    have e2 : (((xs.size : Int) - 1) + (m : Int) * (-1)).toNat = xs.size - 1 - m := by omega
    rw [e2]
  rw [e, PySem.W.krv_range, List.filterMap_reverse, PySem.W.krv_all]
theorem sliceApplied_rev {prog : Program} {w : World} {A : Around} {E : Value → Shared → Prop} {s : Shared} {sl : Addr} {vl vu vs : Value} {n : Nat} {Q : Int × Int × Nat → Shared → Prop} (hs : s.heap.IsSliceOf sl vl vu vs) (pl : PySem.IsPart vl none) (pu : PySem.IsPart vu none) (ps : PySem.IsPart vs (some (-1)))
    (h : Q ((n : Int) - 1, -1, n) s) : wpAny (model prog w) A (Builtin.Slice.sliceApplied (.ref sl) (pure (n : Int))) Q E s := by
  obtain ⟨os, hos, hcs, hds⟩ := id hs
  unfold Builtin.Slice.sliceApplied Builtin.Slice.sliceFields
  refine wpAny_bind (wpAny_bind (wpAny_field hos hds (x := vl) rfl (wpAny_bind (wpAny_field hos hds (x := vu) rfl (wpAny_bind (wpAny_field hos hds (x := vs) rfl (wpAny_pure ?_)))))))
  refine wpAny_bind (HT.slicePart_ ps ?_)
  show wpAny _ _ (if ((-1 : Int) == 0) = true then _ else _) _ _ s
  rw [if_neg (by decide)]
  refine wpAny_bind (HT.slicePart_ pl (wpAny_bind (HT.slicePart_ pu (wpAny_bind (wpAny_pure ?_)))))
  show wpAny _ _ (match Builtin.Slice.sliceAdjust none none (-1) (n : Int) with | (lo, hi) => pure (lo, (-1 : Int), Builtin.Slice.slicePlaces lo hi (-1))) _ _ s
  rw [adjust_rev]
  show wpAny _ _ (pure ((n : Int) - 1, (-1 : Int), Builtin.Slice.slicePlaces ((n : Int) - 1) (-1) (-1))) _ _ s
  rw [places_rev]
  exact wpAny_pure h
theorem getItem_revT {prog : Program} {w : World} {A : Around} {E : Value → Shared → Prop} {s : Shared} {t sl : Addr} {items : Array Value} {vl vu vs : Value} {Q : Value → Shared → Prop} (ht : IsTup s.heap t items) (hs : s.heap.IsSliceOf sl vl vu vs) (pl : PySem.IsPart vl none) (pu : PySem.IsPart vu none) (ps : PySem.IsPart vs (some (-1)))
    (h : Q (.ref s.heap.objs.size) { s with heap := s.heap.push { cls := .type "tuple", data := .seq items.toList.reverse.toArray } }) (hsz : items.size ≤ sizeLine) : wpAny (model prog w) A (getItem (.ref t) (.ref sl)) Q E s := by
  obtain ⟨os, hos, hcs, hds⟩ := id hs
  have hTs : s.TypeIs (.ref sl) "slice" := ⟨os, hos, hcs⟩
  have htake : sizeOk (.seq items.toList.reverse.toArray) := by
    show items.toList.reverse.toArray.size ≤ sizeLine
    rw [List.size_toArray, List.length_reverse, Array.length_toList]
    exact hsz
  unfold getItem
  try with_reducible refine wpAny_holding ?_
  first | refine wpAny_bind (wpAny_pure ?_) | skip
  refine wpAny_bind (wpAny_sequenceKey ht.typeIs (by decide) ?_)
  refine wpAny_bind (wpAny_callSpecial?_slot (name := Str.ofString "__getitem__") ht.typeIs PyProof.Rows.slot_tuple_getitem
    (wpAny_call_entry PyProof.Rows.slot_tuple_getitem ht.typeIs PyProof.Rows.entry_tuple_getitem ?_ (PyProof.Rows.args_tuple_getitem _ _)))
  show wpAny _ _ (Builtin.Tuple.tupleItemsOf (.ref t) >>= _) _ _ s
  refine wpAny_bind (tupleItemsOf_ ht ?_)
  refine wpAny_bind (wpAny_typeOf hTs ?_)
  rw [if_pos (by decide)]
  refine wpAny_bind (sliceApplied_rev hs pl pu ps ?_)
  show wpAny _ _ (if ((((items.size : Int) - 1) == 0) && ((-1 : Int) == 1) && (items.size == items.size)) = true then _ else _) _ _ s
  rw [if_neg (by rw [show ((-1 : Int) == 1) = false from rfl, Bool.and_false, Bool.false_and]; decide), pick_rev]
  first
    | exact wpAny_bind (m := Builtin.Tuple.tupleExact _) (wpAny_newObj_type (wpAny_pure ⟨_, rfl, wpAny_pure h⟩) htake)
    | exact wpAny_bind (m := Builtin.Tuple.tupleExact _) (wpAny_newObj_type (wpAny_bind (wpAny_pure (wpAny_pure ⟨_, rfl, wpAny_pure h⟩))) htake)
    | exact wpAny_bind (wpAny_bind (m := Builtin.Tuple.tupleExact _) (wpAny_newObj_type (wpAny_pure (wpAny_pure ⟨_, rfl, wpAny_pure h⟩)) htake))
    | exact wpAny_bind (wpAny_bind (m := Builtin.Tuple.tupleExact _) (wpAny_newObj_type (wpAny_pure ⟨_, rfl, wpAny_pure h⟩) htake))
section
variable {X : Cx}
def tRevT (K : PySem.W.Frag) (te : TE) : TE := fun σ H Q => te σ H fun x H1 => ∃ a xs, x = .ref a ∧ SqT K H1 a xs ∧ ∀ p, H1 p = none → Q (.ref p) (upd H1 p (.tup xs.reverse))
theorem pe_revT {e : Expr} {te : TE} {k : Nat} {p1 p2 p3 pos : Pos} (he : PE X e te) : PE X (.Subscript e (.Slice none none (some (.UnaryOp .USub (.Constant (.int 1) k p1) p2)) p3) pos) (tRevT X.K te) := by
  refine ⟨fun pins s σ H Q I h => ?_⟩
  refine Subscript_ (thn (he.run pins s σ H _ I h) fun v s1 ⟨x, H1, I1, r1, q1⟩ => ?_)
  obtain ⟨a, xs, ex, hx, q⟩ := q1
  subst ex
  cases r1
  have hst : PO X (some (.UnaryOp .USub (.Constant (.int 1) k p1) p2)) (tPart (tUn (rU fun i => .int (-i)) (tC (.int 1)))) := po_some (pe_un un_neg pe_int)
  refine wpAny_Slice (thn (po_none.run pins s1 σ H1 (fun o H2 => o = none ∧ H2 = H1) I1 ⟨rfl, rfl⟩) fun vl s2 ⟨l, H2, I2, pl, el, e2⟩ => ?_)
  subst el e2
  refine thn (po_none.run pins s2 σ H2 (fun o H3 => o = none ∧ H3 = H2) I2 ⟨rfl, rfl⟩) fun vu s3 ⟨u, H3, I3, pu, eu, e3⟩ => ?_
  subst eu e3
  refine thn (hst.run pins s3 σ H3 (fun o H4 => o = some (-1) ∧ H4 = H3) I3 ⟨1, rfl, -1, rfl, rfl, rfl⟩) fun vs s4 ⟨o, H4, I4, ps, eo, e4⟩ => ?_
  subst eo e4
  have I5 : Inv X pins σ H4 { s4 with heap := s4.heap.push { cls := .type "slice", data := .fields #[vl, vu, vs] } } := I4.kept (t' := s4.toks) fun b ob q => Heap.get?_push_of_some _ q
  obtain ⟨its, r, ht, hz⟩ := I5.tuple hx
  have hlen := r.length
  show wpAny (model X.prog X.w) X.A (subscriptTail e (.Slice none none (some (.UnaryOp .USub (.Constant (.int 1) k p1) p2)) p3) (.ref a) (.ref s4.heap.objs.size)) (EP X pins σ Q) X.xe { s4 with heap := s4.heap.push { cls := .type "slice", data := .fields #[vl, vu, vs] } }
  refine tail_any (ops := [.ref a, .ref s4.heap.objs.size]) ht.typeIs (PyProof.Rows.slot_tuple_getitem.lookup) ?_ (by with_unfolding_all rfl)
  refine getItem_revT ht (Heap.IsSliceOf.new _ vl vu vs) pl pu ps ?_ (by rw [List.size_toArray]; omega)
  refine ⟨.ref _, _, I5.laid (t' := s4.toks) (o := .tup xs.reverse) (fun b ob q => Heap.get?_push_of_some _ q) (Nat.le_refl _) ?_, rfl, q _ (I5.hok.fresh (Nat.le_refl _))⟩
  exact ⟨by rw [List.length_reverse]; exact hz, _, r.reverse, IsTup.new _ _⟩
end

/-! ### a list's method within a block -/
theorem mt_countBK {X : Cx} {K : PySem.W.Frag} (hK : X.K = K) : MtR X "list.count" (rCntB K) := by
  subst hK
  exact mt_countB
theorem call_isiK {X : Cx} {K : PySem.W.Frag} (hK : X.K = K) : CallR X (.builtin "isinstance") (rIsi K) := by
  subst hK
  exact call_isi
theorem pe_bmK {X : Cx} {K : PySem.W.Frag} (hK : X.K = K) {o e : Expr} {es : List Expr} {to : TE} {t : TA} {name : Str} {apos cpos : Pos} {T id : String} {r : V → List V → Hp → VK → Prop} (pa : PlainAttrs T) (slot : Slot T name id) (hty : typeOf (.builtin id) = pure (.type "method_descriptor")) (hm : MtR X id r) (ho : PE X o to) (ha : PA X (e :: es) t)
    (hbase : attributeBase o name X.env (eval o X.env) = eval o X.env := by rfl)
    (hfew : ((backTo cpos (starEach (e :: es) X.env)).all (fun x => !x.1) && (backToKw cpos (keywordEach [] X.env)).all (fun x => x.1.isSome)
      && decide ((e :: es).length + ([] : List Keyword).length + (if ([] : List Keyword).isEmpty then 0 else 1) < 30)) = true := by rfl)
    (hline : (apos.endLine == cpos.line) = true := by rfl) (hs : starEach (e :: es) X.env = (false, eval e X.env) :: starEach es X.env := by rfl) (hplain : (backTo cpos (starEach es X.env)).any (·.1) = false := by rfl) :
    PE X (.Call (.Attribute o name apos) (e :: es) [] cpos) (tBM K T r to t) := by
  subst hK
  exact pe_bm pa slot hty hm ho ha hbase hfew hline hs hplain

/-! ### rules within a block, the written part by its own letter -/
theorem ix_tupK {X : Cx} {K : PySem.W.Frag} (hK : X.K = K) : IxR X (rIxT K) := by
  subst hK
  exact ix_tup
theorem ix_listK {X : Cx} {K : PySem.W.Frag} (hK : X.K = K) : IxR X (rIxL K) := by
  subst hK
  exact ix_list
theorem call_len_seqK {X : Cx} {K : PySem.W.Frag} (hK : X.K = K) : CallR X (.builtin "len") (fun xs H Q => ∃ p ys, xs = [.ref p] ∧ (SqL K H p ys ∨ SqT K H p ys) ∧ Q (.int ys.length) H) := by
  subst hK
  exact call_len_seq
theorem pe_fldK {X : Cx} {K : PySem.W.Frag} {e : Expr} {ta : TE} {f : Str} {pos : Pos} (hK : X.K = K) (he : PE X e ta) (hb : attributeBase e f X.env (eval e X.env) = eval e X.env) : PE X (.Attribute e f pos) (tFld K ta f) := by
  subst hK
  exact pe_fld he hb

/-! ### what is made on the spot, locked for good -/
def tFrz (t : TE) : TE := fun σ H Q => t σ H fun v H1 => ∃ d u, v = .ref d ∧ H1 d = some u ∧ Mut (some u) ∧ ∀ od, Q v (upd H1 d (.frz od u))
theorem pe_frz {X : Cx} {e : Expr} {t : TE} (h : PE X e t) : PE X e (tFrz t) := by
  refine ⟨fun pins s σ H Q I hw => ?_⟩
  refine thn (h.run pins s σ H _ I hw) fun v s1 ⟨x, H1, I1, r, d, u, ex, hd, mu, q⟩ => ?_
  obtain ⟨od, I2⟩ := I1.lock hd mu
  exact ⟨x, _, I2, r, q od⟩
theorem call_list_ofK {X : Cx} {K : PySem.W.Frag} (hK : X.K = K) : CallR X (.type "list") (fun xs H Q => ∃ p ys, xs = [.ref p] ∧ (SqL K H p ys ∨ SqT K H p ys) ∧ ∀ l, H l = none → Q (.ref l) (upd H l (.lst ys))) := by
  subst hK
  exact call_list_of
theorem sl_tupK {X : Cx} {K : PySem.W.Frag} (hK : X.K = K) : SlR X (rSlT K) := by
  subst hK
  exact sl_tup
/-- a dict comprehension over any walk -/
theorem dcI_it {J : It} {n : Nat} {G : Hp → Prop} {Y : Nat → Hp → V → Hp → Prop} (w : Walk J n G Y) {g : TG} {tt : TT} {tk tv : TE} {vs : List Nat} {σ : L2.St} {H1 : Hp} {D : Addr} {Qd : Hp → Prop} (Pv : Nat → Hp → Prop) (h0 : Pv 0 (upd H1 D (.dK []))) (hG : ∀ i H, i ≤ n → Pv i H → G H)
    (hs : ∀ i x H H', i < n → Pv i H → Y i H x H' → g x (wipe σ vs) H' fun σ2 H2 => wipe σ2 vs = wipe σ vs ∧ tt σ2 H2 fun b H3 =>
      if b = true then tk σ2 H3 fun y H4 => tv σ2 H4 fun z H5 => ∃ kvs k, y = kV k ∧ H5 D = some (.dK kvs) ∧ kvs.length < sizeLine ∧ Pv (i + 1) (upd H5 D (.dK (putK kvs k z))) else Pv (i + 1) H3) (hd : ∀ H, Pv n H → Qd H) :
    ∃ W : Nat → Nat → Hp → Prop, (∃ m, W 0 m (upd H1 D (.dK []))) ∧ ∀ i m H, W i m H →
      (J.stop i H ∧ Qd H) ∨ (J.go i H ∧ ∃ Nx : Hp → Prop, (∀ H', Nx H' → ∃ m', m' < m ∧ W (i + 1) m' H') ∧ ∀ x H', J.yld i H x H' → g x (wipe σ vs) H' fun σ2 H2 => wipe σ2 vs = wipe σ vs ∧ tt σ2 H2 fun b H3 =>
        if b = true then tk σ2 H3 fun y H4 => tv σ2 H4 fun z H5 => ∃ kvs k, y = kV k ∧ H5 D = some (.dK kvs) ∧ kvs.length < sizeLine ∧ Nx (upd H5 D (.dK (putK kvs k z))) else Nx H3) := by
  refine ⟨fun i m H => m = n - i ∧ i ≤ n ∧ Pv i H, ⟨n, by simp, Nat.zero_le _, h0⟩, ?_⟩
  rintro i m H ⟨rfl, hi, p⟩
  have q := hG i H hi p
  by_cases hlt : i < n
  · refine .inr ⟨w.goes i H hlt q, Pv (i + 1), fun H' p' => ⟨n - (i + 1), by omega, rfl, hlt, p'⟩, fun x H' y => hs i x H H' hlt p (w.yields i H x H' hlt q y)⟩
  · have e : i = n := by omega
    subst e
    exact .inl ⟨w.stops H q, hd H p⟩
/-- a dict comprehension bound to a name of the def -/
theorem sw_trueD {kx vx : Expr} {gens : List Comprehension} {scope : Scope} {pos np : Pos} {nm : Str} {ln : Nat} {env : Env} (fk : env.scope.kind = .function) (fy : env.scope.names.lookup nm = some .local) (fl : (np.line == pos.line) = true)
    (fa : (scope.names.any fun (n, k) => n == nm && (k == .local || k == .cell)) = false) : swapsWith (.DictComp kx vx gens scope pos) (some (.Name nm np)) ln env = pure true := by
  have e1 : env.kindOf nm = some .local := fy
  have e2 : env.blockKind = .function := by
    unfold Env.blockKind
    rw [fk]
    rfl
  unfold swapsWith
  simp only [e2, e1, fa, Expr.pos, fl]
  rfl
theorem ps_setDc {X : Cx} {j : Nat} {nm : Str} {np : Pos} {kx vx tg iter : Expr} {ifs : List Expr} {scope : Scope} {own : List (Str × Nat)} {pos stp : Pos} {wi : TI} {g : TG} {tt : TT} {tk tv : TE} (calm : X.calm = true) (nodup : X.N.Nodup) (at' : X.N[j]? = some nm) (loc : X.env.scope.names.lookup nm = some .local)
    (sw : swapsWith (.DictComp kx vx [⟨tg, iter, ifs, 0⟩] scope pos) (some (.Name nm np)) stp.line X.env = pure true) (src : PI X tg iter wi) (blk : BlkOk X.N X.env.scope scope own)
    (fg : ∀ (z : Shared) (M : Hp) (C : Addr) (cl : List (Str × Addr)) (fp : List Addr), PG (X.blk z M scope (compEnvC scope cl C X.env) fp) tg g) (ft : ∀ (z : Shared) (M : Hp) (C : Addr) (cl : List (Str × Addr)) (fp : List Addr), PTs (X.blk z M scope (compEnvC scope cl C X.env) fp) ifs tt)
    (fk : ∀ (z : Shared) (M : Hp) (C : Addr) (cl : List (Str × Addr)) (fp : List Addr), PE (X.blk z M scope (compEnvC scope cl C X.env) fp) kx tk) (fv : ∀ (z : Shared) (M : Hp) (C : Addr) (cl : List (Str × Addr)) (fp : List Addr), PE (X.blk z M scope (compEnvC scope cl C X.env) fp) vx tv)
    (fs : ∀ x, foldedSetIterable iter X.env x = pure x := by intro _; rfl) :
    PS X (.Assign [.Name nm np] (.DictComp kx vx [⟨tg, iter, ifs, 0⟩] scope pos) stp) (tAsg (tDc wi g tt tk tv (own.map (·.2))) (gName j)) := by
  refine ⟨fun pz z0 σ0 M0 D0 J0 hq => ?_⟩
  rw [exec_Assign_Name_used _ _ _ _ sw]
  refine wpAny_bind (wpAny_standAt (wpAny_bind ?_))
  show wpAny _ X.A (do let _ ← comprehension (.DictComp kx vx [⟨tg, iter, ifs, 0⟩] scope pos) scope X.env (firstIterPos [⟨tg, iter, ifs, 0⟩] pos) newDict false (eval iter X.env) (some (assign (.Name nm np) X.env))) _ _ z0
  have hq2 : tDc wi g tt tk tv (own.map (·.2)) σ0 M0 (fun x M1 => gName j x σ0 M1 D0.nx) := hq
  refine wpAny_bind (thn (dc_core (Qf := fun _ z9 => SP X pz D0 .next z9) calm nodup J0 src blk fg ft fk fv fs hq2 fun Lz Cz z8 mz M8 J8 w8 n8 p8 => ?_) fun _ z9 w9 => wpAny_pure (wpAny_pure w9))
  show wpAny _ _ (assign (.Name nm np) X.env (.ref Lz)) _ _ _
  refine wpAny_assign_Name (store_ok2 (v := V.ref Lz) J8 nodup at' (.inl loc) rfl (fun z7 J7 ⟨az, sbz, haz⟩ => ?_) (.inr loc))
  obtain ⟨p0, p1, p2, p3, p4, p5⟩ := p8
  have far : Cz ≠ az := haz.elim (fun z => by rw [z]; exact p1) fun z e => p4 nm az z e.symm
  refine ⟨mz, n8.sameBut sbz far, fun h6 sb6 => ?_⟩
  exact ⟨_, M8, J7.turned (t' := z7.toks) (fun b o hb e => (sb6.2 b hb).trans e) p0 p1 p3 p4 p5, w8⟩

/-! ### list.extend(tuple) -/
theorem list_extend_tup (l : Addr) (items : Array Value) (n : Nat) (b : Addr) (items2 : Array Value) (hs0 : ¬(!items.isEmpty && Builtin.List.listTooLong (items.size + items2.size)) = true) (hs1 : items.size ≤ sizeLine) (hs2 : items.size + items2.size ≤ sizeLine + 1) :
    Meets (Builtin.«list.extend» ⟨[.ref l, .ref b], []⟩) (fun _ R s => s.heap.get? l = some { cls := .type "list", dict := none, data := .seq items n, slots := #[] } ∧ IsTup s.heap b items2 ∧ R (.ok (.ret Value.none)) { s with heap := s.heap.update l (Obj.mapSeq fun x => x ++ items2), toks := s.toks }) :=
  .of_wp fun prog w A R s h => by
    obtain ⟨hp, g, d, tk, os⟩ := s
    obtain ⟨hl, ⟨⟨c2, d2, dt2, sl2⟩, hb, hc, n2, hd⟩, h⟩ := h
    dsimp only at hc hd
    subst hc hd
    have f1 := PySem.AutoSeq1.idx_int
    have f2 := PySem.AutoSeq1.sub_tuple_tuple
    have f3 := PySem.AutoSeq1.sub_list_list
    have f4 := PySem.AutoSeq1.sub_tuple_list
    have f5 := PySem.AutoSeq1.sub_list_tuple
    have hz' : (items ++ items2).size ≤ sizeLine + 1 := by rw [Array.size_append]; exact hs2
    wp_walk using (PySem.wpAny_updateSeq hl rfl (hz := hs1) (_hz' := hz')), PySem.AutoSeq1.wpAny_loadPart' hl, PySem.AutoSeq1.wpAny_loadPart' hb
    exact ⟨_, rfl, h⟩
def rExtendT (K : PySem.W.Frag) : V → List V → Hp → VK → Prop := fun x vs H Q => ∃ l b xs zs, x = .ref l ∧ vs = [.ref b] ∧ H l = some (.lst xs) ∧ SqT K H b zs ∧ xs.length + zs.length ≤ sizeLine ∧ Q .non (upd H l (.lst (xs ++ zs)))
theorem mt_extendT {X : Cx} : MtM X "list.extend" (rExtendT X.K) := by
  intro pins s σ H x vs v us Q I rx rv h
  obtain ⟨l, b, xs, zs, rfl, rfl, hH, hB, hz, q⟩ := h
  cases rx
  obtain ⟨u, rfl, ru⟩ := rv.one
  cases ru
  obtain ⟨z, its, n, r, hl, e⟩ := I.lstM hH
  obtain ⟨its2, r2, t2, z2⟩ := I.tuple hB
  have hl2 := r2.length
  have hsz : its.toArray.size + its2.toArray.size ≤ sizeLine := by rw [List.size_toArray, List.size_toArray]; omega
  have hlong : ¬ (!its.toArray.isEmpty && Builtin.List.listTooLong (its.toArray.size + its2.toArray.size)) = true := by
    rw [notLongL hsz, Bool.and_false]
    exact Bool.false_ne_true
  refine call_meets PySem.F.slot_list_extend ⟨_, e, rfl⟩ PySem.F.entry_list_extend (PySem.F.args_list_extend_2 _ _)
    (list_extend_tup l its.toArray n b its2.toArray hlong (by rw [List.size_toArray]; omega) (by omega)) ⟨e, t2, ?_⟩
  refine ⟨.non, _, I.lset (its' := its ++ its2) hH e (by simp) (r.append r2) ?_, rfl, q⟩
  rw [List.length_append]
  omega
theorem op_catTK {X : Cx} {K : PySem.W.Frag} (hK : X.K = K) : OpR X (binaryOp .Add) (rCatT K) := by
  subst hK
  exact op_catT
theorem call_tuple_ofK {X : Cx} {K : PySem.W.Frag} (hK : X.K = K) : CallR X (.type "tuple") (fun xs H Q => ∃ p ys, xs = [.ref p] ∧ ((SqL K H p ys ∧ ∀ l, H l = none → Q (.ref l) (upd H l (.tup ys))) ∨ (SqT K H p ys ∧ Q (.ref p) H))) := by
  subst hK
  exact call_tuple_of
/-! ### list + list, of lists that may be given -/
theorem list_add_loose (l : Addr) (items : Array Value) (b : Addr) (items2 : Array Value) (hc0 : items.size + items2.size ≤ sizeLine) :
    Meets (Builtin.«list.__add__» ⟨[.ref l, .ref b], []⟩) (fun _ R s => PlainL s.heap l items ∧ PlainL s.heap b items2 ∧ R (.ok (.ret (Value.ref s.heap.objs.size))) { s with heap := s.heap.push { cls := Value.type "list", data := Data.seq (items ++ items2) }, toks := s.toks }) :=
  .of_wp fun prog w A R s h => by
    obtain ⟨hp, g, d, tk, os⟩ := s
    obtain ⟨⟨⟨c1, d1, dt1, sl1⟩, n1, hl, hc1, hd1, hdt1⟩, ⟨⟨c2, d2, dt2, sl2⟩, n2, hb, hc2, hd2, hdt2⟩, h⟩ := h
    dsimp only at hc1 hd1 hdt1 hc2 hd2 hdt2
    subst hc1 hd1 hdt1 hc2 hd2 hdt2
    have f1 := PySem.AutoSeq1.idx_int
    have f2 := PySem.AutoSeq1.sub_tuple_tuple
    have f3 := PySem.AutoSeq1.sub_list_list
    have f4 := PySem.AutoSeq1.sub_tuple_list
    have f5 := PySem.AutoSeq1.sub_list_tuple
    wp_walk using PySem.AutoSeq1.wpAny_loadPart' hl, PySem.AutoSeq1.wpAny_loadPart' hb
    exact ⟨_, rfl, h⟩
def rCatL (K : PySem.W.Frag) : R2 := fun x y H Q => ∃ l b xs zs, x = .ref l ∧ y = .ref b ∧ SqL K H l xs ∧ SqL K H b zs ∧ xs.length + zs.length ≤ sizeLine ∧ ∀ p, H p = none → Q (.ref p) (upd H p (.lst (xs ++ zs)))
theorem op_catL {X : Cx} : OpR X (binaryOp .Add) (rCatL X.K) := by
  intro pins s σ H x y v u Q I rx ry h
  obtain ⟨l, b, xs, zs, rfl, rfl, hH, hB, hz, q⟩ := h
  cases rx
  cases ry
  obtain ⟨its, r, pl, z⟩ := I.list hH
  obtain ⟨its2, r2, pl2, z2⟩ := I.list hB
  have hl := r.length
  have hl2 := r2.length
  obtain ⟨o1, m1, e1, t1, _⟩ := id pl
  obtain ⟨o2, m2, e2, t2, _⟩ := id pl2
  refine concat_meets ⟨_, e1, t1⟩ ⟨_, e2, t2⟩ noFill_list_add seq_list_add PySem.F.slot_list_add PySem.F.entry_list_add (PySem.F.args_list_add_2 _ _) (list_add_loose l its.toArray b its2.toArray (by rw [List.size_toArray, List.size_toArray]; omega)) ⟨pl, pl2, ?_⟩
  have ea : its.toArray ++ its2.toArray = (its ++ its2).toArray := by simp
  rw [ea]
  exact ⟨.ref _, _, I.lnew (t' := s.toks) (r.append r2) (by rw [List.length_append]; omega), rfl, q _ I.fresh⟩

/-! ### in, not in: a tuple of data -/
section
variable {X : Cx}
def rInT (K : PySem.W.Frag) (neg : Bool) : R2 := fun x y H Q => ∃ d ds, Dp K H x d ∧ Dp K H y (.tuple ds) ∧ SeqAt.shaped d = true ∧ SeqAt.shaped (.tuple ds) = true ∧ Q (.bl (if neg then !ds.any (fun z => PyData.eqv z d) else ds.any fun z => PyData.eqv z d)) H
theorem op_inT (hu : X.A.units + 65 < cLine) : OpR X (compareOp .In) (rInT X.K false) := by
  intro pins s σ H x y v u Q I rx ry h
  obtain ⟨d, ds, hd, he, sd, se, q⟩ := h
  obtain ⟨as, z1⟩ := Dp.reads I d x v hd rx
  obtain ⟨bs, z2⟩ := Dp.reads I (.tuple ds) y u he ry
  exact SeqAt.in_tuple_reads z2 z1 (SeqAt.canLay_of_shaped se) (SeqAt.canLay_of_shaped sd) (PyProof.Rows.room_in_shaped sd hu) ⟨.bl _, H, I, rfl, q⟩
theorem op_notInT (hu : X.A.units + 65 < cLine) : OpR X (compareOp .NotIn) (rInT X.K true) := by
  intro pins s σ H x y v u Q I rx ry h
  obtain ⟨d, ds, hd, he, sd, se, q⟩ := h
  obtain ⟨as, z1⟩ := Dp.reads I d x v hd rx
  obtain ⟨bs, z2⟩ := Dp.reads I (.tuple ds) y u he ry
  exact SeqAt.notIn_tuple_reads z2 z1 (SeqAt.canLay_of_shaped se) (SeqAt.canLay_of_shaped sd) (PyProof.Rows.room_in_shaped sd hu) ⟨.bl _, H, I, rfl, q⟩
end

end My
namespace My
open PySem L2
inductive Sl | pt | oth | num | plc | knd
  deriving DecidableEq
def fit : Sl → V → Prop
  | .pt, v => ∃ i, v = .int i
  | .oth, v => v = .non ∨ ∃ i, v = .int i
  | .num, v => ∃ i, v = .int i
  | .plc, v => ∃ i : Int, v = .int i ∧ 0 ≤ i
  | .knd, v => ∃ k, v = .str k ∧ k ∈ kinds
inductive FitAll : List Sl → List V → Prop
  | nil : FitAll [] []
  | cons {s : Sl} {v : V} {ss : List Sl} {vs : List V} : fit s v → FitAll ss vs → FitAll (s :: ss) (v :: vs)
def forms : List (Str × List Sl) := [("new", [.num, .knd]), ("put", [.pt, .num]), ("paint", [.pt, .knd]), ("tie", [.pt, .pt]), ("cut", [.pt, .pt]), ("add", [.pt, .pt, .num]), ("spread", [.pt, .oth, .num]),
  ("joined", [.pt, .pt]), ("way", [.pt, .pt]), ("total", [.pt, .pt]), ("many", [.pt, .pt]), ("most", [.pt, .pt]), ("first", [.pt, .pt, .knd]), ("reach", [.pt, .pt, .num]), ("kth", [.pt, .pt, .plc]), ("meet", [.pt, .pt, .pt]), ("sum", [.pt, .oth]), ("size", [.pt, .oth]), ("top", [.pt, .oth]), ("least", [.pt, .oth, .knd])]
def evs : List Str := ["new", "put", "paint", "tie", "cut", "add", "spread", "joined", "way", "total", "many", "most", "first", "reach", "kth", "meet", "sum", "size", "top", "least"]

/-! ### a written dict from texts to tuples of texts -/
def formB (K : PySem.W.Frag) : List DictEntry → List (Str × List Str) → Bool
  | [], [] => true
  | e :: es, f :: fs => e.key.isStr f.1 && ((match e.val with | .ref a => tupB K a f.2 | _ => false) && formB K es fs)
  | _, _ => false
theorem isStr_key {v : Value} {x : Str} (h : v.isStr x = true) : ∃ t, v = .str x t := by
  cases v with
  | str y t =>
    have e : (y == x) = true := h
    exact ⟨t, by rw [beq_iff_eq.mp e]⟩
  | _ => exact nomatch h
theorem formB_ns {K : PySem.W.Frag} : ∀ {es : List DictEntry} {fs : List (Str × List Str)}, formB K es fs = true → es.any (·.refKey) = false ∧ ∀ z : Str, match fs.lookup z with
    | none => es.find? (·.key.isStr z) = none
    | some ws => ∃ e a, es.find? (·.key.isStr z) = some e ∧ e.val = .ref a ∧ tupB K a ws = true
  | [], [], _ => ⟨rfl, fun _ => rfl⟩
  | [], _ :: _, h => nomatch h
  | _ :: _, [], h => nomatch h
  | e :: es, f :: fs, h => by
    unfold formB at h
    rw [Bool.and_eq_true, Bool.and_eq_true] at h
    obtain ⟨h1, h2, h3⟩ := h
    obtain ⟨r1, r2⟩ := formB_ns h3
    obtain ⟨t, ek⟩ := isStr_key h1
    refine ⟨?_, fun z => ?_⟩
    · rw [List.any_cons, r1, Bool.or_false]
      obtain ⟨hs, k, v⟩ := e
      dsimp only at ek
      subst ek
      rfl
    · have q := r2 z
      rw [List.lookup_cons, List.find?_cons]
      by_cases ez : z = f.1
      · subst ez
        rw [beq_self_eq_true]
        dsimp only
        rw [h1]
        dsimp only
        cases ev : e.val with
        | ref a =>
          rw [ev] at h2
          exact ⟨e, a, rfl, ev, h2⟩
        | _ =>
          rw [ev] at h2
          exact nomatch h2
      · have e1 : (z == f.1) = false := beq_eq_false_iff_ne.mpr ez
        have e2 : e.key.isStr z = false := by
          rw [ek]
          show (f.1 == z) = false
          exact beq_eq_false_iff_ne.mpr fun y => ez y.symm
        rw [e1, e2]
        dsimp only
        exact q
theorem formB_get {K : PySem.W.Frag} {d : Addr} {c : Value} {od : Option Addr} {es : Array DictEntry} {n : Nat} {sl : Array (Option Value)} {fs : List (Str × List Str)} (hl : K.lookup d = some ⟨c, od, .dict es n, sl⟩) (h : formB K es.toList fs = true) (z : Str) :
    match fs.lookup z with
    | none => PySem.W.nsIn K d z = some none
    | some ws => ∃ a, PySem.W.nsIn K d z = some (some (.ref a)) ∧ tupB K a ws = true := by
  obtain ⟨r1, r2⟩ := formB_ns h
  have q := r2 z
  unfold PySem.W.nsIn
  rw [hl]
  cases e : fs.lookup z with
  | none =>
    rw [e] at q
    dsimp only at q ⊢
    rw [q]
    dsimp only
    rw [r1]
    rfl
  | some ws =>
    rw [e] at q
    obtain ⟨en, a, h1, h2, h3⟩ := q
    refine ⟨a, ?_, h3⟩
    dsimp only
    rw [h1]
    dsimp only
    rw [h2]
/-! ### anything -/
inductive AnyV (H : Hp) : V → Prop
  | non : AnyV H .non
  | bl (b : Bool) : AnyV H (.bl b)
  | int (i : Int) : AnyV H (.int i)
  | str (x : Str) : AnyV H (.str x)
  | tup {a : Addr} {xs : List V} (h : H a = some (.tup xs)) : AnyV H (.ref a)
  | lst {a : Addr} {xs : List V} (h : H a = some (.lst xs)) : AnyV H (.ref a)
  | dK {a : Addr} {kvs : List (Key × V)} (h : H a = some (.dK kvs)) : AnyV H (.ref a)
/-- all but tables of code objects stays -/
def Kp (H H' : Hp) : Prop := ∀ a o, H a = some o → (∀ ps, o ≠ .tbl ps) → H' a = some o
theorem Kp.refl (H : Hp) : Kp H H := fun _ _ e _ => e
theorem Kp.trans {H H1 H2 : Hp} (x : Kp H H1) (y : Kp H1 H2) : Kp H H2 := fun a o e n => y a o (x a o e n) n
theorem Kp.of_same {H H' : Hp} (s : Same H H') : Kp H H' := fun a o e _ => s a o e
theorem Kp.of_tab {H H' : Hp} {P : Addr} (g : GxR.TabG H P) (t : GxR.Tabbed P H H') : Kp H H' := fun a o e n => by
  by_cases h : a = P
  · subst h
    obtain ⟨ps, hp, _⟩ := g
    rw [hp] at e
    exact absurd (Option.some.inj e).symm (n ps)
  · rw [t.2 a h]
    exact e
theorem AnyV.kp {H H' : Hp} (k : Kp H H') {v : V} (h : AnyV H v) : AnyV H' v := by
  cases h with
  | non => exact .non
  | bl b => exact .bl b
  | int i => exact .int i
  | str x => exact .str x
  | tup h => exact .tup (k _ _ h (by intro ps z; cases z))
  | lst h => exact .lst (k _ _ h (by intro ps z; cases z))
  | dK h => exact .dK (k _ _ h (by intro ps z; cases z))
/-- isinstance with int, bool, str, tuple -/
def isIntV : V → Bool
  | .bl _ => true
  | .int _ => true
  | _ => false
def isBoolV : V → Bool
  | .bl _ => true
  | _ => false
def isStrV : V → Bool
  | .str _ => true
  | _ => false
theorem int_ok {K : PySem.W.Frag} {H : Hp} {v : V} (h : AnyV H v) : ∃ t, TyX K H v t ∧ PySem.W.kitOne K t (.type "int") = some (isIntV v) := by
  cases h with
  | non => exact ⟨_, .base .non, kit_ty (show kitB _ _ = some false by decide +kernel)⟩
  | bl b => exact ⟨_, .base (.bl b), kit_ty (show kitB _ _ = some true by decide +kernel)⟩
  | int i => exact ⟨_, .base (.int i), kit_ty (show kitB _ _ = some true by decide +kernel)⟩
  | str x => exact ⟨_, .base (.str x), kit_ty (show kitB _ _ = some false by decide +kernel)⟩
  | tup h => exact ⟨_, .base (.tup h), kit_ty (show kitB _ _ = some false by decide +kernel)⟩
  | lst h => exact ⟨_, .base (.lst h), kit_ty (show kitB _ _ = some false by decide +kernel)⟩
  | dK h => exact ⟨_, .base (.dK h), kit_ty (show kitB _ _ = some false by decide +kernel)⟩
theorem bool_ok {K : PySem.W.Frag} {H : Hp} {v : V} (h : AnyV H v) : ∃ t, TyX K H v t ∧ PySem.W.kitOne K t (.type "bool") = some (isBoolV v) := by
  cases h with
  | non => exact ⟨_, .base .non, kit_ty (show kitB _ _ = some false by decide +kernel)⟩
  | bl b => exact ⟨_, .base (.bl b), kit_ty (show kitB _ _ = some true by decide +kernel)⟩
  | int i => exact ⟨_, .base (.int i), kit_ty (show kitB _ _ = some false by decide +kernel)⟩
  | str x => exact ⟨_, .base (.str x), kit_ty (show kitB _ _ = some false by decide +kernel)⟩
  | tup h => exact ⟨_, .base (.tup h), kit_ty (show kitB _ _ = some false by decide +kernel)⟩
  | lst h => exact ⟨_, .base (.lst h), kit_ty (show kitB _ _ = some false by decide +kernel)⟩
  | dK h => exact ⟨_, .base (.dK h), kit_ty (show kitB _ _ = some false by decide +kernel)⟩
theorem str_ok {K : PySem.W.Frag} {H : Hp} {v : V} (h : AnyV H v) : ∃ t, TyX K H v t ∧ PySem.W.kitOne K t (.type "str") = some (isStrV v) := by
  cases h with
  | non => exact ⟨_, .base .non, kit_ty (show kitB _ _ = some false by decide +kernel)⟩
  | bl b => exact ⟨_, .base (.bl b), kit_ty (show kitB _ _ = some false by decide +kernel)⟩
  | int i => exact ⟨_, .base (.int i), kit_ty (show kitB _ _ = some false by decide +kernel)⟩
  | str x => exact ⟨_, .base (.str x), kit_ty (show kitB _ _ = some true by decide +kernel)⟩
  | tup h => exact ⟨_, .base (.tup h), kit_ty (show kitB _ _ = some false by decide +kernel)⟩
  | lst h => exact ⟨_, .base (.lst h), kit_ty (show kitB _ _ = some false by decide +kernel)⟩
  | dK h => exact ⟨_, .base (.dK h), kit_ty (show kitB _ _ = some false by decide +kernel)⟩
/-! ### rows by their form -/
def wholeB : V → Bool
  | .int _ => true
  | _ => false
def kindB : V → Bool
  | .str k => decide (k ∈ kinds)
  | _ => false
def fitB : Sl → V → Bool
  | .knd, v => kindB v
  | .oth, v => decide (v = .non) || wholeB v
  | .plc, .int i => decide (0 ≤ i)
  | .plc, _ => false
  | _, v => wholeB v
def slT : Sl → Str
  | .pt => "point"
  | .oth => "other"
  | .num => "number"
  | .plc => "place"
  | .knd => "kind"
def fitsB : List Sl → List V → Bool
  | [], [] => true
  | s :: ss, v :: vs => fitB s v && fitsB ss vs
  | _, _ => false
theorem fits_len : ∀ {ss : List Sl} {vs : List V}, vs.length ≠ ss.length → fitsB ss vs = false
  | [], [], h => absurd rfl h
  | [], _ :: _, _ => rfl
  | _ :: _, [], _ => rfl
  | s :: ss, v :: vs, h => by
    show (fitB s v && fitsB ss vs) = false
    rw [fits_len (ss := ss) (vs := vs) fun z => h (by rw [List.length_cons, List.length_cons, z]), Bool.and_false]
theorem drop_at {α : Type} {xs : List α} {i : Nat} {x : α} (h : xs[i]? = some x) : xs.drop i = x :: xs.drop (i + 1) := by
  obtain ⟨hl, e⟩ := List.getElem?_eq_some_iff.mp h
  rw [List.drop_eq_getElem_cons hl, e]
def rowB : List V → Bool
  | .str w :: ps => (match forms.lookup w with | some sl => fitsB sl ps | none => false)
  | _ => false
def formsT : List (Str × List Str) := forms.map fun f => (f.1, f.2.map slT)
theorem formsT_lookup (z : Str) : formsT.lookup z = (forms.lookup z).map fun sl => sl.map slT := by
  have g : ∀ l : List (Str × List Sl), (l.map fun f => (f.1, f.2.map slT)).lookup z = (l.lookup z).map fun sl => sl.map slT := by
    intro l
    induction l with
    | nil => rfl
    | cons f r ih =>
      obtain ⟨a, b⟩ := f
      rw [List.map_cons, List.lookup_cons, List.lookup_cons]
      cases e : z == a with
      | true => rfl
      | false => exact ih
  exact g forms
/-- a def by its body, its code object known -/
theorem okC {P : Program} {w : World} {K : PySem.W.Frag} {mg : Str → Option Value} {base : Heap} {x qual : Str} {st : Stmt} {f c : Addr} {fd : FuncData} {N ps : List Str} {k : Nat} {sp : Sp} (F : Fun K x qual st f fd) (hcd : fd.code = .ref c) (S : FnScope N ps (defScope st))
    (len : ∀ vs H Q E, sp vs H Q E → vs.length = ps.length)
    (body : ∀ (A : Around) (outer : List Env) (s : Shared) (H : Hp) (vs : List V) (Q : VK) (E : XK), Room k (A.deeper (PyProof.Rows.envOfC qual (defScope st) s.heap.objs.size f (.ref c))) → sp vs H Q E →
      ∃ t, PSs (cxOf CX0 P w K mg base N qual (defScope st) f (.ref c) A outer s H E).nox (defBody st) t ∧ t { nx := fun _ H' => Q .non H', rt := Q } (start N vs) H) : FnOk P w K mg base CX0 (k + 1) f fd ps sp := by
  obtain ⟨oc, od, kV, doc, pm, an, cdv, ct, osl, rfl, lk, hc⟩ := F.ex
  have e : cdv = .ref c := hcd
  subst e
  refine fn_of lk hc S len fun A outer s H vs Q E hr hsp => ?_
  obtain ⟨t, h, q⟩ := body A outer s H vs Q E hr hsp
  exact ⟨t, h.nox, q⟩

end My
namespace My
open PySem L2
/-! ### names linked in trees -/
section
variable {N : Type} [DecidableEq N]
def up1 {α : Type} (f : N → α) (x : N) (v : α) : N → α := fun y => if y = x then v else f y
theorem up1_same {α : Type} {f : N → α} {x : N} {v : α} : up1 f x v x = v := if_pos rfl
theorem up1_ne {α : Type} {f : N → α} {x y : N} {v : α} (h : y ≠ x) : up1 f x v y = f y := if_neg h
structure Lk (N : Type) where
  ns : List N
  l : N → Option N
  r : N → Option N
  a : N → Option N
  t : N → Bool
  lk : Nat
def upO {α : Type} (f : N → α) (x : Option N) (v : α) : N → α := match x with | none => f | some z => up1 f z v
theorem upO_ne {α : Type} {f : N → α} {x : Option N} {y : N} {v : α} (h : some y ≠ x) : upO f x v y = f y := by
  cases x with
  | none => rfl
  | some z => exact up1_ne fun e => h (by rw [e])
theorem upO_same {α : Type} {f : N → α} {y : N} {v : α} : upO f (some y) v y = v := up1_same
def Lk.setL (S : Lk N) (x : N) (y : Option N) : Lk N := { S with l := up1 S.l x y, a := upO S.a y (some x) }
def Lk.setR (S : Lk N) (x : N) (y : Option N) : Lk N := { S with r := up1 S.r x y, a := upO S.a y (some x) }
def Lk.isTop (S : Lk N) (x : N) : Bool := match S.a x with | none => true | some u => !(decide (S.l u = some x) || decide (S.r u = some x))
def Lk.inPlace (S : Lk N) (x u : N) : Lk N :=
  { S with a := up1 S.a x (S.a u)
           l := match S.a u with | none => S.l | some o => if S.l o = some u then up1 S.l o (some x) else S.l
           r := match S.a u with | none => S.r | some o => if S.l o = some u then S.r else if S.r o = some u then up1 S.r o (some x) else S.r }
def Lk.turn1 (S : Lk N) (x u : N) : Lk N :=
  let S1 := { S with lk := S.lk + 1 }.inPlace x u
  if S1.l u = some x then (S1.setL u (S1.r x)).setR x (some u) else (S1.setR u (S1.l x)).setL x (some u)
def Lk.turn (S : Lk N) (x : N) : Lk N := match S.a x with | none => S | some u => S.turn1 x u
/-- the same as far as l, r, a, t go -/
def Agr (S S' : Lk N) (x : N) : Prop := S'.l x = S.l x ∧ S'.r x = S.r x ∧ S'.a x = S.a x ∧ S'.t x = S.t x
theorem Agr.refl {S : Lk N} {x : N} : Agr S S x := ⟨rfl, rfl, rfl, rfl⟩
theorem Agr.trans {S S1 S2 : Lk N} {x : N} (h : Agr S S1 x) (k : Agr S1 S2 x) : Agr S S2 x := ⟨k.1.trans h.1, k.2.1.trans h.2.1, k.2.2.1.trans h.2.2.1, k.2.2.2.trans h.2.2.2⟩
inductive Tr (N : Type) where
  | nil : Tr N
  | nd (tw : Bool) (l : Tr N) (x : N) (r : Tr N) : Tr N
def Tr.root : Tr N → Option N
  | .nil => none
  | .nd _ _ x _ => some x
def Tr.nms : Tr N → List N
  | .nil => []
  | .nd _ l x r => l.nms ++ x :: r.nms
/-- the order that is meant -/
def Tr.ord : Tr N → List N
  | .nil => []
  | .nd false l x r => l.ord ++ x :: r.ord
  | .nd true l x r => (l.ord ++ x :: r.ord).reverse
def Rep (S : Lk N) : Option N → Tr N → Prop
  | _, .nil => True
  | p, .nd tw l x r => x ∈ S.ns ∧ S.t x = tw ∧ S.l x = l.root ∧ S.r x = r.root ∧ S.a x = p ∧ Rep S (some x) l ∧ Rep S (some x) r
theorem Tr.root_mem : ∀ {T : Tr N} {x : N}, T.root = some x → x ∈ T.nms
  | .nd _ l y r, x, h => by
    cases h
    exact List.mem_append_right _ List.mem_cons_self
theorem Tr.ord_mem : ∀ {T : Tr N} {x : N}, x ∈ T.ord ↔ x ∈ T.nms
  | .nil, x => Iff.rfl
  | .nd false l y r, x => by
    simp only [Tr.ord, Tr.nms, List.mem_append, List.mem_cons, l.ord_mem, r.ord_mem]
  | .nd true l y r, x => by
    simp only [Tr.ord, Tr.nms, List.mem_reverse, List.mem_append, List.mem_cons, l.ord_mem, r.ord_mem]
theorem Rep.sub {S : Lk N} : ∀ {T : Tr N} {p : Option N} {x : N}, Rep S p T → x ∈ T.nms → x ∈ S.ns
  | .nd _ l y r, p, x, h, m => by
    obtain ⟨h1, _, _, _, _, hl, hr⟩ := h
    rcases List.mem_append.mp m with m | m
    · exact hl.sub m
    · rcases List.mem_cons.mp m with rfl | m
      · exact h1
      · exact hr.sub m
/-- what isn't in it may change; the top may come to be below another one -/
theorem Rep.re {S S' : Lk N} (hn : S'.ns = S.ns) : ∀ {T : Tr N} {p p' : Option N}, Rep S p T → T.nms.Nodup → (∀ x ∈ T.nms, S'.l x = S.l x ∧ S'.r x = S.r x ∧ S'.t x = S.t x) → (∀ x ∈ T.nms, T.root ≠ some x → S'.a x = S.a x) → (∀ x, T.root = some x → S'.a x = p') → Rep S' p' T
  | .nil, _, _, _, _, _, _, _ => trivial
  | .nd tw l x r, p, p', h, nd, h1, h2, h3 => by
    obtain ⟨q1, q2, q3, q4, q5, ql, qr⟩ := h
    have nd : (l.nms ++ x :: r.nms).Nodup := nd
    obtain ⟨n1, n2, n3⟩ := List.nodup_append.mp nd
    obtain ⟨n4, n5⟩ := List.nodup_cons.mp n2
    have ml : ∀ y ∈ l.nms, y ∈ (Tr.nd tw l x r).nms := fun y m => List.mem_append_left _ m
    have mr : ∀ y ∈ r.nms, y ∈ (Tr.nd tw l x r).nms := fun y m => List.mem_append_right _ (List.mem_cons_of_mem _ m)
    have mx : x ∈ (Tr.nd tw l x r).nms := List.mem_append_right _ List.mem_cons_self
    have nl : ∀ y ∈ l.nms, y ≠ x := fun y m e => n3 y m x List.mem_cons_self e
    have nr : ∀ y ∈ r.nms, y ≠ x := fun y m e => n4 (e ▸ m)
    have al : ∀ y ∈ l.nms, S'.a y = S.a y := fun y m => h2 y (ml y m) fun e => nl y m (Option.some.inj e).symm
    have ar : ∀ y ∈ r.nms, S'.a y = S.a y := fun y m => h2 y (mr y m) fun e => nr y m (Option.some.inj e).symm
    obtain ⟨a1, a2, a3⟩ := h1 x mx
    refine ⟨hn ▸ q1, a3.trans q2, a1.trans q3, a2.trans q4, h3 x rfl, ql.re hn n1 (fun y m => h1 y (ml y m)) (fun y m _ => al y m) (fun y e => ?_), qr.re hn n5 (fun y m => h1 y (mr y m)) (fun y m _ => ar y m) (fun y e => ?_)⟩
    · rw [al y (Tr.root_mem e)]
      cases l with
      | nil => exact nomatch e
      | nd tw2 l2 y2 r2 =>
        cases e
        exact ql.2.2.2.2.1
    · rw [ar y (Tr.root_mem e)]
      cases r with
      | nil => exact nomatch e
      | nd tw2 l2 y2 r2 =>
        cases e
        exact qr.2.2.2.2.1
theorem Rep.agr {S S' : Lk N} (hn : S'.ns = S.ns) : ∀ {T : Tr N} {p : Option N}, Rep S p T → (∀ x ∈ T.nms, Agr S S' x) → Rep S' p T
  | .nil, _, _, _ => trivial
  | .nd tw l x r, p, h, h1 => by
    obtain ⟨q1, q2, q3, q4, q5, ql, qr⟩ := h
    obtain ⟨a1, a2, a3, a4⟩ := h1 x (List.mem_append_right _ List.mem_cons_self)
    exact ⟨hn ▸ q1, a4.trans q2, a1.trans q3, a2.trans q4, a3.trans q5, ql.agr hn fun y m => h1 y (List.mem_append_left _ m), qr.agr hn fun y m => h1 y (List.mem_append_right _ (List.mem_cons_of_mem _ m))⟩
theorem Rep.top {S : Lk N} {T : Tr N} {p : Option N} {x : N} (h : Rep S p T) (e : T.root = some x) : S.a x = p := by
  cases T with
  | nil => exact nomatch e
  | nd tw l y r =>
    cases e
    exact h.2.2.2.2.1
/-- two states that make the same tree agree on it -/
theorem Rep.det {S S' : Lk N} : ∀ {T : Tr N} {p : Option N}, Rep S p T → Rep S' p T → ∀ x ∈ T.nms, Agr S S' x
  | .nd tw l x r, p, h, k, y, m => by
    obtain ⟨_, q2, q3, q4, q5, ql, qr⟩ := h
    obtain ⟨_, k2, k3, k4, k5, kl, kr⟩ := k
    rcases List.mem_append.mp m with m | m
    · exact ql.det kl y m
    · rcases List.mem_cons.mp m with rfl | m
      · exact ⟨k3.trans q3.symm, k4.trans q4.symm, k5.trans q5.symm, k2.trans q2.symm⟩
      · exact qr.det kr y m
/-- what stands around a part of a tree, from within: (is the part the left one, the name, the other part); nothing is turned there -/
abbrev Cz (N : Type) := List (Bool × N × Tr N)
def plug : Tr N → Cz N → Tr N
  | t, [] => t
  | t, (true, u, s) :: c => plug (.nd false t u s) c
  | t, (false, u, s) :: c => plug (.nd false s u t) c
def ctop (p : Option N) : Cz N → Option N
  | [] => p
  | (_, u, _) :: _ => some u
def cnm : Cz N → List N
  | [] => []
  | (_, u, s) :: c => u :: s.nms ++ cnm c
def RepC (S : Lk N) (p : Option N) : Cz N → Option N → Prop
  | [], _ => True
  | (b, u, s) :: c, z => u ∈ S.ns ∧ S.t u = false ∧ (if b then S.l u = z ∧ S.r u = s.root else S.l u = s.root ∧ S.r u = z) ∧ S.a u = ctop p c ∧ Rep S (some u) s ∧ RepC S p c (some u)
theorem rep_plug {S : Lk N} {p : Option N} : ∀ {c : Cz N} {t : Tr N}, Rep S p (plug t c) ↔ Rep S (ctop p c) t ∧ RepC S p c t.root
  | [], t => ⟨fun h => ⟨h, trivial⟩, fun h => h.1⟩
  | (true, u, s) :: c, t => by
    show Rep S p (plug (.nd false t u s) c) ↔ _
    rw [rep_plug]
    constructor
    · rintro ⟨⟨h1, h2, h3, h4, h5, h6, h7⟩, h8⟩
      exact ⟨h6, h1, h2, ⟨h3, h4⟩, h5, h7, h8⟩
    · rintro ⟨h6, h1, h2, ⟨h3, h4⟩, h5, h7, h8⟩
      exact ⟨⟨h1, h2, h3, h4, h5, h6, h7⟩, h8⟩
  | (false, u, s) :: c, t => by
    show Rep S p (plug (.nd false s u t) c) ↔ _
    rw [rep_plug]
    constructor
    · rintro ⟨⟨h1, h2, h3, h4, h5, h6, h7⟩, h8⟩
      exact ⟨h7, h1, h2, ⟨h3, h4⟩, h5, h6, h8⟩
    · rintro ⟨h6, h1, h2, ⟨h3, h4⟩, h5, h7, h8⟩
      exact ⟨⟨h1, h2, h3, h4, h5, h7, h6⟩, h8⟩
theorem plug_perm : ∀ {c : Cz N} {t : Tr N}, (plug t c).nms.Perm (t.nms ++ cnm c)
  | [], t => by
    show t.nms.Perm (t.nms ++ [])
    rw [List.append_nil]
  | (true, u, s) :: c, t => by
    refine (plug_perm (c := c) (t := .nd false t u s)).trans ?_
    show ((t.nms ++ u :: s.nms) ++ cnm c).Perm (t.nms ++ (u :: s.nms ++ cnm c))
    rw [List.append_assoc]
  | (false, u, s) :: c, t => by
    refine (plug_perm (c := c) (t := .nd false s u t)).trans ?_
    show ((s.nms ++ u :: t.nms) ++ cnm c).Perm (t.nms ++ (u :: s.nms ++ cnm c))
    refine ((List.perm_append_comm (l₁ := s.nms) (l₂ := u :: t.nms)).append_right _).trans ?_
    show (u :: (t.nms ++ s.nms) ++ cnm c).Perm (t.nms ++ (u :: s.nms ++ cnm c))
    rw [List.cons_append, List.cons_append, List.append_assoc]
    exact List.perm_middle.symm
def cL : Cz N → List N
  | [] => []
  | (true, _, _) :: c => cL c
  | (false, u, s) :: c => cL c ++ (s.ord ++ [u])
def cR : Cz N → List N
  | [] => []
  | (true, u, s) :: c => u :: s.ord ++ cR c
  | (false, _, _) :: c => cR c
theorem plug_ord : ∀ {c : Cz N} {t : Tr N}, (plug t c).ord = cL c ++ (t.ord ++ cR c)
  | [], t => by
    show t.ord = [] ++ (t.ord ++ [])
    rw [List.append_nil, List.nil_append]
  | (true, u, s) :: c, t => by
    refine (plug_ord (c := c) (t := .nd false t u s)).trans ?_
    show cL c ++ ((t.ord ++ u :: s.ord) ++ cR c) = cL c ++ (t.ord ++ (u :: s.ord ++ cR c))
    rw [List.append_assoc]
  | (false, u, s) :: c, t => by
    refine (plug_ord (c := c) (t := .nd false s u t)).trans ?_
    show cL c ++ ((s.ord ++ u :: t.ord) ++ cR c) = (cL c ++ (s.ord ++ [u])) ++ (t.ord ++ cR c)
    simp only [List.append_assoc, List.cons_append, List.nil_append]
/-- the context stays where its names do; its innermost one has another part -/
theorem RepC.re {S S' : Lk N} {p : Option N} (hn : S'.ns = S.ns) : ∀ {c : Cz N} {z : Option N}, RepC S p c z → (∀ x ∈ cnm c, Agr S S' x) → RepC S' p c z
  | [], _, _, _ => trivial
  | (b, u, s) :: c, z, h, k => by
    obtain ⟨h1, h2, h3, h4, h5, h6⟩ := h
    obtain ⟨k1, k2, k3, k4⟩ := k u List.mem_cons_self
    refine ⟨hn ▸ h1, k4.trans h2, ?_, k3.trans h4, h5.agr hn fun x m => k x (List.mem_cons_of_mem _ (List.mem_append_left _ m)), h6.re hn fun x m => k x (List.mem_cons_of_mem _ (List.mem_append_right _ m))⟩
    rw [k1, k2]
    exact h3
end
section
variable {N : Type} [DecidableEq N]
/-- l and r once x stands where u was -/
structure Placed (S : Lk N) (x u : N) (c : Cz N) (l1 r1 : N → Option N) : Prop where
  fl : ∀ y, some y ≠ ctop none c → l1 y = S.l y
  fr : ∀ y, some y ≠ ctop none c → r1 y = S.r y
  gb : ∀ b g q c', c = (b, g, q) :: c' → if b then l1 g = some x ∧ r1 g = S.r g else l1 g = S.l g ∧ r1 g = some x
theorem root_ne {s : Tr N} {u : N} (h : u ∉ s.nms) : s.root ≠ some u := fun e => h (Tr.root_mem e)
theorem placed {S : Lk N} {p : Option N} {x u : N} {c : Cz N} (hc : RepC S p c (some u)) (hu : S.a u = ctop p c) (nu : u ∉ cnm c) (ho : c = [] → ∀ q, p = some q → S.l q ≠ some u ∧ S.r q ≠ some u) : Placed S x u c (S.inPlace x u).l (S.inPlace x u).r := by
  cases c with
  | nil =>
    have e1 : (S.inPlace x u).l = S.l := by
      show (match S.a u with | none => S.l | some o => if S.l o = some u then up1 S.l o (some x) else S.l) = S.l
      rw [hu]
      cases p with
      | none => rfl
      | some q => exact if_neg (ho rfl q rfl).1
    have e2 : (S.inPlace x u).r = S.r := by
      show (match S.a u with | none => S.r | some o => if S.l o = some u then S.r else if S.r o = some u then up1 S.r o (some x) else S.r) = S.r
      rw [hu]
      cases p with
      | none => rfl
      | some q =>
        show (if S.l q = some u then S.r else if S.r q = some u then up1 S.r q (some x) else S.r) = S.r
        rw [if_neg (ho rfl q rfl).1, if_neg (ho rfl q rfl).2]
    exact ⟨fun y _ => by rw [e1], fun y _ => by rw [e2], fun b g q c' e => nomatch e⟩
  | cons f c' =>
    obtain ⟨b, g, q⟩ := f
    obtain ⟨_, _, h3, _, _, _⟩ := hc
    have hu : S.a u = some g := hu
    have nq : q.root ≠ some u := root_ne fun m => nu (List.mem_cons_of_mem _ (List.mem_append_left _ m))
    cases b with
    | true =>
      have h3 : S.l g = some u ∧ S.r g = q.root := h3
      have e1 : (S.inPlace x u).l = up1 S.l g (some x) := by
        show (match S.a u with | none => S.l | some o => if S.l o = some u then up1 S.l o (some x) else S.l) = _
        rw [hu]
        exact if_pos h3.1
      have e2 : (S.inPlace x u).r = S.r := by
        show (match S.a u with | none => S.r | some o => if S.l o = some u then S.r else if S.r o = some u then up1 S.r o (some x) else S.r) = S.r
        rw [hu]
        exact if_pos h3.1
      refine ⟨fun y ny => by rw [e1, up1_ne fun e => ny (by rw [e]; rfl)], fun y _ => by rw [e2], fun b2 g2 q2 c2 e => ?_⟩
      cases e
      exact ⟨by rw [e1, up1_same], by rw [e2]⟩
    | false =>
      have h3 : S.l g = q.root ∧ S.r g = some u := h3
      have nl : ¬ S.l g = some u := fun e => nq (h3.1.symm.trans e)
      have e1 : (S.inPlace x u).l = S.l := by
        show (match S.a u with | none => S.l | some o => if S.l o = some u then up1 S.l o (some x) else S.l) = _
        rw [hu]
        exact if_neg nl
      have e2 : (S.inPlace x u).r = up1 S.r g (some x) := by
        show (match S.a u with | none => S.r | some o => if S.l o = some u then S.r else if S.r o = some u then up1 S.r o (some x) else S.r) = _
        rw [hu]
        show (if S.l g = some u then S.r else if S.r g = some u then up1 S.r g (some x) else S.r) = _
        rw [if_neg nl, if_pos h3.2]
      refine ⟨fun y _ => by rw [e1], fun y ny => by rw [e2, up1_ne fun e => ny (by rw [e]; rfl)], fun b2 g2 q2 c2 e => ?_⟩
      cases e
      exact ⟨by rw [e1], by rw [e2, up1_same]⟩
theorem ctop_mem {c : Cz N} {y : N} (h : some y = ctop none c) : y ∈ cnm c := by
  cases c with
  | nil => exact nomatch h
  | cons f c' =>
    obtain ⟨b, g, q⟩ := f
    cases h
    exact List.mem_cons_self
/-- what a turn leaves -/
structure Turned (S S' : Lk N) (T : Tr N) : Prop where
  ns : S'.ns = S.ns
  t : S'.t = S.t
  lk : S'.lk = S.lk + 1
  out : ∀ y, y ∉ T.nms → Agr S S' y
theorem repc_put {S S' : Lk N} {p : Option N} {x u : N} {c : Cz N} (hn : S'.ns = S.ns) (ht : S'.t = S.t) (hc : RepC S p c (some u)) (nd : (cnm c).Nodup)
    (ha : ∀ y ∈ cnm c, S'.a y = S.a y) (hl : ∀ y ∈ cnm c, some y ≠ ctop none c → S'.l y = S.l y) (hr : ∀ y ∈ cnm c, some y ≠ ctop none c → S'.r y = S.r y)
    (gb : ∀ b g q c', c = (b, g, q) :: c' → if b then S'.l g = some x ∧ S'.r g = S.r g else S'.l g = S.l g ∧ S'.r g = some x) : RepC S' p c (some x) := by
  cases c with
  | nil => trivial
  | cons f c' =>
    obtain ⟨b, g, q⟩ := f
    obtain ⟨h1, h2, h3, h4, h5, h6⟩ := hc
    have nd : (g :: (q.nms ++ cnm c')).Nodup := nd
    obtain ⟨n1, n2⟩ := List.nodup_cons.mp nd
    have ag : ∀ y ∈ q.nms ++ cnm c', Agr S S' y := fun y m => by
      have m' : y ∈ cnm ((b, g, q) :: c') := List.mem_cons_of_mem _ m
      have ny : some y ≠ ctop none ((b, g, q) :: c') := fun e => by
        cases e
        exact n1 m
      exact ⟨hl y m' ny, hr y m' ny, ha y m', by rw [ht]⟩
    refine ⟨hn ▸ h1, by rw [ht]; exact h2, ?_, (ha g List.mem_cons_self).trans h4, h5.agr hn fun y m => ag y (List.mem_append_left _ m), h6.re hn fun y m => ag y (List.mem_append_right _ m)⟩
    have z := gb b g q c' rfl
    cases b with
    | true => exact ⟨z.1, z.2.trans h3.2⟩
    | false => exact ⟨z.1.trans h3.1, z.2⟩
theorem turnL {S : Lk N} {p : Option N} {A B s : Tr N} {x u : N} {c : Cz N} (h : Rep S p (plug (.nd false A x B) ((true, u, s) :: c))) (nd : (plug (.nd false A x B) ((true, u, s) :: c)).nms.Nodup)
    (ho : c = [] → ∀ q, p = some q → S.l q ≠ some u ∧ S.r q ≠ some u) :
    Rep (S.turn x) p (plug (.nd false A x (.nd false B u s)) c) ∧ Turned S (S.turn x) (plug (.nd false A x B) ((true, u, s) :: c)) := by
  have nd2 := plug_perm.nodup_iff.mp nd
  rw [show (Tr.nd false A x B).nms = A.nms ++ x :: B.nms from rfl, show cnm ((true, u, s) :: c) = u :: s.nms ++ cnm c from rfl] at nd2
  obtain ⟨n1, n2, n3⟩ := List.nodup_append.mp nd2
  obtain ⟨a1, a2, a3⟩ := List.nodup_append.mp n1
  obtain ⟨b1, b2⟩ := List.nodup_cons.mp a2
  have n2 : (u :: (s.nms ++ cnm c)).Nodup := n2
  obtain ⟨u1, u2⟩ := List.nodup_cons.mp n2
  obtain ⟨s1, s2, s3⟩ := List.nodup_append.mp u2
  have nuc : u ∉ cnm c := fun m => u1 (List.mem_append_right _ m)
  have xu : x ≠ u := n3 x (List.mem_append_right _ List.mem_cons_self) u List.mem_cons_self
  have xc : x ∉ cnm c := fun m => n3 x (List.mem_append_right _ List.mem_cons_self) x (List.mem_cons_of_mem _ (List.mem_append_right _ m)) rfl
  have xs : x ∉ s.nms := fun m => n3 x (List.mem_append_right _ List.mem_cons_self) x (List.mem_cons_of_mem _ (List.mem_append_left _ m)) rfl
  have inB : ∀ y ∈ B.nms, y ≠ u ∧ y ∉ s.nms ∧ y ∉ cnm c ∧ y ≠ x ∧ y ∉ A.nms := fun y m => by
    have my : y ∈ A.nms ++ x :: B.nms := List.mem_append_right _ (List.mem_cons_of_mem _ m)
    exact ⟨n3 y my u List.mem_cons_self, fun z => n3 y my y (List.mem_cons_of_mem _ (List.mem_append_left _ z)) rfl, fun z => n3 y my y (List.mem_cons_of_mem _ (List.mem_append_right _ z)) rfl, fun e => b1 (e ▸ m), fun z => a3 y z y (List.mem_cons_of_mem _ m) rfl⟩
  have inA : ∀ y ∈ A.nms, y ≠ u ∧ y ∉ s.nms ∧ y ∉ cnm c ∧ y ≠ x ∧ y ∉ B.nms := fun y m => by
    have my : y ∈ A.nms ++ x :: B.nms := List.mem_append_left _ m
    exact ⟨n3 y my u List.mem_cons_self, fun z => n3 y my y (List.mem_cons_of_mem _ (List.mem_append_left _ z)) rfl, fun z => n3 y my y (List.mem_cons_of_mem _ (List.mem_append_right _ z)) rfl, a3 y m x List.mem_cons_self, fun z => a3 y m y (List.mem_cons_of_mem _ z) rfl⟩
  obtain ⟨⟨g1, g2, g3, g4, g5, gA, gB⟩, hu1, hu2, ⟨hu3, hu4⟩, hu5, hs, hc⟩ := rep_plug.mp h
  have pl := placed (x := x) hc hu5 nuc ho
  have g5 : S.a x = some u := g5
  have hu3 : S.l u = some x := hu3
  have el : (S.inPlace x u).l u = some x := (pl.fl u fun e => nuc (ctop_mem e)).trans hu3
  have er : (S.inPlace x u).r x = B.root := (pl.fr x fun e => xc (ctop_mem e)).trans g4
  have e0 : S.turn x = (({ S with lk := S.lk + 1 }.inPlace x u).setL u (({ S with lk := S.lk + 1 }.inPlace x u).r x)).setR x (some u) := by
    unfold Lk.turn
    rw [g5]
    exact if_pos el
  have fl : (S.turn x).l = up1 (S.inPlace x u).l u B.root := by
    rw [e0, ← er]
    rfl
  have fr : (S.turn x).r = up1 (S.inPlace x u).r x (some u) := by
    rw [e0]
    rfl
  have fa : (S.turn x).a = up1 (upO (up1 S.a x (S.a u)) B.root (some u)) u (some x) := by
    rw [e0, ← er]
    rfl
  have ft : (S.turn x).t = S.t := by
    rw [e0]
    rfl
  have fn : (S.turn x).ns = S.ns := by
    rw [e0]
    rfl
  have fk : (S.turn x).lk = S.lk + 1 := by
    rw [e0]
    rfl
  have nBu : some u ≠ B.root := fun e => (inB u (Tr.root_mem e.symm)).1 rfl
  have nBx : some x ≠ B.root := fun e => b1 (Tr.root_mem e.symm)
  have al : ∀ y, y ≠ x → y ≠ u → y ∉ cnm c → (S.turn x).l y = S.l y ∧ (S.turn x).r y = S.r y := fun y yx yu yc => by
    rw [fl, fr, up1_ne yu, up1_ne yx]
    exact ⟨pl.fl y fun e => yc (ctop_mem e), pl.fr y fun e => yc (ctop_mem e)⟩
  have aa : ∀ y, y ≠ x → y ≠ u → some y ≠ B.root → (S.turn x).a y = S.a y := fun y yx yu yB => by
    rw [fa, up1_ne yu, upO_ne yB, up1_ne yx]
  have ag : ∀ y, y ≠ x → y ≠ u → y ∉ cnm c → some y ≠ B.root → Agr S (S.turn x) y := fun y yx yu yc yB => ⟨(al y yx yu yc).1, (al y yx yu yc).2, aa y yx yu yB, by rw [ft]⟩
  refine ⟨rep_plug.mpr ⟨⟨fn ▸ g1, by rw [ft]; exact g2, ?_, ?_, ?_, ?_, ?_⟩, ?_⟩, ⟨fn, ft, fk, fun y ny => ?_⟩⟩
  · rw [fl, up1_ne xu]
    exact (pl.fl x fun e => xc (ctop_mem e)).trans g3
  · rw [fr, up1_same]
    rfl
  · rw [fa, up1_ne xu, upO_ne nBx, up1_same]
    exact hu5
  · exact gA.agr fn fun y m => ag y (inA y m).2.2.2.1 (inA y m).1 (inA y m).2.2.1 fun e => (inA y m).2.2.2.2 (Tr.root_mem e.symm)
  · refine ⟨fn ▸ hu1, by rw [ft]; exact hu2, ?_, ?_, ?_, ?_, ?_⟩
    · rw [fl, up1_same]
    · rw [fr, up1_ne xu.symm]
      exact (pl.fr u fun e => nuc (ctop_mem e)).trans hu4
    · rw [fa, up1_same]
    · refine gB.re fn b2 (fun y m => ?_) (fun y m ny => ?_) (fun y e => ?_)
      · obtain ⟨q1, q2, q3, q4, q5⟩ := inB y m
        exact ⟨(al y q4 q1 q3).1, (al y q4 q1 q3).2, by rw [ft]⟩
      · obtain ⟨q1, q2, q3, q4, q5⟩ := inB y m
        exact aa y q4 q1 ny.symm
      · obtain ⟨q1, q2, q3, q4, q5⟩ := inB y (Tr.root_mem e)
        rw [fa, up1_ne q1, e, upO_same]
    · exact hs.agr fn fun y m => ag y (fun e => xs (e ▸ m)) (fun e => u1 (e ▸ List.mem_append_left _ m)) (fun z => s3 y m y z rfl) fun e => (inB y (Tr.root_mem e.symm)).2.1 m
  · refine repc_put fn ft hc s2 (fun y m => ?_) (fun y m ny => ?_) (fun y m ny => ?_) (fun b g q c' e => ?_)
    · exact aa y (fun e => xc (e ▸ m)) (fun e => nuc (e ▸ m)) fun e => (inB y (Tr.root_mem e.symm)).2.2.1 m
    · rw [fl, up1_ne fun (e : y = u) => nuc (e ▸ m)]
      exact pl.fl y ny
    · rw [fr, up1_ne fun (e : y = x) => xc (e ▸ m)]
      exact pl.fr y ny
    · have mg : g ∈ cnm c := by
        rw [e]
        exact List.mem_cons_self
      have z := pl.gb b g q c' e
      have e1 : (S.turn x).l g = (S.inPlace x u).l g := by rw [fl, up1_ne fun (e : g = u) => nuc (e ▸ mg)]
      have e2 : (S.turn x).r g = (S.inPlace x u).r g := by rw [fr, up1_ne fun (e : g = x) => xc (e ▸ mg)]
      rw [e1, e2]
      exact z
  · have ny : y ∉ (A.nms ++ x :: B.nms) ++ (u :: s.nms ++ cnm c) := fun m => ny (plug_perm.mem_iff.mpr m)
    refine ag y (fun e => ny (e ▸ List.mem_append_left _ (List.mem_append_right _ List.mem_cons_self))) (fun e => ny (e ▸ List.mem_append_right _ List.mem_cons_self)) (fun m => ny (List.mem_append_right _ (List.mem_cons_of_mem _ (List.mem_append_right _ m)))) fun e => ny (List.mem_append_left _ (List.mem_append_right _ (List.mem_cons_of_mem _ (Tr.root_mem e.symm))))
theorem turnR {S : Lk N} {p : Option N} {A B s : Tr N} {x u : N} {c : Cz N} (h : Rep S p (plug (.nd false A x B) ((false, u, s) :: c))) (nd : (plug (.nd false A x B) ((false, u, s) :: c)).nms.Nodup)
    (ho : c = [] → ∀ q, p = some q → S.l q ≠ some u ∧ S.r q ≠ some u) :
    Rep (S.turn x) p (plug (.nd false (.nd false s u A) x B) c) ∧ Turned S (S.turn x) (plug (.nd false A x B) ((false, u, s) :: c)) := by
  have nd2 := plug_perm.nodup_iff.mp nd
  rw [show (Tr.nd false A x B).nms = A.nms ++ x :: B.nms from rfl, show cnm ((false, u, s) :: c) = u :: s.nms ++ cnm c from rfl] at nd2
  obtain ⟨n1, n2, n3⟩ := List.nodup_append.mp nd2
  obtain ⟨a1, a2, a3⟩ := List.nodup_append.mp n1
  obtain ⟨b1, b2⟩ := List.nodup_cons.mp a2
  have n2 : (u :: (s.nms ++ cnm c)).Nodup := n2
  obtain ⟨u1, u2⟩ := List.nodup_cons.mp n2
  obtain ⟨s1, s2, s3⟩ := List.nodup_append.mp u2
  have nuc : u ∉ cnm c := fun m => u1 (List.mem_append_right _ m)
  have xu : x ≠ u := n3 x (List.mem_append_right _ List.mem_cons_self) u List.mem_cons_self
  have xc : x ∉ cnm c := fun m => n3 x (List.mem_append_right _ List.mem_cons_self) x (List.mem_cons_of_mem _ (List.mem_append_right _ m)) rfl
  have xs : x ∉ s.nms := fun m => n3 x (List.mem_append_right _ List.mem_cons_self) x (List.mem_cons_of_mem _ (List.mem_append_left _ m)) rfl
  have inB : ∀ y ∈ B.nms, y ≠ u ∧ y ∉ s.nms ∧ y ∉ cnm c ∧ y ≠ x ∧ y ∉ A.nms := fun y m => by
    have my : y ∈ A.nms ++ x :: B.nms := List.mem_append_right _ (List.mem_cons_of_mem _ m)
    exact ⟨n3 y my u List.mem_cons_self, fun z => n3 y my y (List.mem_cons_of_mem _ (List.mem_append_left _ z)) rfl, fun z => n3 y my y (List.mem_cons_of_mem _ (List.mem_append_right _ z)) rfl, fun e => b1 (e ▸ m), fun z => a3 y z y (List.mem_cons_of_mem _ m) rfl⟩
  have inA : ∀ y ∈ A.nms, y ≠ u ∧ y ∉ s.nms ∧ y ∉ cnm c ∧ y ≠ x ∧ y ∉ B.nms := fun y m => by
    have my : y ∈ A.nms ++ x :: B.nms := List.mem_append_left _ m
    exact ⟨n3 y my u List.mem_cons_self, fun z => n3 y my y (List.mem_cons_of_mem _ (List.mem_append_left _ z)) rfl, fun z => n3 y my y (List.mem_cons_of_mem _ (List.mem_append_right _ z)) rfl, a3 y m x List.mem_cons_self, fun z => a3 y m y (List.mem_cons_of_mem _ z) rfl⟩
  obtain ⟨⟨g1, g2, g3, g4, g5, gA, gB⟩, hu1, hu2, ⟨hu3, hu4⟩, hu5, hs, hc⟩ := rep_plug.mp h
  have pl := placed (x := x) hc hu5 nuc ho
  have g5 : S.a x = some u := g5
  have hu4 : S.r u = some x := hu4
  have nl : ¬ (S.inPlace x u).l u = some x := fun e => by
    rw [pl.fl u fun e => nuc (ctop_mem e), hu3] at e
    exact xs (Tr.root_mem e)
  have er : (S.inPlace x u).l x = A.root := (pl.fl x fun e => xc (ctop_mem e)).trans g3
  have e0 : S.turn x = (({ S with lk := S.lk + 1 }.inPlace x u).setR u (({ S with lk := S.lk + 1 }.inPlace x u).l x)).setL x (some u) := by
    unfold Lk.turn
    rw [g5]
    exact if_neg nl
  have fr : (S.turn x).r = up1 (S.inPlace x u).r u A.root := by
    rw [e0, ← er]
    rfl
  have fl : (S.turn x).l = up1 (S.inPlace x u).l x (some u) := by
    rw [e0]
    rfl
  have fa : (S.turn x).a = up1 (upO (up1 S.a x (S.a u)) A.root (some u)) u (some x) := by
    rw [e0, ← er]
    rfl
  have ft : (S.turn x).t = S.t := by
    rw [e0]
    rfl
  have fn : (S.turn x).ns = S.ns := by
    rw [e0]
    rfl
  have fk : (S.turn x).lk = S.lk + 1 := by
    rw [e0]
    rfl
  have nBu : some u ≠ A.root := fun e => (inA u (Tr.root_mem e.symm)).1 rfl
  have nBx : some x ≠ A.root := fun e => (inA x (Tr.root_mem e.symm)).2.2.2.1 rfl
  have al : ∀ y, y ≠ x → y ≠ u → y ∉ cnm c → (S.turn x).l y = S.l y ∧ (S.turn x).r y = S.r y := fun y yx yu yc => by
    rw [fl, fr, up1_ne yu, up1_ne yx]
    exact ⟨pl.fl y fun e => yc (ctop_mem e), pl.fr y fun e => yc (ctop_mem e)⟩
  have aa : ∀ y, y ≠ x → y ≠ u → some y ≠ A.root → (S.turn x).a y = S.a y := fun y yx yu yB => by
    rw [fa, up1_ne yu, upO_ne yB, up1_ne yx]
  have ag : ∀ y, y ≠ x → y ≠ u → y ∉ cnm c → some y ≠ A.root → Agr S (S.turn x) y := fun y yx yu yc yB => ⟨(al y yx yu yc).1, (al y yx yu yc).2, aa y yx yu yB, by rw [ft]⟩
  refine ⟨rep_plug.mpr ⟨⟨fn ▸ g1, by rw [ft]; exact g2, ?_, ?_, ?_, ?_, ?_⟩, ?_⟩, ⟨fn, ft, fk, fun y ny => ?_⟩⟩
  · rw [fl, up1_same]
    rfl
  · rw [fr, up1_ne xu]
    exact (pl.fr x fun e => xc (ctop_mem e)).trans g4
  · rw [fa, up1_ne xu, upO_ne nBx, up1_same]
    exact hu5
  · refine ⟨fn ▸ hu1, by rw [ft]; exact hu2, ?_, ?_, ?_, ?_, ?_⟩
    · rw [fl, up1_ne xu.symm]
      exact (pl.fl u fun e => nuc (ctop_mem e)).trans hu3
    · rw [fr, up1_same]
    · rw [fa, up1_same]
    · exact hs.agr fn fun y m => ag y (fun e => xs (e ▸ m)) (fun e => u1 (e ▸ List.mem_append_left _ m)) (fun z => s3 y m y z rfl) fun e => (inA y (Tr.root_mem e.symm)).2.1 m
    · refine gA.re fn a1 (fun y m => ?_) (fun y m ny => ?_) (fun y e => ?_)
      · obtain ⟨q1, q2, q3, q4, q5⟩ := inA y m
        exact ⟨(al y q4 q1 q3).1, (al y q4 q1 q3).2, by rw [ft]⟩
      · obtain ⟨q1, q2, q3, q4, q5⟩ := inA y m
        exact aa y q4 q1 ny.symm
      · obtain ⟨q1, q2, q3, q4, q5⟩ := inA y (Tr.root_mem e)
        rw [fa, up1_ne q1, e, upO_same]
  · exact gB.agr fn fun y m => ag y (inB y m).2.2.2.1 (inB y m).1 (inB y m).2.2.1 fun e => (inB y m).2.2.2.2 (Tr.root_mem e.symm)
  · refine repc_put fn ft hc s2 (fun y m => ?_) (fun y m ny => ?_) (fun y m ny => ?_) (fun b g q c' e => ?_)
    · exact aa y (fun e => xc (e ▸ m)) (fun e => nuc (e ▸ m)) fun e => (inA y (Tr.root_mem e.symm)).2.2.1 m
    · rw [fl, up1_ne fun (e : y = x) => xc (e ▸ m)]
      exact pl.fl y ny
    · rw [fr, up1_ne fun (e : y = u) => nuc (e ▸ m)]
      exact pl.fr y ny
    · have mg : g ∈ cnm c := by
        rw [e]
        exact List.mem_cons_self
      have z := pl.gb b g q c' e
      have e1 : (S.turn x).l g = (S.inPlace x u).l g := by rw [fl, up1_ne fun (e : g = x) => xc (e ▸ mg)]
      have e2 : (S.turn x).r g = (S.inPlace x u).r g := by rw [fr, up1_ne fun (e : g = u) => nuc (e ▸ mg)]
      rw [e1, e2]
      exact z
  · have ny : y ∉ (A.nms ++ x :: B.nms) ++ (u :: s.nms ++ cnm c) := fun m => ny (plug_perm.mem_iff.mpr m)
    refine ag y (fun e => ny (e ▸ List.mem_append_left _ (List.mem_append_right _ List.mem_cons_self))) (fun e => ny (e ▸ List.mem_append_right _ List.mem_cons_self)) (fun m => ny (List.mem_append_right _ (List.mem_cons_of_mem _ (List.mem_append_right _ m)))) fun e => ny (List.mem_append_left _ (List.mem_append_left _ (Tr.root_mem e.symm)))
end
section
variable {N : Type} [DecidableEq N]
def Lk.next (S : Lk N) (x : N) (goal : Option N) : List N := match S.a x with
  | none => [x]
  | some u => if S.isTop u || decide (S.a u = goal) then [x] else match S.a u with
    | none => [x]
    | some o => if decide (S.l u = some x) = decide (S.l o = some u) then [u, x] else [x, x]
def Lk.turns (S : Lk N) (xs : List N) : Lk N := xs.foldl Lk.turn S
/-- turned one by one, each one below another one then -/
def Lk.turnsQ : Lk N → List N → Option (Lk N)
  | S, [] => some S
  | S, y :: ys => if (S.a y).isSome then Lk.turnsQ (S.turn y) ys else none
/-- lifted until it is on top, or below goal; at most so many rounds -/
def Lk.lift : Nat → Lk N → N → Option N → Option (Lk N × List N)
  | 0, _, _, _ => none
  | k + 1, S, x, goal => if S.isTop x || decide (S.a x = goal) then some (S, []) else
    match S.turnsQ (S.next x goal) with
    | none => none
    | some S1 => match Lk.lift k S1 x goal with
      | none => none
      | some (S', ms) => some (S', S.next x goal ++ ms)
theorem Lk.lift_more : ∀ {k : Nat} {S : Lk N} {x : N} {goal : Option N} {R : Lk N × List N}, S.lift k x goal = some R → S.lift (k + 1) x goal = some R
  | 0, _, _, _, _, h => nomatch h
  | k + 1, S, x, goal, R, h => by
    unfold Lk.lift at h ⊢
    by_cases c : (S.isTop x || decide (S.a x = goal)) = true
    · rw [if_pos c] at h ⊢
      exact h
    · rw [if_neg c] at h ⊢
      cases et : S.turnsQ (S.next x goal) with
      | none =>
        rw [et] at h
        exact nomatch h
      | some S1 =>
        rw [et] at h
        have h : (match Lk.lift k S1 x goal with | none => none | some (S', ms) => some (S', S.next x goal ++ ms)) = some R := h
        show (match Lk.lift (k + 1) S1 x goal with | none => none | some (S', ms) => some (S', S.next x goal ++ ms)) = some R
        cases e : Lk.lift k S1 x goal with
        | none =>
          rw [e] at h
          exact nomatch h
        | some R2 =>
          rw [e] at h
          rw [Lk.lift_more e]
          exact h
theorem Lk.lift_le {k m : Nat} {S : Lk N} {x : N} {goal : Option N} {R : Lk N × List N} (h : S.lift k x goal = some R) (le : k ≤ m) : S.lift m x goal = some R := by
  induction le with
  | refl => exact h
  | step _ ih => exact Lk.lift_more ih
def nf (l : Tr N) (x : N) (r : Tr N) : Tr N := .nd false l x r
def splayT : Tr N → N → Tr N → Cz N → Tr N × List N
  | A, x, B, [] => (nf A x B, [])
  | A, x, B, [(true, u, s)] => (nf A x (nf B u s), [x])
  | A, x, B, [(false, u, s)] => (nf (nf s u A) x B, [x])
  | A, x, B, (true, u, s) :: (true, g, q) :: c => ((splayT A x (nf B u (nf s g q)) c).1, u :: x :: (splayT A x (nf B u (nf s g q)) c).2)
  | A, x, B, (true, u, s) :: (false, g, q) :: c => ((splayT (nf q g A) x (nf B u s) c).1, x :: x :: (splayT (nf q g A) x (nf B u s) c).2)
  | A, x, B, (false, u, s) :: (true, g, q) :: c => ((splayT (nf s u A) x (nf B g q) c).1, x :: x :: (splayT (nf s u A) x (nf B g q) c).2)
  | A, x, B, (false, u, s) :: (false, g, q) :: c => ((splayT (nf (nf q g s) u A) x B c).1, u :: x :: (splayT (nf (nf q g s) u A) x B c).2)
/-- what lies outside of the tree has none of it as a left or right one -/
def OutT (S : Lk N) (p : Option N) (T : Tr N) : Prop := ∀ q, p = some q → ∀ y ∈ T.nms, S.l q ≠ some y ∧ S.r q ≠ some y
/-- what some turns leave -/
structure Lifted (S S' : Lk N) (T : Tr N) (k : Nat) : Prop where
  ns : S'.ns = S.ns
  t : S'.t = S.t
  lk : S'.lk = S.lk + k
  out : ∀ y, y ∉ T.nms → Agr S S' y
theorem Lifted.refl {S : Lk N} {T : Tr N} : Lifted S S T 0 := ⟨rfl, rfl, rfl, fun _ _ => .refl⟩
theorem Lifted.trans {S S1 S2 : Lk N} {T T1 : Tr N} {k m : Nat} (a : Lifted S S1 T k) (b : Lifted S1 S2 T1 m) (e : ∀ y, y ∈ T1.nms ↔ y ∈ T.nms) : Lifted S S2 T (k + m) :=
  ⟨b.ns.trans a.ns, b.t.trans a.t, by rw [b.lk, a.lk, Nat.add_assoc], fun y ny => (a.out y ny).trans (b.out y fun z => ny ((e y).mp z))⟩
theorem Turned.lifted {S S' : Lk N} {T : Tr N} (h : Turned S S' T) : Lifted S S' T 1 := ⟨h.ns, h.t, h.lk, h.out⟩
theorem OutT.lift {S S' : Lk N} {p : Option N} {T T1 : Tr N} {k : Nat} (h : OutT S p T) (a : Lifted S S' T k) (e : ∀ y, y ∈ T1.nms ↔ y ∈ T.nms) (hp : ∀ q, p = some q → q ∉ T.nms) : OutT S' p T1 := fun q eq y m => by
  obtain ⟨z1, z2, _, _⟩ := a.out q (hp q eq)
  rw [z1, z2]
  exact h q eq y ((e y).mp m)
theorem turnLL {S : Lk N} {p : Option N} {A B s : Tr N} {x u : N} {c : Cz N} (h : Rep S p (plug (nf A x B) ((true, u, s) :: c))) (nd : (plug (nf A x B) ((true, u, s) :: c)).nms.Nodup) (ho : OutT S p (plug (nf A x B) ((true, u, s) :: c))) :
    Rep (S.turn x) p (plug (nf A x (nf B u s)) c) ∧ Lifted S (S.turn x) (plug (nf A x B) ((true, u, s) :: c)) 1 := by
  obtain ⟨a, b⟩ := turnL h nd fun _ q e => ho q e u (plug_perm.mem_iff.mpr (List.mem_append_right _ List.mem_cons_self))
  exact ⟨a, b.lifted⟩
theorem turnRR {S : Lk N} {p : Option N} {A B s : Tr N} {x u : N} {c : Cz N} (h : Rep S p (plug (nf A x B) ((false, u, s) :: c))) (nd : (plug (nf A x B) ((false, u, s) :: c)).nms.Nodup) (ho : OutT S p (plug (nf A x B) ((false, u, s) :: c))) :
    Rep (S.turn x) p (plug (nf (nf s u A) x B) c) ∧ Lifted S (S.turn x) (plug (nf A x B) ((false, u, s) :: c)) 1 := by
  obtain ⟨a, b⟩ := turnR h nd fun _ q e => ho q e u (plug_perm.mem_iff.mpr (List.mem_append_right _ List.mem_cons_self))
  exact ⟨a, b.lifted⟩
theorem plug_app : ∀ {c d : Cz N} {t : Tr N}, plug t (c ++ d) = plug (plug t c) d
  | [], _, _ => rfl
  | (true, u, s) :: c, d, t => plug_app (c := c)
  | (false, u, s) :: c, d, t => plug_app (c := c)
theorem permLL {A B s : Tr N} {x u : N} : (nf A x (nf B u s)).nms.Perm (nf (nf A x B) u s).nms := by
  show (A.nms ++ x :: (B.nms ++ u :: s.nms)).Perm ((A.nms ++ x :: B.nms) ++ u :: s.nms)
  rw [List.append_assoc, List.cons_append]
theorem permP {t t' : Tr N} {c : Cz N} (h : t.nms.Perm t'.nms) : (plug t c).nms.Perm (plug t' c).nms := plug_perm.trans ((h.append_right _).trans plug_perm.symm)
theorem splay_perm : ∀ {c : Cz N} {A B : Tr N} {x : N}, (splayT A x B c).1.nms.Perm (plug (nf A x B) c).nms
  | [], A, B, x => .refl _
  | [(true, u, s)], A, B, x => permLL
  | [(false, u, s)], A, B, x => permLL.symm
  | (true, u, s) :: (true, g, q) :: c, A, B, x => by
    refine (splay_perm (c := c) (A := A) (B := nf B u (nf s g q)) (x := x)).trans (permP (c := c) (t' := nf (nf (nf A x B) u s) g q) ?_)
    show (A.nms ++ x :: (B.nms ++ u :: (s.nms ++ g :: q.nms))).Perm (((A.nms ++ x :: B.nms) ++ u :: s.nms) ++ g :: q.nms)
    simp only [List.append_assoc, List.cons_append]
    exact .refl _
  | (true, u, s) :: (false, g, q) :: c, A, B, x => by
    refine (splay_perm (c := c) (A := nf q g A) (B := nf B u s) (x := x)).trans (permP (c := c) (t' := nf q g (nf (nf A x B) u s)) ?_)
    show ((q.nms ++ g :: A.nms) ++ x :: (B.nms ++ u :: s.nms)).Perm (q.nms ++ g :: ((A.nms ++ x :: B.nms) ++ u :: s.nms))
    simp only [List.append_assoc, List.cons_append]
    exact .refl _
  | (false, u, s) :: (true, g, q) :: c, A, B, x => by
    refine (splay_perm (c := c) (A := nf s u A) (B := nf B g q) (x := x)).trans (permP (c := c) (t' := nf (nf s u (nf A x B)) g q) ?_)
    show ((s.nms ++ u :: A.nms) ++ x :: (B.nms ++ g :: q.nms)).Perm ((s.nms ++ u :: (A.nms ++ x :: B.nms)) ++ g :: q.nms)
    simp only [List.append_assoc, List.cons_append]
    exact .refl _
  | (false, u, s) :: (false, g, q) :: c, A, B, x => by
    refine (splay_perm (c := c) (A := nf (nf q g s) u A) (B := B) (x := x)).trans (permP (c := c) (t' := nf q g (nf s u (nf A x B))) ?_)
    show ((((q.nms ++ g :: s.nms) ++ u :: A.nms)) ++ x :: B.nms).Perm (q.nms ++ g :: (s.nms ++ u :: (A.nms ++ x :: B.nms)))
    simp only [List.append_assoc, List.cons_append]
    exact .refl _
theorem splay_ord : ∀ {c : Cz N} {A B : Tr N} {x : N}, (splayT A x B c).1.ord = (plug (nf A x B) c).ord
  | [], A, B, x => rfl
  | [(true, u, s)], A, B, x => by
    show A.ord ++ x :: (B.ord ++ u :: s.ord) = (A.ord ++ x :: B.ord) ++ u :: s.ord
    rw [List.append_assoc, List.cons_append]
  | [(false, u, s)], A, B, x => by
    show (s.ord ++ u :: A.ord) ++ x :: B.ord = s.ord ++ u :: (A.ord ++ x :: B.ord)
    rw [List.append_assoc, List.cons_append]
  | (true, u, s) :: (true, g, q) :: c, A, B, x => by
    show (splayT A x (nf B u (nf s g q)) c).1.ord = _
    rw [splay_ord, plug_ord, plug_ord]
    show cL c ++ ((A.ord ++ x :: (B.ord ++ u :: (s.ord ++ g :: q.ord))) ++ cR c) = cL c ++ ((A.ord ++ x :: B.ord) ++ (u :: s.ord ++ (g :: q.ord ++ cR c)))
    simp only [List.append_assoc, List.cons_append]
  | (true, u, s) :: (false, g, q) :: c, A, B, x => by
    show (splayT (nf q g A) x (nf B u s) c).1.ord = _
    rw [splay_ord, plug_ord, plug_ord]
    show cL c ++ (((q.ord ++ g :: A.ord) ++ x :: (B.ord ++ u :: s.ord)) ++ cR c) = (cL c ++ (q.ord ++ [g])) ++ ((A.ord ++ x :: B.ord) ++ (u :: s.ord ++ cR c))
    simp only [List.append_assoc, List.cons_append, List.nil_append]
  | (false, u, s) :: (true, g, q) :: c, A, B, x => by
    show (splayT (nf s u A) x (nf B g q) c).1.ord = _
    rw [splay_ord, plug_ord, plug_ord]
    show cL c ++ (((s.ord ++ u :: A.ord) ++ x :: (B.ord ++ g :: q.ord)) ++ cR c) = (cL c ++ (s.ord ++ [u])) ++ ((A.ord ++ x :: B.ord) ++ (g :: q.ord ++ cR c))
    simp only [List.append_assoc, List.cons_append, List.nil_append]
  | (false, u, s) :: (false, g, q) :: c, A, B, x => by
    show (splayT (nf (nf q g s) u A) x B c).1.ord = _
    rw [splay_ord, plug_ord, plug_ord]
    show cL c ++ (((((q.ord ++ g :: s.ord) ++ u :: A.ord)) ++ x :: B.ord) ++ cR c) = ((cL c ++ (q.ord ++ [g])) ++ (s.ord ++ [u])) ++ ((A.ord ++ x :: B.ord) ++ cR c)
    simp only [List.append_assoc, List.cons_append, List.nil_append]
theorem splay_root : ∀ {c : Cz N} {A B : Tr N} {x : N}, ∃ A' B', (splayT A x B c).1 = nf A' x B'
  | [], A, B, x => ⟨_, _, rfl⟩
  | [(true, u, s)], A, B, x => ⟨_, _, rfl⟩
  | [(false, u, s)], A, B, x => ⟨_, _, rfl⟩
  | (true, u, s) :: (true, g, q) :: c, A, B, x => splay_root (c := c)
  | (true, u, s) :: (false, g, q) :: c, A, B, x => splay_root (c := c)
  | (false, u, s) :: (true, g, q) :: c, A, B, x => splay_root (c := c)
  | (false, u, s) :: (false, g, q) :: c, A, B, x => splay_root (c := c)
/-- x has one above it in its tree -/
theorem not_top {S : Lk N} {p : Option N} {t : Tr N} {x u : N} {b : Bool} {s : Tr N} {c : Cz N} (h : Rep S p (plug t ((b, u, s) :: c))) (e : t.root = some x) : S.isTop x = false ∧ S.a x = some u ∧ S.a u = ctop p c := by
  obtain ⟨h1, _, _, h3, h4, _⟩ := rep_plug.mp h
  have ha : S.a x = some u := h1.top e
  refine ⟨?_, ha, h4⟩
  unfold Lk.isTop
  rw [ha]
  cases b with
  | true =>
    have h3 : S.l u = t.root ∧ S.r u = s.root := h3
    show (!(decide (S.l u = some x) || decide (S.r u = some x))) = false
    rw [h3.1, e]
    simp
  | false =>
    have h3 : S.l u = s.root ∧ S.r u = t.root := h3
    show (!(decide (S.l u = some x) || decide (S.r u = some x))) = false
    rw [h3.2, e]
    simp
theorem is_top {S : Lk N} {p : Option N} {T : Tr N} {x : N} (h : Rep S p T) (e : T.root = some x) (ho : OutT S p T) : S.isTop x = true := by
  have ha := h.top e
  unfold Lk.isTop
  rw [ha]
  cases p with
  | none => rfl
  | some q =>
    obtain ⟨z1, z2⟩ := ho q rfl x (Tr.root_mem e)
    show (!(decide (S.l q = some x) || decide (S.r q = some x))) = true
    simp [z1, z2]
end
section
variable {N : Type} [DecidableEq N]
theorem lift_stop {S : Lk N} {x : N} {goal : Option N} {k : Nat} (h : (S.isTop x || decide (S.a x = goal)) = true) : S.lift (k + 1) x goal = some (S, []) := by
  unfold Lk.lift
  rw [if_pos h]
theorem lift_step {S S' : Lk N} {x : N} {goal : Option N} {k : Nat} {ns ms : List N} (h1 : S.isTop x = false) (h2 : S.a x ≠ goal) (hn : S.next x goal = ns) {S1 : Lk N} (ht : S.turnsQ ns = some S1) (h : S1.lift k x goal = some (S', ms)) : S.lift (k + 1) x goal = some (S', ns ++ ms) := by
  unfold Lk.lift
  rw [if_neg (by rw [h1, decide_eq_false h2]; decide), hn, ht]
  show (match Lk.lift k S1 x goal with | none => none | some (S', ms) => some (S', ns ++ ms)) = _
  rw [h]
theorem tq1 {S : Lk N} {x u : N} (h : S.a x = some u) : S.turnsQ [x] = some (S.turn x) := by
  show (if (S.a x).isSome = true then some (S.turn x) else none) = _
  rw [h]
  rfl
theorem tq2 {S : Lk N} {x y u v : N} (h : S.a y = some u) (k : (S.turn y).a x = some v) : S.turnsQ [y, x] = some ((S.turn y).turn x) := by
  show (if (S.a y).isSome = true then (S.turn y).turnsQ [x] else none) = _
  rw [h, tq1 k]
  rfl
theorem ctop_not {c : Cz N} {u : N} (h : u ∉ cnm c) : some u ≠ ctop none c := fun e => h (ctop_mem e)
theorem ctop_pn {p : Option N} {f : Bool × N × Tr N} {c : Cz N} : ctop p (f :: c) = ctop none (f :: c) := rfl
theorem cnm_app : ∀ {c d : Cz N}, cnm (c ++ d) = cnm c ++ cnm d
  | [], _ => rfl
  | (b, u, s) :: c, d => by
    show u :: s.nms ++ cnm (c ++ d) = u :: s.nms ++ cnm c ++ cnm d
    rw [cnm_app, List.append_assoc]
/-- u, the innermost one, is no other one's name further out -/
theorem nd_ctx {t : Tr N} {b : Bool} {u : N} {s : Tr N} {c : Cz N} (nd : (plug t ((b, u, s) :: c)).nms.Nodup) : u ∉ s.nms ∧ u ∉ cnm c ∧ ∀ x ∈ t.nms, x ≠ u ∧ x ∉ s.nms ∧ x ∉ cnm c := by
  have z := plug_perm.nodup_iff.mp nd
  obtain ⟨_, z2, z3⟩ := List.nodup_append.mp z
  have z2 : (u :: (s.nms ++ cnm c)).Nodup := z2
  obtain ⟨z4, _⟩ := List.nodup_cons.mp z2
  exact ⟨fun m => z4 (List.mem_append_left _ m), fun m => z4 (List.mem_append_right _ m), fun x m => ⟨z3 x m u List.mem_cons_self, fun y => z3 x m x (List.mem_cons_of_mem _ (List.mem_append_left _ y)) rfl, fun y => z3 x m x (List.mem_cons_of_mem _ (List.mem_append_right _ y)) rfl⟩⟩
theorem nx_one {S : Lk N} {x u : N} {goal : Option N} (ha : S.a x = some u) (h : (S.isTop u || decide (S.a u = goal)) = true) : S.next x goal = [x] := by
  unfold Lk.next
  rw [ha]
  exact if_pos h
theorem nx_two {S : Lk N} {x u g : N} {goal : Option N} (ha : S.a x = some u) (hu : S.a u = some g) (h1 : S.isTop u = false) (h2 : S.a u ≠ goal) : S.next x goal = if decide (S.l u = some x) = decide (S.l g = some u) then [u, x] else [x, x] := by
  unfold Lk.next
  rw [ha]
  show (if (S.isTop u || decide (S.a u = goal)) = true then [x] else match S.a u with | none => [x] | some o => if decide (S.l u = some x) = decide (S.l o = some u) then [u, x] else [x, x]) = _
  rw [if_neg (by rw [h1, decide_eq_false h2]; decide), hu]
theorem plug_root {t t' : Tr N} (h : t.root = t'.root) : ∀ {c : Cz N}, (plug t c).root = (plug t' c).root
  | [] => h
  | (true, u, s) :: c => plug_root (t := .nd false t u s) (t' := .nd false t' u s) rfl (c := c)
  | (false, u, s) :: c => plug_root (t := .nd false s u t) (t' := .nd false s u t') rfl (c := c)
/-- stop: on top, or below goal -/
theorem at_stop {S : Lk N} {p : Option N} {T : Tr N} {x : N} {c2 : Cz N} (h : Rep S p (plug T c2)) (e : T.root = some x) (ho : OutT S p (plug T c2)) : (S.isTop x || decide (S.a x = ctop none c2)) = true := by
  cases c2 with
  | nil => rw [is_top h e ho, Bool.true_or]
  | cons f c =>
    obtain ⟨b, u, s⟩ := f
    obtain ⟨_, z, _⟩ := not_top h e
    rw [z]
    show (S.isTop x || decide (some u = some u)) = true
    rw [decide_eq_true rfl, Bool.or_true]
theorem Lifted.eqT {S S' : Lk N} {T T' : Tr N} {k : Nat} (h : Lifted S S' T k) (e : T = T') : Lifted S S' T' k := e ▸ h
theorem lift_rep : ∀ {c1 : Cz N} {S : Lk N} {A B : Tr N} {x : N} {c2 : Cz N} {p : Option N}, Rep S p (plug (nf A x B) (c1 ++ c2)) → (plug (nf A x B) (c1 ++ c2)).nms.Nodup → OutT S p (plug (nf A x B) (c1 ++ c2)) → (∀ q, p = some q → q ∉ (plug (nf A x B) (c1 ++ c2)).nms) →
    ∃ S', S.lift (c1.length + 1) x (ctop none c2) = some (S', (splayT A x B c1).2) ∧ Rep S' p (plug (splayT A x B c1).1 c2) ∧ Lifted S S' (plug (nf A x B) (c1 ++ c2)) (splayT A x B c1).2.length
  | [], S, A, B, x, c2, p, h, nd, ho, hp => ⟨S, lift_stop (at_stop h rfl ho), h, .refl⟩
  | [(true, u, s)], S, A, B, x, c2, p, h, nd, ho, hp => by
    obtain ⟨t1, t2, t3⟩ := not_top h rfl
    obtain ⟨n1, n2, n3⟩ := nd_ctx nd
    obtain ⟨r1, L1⟩ := turnLL h nd ho
    have em : ∀ y, y ∈ (plug (nf A x (nf B u s)) c2).nms ↔ y ∈ (plug (nf A x B) ((true, u, s) :: c2)).nms := fun y => (permP (c := c2) permLL).mem_iff
    have z := at_stop (T := nf (nf A x B) u s) h rfl ho
    refine ⟨_, lift_step t1 (by rw [t2]; exact ctop_not n2) (nx_one t2 z) (tq1 t2) (lift_stop (at_stop r1 rfl (ho.lift L1 em hp))), r1, L1⟩
  | [(false, u, s)], S, A, B, x, c2, p, h, nd, ho, hp => by
    obtain ⟨t1, t2, t3⟩ := not_top h rfl
    obtain ⟨n1, n2, n3⟩ := nd_ctx nd
    obtain ⟨r1, L1⟩ := turnRR h nd ho
    have em : ∀ y, y ∈ (plug (nf (nf s u A) x B) c2).nms ↔ y ∈ (plug (nf A x B) ((false, u, s) :: c2)).nms := fun y => (permP (c := c2) permLL.symm).mem_iff
    have z := at_stop (T := nf s u (nf A x B)) h rfl ho
    refine ⟨_, lift_step t1 (by rw [t2]; exact ctop_not n2) (nx_one t2 z) (tq1 t2) (lift_stop (at_stop r1 rfl (ho.lift L1 em hp))), r1, L1⟩
  | (true, u, s) :: (true, g, q) :: c, S, A, B, x, c2, p, h, nd, ho, hp => by
    obtain ⟨t1, t2, t3⟩ := not_top h rfl
    obtain ⟨n1, n2, n3⟩ := nd_ctx nd
    have t3 : S.a u = some g := t3
    have h' : Rep S p (plug (nf (nf A x B) u s) ((true, g, q) :: (c ++ c2))) := h
    have nd' : (plug (nf (nf A x B) u s) ((true, g, q) :: (c ++ c2))).nms.Nodup := nd
    obtain ⟨v1, v2, v3⟩ := not_top h' rfl
    obtain ⟨m1, m2, m3⟩ := nd_ctx nd'
    have ug : u ≠ g := (m3 u (List.mem_append_right _ List.mem_cons_self)).1
    have gc : g ∉ cnm c2 := fun z => m2 (by rw [cnm_app]; exact List.mem_append_right _ z)
    have uc : u ∉ cnm c2 := fun z => (m3 u (List.mem_append_right _ List.mem_cons_self)).2.2 (by rw [cnm_app]; exact List.mem_append_right _ z)
    have lu : S.l u = some x := (rep_plug.mp h).2.2.2.1.1
    have lg : S.l g = some u := (rep_plug.mp h').2.2.2.1.1
    have hn : S.next x (ctop none c2) = [u, x] := by
      rw [nx_two t2 t3 v1 (by rw [t3]; exact ctop_not gc), lu, lg, if_pos (by simp)]
    obtain ⟨r1, L1⟩ := turnLL (A := nf A x B) (B := s) (x := u) (s := q) h' nd' ho
    have em : ∀ y, y ∈ (plug (nf (nf A x B) u (nf s g q)) (c ++ c2)).nms ↔ y ∈ (plug (nf (nf A x B) u s) ((true, g, q) :: (c ++ c2))).nms := fun y => (permP (c := c ++ c2) permLL).mem_iff
    have nd1 : (plug (nf (nf A x B) u (nf s g q)) (c ++ c2)).nms.Nodup := (permP (c := c ++ c2) permLL).nodup_iff.mpr nd'
    have ho1 := ho.lift L1 em hp
    obtain ⟨r2, L2⟩ := turnLL (A := A) (B := B) (x := x) (u := u) (s := nf s g q) r1 nd1 ho1
    have em2 : ∀ y, y ∈ (plug (nf A x (nf B u (nf s g q))) (c ++ c2)).nms ↔ y ∈ (plug (nf A x B) ((true, u, nf s g q) :: (c ++ c2))).nms := fun y => (permP (c := c ++ c2) permLL).mem_iff
    have nd2 : (plug (nf A x (nf B u (nf s g q))) (c ++ c2)).nms.Nodup := (permP (c := c ++ c2) permLL).nodup_iff.mpr nd1
    have ho2 := ho1.lift L2 em2 fun q e z => hp q e ((em q).mp z)
    obtain ⟨S', e1, e2, e3⟩ := lift_rep (c1 := c) r2 nd2 ho2 fun q e z => hp q e ((em q).mp ((em2 q).mp z))
    have L12 := L1.trans L2 em
    refine ⟨S', lift_step t1 (by rw [t2]; exact ctop_not uc) hn (tq2 t3 (not_top (t := nf A x B) (b := true) (s := nf s g q) (c := c ++ c2) r1 rfl).2.1) (Lk.lift_more e1), e2, (L12.trans e3 fun y => (em2 y).trans (em y)).1, ?_, ?_, ?_⟩
    · exact (L12.trans e3 fun y => (em2 y).trans (em y)).t
    · rw [(L12.trans e3 fun y => (em2 y).trans (em y)).lk]
      show _ = S.lk + ((splayT A x (nf B u (nf s g q)) c).2.length + 1 + 1)
      omega
    · exact (L12.trans e3 fun y => (em2 y).trans (em y)).out
  | (true, u, s) :: (false, g, q) :: c, S, A, B, x, c2, p, h, nd, ho, hp => by
    obtain ⟨t1, t2, t3⟩ := not_top h rfl
    obtain ⟨n1, n2, n3⟩ := nd_ctx nd
    have t3 : S.a u = some g := t3
    have h' : Rep S p (plug (nf (nf A x B) u s) ((false, g, q) :: (c ++ c2))) := h
    have nd' : (plug (nf (nf A x B) u s) ((false, g, q) :: (c ++ c2))).nms.Nodup := nd
    obtain ⟨v1, v2, v3⟩ := not_top h' rfl
    obtain ⟨m1, m2, m3⟩ := nd_ctx nd'
    have mu := m3 u (List.mem_append_right _ List.mem_cons_self)
    have gc : g ∉ cnm c2 := fun z => m2 (by rw [cnm_app]; exact List.mem_append_right _ z)
    have uc : u ∉ cnm c2 := fun z => mu.2.2 (by rw [cnm_app]; exact List.mem_append_right _ z)
    have lu : S.l u = some x := (rep_plug.mp h).2.2.2.1.1
    have lg : S.l g = q.root := (rep_plug.mp h').2.2.2.1.1
    have nq : q.root ≠ some u := root_ne mu.2.1
    have hn : S.next x (ctop none c2) = [x, x] := by
      rw [nx_two t2 t3 v1 (by rw [t3]; exact ctop_not gc), lu, lg, if_neg (by simp [nq])]
    obtain ⟨r1, L1⟩ := turnLL h nd ho
    have em : ∀ y, y ∈ (plug (nf A x (nf B u s)) ((false, g, q) :: (c ++ c2))).nms ↔ y ∈ (plug (nf A x B) ((true, u, s) :: (false, g, q) :: (c ++ c2))).nms := fun y => (permP (c := (false, g, q) :: (c ++ c2)) permLL).mem_iff
    have nd1 : (plug (nf A x (nf B u s)) ((false, g, q) :: (c ++ c2))).nms.Nodup := (permP (c := (false, g, q) :: (c ++ c2)) permLL).nodup_iff.mpr nd
    have ho1 := ho.lift L1 em hp
    obtain ⟨r2, L2⟩ := turnRR (A := A) (B := nf B u s) (x := x) (u := g) (s := q) r1 nd1 ho1
    have em2 : ∀ y, y ∈ (plug (nf (nf q g A) x (nf B u s)) (c ++ c2)).nms ↔ y ∈ (plug (nf A x (nf B u s)) ((false, g, q) :: (c ++ c2))).nms := fun y => (permP (c := c ++ c2) permLL.symm).mem_iff
    have nd2 : (plug (nf (nf q g A) x (nf B u s)) (c ++ c2)).nms.Nodup := (permP (c := c ++ c2) permLL.symm).nodup_iff.mpr nd1
    have ho2 := ho1.lift L2 em2 fun q e z => hp q e ((em q).mp z)
    obtain ⟨S', e1, e2, e3⟩ := lift_rep (c1 := c) r2 nd2 ho2 fun q e z => hp q e ((em q).mp ((em2 q).mp z))
    have L12 := L1.trans L2 em
    refine ⟨S', lift_step t1 (by rw [t2]; exact ctop_not uc) hn (tq2 t2 (not_top r1 rfl).2.1) (Lk.lift_more e1), e2, (L12.trans e3 fun y => (em2 y).trans (em y)).1, ?_, ?_, ?_⟩
    · exact (L12.trans e3 fun y => (em2 y).trans (em y)).t
    · rw [(L12.trans e3 fun y => (em2 y).trans (em y)).lk]
      show _ = S.lk + ((splayT (nf q g A) x (nf B u s) c).2.length + 1 + 1)
      omega
    · exact (L12.trans e3 fun y => (em2 y).trans (em y)).out
  | (false, u, s) :: (true, g, q) :: c, S, A, B, x, c2, p, h, nd, ho, hp => by
    obtain ⟨t1, t2, t3⟩ := not_top h rfl
    obtain ⟨n1, n2, n3⟩ := nd_ctx nd
    have t3 : S.a u = some g := t3
    have h' : Rep S p (plug (nf s u (nf A x B)) ((true, g, q) :: (c ++ c2))) := h
    have nd' : (plug (nf s u (nf A x B)) ((true, g, q) :: (c ++ c2))).nms.Nodup := nd
    obtain ⟨v1, v2, v3⟩ := not_top h' rfl
    obtain ⟨m1, m2, m3⟩ := nd_ctx nd'
    have mu := m3 u (List.mem_append_right _ List.mem_cons_self)
    have gc : g ∉ cnm c2 := fun z => m2 (by rw [cnm_app]; exact List.mem_append_right _ z)
    have uc : u ∉ cnm c2 := fun z => mu.2.2 (by rw [cnm_app]; exact List.mem_append_right _ z)
    have lu : S.l u = s.root := (rep_plug.mp h).2.2.2.1.1
    have lg : S.l g = some u := (rep_plug.mp h').2.2.2.1.1
    have nx : s.root ≠ some x := root_ne (n3 x (List.mem_append_right _ List.mem_cons_self)).2.1
    have hn : S.next x (ctop none c2) = [x, x] := by
      rw [nx_two t2 t3 v1 (by rw [t3]; exact ctop_not gc), lu, lg, if_neg (by simp [nx])]
    obtain ⟨r1, L1⟩ := turnRR h nd ho
    have em : ∀ y, y ∈ (plug (nf (nf s u A) x B) ((true, g, q) :: (c ++ c2))).nms ↔ y ∈ (plug (nf A x B) ((false, u, s) :: (true, g, q) :: (c ++ c2))).nms := fun y => (permP (c := (true, g, q) :: (c ++ c2)) permLL.symm).mem_iff
    have nd1 : (plug (nf (nf s u A) x B) ((true, g, q) :: (c ++ c2))).nms.Nodup := (permP (c := (true, g, q) :: (c ++ c2)) permLL.symm).nodup_iff.mpr nd
    have ho1 := ho.lift L1 em hp
    obtain ⟨r2, L2⟩ := turnLL (A := nf s u A) (B := B) (x := x) (u := g) (s := q) r1 nd1 ho1
    have em2 : ∀ y, y ∈ (plug (nf (nf s u A) x (nf B g q)) (c ++ c2)).nms ↔ y ∈ (plug (nf (nf s u A) x B) ((true, g, q) :: (c ++ c2))).nms := fun y => (permP (c := c ++ c2) permLL).mem_iff
    have nd2 : (plug (nf (nf s u A) x (nf B g q)) (c ++ c2)).nms.Nodup := (permP (c := c ++ c2) permLL).nodup_iff.mpr nd1
    have ho2 := ho1.lift L2 em2 fun q e z => hp q e ((em q).mp z)
    obtain ⟨S', e1, e2, e3⟩ := lift_rep (c1 := c) r2 nd2 ho2 fun q e z => hp q e ((em q).mp ((em2 q).mp z))
    have L12 := L1.trans L2 em
    refine ⟨S', lift_step t1 (by rw [t2]; exact ctop_not uc) hn (tq2 t2 (not_top r1 rfl).2.1) (Lk.lift_more e1), e2, (L12.trans e3 fun y => (em2 y).trans (em y)).1, ?_, ?_, ?_⟩
    · exact (L12.trans e3 fun y => (em2 y).trans (em y)).t
    · rw [(L12.trans e3 fun y => (em2 y).trans (em y)).lk]
      show _ = S.lk + ((splayT (nf s u A) x (nf B g q) c).2.length + 1 + 1)
      omega
    · exact (L12.trans e3 fun y => (em2 y).trans (em y)).out
  | (false, u, s) :: (false, g, q) :: c, S, A, B, x, c2, p, h, nd, ho, hp => by
    obtain ⟨t1, t2, t3⟩ := not_top h rfl
    obtain ⟨n1, n2, n3⟩ := nd_ctx nd
    have t3 : S.a u = some g := t3
    have h' : Rep S p (plug (nf s u (nf A x B)) ((false, g, q) :: (c ++ c2))) := h
    have nd' : (plug (nf s u (nf A x B)) ((false, g, q) :: (c ++ c2))).nms.Nodup := nd
    obtain ⟨v1, v2, v3⟩ := not_top h' rfl
    obtain ⟨m1, m2, m3⟩ := nd_ctx nd'
    have mu := m3 u (List.mem_append_right _ List.mem_cons_self)
    have gc : g ∉ cnm c2 := fun z => m2 (by rw [cnm_app]; exact List.mem_append_right _ z)
    have uc : u ∉ cnm c2 := fun z => mu.2.2 (by rw [cnm_app]; exact List.mem_append_right _ z)
    have lu : S.l u = s.root := (rep_plug.mp h).2.2.2.1.1
    have lg : S.l g = q.root := (rep_plug.mp h').2.2.2.1.1
    have nx : s.root ≠ some x := root_ne (n3 x (List.mem_append_right _ List.mem_cons_self)).2.1
    have nq : q.root ≠ some u := root_ne mu.2.1
    have hn : S.next x (ctop none c2) = [u, x] := by
      rw [nx_two t2 t3 v1 (by rw [t3]; exact ctop_not gc), lu, lg, if_pos (by simp [nx, nq])]
    obtain ⟨r1, L1⟩ := turnRR (A := s) (B := nf A x B) (x := u) (s := q) h' nd' ho
    have em : ∀ y, y ∈ (plug (nf (nf q g s) u (nf A x B)) (c ++ c2)).nms ↔ y ∈ (plug (nf s u (nf A x B)) ((false, g, q) :: (c ++ c2))).nms := fun y => (permP (c := c ++ c2) permLL.symm).mem_iff
    have nd1 : (plug (nf (nf q g s) u (nf A x B)) (c ++ c2)).nms.Nodup := (permP (c := c ++ c2) permLL.symm).nodup_iff.mpr nd'
    have ho1 := ho.lift L1 em hp
    obtain ⟨r2, L2⟩ := turnRR (A := A) (B := B) (x := x) (u := u) (s := nf q g s) r1 nd1 ho1
    have em2 : ∀ y, y ∈ (plug (nf (nf (nf q g s) u A) x B) (c ++ c2)).nms ↔ y ∈ (plug (nf A x B) ((false, u, nf q g s) :: (c ++ c2))).nms := fun y => (permP (c := c ++ c2) permLL.symm).mem_iff
    have nd2 : (plug (nf (nf (nf q g s) u A) x B) (c ++ c2)).nms.Nodup := (permP (c := c ++ c2) permLL.symm).nodup_iff.mpr nd1
    have ho2 := ho1.lift L2 em2 fun q e z => hp q e ((em q).mp z)
    obtain ⟨S', e1, e2, e3⟩ := lift_rep (c1 := c) r2 nd2 ho2 fun q e z => hp q e ((em q).mp ((em2 q).mp z))
    have L12 := L1.trans L2 em
    refine ⟨S', lift_step t1 (by rw [t2]; exact ctop_not uc) hn (tq2 t3 (not_top (t := nf A x B) (b := false) (s := nf q g s) (c := c ++ c2) r1 rfl).2.1) (Lk.lift_more e1), e2, (L12.trans e3 fun y => (em2 y).trans (em y)).1, ?_, ?_, ?_⟩
    · exact (L12.trans e3 fun y => (em2 y).trans (em y)).t
    · rw [(L12.trans e3 fun y => (em2 y).trans (em y)).lk]
      show _ = S.lk + ((splayT (nf (nf q g s) u A) x B c).2.length + 1 + 1)
      omega
    · exact (L12.trans e3 fun y => (em2 y).trans (em y)).out
/-- each name of a tree stands in it somewhere -/
def flat : Tr N → Bool
  | .nil => true
  | .nd tw l _ r => !tw && flat l && flat r
theorem flat_find : ∀ {T : Tr N} {x : N}, flat T = true → x ∈ T.nms → ∀ c : Cz N, ∃ A B d, plug T c = plug (nf A x B) (d ++ c) ∧ d.length < T.nms.length
  | .nd tw l y r, x, f, m, c => by
    have f : (!tw && flat l && flat r) = true := f
    rw [Bool.and_eq_true, Bool.and_eq_true] at f
    obtain ⟨⟨f1, f2⟩, f3⟩ := f
    have tf : tw = false := by
      cases tw
      · rfl
      · exact absurd f1 (by decide)
    subst tf
    have e : (Tr.nd false l y r).nms.length = l.nms.length + (r.nms.length + 1) := by
      show (l.nms ++ y :: r.nms).length = _
      rw [List.length_append, List.length_cons]
    rcases List.mem_append.mp m with m | m
    · obtain ⟨A, B, d, h, k⟩ := flat_find f2 m ((true, y, r) :: c)
      exact ⟨A, B, d ++ [(true, y, r)], by rw [List.append_assoc]; exact h, by rw [List.length_append, e]; show d.length + 1 < _; omega⟩
    · rcases List.mem_cons.mp m with rfl | m
      · exact ⟨l, r, [], rfl, by rw [e]; show 0 < _; omega⟩
      · obtain ⟨A, B, d, h, k⟩ := flat_find f3 m ((false, y, l) :: c)
        exact ⟨A, B, d ++ [(false, y, l)], by rw [List.append_assoc]; exact h, by rw [List.length_append, e]; show d.length + 1 < _; omega⟩
def flatC : Cz N → Bool
  | [] => true
  | (_, _, s) :: c => flat s && flatC c
theorem flat_plug : ∀ {c : Cz N} {t : Tr N}, flat (plug t c) = (flat t && flatC c)
  | [], t => by
    show flat t = (flat t && true)
    rw [Bool.and_true]
  | (true, u, s) :: c, t => by
    refine (flat_plug (c := c) (t := .nd false t u s)).trans ?_
    show ((true && flat t && flat s) && flatC c) = (flat t && (flat s && flatC c))
    rw [Bool.true_and, Bool.and_assoc]
  | (false, u, s) :: c, t => by
    refine (flat_plug (c := c) (t := .nd false s u t)).trans ?_
    show ((true && flat s && flat t) && flatC c) = (flat t && (flat s && flatC c))
    rw [Bool.true_and]
    cases flat s <;> cases flat t <;> rfl
theorem flat_splay : ∀ {c : Cz N} {A B : Tr N} {x : N}, flat (splayT A x B c).1 = (flat A && flat B && flatC c)
  | [], A, B, x => by
    show (true && flat A && flat B) = (flat A && flat B && true)
    rw [Bool.true_and, Bool.and_true]
  | [(true, u, s)], A, B, x => by
    show (true && flat A && (true && flat B && flat s)) = (flat A && flat B && (flat s && true))
    cases flat A <;> cases flat B <;> cases flat s <;> rfl
  | [(false, u, s)], A, B, x => by
    show (true && (true && flat s && flat A) && flat B) = (flat A && flat B && (flat s && true))
    cases flat A <;> cases flat B <;> cases flat s <;> rfl
  | (true, u, s) :: (true, g, q) :: c, A, B, x => by
    refine (flat_splay (c := c) (A := A) (B := nf B u (nf s g q)) (x := x)).trans ?_
    show (flat A && (true && flat B && (true && flat s && flat q)) && flatC c) = (flat A && flat B && (flat s && (flat q && flatC c)))
    cases flat A <;> cases flat B <;> cases flat s <;> cases flat q <;> rfl
  | (true, u, s) :: (false, g, q) :: c, A, B, x => by
    refine (flat_splay (c := c) (A := nf q g A) (B := nf B u s) (x := x)).trans ?_
    show ((true && flat q && flat A) && (true && flat B && flat s) && flatC c) = (flat A && flat B && (flat s && (flat q && flatC c)))
    cases flat A <;> cases flat B <;> cases flat s <;> cases flat q <;> rfl
  | (false, u, s) :: (true, g, q) :: c, A, B, x => by
    refine (flat_splay (c := c) (A := nf s u A) (B := nf B g q) (x := x)).trans ?_
    show ((true && flat s && flat A) && (true && flat B && flat q) && flatC c) = (flat A && flat B && (flat s && (flat q && flatC c)))
    cases flat A <;> cases flat B <;> cases flat s <;> cases flat q <;> rfl
  | (false, u, s) :: (false, g, q) :: c, A, B, x => by
    refine (flat_splay (c := c) (A := nf (nf q g s) u A) (B := B) (x := x)).trans ?_
    show ((true && (true && flat q && flat s) && flat A) && flat B && flatC c) = (flat A && flat B && (flat s && (flat q && flatC c)))
    cases flat A <;> cases flat B <;> cases flat s <;> cases flat q <;> rfl
end

/-! ### what is turned, the way up, the order (pure) -/
section
variable {N : Type} [DecidableEq N]
def Lk.below (S : Lk N) (x : N) : List N := [S.l x, S.r x].filterMap id
def flips (t : N → Bool) (ys : List N) : N → Bool := ys.foldl (fun t y => up1 t y (!t y)) t
def Lk.swap (S : Lk N) (x : N) : Lk N := { S with l := up1 S.l x (S.r x), r := up1 S.r x (S.l x), t := up1 S.t x false }
def Lk.push (S : Lk N) (x : N) : Lk N := if S.t x = true then { S.swap x with t := flips (S.swap x).t ((S.swap x).below x) } else S
/-- x and those above it in its tree -/
def Lk.path : Nat → Lk N → N → Option (List N)
  | 0, _, _ => none
  | k + 1, S, x => if S.isTop x then some [x] else match S.a x with
    | none => some [x]
    | some u => (Lk.path k S u).map (x :: ·)
def Lk.pushes (S : Lk N) (xs : List N) : Lk N := xs.foldl Lk.push S
/-- the names in order: w those that wait, the last one first -/
def Lk.io : Nat → Lk N → Option N → List N → List N → Option (Lk N × List N)
  | 0, _, _, _, _ => none
  | k + 1, S, some x, w, ns => Lk.io k (S.push x) ((S.push x).l x) (x :: w) ns
  | k + 1, S, none, x :: w, ns => Lk.io k S (S.r x) w (ns ++ [x])
  | _ + 1, S, none, [], ns => some (S, ns)
theorem Lk.push_flat {S : Lk N} {x : N} (h : S.t x = false) : S.push x = S := by
  unfold Lk.push
  rw [if_neg (by rw [h]; decide)]
theorem Lk.pushes_flat {S : Lk N} : ∀ {xs : List N}, (∀ x ∈ xs, S.t x = false) → S.pushes xs = S
  | [], _ => rfl
  | x :: xs, h => by
    show (S.push x).pushes xs = S
    rw [Lk.push_flat (h x List.mem_cons_self)]
    exact Lk.pushes_flat fun y m => h y (List.mem_cons_of_mem _ m)
theorem path_rep {S : Lk N} {p : Option N} : ∀ {c : Cz N} {t : Tr N} {x : N}, Rep S p (plug t c) → t.root = some x → OutT S p (plug t c) → ∃ xs, S.path (c.length + 1) x = some xs ∧ ∀ y ∈ xs, y = x ∨ y ∈ cnm c
  | [], t, x, h, e, ho => ⟨[x], by
      unfold Lk.path
      rw [if_pos (is_top h e ho)], fun y m => .inl (List.mem_singleton.mp m)⟩
  | (b, u, s) :: c, t, x, h, e, ho => by
    obtain ⟨t1, t2, _⟩ := not_top h e
    have go : ∀ t' : Tr N, plug t ((b, u, s) :: c) = plug t' c → t'.root = some u → ∃ xs, S.path (c.length + 1) u = some xs ∧ ∀ y ∈ xs, y = u ∨ y ∈ cnm c := fun t' et er => path_rep (et ▸ h) er (et ▸ ho)
    have q : ∃ xs, S.path (c.length + 1) u = some xs ∧ ∀ y ∈ xs, y = u ∨ y ∈ cnm c := by
      cases b with
      | true => exact go (.nd false t u s) rfl rfl
      | false => exact go (.nd false s u t) rfl rfl
    obtain ⟨xs, h1, h2⟩ := q
    refine ⟨x :: xs, ?_, fun y m => ?_⟩
    · show Lk.path (c.length + 1 + 1) S x = _
      unfold Lk.path
      rw [if_neg (by rw [t1]; decide), t2]
      show (Lk.path (c.length + 1) S u).map (x :: ·) = _
      rw [h1]
      rfl
    · rcases List.mem_cons.mp m with e | m
      · exact .inl e
      · rcases h2 y m with e | m
        · exact .inr (e ▸ List.mem_cons_self)
        · exact .inr (List.mem_cons_of_mem _ (List.mem_append_right _ m))
theorem Lk.path_more : ∀ {k : Nat} {S : Lk N} {x : N} {xs : List N}, S.path k x = some xs → S.path (k + 1) x = some xs
  | 0, _, _, _, h => nomatch h
  | k + 1, S, x, xs, h => by
    unfold Lk.path at h ⊢
    by_cases c : S.isTop x = true
    · rw [if_pos c] at h ⊢
      exact h
    · rw [if_neg c] at h ⊢
      cases e : S.a x with
      | none =>
        rw [e] at h
        exact h
      | some u =>
        rw [e] at h
        have h : (Lk.path k S u).map (x :: ·) = some xs := h
        show (Lk.path (k + 1) S u).map (x :: ·) = some xs
        cases e2 : Lk.path k S u with
        | none =>
          rw [e2] at h
          exact nomatch h
        | some ys =>
          rw [Lk.path_more e2]
          rw [e2] at h
          exact h
theorem Lk.path_le {k m : Nat} {S : Lk N} {x : N} {xs : List N} (h : S.path k x = some xs) (le : k ≤ m) : S.path m x = some xs := by
  induction le with
  | refl => exact h
  | step _ ih => exact Lk.path_more ih
def Tr.cost : Tr N → Nat
  | .nil => 0
  | .nd _ l _ r => l.cost + r.cost + 2
theorem Tr.cost_eq : ∀ T : Tr N, T.cost = 2 * T.nms.length
  | .nil => rfl
  | .nd tw l x r => by
    show l.cost + r.cost + 2 = 2 * (l.nms ++ x :: r.nms).length
    rw [l.cost_eq, r.cost_eq, List.length_append, List.length_cons]
    omega
theorem io_flat {S : Lk N} : ∀ {T : Tr N} {p : Option N}, Rep S p T → flat T = true → ∀ (k : Nat) (w ns : List N), S.io (k + T.cost) T.root w ns = S.io k none w (ns ++ T.ord)
  | .nil, _, _, _, k, w, ns => by
    show S.io k none w ns = S.io k none w (ns ++ [])
    rw [List.append_nil]
  | .nd tw l x r, p, h, f, k, w, ns => by
    obtain ⟨h1, h2, h3, h4, h5, hl, hr⟩ := h
    have f : (!tw && flat l && flat r) = true := f
    rw [Bool.and_eq_true, Bool.and_eq_true] at f
    obtain ⟨⟨f1, f2⟩, f3⟩ := f
    have tf : tw = false := by
      cases tw
      · rfl
      · exact absurd f1 (by decide)
    subst tf
    have e : k + (Tr.nd false l x r).cost = (k + r.cost + 1) + l.cost + 1 := by
      show k + (l.cost + r.cost + 2) = _
      omega
    rw [e]
    show S.io ((k + r.cost + 1) + l.cost + 1) (some x) w ns = _
    rw [show S.io ((k + r.cost + 1) + l.cost + 1) (some x) w ns = (S.push x).io ((k + r.cost + 1) + l.cost) ((S.push x).l x) (x :: w) ns from rfl, Lk.push_flat h2, h3, io_flat hl f2 _ _ _]
    show S.io (k + r.cost) (S.r x) w (ns ++ l.ord ++ [x]) = _
    rw [h4, io_flat hr f3 _ _ _]
    show _ = S.io k none w (ns ++ (l.ord ++ x :: r.ord))
    simp only [List.append_assoc, List.cons_append, List.nil_append]
theorem io_all {S : Lk N} {T : Tr N} {p : Option N} (h : Rep S p T) (f : flat T = true) : S.io (T.cost + 1) T.root [] [] = some (S, T.ord) := by
  rw [Nat.add_comm, io_flat h f]
  rfl
theorem flat_t {S : Lk N} : ∀ {T : Tr N} {p : Option N}, Rep S p T → flat T = true → ∀ x ∈ T.nms, S.t x = false
  | .nd tw l x r, p, h, f, y, m => by
    obtain ⟨h1, h2, h3, h4, h5, hl, hr⟩ := h
    have f : (!tw && flat l && flat r) = true := f
    rw [Bool.and_eq_true, Bool.and_eq_true] at f
    obtain ⟨⟨f1, f2⟩, f3⟩ := f
    rcases List.mem_append.mp m with m | m
    · exact flat_t hl f2 y m
    · rcases List.mem_cons.mp m with rfl | m
      · rw [h2]
        cases tw
        · rfl
        · exact absurd f1 (by decide)
      · exact flat_t hr f3 y m
end
section
variable {N : Type} [DecidableEq N]
theorem turnsQ_at : ∀ {ys : List N} {S S1 : Lk N}, S.turnsQ ys = some S1 → ∀ {i : Nat} {y : N}, ys[i]? = some y → ∃ Si u, S.turnsQ (ys.take i) = some Si ∧ Si.a y = some u ∧ S.turnsQ (ys.take (i + 1)) = some (Si.turn y)
  | z :: ys, S, S1, h, i, y, hy => by
    have h : (if (S.a z).isSome = true then (S.turn z).turnsQ ys else none) = some S1 := h
    by_cases c : (S.a z).isSome = true
    · rw [if_pos c] at h
      cases i with
      | zero =>
        cases hy
        obtain ⟨u, hu⟩ := Option.isSome_iff_exists.mp c
        exact ⟨S, u, rfl, hu, tq1 hu⟩
      | succ i =>
        obtain ⟨Si, u, h1, h2, h3⟩ := turnsQ_at h hy
        have e : ∀ zs, S.turnsQ (z :: zs) = (S.turn z).turnsQ zs := fun zs => if_pos c
        exact ⟨Si, u, (e _).trans h1, h2, (e _).trans h3⟩
    · rw [if_neg c] at h
      exact nomatch h
end
section
variable {N : Type} [DecidableEq N]
/-- what is named is there -/
def Cl (S : Lk N) : Prop := ∀ x ∈ S.ns, (∀ y, S.l x = some y → y ∈ S.ns) ∧ (∀ y, S.r x = some y → y ∈ S.ns) ∧ (∀ y, S.a x = some y → y ∈ S.ns)
theorem cl_setL {S : Lk N} {x : N} {y : Option N} (h : Cl S) (m : x ∈ S.ns) (my : ∀ z, y = some z → z ∈ S.ns) : Cl (S.setL x y) := fun z mz => by
  have mz : z ∈ S.ns := mz
  obtain ⟨h1, h2, h3⟩ := h z mz
  refine ⟨fun v e => ?_, h2, fun v e => ?_⟩
  · have e : up1 S.l x y z = some v := e
    by_cases c : z = x
    · rw [c, up1_same] at e
      exact my v e
    · rw [up1_ne c] at e
      exact h1 v e
  · have e : upO S.a y (some x) z = some v := e
    by_cases c : some z = y
    · rw [← c, upO_same] at e
      cases e
      exact m
    · rw [upO_ne c] at e
      exact h3 v e
theorem cl_setR {S : Lk N} {x : N} {y : Option N} (h : Cl S) (m : x ∈ S.ns) (my : ∀ z, y = some z → z ∈ S.ns) : Cl (S.setR x y) := fun z mz => by
  have mz : z ∈ S.ns := mz
  obtain ⟨h1, h2, h3⟩ := h z mz
  refine ⟨h1, fun v e => ?_, fun v e => ?_⟩
  · have e : up1 S.r x y z = some v := e
    by_cases c : z = x
    · rw [c, up1_same] at e
      exact my v e
    · rw [up1_ne c] at e
      exact h2 v e
  · have e : upO S.a y (some x) z = some v := e
    by_cases c : some z = y
    · rw [← c, upO_same] at e
      cases e
      exact m
    · rw [upO_ne c] at e
      exact h3 v e
theorem up1_mem {ns : List N} {f : N → Option N} {x z v : N} {y : Option N} (hf : f z = some v → v ∈ ns) (hy : y = some v → v ∈ ns) (e : up1 f x y z = some v) : v ∈ ns := by
  by_cases c : z = x
  · rw [c, up1_same] at e
    exact hy e
  · rw [up1_ne c] at e
    exact hf e
theorem cl_inPlace {S : Lk N} {x u : N} (h : Cl S) (m : x ∈ S.ns) (mu : u ∈ S.ns) : Cl (S.inPlace x u) := fun z mz => by
  have mz : z ∈ S.ns := mz
  obtain ⟨h1, h2, h3⟩ := h z mz
  refine ⟨fun v e => ?_, fun v e => ?_, fun v e => ?_⟩
  · have e : (match S.a u with | none => S.l | some o => if S.l o = some u then up1 S.l o (some x) else S.l) z = some v := e
    cases ea : S.a u with
    | none =>
      rw [ea] at e
      exact h1 v e
    | some o =>
      rw [ea] at e
      have e : (if S.l o = some u then up1 S.l o (some x) else S.l) z = some v := e
      by_cases c : S.l o = some u
      · rw [if_pos c] at e
        exact up1_mem (h1 v) (fun q => by cases q; exact m) e
      · rw [if_neg c] at e
        exact h1 v e
  · have e : (match S.a u with | none => S.r | some o => if S.l o = some u then S.r else if S.r o = some u then up1 S.r o (some x) else S.r) z = some v := e
    cases ea : S.a u with
    | none =>
      rw [ea] at e
      exact h2 v e
    | some o =>
      rw [ea] at e
      have e : (if S.l o = some u then S.r else if S.r o = some u then up1 S.r o (some x) else S.r) z = some v := e
      by_cases c : S.l o = some u
      · rw [if_pos c] at e
        exact h2 v e
      · rw [if_neg c] at e
        by_cases c2 : S.r o = some u
        · rw [if_pos c2] at e
          exact up1_mem (h2 v) (fun q => by cases q; exact m) e
        · rw [if_neg c2] at e
          exact h2 v e
  · exact up1_mem (h3 v) (fun q => (h u mu).2.2 v q) (show up1 S.a x (S.a u) z = some v from e)
theorem cl_turn {S : Lk N} {x u : N} (h : Cl S) (m : x ∈ S.ns) (e : S.a x = some u) : Cl (S.turn x) ∧ (S.turn x).ns = S.ns := by
  have mu : u ∈ S.ns := (h x m).2.2 u e
  have c1 : Cl ({ S with lk := S.lk + 1 }.inPlace x u) := cl_inPlace (S := { S with lk := S.lk + 1 }) h m mu
  unfold Lk.turn
  rw [e]
  show Cl (S.turn1 x u) ∧ (S.turn1 x u).ns = S.ns
  unfold Lk.turn1
  dsimp only
  split
  · exact ⟨cl_setR (cl_setL c1 mu fun z q => (c1 x m).2.1 z q) m fun z q => by cases q; exact mu, rfl⟩
  · exact ⟨cl_setL (cl_setR c1 mu fun z q => (c1 x m).1 z q) m fun z q => by cases q; exact mu, rfl⟩
theorem cl_push {S : Lk N} {x : N} (h : Cl S) (m : x ∈ S.ns) : Cl (S.push x) ∧ (S.push x).ns = S.ns := by
  unfold Lk.push
  split
  · refine ⟨fun z mz => ?_, rfl⟩
    have mz : z ∈ S.ns := mz
    obtain ⟨h1, h2, h3⟩ := h z mz
    exact ⟨fun v e => up1_mem (h1 v) (fun q => (h x m).2.1 v q) e, fun v e => up1_mem (h2 v) (fun q => (h x m).1 v q) e, h3⟩
  · exact ⟨h, rfl⟩
theorem cl_pushes : ∀ {xs : List N} {S : Lk N}, Cl S → (∀ x ∈ xs, x ∈ S.ns) → Cl (S.pushes xs) ∧ (S.pushes xs).ns = S.ns
  | [], S, h, _ => ⟨h, rfl⟩
  | x :: xs, S, h, k => by
    obtain ⟨c1, c2⟩ := cl_push h (k x List.mem_cons_self)
    obtain ⟨d1, d2⟩ := cl_pushes (xs := xs) c1 fun y m => by rw [c2]; exact k y (List.mem_cons_of_mem _ m)
    exact ⟨d1, d2.trans c2⟩
theorem path_mem : ∀ {k : Nat} {S : Lk N} {x : N} {xs : List N}, S.path k x = some xs → Cl S → x ∈ S.ns → ∀ y ∈ xs, y ∈ S.ns
  | 0, _, _, _, h, _, _, _, _ => nomatch h
  | k + 1, S, x, xs, h, cl, m, y, my => by
    unfold Lk.path at h
    by_cases c : S.isTop x = true
    · rw [if_pos c] at h
      cases h
      rw [List.mem_singleton.mp my]
      exact m
    · rw [if_neg c] at h
      cases e : S.a x with
      | none =>
        rw [e] at h
        cases h
        rw [List.mem_singleton.mp my]
        exact m
      | some u =>
        rw [e] at h
        have h : (S.path k u).map (x :: ·) = some xs := h
        obtain ⟨ys, hy, rfl⟩ := Option.map_eq_some_iff.mp h
        rcases List.mem_cons.mp my with rfl | my
        · exact m
        · exact path_mem hy cl ((cl x m).2.2 u e) y my
theorem next_mem {S : Lk N} {x y : N} {goal : Option N} (cl : Cl S) (m : x ∈ S.ns) (h : y ∈ S.next x goal) : y ∈ S.ns := by
  unfold Lk.next at h
  cases e : S.a x with
  | none =>
    rw [e] at h
    rw [List.mem_singleton.mp h]
    exact m
  | some u =>
    rw [e] at h
    have h : y ∈ (if (S.isTop u || decide (S.a u = goal)) = true then [x] else match S.a u with | none => [x] | some o => if decide (S.l u = some x) = decide (S.l o = some u) then [u, x] else [x, x]) := h
    have one : ∀ {z : N}, z ∈ [u, x] → z ∈ S.ns := fun {z} mz => by
      rcases List.mem_cons.mp mz with rfl | mz
      · exact (cl x m).2.2 _ e
      · rw [List.mem_singleton.mp mz]
        exact m
    have two : ∀ {z : N}, z ∈ [x] → z ∈ S.ns := fun {z} mz => one (List.mem_cons_of_mem _ mz)
    split at h
    · exact two h
    · cases e2 : S.a u with
      | none =>
        rw [e2] at h
        exact two h
      | some o =>
        rw [e2] at h
        have h : y ∈ (if decide (S.l u = some x) = decide (S.l o = some u) then [u, x] else [x, x]) := h
        split at h
        · exact one h
        · rcases List.mem_cons.mp h with rfl | h
          · exact m
          · exact two h
end

/-! ### turned otherwise: a tree's own turns -/
section
variable {N : Type} [DecidableEq N]
/-- x stands below u, u below another one or none: no name twice -/
structure Tidy (S : Lk N) (x u : N) : Prop where
  ax : S.a x = some u
  one : S.l u = some x ∨ S.r u = some x
  not2 : ¬ (S.l u = some x ∧ S.r u = some x)
  up : ∀ g, S.a u = some g → g ≠ u ∧ g ≠ x ∧ ¬ (S.l g = some u ∧ S.r g = some u)
  lx : S.l x ≠ some u
  rx : S.r x ≠ some u
  ne : x ≠ u
def Lk.lturn1 (S : Lk N) (x u : N) (side : Bool) : Lk N :=
  { S with
    l := if side then up1 (match S.a u with | none => S.l | some g => if S.r g = some u then S.l else if S.l g = some u then up1 S.l g (some x) else S.l) x (some u)
         else up1 (match S.a u with | none => S.l | some g => if S.r g = some u then S.l else if S.l g = some u then up1 S.l g (some x) else S.l) u (S.r x)
    r := if side then up1 (match S.a u with | none => S.r | some g => if S.r g = some u then up1 S.r g (some x) else S.r) u (S.l x)
         else up1 (match S.a u with | none => S.r | some g => if S.r g = some u then up1 S.r g (some x) else S.r) x (some u)
    a := upO (up1 (up1 S.a x (S.a u)) u (some x)) (if side then S.l x else S.r x) (some u) }
def Lk.lturn (S : Lk N) (x : N) : Lk N := match S.a x with | none => S | some u => S.lturn1 x u (decide (S.r u = some x))
/-- once x stands where u was -/
def Lk.plc (S : Lk N) (x u : N) : Lk N :=
  { S with
    l := match S.a u with | none => S.l | some g => if S.r g = some u then S.l else if S.l g = some u then up1 S.l g (some x) else S.l
    r := match S.a u with | none => S.r | some g => if S.r g = some u then up1 S.r g (some x) else S.r }
theorem lturn1_plc (S : Lk N) (x u : N) (b : Bool) : S.lturn1 x u b = if b then
    { S.plc x u with l := up1 (S.plc x u).l x (some u), r := up1 (S.plc x u).r u (S.l x), a := upO (up1 (up1 S.a x (S.a u)) u (some x)) (S.l x) (some u) }
    else { S.plc x u with l := up1 (S.plc x u).l u (S.r x), r := up1 (S.plc x u).r x (some u), a := upO (up1 (up1 S.a x (S.a u)) u (some x)) (S.r x) (some u) } := by
  cases b <;> rfl
theorem up_comm {α : Type} {f : N → α} {u : N} {b : Option N} {v w : α} (h : b ≠ some u) : upO (up1 f u v) b w = up1 (upO f b w) u v := by
  funext z
  cases b with
  | none => rfl
  | some b =>
    show up1 (up1 f u v) b w z = up1 (up1 f b w) u v z
    by_cases e1 : z = b
    · subst e1
      rw [up1_same, up1_ne fun e => h (by rw [e]), up1_same]
    · rw [up1_ne e1]
      by_cases e2 : z = u
      · subst e2
        rw [up1_same, up1_same]
      · rw [up1_ne e2, up1_ne e2, up1_ne e1]
theorem lturn_eq {S : Lk N} {x u : N} (t : Tidy S x u) : (S.lturn x).l = (S.turn x).l ∧ (S.lturn x).r = (S.turn x).r ∧ (S.lturn x).a = (S.turn x).a ∧ (S.turn x).t = S.t ∧ (S.turn x).ns = S.ns ∧ (S.turn x).lk = S.lk + 1 := by
  have el : (S.inPlace x u).l = match S.a u with | none => S.l | some g => if S.r g = some u then S.l else if S.l g = some u then up1 S.l g (some x) else S.l := by
    show (match S.a u with | none => S.l | some o => if S.l o = some u then up1 S.l o (some x) else S.l) = _
    cases e : S.a u with
    | none => rfl
    | some g =>
      obtain ⟨g1, g2, g3⟩ := t.up g e
      dsimp only
      by_cases c : S.r g = some u
      · rw [if_pos c, if_neg fun z => g3 ⟨z, c⟩]
      · rw [if_neg c]
  have er : (S.inPlace x u).r = match S.a u with | none => S.r | some g => if S.r g = some u then up1 S.r g (some x) else S.r := by
    show (match S.a u with | none => S.r | some o => if S.l o = some u then S.r else if S.r o = some u then up1 S.r o (some x) else S.r) = _
    cases e : S.a u with
    | none => rfl
    | some g =>
      obtain ⟨g1, g2, g3⟩ := t.up g e
      dsimp only
      by_cases c : S.r g = some u
      · rw [if_pos c, if_neg fun z => g3 ⟨z, c⟩]
      · rw [if_neg c]
        split <;> rfl
  have elu : (S.inPlace x u).l u = S.l u := by
    rw [el]
    cases e : S.a u with
    | none => rfl
    | some g =>
      obtain ⟨g1, g2, g3⟩ := t.up g e
      dsimp only
      split
      · rfl
      · split
        · exact up1_ne g1.symm
        · rfl
  have elx : (S.inPlace x u).l x = S.l x := by
    rw [el]
    cases e : S.a u with
    | none => rfl
    | some g =>
      obtain ⟨g1, g2, g3⟩ := t.up g e
      dsimp only
      split
      · rfl
      · split
        · exact up1_ne g2.symm
        · rfl
  have erx : (S.inPlace x u).r x = S.r x := by
    rw [er]
    cases e : S.a u with
    | none => rfl
    | some g =>
      obtain ⟨g1, g2, g3⟩ := t.up g e
      dsimp only
      split
      · exact up1_ne g2.symm
      · rfl
  have d1 : S.turn x = S.turn1 x u := by
    unfold Lk.turn
    rw [t.ax]
  have d2 : S.lturn x = S.lturn1 x u (decide (S.r u = some x)) := by
    unfold Lk.lturn
    rw [t.ax]
  rw [d1, d2]
  by_cases c : S.r u = some x
  · have c2 : ¬ S.l u = some x := fun z => t.not2 ⟨z, c⟩
    have e0 : S.turn1 x u = (({ S with lk := S.lk + 1 }.inPlace x u).setR u (({ S with lk := S.lk + 1 }.inPlace x u).l x)).setL x (some u) := if_neg (show ¬ (S.inPlace x u).l u = some x by rw [elu]; exact c2)
    rw [e0, decide_eq_true c]
    refine ⟨?_, ?_, ?_, rfl, rfl, rfl⟩
    · show up1 _ x (some u) = up1 (S.inPlace x u).l x (some u)
      rw [el]
    · show up1 _ u (S.l x) = up1 (S.inPlace x u).r u ((S.inPlace x u).l x)
      rw [er, elx]
    · show upO (up1 (up1 S.a x (S.a u)) u (some x)) (S.l x) (some u) = up1 (upO (up1 S.a x (S.a u)) ((S.inPlace x u).l x) (some u)) u (some x)
      rw [elx]
      exact up_comm t.lx
  · have c2 : S.l u = some x := t.one.resolve_right c
    have e0 : S.turn1 x u = (({ S with lk := S.lk + 1 }.inPlace x u).setL u (({ S with lk := S.lk + 1 }.inPlace x u).r x)).setR x (some u) := if_pos (show (S.inPlace x u).l u = some x by rw [elu]; exact c2)
    rw [e0, decide_eq_false c]
    refine ⟨?_, ?_, ?_, rfl, rfl, rfl⟩
    · show up1 _ u (S.r x) = up1 (S.inPlace x u).l u ((S.inPlace x u).r x)
      rw [el, erx]
    · show up1 _ x (some u) = up1 (S.inPlace x u).r x (some u)
      rw [er]
    · show upO (up1 (up1 S.a x (S.a u)) u (some x)) (S.r x) (some u) = up1 (upO (up1 S.a x (S.a u)) ((S.inPlace x u).r x) (some u)) u (some x)
      rw [erx]
      exact up_comm t.rx
theorem tidy_of {S : Lk N} {p : Option N} {A B s : Tr N} {x u : N} {b : Bool} {c : Cz N} (h : Rep S p (plug (nf A x B) ((b, u, s) :: c))) (nd : (plug (nf A x B) ((b, u, s) :: c)).nms.Nodup) (ho : OutT S p (plug (nf A x B) ((b, u, s) :: c))) (hp : ∀ q, p = some q → q ∉ (plug (nf A x B) ((b, u, s) :: c)).nms) : Tidy S x u := by
  obtain ⟨n1, n2, n3⟩ := nd_ctx nd
  obtain ⟨nx1, nx2, nx3⟩ := n3 x (List.mem_append_right _ List.mem_cons_self)
  obtain ⟨⟨_, _, hl, hr, ha, _, _⟩, _, _, hu3, hu4, _, hc⟩ := rep_plug.mp h
  have mu : u ∈ (plug (nf A x B) ((b, u, s) :: c)).nms := plug_perm.mem_iff.mpr (List.mem_append_right _ List.mem_cons_self)
  have mx : x ∈ (plug (nf A x B) ((b, u, s) :: c)).nms := plug_perm.mem_iff.mpr (List.mem_append_left _ (List.mem_append_right _ List.mem_cons_self))
  have ns : s.root ≠ some x := root_ne nx2
  have nA : A.root ≠ some u := fun e => (n3 u (List.mem_append_left _ (Tr.root_mem e))).1 rfl
  have nB : B.root ≠ some u := fun e => (n3 u (List.mem_append_right _ (List.mem_cons_of_mem _ (Tr.root_mem e)))).1 rfl
  refine ⟨ha, ?_, ?_, ?_, by rw [hl]; exact nA, by rw [hr]; exact nB, nx1⟩
  · cases b with
    | true => exact .inl hu3.1
    | false => exact .inr hu3.2
  · rintro ⟨e1, e2⟩
    cases b with
    | true => exact ns (hu3.2.symm.trans e2)
    | false => exact ns (hu3.1.symm.trans e1)
  · intro g eg
    rw [hu4] at eg
    cases c with
    | nil =>
      refine ⟨fun e => hp g eg (e ▸ mu), fun e => hp g eg (e ▸ mx), fun z => (ho g eg u mu).1 z.1⟩
    | cons f c' =>
      obtain ⟨b', g', q⟩ := f
      cases eg
      have ng : g ∈ cnm ((b', g, q) :: c') := List.mem_cons_self
      have nq : q.root ≠ some u := root_ne fun m => n2 (List.mem_cons_of_mem _ (List.mem_append_left _ m))
      refine ⟨fun (e : g = u) => n2 (e ▸ ng), fun (e : g = x) => nx3 (e ▸ ng), ?_⟩
      rintro ⟨e1, e2⟩
      obtain ⟨_, _, h3, _, _, _⟩ := hc
      cases b' with
      | true => exact nq (h3.2.symm.trans e2)
      | false => exact nq (h3.1.symm.trans e1)
/-- two turns of a lift -/
theorem two_turns {S : Lk N} {p : Option N} {A B s q : Tr N} {x u g : N} {b1 b2 : Bool} {c : Cz N} (h : Rep S p (plug (nf A x B) ((b1, u, s) :: (b2, g, q) :: c))) (nd : (plug (nf A x B) ((b1, u, s) :: (b2, g, q) :: c)).nms.Nodup) (ho : OutT S p (plug (nf A x B) ((b1, u, s) :: (b2, g, q) :: c))) (hp : ∀ z, p = some z → z ∉ (plug (nf A x B) ((b1, u, s) :: (b2, g, q) :: c)).nms) :
    ∃ A' B' f u1 u2, f = (if decide (S.l u = some x) = decide (S.l g = some u) then u else x) ∧ splayT A x B ((b1, u, s) :: (b2, g, q) :: c) = ((splayT A' x B' c).1, f :: x :: (splayT A' x B' c).2) ∧ Tidy S f u1 ∧ Tidy (S.turn f) x u2 ∧ Rep ((S.turn f).turn x) p (plug (nf A' x B') c) ∧ Lifted S ((S.turn f).turn x) (plug (nf A x B) ((b1, u, s) :: (b2, g, q) :: c)) 2 ∧ (plug (nf A' x B') c).nms.Perm (plug (nf A x B) ((b1, u, s) :: (b2, g, q) :: c)).nms ∧ f ∈ (plug (nf A x B) ((b1, u, s) :: (b2, g, q) :: c)).nms := by
  obtain ⟨n1, n2, n3⟩ := nd_ctx nd
  have mu : u ∈ (plug (nf A x B) ((b1, u, s) :: (b2, g, q) :: c)).nms := plug_perm.mem_iff.mpr (List.mem_append_right _ List.mem_cons_self)
  have mx : x ∈ (plug (nf A x B) ((b1, u, s) :: (b2, g, q) :: c)).nms := plug_perm.mem_iff.mpr (List.mem_append_left _ (List.mem_append_right _ List.mem_cons_self))
  have lu : (if b1 then S.l u = some x ∧ S.r u = s.root else S.l u = s.root ∧ S.r u = some x) := (rep_plug.mp h).2.2.2.1
  have nx : s.root ≠ some x := root_ne (n3 x (List.mem_append_right _ List.mem_cons_self)).2.1
  cases b1 with
  | true =>
    have h' : Rep S p (plug (nf (nf A x B) u s) ((b2, g, q) :: c)) := h
    have nd' : (plug (nf (nf A x B) u s) ((b2, g, q) :: c)).nms.Nodup := nd
    have lg : (if b2 then S.l g = some u ∧ S.r g = q.root else S.l g = q.root ∧ S.r g = some u) := (rep_plug.mp h').2.2.2.1
    have nq : q.root ≠ some u := root_ne ((nd_ctx nd').2.2 u (List.mem_append_right _ List.mem_cons_self)).2.1
    cases b2 with
    | true =>
      obtain ⟨r1, L1⟩ := turnLL (A := nf A x B) (B := s) (x := u) (s := q) h' nd' ho
      have pm1 : (plug (nf (nf A x B) u (nf s g q)) c).nms.Perm (plug (nf (nf A x B) u s) ((true, g, q) :: c)).nms := permP (c := c) permLL
      have nd1 := pm1.nodup_iff.mpr nd'
      have ho1 := ho.lift L1 (fun y => pm1.mem_iff) hp
      have hp1 : ∀ z, p = some z → z ∉ (plug (nf (nf A x B) u (nf s g q)) c).nms := fun z e m => hp z e (pm1.mem_iff.mp m)
      obtain ⟨r2, L2⟩ := turnLL (A := A) (B := B) (x := x) (u := u) (s := nf s g q) r1 nd1 ho1
      have pm2 : (plug (nf A x (nf B u (nf s g q))) c).nms.Perm (plug (nf (nf A x B) u (nf s g q)) c).nms := permP (c := c) permLL
      refine ⟨A, nf B u (nf s g q), u, g, u, by rw [lu.1, lg.1, if_pos (by simp)], rfl, tidy_of (A := nf A x B) (B := s) (x := u) h' nd' ho hp, tidy_of (A := A) (B := B) (x := x) (b := true) (s := nf s g q) r1 nd1 ho1 hp1, r2, L1.trans L2 fun y => pm1.mem_iff, pm2.trans pm1, mu⟩
    | false =>
      obtain ⟨r1, L1⟩ := turnLL h nd ho
      have pm1 : (plug (nf A x (nf B u s)) ((false, g, q) :: c)).nms.Perm (plug (nf A x B) ((true, u, s) :: (false, g, q) :: c)).nms := permP (c := (false, g, q) :: c) permLL
      have nd1 := pm1.nodup_iff.mpr nd
      have ho1 := ho.lift L1 (fun y => pm1.mem_iff) hp
      have hp1 : ∀ z, p = some z → z ∉ (plug (nf A x (nf B u s)) ((false, g, q) :: c)).nms := fun z e m => hp z e (pm1.mem_iff.mp m)
      obtain ⟨r2, L2⟩ := turnRR (A := A) (B := nf B u s) (x := x) (u := g) (s := q) r1 nd1 ho1
      have pm2 : (plug (nf (nf q g A) x (nf B u s)) c).nms.Perm (plug (nf A x (nf B u s)) ((false, g, q) :: c)).nms := permP (c := c) permLL.symm
      refine ⟨nf q g A, nf B u s, x, u, g, by rw [lu.1, lg.1, if_neg (by simp [nq])], rfl, tidy_of h nd ho hp, tidy_of r1 nd1 ho1 hp1, r2, L1.trans L2 fun y => pm1.mem_iff, pm2.trans pm1, mx⟩
  | false =>
    have h' : Rep S p (plug (nf s u (nf A x B)) ((b2, g, q) :: c)) := h
    have nd' : (plug (nf s u (nf A x B)) ((b2, g, q) :: c)).nms.Nodup := nd
    have lg : (if b2 then S.l g = some u ∧ S.r g = q.root else S.l g = q.root ∧ S.r g = some u) := (rep_plug.mp h').2.2.2.1
    have nq : q.root ≠ some u := root_ne ((nd_ctx nd').2.2 u (List.mem_append_right _ List.mem_cons_self)).2.1
    cases b2 with
    | true =>
      obtain ⟨r1, L1⟩ := turnRR h nd ho
      have pm1 : (plug (nf (nf s u A) x B) ((true, g, q) :: c)).nms.Perm (plug (nf A x B) ((false, u, s) :: (true, g, q) :: c)).nms := permP (c := (true, g, q) :: c) permLL.symm
      have nd1 := pm1.nodup_iff.mpr nd
      have ho1 := ho.lift L1 (fun y => pm1.mem_iff) hp
      have hp1 : ∀ z, p = some z → z ∉ (plug (nf (nf s u A) x B) ((true, g, q) :: c)).nms := fun z e m => hp z e (pm1.mem_iff.mp m)
      obtain ⟨r2, L2⟩ := turnLL (A := nf s u A) (B := B) (x := x) (u := g) (s := q) r1 nd1 ho1
      have pm2 : (plug (nf (nf s u A) x (nf B g q)) c).nms.Perm (plug (nf (nf s u A) x B) ((true, g, q) :: c)).nms := permP (c := c) permLL
      refine ⟨nf s u A, nf B g q, x, u, g, by rw [lu.1, lg.1, if_neg (by simp [nx])], rfl, tidy_of h nd ho hp, tidy_of r1 nd1 ho1 hp1, r2, L1.trans L2 fun y => pm1.mem_iff, pm2.trans pm1, mx⟩
    | false =>
      obtain ⟨r1, L1⟩ := turnRR (A := s) (B := nf A x B) (x := u) (s := q) h' nd' ho
      have pm1 : (plug (nf (nf q g s) u (nf A x B)) c).nms.Perm (plug (nf s u (nf A x B)) ((false, g, q) :: c)).nms := permP (c := c) permLL.symm
      have nd1 := pm1.nodup_iff.mpr nd'
      have ho1 := ho.lift L1 (fun y => pm1.mem_iff) hp
      have hp1 : ∀ z, p = some z → z ∉ (plug (nf (nf q g s) u (nf A x B)) c).nms := fun z e m => hp z e (pm1.mem_iff.mp m)
      obtain ⟨r2, L2⟩ := turnRR (A := A) (B := B) (x := x) (u := u) (s := nf q g s) r1 nd1 ho1
      have pm2 : (plug (nf (nf (nf q g s) u A) x B) c).nms.Perm (plug (nf (nf q g s) u (nf A x B)) c).nms := permP (c := c) permLL.symm
      refine ⟨nf (nf q g s) u A, B, u, g, u, by rw [lu.1, lg.1, if_pos (by simp [nx, nq])], rfl, tidy_of (A := s) (B := nf A x B) (x := u) h' nd' ho hp, tidy_of (A := A) (B := B) (x := x) (b := false) (s := nf q g s) r1 nd1 ho1 hp1, r2, L1.trans L2 fun y => pm1.mem_iff, pm2.trans pm1, mu⟩
end
/-! ### the chain at first -/
def rgI (n : Nat) : List Int := (List.range n).map fun (k : Nat) => (k : Int)
theorem rgI_mem {n : Nat} {x : Int} : x ∈ rgI n ↔ 0 ≤ x ∧ x < n := by
  unfold rgI
  rw [List.mem_map]
  constructor
  · rintro ⟨k, mk, rfl⟩
    have := List.mem_range.mp mk
    omega
  · rintro ⟨h1, h2⟩
    exact ⟨x.toNat, List.mem_range.mpr (by omega), by omega⟩
theorem rgI_succ (n : Nat) : rgI (n + 1) = rgI n ++ [(n : Int)] := by
  unfold rgI
  rw [List.range_succ, List.map_append]
  rfl
theorem rgI_len (n : Nat) : (rgI n).length = n := by
  unfold rgI
  rw [List.length_map, List.length_range]
theorem rgI_up (n : Nat) : (rgI n).Pairwise (· < ·) := by
  unfold rgI
  rw [List.pairwise_map]
  exact List.pairwise_lt_range.imp fun h => by omega
theorem rgI_nd (n : Nat) : (rgI n).Nodup := (rgI_up n).imp fun h => by omega
def chainK (n : Nat) : Lk Int := ⟨rgI n, fun _ => none, fun x => if 0 ≤ x ∧ x + 1 < n then some (x + 1) else none, fun x => if 1 ≤ x ∧ x < n then some (x - 1) else none, fun _ => false, 0⟩
def chainT : Nat → Nat → Tr Int
  | _, 0 => .nil
  | k, m + 1 => nf .nil (k : Int) (chainT (k + 1) m)
theorem chainT_root (k m : Nat) : (chainT k m).root = if 0 < m then some (k : Int) else none := by
  cases m with
  | zero => rfl
  | succ m => rfl
theorem chain_rep {n : Nat} : ∀ {m k : Nat}, k + m = n → Rep (chainK n) (if 1 ≤ k then some ((k : Int) - 1) else none) (chainT k m)
  | 0, k, _ => trivial
  | m + 1, k, h => by
    have ih := chain_rep (n := n) (m := m) (k := k + 1) (by omega)
    rw [if_pos (by omega)] at ih
    refine ⟨rgI_mem.mpr (by omega), rfl, rfl, ?_, ?_, trivial, ?_⟩
    · rw [chainT_root]
      show (if 0 ≤ (k : Int) ∧ (k : Int) + 1 < n then some ((k : Int) + 1) else none) = _
      by_cases c : 0 < m
      · rw [if_pos (by omega), if_pos c]
        rfl
      · rw [if_neg (by omega), if_neg c]
    · show (if 1 ≤ (k : Int) ∧ (k : Int) < n then some ((k : Int) - 1) else none) = _
      by_cases c : 1 ≤ k
      · rw [if_pos (by omega), if_pos c]
      · rw [if_neg (by omega), if_neg c]
    · have e : (((k + 1 : Nat) : Int) - 1) = (k : Int) := by omega
      rw [e] at ih
      exact ih
theorem chain_nms : ∀ {m k : Nat}, (chainT k m).nms = (List.range' k m).map fun (j : Nat) => (j : Int)
  | 0, _ => rfl
  | m + 1, k => by
    show [] ++ (k : Int) :: (chainT (k + 1) m).nms = _
    rw [chain_nms, List.range'_succ]
    rfl
theorem chain_all (n : Nat) : (chainT 0 n).nms = rgI n := by
  rw [chain_nms]
  unfold rgI
  rw [List.range_eq_range']
theorem chain_flat : ∀ {m k : Nat}, flat (chainT k m) = true
  | 0, _ => rfl
  | m + 1, k => by
    show (!false && true && flat (chainT (k + 1) m)) = true
    rw [chain_flat]
    rfl
theorem ord_flat {N : Type} : ∀ {T : Tr N}, flat T = true → T.ord = T.nms
  | .nil, _ => rfl
  | .nd tw l x r, f => by
    have f : (!tw && flat l && flat r) = true := f
    rw [Bool.and_eq_true, Bool.and_eq_true] at f
    obtain ⟨⟨f1, f2⟩, f3⟩ := f
    have tf : tw = false := by
      cases tw
      · rfl
      · exact absurd f1 (by decide)
    subst tf
    show l.ord ++ x :: r.ord = l.nms ++ x :: r.nms
    rw [ord_flat f2, ord_flat f3]

/-! ### weights, and what lifting costs (pure) -/
section
variable {N : Type} [DecidableEq N]
/-- the names from one on up to the end -/
def Lk.ups (S : Lk N) : Nat → Option N → Option (List N)
  | _, none => some []
  | 0, some _ => none
  | k + 1, some x => (Lk.ups S k (S.a x)).map (x :: ·)
theorem Lk.ups_more {S : Lk N} : ∀ {k : Nat} {x : Option N} {xs : List N}, S.ups k x = some xs → S.ups (k + 1) x = some xs
  | 0, none, _, h => h
  | 0, some _, _, h => nomatch h
  | _ + 1, none, _, h => h
  | k + 1, some x, xs, h => by
    have h : (S.ups k (S.a x)).map (x :: ·) = some xs := h
    obtain ⟨ys, hy, rfl⟩ := Option.map_eq_some_iff.mp h
    show (S.ups (k + 1) (S.a x)).map (x :: ·) = _
    rw [Lk.ups_more hy]
    rfl
theorem Lk.ups_le {S : Lk N} {k m : Nat} {x : Option N} {xs : List N} (h : S.ups k x = some xs) (le : k ≤ m) : S.ups m x = some xs := by
  induction le with
  | refl => exact h
  | step _ ih => exact Lk.ups_more ih
def pth : Tr N → N → List N
  | .nil, _ => []
  | .nd _ l y r, s => if s = y then [y] else if s ∈ l.nms then pth l s ++ [y] else pth r s ++ [y]
theorem pth_ups {S : Lk N} : ∀ {T : Tr N} {p : Option N} {s : N} {k : Nat} {xs : List N}, Rep S p T → s ∈ T.nms → S.ups k p = some xs → S.ups (k + T.nms.length) (some s) = some (pth T s ++ xs)
  | .nd tw l y r, p, s, k, xs, h, m, e => by
    obtain ⟨h1, h2, h3, h4, h5, hl, hr⟩ := h
    have el : (Tr.nd tw l y r).nms.length = l.nms.length + (r.nms.length + 1) := by
      show (l.nms ++ y :: r.nms).length = _
      rw [List.length_append, List.length_cons]
    have e2 : S.ups (k + 1) (some y) = some (y :: xs) := by
      show (S.ups k (S.a y)).map (y :: ·) = _
      rw [h5, e]
      rfl
    unfold pth
    by_cases c1 : s = y
    · rw [if_pos c1, c1]
      exact Lk.ups_le e2 (by omega)
    · rw [if_neg c1]
      by_cases c2 : s ∈ l.nms
      · rw [if_pos c2, List.append_assoc]
        exact Lk.ups_le (pth_ups hl c2 e2) (by omega)
      · rw [if_neg c2, List.append_assoc]
        have m2 : s ∈ r.nms := by
          rcases List.mem_append.mp m with m | m
          · exact absurd m c2
          · exact (List.mem_cons.mp m).resolve_left c1
        exact Lk.ups_le (pth_ups hr m2 e2) (by omega)
theorem pth_mem : ∀ {T : Tr N} {s y : N}, y ∈ pth T s → y ∈ T.nms
  | .nd tw l z r, s, y, h => by
    unfold pth at h
    by_cases c1 : s = z
    · rw [if_pos c1] at h
      rw [List.mem_singleton.mp h]
      exact List.mem_append_right _ List.mem_cons_self
    · rw [if_neg c1] at h
      by_cases c2 : s ∈ l.nms
      · rw [if_pos c2] at h
        rcases List.mem_append.mp h with h | h
        · exact List.mem_append_left _ (pth_mem h)
        · rw [List.mem_singleton.mp h]
          exact List.mem_append_right _ List.mem_cons_self
      · rw [if_neg c2] at h
        rcases List.mem_append.mp h with h | h
        · exact List.mem_append_right _ (List.mem_cons_of_mem _ (pth_mem h))
        · rw [List.mem_singleton.mp h]
          exact List.mem_append_right _ List.mem_cons_self
/-- how many stand at or below it -/
def wtT : Tr N → N → Nat
  | .nil, _ => 0
  | .nd _ l z r, y => if y = z then l.nms.length + r.nms.length + 1 else wtT l y + wtT r y
theorem wtT_out : ∀ {T : Tr N} {y : N}, y ∉ T.nms → wtT T y = 0
  | .nil, _, _ => rfl
  | .nd tw l z r, y, h => by
    have h : y ∉ l.nms ++ z :: r.nms := h
    show (if y = z then l.nms.length + r.nms.length + 1 else wtT l y + wtT r y) = 0
    rw [if_neg fun (e : y = z) => h (e ▸ List.mem_append_right _ List.mem_cons_self), wtT_out fun m => h (List.mem_append_left _ m), wtT_out fun m => h (List.mem_append_right _ (List.mem_cons_of_mem _ m))]
theorem sum_const_one {α : Type} {f : α → Nat} : ∀ {xs : List α}, (∀ x ∈ xs, f x = 1) → (xs.map f).sum = xs.length
  | [], _ => rfl
  | x :: xs, h => by
    rw [List.map_cons, List.sum_cons, h x List.mem_cons_self, sum_const_one fun y m => h y (List.mem_cons_of_mem _ m), List.length_cons]
    omega
theorem sum_congr {α : Type} {f g : α → Nat} {xs : List α} (h : ∀ x ∈ xs, f x = g x) : (xs.map f).sum = (xs.map g).sum := by rw [List.map_congr_left h]
theorem sum_zero {α : Type} {f : α → Nat} : ∀ {xs : List α}, (∀ x ∈ xs, f x = 0) → (xs.map f).sum = 0
  | [], _ => rfl
  | x :: xs, h => by
    rw [List.map_cons, List.sum_cons, h x List.mem_cons_self, sum_zero fun y m => h y (List.mem_cons_of_mem _ m)]
theorem wt_count : ∀ {T : Tr N} (y : N), T.nms.Nodup → (T.nms.map fun s => (pth T s).count y).sum = wtT T y
  | .nil, _, _ => rfl
  | .nd tw l z r, y, nd => by
    have nd : (l.nms ++ z :: r.nms).Nodup := nd
    obtain ⟨n1, n2, n3⟩ := List.nodup_append.mp nd
    obtain ⟨n4, n5⟩ := List.nodup_cons.mp n2
    have nl : z ∉ l.nms := fun m => n3 z m z List.mem_cons_self rfl
    have pl : ∀ s ∈ l.nms, pth (.nd tw l z r) s = pth l s ++ [z] := fun s m => by
      show (if s = z then [z] else if s ∈ l.nms then pth l s ++ [z] else pth r s ++ [z]) = _
      rw [if_neg fun (e : s = z) => nl (e ▸ m), if_pos m]
    have pr : ∀ s ∈ r.nms, pth (.nd tw l z r) s = pth r s ++ [z] := fun s m => by
      show (if s = z then [z] else if s ∈ l.nms then pth l s ++ [z] else pth r s ++ [z]) = _
      rw [if_neg fun (e : s = z) => n4 (e ▸ m), if_neg fun q => n3 s q s (List.mem_cons_of_mem _ m) rfl]
    have pz : pth (.nd tw l z r) z = [z] := by
      show (if z = z then [z] else _) = _
      rw [if_pos rfl]
    show ((l.nms ++ z :: r.nms).map fun s => (pth (.nd tw l z r) s).count y).sum = if y = z then l.nms.length + r.nms.length + 1 else wtT l y + wtT r y
    rw [List.map_append, List.sum_append, List.map_cons, List.sum_cons, pz]
    by_cases c : y = z
    · subst c
      rw [if_pos rfl, sum_const_one fun s m => by rw [pl s m, List.count_append, List.count_eq_zero_of_not_mem fun q => nl (pth_mem q)]; simp, sum_const_one fun s m => by rw [pr s m, List.count_append, List.count_eq_zero_of_not_mem fun q => n4 (pth_mem q)]; simp]
      simp
      omega
    · have cz : [z].count y = 0 := List.count_eq_zero_of_not_mem fun m => c (List.mem_singleton.mp m)
      rw [if_neg c, cz, sum_congr (g := fun s => (pth l s).count y) fun s m => by rw [pl s m, List.count_append, cz, Nat.add_zero], sum_congr (xs := r.nms) (g := fun s => (pth r s).count y) fun s m => by rw [pr s m, List.count_append, cz, Nat.add_zero], wt_count y n1, wt_count y n5]
      omega
def phiT : Tr N → Nat
  | .nil => 0
  | .nd _ l _ r => phiT l + phiT r + (l.nms.length + r.nms.length + 1).log2
theorem phi_sum : ∀ {T : Tr N}, T.nms.Nodup → (T.nms.map fun y => (wtT T y).log2).sum = phiT T
  | .nil, _ => rfl
  | .nd tw l z r, nd => by
    have nd : (l.nms ++ z :: r.nms).Nodup := nd
    obtain ⟨n1, n2, n3⟩ := List.nodup_append.mp nd
    obtain ⟨n4, n5⟩ := List.nodup_cons.mp n2
    have nl : z ∉ l.nms := fun m => n3 z m z List.mem_cons_self rfl
    show ((l.nms ++ z :: r.nms).map fun y => (wtT (.nd tw l z r) y).log2).sum = phiT l + phiT r + _
    have wz : wtT (.nd tw l z r) z = l.nms.length + r.nms.length + 1 := if_pos rfl
    have wo : ∀ y, y ≠ z → wtT (.nd tw l z r) y = wtT l y + wtT r y := fun y c => if_neg c
    rw [List.map_append, List.sum_append, List.map_cons, List.sum_cons, wz, sum_congr (g := fun y => (wtT l y).log2) fun y m => by rw [wo y fun (e : y = z) => nl (e ▸ m), wtT_out (T := r) fun q => n3 y m y (List.mem_cons_of_mem _ q) rfl, Nat.add_zero], sum_congr (xs := r.nms) (g := fun y => (wtT r y).log2) fun y m => by rw [wo y fun (e : y = z) => n4 (e ▸ m), wtT_out (T := l) fun q => n3 y q y (List.mem_cons_of_mem _ m) rfl, Nat.zero_add], phi_sum n1, phi_sum n5]
    omega
theorem lg_mono {a b : Nat} (h : a ≤ b) (ha : 0 < a) : a.log2 ≤ b.log2 := (Nat.le_log2 (by omega)).mpr (Nat.le_trans (Nat.log2_self_le (by omega)) h)
/-- two of like ranks make more -/
theorem lg_two {a b c k : Nat} (ha : 0 < a) (hb : 0 < b) (h : a + b ≤ c) (h1 : k ≤ a.log2) (h2 : k ≤ b.log2) : k + 1 ≤ c.log2 := by
  have e1 := (Nat.le_log2 (show a ≠ 0 by omega)).mp h1
  have e2 := (Nat.le_log2 (show b ≠ 0 by omega)).mp h2
  refine (Nat.le_log2 (by omega)).mpr ?_
  rw [Nat.pow_succ]
  omega
def phiC : Nat → Cz N → Nat
  | _, [] => 0
  | k, (_, _, s) :: c => phiT s + (k + s.nms.length + 1).log2 + phiC (k + s.nms.length + 1) c
theorem nd_len {tw : Bool} {l r : Tr N} {x : N} : (Tr.nd tw l x r).nms.length = l.nms.length + r.nms.length + 1 := by
  show (l.nms ++ x :: r.nms).length = _
  rw [List.length_append, List.length_cons]
  omega
theorem phi_plug : ∀ {c : Cz N} {t : Tr N}, phiT (plug t c) = phiT t + phiC t.nms.length c
  | [], t => rfl
  | (true, u, s) :: c, t => by
    show phiT (plug (.nd false t u s) c) = _
    rw [phi_plug, nd_len]
    show phiT t + phiT s + (t.nms.length + s.nms.length + 1).log2 + _ = phiT t + (phiT s + (t.nms.length + s.nms.length + 1).log2 + _)
    omega
  | (false, u, s) :: c, t => by
    show phiT (plug (.nd false s u t) c) = _
    have e : s.nms.length + t.nms.length + 1 = t.nms.length + s.nms.length + 1 := by omega
    rw [phi_plug, nd_len]
    show phiT s + phiT t + (s.nms.length + t.nms.length + 1).log2 + phiC (s.nms.length + t.nms.length + 1) c = phiT t + (phiT s + (t.nms.length + s.nms.length + 1).log2 + phiC (t.nms.length + s.nms.length + 1) c)
    rw [e]
    omega
theorem nf_len {l r : Tr N} {x : N} : (nf l x r).nms.length = l.nms.length + r.nms.length + 1 := nd_len
theorem nf_phi {l r : Tr N} {x : N} : phiT (nf l x r) = phiT l + phiT r + (l.nms.length + r.nms.length + 1).log2 := rfl
theorem plug_ge {t : Tr N} {c : Cz N} : t.nms.length ≤ (plug t c).nms.length := by
  have h := (plug_perm (c := c) (t := t)).length_eq
  rw [List.length_append] at h
  omega
/-- one double turn -/
theorem two_cost {n u1 v w n' : Nat} (hn : 0 < n) (h1 : n ≤ u1) (h2 : u1 ≤ n') (hv : 0 < v) (hw : 0 < w) (v1 : v ≤ n') (w1 : w ≤ n') (hs : n + v ≤ n' ∨ v + w ≤ n') : 1 + v.log2 + w.log2 + 3 * n.log2 ≤ 3 * n'.log2 + n.log2 + u1.log2 := by
  have a1 := lg_mono h1 hn
  have a2 := lg_mono h2 (by omega)
  have a3 := lg_mono v1 hv
  have a4 := lg_mono w1 hw
  by_cases c : n.log2 < n'.log2
  · omega
  · have e : n.log2 = n'.log2 := by omega
    rcases hs with hs | hs
    · have b : ¬ n'.log2 ≤ v.log2 := fun z => by
        have := lg_two hn hv hs (Nat.le_of_eq e.symm) z
        omega
      omega
    · have b : ¬ (n'.log2 ≤ v.log2 ∧ n'.log2 ≤ w.log2) := fun z => by
        have := lg_two hv hw hs z.1 z.2
        omega
      omega
theorem splay_cost : ∀ {c : Cz N} {A B : Tr N} {x : N}, (splayT A x B c).2.length + 2 * phiT (splayT A x B c).1 + 6 * (nf A x B).nms.length.log2 ≤ 6 * (plug (nf A x B) c).nms.length.log2 + 1 + 2 * phiT (plug (nf A x B) c)
  | [], A, B, x => by
    show 0 + 2 * phiT (nf A x B) + _ ≤ 6 * (nf A x B).nms.length.log2 + 1 + 2 * phiT (nf A x B)
    omega
  | [(true, u, s)], A, B, x => by
    show 1 + 2 * phiT (nf A x (nf B u s)) + 6 * (nf A x B).nms.length.log2 ≤ 6 * (nf (nf A x B) u s).nms.length.log2 + 1 + 2 * phiT (nf (nf A x B) u s)
    simp only [nf_phi, nf_len]
    have e : A.nms.length + (B.nms.length + s.nms.length + 1) + 1 = A.nms.length + B.nms.length + 1 + s.nms.length + 1 := by omega
    rw [e]
    have h1 := lg_mono (show B.nms.length + s.nms.length + 1 ≤ A.nms.length + B.nms.length + 1 + s.nms.length + 1 by omega) (by omega)
    have h2 := lg_mono (show A.nms.length + B.nms.length + 1 ≤ A.nms.length + B.nms.length + 1 + s.nms.length + 1 by omega) (by omega)
    omega
  | [(false, u, s)], A, B, x => by
    show 1 + 2 * phiT (nf (nf s u A) x B) + 6 * (nf A x B).nms.length.log2 ≤ 6 * (nf s u (nf A x B)).nms.length.log2 + 1 + 2 * phiT (nf s u (nf A x B))
    simp only [nf_phi, nf_len]
    have e : s.nms.length + A.nms.length + 1 + B.nms.length + 1 = s.nms.length + (A.nms.length + B.nms.length + 1) + 1 := by omega
    rw [e]
    have h1 := lg_mono (show s.nms.length + A.nms.length + 1 ≤ s.nms.length + (A.nms.length + B.nms.length + 1) + 1 by omega) (by omega)
    have h2 := lg_mono (show A.nms.length + B.nms.length + 1 ≤ s.nms.length + (A.nms.length + B.nms.length + 1) + 1 by omega) (by omega)
    omega
  | (true, u, s) :: (true, g, q) :: c, A, B, x => by
    have ih := splay_cost (c := c) (A := A) (B := nf B u (nf s g q)) (x := x)
    have el : (nf A x (nf B u (nf s g q))).nms.length = (nf (nf (nf A x B) u s) g q).nms.length := by simp only [nf_len]; omega
    have e1 : (plug (nf A x (nf B u (nf s g q))) c).nms.length = (plug (nf (nf (nf A x B) u s) g q) c).nms.length := by rw [plug_perm.length_eq, plug_perm.length_eq, List.length_append, List.length_append, el]
    rw [phi_plug, el, e1] at ih
    show (splayT A x (nf B u (nf s g q)) c).2.length + 1 + 1 + 2 * phiT (splayT A x (nf B u (nf s g q)) c).1 + _ ≤ 6 * (plug (nf (nf (nf A x B) u s) g q) c).nms.length.log2 + 1 + 2 * phiT (plug (nf (nf (nf A x B) u s) g q) c)
    rw [phi_plug]
    simp only [nf_phi, nf_len] at ih ⊢
    have k := two_cost (n := A.nms.length + B.nms.length + 1) (u1 := A.nms.length + B.nms.length + 1 + s.nms.length + 1) (v := s.nms.length + q.nms.length + 1) (w := B.nms.length + (s.nms.length + q.nms.length + 1) + 1) (n' := A.nms.length + B.nms.length + 1 + s.nms.length + 1 + q.nms.length + 1) (by omega) (by omega) (by omega) (by omega) (by omega) (by omega) (by omega) (.inl (by omega))
    have e2 : A.nms.length + (B.nms.length + (s.nms.length + q.nms.length + 1) + 1) + 1 = A.nms.length + B.nms.length + 1 + s.nms.length + 1 + q.nms.length + 1 := by omega
    rw [e2] at ih
    omega
  | (true, u, s) :: (false, g, q) :: c, A, B, x => by
    have ih := splay_cost (c := c) (A := nf q g A) (B := nf B u s) (x := x)
    have el : (nf (nf q g A) x (nf B u s)).nms.length = (nf q g (nf (nf A x B) u s)).nms.length := by simp only [nf_len]; omega
    have e1 : (plug (nf (nf q g A) x (nf B u s)) c).nms.length = (plug (nf q g (nf (nf A x B) u s)) c).nms.length := by rw [plug_perm.length_eq, plug_perm.length_eq, List.length_append, List.length_append, el]
    rw [phi_plug, el, e1] at ih
    show (splayT (nf q g A) x (nf B u s) c).2.length + 1 + 1 + 2 * phiT (splayT (nf q g A) x (nf B u s) c).1 + _ ≤ 6 * (plug (nf q g (nf (nf A x B) u s)) c).nms.length.log2 + 1 + 2 * phiT (plug (nf q g (nf (nf A x B) u s)) c)
    rw [phi_plug]
    simp only [nf_phi, nf_len] at ih ⊢
    have k := two_cost (n := A.nms.length + B.nms.length + 1) (u1 := A.nms.length + B.nms.length + 1 + s.nms.length + 1) (v := q.nms.length + A.nms.length + 1) (w := B.nms.length + s.nms.length + 1) (n' := q.nms.length + (A.nms.length + B.nms.length + 1 + s.nms.length + 1) + 1) (by omega) (by omega) (by omega) (by omega) (by omega) (by omega) (by omega) (.inr (by omega))
    have e2 : q.nms.length + A.nms.length + 1 + (B.nms.length + s.nms.length + 1) + 1 = q.nms.length + (A.nms.length + B.nms.length + 1 + s.nms.length + 1) + 1 := by omega
    rw [e2] at ih
    omega
  | (false, u, s) :: (true, g, q) :: c, A, B, x => by
    have ih := splay_cost (c := c) (A := nf s u A) (B := nf B g q) (x := x)
    have el : (nf (nf s u A) x (nf B g q)).nms.length = (nf (nf s u (nf A x B)) g q).nms.length := by simp only [nf_len]; omega
    have e1 : (plug (nf (nf s u A) x (nf B g q)) c).nms.length = (plug (nf (nf s u (nf A x B)) g q) c).nms.length := by rw [plug_perm.length_eq, plug_perm.length_eq, List.length_append, List.length_append, el]
    rw [phi_plug, el, e1] at ih
    show (splayT (nf s u A) x (nf B g q) c).2.length + 1 + 1 + 2 * phiT (splayT (nf s u A) x (nf B g q) c).1 + _ ≤ 6 * (plug (nf (nf s u (nf A x B)) g q) c).nms.length.log2 + 1 + 2 * phiT (plug (nf (nf s u (nf A x B)) g q) c)
    rw [phi_plug]
    simp only [nf_phi, nf_len] at ih ⊢
    have k := two_cost (n := A.nms.length + B.nms.length + 1) (u1 := s.nms.length + (A.nms.length + B.nms.length + 1) + 1) (v := s.nms.length + A.nms.length + 1) (w := B.nms.length + q.nms.length + 1) (n' := s.nms.length + (A.nms.length + B.nms.length + 1) + 1 + q.nms.length + 1) (by omega) (by omega) (by omega) (by omega) (by omega) (by omega) (by omega) (.inr (by omega))
    have e2 : s.nms.length + A.nms.length + 1 + (B.nms.length + q.nms.length + 1) + 1 = s.nms.length + (A.nms.length + B.nms.length + 1) + 1 + q.nms.length + 1 := by omega
    rw [e2] at ih
    omega
  | (false, u, s) :: (false, g, q) :: c, A, B, x => by
    have ih := splay_cost (c := c) (A := nf (nf q g s) u A) (B := B) (x := x)
    have el : (nf (nf (nf q g s) u A) x B).nms.length = (nf q g (nf s u (nf A x B))).nms.length := by simp only [nf_len]; omega
    have e1 : (plug (nf (nf (nf q g s) u A) x B) c).nms.length = (plug (nf q g (nf s u (nf A x B))) c).nms.length := by rw [plug_perm.length_eq, plug_perm.length_eq, List.length_append, List.length_append, el]
    rw [phi_plug, el, e1] at ih
    show (splayT (nf (nf q g s) u A) x B c).2.length + 1 + 1 + 2 * phiT (splayT (nf (nf q g s) u A) x B c).1 + _ ≤ 6 * (plug (nf q g (nf s u (nf A x B))) c).nms.length.log2 + 1 + 2 * phiT (plug (nf q g (nf s u (nf A x B))) c)
    rw [phi_plug]
    simp only [nf_phi, nf_len] at ih ⊢
    have k := two_cost (n := A.nms.length + B.nms.length + 1) (u1 := s.nms.length + (A.nms.length + B.nms.length + 1) + 1) (v := q.nms.length + s.nms.length + 1) (w := q.nms.length + s.nms.length + 1 + A.nms.length + 1) (n' := q.nms.length + (s.nms.length + (A.nms.length + B.nms.length + 1) + 1) + 1) (by omega) (by omega) (by omega) (by omega) (by omega) (by omega) (by omega) (.inl (by omega))
    have e2 : q.nms.length + s.nms.length + 1 + A.nms.length + 1 + B.nms.length + 1 = q.nms.length + (s.nms.length + (A.nms.length + B.nms.length + 1) + 1) + 1 := by omega
    rw [e2] at ih
    omega
theorem wtT_plug {A B : Tr N} {x : N} : ∀ {c : Cz N} {t : Tr N}, (plug t c).nms.Nodup → x ∈ t.nms → wtT (plug t c) x = wtT t x
  | [], t, _, _ => rfl
  | (true, u, s) :: c, t, nd, m => by
    obtain ⟨n1, n2, n3⟩ := nd_ctx nd
    obtain ⟨m1, m2, m3⟩ := n3 x m
    show wtT (plug (.nd false t u s) c) x = _
    rw [wtT_plug (A := A) (B := B) (t := .nd false t u s) nd (List.mem_append_left _ m)]
    show (if x = u then _ else wtT t x + wtT s x) = _
    rw [if_neg m1, wtT_out m2, Nat.add_zero]
  | (false, u, s) :: c, t, nd, m => by
    obtain ⟨n1, n2, n3⟩ := nd_ctx nd
    obtain ⟨m1, m2, m3⟩ := n3 x m
    show wtT (plug (.nd false s u t) c) x = _
    rw [wtT_plug (A := A) (B := B) (t := .nd false s u t) nd (List.mem_append_right _ (List.mem_cons_of_mem _ m))]
    show (if x = u then _ else wtT s x + wtT t x) = _
    rw [if_neg m1, wtT_out m2, Nat.zero_add]
theorem wtT_root {A B : Tr N} {x : N} {c : Cz N} (nd : (plug (nf A x B) c).nms.Nodup) : wtT (plug (nf A x B) c) x = (nf A x B).nms.length := by
  rw [wtT_plug (A := A) (B := B) nd (List.mem_append_right _ List.mem_cons_self), nf_len]
  exact if_pos rfl
theorem perm_sum {xs ys : List Nat} (h : xs.Perm ys) : xs.sum = ys.sum := by
  induction h with
  | nil => rfl
  | cons x _ ih => rw [List.sum_cons, List.sum_cons, ih]
  | swap x y l =>
    rw [List.sum_cons, List.sum_cons, List.sum_cons, List.sum_cons]
    omega
  | trans _ _ h1 h2 => exact h1.trans h2
/-- how often each name stands above one of some -/
def Lk.cw (S : Lk N) (k : Nat) (ss : List N) (y : N) : Nat := (ss.map fun s => ((S.ups k (some s)).getD []).count y).sum
theorem cw_tree {S : Lk N} {T : Tr N} (h : Rep S none T) (nd : T.nms.Nodup) {ss : List N} (pm : ss.Perm T.nms) {k : Nat} (hk : T.nms.length ≤ k) (y : N) : S.cw k ss y = wtT T y := by
  rw [← wt_count y nd]
  unfold Lk.cw
  rw [perm_sum (pm.map _)]
  refine sum_congr fun s m => ?_
  have e := pth_ups (k := 0) (xs := []) h m rfl
  rw [Lk.ups_le e (by omega), List.append_nil]
  rfl
theorem ups_tree {S : Lk N} {T : Tr N} (h : Rep S none T) {s : N} (m : s ∈ T.nms) {k : Nat} (hk : T.nms.length ≤ k) : S.ups k (some s) = some (pth T s) := by
  have e := pth_ups (k := 0) (xs := []) h m rfl
  rw [Lk.ups_le e (by omega), List.append_nil]
end

/-! ### links in the heap: dicts of names -/
def dN (ns : List Int) (f : Int → V) : List (Key × V) := ns.map fun x => (Sum.inl x, f x)
theorem dN_none {f : Int → V} {x : Int} : ∀ {ns : List Int}, x ∉ ns → valV (dN ns f) (Sum.inl x) = none
  | [], _ => rfl
  | y :: r, h => by
    have ne : ¬ (Sum.inl y : Key) = Sum.inl x := fun e => h (by rw [Sum.inl.inj e]; exact List.mem_cons_self)
    show valV ((Sum.inl y, f y) :: dN r f) (Sum.inl x) = none
    rw [valV_neg ne]
    exact dN_none fun z => h (List.mem_cons_of_mem _ z)
theorem dN_get {f : Int → V} {x : Int} : ∀ {ns : List Int}, x ∈ ns → valV (dN ns f) (Sum.inl x) = some (f x)
  | y :: r, h => by
    by_cases e : y = x
    · subst e
      exact valV_pos (p := (Sum.inl y, f y)) rfl
    · have ne : ¬ (Sum.inl y : Key) = Sum.inl x := fun z => e (Sum.inl.inj z)
      show valV ((Sum.inl y, f y) :: dN r f) (Sum.inl x) = _
      rw [valV_neg ne]
      exact dN_get ((List.mem_cons.mp h).resolve_left fun z => e z.symm)
theorem dN_congr {f g : Int → V} {ns : List Int} (h : ∀ x ∈ ns, f x = g x) : dN ns f = dN ns g := List.map_congr_left fun x m => by rw [h x m]
theorem dN_put {f : Int → V} {ns : List Int} {x : Int} {v : V} (m : x ∈ ns) : putK (dN ns f) (Sum.inl x) v = dN ns (up1 f x v) := by
  unfold putK
  rw [valV_any, dN_get m, if_pos (show (some (f x)).isSome = true from rfl)]
  unfold dN
  rw [List.map_map]
  refine List.map_congr_left fun y _ => ?_
  show (if (Sum.inl y : Key) = Sum.inl x then ((Sum.inl y : Key), v) else (Sum.inl y, f y)) = (Sum.inl y, up1 f x v y)
  by_cases e : y = x
  · subst e
    rw [if_pos rfl, up1_same]
  · rw [if_neg fun z => e (Sum.inl.inj z), up1_ne e]
theorem dN_new {f : Int → V} {ns : List Int} {x : Int} {v : V} (m : x ∉ ns) : putK (dN ns f) (Sum.inl x) v = dN (ns ++ [x]) (up1 f x v) := by
  unfold putK
  rw [valV_any, dN_none m, if_neg (by decide)]
  unfold dN
  rw [List.map_append]
  congr 1
  · exact List.map_congr_left fun y my => by rw [up1_ne fun (e : y = x) => m (e ▸ my)]
  · show [((Sum.inl x : Key), v)] = [((Sum.inl x : Key), up1 f x v x)]
    rw [up1_same]
theorem dN_len {f : Int → V} {ns : List Int} : (dN ns f).length = ns.length := List.length_map ..
def onV : Option Int → V
  | none => .non
  | some i => .int i
theorem up1_on (f : Int → Option Int) (x : Int) (y : Option Int) : up1 (fun z => onV (f z)) x (onV y) = fun z => onV (up1 f x y z) := by
  funext z
  unfold up1
  split <;> rfl
theorem up1_bl (f : Int → Bool) (x : Int) (y : Bool) : up1 (fun z => V.bl (f z)) x (.bl y) = fun z => V.bl (up1 f x y z) := by
  funext z
  unfold up1
  split <;> rfl
theorem onV_inj {x y : Option Int} (h : onV x = onV y) : x = y := by
  cases x <;> cases y <;> first | rfl | (cases h; rfl) | exact nomatch h
theorem onV_eq {x y : Option Int} : decide (onV x = onV y) = decide (x = y) := by
  by_cases e : x = y
  · rw [e, decide_eq_true rfl, decide_eq_true rfl]
  · rw [decide_eq_false e, decide_eq_false fun z => e (onV_inj z)]
theorem onV_int {x : Option Int} {i : Int} : decide (onV x = .int i) = decide (x = some i) := onV_eq (y := some i)
theorem onV_non {x : Option Int} : decide (onV x = .non) = decide (x = none) := onV_eq (y := none)
theorem onV_scal {x y : Option Int} : scal (onV x) (onV y) = true := by cases x <;> cases y <;> rfl
theorem onV_flat {x : Option Int} : flatV (onV x) = true := by cases x <;> rfl
/-! ### fields -/
theorem putF_putF (f : Str) (u v : V) : ∀ fs : List (Str × V), putF f v (putF f u fs) = putF f v fs
  | [] => by
    show (if f = f then [(f, v)] else _) = [(f, v)]
    rw [if_pos rfl]
  | (g, x) :: r => by
    by_cases e : g = f
    · subst e
      show putF g v (if g = g then (g, u) :: r else (g, x) :: putF g u r) = if g = g then (g, v) :: r else (g, x) :: putF g v r
      rw [if_pos rfl, if_pos rfl]
      show (if g = g then (g, v) :: r else _) = _
      rw [if_pos rfl]
    · show putF f v (if g = f then (g, u) :: r else (g, x) :: putF f u r) = if g = f then (g, v) :: r else (g, x) :: putF f v r
      rw [if_neg e, if_neg e]
      show (if g = f then _ else (g, x) :: putF f v (putF f u r)) = _
      rw [if_neg e, putF_putF f u v r]
theorem putF_len (f : Str) (v : V) : ∀ fs : List (Str × V), (putF f v fs).length ≤ fs.length + 1
  | [] => Nat.le_refl _
  | (g, x) :: r => by
    have ih := putF_len f v r
    show (if g = f then (g, v) :: r else (g, x) :: putF f v r).length ≤ r.length + 1 + 1
    split
    · rw [List.length_cons]
      omega
    · rw [List.length_cons]
      omega
theorem lnE (f g : Str) (h : decide (f = g) = false) : ¬ f = g := fun e => by
  rw [decide_eq_true e] at h
  exact nomatch h

end My
namespace My
open PySem L2
/-! ### strands: names linked, none above itself -/
structure Wf (S : Lk Int) : Prop where
  cl : Cl S
  dl : ∀ x ∈ S.ns, ∀ y, S.l x = some y → S.a y = some x
  dr : ∀ x ∈ S.ns, ∀ y, S.r x = some y → S.a y = some x
  lr : ∀ x ∈ S.ns, ∀ y, S.l x = some y → S.r x ≠ some y
  rk : ∃ d : Int → Int, ∀ x ∈ S.ns, ∀ u, S.a x = some u → d u < d x
theorem top_not {S : Lk Int} {x : Int} (h : S.isTop x = false) : ∃ u, S.a x = some u ∧ (S.l u = some x ∨ S.r u = some x) := by
  unfold Lk.isTop at h
  cases e : S.a x with
  | none =>
    rw [e] at h
    exact nomatch h
  | some u =>
    rw [e] at h
    refine ⟨u, rfl, ?_⟩
    have h : (!(decide (S.l u = some x) || decide (S.r u = some x))) = false := h
    rw [Bool.not_eq_false'] at h
    rcases Bool.or_eq_true_iff.mp h with h | h
    · exact .inl (of_decide_eq_true h)
    · exact .inr (of_decide_eq_true h)
theorem top_is {S : Lk Int} {x u : Int} (h : S.isTop x = true) (e : S.a x = some u) : S.l u ≠ some x ∧ S.r u ≠ some x := by
  unfold Lk.isTop at h
  rw [e] at h
  have h : (!(decide (S.l u = some x) || decide (S.r u = some x))) = true := h
  simpa using h
theorem Wf.tidy {S : Lk Int} (h : Wf S) {x u : Int} (m : x ∈ S.ns) (nt : S.isTop x = false) (e : S.a x = some u) : Tidy S x u := by
  obtain ⟨u', e', one⟩ := top_not nt
  rw [e] at e'
  cases e'
  have mu := (h.cl x m).2.2 u e
  obtain ⟨d, hd⟩ := h.rk
  have d1 := hd x m u e
  refine ⟨e, one, fun z => h.lr u mu x z.1 z.2, fun g eg => ?_, fun z => ?_, fun z => ?_, fun z => ?_⟩
  · have mg := (h.cl u mu).2.2 g eg
    have d2 := hd u mu g eg
    exact ⟨fun z => by rw [z] at d2; omega, fun z => by rw [z] at d2; omega, fun z => h.lr g mg u z.1 z.2⟩
  · have := hd u mu x (h.dl x m u z)
    omega
  · have := hd u mu x (h.dr x m u z)
    omega
  · rw [z] at d1
    omega
theorem turnW {ns : List Int} {l r a l' r' a' : Int → Option Int} {x u : Int} {d : Int → Int} (mx : x ∈ ns) (mu : u ∈ ns)
    (dl : ∀ y ∈ ns, ∀ z, l y = some z → a z = some y) (dr : ∀ y ∈ ns, ∀ z, r y = some z → a z = some y) (lr : ∀ y ∈ ns, ∀ z, l y = some z → r y ≠ some z)
    (inl : ∀ y ∈ ns, ∀ z, l y = some z → z ∈ ns) (inr : ∀ y ∈ ns, ∀ z, r y = some z → z ∈ ns)
    (rk : ∀ y ∈ ns, ∀ z, a y = some z → d z < d y) (ax : a x = some u) (lu : l u = some x)
    (hl : ∀ y, l' y = if y = u then r x else if a u = some y ∧ l y = some u then some x else l y)
    (hr : ∀ y, r' y = if y = x then some u else if a u = some y ∧ r y = some u then some x else r y)
    (ha : ∀ y, a' y = if y = x then a u else if y = u then some x else if r x = some y then some u else a y) :
    (∀ y ∈ ns, ∀ z, l' y = some z → a' z = some y) ∧ (∀ y ∈ ns, ∀ z, r' y = some z → a' z = some y) ∧ (∀ y ∈ ns, ∀ z, l' y = some z → r' y ≠ some z) ∧
      ∀ y ∈ ns, ∀ z, a' y = some z → (if z = x then 2 * d u - 1 else 2 * d z) < (if y = x then 2 * d u - 1 else 2 * d y) := by
  have f1 := rk x mx u ax
  have xu : x ≠ u := fun z => by rw [z] at f1; omega
  have f2 : ∀ g, a u = some g → d g < d u ∧ g ≠ u ∧ g ≠ x := fun g e => by
    have := rk u mu g e
    exact ⟨this, fun z => by rw [z] at this; omega, fun z => by rw [z] at this; omega⟩
  have f3 : ∀ i, r x = some i → a i = some x ∧ d x < d i ∧ i ≠ x ∧ i ≠ u := fun i e => by
    have h1 := dr x mx i e
    have h2 := rk i (inr x mx i e) x h1
    exact ⟨h1, h2, fun z => by rw [z] at h2; omega, fun z => by rw [z] at h2; omega⟩
  have aX : a' x = a u := by rw [ha, if_pos rfl]
  have aU : a' u = some x := by rw [ha, if_neg (Ne.symm xu), if_pos rfl]
  have aO : ∀ {z}, z ≠ x → z ≠ u → r x ≠ some z → a' z = a z := fun {z} h1 h2 h3 => by rw [ha, if_neg h1, if_neg h2, if_neg h3]
  refine ⟨fun y my z e => ?_, fun y my z e => ?_, fun y my z e e2 => ?_, fun y my z e => ?_⟩
  · rw [hl] at e
    split at e
    · rename_i c
      obtain ⟨g1, g2, g3, g4⟩ := f3 z e
      rw [ha, if_neg g3, if_neg g4, if_pos e, c]
    · rename_i c
      split at e
      · rename_i c2
        rw [← Option.some.inj e, aX]
        exact c2.1
      · rename_i c2
        have az := dl y my z e
        rw [aO (fun zx => ?_) (fun zu => ?_) (fun zi => ?_)]
        · exact az
        · rw [zx, ax] at az
          exact c (Option.some.inj az).symm
        · rw [zu] at az e
          exact c2 ⟨az, e⟩
        · have g1 := (f3 z zi).1
          rw [g1] at az
          cases az
          exact lr x mx z e zi
  · rw [hr] at e
    split at e
    · rename_i c
      rw [← Option.some.inj e, aU, c]
    · rename_i c
      split at e
      · rename_i c2
        rw [← Option.some.inj e, aX]
        exact c2.1
      · rename_i c2
        have az := dr y my z e
        rw [aO (fun zx => ?_) (fun zu => ?_) (fun zi => ?_)]
        · exact az
        · rw [zx, ax] at az
          cases az
          rw [zx] at e
          exact lr u mu x lu e
        · rw [zu] at az e
          exact c2 ⟨az, e⟩
        · have g1 := (f3 z zi).1
          rw [g1] at az
          cases az
          exact c rfl
  · rw [hl] at e
    rw [hr] at e2
    split at e
    · rename_i c
      have g1 := (f3 z e).1
      rw [if_neg (fun h => xu (h.symm.trans c))] at e2
      split at e2
      · rename_i c2
        exact (f2 y c2.1).2.1 c
      · have az := dr y my z e2
        rw [g1] at az
        exact xu ((Option.some.inj az).trans c)
    · rename_i c
      split at e
      · rename_i c2
        have zx := (Option.some.inj e).symm
        subst zx
        rw [if_neg (f2 y c2.1).2.2] at e2
        split at e2
        · rename_i c3
          exact lr y my u c2.2 c3.2
        · have az := dr y my z e2
          rw [ax] at az
          exact c (Option.some.inj az).symm
      · rename_i c2
        split at e2
        · rename_i c3
          have zu := (Option.some.inj e2).symm
          subst zu
          rw [c3] at e
          have az := dl x mx z e
          have := rk z mu x az
          omega
        · split at e2
          · rename_i c4 c3
            have zx := (Option.some.inj e2).symm
            subst zx
            have az := dl y my z e
            rw [ax] at az
            exact c (Option.some.inj az).symm
          · exact lr y my z e e2
  · rw [ha] at e
    split at e
    · rename_i c
      obtain ⟨g1, g2, g3⟩ := f2 z e
      rw [if_neg g3, if_pos c]
      omega
    · rename_i c
      rw [if_neg c]
      split at e
      · rename_i c2
        rw [if_pos (Option.some.inj e).symm, c2]
        omega
      · split at e
        · rename_i c3
          have g := f3 y c3
          have zu := (Option.some.inj e).symm
          rw [zu, if_neg (Ne.symm xu)]
          omega
        · have g := rk y my z e
          split
          · rename_i c5
            rw [c5] at g
            omega
          · omega
theorem turn_at {S : Lk Int} {x u : Int} (t : Tidy S x u) (hi : S.l x ≠ some x ∧ S.r x ≠ some x) :
    (S.r u ≠ some x → (∀ y, (S.turn x).l y = if y = u then S.r x else if S.a u = some y ∧ S.l y = some u then some x else S.l y) ∧ (∀ y, (S.turn x).r y = if y = x then some u else if S.a u = some y ∧ S.r y = some u then some x else S.r y) ∧ ∀ y, (S.turn x).a y = if y = x then S.a u else if y = u then some x else if S.r x = some y then some u else S.a y) ∧
    (S.r u = some x → (∀ y, (S.turn x).r y = if y = u then S.l x else if S.a u = some y ∧ S.r y = some u then some x else S.r y) ∧ (∀ y, (S.turn x).l y = if y = x then some u else if S.a u = some y ∧ S.l y = some u then some x else S.l y) ∧ ∀ y, (S.turn x).a y = if y = x then S.a u else if y = u then some x else if S.l x = some y then some u else S.a y) := by
  obtain ⟨h1, h2, h3, _⟩ := lturn_eq t
  have xu := t.ne
  have L0 : ∀ y, (S.plc x u).l y = if S.a u = some y ∧ S.l y = some u then some x else S.l y := fun y => by
    unfold Lk.plc
    dsimp only
    cases e : S.a u with
    | none => rw [if_neg fun h => nomatch h.1]
    | some g =>
      dsimp only
      have tg := (t.up g e).2.2
      by_cases c1 : S.r g = some u
      · rw [if_pos c1, if_neg fun h => tg ⟨by rw [Option.some.inj h.1]; exact h.2, c1⟩]
      · rw [if_neg c1]
        by_cases c2 : S.l g = some u
        · rw [if_pos c2]
          by_cases c3 : y = g
          · rw [c3, up1_same, if_pos ⟨rfl, c2⟩]
          · rw [up1_ne c3, if_neg fun h => c3 (Option.some.inj h.1).symm]
        · rw [if_neg c2, if_neg fun h => c2 (by rw [Option.some.inj h.1]; exact h.2)]
  have R0 : ∀ y, (S.plc x u).r y = if S.a u = some y ∧ S.r y = some u then some x else S.r y := fun y => by
    unfold Lk.plc
    dsimp only
    cases e : S.a u with
    | none => rw [if_neg fun h => nomatch h.1]
    | some g =>
      dsimp only
      by_cases c2 : S.r g = some u
      · rw [if_pos c2]
        by_cases c3 : y = g
        · rw [c3, up1_same, if_pos ⟨rfl, c2⟩]
        · rw [up1_ne c3, if_neg fun h => c3 (Option.some.inj h.1).symm]
      · rw [if_neg c2, if_neg fun h => c2 (by rw [Option.some.inj h.1]; exact h.2)]
  have A0 : ∀ (i : Option Int), i ≠ some u → i ≠ some x → ∀ y, upO (up1 (up1 S.a x (S.a u)) u (some x)) i (some u) y = if y = x then S.a u else if y = u then some x else if i = some y then some u else S.a y := fun i iu ix y => by
    by_cases c1 : y = x
    · rw [if_pos c1, c1, upO_ne (Ne.symm ix), up1_ne xu, up1_same]
    · rw [if_neg c1]
      by_cases c2 : y = u
      · rw [if_pos c2, c2, upO_ne (Ne.symm iu), up1_same]
      · rw [if_neg c2]
        by_cases c3 : i = some y
        · rw [if_pos c3, c3, upO_same]
        · rw [if_neg c3, upO_ne (Ne.symm c3), up1_ne c2, up1_ne c1]
  unfold Lk.lturn at h1 h2 h3
  rw [t.ax] at h1 h2 h3
  dsimp only at h1 h2 h3
  refine ⟨fun c => ?_, fun c => ?_⟩
  · rw [decide_eq_false c] at h1 h2 h3
    refine ⟨fun y => ?_, fun y => ?_, fun y => ?_⟩
    · rw [← h1]
      show up1 _ u (S.r x) y = _
      by_cases e : y = u
      · rw [e, up1_same, if_pos rfl]
      · rw [up1_ne e, if_neg e]
        exact L0 y
    · rw [← h2]
      show up1 _ x (some u) y = _
      by_cases e : y = x
      · rw [e, up1_same, if_pos rfl]
      · rw [up1_ne e, if_neg e]
        exact R0 y
    · rw [← h3]
      exact A0 _ t.rx hi.2 y
  · rw [decide_eq_true c] at h1 h2 h3
    refine ⟨fun y => ?_, fun y => ?_, fun y => ?_⟩
    · rw [← h2]
      show up1 _ u (S.l x) y = _
      by_cases e : y = u
      · rw [e, up1_same, if_pos rfl]
      · rw [up1_ne e, if_neg e]
        exact R0 y
    · rw [← h1]
      show up1 _ x (some u) y = _
      by_cases e : y = x
      · rw [e, up1_same, if_pos rfl]
      · rw [up1_ne e, if_neg e]
        exact L0 y
    · rw [← h3]
      exact A0 _ t.lx hi.1 y
theorem Wf.turn {S : Lk Int} (h : Wf S) {x u : Int} (m : x ∈ S.ns) (nt : S.isTop x = false) (e : S.a x = some u) : Wf (S.turn x) := by
  have t := h.tidy m nt e
  obtain ⟨_, _, _, _, en, _⟩ := lturn_eq t
  have mu := (h.cl x m).2.2 u e
  obtain ⟨d, hd⟩ := h.rk
  have inl : ∀ y ∈ S.ns, ∀ z, S.l y = some z → z ∈ S.ns := fun y my => (h.cl y my).1
  have inr : ∀ y ∈ S.ns, ∀ z, S.r y = some z → z ∈ S.ns := fun y my => (h.cl y my).2.1
  have hi : S.l x ≠ some x ∧ S.r x ≠ some x := ⟨fun z => by have := hd x m x (h.dl x m x z); omega, fun z => by have := hd x m x (h.dr x m x z); omega⟩
  have rl : ∀ y ∈ S.ns, ∀ z, S.r y = some z → S.l y ≠ some z := fun y my z e1 e2 => h.lr y my z e2 e1
  obtain ⟨tA, tB⟩ := turn_at t hi
  by_cases c : S.r u = some x
  · obtain ⟨g1, g2, g3⟩ := tB c
    obtain ⟨k1, k2, k3, k4⟩ := turnW m mu h.dr h.dl rl inr inl hd e c g1 g2 g3
    exact ⟨(cl_turn h.cl m e).1, by rw [en]; exact k2, by rw [en]; exact k1, by rw [en]; exact fun y my z e1 e2 => k3 y my z e2 e1, _, by rw [en]; exact k4⟩
  · obtain ⟨g1, g2, g3⟩ := tA c
    obtain ⟨k1, k2, k3, k4⟩ := turnW m mu h.dl h.dr h.lr inl inr hd e (t.one.resolve_right c) g1 g2 g3
    exact ⟨(cl_turn h.cl m e).1, by rw [en]; exact k1, by rw [en]; exact k2, by rw [en]; exact k3, _, by rw [en]; exact k4⟩
def Lk.letGo (S : Lk Int) (x : Int) : Lk Int := { S with lk := S.lk + 1, r := up1 S.r x none }
def Lk.hang (S : Lk Int) (x : Int) : Lk Int := match S.a x with | none => S | some u => { S with r := up1 S.r u (some x) }
theorem Wf.letGo {S : Lk Int} (h : Wf S) {x : Int} : Wf (S.letGo x) := by
  have rr : ∀ y z, (S.letGo x).r y = some z → S.r y = some z := fun y z e => by
    have e : up1 S.r x none y = some z := e
    by_cases c : y = x
    · rw [c, up1_same] at e
      exact nomatch e
    · rw [up1_ne c] at e
      exact e
  exact ⟨fun y my => ⟨(h.cl y my).1, fun z e => (h.cl y my).2.1 z (rr y z e), (h.cl y my).2.2⟩, h.dl, fun y my z e => h.dr y my z (rr y z e), fun y my z e e2 => h.lr y my z e (rr y z e2), h.rk⟩
theorem Wf.hang {S : Lk Int} (h : Wf S) {x u : Int} (m : x ∈ S.ns) (e : S.a x = some u) (tp : S.isTop x = true) : Wf (S.hang x) := by
  have es : S.hang x = { S with r := up1 S.r u (some x) } := by
    unfold Lk.hang
    rw [e]
  rw [es]
  have rr : ∀ y z, up1 S.r u (some x) y = some z → (y = u ∧ z = x) ∨ S.r y = some z := fun y z e => by
    by_cases c : y = u
    · rw [c, up1_same] at e
      exact .inl ⟨c, (Option.some.inj e).symm⟩
    · rw [up1_ne c] at e
      exact .inr e
  refine ⟨fun y my => ⟨(h.cl y my).1, fun z e2 => ?_, (h.cl y my).2.2⟩, h.dl, fun y my z e2 => ?_, fun y my z e1 e2 => ?_, h.rk⟩
  · rcases rr y z e2 with ⟨_, rfl⟩ | e3
    · exact m
    · exact (h.cl y my).2.1 z e3
  · rcases rr y z e2 with ⟨rfl, rfl⟩ | e3
    · exact e
    · exact h.dr y my z e3
  · rcases rr y z e2 with ⟨rfl, rfl⟩ | e3
    · exact (top_is tp e).1 e1
    · exact h.lr y my z e1 e3
/-! ### steps -/
def canS (S : Lk Int) (w : Str) (x : Int) : Bool := if w = "turn" then !S.isTop x else if w = "let" then S.isTop x else match S.a x with | none => false | some u => S.isTop x && (S.isTop u && decide (S.r u = none))
def doS (S : Lk Int) (w : Str) (x : Int) : Lk Int := if w = "turn" then S.turn x else if w = "let" then S.letGo x else S.hang x
def runS : Lk Int → List (Str × Int) → Option (Lk Int)
  | S, [] => some S
  | S, (w, x) :: r => if canS S w x then runS (doS S w x) r else none
theorem runS_snoc {w : Str} {x : Int} : ∀ {xs : List (Str × Int)} {S S' : Lk Int}, runS S xs = some S' → runS S (xs ++ [(w, x)]) = if canS S' w x then some (doS S' w x) else none
  | [], S, S', e => by
    cases e
    show (if canS S w x then runS (doS S w x) [] else none) = _
    rfl
  | (v, y) :: r, S, S', e => by
    have e : (if canS S v y then runS (doS S v y) r else none) = some S' := e
    show (if canS S v y then runS (doS S v y) (r ++ [(w, x)]) else none) = _
    split at e
    · rename_i c
      rw [if_pos c]
      exact runS_snoc e
    · exact nomatch e
theorem do_ok {S : Lk Int} (h : Wf S) {w : Str} {x : Int} (m : x ∈ S.ns) (c : canS S w x = true) : Wf (doS S w x) ∧ (doS S w x).ns = S.ns ∧ (doS S w x).t = S.t := by
  unfold canS at c
  unfold doS
  split at c
  · rename_i c1
    rw [if_pos c1]
    have nt : S.isTop x = false := by simpa using c
    obtain ⟨u, e, _⟩ := top_not nt
    obtain ⟨_, _, _, h4, h5, _⟩ := lturn_eq (h.tidy m nt e)
    exact ⟨h.turn m nt e, h5, h4⟩
  · rename_i c1
    rw [if_neg c1]
    split at c
    · rename_i c2
      rw [if_pos c2]
      exact ⟨h.letGo, rfl, rfl⟩
    · rename_i c2
      rw [if_neg c2]
      cases e : S.a x with
      | none =>
        rw [e] at c
        exact nomatch c
      | some u =>
        rw [e] at c
        have c : (S.isTop x && (S.isTop u && decide (S.r u = none))) = true := c
        rw [Bool.and_eq_true] at c
        refine ⟨h.hang m e c.1, ?_, ?_⟩
        · unfold Lk.hang
          rw [e]
        · unfold Lk.hang
          rw [e]

end My
namespace My
open PySem L2

/-! ### the text by places -/
def topS (i : Nat) : Stmt := PySem.Challenge.pw_tiedcut_k40_things_that_are_no_steps.main.body.getD i (.Pass ⟨0, 0, 0, 0⟩)
abbrev s_iswhole : Stmt := topS 2
abbrev s_linksof : Stmt := topS 5
abbrev s_ismark : Stmt := topS 7
abbrev s_isname : Stmt := topS 8
abbrev s_stepped : Stmt := topS 10
abbrev s_isstep : Stmt := topS 11
abbrev s_canstep : Stmt := topS 12
abbrev s_canhang : Stmt := topS 13
abbrev s_takestep : Stmt := topS 14
abbrev s_Lpot : Stmt := topS 16
abbrev s_Ltake : Stmt := topS 17
abbrev s_Lseed : Stmt := topS 18
abbrev s_Ltop : Stmt := topS 19
abbrev s_Ltree : Stmt := topS 20
abbrev s_Lforms : Stmt := topS 21
abbrev s_Lturned : Stmt := topS 22
abbrev s_Lcan : Stmt := topS 23
abbrev s_Ldone : Stmt := topS 24
abbrev s_Lrows : Stmt := topS 25
abbrev s_Lodd : Stmt := topS 26
abbrev s_law : Stmt := topS 27
theorem sc_iswhole : FnScope ["thing"] ["thing"] (defScope s_iswhole) := ⟨rfl, rfl, rfl, by decide +kernel, rfl, by decide +kernel, by decide +kernel⟩
theorem sc_linksof : FnScope ["shape", "links"] ["shape"] (defScope s_linksof) := ⟨rfl, rfl, rfl, by decide +kernel, rfl, by decide +kernel, by decide +kernel⟩
theorem sc_ismark : FnScope ["thing", "number"] ["thing"] (defScope s_ismark) := ⟨rfl, rfl, rfl, by decide +kernel, rfl, by decide +kernel, by decide +kernel⟩
theorem sc_isname : FnScope ["thing"] ["thing"] (defScope s_isname) := ⟨rfl, rfl, rfl, by decide +kernel, rfl, by decide +kernel, by decide +kernel⟩
theorem sc_stepped : FnScope ["shape", "steps", "links", "step"] ["shape", "steps"] (defScope s_stepped) := ⟨rfl, rfl, rfl, by decide +kernel, rfl, by decide +kernel, by decide +kernel⟩
theorem sc_isstep : FnScope ["links", "thing"] ["links", "thing"] (defScope s_isstep) := ⟨rfl, rfl, rfl, by decide +kernel, rfl, by decide +kernel, by decide +kernel⟩
theorem sc_canstep : FnScope ["links", "word", "x"] ["links", "word", "x"] (defScope s_canstep) := ⟨rfl, rfl, rfl, by decide +kernel, rfl, by decide +kernel, by decide +kernel⟩
theorem sc_canhang : FnScope ["links", "x", "u"] ["links", "x"] (defScope s_canhang) := ⟨rfl, rfl, rfl, by decide +kernel, rfl, by decide +kernel, by decide +kernel⟩
theorem sc_takestep : FnScope ["links", "word", "x"] ["links", "word", "x"] (defScope s_takestep) := ⟨rfl, rfl, rfl, by decide +kernel, rfl, by decide +kernel, by decide +kernel⟩
theorem sc_Lpot : FnScope ["_law_cell", "_law_seed_here", "_law_number"] ["_law_cell", "_law_seed_here"] (defScope s_Lpot) := ⟨rfl, rfl, rfl, by decide +kernel, rfl, by decide +kernel, by decide +kernel⟩
theorem sc_Ltake : FnScope ["_law_pot_here", "_law_many", "_law_value", "_law_twice"] ["_law_pot_here", "_law_many"] (defScope s_Ltake) := ⟨rfl, rfl, rfl, by decide +kernel, rfl, by decide +kernel, by decide +kernel⟩
theorem sc_Lseed : FnScope ["_law_script", "_law_seed_here", "_law_cell"] ["_law_script"] (defScope s_Lseed) := ⟨rfl, rfl, rfl, by decide +kernel, rfl, by decide +kernel, by decide +kernel⟩
theorem sc_Ltop : FnScope ["_law_forms_here", "_law_x"] ["_law_forms_here", "_law_x"] (defScope s_Ltop) := ⟨rfl, rfl, rfl, by decide +kernel, rfl, by decide +kernel, by decide +kernel⟩
theorem sc_Ltree : FnScope ["_law_pot_here", "_law_forms_here", "_law_names", "_law_at", "_law_top_here", "_law_one"] ["_law_pot_here", "_law_forms_here", "_law_names"] (defScope s_Ltree) := ⟨rfl, rfl, rfl, by decide +kernel, rfl, by decide +kernel, by decide +kernel⟩
theorem sc_Lforms : FnScope ["_law_pot_here", "_law_most", "_law_many", "_law_names", "_law_k", "_law_at", "_law_forms_here", "_law_size", "_law_top_here"] ["_law_pot_here", "_law_most"] (defScope s_Lforms) := ⟨rfl, rfl, rfl, by decide +kernel, rfl, by decide +kernel, by decide +kernel⟩
theorem sc_Lturned : FnScope ["_law_forms_here", "_law_x", "_law_u", "_law_g", "_law_side", "_law_inner"] ["_law_forms_here", "_law_x"] (defScope s_Lturned) := ⟨rfl, rfl, rfl, by decide +kernel, rfl, by decide +kernel, by decide +kernel⟩
theorem sc_Lcan : FnScope ["_law_forms_here", "_law_step", "_law_word", "_law_x", "_law_u"] ["_law_forms_here", "_law_step"] (defScope s_Lcan) := ⟨rfl, rfl, rfl, by decide +kernel, rfl, by decide +kernel, by decide +kernel⟩
theorem sc_Ldone : FnScope ["_law_forms_here", "_law_step", "_law_word", "_law_x"] ["_law_forms_here", "_law_step"] (defScope s_Ldone) := ⟨rfl, rfl, rfl, by decide +kernel, rfl, by decide +kernel, by decide +kernel⟩
theorem sc_Lrows : FnScope ["_law_forms_here", "_law_name"] ["_law_forms_here"] (defScope s_Lrows) := ⟨rfl, rfl, rfl, by decide +kernel, rfl, by decide +kernel, by decide +kernel⟩
theorem sc_Lodd : FnScope ["_law_pot_here", "_law_step", "_law_many", "_law_word", "_law_x", "_law_some"] ["_law_pot_here", "_law_step", "_law_many"] (defScope s_Lodd) := ⟨rfl, rfl, rfl, by decide +kernel, rfl, by decide +kernel, by decide +kernel⟩
theorem sc_law : FnScope ["_law_script", "_law_seed_here", "_law_cells", "_law_k", "_law_cell", "_law_pot_here", "_law_forms_here", "_law_shape", "_law_names", "_law_steps", "_law_turn", "_law_some", "_law_name", "_law_step", "_law_at", "_law_odd_here", "_law_thing"] ["_law_script"] (defScope s_law) := ⟨rfl, rfl, rfl, by decide +kernel, rfl, by decide +kernel, by decide +kernel⟩
abbrev s_Linksinit : Stmt := inClass (topS 4) 0
theorem sc_Linksinit : FnScope ["self"] ["self"] (defScope s_Linksinit) := ⟨rfl, rfl, rfl, by decide +kernel, rfl, by decide +kernel, by decide +kernel⟩
abbrev s_Linkstakerows : Stmt := inClass (topS 4) 1
theorem sc_Linkstakerows : FnScope ["self", "shape", "name", "left", "right", "above", "turned"] ["self", "shape"] (defScope s_Linkstakerows) := ⟨rfl, rfl, rfl, by decide +kernel, rfl, by decide +kernel, by decide +kernel⟩
abbrev s_Linksshape : Stmt := inClass (topS 4) 2
theorem sc_Linksshape : FnScope ["self", "names", "x"] ["self"] (defScope s_Linksshape) := ⟨rfl, rfl, rfl, by decide +kernel, rfl, by decide +kernel, by decide +kernel⟩
abbrev s_Linkshasname : Stmt := inClass (topS 4) 5
theorem sc_Linkshasname : FnScope ["self", "x"] ["self", "x"] (defScope s_Linkshasname) := ⟨rfl, rfl, rfl, by decide +kernel, rfl, by decide +kernel, by decide +kernel⟩
abbrev s_Linksistop : Stmt := inClass (topS 4) 7
theorem sc_Linksistop : FnScope ["self", "x", "u"] ["self", "x"] (defScope s_Linksistop) := ⟨rfl, rfl, rfl, by decide +kernel, rfl, by decide +kernel, by decide +kernel⟩
abbrev s_Linksrefresh : Stmt := inClass (topS 4) 9
theorem sc_Linksrefresh : FnScope ["self", "x"] ["self", "x"] (defScope s_Linksrefresh) := ⟨rfl, rfl, rfl, by decide +kernel, rfl, by decide +kernel, by decide +kernel⟩
abbrev s_Linkssetleft : Stmt := inClass (topS 4) 12
theorem sc_Linkssetleft : FnScope ["self", "x", "y"] ["self", "x", "y"] (defScope s_Linkssetleft) := ⟨rfl, rfl, rfl, by decide +kernel, rfl, by decide +kernel, by decide +kernel⟩
abbrev s_Linkssetright : Stmt := inClass (topS 4) 13
theorem sc_Linkssetright : FnScope ["self", "x", "y"] ["self", "x", "y"] (defScope s_Linkssetright) := ⟨rfl, rfl, rfl, by decide +kernel, rfl, by decide +kernel, by decide +kernel⟩
abbrev s_Linksputinplace : Stmt := inClass (topS 4) 14
theorem sc_Linksputinplace : FnScope ["self", "x", "u", "over"] ["self", "x", "u"] (defScope s_Linksputinplace) := ⟨rfl, rfl, rfl, by decide +kernel, rfl, by decide +kernel, by decide +kernel⟩
abbrev s_Linksturn : Stmt := inClass (topS 4) 15
theorem sc_Linksturn : FnScope ["self", "x", "u"] ["self", "x"] (defScope s_Linksturn) := ⟨rfl, rfl, rfl, by decide +kernel, rfl, by decide +kernel, by decide +kernel⟩
abbrev s_Linksletgo : Stmt := inClass (topS 4) 18
theorem sc_Linksletgo : FnScope ["self", "x"] ["self", "x"] (defScope s_Linksletgo) := ⟨rfl, rfl, rfl, by decide +kernel, rfl, by decide +kernel, by decide +kernel⟩
abbrev s_Linkshang : Stmt := inClass (topS 4) 19
theorem sc_Linkshang : FnScope ["self", "x", "u"] ["self", "x"] (defScope s_Linkshang) := ⟨rfl, rfl, rfl, by decide +kernel, rfl, by decide +kernel, by decide +kernel⟩
/-- what the top has left -/
structure Top (K : PySem.W.Frag) (mg : Str → Option Value) where
  a_iswhole : Addr
  d_iswhole : FuncData
  F_iswhole : Fun K "is_whole" "is_whole" s_iswhole a_iswhole d_iswhole
  b_iswhole : Binds K d_iswhole ["thing"] []
  g_iswhole : mg "is_whole" = some (.ref a_iswhole)
  a_linksof : Addr
  d_linksof : FuncData
  F_linksof : Fun K "links_of" "links_of" s_linksof a_linksof d_linksof
  b_linksof : Binds K d_linksof ["shape"] []
  g_linksof : mg "links_of" = some (.ref a_linksof)
  a_ismark : Addr
  d_ismark : FuncData
  F_ismark : Fun K "is_mark" "is_mark" s_ismark a_ismark d_ismark
  b_ismark : Binds K d_ismark ["thing"] []
  g_ismark : mg "is_mark" = some (.ref a_ismark)
  a_isname : Addr
  d_isname : FuncData
  F_isname : Fun K "is_name" "is_name" s_isname a_isname d_isname
  b_isname : Binds K d_isname ["thing"] []
  g_isname : mg "is_name" = some (.ref a_isname)
  a_stepped : Addr
  d_stepped : FuncData
  F_stepped : Fun K "stepped" "stepped" s_stepped a_stepped d_stepped
  b_stepped : Binds K d_stepped ["shape", "steps"] []
  g_stepped : mg "stepped" = some (.ref a_stepped)
  a_isstep : Addr
  d_isstep : FuncData
  F_isstep : Fun K "is_step" "is_step" s_isstep a_isstep d_isstep
  b_isstep : Binds K d_isstep ["links", "thing"] []
  g_isstep : mg "is_step" = some (.ref a_isstep)
  a_canstep : Addr
  d_canstep : FuncData
  F_canstep : Fun K "can_step" "can_step" s_canstep a_canstep d_canstep
  b_canstep : Binds K d_canstep ["links", "word", "x"] []
  g_canstep : mg "can_step" = some (.ref a_canstep)
  a_canhang : Addr
  d_canhang : FuncData
  F_canhang : Fun K "can_hang" "can_hang" s_canhang a_canhang d_canhang
  b_canhang : Binds K d_canhang ["links", "x"] []
  g_canhang : mg "can_hang" = some (.ref a_canhang)
  a_takestep : Addr
  d_takestep : FuncData
  F_takestep : Fun K "take_step" "take_step" s_takestep a_takestep d_takestep
  b_takestep : Binds K d_takestep ["links", "word", "x"] []
  g_takestep : mg "take_step" = some (.ref a_takestep)
  a_Lpot : Addr
  d_Lpot : FuncData
  F_Lpot : Fun K "_law_pot" "_law_pot" s_Lpot a_Lpot d_Lpot
  b_Lpot : Binds K d_Lpot ["_law_cell", "_law_seed_here"] []
  g_Lpot : mg "_law_pot" = some (.ref a_Lpot)
  a_Ltake : Addr
  d_Ltake : FuncData
  F_Ltake : Fun K "_law_take" "_law_take" s_Ltake a_Ltake d_Ltake
  b_Ltake : Binds K d_Ltake ["_law_pot_here", "_law_many"] []
  g_Ltake : mg "_law_take" = some (.ref a_Ltake)
  a_Lseed : Addr
  d_Lseed : FuncData
  F_Lseed : Fun K "_law_seed" "_law_seed" s_Lseed a_Lseed d_Lseed
  b_Lseed : Binds K d_Lseed ["_law_script"] []
  g_Lseed : mg "_law_seed" = some (.ref a_Lseed)
  a_Ltop : Addr
  d_Ltop : FuncData
  F_Ltop : Fun K "_law_top" "_law_top" s_Ltop a_Ltop d_Ltop
  b_Ltop : Binds K d_Ltop ["_law_forms_here", "_law_x"] []
  g_Ltop : mg "_law_top" = some (.ref a_Ltop)
  a_Ltree : Addr
  d_Ltree : FuncData
  F_Ltree : Fun K "_law_tree" "_law_tree" s_Ltree a_Ltree d_Ltree
  b_Ltree : Binds K d_Ltree ["_law_pot_here", "_law_forms_here", "_law_names"] []
  g_Ltree : mg "_law_tree" = some (.ref a_Ltree)
  a_Lforms : Addr
  d_Lforms : FuncData
  F_Lforms : Fun K "_law_forms" "_law_forms" s_Lforms a_Lforms d_Lforms
  b_Lforms : Binds K d_Lforms ["_law_pot_here", "_law_most"] []
  g_Lforms : mg "_law_forms" = some (.ref a_Lforms)
  a_Lturned : Addr
  d_Lturned : FuncData
  F_Lturned : Fun K "_law_turned" "_law_turned" s_Lturned a_Lturned d_Lturned
  b_Lturned : Binds K d_Lturned ["_law_forms_here", "_law_x"] []
  g_Lturned : mg "_law_turned" = some (.ref a_Lturned)
  a_Lcan : Addr
  d_Lcan : FuncData
  F_Lcan : Fun K "_law_can" "_law_can" s_Lcan a_Lcan d_Lcan
  b_Lcan : Binds K d_Lcan ["_law_forms_here", "_law_step"] []
  g_Lcan : mg "_law_can" = some (.ref a_Lcan)
  a_Ldone : Addr
  d_Ldone : FuncData
  F_Ldone : Fun K "_law_done" "_law_done" s_Ldone a_Ldone d_Ldone
  b_Ldone : Binds K d_Ldone ["_law_forms_here", "_law_step"] []
  g_Ldone : mg "_law_done" = some (.ref a_Ldone)
  a_Lrows : Addr
  d_Lrows : FuncData
  F_Lrows : Fun K "_law_rows" "_law_rows" s_Lrows a_Lrows d_Lrows
  b_Lrows : Binds K d_Lrows ["_law_forms_here"] []
  g_Lrows : mg "_law_rows" = some (.ref a_Lrows)
  a_Lodd : Addr
  d_Lodd : FuncData
  F_Lodd : Fun K "_law_odd" "_law_odd" s_Lodd a_Lodd d_Lodd
  b_Lodd : Binds K d_Lodd ["_law_pot_here", "_law_step", "_law_many"] []
  g_Lodd : mg "_law_odd" = some (.ref a_Lodd)
  a_law : Addr
  d_law : FuncData
  F_law : Fun K "law" "law" s_law a_law d_law
  b_law : Binds K d_law ["_law_script"] []
  g_law : mg "law" = some (.ref a_law)
  C_Links : Addr
  cl_Links : Cls K C_Links
  mg_Links : mg "Links" = some (.ref C_Links)
  na_Links_left : NoAttr K C_Links "left"
  na_Links_right : NoAttr K C_Links "right"
  na_Links_above : NoAttr K C_Links "above"
  na_Links_turned : NoAttr K C_Links "turned"
  na_Links_looked : NoAttr K C_Links "looked"
  a_Linksinit : Addr
  d_Linksinit : FuncData
  F_Linksinit : Fun K "__init__" "Links.__init__" s_Linksinit a_Linksinit d_Linksinit
  b_Linksinit : Binds K d_Linksinit ["self"] []
  mk_Links : Mk K C_Links a_Linksinit
  a_Linkstakerows : Addr
  d_Linkstakerows : FuncData
  F_Linkstakerows : Fun K "take_rows" "Links.take_rows" s_Linkstakerows a_Linkstakerows d_Linkstakerows
  b_Linkstakerows : Binds K d_Linkstakerows ["self", "shape"] []
  me_Linkstakerows : Meth K C_Links "take_rows" a_Linkstakerows
  a_Linksshape : Addr
  d_Linksshape : FuncData
  F_Linksshape : Fun K "shape" "Links.shape" s_Linksshape a_Linksshape d_Linksshape
  b_Linksshape : Binds K d_Linksshape ["self"] []
  me_Linksshape : Meth K C_Links "shape" a_Linksshape
  a_Linkshasname : Addr
  d_Linkshasname : FuncData
  F_Linkshasname : Fun K "has_name" "Links.has_name" s_Linkshasname a_Linkshasname d_Linkshasname
  b_Linkshasname : Binds K d_Linkshasname ["self", "x"] []
  me_Linkshasname : Meth K C_Links "has_name" a_Linkshasname
  a_Linksistop : Addr
  d_Linksistop : FuncData
  F_Linksistop : Fun K "is_top" "Links.is_top" s_Linksistop a_Linksistop d_Linksistop
  b_Linksistop : Binds K d_Linksistop ["self", "x"] []
  me_Linksistop : Meth K C_Links "is_top" a_Linksistop
  a_Linksrefresh : Addr
  d_Linksrefresh : FuncData
  F_Linksrefresh : Fun K "refresh" "Links.refresh" s_Linksrefresh a_Linksrefresh d_Linksrefresh
  b_Linksrefresh : Binds K d_Linksrefresh ["self", "x"] []
  me_Linksrefresh : Meth K C_Links "refresh" a_Linksrefresh
  a_Linkssetleft : Addr
  d_Linkssetleft : FuncData
  F_Linkssetleft : Fun K "set_left" "Links.set_left" s_Linkssetleft a_Linkssetleft d_Linkssetleft
  b_Linkssetleft : Binds K d_Linkssetleft ["self", "x", "y"] []
  me_Linkssetleft : Meth K C_Links "set_left" a_Linkssetleft
  a_Linkssetright : Addr
  d_Linkssetright : FuncData
  F_Linkssetright : Fun K "set_right" "Links.set_right" s_Linkssetright a_Linkssetright d_Linkssetright
  b_Linkssetright : Binds K d_Linkssetright ["self", "x", "y"] []
  me_Linkssetright : Meth K C_Links "set_right" a_Linkssetright
  a_Linksputinplace : Addr
  d_Linksputinplace : FuncData
  F_Linksputinplace : Fun K "put_in_place" "Links.put_in_place" s_Linksputinplace a_Linksputinplace d_Linksputinplace
  b_Linksputinplace : Binds K d_Linksputinplace ["self", "x", "u"] []
  me_Linksputinplace : Meth K C_Links "put_in_place" a_Linksputinplace
  a_Linksturn : Addr
  d_Linksturn : FuncData
  F_Linksturn : Fun K "turn" "Links.turn" s_Linksturn a_Linksturn d_Linksturn
  b_Linksturn : Binds K d_Linksturn ["self", "x"] []
  me_Linksturn : Meth K C_Links "turn" a_Linksturn
  a_Linksletgo : Addr
  d_Linksletgo : FuncData
  F_Linksletgo : Fun K "let_go" "Links.let_go" s_Linksletgo a_Linksletgo d_Linksletgo
  b_Linksletgo : Binds K d_Linksletgo ["self", "x"] []
  me_Linksletgo : Meth K C_Links "let_go" a_Linksletgo
  a_Linkshang : Addr
  d_Linkshang : FuncData
  F_Linkshang : Fun K "hang" "Links.hang" s_Linkshang a_Linkshang d_Linkshang
  b_Linkshang : Binds K d_Linkshang ["self", "x"] []
  me_Linkshang : Meth K C_Links "hang" a_Linkshang
  m_abs : mg "abs" = none
  m_all : mg "all" = none
  m_bool : mg "bool" = none
  m_enumerate : mg "enumerate" = none
  m_int : mg "int" = none
  m_isinstance : mg "isinstance" = none
  m_len : mg "len" = none
  m_list : mg "list" = none
  m_range : mg "range" = none
  m_sorted : mg "sorted" = none
  m_str : mg "str" = none
  m_tuple : mg "tuple" = none
  cM : Addr
  PM : Addr
  hcM : d_ismark.code = .ref cM
  neP : ([PM] : List Addr).Nodup
end My
namespace My
open PySem L2
theorem tabg_same {H H' : Hp} {P : Addr} (s : Same H H') (g : GxR.TabG H P) : GxR.TabG H' P := by
  obtain ⟨ps, h, t⟩ := g
  exact ⟨ps, s _ _ h, t⟩
/-! ### the tables of code made on the way: what is no table stays -/
theorem But.of_same {P : Addr} {H H' : Hp} (s : Same H H') : But P H H' := fun a o e _ => s a o e
theorem But.of_tab {P : Addr} {H H' : Hp} (t : GxR.Tabbed P H H') : But P H H' := fun a o e n => (t.2 a n).trans e
theorem Kp.of_but {P : Addr} {H H' : Hp} (g : GxR.TabG H P) (k : But P H H') : Kp H H' := fun a o e n => by
  refine k a o e fun h => ?_
  subst h
  obtain ⟨ps, hp, _⟩ := g
  rw [hp] at e
  exact n ps (Option.some.inj e).symm
theorem TabG.ne {P a : Addr} {H : Hp} {o : HO} (g : GxR.TabG H P) (e : H a = some o) (n : ∀ ps, o ≠ .tbl ps) : a ≠ P := fun h => by
  subst h
  obtain ⟨ps, hp, _⟩ := g
  rw [hp] at e
  exact n ps (Option.some.inj e).symm
/-! ### tables kept -/
theorem tabs_same {H H' : Hp} {P : Addr} {q : Str} (s : Same H H') (g : LamX.TabS H P q) : LamX.TabS H' P q := g.ext s
/-- the other table's writing -/
theorem tabs_other {H H' : Hp} {P R : Addr} {q : Str} (n : P ≠ R) (gR : GxR.TabG H R) (k : But R H H') (g : LamX.TabS H P q) : LamX.TabS H' P q := by
  obtain ⟨ps, hp, t, e⟩ := g
  refine ⟨ps, k _ _ hp n, t, fun pos cv hc => ?_⟩
  obtain ⟨c, e1, e2⟩ := e pos cv hc
  exact ⟨c, e1, k _ _ e2 (TabG.ne gR e2 LamX.codeO_ne)⟩
theorem tabg_other {H H' : Hp} {P R : Addr} (n : R ≠ P) (k : But P H H') (g : GxR.TabG H R) : GxR.TabG H' R := by
  obtain ⟨ps, hp, t⟩ := g
  exact ⟨ps, k _ _ hp n, t⟩
theorem TabS.g {H : Hp} {P : Addr} {q : Str} (g : LamX.TabS H P q) : GxR.TabG H P := by
  obtain ⟨ps, hp, t, _⟩ := g
  exact ⟨ps, hp, t⟩
theorem Tups.of_tab {K : PySem.W.Frag} {H H' : Hp} {P : Addr} (g : GxR.TabG H P) (k : But P H H') : Tups K H H' := fun a xs h => by
  rcases h with h | h
  · rcases h with h | ⟨o, h⟩
    · exact .inl (.inl (k _ _ h (TabG.ne g h (by intro ps z; cases z))))
    · exact .inl (.inr ⟨o, k _ _ h (TabG.ne g h (by intro ps z; cases z))⟩)
  · exact .inr h

theorem Tups.of_kp {K : PySem.W.Frag} {H H' : Hp} (k : Kp H H') : Tups K H H' := fun a xs h => by
  rcases h with h | h
  · rcases h with h | ⟨o, h⟩
    · exact .inl (.inl (k _ _ h (by intro ps z; cases z)))
    · exact .inl (.inr ⟨o, k _ _ h (by intro ps z; cases z)⟩)
  · exact .inr h
theorem Kp.same {H H1 H2 : Hp} (k : Kp H H1) (s : Same H1 H2) : Kp H H2 := k.trans (Kp.of_same s)
/-- each table as it has to be: of generators (none), of lambdas that stand in one def (its name) -/
def Tb (ts : List (Addr × Option Str)) (H : Hp) : Prop := ∀ t ∈ ts, match t.2 with | none => GxR.TabG H t.1 | some q => LamX.TabS H t.1 q
section
variable {ts : List (Addr × Option Str)} {H H' : Hp}
theorem Tb.g {P : Addr} (h : Tb ts H) (m : (P, none) ∈ ts) : GxR.TabG H P := h _ m
theorem Tb.s {P : Addr} {q : Str} (h : Tb ts H) (m : (P, some q) ∈ ts) : LamX.TabS H P q := h _ m
theorem Tb.mk (h : ∀ P, (P, none) ∈ ts → GxR.TabG H P) (k : ∀ P q, (P, some q) ∈ ts → LamX.TabS H P q) : Tb ts H := fun t m => by
  obtain ⟨P, o⟩ := t
  cases o with
  | none => exact h P m
  | some q => exact k P q m
theorem Tb.same (h : Tb ts H) (s : Same H H') : Tb ts H' := .mk (fun P m => tabg_same s (h.g m)) (fun P q m => tabs_same s (h.s m))
theorem nd_fst : ∀ {ts : List (Addr × Option Str)}, (ts.map (·.1)).Nodup → ∀ {x y : Addr × Option Str}, x ∈ ts → y ∈ ts → x.1 = y.1 → x = y
  | [], _, _, _, hx, _, _ => nomatch hx
  | t :: r, nd, x, y, hx, hy, e => by
    rw [List.map_cons, List.nodup_cons] at nd
    rcases List.mem_cons.mp hx with e1 | h1
    · rcases List.mem_cons.mp hy with e2 | h2
      · rw [e1, e2]
      · exact absurd (List.mem_map.mpr ⟨y, h2, by rw [← e, e1]⟩) nd.1
    · rcases List.mem_cons.mp hy with e2 | h2
      · exact absurd (List.mem_map.mpr ⟨x, h1, by rw [e, e2]⟩) nd.1
      · exact nd_fst nd.2 h1 h2 e
/-- one of generators was written -/
theorem Tb.tab {P : Addr} (h : Tb ts H) (nd : (ts.map (·.1)).Nodup) (m : (P, none) ∈ ts) (k : But P H H') (g : GxR.TabG H' P) : Tb ts H' := by
  refine .mk (fun R mR => ?_) (fun R q mR => ?_)
  · by_cases e : R = P
    · subst e
      exact g
    · exact tabg_other e k (h.g mR)
  · refine tabs_other (fun e => ?_) (h.g m) k (h.s mR)
    subst e
    cases nd_fst nd m mR rfl
/-- one of lambdas was written -/
theorem Tb.lam {P : Addr} {q : Str} (h : Tb ts H) (nd : (ts.map (·.1)).Nodup) (m : (P, some q) ∈ ts) (k : But P H H') (g : LamX.TabS H' P q) : Tb ts H' := by
  refine .mk (fun R mR => ?_) (fun R q2 mR => ?_)
  · refine tabg_other (fun e => ?_) k (h.g mR)
    subst e
    cases nd_fst nd m mR rfl
  · by_cases e : R = P
    · subst e
      cases nd_fst nd m mR rfl
      exact g
    · exact tabs_other e (TabS.g (h.s m)) k (h.s mR)
end

section
variable {K : PySem.W.Frag} {mg : Str → Option Value}
def Top.tbs (T : Top K mg) : List (Addr × Option Str) := [(T.PM, none)]
theorem Top.mM (T : Top K mg) : (T.PM, none) ∈ T.tbs := List.mem_cons_self
theorem Top.nd (T : Top K mg) : (T.tbs.map (·.1)).Nodup := T.neP
structure TBs (T : Top K mg) (base : Heap) : Prop where
  M : GxR.TabB base mg T.cM T.PM
theorem tbs0 (T : Top K mg) {H : Hp} (hM : H T.PM = some (.tbl #[])) : Tb T.tbs H := by
  intro t m
  rw [List.mem_singleton.mp m]
  exact ⟨#[], hM, True.intro⟩
end
theorem mem1 {α : Type} {p a : α} (h : p ∈ [a]) : p = a := List.mem_singleton.mp h
end My
namespace My
open PySem L2
theorem ifF {c : Bool} {A B : Prop} (h : c = false) (b : B) : if c = true then A else B := by
  rw [h, if_neg (by decide)]
  exact b
theorem ifT {c : Bool} {A B : Prop} (h : c = true) (a : A) : if c = true then A else B := by
  rw [h, if_pos rfl]
  exact a

/-! ### marks and names -/
/-- anything but a tuple -/
inductive NoTup (H : Hp) : V → Prop
  | non : NoTup H .non
  | bl (b : Bool) : NoTup H (.bl b)
  | int (i : Int) : NoTup H (.int i)
  | str (x : Str) : NoTup H (.str x)
  | lst {a : Addr} {xs : List V} (h : H a = some (.lst xs)) : NoTup H (.ref a)
  | dK {a : Addr} {kvs : List (Key × V)} (h : H a = some (.dK kvs)) : NoTup H (.ref a)
theorem NoTup.kp {H H' : Hp} (k : Kp H H') {v : V} (h : NoTup H v) : NoTup H' v := by
  cases h with
  | non => exact .non
  | bl b => exact .bl b
  | int i => exact .int i
  | str x => exact .str x
  | lst h => exact .lst (k _ _ h (by intro ps z; cases z))
  | dK h => exact .dK (k _ _ h (by intro ps z; cases z))
theorem notup_ok {K : PySem.W.Frag} {H : Hp} {v : V} (h : NoTup H v) : ∃ t, TyX K H v t ∧ PySem.W.kitOne K t (.type "tuple") = some false := by
  cases h with
  | non => exact ⟨_, .base .non, kit_ty (show kitB _ _ = some false by decide +kernel)⟩
  | bl b => exact ⟨_, .base (.bl b), kit_ty (show kitB _ _ = some false by decide +kernel)⟩
  | int i => exact ⟨_, .base (.int i), kit_ty (show kitB _ _ = some false by decide +kernel)⟩
  | str x => exact ⟨_, .base (.str x), kit_ty (show kitB _ _ = some false by decide +kernel)⟩
  | lst h => exact ⟨_, .base (.lst h), kit_ty (show kitB _ _ = some false by decide +kernel)⟩
  | dK h => exact ⟨_, .base (.dK h), kit_ty (show kitB _ _ = some false by decide +kernel)⟩
theorem not_whole {x : V} {ps : List V} : ¬ (HT.sIx (x :: ps).length 0 (some 1) = 0 ∧ HT.sIx (x :: ps).length (x :: ps).length none = (x :: ps).length) := by
  rintro ⟨z1, _⟩
  have e1 : HT.sIx (x :: ps).length 0 (some 1) = 1 := by
    rw [show (1 : Int) = ((1 : Nat) : Int) from rfl, HT.sIx_nat, List.length_cons]
    omega
  rw [e1] at z1
  exact nomatch z1
theorem Kp.of_tabd {P : Addr} {H H' : Hp} (g : GxR.TabG H P) (t : GxR.Tabbed P H H') : Kp H H' := Kp.of_but g (But.of_tab t)
theorem Kp.tup {H H' : Hp} (k : Kp H H') {t : Addr} {xs : List V} (e : H t = some (.tup xs)) : H' t = some (.tup xs) := k _ _ e (by intro ps z; cases z)
def natV : V → Bool
  | .int i => decide (0 ≤ i)
  | _ => false
def markB : List V → Bool
  | .str z :: r => r.all natV && (decide (z = "point" ∧ r.length = 1) || decide (z = "over" ∧ r.length = 2))
  | _ => false
/-- a thing, and whether it is a mark -/
def MkV (H : Hp) (v : V) (b : Bool) : Prop := (∃ (a : Addr) (xs : List V), v = .ref a ∧ xs.length ≤ 1000 ∧ H a = some (.tup xs) ∧ (∀ x ∈ xs, AnyV H x) ∧ (∀ z r, xs = .str z :: r → SeqAt.shaped (.str z) = true) ∧ b = markB xs) ∨ (NoTup H v ∧ b = false)
section
variable {P : Program} {w : World} {K : PySem.W.Frag} {mg : Str → Option Value} {base : Heap}
def spWhole : Sp := fun vs H Q _ => ∃ v, vs = [v] ∧ AnyV H v ∧ Q (.bl (wholeB v)) H
theorem ok_whole (T : Top K mg) : FnOk P w K mg base CX0 1 T.a_iswhole T.d_iswhole ["thing"] spWhole := by
  refine T.F_iswhole.ok sc_iswhole (fun vs H Q E h => ?_) (fun cdv A outer s H vs Q E hr h => ?_)
  · obtain ⟨v, rfl, _⟩ := h
    rfl
  · obtain ⟨v, rfl, hv, q⟩ := h
    refine ⟨_, (pss_one (ps_ret (pe_and (pe_callB call_isi (by rfl) T.m_isinstance (by decide +kernel) (pa_cons (pv 0) (pa_cons (pe_bltn (v := .ty "int") (by rfl) T.m_int (by decide +kernel) rfl) pa_nil))) (pe_one (pe_not (pe_callB call_isi (by rfl) T.m_isinstance (by decide +kernel) (pa_cons (pv 0) (pa_cons (pe_bltn (v := .ty "bool") (by rfl) T.m_bool (by decide +kernel) rfl) pa_nil)))))))), ?_⟩
    obtain ⟨t, ty, kt⟩ := int_ok (K := K) hv
    refine ⟨_, rfl, _, _, _, _, _, rfl, ClsV.ty _, ty, kt, _, rfl, ?_⟩
    obtain ⟨t2, ty2, kt2⟩ := bool_ok (K := K) hv
    have fin : isIntV v = true → ∀ b, b = isBoolV v → Q (.bl (!b)) H := fun e b eb => by
      have z : (!b) = wholeB v := by
        subst eb
        cases v <;> first | rfl | exact nomatch e
      rw [z]
      exact q
    refine ite2 (fun e => ?_) (fun e => ?_)
    · exact ⟨_, rfl, _, _, _, _, _, rfl, ClsV.ty _, ty2, kt2, _, rfl, fin e _ rfl⟩
    · have z : wholeB v = false := by
        cases v <;> first | rfl | exact absurd rfl e
      rw [z] at q
      exact q
def spMark (T : Top K mg) : Sp := fun vs H Q _ => ∃ (v : V) (b : Bool), vs = [v] ∧ Tb T.tbs H ∧ MkV H v b ∧ ∀ H', Kp H H' → Tb T.tbs H' → Q (.bl b) H'
theorem mark_in (z : Str) (n : Nat) : ([PyData.tuple [.str "point", .int 2], .tuple [.str "over", .int 3]].any fun y => PyData.eqv y (.tuple [.str z, .int ((n + 1 : Nat) : Int)])) = (decide (z = "point" ∧ n = 1) || decide (z = "over" ∧ n = 2)) := by
  have e : ∀ (y : Str) (m : Int), PyData.eqv (.tuple [.str y, .int m]) (.tuple [.str z, .int ((n + 1 : Nat) : Int)]) = (y == z && (m == ((n + 1 : Nat) : Int) && true)) := fun y m => rfl
  simp only [List.any_cons, List.any_nil, e, Bool.or_false, Bool.and_true]
  rw [Bool.eq_iff_iff]
  simp only [Bool.or_eq_true, Bool.and_eq_true, beq_iff_eq, decide_eq_true_eq]
  constructor
  · rintro (⟨h1, h2⟩ | ⟨h1, h2⟩)
    · exact .inl ⟨h1.symm, by omega⟩
    · exact .inr ⟨h1.symm, by omega⟩
  · rintro (⟨h1, h2⟩ | ⟨h1, h2⟩)
    · exact .inl ⟨h1.symm, by omega⟩
    · exact .inr ⟨h1.symm, by omega⟩
theorem ok_mark (T : Top K mg) (TB : GxR.TabB base mg T.cM T.PM) : FnOk P w K mg base CX0 3 T.a_ismark T.d_ismark ["thing"] (spMark T) := by
  have G_iswhole : FnOk P w K mg base CX0 1 _ _ _ _ := ok_whole T
  refine okC T.F_ismark T.hcM sc_ismark (fun vs H Q E h => ?_) (fun A outer s H vs Q E hr h => ?_)
  · obtain ⟨v, b, rfl, _⟩ := h
    rfl
  · obtain ⟨v, b, rfl, tb, hx, q⟩ := h
    refine ⟨_, (pss_cons (ps_if (PW.pt (pw_or (pt_not (pt_val (pe_callB call_isi (by rfl) T.m_isinstance (by decide +kernel) (pa_cons (pv 0) (pa_cons (pe_bltn (v := .ty "tuple") (by rfl) T.m_tuple (by decide +kernel) rfl) pa_nil))))) (pw_or (pt_cmpR op_eq (pe_callB call_len_seq (by rfl) T.m_len PySem.boot_len (pa_cons (pv 0) pa_nil)) pe_int (nomark _)) (pw_or1 (pt_not (pt_val (pe_callB call_isi (by rfl) T.m_isinstance (by decide +kernel) (pa_cons (pe_ix ix_tup (pv 0) pe_int (fun _ _ => rfl)) (pa_cons (pe_bltn (v := .ty "str") (by rfl) T.m_str (by decide +kernel) rfl) pa_nil))))))))) (pss_one (ps_ret pe_bl)) pss_nil)
      (pss_cons (ps_if (pt_not (pt_val (pe_allG (own := [("number", 1)]) hr rfl sc_ismark.nd (by rfl) T.m_all (by decide +kernel) TB rfl (blkOk_by (own := [("number", 1)]) (N := ["thing", "number"]) (sc := defScope s_ismark) (by decide +kernel)) (by rfl) (by decide +kernel) (by rfl) (pi_tup (pe_slice sl_tup (pv 0) (po_some pe_int) po_none)) (fun _ _ _ _ _ _ _ => (pg_name (i := 1) sc_ismark.nd rfl (.inl rfl) (hf := Or.inr rfl))) (fun _ _ _ _ _ _ _ hr' => (pe_and (pe_call G_iswhole hr' (by rfl) T.g_iswhole T.F_iswhole.kp T.b_iswhole .nil pass0 (pa_cons (pv 1) pa_nil)) (pe_one (pe_cmpR op_ge (pv 1) pe_int (nomark _)))))))) (pss_one (ps_ret pe_bl)) pss_nil)
      (pss_one (ps_ret (pe_cmpR (op_inT (u65 hr)) (pe_tup (pa_cons (pe_ix ix_tup (pv 0) pe_int (fun _ _ => rfl)) (pa_cons (pe_callB call_len_seq (by rfl) T.m_len PySem.boot_len (pa_cons (pv 0) pa_nil)) pa_nil))) (pe_tup (pa_cons (pe_tup (pa_cons pe_str (pa_cons pe_int pa_nil))) (pa_cons (pe_tup (pa_cons pe_str (pa_cons pe_int pa_nil))) pa_nil))) (by rfl)))))), ?_⟩
    rcases hx with ⟨a, xs, rfl, hlen, ha, hany, hsh, rfl⟩ | ⟨nt, rfl⟩
    · refine ⟨_, rfl, _, _, _, _, true, rfl, ClsV.ty _, .base (.tup ha), kit_ty (by decide +kernel), _, rfl, iteF ?_⟩
      cases xs with
      | nil =>
        refine ⟨_, rfl, a, _, rfl, .inr (SqT.of ha), rfl, _, rfl, iteT ?_⟩
        exact iteT (q H (Kp.refl H) tb)
      | cons x ps =>
        refine ⟨_, rfl, a, _, rfl, .inr (SqT.of ha), rfl, _, rfl, ?_⟩
        refine ite2 (fun e => ?_) (fun _ => ?_)
        · have z : ((x :: ps).length : Int) = 0 := V.int.inj (of_decide_eq_true e)
          rw [List.length_cons] at z
          omega
        · obtain ⟨t, ty, kt⟩ := str_ok (K := K) (hany x List.mem_cons_self)
          refine ⟨_, rfl, a, _, _, _, rfl, rfl, SqT.of ha, atI_nat (j := 0) rfl, _, _, _, _, _, rfl, ClsV.ty _, ty, kt, _, rfl, ?_⟩
          cases x with
          | str z =>
            refine iteF ?_
            refine ⟨_, rfl, 1, rfl, a, _, rfl, SqT.of ha, not_whole, fun pp np => ?_⟩
            have ec : cutV (V.str z :: ps) (some 1) none = ps := cut_tail _ _
            rw [ec]
            have s1 := same_new (o := .tup ps) np
            have hp1 : upd H pp (.tup ps) pp = some (.tup ps) := upd_same
            generalize upd H pp (.tup ps) = H1 at s1 hp1 ⊢
            have tb1 := tb.same s1
            refine ⟨pp, rfl, ⟨_, SqT.of hp1⟩, tb1.g T.mM, fun H2 tab => ?_⟩
            have k2 : Kp H H2 := (Kp.of_same s1).trans (Kp.of_tabd (tb1.g T.mM) tab)
            have k12 : Kp H1 H2 := Kp.of_tabd (tb1.g T.mM) tab
            have tb2 := tb1.tab T.nd T.mM (But.of_tab tab) tab.1
            refine gturns_it (walk_tup (xs := ps)) (fun i H3 => Kp H H3 ∧ Kp H1 H3 ∧ Tb T.tbs H3 ∧ (ps.take i).all natV = true) ⟨k2, k12, tb2, rfl⟩ (fun i H3 _ z => SqT.of (z.2.1.tup hp1)) ?_ (fun H3 z => ?_)
            · rintro i x H3 H4 N hi ⟨k3, k13, tb3, al⟩ ⟨rfl, hx⟩ nx
              have ax := (hany x (List.mem_cons_of_mem _ (List.mem_of_getElem? hx))).kp k3
              have no : natV x = false → Q (.bl false) H4 := fun e => by
                have z1 : markB (.str z :: ps) = false := by
                  show (ps.all natV && _) = false
                  have : ps.all natV = false := by
                    rw [List.all_eq_false]
                    exact ⟨x, List.mem_of_getElem? hx, by rw [e]; exact Bool.false_ne_true⟩
                  rw [this]
                  rfl
                have := q H4 k3 tb3
                rw [z1] at this
                exact this
              have yes : natV x = true → N H4 := fun e => nx H4 ⟨k3, k13, tb3, by rw [List.take_succ, hx, List.all_append, al]; show (true && (natV x && true)) = true; rw [e]; rfl⟩
              refine ⟨rfl, _, rfl, x, rfl, ax, _, rfl, ?_⟩
              cases x with
              | int n =>
                refine iteT ?_
                refine ⟨_, rfl, _, _, rfl, rfl, ?_⟩
                by_cases h0 : 0 ≤ n
                · exact ⟨true, congrArg V.bl (decide_eq_true h0), iteT (yes (decide_eq_true h0))⟩
                · exact ⟨false, congrArg V.bl (decide_eq_false h0), iteF ⟨_, rfl, iteT (no (decide_eq_false h0))⟩⟩
              | _ => exact iteF ⟨false, rfl, iteF ⟨_, rfl, iteT (no rfl)⟩⟩
            · obtain ⟨k3, k13, tb3, al⟩ := z
              rw [List.take_of_length_le (Nat.le_refl _)] at al
              have ha3 := k3.tup ha
              refine ⟨_, rfl, iteF ?_⟩
              refine ⟨_, rfl, a, _, _, _, rfl, rfl, SqT.of ha3, atI_nat (j := 0) rfl, _, rfl, a, _, rfl, .inr (SqT.of ha3), (by show 2 ≤ sizeLine; decide), fun p1 n1 => ?_⟩
              have u1 := same_new (o := .tup [.str z, .int ((V.str z :: ps).length : Int)]) n1
              have g1 : upd H3 p1 (.tup [.str z, .int ((V.str z :: ps).length : Int)]) p1 = some (.tup [.str z, .int ((V.str z :: ps).length : Int)]) := upd_same
              generalize upd H3 p1 (.tup [.str z, .int ((V.str z :: ps).length : Int)]) = H4 at u1 g1 ⊢
              refine ⟨(by show 2 ≤ sizeLine; decide), fun p2 n2 => ?_⟩
              have u2 := same_new (o := .tup [.str "point", .int 2]) n2
              have g2 : upd H4 p2 (.tup [.str "point", .int 2]) p2 = some (.tup [.str "point", .int 2]) := upd_same
              generalize upd H4 p2 (.tup [.str "point", .int 2]) = H5 at u2 g2 ⊢
              refine ⟨(by show 2 ≤ sizeLine; decide), fun p3 n3 => ?_⟩
              have u3 := same_new (o := .tup [.str "over", .int 3]) n3
              have g3 : upd H5 p3 (.tup [.str "over", .int 3]) p3 = some (.tup [.str "over", .int 3]) := upd_same
              generalize upd H5 p3 (.tup [.str "over", .int 3]) = H6 at u3 g3 ⊢
              refine ⟨(by show 2 ≤ sizeLine; decide), fun p4 n4 => ?_⟩
              have u4 := same_new (o := .tup [.ref p2, .ref p3]) n4
              have s36 := (u1.trans u2).trans (u3.trans u4)
              have sz := hsh z ps rfl
              have sd : SeqAt.shaped (.tuple [.str z, .int ((ps.length + 1 : Nat) : Int)]) = true := by
                have c := SeqAt.canLay_of_shaped sz
                unfold SeqAt.shaped
                rw [show PyData.canLay0 (.tuple [.str z, .int ((ps.length + 1 : Nat) : Int)]) = true by show (PyData.canLay0 (.str z) && true) = true; rw [c]; rfl]
                rfl
              refine ⟨.tuple [.str z, .int ((ps.length + 1 : Nat) : Int)], [.tuple [.str "point", .int 2], .tuple [.str "over", .int 3]], .tup (SqT.of (u4 _ _ (u3 _ _ (u2 _ _ g1)))) (.cons (.str z) (.cons (.int _) .nil)), .tup (SqT.of upd_same) (.cons (.tup (SqT.of (u4 _ _ (u3 _ _ g2))) (.cons (.str _) (.cons (.int _) .nil))) (.cons (.tup (SqT.of (u4 _ _ g3)) (.cons (.str _) (.cons (.int _) .nil))) .nil)), sd, by decide +kernel, ?_⟩
              have fin := q _ (k3.same s36) (tb3.same s36)
              have z1 : markB (.str z :: ps) = (decide (z = "point" ∧ ps.length = 1) || decide (z = "over" ∧ ps.length = 2)) := by
                show (ps.all natV && _) = _
                rw [al, Bool.true_and]
              rw [z1, ← mark_in] at fin
              exact fin
          | _ => exact iteT (q H (Kp.refl H) tb)
    · obtain ⟨t, ty, kt⟩ := notup_ok (K := K) nt
      refine ⟨_, rfl, _, _, _, _, false, rfl, ClsV.ty _, ty, kt, _, rfl, iteT ?_⟩
      exact iteT (q H (Kp.refl H) tb)
def spName (T : Top K mg) : Sp := fun vs H Q _ => ∃ (v : V) (b : Bool), vs = [v] ∧ Tb T.tbs H ∧ AnyV H v ∧ MkV H v b ∧ ∀ H', Kp H H' → Tb T.tbs H' → Q (.bl (wholeB v || b)) H'
theorem ok_name (T : Top K mg) (TB : GxR.TabB base mg T.cM T.PM) : FnOk P w K mg base CX0 4 T.a_isname T.d_isname ["thing"] (spName T) := by
  have G_iswhole : FnOk P w K mg base CX0 1 _ _ _ _ := ok_whole T
  have G_ismark : FnOk P w K mg base CX0 3 _ _ _ _ := ok_mark T TB
  refine T.F_isname.ok sc_isname (fun vs H Q E h => ?_) (fun cdv A outer s H vs Q E hr h => ?_)
  · obtain ⟨v, b, rfl, _⟩ := h
    rfl
  · obtain ⟨v, b, rfl, tb, av, mk, q⟩ := h
    refine ⟨_, (pss_one (ps_ret (pe_or (pe_call G_iswhole (hr.mono (by decide)) (by rfl) T.g_iswhole T.F_iswhole.kp T.b_iswhole .nil pass0 (pa_cons (pv 0) pa_nil)) (pe_one (pe_call G_ismark hr (by rfl) T.g_ismark T.F_ismark.kp T.b_ismark .nil pass0 (pa_cons (pv 0) pa_nil)))))), ?_⟩
    refine ⟨_, rfl, v, rfl, av, _, rfl, ?_⟩
    cases hw : wholeB v with
    | true =>
      refine iteT ?_
      have := q H (Kp.refl H) tb
      rw [hw] at this
      exact this
    | false =>
      refine iteF ?_
      refine ⟨_, rfl, v, b, rfl, tb, mk, fun H1 k1 tb1 => ?_⟩
      have := q H1 k1 tb1
      rw [hw] at this
      exact this
end

end My
namespace My
open PySem L2
theorem iteNN {c A B : Prop} [Decidable c] (hc : ¬ c) (h : A) : if (!decide c) = true then A else B := by
  rw [decide_eq_false hc]
  exact iteT h
theorem Same.none {H H' : Hp} {d : Addr} (s : Same H H') (n : H' d = none) : H d = none := by
  cases e : H d with
  | none => rfl
  | some o =>
    rw [s _ _ e] at n
    cases n
theorem same_put {H H1 : Hp} {d : Addr} {o : HO} (s : Same H H1) (n : H d = none) : Same H (upd H1 d o) := fun b u z => by
  rw [upd_ne (ne_of_none z n)]
  exact s b u z

/-! ### the pot of draws -/
theorem emod_small {x m j : Int} (h : 0 < m) (h2 : m < 2 ^ 64) : CMul (x % m) j := .inl ⟨by have := Int.emod_nonneg x (show m ≠ 0 by omega); omega, by have := Int.emod_lt_of_pos x h; omega⟩
theorem lay_ints : ∀ l : List Int, PyData.canLayAll0 (l.map .int) = true ∧ PyData.depthAll (l.map .int) ≤ 1
  | [] => ⟨rfl, Nat.zero_le _⟩
  | x :: r => by
    have ih := lay_ints r
    refine ⟨?_, ?_⟩
    · show (PyData.canLay0 (.int x) && PyData.canLayAll0 (r.map .int)) = true
      rw [ih.1, Bool.and_true]
      rfl
    · show max (PyData.depth (.int x)) (PyData.depthAll (r.map .int)) ≤ 1
      exact Nat.max_le.mpr ⟨Nat.zero_le _, ih.2⟩
theorem dp_intsL {K : PySem.W.Frag} {H : Hp} : ∀ l : List Int, DpAll K H (l.map V.int) (l.map PyData.int)
  | [] => .nil
  | x :: l => .cons (.int x) (dp_intsL l)
theorem shp_ints (l : List Int) : SeqAt.shaped (.list (l.map .int)) = true := by
  have h := lay_ints l
  unfold SeqAt.shaped
  rw [show PyData.canLay0 (.list (l.map .int)) = true from h.1, decide_eq_true (show PyData.depth (.list (l.map .int)) ≤ 64 by show PyData.depthAll _ + 1 ≤ 64; omega)]
  rfl
theorem eq_nilL : ∀ l : List Int, PyData.eqv (.list (l.map .int)) (.list []) = l.isEmpty
  | [] => by decide +kernel
  | x :: l => by
    show PyData.eqv (.list (.int x :: l.map .int)) (.list []) = false
    simp [PyData.eqv, PyData.eqvAll]
theorem ix0 (n : Nat) : ixN (n + 1) 0 = some 0 := by
  unfold ixN
  simp
  try omega
/-- all but b and L as it was -/
def But2 (b L : Addr) (H H' : Hp) : Prop := ∀ a o, H a = some o → a ≠ b → a ≠ L → H' a = some o
theorem But2.refl {b L : Addr} {H : Hp} : But2 b L H H := fun _ _ e _ _ => e
theorem But2.same {b L : Addr} {H H1 H2 : Hp} (k : But2 b L H H1) (s : Same H1 H2) : But2 b L H H2 := fun a o e n1 n2 => s _ _ (k a o e n1 n2)
theorem But2.trans {b L : Addr} {H H1 H2 : Hp} (k : But2 b L H H1) (g : But2 b L H1 H2) : But2 b L H H2 := fun a o e n1 n2 => g a o (k a o e n1 n2) n1 n2
theorem But2.putL {b L : Addr} {H H1 : Hp} {o : HO} (k : But2 b L H H1) : But2 b L H (upd H1 L o) := fun a x e n1 n2 => by
  rw [upd_ne n2]
  exact k a x e n1 n2
theorem But2.putB {b L : Addr} {H H1 : Hp} {o : HO} (k : But2 b L H H1) : But2 b L H (upd H1 b o) := fun a x e n1 n2 => by
  rw [upd_ne n1]
  exact k a x e n1 n2

end My
namespace My
open PySem L2
/-! ### the object of the links -/
structure LA where
  h : Addr
  dl : Addr
  dr : Addr
  da : Addr
  dt : Addr
def LA.as (A : LA) : List Addr := [A.h, A.dl, A.dr, A.da, A.dt]
def fldsL (A : LA) (k : Int) : List (Str × V) := putF "looked" (.int k) (putF "turned" (.ref A.dt) (putF "above" (.ref A.da) (putF "right" (.ref A.dr) (putF "left" (.ref A.dl) []))))
theorem nLa : ¬ ("left" : Str) = "right" := by decide +kernel
theorem nLb : ¬ ("left" : Str) = "above" := by decide +kernel
theorem nLc : ¬ ("left" : Str) = "turned" := by decide +kernel
theorem nLd : ¬ ("left" : Str) = "looked" := by decide +kernel
theorem nLe : ¬ ("right" : Str) = "above" := by decide +kernel
theorem nLf : ¬ ("right" : Str) = "turned" := by decide +kernel
theorem nLg : ¬ ("right" : Str) = "looked" := by decide +kernel
theorem nLh : ¬ ("above" : Str) = "turned" := by decide +kernel
theorem nLi : ¬ ("above" : Str) = "looked" := by decide +kernel
theorem nLj : ¬ ("turned" : Str) = "looked" := by decide +kernel
theorem fl_left (A : LA) (k : Int) : (fldsL A k).lookup ("left" : Str) = some (.ref A.dl) := by
  unfold fldsL
  rw [lookup_putF, if_neg nLd, lookup_putF, if_neg nLc, lookup_putF, if_neg nLb, lookup_putF, if_neg nLa, lookup_putF, if_pos rfl]
theorem fl_right (A : LA) (k : Int) : (fldsL A k).lookup ("right" : Str) = some (.ref A.dr) := by
  unfold fldsL
  rw [lookup_putF, if_neg nLg, lookup_putF, if_neg nLf, lookup_putF, if_neg nLe, lookup_putF, if_pos rfl]
theorem fl_above (A : LA) (k : Int) : (fldsL A k).lookup ("above" : Str) = some (.ref A.da) := by
  unfold fldsL
  rw [lookup_putF, if_neg nLi, lookup_putF, if_neg nLh, lookup_putF, if_pos rfl]
theorem fl_turned (A : LA) (k : Int) : (fldsL A k).lookup ("turned" : Str) = some (.ref A.dt) := by
  unfold fldsL
  rw [lookup_putF, if_neg nLj, lookup_putF, if_pos rfl]
theorem fl_looked (A : LA) (k : Int) : (fldsL A k).lookup ("looked" : Str) = some (.int k) := by
  unfold fldsL
  rw [lookup_putF, if_pos rfl]
theorem fl_no (A : LA) (k : Int) {m : Str} (h1 : ¬ m = "left") (h2 : ¬ m = "right") (h3 : ¬ m = "above") (h4 : ¬ m = "turned") (h5 : ¬ m = "looked") : (fldsL A k).lookup m = none := by
  unfold fldsL
  rw [lookup_putF, if_neg h5, lookup_putF, if_neg h4, lookup_putF, if_neg h3, lookup_putF, if_neg h2, lookup_putF, if_neg h1]
  rfl
theorem fl_put (A : LA) (k m : Int) : putF "looked" (.int m) (fldsL A k) = fldsL A m := putF_putF _ _ _ _
theorem fl_len (A : LA) (k : Int) : (fldsL A k).length < 1000 := by
  unfold fldsL
  have a1 := putF_len "left" (.ref A.dl) []
  have a2 := putF_len "right" (.ref A.dr) (putF "left" (.ref A.dl) [])
  have a3 := putF_len "above" (.ref A.da) (putF "right" (.ref A.dr) (putF "left" (.ref A.dl) []))
  have a4 := putF_len "turned" (.ref A.dt) (putF "above" (.ref A.da) (putF "right" (.ref A.dr) (putF "left" (.ref A.dl) [])))
  have a5 := putF_len "looked" (.int k) (putF "turned" (.ref A.dt) (putF "above" (.ref A.da) (putF "right" (.ref A.dr) (putF "left" (.ref A.dl) []))))
  have a0 : ([] : List (Str × V)).length = 0 := rfl
  omega
structure LinksAt (C : Addr) (H : Hp) (A : LA) (S : Lk Int) : Prop where
  ob : ∃ dx, H A.h = some (.ins C dx (fldsL A (S.lk : Int)))
  hl : H A.dl = some (.dK (dN S.ns fun x => onV (S.l x)))
  hr : H A.dr = some (.dK (dN S.ns fun x => onV (S.r x)))
  ha : H A.da = some (.dK (dN S.ns fun x => onV (S.a x)))
  ht : H A.dt = some (.dK (dN S.ns fun x => .bl (S.t x)))
  n1 : A.dl ≠ A.dr
  n2 : A.dl ≠ A.da
  n3 : A.dl ≠ A.dt
  n4 : A.dr ≠ A.da
  n5 : A.dr ≠ A.dt
  n6 : A.da ≠ A.dt
  nn : S.ns.Nodup
  sz : S.ns.length ≤ 1000
/-- all but the links as it was -/
def ButA (A : LA) (H H' : Hp) : Prop := ∀ b o, H b = some o → b ∉ A.as → H' b = some o
theorem ButA.refl {A : LA} {H : Hp} : ButA A H H := fun _ _ e _ => e
theorem ButA.trans {A : LA} {H H1 H2 : Hp} (x : ButA A H H1) (y : ButA A H1 H2) : ButA A H H2 := fun b o e n => y b o (x b o e n) n
theorem ButA.of_same {A : LA} {H H1 : Hp} (s : Same H H1) : ButA A H H1 := fun b o e _ => s b o e
theorem ButA.same {A : LA} {H H1 H2 : Hp} (x : ButA A H H1) (s : Same H1 H2) : ButA A H H2 := fun b o e n => s b o (x b o e n)
theorem ButA.put {A : LA} {H H1 : Hp} {p : Addr} {o : HO} (x : ButA A H H1) (m : p ∈ A.as) : ButA A H (upd H1 p o) := fun b u e n => by
  rw [upd_ne fun (z : b = p) => n (z ▸ m)]
  exact x b u e n
theorem LA.mh (A : LA) : A.h ∈ A.as := List.mem_cons_self
theorem LA.ml (A : LA) : A.dl ∈ A.as := List.mem_cons_of_mem _ List.mem_cons_self
theorem LA.mr (A : LA) : A.dr ∈ A.as := List.mem_cons_of_mem _ (List.mem_cons_of_mem _ List.mem_cons_self)
theorem LA.ma (A : LA) : A.da ∈ A.as := List.mem_cons_of_mem _ (List.mem_cons_of_mem _ (List.mem_cons_of_mem _ List.mem_cons_self))
theorem LA.mt (A : LA) : A.dt ∈ A.as := List.mem_cons_of_mem _ (List.mem_cons_of_mem _ (List.mem_cons_of_mem _ (List.mem_cons_of_mem _ List.mem_cons_self)))
section
variable {C : Addr} {H H' : Hp} {A : LA} {S : Lk Int}
theorem LinksAt.same (L : LinksAt C H A S) (s : Same H H') : LinksAt C H' A S := by
  obtain ⟨dx, e⟩ := L.ob
  exact ⟨⟨dx, s _ _ e⟩, s _ _ L.hl, s _ _ L.hr, s _ _ L.ha, s _ _ L.ht, L.n1, L.n2, L.n3, L.n4, L.n5, L.n6, L.nn, L.sz⟩
theorem LinksAt.keep (L : LinksAt C H A S) (s : ∀ b ∈ A.as, ∀ o, H b = some o → H' b = some o) : LinksAt C H' A S := by
  obtain ⟨dx, e⟩ := L.ob
  exact ⟨⟨dx, s _ A.mh _ e⟩, s _ A.ml _ L.hl, s _ A.mr _ L.hr, s _ A.ma _ L.ha, s _ A.mt _ L.ht, L.n1, L.n2, L.n3, L.n4, L.n5, L.n6, L.nn, L.sz⟩
theorem LinksAt.hn (L : LinksAt C H A S) : A.h ≠ A.dl ∧ A.h ≠ A.dr ∧ A.h ≠ A.da ∧ A.h ≠ A.dt := by
  obtain ⟨dx, e⟩ := L.ob
  exact ⟨ne_of e L.hl (by intro z; cases z), ne_of e L.hr (by intro z; cases z), ne_of e L.ha (by intro z; cases z), ne_of e L.ht (by intro z; cases z)⟩
/-- what is of another kind is none of it -/
theorem LinksAt.nin (L : LinksAt C H A S) {b : Addr} {o : HO} (e : H b = some o) (h1 : ∀ dx fs, o ≠ .ins C dx fs) (h2 : ∀ kvs, o ≠ .dK kvs) : b ∉ A.as := fun m => by
  obtain ⟨dx, eh⟩ := L.ob
  unfold LA.as at m
  simp only [List.mem_cons, List.not_mem_nil, or_false] at m
  rcases m with rfl | rfl | rfl | rfl | rfl
  · exact h1 _ _ (Option.some.inj (e.symm.trans eh))
  · exact h2 _ (Option.some.inj (e.symm.trans L.hl))
  · exact h2 _ (Option.some.inj (e.symm.trans L.hr))
  · exact h2 _ (Option.some.inj (e.symm.trans L.ha))
  · exact h2 _ (Option.some.inj (e.symm.trans L.ht))
theorem LinksAt.nnew (L : LinksAt C H A S) {b : Addr} (e : H b = none) : b ∉ A.as := fun m => by
  obtain ⟨dx, eh⟩ := L.ob
  unfold LA.as at m
  simp only [List.mem_cons, List.not_mem_nil, or_false] at m
  rcases m with rfl | rfl | rfl | rfl | rfl
  · exact nomatch e.symm.trans eh
  · exact nomatch e.symm.trans L.hl
  · exact nomatch e.symm.trans L.hr
  · exact nomatch e.symm.trans L.ha
  · exact nomatch e.symm.trans L.ht
theorem LinksAt.putL (L : LinksAt C H A S) {x : Int} {y : Option Int} (m : x ∈ S.ns) : LinksAt C (upd H A.dl (.dK (putK (dN S.ns fun x => onV (S.l x)) (Sum.inl x) (onV y)))) A { S with l := up1 S.l x y } := by
  obtain ⟨dx, e⟩ := L.ob
  obtain ⟨h1, h2, h3, h4⟩ := L.hn
  refine ⟨⟨dx, by rw [upd_ne h1]; exact e⟩, by rw [upd_same, dN_put m, up1_on], by rw [upd_ne L.n1.symm]; exact L.hr, by rw [upd_ne L.n2.symm]; exact L.ha, by rw [upd_ne L.n3.symm]; exact L.ht, L.n1, L.n2, L.n3, L.n4, L.n5, L.n6, L.nn, L.sz⟩
theorem LinksAt.putR (L : LinksAt C H A S) {x : Int} {y : Option Int} (m : x ∈ S.ns) : LinksAt C (upd H A.dr (.dK (putK (dN S.ns fun x => onV (S.r x)) (Sum.inl x) (onV y)))) A { S with r := up1 S.r x y } := by
  obtain ⟨dx, e⟩ := L.ob
  obtain ⟨h1, h2, h3, h4⟩ := L.hn
  refine ⟨⟨dx, by rw [upd_ne h2]; exact e⟩, by rw [upd_ne L.n1]; exact L.hl, by rw [upd_same, dN_put m, up1_on], by rw [upd_ne L.n4.symm]; exact L.ha, by rw [upd_ne L.n5.symm]; exact L.ht, L.n1, L.n2, L.n3, L.n4, L.n5, L.n6, L.nn, L.sz⟩
theorem LinksAt.putA (L : LinksAt C H A S) {x : Int} {y : Option Int} (m : x ∈ S.ns) : LinksAt C (upd H A.da (.dK (putK (dN S.ns fun x => onV (S.a x)) (Sum.inl x) (onV y)))) A { S with a := up1 S.a x y } := by
  obtain ⟨dx, e⟩ := L.ob
  obtain ⟨h1, h2, h3, h4⟩ := L.hn
  refine ⟨⟨dx, by rw [upd_ne h3]; exact e⟩, by rw [upd_ne L.n2]; exact L.hl, by rw [upd_ne L.n4]; exact L.hr, by rw [upd_same, dN_put m, up1_on], by rw [upd_ne L.n6.symm]; exact L.ht, L.n1, L.n2, L.n3, L.n4, L.n5, L.n6, L.nn, L.sz⟩
theorem LinksAt.putT (L : LinksAt C H A S) {x : Int} {y : Bool} (m : x ∈ S.ns) : LinksAt C (upd H A.dt (.dK (putK (dN S.ns fun x => .bl (S.t x)) (Sum.inl x) (.bl y)))) A { S with t := up1 S.t x y } := by
  obtain ⟨dx, e⟩ := L.ob
  obtain ⟨h1, h2, h3, h4⟩ := L.hn
  refine ⟨⟨dx, by rw [upd_ne h4]; exact e⟩, by rw [upd_ne L.n3]; exact L.hl, by rw [upd_ne L.n5]; exact L.hr, by rw [upd_ne L.n6]; exact L.ha, by rw [upd_same, dN_put m, up1_bl], L.n1, L.n2, L.n3, L.n4, L.n5, L.n6, L.nn, L.sz⟩
end
section
variable {K : PySem.W.Frag} {mg : Str → Option Value} {H : Hp} {A : LA} {S : Lk Int}
theorem rdL (T : Top K mg) {i j : Nat} {σ : L2.St} {Q : V → Hp → Prop} {x : Int} (L : LinksAt T.C_Links H A S) (m : x ∈ S.ns) (h0 : σ[i]? = some (some (.ref A.h))) (h1 : σ[j]? = some (some (.int x))) (q : Q (onV (S.l x)) H) : tDGet (tFld K (tVar i) "left") (tVar j) σ H Q := by
  obtain ⟨dx, hh⟩ := L.ob
  refine ⟨_, h0, A.h, T.C_Links, dx, _, _, rfl, hh, T.cl_Links, T.na_Links_left, fl_left _ _, _, h1, A.dl, _, rfl, ?_, q⟩
  have g := DGet.k (k := Sum.inl x) L.hl
  rw [dN_get m] at g
  exact g
theorem rdR (T : Top K mg) {i j : Nat} {σ : L2.St} {Q : V → Hp → Prop} {x : Int} (L : LinksAt T.C_Links H A S) (m : x ∈ S.ns) (h0 : σ[i]? = some (some (.ref A.h))) (h1 : σ[j]? = some (some (.int x))) (q : Q (onV (S.r x)) H) : tDGet (tFld K (tVar i) "right") (tVar j) σ H Q := by
  obtain ⟨dx, hh⟩ := L.ob
  refine ⟨_, h0, A.h, T.C_Links, dx, _, _, rfl, hh, T.cl_Links, T.na_Links_right, fl_right _ _, _, h1, A.dr, _, rfl, ?_, q⟩
  have g := DGet.k (k := Sum.inl x) L.hr
  rw [dN_get m] at g
  exact g
theorem rdA (T : Top K mg) {i j : Nat} {σ : L2.St} {Q : V → Hp → Prop} {x : Int} (L : LinksAt T.C_Links H A S) (m : x ∈ S.ns) (h0 : σ[i]? = some (some (.ref A.h))) (h1 : σ[j]? = some (some (.int x))) (q : Q (onV (S.a x)) H) : tDGet (tFld K (tVar i) "above") (tVar j) σ H Q := by
  obtain ⟨dx, hh⟩ := L.ob
  refine ⟨_, h0, A.h, T.C_Links, dx, _, _, rfl, hh, T.cl_Links, T.na_Links_above, fl_above _ _, _, h1, A.da, _, rfl, ?_, q⟩
  have g := DGet.k (k := Sum.inl x) L.ha
  rw [dN_get m] at g
  exact g
theorem rdT (T : Top K mg) {i j : Nat} {σ : L2.St} {Q : V → Hp → Prop} {x : Int} (L : LinksAt T.C_Links H A S) (m : x ∈ S.ns) (h0 : σ[i]? = some (some (.ref A.h))) (h1 : σ[j]? = some (some (.int x))) (q : Q (.bl (S.t x)) H) : tDGet (tFld K (tVar i) "turned") (tVar j) σ H Q := by
  obtain ⟨dx, hh⟩ := L.ob
  refine ⟨_, h0, A.h, T.C_Links, dx, _, _, rfl, hh, T.cl_Links, T.na_Links_turned, fl_turned _ _, _, h1, A.dt, _, rfl, ?_, q⟩
  have g := DGet.k (k := Sum.inl x) L.ht
  rw [dN_get m] at g
  exact g
theorem wrL (T : Top K mg) {i j : Nat} {σ : L2.St} {R : Hp → Prop} {x : Int} {y : Option Int} (L : LinksAt T.C_Links H A S) (m : x ∈ S.ns) (h0 : σ[i]? = some (some (.ref A.h))) (h1 : σ[j]? = some (some (.int x))) (q : ∀ H2, ButA A H H2 → LinksAt T.C_Links H2 A { S with l := up1 S.l x y } → R H2) : tFld K (tVar i) "left" σ H fun x1 H2 => tVar j σ H2 fun y1 H3 => ∃ a H4, x1 = .ref a ∧ DPut H3 a y1 (onV y) H4 ∧ R H4 := by
  obtain ⟨dx, hh⟩ := L.ob
  exact ⟨_, h0, A.h, T.C_Links, dx, _, _, rfl, hh, T.cl_Links, T.na_Links_left, fl_left _ _, _, h1, A.dl, _, rfl, DPut.k (k := Sum.inl x) L.hl (by rw [dN_len]; exact szl (by have := L.sz; omega)), q _ (ButA.refl.put A.ml) (L.putL m)⟩
theorem wrR (T : Top K mg) {i j : Nat} {σ : L2.St} {R : Hp → Prop} {x : Int} {y : Option Int} (L : LinksAt T.C_Links H A S) (m : x ∈ S.ns) (h0 : σ[i]? = some (some (.ref A.h))) (h1 : σ[j]? = some (some (.int x))) (q : ∀ H2, ButA A H H2 → LinksAt T.C_Links H2 A { S with r := up1 S.r x y } → R H2) : tFld K (tVar i) "right" σ H fun x1 H2 => tVar j σ H2 fun y1 H3 => ∃ a H4, x1 = .ref a ∧ DPut H3 a y1 (onV y) H4 ∧ R H4 := by
  obtain ⟨dx, hh⟩ := L.ob
  exact ⟨_, h0, A.h, T.C_Links, dx, _, _, rfl, hh, T.cl_Links, T.na_Links_right, fl_right _ _, _, h1, A.dr, _, rfl, DPut.k (k := Sum.inl x) L.hr (by rw [dN_len]; exact szl (by have := L.sz; omega)), q _ (ButA.refl.put A.mr) (L.putR m)⟩
theorem wrA (T : Top K mg) {i j : Nat} {σ : L2.St} {R : Hp → Prop} {x : Int} {y : Option Int} (L : LinksAt T.C_Links H A S) (m : x ∈ S.ns) (h0 : σ[i]? = some (some (.ref A.h))) (h1 : σ[j]? = some (some (.int x))) (q : ∀ H2, ButA A H H2 → LinksAt T.C_Links H2 A { S with a := up1 S.a x y } → R H2) : tFld K (tVar i) "above" σ H fun x1 H2 => tVar j σ H2 fun y1 H3 => ∃ a H4, x1 = .ref a ∧ DPut H3 a y1 (onV y) H4 ∧ R H4 := by
  obtain ⟨dx, hh⟩ := L.ob
  exact ⟨_, h0, A.h, T.C_Links, dx, _, _, rfl, hh, T.cl_Links, T.na_Links_above, fl_above _ _, _, h1, A.da, _, rfl, DPut.k (k := Sum.inl x) L.ha (by rw [dN_len]; exact szl (by have := L.sz; omega)), q _ (ButA.refl.put A.ma) (L.putA m)⟩
theorem wrT (T : Top K mg) {i j : Nat} {σ : L2.St} {R : Hp → Prop} {x : Int} {y : Bool} (L : LinksAt T.C_Links H A S) (m : x ∈ S.ns) (h0 : σ[i]? = some (some (.ref A.h))) (h1 : σ[j]? = some (some (.int x))) (q : ∀ H2, ButA A H H2 → LinksAt T.C_Links H2 A { S with t := up1 S.t x y } → R H2) : tFld K (tVar i) "turned" σ H fun x1 H2 => tVar j σ H2 fun y1 H3 => ∃ a H4, x1 = .ref a ∧ DPut H3 a y1 (.bl y) H4 ∧ R H4 := by
  obtain ⟨dx, hh⟩ := L.ob
  exact ⟨_, h0, A.h, T.C_Links, dx, _, _, rfl, hh, T.cl_Links, T.na_Links_turned, fl_turned _ _, _, h1, A.dt, _, rfl, DPut.k (k := Sum.inl x) L.ht (by rw [dN_len]; exact szl (by have := L.sz; omega)), q _ (ButA.refl.put A.mt) (L.putT m)⟩
end
section
variable {P : Program} {w : World} {K : PySem.W.Frag} {mg : Str → Option Value} {base : Heap}
def spSetL (C : Addr) : Sp := fun vs H Q _ => ∃ (A : LA) (S : Lk Int) (x : Int) (y : Option Int), vs = [.ref A.h, .int x, onV y] ∧ LinksAt C H A S ∧ x ∈ S.ns ∧ (∀ z, y = some z → z ∈ S.ns) ∧ ∀ H', ButA A H H' → LinksAt C H' A (S.setL x y) → Q .non H'
theorem ok_setL (T : Top K mg) : FnOk P w K mg base CX0 1 T.a_Linkssetleft T.d_Linkssetleft ["self", "x", "y"] (spSetL T.C_Links) := by
  refine T.F_Linkssetleft.ok sc_Linkssetleft (fun vs H Q E h => ?_) (fun cdv A outer s H vs Q E hr h => ?_)
  · obtain ⟨A, S, x, y, rfl, _⟩ := h
    rfl
  · obtain ⟨A, S, x, y, rfl, L, m, my, q⟩ := h
    refine ⟨_, (pss_cons (ps_dput (u1 hr) (pe_fld (pv 0) rfl) (pv 1) (pv 2) rfl)
      (pss_one (ps_if (pt_cmpR op_notN (pv 2) pe_non (nomark _)) (pss_one (ps_dput (u1 hr) (pe_fld (pv 0) rfl) (pv 2) (pv 1) rfl)) pss_nil))), ?_⟩
    refine ⟨_, rfl, wrL T L m rfl rfl fun H2 k2 L2 => ?_⟩
    refine ⟨_, rfl, rfl, _, rfl, ?_⟩
    cases y with
    | none => exact q _ k2 L2
    | some y =>
      refine ifT rfl ⟨_, rfl, wrA T (y := some x) L2 (my y rfl) rfl rfl fun H3 k3 L3 => ?_⟩
      exact q _ (k2.trans k3) L3
def spSetR (C : Addr) : Sp := fun vs H Q _ => ∃ (A : LA) (S : Lk Int) (x : Int) (y : Option Int), vs = [.ref A.h, .int x, onV y] ∧ LinksAt C H A S ∧ x ∈ S.ns ∧ (∀ z, y = some z → z ∈ S.ns) ∧ ∀ H', ButA A H H' → LinksAt C H' A (S.setR x y) → Q .non H'
theorem ok_setR (T : Top K mg) : FnOk P w K mg base CX0 1 T.a_Linkssetright T.d_Linkssetright ["self", "x", "y"] (spSetR T.C_Links) := by
  refine T.F_Linkssetright.ok sc_Linkssetright (fun vs H Q E h => ?_) (fun cdv A outer s H vs Q E hr h => ?_)
  · obtain ⟨A, S, x, y, rfl, _⟩ := h
    rfl
  · obtain ⟨A, S, x, y, rfl, L, m, my, q⟩ := h
    refine ⟨_, (pss_cons (ps_dput (u1 hr) (pe_fld (pv 0) rfl) (pv 1) (pv 2) rfl)
      (pss_one (ps_if (pt_cmpR op_notN (pv 2) pe_non (nomark _)) (pss_one (ps_dput (u1 hr) (pe_fld (pv 0) rfl) (pv 2) (pv 1) rfl)) pss_nil))), ?_⟩
    refine ⟨_, rfl, wrR T L m rfl rfl fun H2 k2 L2 => ?_⟩
    refine ⟨_, rfl, rfl, _, rfl, ?_⟩
    cases y with
    | none => exact q _ k2 L2
    | some y =>
      refine ifT rfl ⟨_, rfl, wrA T (y := some x) L2 (my y rfl) rfl rfl fun H3 k3 L3 => ?_⟩
      exact q _ (k2.trans k3) L3
end

end My
namespace My
open PySem L2
/-! ### rising lists -/
theorem rising_nd {ns ys : List Int} (nd : ns.Nodup) (pm : ys.Perm ns) (srt : ys.Pairwise (· ≤ ·)) : ys.Pairwise (· < ·) := by
  have nd2 : ys.Nodup := pm.nodup_iff.mpr nd
  exact (srt.and nd2).imp fun ⟨h1, h2⟩ => Int.lt_iff_le_and_ne.mpr ⟨h1, h2⟩
theorem rising_ext : ∀ {l m : List Int}, l.Pairwise (· < ·) → m.Pairwise (· < ·) → (∀ v, v ∈ l ↔ v ∈ m) → l = m
  | [], [], _, _, _ => rfl
  | [], y :: _, _, _, h => nomatch (h y).mpr List.mem_cons_self
  | x :: _, [], _, _, h => nomatch (h x).mp List.mem_cons_self
  | x :: l, y :: m, hl, hm, h => by
    rw [List.pairwise_cons] at hl hm
    have e : x = y := by
      rcases List.mem_cons.mp ((h x).mp List.mem_cons_self) with e | e
      · exact e
      · rcases List.mem_cons.mp ((h y).mpr List.mem_cons_self) with e2 | e2
        · exact e2.symm
        · have z1 := hm.1 x e
          have z2 := hl.1 y e2
          omega
    subst e
    have t : l = m := rising_ext hl.2 hm.2 fun v => ⟨fun hv => by
      rcases List.mem_cons.mp ((h v).mp (List.mem_cons_of_mem _ hv)) with e | e
      · have := hl.1 v hv
        omega
      · exact e, fun hv => by
      rcases List.mem_cons.mp ((h v).mpr (List.mem_cons_of_mem _ hv)) with e | e
      · have := hm.1 v hv
        omega
      · exact e⟩
    rw [t]

/-! ### the methods of the links -/
structure LRow where
  x : Int
  l : Option Int
  r : Option Int
  a : Option Int
  t : Bool
def LRow.vs (r : LRow) : List V := [.int r.x, onV r.l, onV r.r, onV r.a, .bl r.t]
/-- rows of a shape in the heap -/
inductive TAll (H : Hp) : List V → List LRow → Prop
  | nil : TAll H [] []
  | cons {p : Addr} {vs : List V} {r : LRow} {rs : List LRow} : H p = some (.tup r.vs) → TAll H vs rs → TAll H (.ref p :: vs) (r :: rs)
theorem TAll.mono {H H' : Hp} {vs : List V} {rs : List LRow} (h : TAll H vs rs) (s : ∀ p r, H p = some (.tup r) → H' p = some (.tup r)) : TAll H' vs rs := by
  induction h with
  | nil => exact .nil
  | cons e _ ih => exact .cons (s _ _ e) ih
theorem TAll.same {H H' : Hp} {vs : List V} {rs : List LRow} (h : TAll H vs rs) (s : Same H H') : TAll H' vs rs := h.mono fun p r e => s _ _ e
theorem TAll.length {H : Hp} {vs : List V} {rs : List LRow} (h : TAll H vs rs) : vs.length = rs.length := by
  induction h with
  | nil => rfl
  | cons _ _ ih => rw [List.length_cons, List.length_cons, ih]
theorem TAll.snoc {H : Hp} {vs : List V} {rs : List LRow} {p : Addr} {r : LRow} (h : TAll H vs rs) (e : H p = some (.tup r.vs)) : TAll H (vs ++ [.ref p]) (rs ++ [r]) := by
  induction h with
  | nil => exact .cons e .nil
  | cons e' _ ih => exact .cons e' ih
theorem TAll.at {H : Hp} {vs : List V} {rs : List LRow} (h : TAll H vs rs) : ∀ {i : Nat} {v : V}, vs[i]? = some v → ∃ p r, v = .ref p ∧ rs[i]? = some r ∧ H p = some (.tup r.vs) := by
  induction h with
  | nil => intro i v e; exact nomatch e
  | @cons p vs r rs e _ ih =>
    intro i v ev
    cases i with
    | zero => cases ev; exact ⟨p, r, rfl, rfl, e⟩
    | succ i => exact ih ev
def onD : Option Int → PyData
  | none => .none
  | some i => .int i
def LRow.dat (r : LRow) : PyData := .tuple [.int r.x, onD r.l, onD r.r, onD r.a, .bool r.t]
theorem on_td {K : PySem.W.Frag} {H : Hp} (y : Option Int) : Dp K H (onV y) (onD y) := by
  cases y with
  | none => exact .non
  | some i => exact .int i
theorem TAll.dp {K : PySem.W.Frag} {H : Hp} {vs : List V} {rs : List LRow} (h : TAll H vs rs) : DpAll K H vs (rs.map LRow.dat) := by
  induction h with
  | nil => exact .nil
  | cons e _ ih => exact .cons (.tup (SqT.of e) (.cons (.int _) (.cons (on_td _) (.cons (on_td _) (.cons (on_td _) (.cons (.bl _) .nil)))))) ih
def addN (ns : List Int) (x : Int) : List Int := if x ∈ ns then ns else ns ++ [x]
theorem dN_upd {f : Int → V} {ns : List Int} {x : Int} {v : V} : putK (dN ns f) (Sum.inl x) v = dN (addN ns x) (up1 f x v) := by
  unfold addN
  by_cases m : x ∈ ns
  · rw [if_pos m, dN_put m]
  · rw [if_neg m, dN_new m]
theorem addN_nd {ns : List Int} {x : Int} (h : ns.Nodup) : (addN ns x).Nodup := by
  unfold addN
  split
  · exact h
  · rename_i m
    exact List.nodup_append.mpr ⟨h, List.nodup_cons.mpr ⟨List.not_mem_nil, List.nodup_nil⟩, fun a ma b mb e => m (by rw [List.mem_singleton.mp mb] at e; exact e ▸ ma)⟩
theorem addN_len {ns : List Int} {x : Int} : (addN ns x).length ≤ ns.length + 1 := by
  unfold addN
  split
  · omega
  · rw [List.length_append]
    exact Nat.le_refl _
def Lk.put (S : Lk Int) (r : LRow) : Lk Int := { S with ns := addN S.ns r.x, l := up1 S.l r.x r.l, r := up1 S.r r.x r.r, a := up1 S.a r.x r.a, t := up1 S.t r.x r.t }
def Lk.takes (S : Lk Int) (rs : List LRow) : Lk Int := rs.foldl Lk.put S
theorem LinksAt.put {C : Addr} {H : Hp} {A : LA} {S : Lk Int} (L : LinksAt C H A S) (r : LRow) (sz : S.ns.length < 1000) :
    LinksAt C (upd (upd (upd (upd H A.dl (.dK (putK (dN S.ns fun x => onV (S.l x)) (Sum.inl r.x) (onV r.l)))) A.dr (.dK (putK (dN S.ns fun x => onV (S.r x)) (Sum.inl r.x) (onV r.r)))) A.da (.dK (putK (dN S.ns fun x => onV (S.a x)) (Sum.inl r.x) (onV r.a)))) A.dt (.dK (putK (dN S.ns fun x => .bl (S.t x)) (Sum.inl r.x) (.bl r.t)))) A (S.put r) := by
  obtain ⟨dx, e⟩ := L.ob
  obtain ⟨h1, h2, h3, h4⟩ := L.hn
  refine ⟨⟨dx, by rw [upd_ne h4, upd_ne h3, upd_ne h2, upd_ne h1]; exact e⟩, by rw [upd_ne L.n3, upd_ne L.n2, upd_ne L.n1, upd_same, dN_upd, up1_on]; rfl, by rw [upd_ne L.n5, upd_ne L.n4, upd_same, dN_upd, up1_on]; rfl, by rw [upd_ne L.n6, upd_same, dN_upd, up1_on]; rfl, by rw [upd_same, dN_upd, up1_bl]; rfl, L.n1, L.n2, L.n3, L.n4, L.n5, L.n6, addN_nd L.nn, Nat.le_trans addN_len sz⟩
def emptyLk : Lk Int := ⟨[], fun _ => none, fun _ => none, fun _ => none, fun _ => false, 0⟩
theorem newF {H : Hp} {p d C dx : Addr} {fs fs' : List (Str × V)} {o : HO} (hp : H p = some (.ins C dx fs)) (nd : H d = none) : d ≠ p ∧ upd (upd H d o) p (.ins C dx fs') p = some (.ins C dx fs') ∧ upd (upd H d o) p (.ins C dx fs') d = some o ∧ ∀ c u, H c = some u → c ≠ p → upd (upd H d o) p (.ins C dx fs') c = some u := by
  have dp : d ≠ p := fun e => by
    rw [e, hp] at nd
    exact nomatch nd
  refine ⟨dp, upd_same, by rw [upd_ne dp, upd_same], fun c u e ne => ?_⟩
  rw [upd_ne ne, upd_ne (ne_of_none e nd)]
  exact e
theorem none_of {H H1 : Hp} {p d : Addr} (k : ∀ c u, H c = some u → c ≠ p → H1 c = some u) (dp : d ≠ p) (n : H1 d = none) : H d = none := by
  cases e : H d with
  | none => rfl
  | some u =>
    rw [k d u e dp] at n
    exact nomatch n
section
variable {P : Program} {w : World} {K : PySem.W.Frag} {mg : Str → Option Value} {base : Heap}
def spLinks (C : Addr) : Sp := fun vs H Q _ => ∃ (p dx : Addr), vs = [.ref p] ∧ H p = some (.ins C dx []) ∧ ∀ (A : LA) (H' : Hp), A.h = p → (∀ b ∈ A.as, b ≠ p → H b = none) → LinksAt C H' A emptyLk → (∀ c o, H c = some o → c ≠ p → H' c = some o) → Q .non H'
theorem ok_linit (T : Top K mg) : FnOk P w K mg base CX0 1 T.a_Linksinit T.d_Linksinit ["self"] (spLinks T.C_Links) := by
  refine T.F_Linksinit.ok sc_Linksinit (fun vs H Q E h => ?_) (fun cdv A outer s H vs Q E hr h => ?_)
  · obtain ⟨p, dx, rfl, _⟩ := h
    rfl
  · obtain ⟨p, dx, rfl, hp, q⟩ := h
    refine ⟨_, (pss_cons (ps_fld (pv 0) pe_dnewK rfl)
      (pss_cons (ps_fld (pv 0) pe_dnewK rfl)
      (pss_cons (ps_fld (pv 0) pe_dnewK rfl)
      (pss_cons (ps_fld (pv 0) pe_dnewK rfl)
      (pss_one (ps_fld (pv 0) pe_int rfl)))))), ?_⟩
    refine fun a nda => ⟨_, rfl, p, T.C_Links, dx, _, rfl, (by rw [upd_ne (fun e => by rw [← e, hp] at nda; exact nomatch nda)]; exact hp), T.cl_Links, T.na_Links_left, (by show 0 < 1000; decide), ?_⟩
    obtain ⟨ap, h1, ha, k1⟩ := newF (o := .dK []) (fs' := putF "left" (.ref a) []) hp nda
    generalize upd (upd H a (.dK [])) p (.ins T.C_Links dx (putF "left" (.ref a) [])) = H1 at h1 ha k1 ⊢
    refine fun b ndb => ⟨_, rfl, p, T.C_Links, dx, _, rfl, (by rw [upd_ne (fun e => by rw [← e, h1] at ndb; exact nomatch ndb)]; exact h1), T.cl_Links, T.na_Links_right, (by have := putF_len "left" (.ref a) []; exact Nat.lt_of_le_of_lt this (by decide)), ?_⟩
    obtain ⟨bp, h2, hb, k2⟩ := newF (o := .dK []) (fs' := putF "right" (.ref b) (putF "left" (.ref a) [])) h1 ndb
    have ha2 := k2 _ _ ha ap
    have ab : a ≠ b := ne_of_none ha ndb
    generalize upd (upd H1 b (.dK [])) p (.ins T.C_Links dx (putF "right" (.ref b) (putF "left" (.ref a) []))) = H2 at h2 hb k2 ha2 ⊢
    refine fun c ndc => ⟨_, rfl, p, T.C_Links, dx, _, rfl, (by rw [upd_ne (fun e => by rw [← e, h2] at ndc; exact nomatch ndc)]; exact h2), T.cl_Links, T.na_Links_above, (by have := putF_len "left" (.ref a) []; have := putF_len "right" (.ref b) (putF "left" (.ref a) []); have : ([] : List (Str × V)).length = 0 := rfl; omega), ?_⟩
    obtain ⟨cp, h3, hc, k3⟩ := newF (o := .dK []) (fs' := putF "above" (.ref c) (putF "right" (.ref b) (putF "left" (.ref a) []))) h2 ndc
    have ha3 := k3 _ _ ha2 ap
    have hb3 := k3 _ _ hb bp
    have ac : a ≠ c := ne_of_none ha2 ndc
    have bc : b ≠ c := ne_of_none hb ndc
    generalize upd (upd H2 c (.dK [])) p (.ins T.C_Links dx (putF "above" (.ref c) (putF "right" (.ref b) (putF "left" (.ref a) [])))) = H3 at h3 hc k3 ha3 hb3 ⊢
    refine fun d ndd => ⟨_, rfl, p, T.C_Links, dx, _, rfl, (by rw [upd_ne (fun e => by rw [← e, h3] at ndd; exact nomatch ndd)]; exact h3), T.cl_Links, T.na_Links_turned, (by have := putF_len "left" (.ref a) []; have := putF_len "right" (.ref b) (putF "left" (.ref a) []); have := putF_len "above" (.ref c) (putF "right" (.ref b) (putF "left" (.ref a) [])); have : ([] : List (Str × V)).length = 0 := rfl; omega), ?_⟩
    obtain ⟨dp, h4, hd, k4⟩ := newF (o := .dK []) (fs' := putF "turned" (.ref d) (putF "above" (.ref c) (putF "right" (.ref b) (putF "left" (.ref a) [])))) h3 ndd
    have ha4 := k4 _ _ ha3 ap
    have hb4 := k4 _ _ hb3 bp
    have hc4 := k4 _ _ hc cp
    have ad : a ≠ d := ne_of_none ha3 ndd
    have bd : b ≠ d := ne_of_none hb3 ndd
    have cd : c ≠ d := ne_of_none hc ndd
    generalize upd (upd H3 d (.dK [])) p (.ins T.C_Links dx (putF "turned" (.ref d) (putF "above" (.ref c) (putF "right" (.ref b) (putF "left" (.ref a) []))))) = H4 at h4 hd k4 ha4 hb4 hc4 ⊢
    refine ⟨_, rfl, p, T.C_Links, dx, _, rfl, h4, T.cl_Links, T.na_Links_looked, (by have := putF_len "left" (.ref a) []; have := putF_len "right" (.ref b) (putF "left" (.ref a) []); have := putF_len "above" (.ref c) (putF "right" (.ref b) (putF "left" (.ref a) [])); have := putF_len "turned" (.ref d) (putF "above" (.ref c) (putF "right" (.ref b) (putF "left" (.ref a) []))); have : ([] : List (Str × V)).length = 0 := rfl; omega), ?_⟩
    have na0 : H a = none := nda
    have nb0 : H b = none := none_of k1 bp ndb
    have nc0 : H c = none := none_of k1 cp (none_of k2 cp ndc)
    have nd0 : H d = none := none_of k1 dp (none_of k2 dp (none_of k3 dp ndd))
    refine q ⟨p, a, b, c, d⟩ _ rfl (fun z mz nz => ?_) ⟨⟨dx, upd_same⟩, by rw [upd_ne ap]; exact ha4, by rw [upd_ne bp]; exact hb4, by rw [upd_ne cp]; exact hc4, by rw [upd_ne dp]; exact hd, ab, ac, ad, bc, bd, cd, List.nodup_nil, Nat.zero_le _⟩ fun z o e nz => ?_
    · have mz : z ∈ [p, a, b, c, d] := mz
      simp only [List.mem_cons, List.not_mem_nil, or_false] at mz
      rcases mz with rfl | rfl | rfl | rfl | rfl
      · exact absurd rfl nz
      · exact na0
      · exact nb0
      · exact nc0
      · exact nd0
    · rw [upd_ne nz]
      exact k4 _ _ (k3 _ _ (k2 _ _ (k1 _ _ e nz) nz) nz) nz
theorem takes_len : ∀ {rs : List LRow} {S : Lk Int}, (S.takes rs).ns.length ≤ S.ns.length + rs.length
  | [], S => Nat.le_refl _
  | r :: rs, S => by
    have h := takes_len (rs := rs) (S := S.put r)
    have h2 : (S.put r).ns.length ≤ S.ns.length + 1 := addN_len
    show ((S.put r).takes rs).ns.length ≤ S.ns.length + (rs.length + 1)
    omega
theorem takes_snoc {S : Lk Int} {rs : List LRow} {r : LRow} : S.takes (rs ++ [r]) = (S.takes rs).put r := by
  unfold Lk.takes
  rw [List.foldl_append]
  rfl
theorem tk_at {α : Type} {xs : List α} {i : Nat} {x : α} (h : xs[i]? = some x) : xs.take (i + 1) = xs.take i ++ [x] := by
  rw [List.take_add_one, h]
  rfl
theorem inV_two {x : Int} {y z : Option Int} : inV (.int x) [onV y, onV z] = (decide (y = some x) || decide (z = some x)) := by
  have one : ∀ u : Option Int, eqV (onV u) (.int x) = decide (u = some x) := fun u => by
    cases u with
    | none => rfl
    | some i =>
      show (i == x) = _
      by_cases e : i = x
      · subst e
        simp
      · rw [decide_eq_false fun z => e (Option.some.inj z)]
        exact beq_eq_false_iff_ne.mpr e
  show (eqV (onV y) (.int x) || (eqV (onV z) (.int x) || false)) = _
  rw [one, one, Bool.or_false]
def spIsTop (C : Addr) : Sp := fun vs H Q _ => ∃ (A : LA) (S : Lk Int) (x : Int), vs = [.ref A.h, .int x] ∧ LinksAt C H A S ∧ x ∈ S.ns ∧ Cl S ∧ ∀ (H' : Hp), Same H H' → Q (.bl (S.isTop x)) H'
theorem ok_istop (T : Top K mg) : FnOk P w K mg base CX0 1 T.a_Linksistop T.d_Linksistop ["self", "x"] (spIsTop T.C_Links) := by
  refine T.F_Linksistop.ok sc_Linksistop (fun vs H Q E h => ?_) (fun cdv A outer s H vs Q E hr h => ?_)
  · obtain ⟨A, S, x, rfl, _⟩ := h
    rfl
  · obtain ⟨A, S, x, rfl, L, m, cl, q⟩ := h
    refine ⟨_, (pss_cons (ps_set (i := 2) sc_Linksistop.nd rfl (.inl rfl) (pe_dget (u1 hr) (pe_fld (pv 0) rfl) (pv 1) (fun _ _ => rfl)))
      (pss_one (ps_ret (pe_or (pe_cmpR op_isN (pv 2) pe_non (nomark _)) (pe_one (pe_cmpR op_notIn_seq (pv 1) (pe_tup (pa_cons (pe_dget (u1 hr) (pe_fld (pv 0) rfl) (pv 2) (fun _ _ => rfl)) (pa_cons (pe_dget (u1 hr) (pe_fld (pv 0) rfl) (pv 2) (fun _ _ => rfl)) pa_nil))) (by rfl))))))), ?_⟩
    refine rdA T L m rfl rfl ⟨_, rfl, rfl, _, rfl, ?_⟩
    unfold Lk.isTop at q
    cases e : S.a x with
    | none =>
      rw [e] at q
      exact ifT rfl (q H (fun _ _ z => z))
    | some u =>
      rw [e] at q
      have mu := (cl x m).2.2 u e
      refine ifF rfl ⟨_, rfl, rdL T (i := 0) (j := 2) L mu rfl rfl (rdR T (i := 0) (j := 2) L mu rfl rfl ⟨(by show 2 ≤ sizeLine; decide), fun p np => ?_⟩)⟩
      refine ⟨p, _, rfl, .inr (SqT.of upd_same), rfl, ?_, ?_⟩
      · show (flatV (onV (S.l u)) && (flatV (onV (S.r u)) && true)) = true
        rw [onV_flat, onV_flat]
        rfl
      · show Q (.bl (!inV (.int x) [onV (S.l u), onV (S.r u)])) _
        rw [inV_two]
        exact q _ (same_new np)
def spRefresh (C : Addr) : Sp := fun vs H Q _ => ∃ (h : Addr) (x : Int), vs = [.ref h, .int x] ∧ Q .non H
theorem ok_refresh (T : Top K mg) : FnOk P w K mg base CX0 1 T.a_Linksrefresh T.d_Linksrefresh ["self", "x"] (spRefresh T.C_Links) := by
  refine T.F_Linksrefresh.ok sc_Linksrefresh (fun vs H Q E h => ?_) (fun cdv A outer s H vs Q E hr h => ?_)
  · obtain ⟨h, x, rfl, _⟩ := h
    rfl
  · obtain ⟨h, x, rfl, q⟩ := h
    exact ⟨_, (pss_one ps_pass), q⟩
end
/-! ### turns -/
theorem LinksAt.putK {C : Addr} {H : Hp} {A : LA} {S : Lk Int} (L : LinksAt C H A S) : ∀ dx, H A.h = some (.ins C dx (fldsL A (S.lk : Int))) → LinksAt C (upd H A.h (.ins C dx (putF "looked" (.int ((S.lk : Int) + 1)) (fldsL A (S.lk : Int))))) A { S with lk := S.lk + 1 } := fun dx e => by
  obtain ⟨h1, h2, h3, h4⟩ := L.hn
  refine ⟨⟨dx, by rw [upd_same, fl_put]; rfl⟩, by rw [upd_ne h1.symm]; exact L.hl, by rw [upd_ne h2.symm]; exact L.hr, by rw [upd_ne h3.symm]; exact L.ha, by rw [upd_ne h4.symm]; exact L.ht, L.n1, L.n2, L.n3, L.n4, L.n5, L.n6, L.nn, L.sz⟩
theorem LinksAt.other {C : Addr} {H : Hp} {A : LA} {S : Lk Int} (L : LinksAt C H A S) {p : Addr} {o : HO} (n : p ∉ A.as) : LinksAt C (upd H p o) A S := L.keep fun b mb u e => by
  rw [upd_ne fun (z : b = p) => n (z ▸ mb)]
  exact e
theorem ButA.putN {A : LA} {H H1 : Hp} {p : Addr} {o : HO} (k : ButA A H H1) (n : H p = none) : ButA A H (upd H1 p o) := fun b u e nb => by
  rw [upd_ne (ne_of_none e n)]
  exact k b u e nb
theorem Cl.lk {S : Lk Int} {k : Nat} (h : Cl S) : Cl { S with lk := k } := h
section
variable {P : Program} {w : World} {K : PySem.W.Frag} {mg : Str → Option Value} {base : Heap}
def spInPlace (C : Addr) : Sp := fun vs H Q _ => ∃ (A : LA) (S : Lk Int) (x u : Int), vs = [.ref A.h, .int x, .int u] ∧ LinksAt C H A S ∧ x ∈ S.ns ∧ u ∈ S.ns ∧ Cl S ∧ ∀ H', ButA A H H' → LinksAt C H' A (S.inPlace x u) → Q .non H'
theorem ok_inplace (T : Top K mg) : FnOk P w K mg base CX0 1 T.a_Linksputinplace T.d_Linksputinplace ["self", "x", "u"] (spInPlace T.C_Links) := by
  refine T.F_Linksputinplace.ok sc_Linksputinplace (fun vs H Q E h => ?_) (fun cdv A outer s H vs Q E hr h => ?_)
  · obtain ⟨A, S, x, u, rfl, _⟩ := h
    rfl
  · obtain ⟨A, S, x, u, rfl, L, m, mu, cl, q⟩ := h
    refine ⟨_, (pss_cons (ps_set (i := 3) sc_Linksputinplace.nd rfl (.inl rfl) (pe_dget (u1 hr) (pe_fld (pv 0) rfl) (pv 2) (fun _ _ => rfl)))
      (pss_cons (ps_dput (u1 hr) (pe_fld (pv 0) rfl) (pv 1) (pv 3) rfl)
      (pss_one (ps_if (PW.pt (pw_and (pt_cmpR op_notN (pv 3) pe_non (nomark _)) (pw_and1 (pt_cmpR op_eq (pe_dget (u1 hr) (pe_fld (pv 0) rfl) (pv 3) (fun _ _ => rfl)) (pv 2) (nomark _))))) (pss_one (ps_dput (u1 hr) (pe_fld (pv 0) rfl) (pv 3) (pv 1) rfl)) (pss_one (ps_if (PW.pt (pw_and (pt_cmpR op_notN (pv 3) pe_non (nomark _)) (pw_and1 (pt_cmpR op_eq (pe_dget (u1 hr) (pe_fld (pv 0) rfl) (pv 3) (fun _ _ => rfl)) (pv 2) (nomark _))))) (pss_one (ps_dput (u1 hr) (pe_fld (pv 0) rfl) (pv 3) (pv 1) rfl)) pss_nil)))))), ?_⟩
    refine rdA T (i := 0) (j := 2) L mu rfl rfl ⟨_, rfl, wrA T (i := 0) (j := 1) L m rfl rfl fun H2 k2 L2 => ?_⟩
    unfold Lk.inPlace at q
    refine ⟨_, rfl, rfl, ?_⟩
    cases ea : S.a u with
    | none =>
      rw [ea] at q L2
      exact ⟨_, rfl, ifF rfl (iteF ⟨_, rfl, rfl, _, rfl, ifF rfl (iteF (q H2 k2 L2))⟩)⟩
    | some o =>
      rw [ea] at q L2
      dsimp only at q
      have mo : o ∈ S.ns := (cl u mu).2.2 o ea
      refine ⟨_, rfl, ifT rfl (rdL T (i := 0) (j := 3) L2 mo rfl rfl ⟨_, rfl, onV_scal (y := some u), _, rfl, ?_⟩)⟩
      have eo : decide (onV (S.l o) = V.int u) = decide (S.l o = some u) := onV_int
      dsimp only at eo ⊢
      rw [eo]
      by_cases c : S.l o = some u
      · rw [if_pos c, if_pos c] at q
        rw [decide_eq_true c]
        exact iteT ⟨_, rfl, wrL T (i := 0) (j := 3) (y := some x) L2 mo rfl rfl fun H3 k3 L3 => q H3 (k2.trans k3) L3⟩
      · rw [if_neg c, if_neg c] at q
        rw [decide_eq_false c]
        refine iteF ⟨_, rfl, rfl, _, rfl, ifT rfl (rdR T (i := 0) (j := 3) L2 mo rfl rfl ⟨_, rfl, onV_scal (y := some u), _, rfl, ?_⟩)⟩
        have eo : decide (onV (S.r o) = V.int u) = decide (S.r o = some u) := onV_int
        dsimp only at eo ⊢
        rw [eo]
        by_cases c2 : S.r o = some u
        · rw [if_pos c2] at q
          rw [decide_eq_true c2]
          exact iteT ⟨_, rfl, wrR T (i := 0) (j := 3) (y := some x) L2 mo rfl rfl fun H3 k3 L3 => q H3 (k2.trans k3) L3⟩
        · rw [if_neg c2] at q
          rw [decide_eq_false c2]
          exact iteF (q H2 k2 L2)
def spTurn (C : Addr) : Sp := fun vs H Q _ => ∃ (A : LA) (S : Lk Int) (x u : Int), vs = [.ref A.h, .int x] ∧ LinksAt C H A S ∧ x ∈ S.ns ∧ S.a x = some u ∧ Cl S ∧ ∀ H', ButA A H H' → LinksAt C H' A (S.turn x) → Q .non H'
theorem ok_turn (T : Top K mg) : FnOk P w K mg base CX0 2 T.a_Linksturn T.d_Linksturn ["self", "x"] (spTurn T.C_Links) := by
  have G_Linksputinplace : FnOk P w K mg base CX0 1 _ _ _ _ := ok_inplace T
  have G_Linkssetleft : FnOk P w K mg base CX0 1 _ _ _ _ := ok_setL T
  have G_Linkssetright : FnOk P w K mg base CX0 1 _ _ _ _ := ok_setR T
  have G_Linksrefresh : FnOk P w K mg base CX0 1 _ _ _ _ := ok_refresh T
  refine T.F_Linksturn.ok sc_Linksturn (fun vs H Q E h => ?_) (fun cdv A outer s H vs Q E hr h => ?_)
  · obtain ⟨A, S, x, u, rfl, _⟩ := h
    rfl
  · obtain ⟨A, S, x, u, rfl, L, m, ea, cl, q⟩ := h
    have mu : u ∈ S.ns := (cl x m).2.2 u ea
    obtain ⟨dx, hh⟩ := L.ob
    refine ⟨_, (pss_cons (ps_fldaug (pv 0) pe_int in_add)
      (pss_cons (ps_set (i := 2) sc_Linksturn.nd rfl (.inl rfl) (pe_dget (u1 hr) (pe_fld (pv 0) rfl) (pv 1) (fun _ _ => rfl)))
      (pss_cons (ps_expr (pe_meth (pv 0) T.cl_Links T.me_Linksputinplace G_Linksputinplace hr T.b_Linksputinplace .nil pass0 (pa_cons (pv 1) (pa_cons (pv 2) pa_nil))))
      (pss_cons (ps_if (pt_cmpR op_eq (pe_dget (u1 hr) (pe_fld (pv 0) rfl) (pv 2) (fun _ _ => rfl)) (pv 1) (nomark _)) (pss_cons (ps_expr (pe_meth (pv 0) T.cl_Links T.me_Linkssetleft G_Linkssetleft hr T.b_Linkssetleft .nil pass0 (pa_cons (pv 2) (pa_cons (pe_dget (u1 hr) (pe_fld (pv 0) rfl) (pv 1) (fun _ _ => rfl)) pa_nil))))
      (pss_one (ps_expr (pe_meth (pv 0) T.cl_Links T.me_Linkssetright G_Linkssetright hr T.b_Linkssetright .nil pass0 (pa_cons (pv 1) (pa_cons (pv 2) pa_nil)))))) (pss_cons (ps_expr (pe_meth (pv 0) T.cl_Links T.me_Linkssetright G_Linkssetright hr T.b_Linkssetright .nil pass0 (pa_cons (pv 2) (pa_cons (pe_dget (u1 hr) (pe_fld (pv 0) rfl) (pv 1) (fun _ _ => rfl)) pa_nil))))
      (pss_one (ps_expr (pe_meth (pv 0) T.cl_Links T.me_Linkssetleft G_Linkssetleft hr T.b_Linkssetleft .nil pass0 (pa_cons (pv 1) (pa_cons (pv 2) pa_nil)))))))
      (pss_cons (ps_expr (pe_meth (pv 0) T.cl_Links T.me_Linksrefresh G_Linksrefresh hr T.b_Linksrefresh .nil pass0 (pa_cons (pv 2) pa_nil)))
      (pss_one (ps_expr (pe_meth (pv 0) T.cl_Links T.me_Linksrefresh G_Linksrefresh hr T.b_Linksrefresh .nil pass0 (pa_cons (pv 1) pa_nil))))))))), ?_⟩
    refine ⟨_, rfl, A.h, T.C_Links, dx, _, _, rfl, hh, T.cl_Links, T.na_Links_looked, fl_looked _ _, _, _, rfl, rfl, dx, _, hh, fl_len _ _, ?_⟩
    have k1 : ButA A H (upd H A.h (.ins T.C_Links dx (putF "looked" (.int ((S.lk : Int) + 1)) (fldsL A (S.lk : Int))))) := ButA.refl.put A.mh
    have L1 := L.putK dx hh
    dsimp only
    generalize upd H A.h (.ins T.C_Links dx (putF "looked" (.int ((S.lk : Int) + 1)) (fldsL A (S.lk : Int)))) = H1 at k1 L1 ⊢
    have cl1 : Cl { S with lk := S.lk + 1 } := cl
    have hq : onV (({ S with lk := S.lk + 1 } : Lk Int).a x) = .int u := by
      show onV (S.a x) = _
      rw [ea]
      rfl
    refine rdA T (i := 0) (j := 1) L1 m rfl rfl ?_
    rw [hq]
    obtain ⟨dx1, hh1⟩ := L1.ob
    refine ⟨_, rfl, A.h, dx1, _, rfl, hh1, fl_no _ _ (by decide +kernel) (by decide +kernel) (by decide +kernel) (by decide +kernel) (by decide +kernel), _, rfl, _, rfl, A, _, x, u, rfl, L1, m, mu, cl1, fun H2 k2 L2 => ?_⟩
    have cl2 : Cl ({ S with lk := S.lk + 1 }.inPlace x u) := cl_inPlace cl1 m mu
    unfold Lk.turn at q
    rw [ea] at q
    have q : ∀ H', ButA A H H' → LinksAt T.C_Links H' A (S.turn1 x u) → Q .non H' := q
    unfold Lk.turn1 at q
    dsimp only at q
    have m2 : x ∈ ({ S with lk := S.lk + 1 }.inPlace x u).ns := m
    have mu2 : u ∈ ({ S with lk := S.lk + 1 }.inPlace x u).ns := mu
    generalize { S with lk := S.lk + 1 }.inPlace x u = S1 at L2 cl2 q m2 mu2 ⊢
    refine rdL T (i := 0) (j := 2) L2 mu2 rfl rfl ⟨_, rfl, onV_scal (y := some x), _, rfl, ?_⟩
    have eo : decide (onV (S1.l u) = V.int x) = decide (S1.l u = some x) := onV_int
    dsimp only at eo ⊢
    rw [eo]
    by_cases c : S1.l u = some x
    · rw [if_pos c] at q
      rw [decide_eq_true c]
      obtain ⟨dx2, hh2⟩ := L2.ob
      refine iteT ⟨_, rfl, A.h, dx2, _, rfl, hh2, fl_no _ _ (by decide +kernel) (by decide +kernel) (by decide +kernel) (by decide +kernel) (by decide +kernel), _, rfl, rdR T (i := 0) (j := 1) L2 m2 rfl rfl ⟨A, S1, u, S1.r x, rfl, L2, mu2, fun z e => (cl2 x m2).2.1 z e, fun H3 k3 L3 => ?_⟩⟩
      obtain ⟨dx3, hh3⟩ := L3.ob
      refine ⟨_, rfl, A.h, dx3, _, rfl, hh3, fl_no _ _ (by decide +kernel) (by decide +kernel) (by decide +kernel) (by decide +kernel) (by decide +kernel), _, rfl, _, rfl, A, _, x, some u, rfl, L3, m2, fun z e => by cases e; exact mu2, fun H4 k4 L4 => ?_⟩
      obtain ⟨dx4, hh4⟩ := L4.ob
      refine ⟨_, rfl, A.h, dx4, _, rfl, hh4, fl_no _ _ (by decide +kernel) (by decide +kernel) (by decide +kernel) (by decide +kernel) (by decide +kernel), _, rfl, A.h, u, rfl, ?_⟩
      refine ⟨_, rfl, A.h, dx4, _, rfl, hh4, fl_no _ _ (by decide +kernel) (by decide +kernel) (by decide +kernel) (by decide +kernel) (by decide +kernel), _, rfl, A.h, x, rfl, ?_⟩
      exact q H4 ((k1.trans k2).trans (k3.trans k4)) L4
    · rw [if_neg c] at q
      rw [decide_eq_false c]
      obtain ⟨dx2, hh2⟩ := L2.ob
      refine iteF ⟨_, rfl, A.h, dx2, _, rfl, hh2, fl_no _ _ (by decide +kernel) (by decide +kernel) (by decide +kernel) (by decide +kernel) (by decide +kernel), _, rfl, rdL T (i := 0) (j := 1) L2 m2 rfl rfl ⟨A, S1, u, S1.l x, rfl, L2, mu2, fun z e => (cl2 x m2).1 z e, fun H3 k3 L3 => ?_⟩⟩
      obtain ⟨dx3, hh3⟩ := L3.ob
      refine ⟨_, rfl, A.h, dx3, _, rfl, hh3, fl_no _ _ (by decide +kernel) (by decide +kernel) (by decide +kernel) (by decide +kernel) (by decide +kernel), _, rfl, _, rfl, A, _, x, some u, rfl, L3, m2, fun z e => by cases e; exact mu2, fun H4 k4 L4 => ?_⟩
      obtain ⟨dx4, hh4⟩ := L4.ob
      refine ⟨_, rfl, A.h, dx4, _, rfl, hh4, fl_no _ _ (by decide +kernel) (by decide +kernel) (by decide +kernel) (by decide +kernel) (by decide +kernel), _, rfl, A.h, u, rfl, ?_⟩
      refine ⟨_, rfl, A.h, dx4, _, rfl, hh4, fl_no _ _ (by decide +kernel) (by decide +kernel) (by decide +kernel) (by decide +kernel) (by decide +kernel), _, rfl, A.h, x, rfl, ?_⟩
      exact q H4 ((k1.trans k2).trans (k3.trans k4)) L4
end
section
variable {P : Program} {w : World} {K : PySem.W.Frag} {mg : Str → Option Value} {base : Heap}
end
theorem fl_meth (A : LA) (k : Int) {m : Str} (h : decide (m = "left") = false ∧ decide (m = "right") = false ∧ decide (m = "above") = false ∧ decide (m = "turned") = false ∧ decide (m = "looked") = false) : (fldsL A k).lookup m = none :=
  fl_no A k (lnE _ _ h.1) (lnE _ _ h.2.1) (lnE _ _ h.2.2.1) (lnE _ _ h.2.2.2.1) (lnE _ _ h.2.2.2.2)
section
variable {P : Program} {w : World} {K : PySem.W.Frag} {mg : Str → Option Value} {base : Heap}
def rowL (S : Lk Int) (x : Int) : LRow := ⟨x, S.l x, S.r x, S.a x, S.t x⟩
def spShape (C : Addr) : Sp := fun vs H Q _ => ∃ (A : LA) (S : Lk Int), vs = [.ref A.h] ∧ LinksAt C H A S ∧ ∀ (t : Addr) (H' : Hp) (vs : List V) (ms : List Int), Same H H' → ms.Perm S.ns → ms.Pairwise (· ≤ ·) → H t = none → H' t = some (.tup vs) → TAll H' vs (ms.map (rowL S)) → Q (.ref t) H'
theorem ok_shape (T : Top K mg) : FnOk P w K mg base CX0 1 T.a_Linksshape T.d_Linksshape ["self"] (spShape T.C_Links) := by
  refine T.F_Linksshape.ok sc_Linksshape (fun vs H Q E h => ?_) (fun cdv A outer s H vs Q E hr h => ?_)
  · obtain ⟨A, S, rfl, _⟩ := h
    rfl
  · obtain ⟨A, S, rfl, L, q⟩ := h
    obtain ⟨dx, hh⟩ := L.ob
    refine ⟨_, (pss_cons (ps_set (i := 1) sc_Linksshape.nd rfl (.inl rfl) (pe_callB cr_sortedI (by rfl) T.m_sorted (by decide +kernel) (pa_cons (pe_callTy (call_listD rfl) (by rfl) T.m_list (by decide +kernel) (pa_cons (pe_fld (pv 0) rfl) pa_nil)) pa_nil)))
      (pss_one (ps_ret (pe_callTy call_tuple_of (by rfl) T.m_tuple (by decide +kernel) (pa_cons (pe_lc (own := [("x", 2)]) (g := gName 2) (tt := tYes) (by rfl) sc_Linksshape.nd (pi_list (pv 1)) (blkOk_by (own := [("x", 2)]) (N := ["self", "names", "x"]) (sc := defScope s_Linksshape) (by decide +kernel)) (fun _ _ _ _ _ => (pg_name (i := 2) sc_Linksshape.nd rfl (.inl rfl))) (fun _ _ _ _ _ => pts_nil) (fun _ _ _ _ _ => (pe_tup (pa_cons (pv 2) (pa_cons (pe_dget (u1 hr) (pe_fldK (K := K) rfl (pv 0) rfl) (pv 2) (fun _ _ => rfl)) (pa_cons (pe_dget (u1 hr) (pe_fldK (K := K) rfl (pv 0) rfl) (pv 2) (fun _ _ => rfl)) (pa_cons (pe_dget (u1 hr) (pe_fldK (K := K) rfl (pv 0) rfl) (pv 2) (fun _ _ => rfl)) (pa_cons (pe_dget (u1 hr) (pe_fldK (K := K) rfl (pv 0) rfl) (pv 2) (fun _ _ => rfl)) pa_nil)))))))) pa_nil))))), ?_⟩
    refine ⟨_, rfl, A.h, T.C_Links, dx, _, _, rfl, hh, T.cl_Links, T.na_Links_above, fl_above _ _, A.da, _, rfl, .inl L.ha, fun p0 np0 => ?_⟩
    have s1 := same_new (o := .lst ((dN S.ns fun x => onV (S.a x)).map fun kv => kV kv.1)) np0
    have e0 : (dN S.ns fun x => onV (S.a x)).map (fun kv => kV kv.1) = S.ns.map V.int := by
      unfold dN
      rw [List.map_map]
      rfl
    have h0 : upd H p0 (.lst ((dN S.ns fun x => onV (S.a x)).map fun kv => kV kv.1)) p0 = some (.lst (S.ns.map V.int)) := by rw [upd_same, e0]
    generalize upd H p0 (.lst ((dN S.ns fun x => onV (S.a x)).map fun kv => kV kv.1)) = H1 at s1 h0 ⊢
    refine ⟨p0, S.ns, rfl, SqL.of h0, fun ms p1 pm srt np1 => ?_⟩
    have s2 := s1.trans (same_new (o := .lst (ms.map V.int)) np1)
    have h1 : upd H1 p1 (.lst (ms.map V.int)) p1 = some (.lst (ms.map V.int)) := upd_same
    generalize upd H1 p1 (.lst (ms.map V.int)) = H2 at s2 h1 ⊢
    have sz := L.sz
    have lm := pm.length_eq
    refine ⟨_, rfl, p1, rfl, ⟨_, SqL.of h1⟩, fun D nD => ?_⟩
    refine lc_list (K := K) (a := p1) (xs := ms.map V.int) (fun i G => Same H2 G ∧ ∃ vs, G D = some (.lst vs) ∧ TAll G vs ((ms.take i).map (rowL S))) ⟨same_new nD, [], upd_same, .nil⟩ (fun i G _ z => SqL.of (z.1 _ _ h1)) ?_ ?_
    · rintro i v G hv ⟨s3, vs, hD, ta⟩
      rw [List.getElem?_map] at hv
      obtain ⟨x, hx, rfl⟩ := Option.map_eq_some_iff.mp hv
      have mx : x ∈ S.ns := pm.mem_iff.mp (List.mem_of_getElem? hx)
      have L3 := L.same (s2.trans s3)
      have lv := ta.length
      rw [List.length_map, List.length_take] at lv
      refine ⟨rfl, yes_ite ⟨_, rfl, rdL T (i := 0) (j := 2) L3 mx rfl rfl (rdR T (i := 0) (j := 2) L3 mx rfl rfl (rdA T (i := 0) (j := 2) L3 mx rfl rfl (rdT T (i := 0) (j := 2) L3 mx rfl rfl ⟨(by show 5 ≤ sizeLine; decide), fun t nt => ?_⟩)))⟩⟩
      have s4 := same_new (o := .tup (rowL S x).vs) nt
      have ht : upd G t (.tup (rowL S x).vs) t = some (.tup (rowL S x).vs) := upd_same
      show ∃ acc, _
      have hD4 := s4 _ _ hD
      have ta4 := ta.same s4
      refine ⟨vs, hD4, szl (by omega), same_put (s3.trans s4) nD, vs ++ [.ref t], upd_same, ?_⟩
      rw [tk_at hx, List.map_append]
      refine (ta4.snoc ht).mono fun p r e => ?_
      rw [upd_ne fun z => ?_]
      · exact e
      · rw [z, hD4] at e
        exact nomatch e
    · rintro G ⟨s3, vs, hD, ta⟩
      rw [List.length_map, List.take_length] at ta
      refine ⟨D, _, rfl, .inl ⟨SqL.of hD, fun t nt => ?_⟩⟩
      have s4 := s2.trans (s3.trans (same_new (o := .tup vs) nt))
      exact q t _ vs ms s4 pm srt (Same.none (s2.trans s3) nt) upd_same (ta.same (same_new nt))
end
/-! ### links of a shape; whether names lead from one to another -/
theorem takes_ns : ∀ {ms : List Int} {S L : Lk Int}, ms.Nodup → (∀ x ∈ ms, x ∉ L.ns) → (L.takes (ms.map (rowL S))).ns = L.ns ++ ms ∧ (∀ x ∈ ms, Agr S (L.takes (ms.map (rowL S))) x) ∧ (∀ x, x ∉ ms → Agr L (L.takes (ms.map (rowL S))) x) ∧ (L.takes (ms.map (rowL S))).lk = L.lk
  | [], S, L, _, _ => ⟨(List.append_nil _).symm, (fun x m => nomatch m), (fun x _ => Agr.refl), rfl⟩
  | y :: ms, S, L, nd, no => by
    obtain ⟨n1, n2⟩ := List.nodup_cons.mp nd
    have nL : y ∉ L.ns := no y List.mem_cons_self
    have en : (L.put (rowL S y)).ns = L.ns ++ [y] := by
      show addN L.ns y = _
      unfold addN
      rw [if_neg nL]
    have no2 : ∀ x ∈ ms, x ∉ (L.put (rowL S y)).ns := fun x m => by
      rw [en]
      intro z
      rcases List.mem_append.mp z with z | z
      · exact no x (List.mem_cons_of_mem _ m) z
      · exact n1 (List.mem_singleton.mp z ▸ m)
    obtain ⟨h1, h2, h3, h4⟩ := takes_ns (S := S) (L := L.put (rowL S y)) n2 no2
    refine ⟨?_, fun x m => ?_, fun x m => ?_, h4⟩
    · show ((L.put (rowL S y)).takes (ms.map (rowL S))).ns = _
      rw [h1, en, List.append_assoc]
      rfl
    · rcases List.mem_cons.mp m with rfl | m
      · have a := h3 x n1
        refine Agr.trans ?_ a
        exact ⟨up1_same, up1_same, up1_same, up1_same⟩
      · exact h2 x m
    · have ne : x ≠ y := fun e => m (e ▸ List.mem_cons_self)
      have a := h3 x fun z => m (List.mem_cons_of_mem _ z)
      refine Agr.trans ?_ a
      exact ⟨up1_ne ne, up1_ne ne, up1_ne ne, up1_ne ne⟩
section
variable {P : Program} {w : World} {K : PySem.W.Frag} {mg : Str → Option Value} {base : Heap}
def spTakeRowsT (C : Addr) : Sp := fun vs H Q _ => ∃ (A : LA) (S : Lk Int) (q : Addr) (xs : List V) (rs : List LRow), vs = [.ref A.h, .ref q] ∧ LinksAt C H A S ∧ H q = some (.tup xs) ∧ TAll H xs rs ∧ S.ns.length + rs.length ≤ 1000 ∧ ∀ H', ButA A H H' → LinksAt C H' A (S.takes rs) → Q .non H'
theorem ok_takerowsT (T : Top K mg) : FnOk P w K mg base CX0 1 T.a_Linkstakerows T.d_Linkstakerows ["self", "shape"] (spTakeRowsT T.C_Links) := by
  refine T.F_Linkstakerows.ok sc_Linkstakerows (fun vs H Q E h => ?_) (fun cdv A outer s H vs Q E hr h => ?_)
  · obtain ⟨A, S, q, xs, rs, rfl, _⟩ := h
    rfl
  · obtain ⟨A, S, b, xs, rs, rfl, L0, hb, ta, sz, q⟩ := h
    have nb : b ∉ A.as := L0.nin hb (by intro dx fs z; cases z) (by intro kvs z; cases z)
    have lx := ta.length
    refine ⟨_, (pss_one (ps_for PassesOwn.never rfl (pi_tup (pv 1)) (pg_tup rfl (pgs_cons (pg_name (i := 2) sc_Linkstakerows.nd rfl (.inl rfl)) (pgs_cons (pg_name (i := 3) sc_Linkstakerows.nd rfl (.inl rfl)) (pgs_cons (pg_name (i := 4) sc_Linkstakerows.nd rfl (.inl rfl)) (pgs_cons (pg_name (i := 5) sc_Linkstakerows.nd rfl (.inl rfl)) (pgs_cons (pg_name (i := 6) sc_Linkstakerows.nd rfl (.inl rfl)) pgs_nil)))))) (pss_cons (ps_dput (u1 hr) (pe_fld (pv 0) rfl) (pv 2) (pv 3) rfl)
      (pss_cons (ps_dput (u1 hr) (pe_fld (pv 0) rfl) (pv 2) (pv 4) rfl)
      (pss_cons (ps_dput (u1 hr) (pe_fld (pv 0) rfl) (pv 2) (pv 5) rfl)
      (pss_one (ps_dput (u1 hr) (pe_fld (pv 0) rfl) (pv 2) (pv 6) rfl))))))), ?_⟩
    refine ⟨_, rfl, b, rfl, ⟨_, SqT.of hb⟩, for_it (walk_tup (xs := xs)) (fun i σ G => ∃ y2 y3 y4 y5 y6 : Option V, σ = [some (.ref A.h), some (.ref b), y2, y3, y4, y5, y6] ∧ ButA A H G ∧ LinksAt T.C_Links G A (S.takes (rs.take i))) ⟨_, _, _, _, _, rfl, ButA.refl, L0⟩ (fun i σ G _ h => ?_) ?_ ?_⟩
    · obtain ⟨_, _, _, _, _, _, k, _⟩ := h
      exact SqT.of (k _ _ hb nb)
    · rintro i x σ G G' hi ⟨y2, y3, y4, y5, y6, rfl, k, L⟩ ⟨rfl, hx⟩
      obtain ⟨p, r, rfl, hr2, hp⟩ := ta.at hx
      have np : p ∉ A.as := L0.nin hp (by intro dx fs z; cases z) (by intro kvs z; cases z)
      have li := (List.getElem?_eq_some_iff.mp hr2).1
      refine ⟨p, r.vs, rfl, SqT.of (k _ _ hp np), rfl, _, _, rfl, _, _, rfl, _, _, rfl, _, _, rfl, _, _, rfl, rfl, ?_⟩
      have sz1 : (S.takes (rs.take i)).ns.length < 1000 := by
        have z := takes_len (rs := rs.take i) (S := S)
        rw [List.length_take] at z
        omega
      have hz : (S.takes (rs.take i)).ns.length < sizeLine := szl (by omega)
      obtain ⟨dx, hh⟩ := L.ob
      obtain ⟨h1, h2, h3, h4⟩ := L.hn
      refine ⟨_, rfl, _, rfl, A.h, T.C_Links, dx, _, _, rfl, hh, T.cl_Links, T.na_Links_left, fl_left _ _, _, rfl, A.dl, _, rfl, DPut.k (k := Sum.inl r.x) L.hl (by rw [dN_len]; exact hz), ?_⟩
      refine ⟨_, rfl, _, rfl, A.h, T.C_Links, dx, _, _, rfl, (by rw [upd_ne h1]; exact hh), T.cl_Links, T.na_Links_right, fl_right _ _, _, rfl, A.dr, _, rfl, DPut.k (k := Sum.inl r.x) (by rw [upd_ne L.n1.symm]; exact L.hr) (by rw [dN_len]; exact hz), ?_⟩
      refine ⟨_, rfl, _, rfl, A.h, T.C_Links, dx, _, _, rfl, (by rw [upd_ne h2, upd_ne h1]; exact hh), T.cl_Links, T.na_Links_above, fl_above _ _, _, rfl, A.da, _, rfl, DPut.k (k := Sum.inl r.x) (by rw [upd_ne L.n4.symm, upd_ne L.n2.symm]; exact L.ha) (by rw [dN_len]; exact hz), ?_⟩
      refine ⟨_, rfl, _, rfl, A.h, T.C_Links, dx, _, _, rfl, (by rw [upd_ne h3, upd_ne h2, upd_ne h1]; exact hh), T.cl_Links, T.na_Links_turned, fl_turned _ _, _, rfl, A.dt, _, rfl, DPut.k (k := Sum.inl r.x) (by rw [upd_ne L.n6.symm, upd_ne L.n5.symm, upd_ne L.n3.symm]; exact L.ht) (by rw [dN_len]; exact hz), ?_⟩
      refine ⟨_, _, _, _, _, rfl, (((k.put A.ml).put A.mr).put A.ma).put A.mt, ?_⟩
      rw [tk_at hr2, takes_snoc]
      exact L.put r sz1
    · rintro σ G ⟨y2, y3, y4, y5, y6, rfl, k, L⟩
      rw [lx, List.take_length] at L
      exact q G k L
def spLinksOf (C : Addr) : Sp := fun vs H Q _ => ∃ (t : Addr) (xs : List V) (rs : List LRow), vs = [.ref t] ∧ H t = some (.tup xs) ∧ TAll H xs rs ∧ rs.length ≤ 1000 ∧ ∀ (A : LA) (H' : Hp), (∀ b ∈ A.as, H b = none) → Same H H' → LinksAt C H' A (emptyLk.takes rs) → Q (.ref A.h) H'
theorem ok_linksof (T : Top K mg) : FnOk P w K mg base CX0 3 T.a_linksof T.d_linksof ["shape"] (spLinksOf T.C_Links) := by
  have G_Linksinit : FnOk P w K mg base CX0 1 _ _ _ _ := ok_linit T
  have G_Linkstakerows : FnOk P w K mg base CX0 1 _ _ _ _ := ok_takerowsT T
  refine T.F_linksof.ok sc_linksof (fun vs H Q E h => ?_) (fun cdv A outer s H vs Q E hr h => ?_)
  · obtain ⟨t, xs, rs, rfl, _⟩ := h
    rfl
  · obtain ⟨t, xs, rs, rfl, ht, ta, lr, q⟩ := h
    refine ⟨_, (pss_cons (ps_set (i := 1) sc_linksof.nd rfl (.inl rfl) (pe_make0 T.mk_Links G_Linksinit (hr.mono (by decide)) (by rfl) T.mg_Links T.b_Linksinit .nil pass0))
      (pss_cons (ps_expr (pe_meth (pv 1) T.cl_Links T.me_Linkstakerows G_Linkstakerows (hr.mono (by decide)) T.b_Linkstakerows .nil pass0 (pa_cons (pv 0) pa_nil)))
      (pss_one (ps_ret (pv 1))))), ?_⟩
    refine fun p px np npx ne => ⟨p, px, rfl, upd_same, fun A H1 eA nA L1 k1 => ⟨rfl, ?_⟩⟩
    have kk : Same H H1 := fun c o e => k1 c o (by rw [upd_ne (ne_of_none e np), upd_ne (ne_of_none e npx)]; exact e) (ne_of_none e np)
    have nAs : ∀ b ∈ A.as, H b = none := fun b mb => by
      by_cases e : b = p
      · rw [e]
        exact np
      · have z := nA b mb e
        cases eh : H b with
        | none => rfl
        | some o =>
          rw [upd_ne e, upd_ne (ne_of_none eh npx), eh] at z
          exact nomatch z
    subst eA
    obtain ⟨dx, hh⟩ := L1.ob
    refine ⟨_, rfl, A.h, dx, _, rfl, hh, fl_meth _ _ (by decide +kernel), _, rfl, A, emptyLk, t, xs, rs, rfl, L1, kk _ _ ht, ta.same kk, by show 0 + rs.length ≤ 1000; omega, fun H2 k2 L2 => ?_⟩
    exact ⟨_, rfl, q A H2 nAs (fun c o e => k2 _ _ (kk _ _ e) fun m => by rw [nAs c m] at e; exact nomatch e) L2⟩
/-- the shape ms.map (rowL S) stands at t -/
def ShapeAt (H : Hp) (t : Addr) (S : Lk Int) (ms : List Int) : Prop := ∃ xs, H t = some (.tup xs) ∧ TAll H xs (ms.map (rowL S))
theorem ShapeAt.same {H H' : Hp} {t : Addr} {S : Lk Int} {ms : List Int} (h : ShapeAt H t S ms) (s : Same H H') : ShapeAt H' t S ms := by
  obtain ⟨xs, h1, h2⟩ := h
  exact ⟨xs, s _ _ h1, h2.same s⟩
end
theorem LinksAt.congr {C : Addr} {H : Hp} {A : LA} {S S' : Lk Int} (L : LinksAt C H A S) (en : S'.ns = S.ns) (ek : S'.lk = S.lk) (h : ∀ x ∈ S.ns, Agr S S' x) : LinksAt C H A S' := by
  obtain ⟨dx, e⟩ := L.ob
  refine ⟨⟨dx, by rw [ek]; exact e⟩, ?_, ?_, ?_, ?_, L.n1, L.n2, L.n3, L.n4, L.n5, L.n6, by rw [en]; exact L.nn, by rw [en]; exact L.sz⟩
  · rw [L.hl, en]
    exact congrArg (fun z => some (HO.dK z)) (dN_congr fun x m => by rw [(h x m).1])
  · rw [L.hr, en]
    exact congrArg (fun z => some (HO.dK z)) (dN_congr fun x m => by rw [(h x m).2.1])
  · rw [L.ha, en]
    exact congrArg (fun z => some (HO.dK z)) (dN_congr fun x m => by rw [(h x m).2.2.1])
  · rw [L.ht, en]
    exact congrArg (fun z => some (HO.dK z)) (dN_congr fun x m => by rw [(h x m).2.2.2])
section
variable {P : Program} {w : World} {K : PySem.W.Frag} {mg : Str → Option Value} {base : Heap}
end

end My
namespace My
open PySem PySem.Spec PyProof.Rows L2
/-! ### the law's own tree: a dict of lists -/
def cel (S : Lk Int) (x : Int) : List V := [onV (S.l x), onV (S.r x), onV (S.a x)]
structure TreeAt (H : Hp) (d : Addr) (ls : Int → Addr) (S : Lk Int) : Prop where
  hd : H d = some (.dK (dN S.ns fun x => .ref (ls x)))
  at' : ∀ x ∈ S.ns, H (ls x) = some (.lst (cel S x))
  inj : ∀ x ∈ S.ns, ∀ y ∈ S.ns, ls x = ls y → x = y
/-- all but the tree's lists as it was -/
def ButT (ls : Int → Addr) (ns : List Int) (H H' : Hp) : Prop := ∀ b o, H b = some o → (∀ x ∈ ns, b ≠ ls x) → H' b = some o
section
variable {H H' : Hp} {d : Addr} {ls : Int → Addr} {S : Lk Int}
theorem TreeAt.same (A : TreeAt H d ls S) (s : Same H H') : TreeAt H' d ls S := ⟨s _ _ A.hd, fun x m => s _ _ (A.at' x m), A.inj⟩
theorem TreeAt.keep (A : TreeAt H d ls S) (s : ∀ b o, H b = some o → (b = d ∨ ∃ x ∈ S.ns, b = ls x) → H' b = some o) : TreeAt H' d ls S := ⟨s _ _ A.hd (.inl rfl), fun x m => s _ _ (A.at' x m) (.inr ⟨x, m, rfl⟩), A.inj⟩
theorem TreeAt.nd (A : TreeAt H d ls S) {x : Int} (m : x ∈ S.ns) : d ≠ ls x := ne_of A.hd (A.at' x m) (by intro z; cases z)
theorem TreeAt.dn (A : TreeAt H d ls S) : ∀ x ∈ S.ns, d ≠ ls x := fun x m => A.nd m
theorem TreeAt.upd (A : TreeAt H d ls S) {x : Int} (m : x ∈ S.ns) {S' : Lk Int} (en : S'.ns = S.ns) {xs : List V} (ex : xs = cel S' x) (eo : ∀ z ∈ S.ns, z ≠ x → cel S' z = cel S z) : TreeAt (upd H (ls x) (.lst xs)) d ls S' := by
  refine ⟨?_, fun z mz => ?_, by rw [en]; exact A.inj⟩
  · rw [upd_ne (A.nd m), en]
    exact A.hd
  · rw [en] at mz
    by_cases c : z = x
    · rw [c, upd_same, ex]
    · rw [upd_ne fun e => c (A.inj z mz x m e), eo z mz c]
      exact A.at' z mz
theorem ButT.refl {ns : List Int} : ButT ls ns H H := fun _ _ e _ => e
theorem ButT.trans {ns : List Int} {H2 : Hp} (x : ButT ls ns H H') (y : ButT ls ns H' H2) : ButT ls ns H H2 := fun b o e n => y b o (x b o e n) n
theorem ButT.of_same {ns : List Int} (s : Same H H') : ButT ls ns H H' := fun b o e _ => s b o e
theorem ButT.same {ns : List Int} {H2 : Hp} (x : ButT ls ns H H') (s : Same H' H2) : ButT ls ns H H2 := fun b o e n => s b o (x b o e n)
theorem ButT.put {ns : List Int} {x : Int} {o : HO} (k : ButT ls ns H H') (m : x ∈ ns) : ButT ls ns H (L2.upd H' (ls x) o) := fun b u e n => by
  rw [upd_ne (n x m)]
  exact k b u e n
theorem ButT.putN {ns : List Int} {p : Addr} {o : HO} (k : ButT ls ns H H') (n : H p = none) : ButT ls ns H (L2.upd H' p o) := fun b u e nb => by
  rw [upd_ne (ne_of_none e n)]
  exact k b u e nb
theorem TreeAt.setL (A : TreeAt H d ls S) {x : Int} {y : Option Int} (m : x ∈ S.ns) : TreeAt (L2.upd H (ls x) (.lst ((cel S x).set 0 (onV y)))) d ls { S with l := up1 S.l x y } :=
  A.upd m (S' := { S with l := up1 S.l x y }) rfl (by show [onV y, onV (S.r x), onV (S.a x)] = [onV (up1 S.l x y x), onV (S.r x), onV (S.a x)]; rw [up1_same]) fun z _ nz => by show [onV (up1 S.l x y z), onV (S.r z), onV (S.a z)] = _; rw [up1_ne nz]; rfl
theorem TreeAt.setR (A : TreeAt H d ls S) {x : Int} {y : Option Int} (m : x ∈ S.ns) : TreeAt (L2.upd H (ls x) (.lst ((cel S x).set 1 (onV y)))) d ls { S with r := up1 S.r x y } :=
  A.upd m (S' := { S with r := up1 S.r x y }) rfl (by show [onV (S.l x), onV y, onV (S.a x)] = [onV (S.l x), onV (up1 S.r x y x), onV (S.a x)]; rw [up1_same]) fun z _ nz => by show [onV (S.l z), onV (up1 S.r x y z), onV (S.a z)] = _; rw [up1_ne nz]; rfl
theorem TreeAt.setA (A : TreeAt H d ls S) {x : Int} {y : Option Int} (m : x ∈ S.ns) : TreeAt (L2.upd H (ls x) (.lst ((cel S x).set 2 (onV y)))) d ls { S with a := up1 S.a x y } :=
  A.upd m (S' := { S with a := up1 S.a x y }) rfl (by show [onV (S.l x), onV (S.r x), onV y] = [onV (S.l x), onV (S.r x), onV (up1 S.a x y x)]; rw [up1_same]) fun z _ nz => by show [onV (S.l z), onV (S.r z), onV (up1 S.a x y z)] = _; rw [up1_ne nz]; rfl
theorem TreeAt.congr (A : TreeAt H d ls S) {S' : Lk Int} (en : S'.ns = S.ns) (h : ∀ x ∈ S.ns, S'.l x = S.l x ∧ S'.r x = S.r x ∧ S'.a x = S.a x) : TreeAt H d ls S' :=
  ⟨by rw [en]; exact A.hd, fun x m => by rw [en] at m; obtain ⟨h1, h2, h3⟩ := h x m; unfold cel; rw [h1, h2, h3]; exact A.at' x m, by rw [en]; exact A.inj⟩
theorem TreeAt.get (A : TreeAt H d ls S) {x : Int} (m : x ∈ S.ns) : DGet H d (.int x) (some (.ref (ls x))) := by
  have g := DGet.k (k := Sum.inl x) A.hd
  rw [dN_get m] at g
  exact g
end
section
variable {K : PySem.W.Frag} {H : Hp} {d : Addr} {ls : Int → Addr} {S : Lk Int}
theorem rdN {i j : Nat} {σ : L2.St} {Q : V → Hp → Prop} {x : Int} (c : Nat) {v : V} (A : TreeAt H d ls S) (m : x ∈ S.ns) (h0 : σ[i]? = some (some (.ref d))) (h1 : σ[j]? = some (some (.int x))) (hv : (cel S x)[c]? = some v) (q : Q v H) : tOp (rIxL K) (tDGet (tVar i) (tVar j)) (tC (.int (c : Int))) σ H Q :=
  ⟨_, h0, _, h1, d, _, rfl, A.get m, ls x, _, _, v, rfl, rfl, SqL.of (A.at' x m), atI_nat hv, q⟩
end
section
variable {K : PySem.W.Frag} {H H0 : Hp} {d : Addr} {ls : Int → Addr} {S : Lk Int} {ns : List Int}
theorem wsL {i j : Nat} {σ : L2.St} {Q : L2.St → Hp → Prop} {x : Int} {ti : TE} {v : V} (y : Option Int) (A : TreeAt H d ls S) (k : ButT ls ns H0 H) (m : x ∈ S.ns) (m' : x ∈ ns) (h0 : σ[i]? = some (some (.ref d))) (h1 : σ[j]? = some (some (.int x))) (ev : v = onV y) (hi : ∀ R : V → Hp → Prop, R (.int 0) H → ti σ H R) (q : ∀ H2, TreeAt H2 d ls { S with l := up1 S.l x y } → ButT ls ns H0 H2 → Q σ H2) : gSub (tDGet (tVar i) (tVar j)) ti rSetL v σ H Q := by
  subst ev
  exact ⟨_, h0, _, h1, d, _, rfl, A.get m, hi _ ⟨ls x, _, 0, 0, rfl, rfl, A.at' x m, rfl, q _ (A.setL m) (k.put m')⟩⟩
theorem wsR {i j : Nat} {σ : L2.St} {Q : L2.St → Hp → Prop} {x : Int} {ti : TE} {v : V} (y : Option Int) (A : TreeAt H d ls S) (k : ButT ls ns H0 H) (m : x ∈ S.ns) (m' : x ∈ ns) (h0 : σ[i]? = some (some (.ref d))) (h1 : σ[j]? = some (some (.int x))) (ev : v = onV y) (hi : ∀ R : V → Hp → Prop, R (.int 1) H → ti σ H R) (q : ∀ H2, TreeAt H2 d ls { S with r := up1 S.r x y } → ButT ls ns H0 H2 → Q σ H2) : gSub (tDGet (tVar i) (tVar j)) ti rSetL v σ H Q := by
  subst ev
  exact ⟨_, h0, _, h1, d, _, rfl, A.get m, hi _ ⟨ls x, _, 1, 1, rfl, rfl, A.at' x m, rfl, q _ (A.setR m) (k.put m')⟩⟩
theorem wsA {i j : Nat} {σ : L2.St} {Q : L2.St → Hp → Prop} {x : Int} {ti : TE} {v : V} (y : Option Int) (A : TreeAt H d ls S) (k : ButT ls ns H0 H) (m : x ∈ S.ns) (m' : x ∈ ns) (h0 : σ[i]? = some (some (.ref d))) (h1 : σ[j]? = some (some (.int x))) (ev : v = onV y) (hi : ∀ R : V → Hp → Prop, R (.int 2) H → ti σ H R) (q : ∀ H2, TreeAt H2 d ls { S with a := up1 S.a x y } → ButT ls ns H0 H2 → Q σ H2) : gSub (tDGet (tVar i) (tVar j)) ti rSetL v σ H Q := by
  subst ev
  exact ⟨_, h0, _, h1, d, _, rfl, A.get m, hi _ ⟨ls x, _, 2, 2, rfl, rfl, A.at' x m, rfl, q _ (A.setA m) (k.put m')⟩⟩
end

section
variable {P : Program} {w : World} {K : PySem.W.Frag} {mg : Str → Option Value} {base : Heap}
theorem take_two (S : Lk Int) (x : Int) : cutV (cel S x) none (some 2) = [onV (S.l x), onV (S.r x)] := cut_nat (α := V) (cel S x) 2
def spOnTop (K : PySem.W.Frag) : Sp := fun vs H Q _ => ∃ (d : Addr) (ls : Int → Addr) (S : Lk Int) (x : Int), vs = [.ref d, .int x] ∧ TreeAt H d ls S ∧ x ∈ S.ns ∧ Cl S ∧ ∀ (H' : Hp), Same H H' → Q (.bl (S.isTop x)) H'
theorem ok_ontop (T : Top K mg) : FnOk P w K mg base CX0 1 T.a_Ltop T.d_Ltop ["_law_forms_here", "_law_x"] (spOnTop K) := by
  refine T.F_Ltop.ok sc_Ltop (fun vs H Q E h => ?_) (fun cdv A outer s H vs Q E hr h => ?_)
  · obtain ⟨d, ls, S, x, rfl, _⟩ := h
    rfl
  · obtain ⟨d, ls, S, x, rfl, A, m, cl, q⟩ := h
    refine ⟨_, (pss_one (ps_ret (pe_or (pe_cmpR op_isN (pe_ix ix_list (pe_dget (u1 hr) (pv 0) (pv 1) (fun _ _ => rfl)) pe_int (fun _ _ => rfl)) pe_non (nomark _)) (pe_one (pe_cmpR op_notIn_seq (pv 1) (pe_slice sl_list (pe_dget (u1 hr) (pv 0) (pe_ix ix_list (pe_dget (u1 hr) (pv 0) (pv 1) (fun _ _ => rfl)) pe_int (fun _ _ => rfl)) (fun _ _ => rfl)) po_none (po_some pe_int)) (by rfl)))))), ?_⟩
    refine rdN 2 A m rfl rfl (v := onV (S.a x)) rfl ⟨rfl, _, rfl, ?_⟩
    unfold Lk.isTop at q
    cases e : S.a x with
    | none =>
      rw [e] at q
      exact ifT rfl (q H (fun _ _ z => z))
    | some u =>
      rw [e] at q
      have mu := (cl x m).2.2 u e
      refine ifF rfl ⟨_, rfl, ?_⟩
      refine ⟨_, rfl, rdN 2 A m rfl rfl (v := onV (S.a x)) rfl ?_⟩
      rw [e]
      refine ⟨d, _, rfl, A.get mu, 2, rfl, ls u, _, rfl, SqL.of (A.at' u mu), fun p np => ?_⟩
      rw [take_two]
      refine ⟨p, _, rfl, .inl (SqL.of upd_same), rfl, ?_, ?_⟩
      · show (flatV (onV (S.l u)) && (flatV (onV (S.r u)) && true)) = true
        rw [onV_flat, onV_flat]
        rfl
      · show Q (.bl (!inV (.int x) [onV (S.l u), onV (S.r u)])) _
        rw [inV_two]
        exact q _ (same_new np)
end

end My
namespace My
open PySem L2
/-! ### the draws of strands: two numbers -/
def P2 (H : Hp) (b : Addr) : Prop := ∃ x y : Int, H b = some (.lst [.int x, .int y])
theorem P2.same {H H' : Hp} {b : Addr} (h : P2 H b) (s : Same H H') : P2 H' b := by
  obtain ⟨x, y, e⟩ := h
  exact ⟨x, y, s _ _ e⟩
theorem P2.ne {H : Hp} {b p : Addr} (h : P2 H b) (n : H p = none) : p ≠ b := by
  obtain ⟨x, y, e⟩ := h
  exact (ne_of_none e n).symm
theorem P2.put {H : Hp} {b p : Addr} {o : HO} (h : P2 H b) (n : p ≠ b) : P2 (upd H p o) b := by
  obtain ⟨x, y, e⟩ := h
  exact ⟨x, y, by rw [upd_ne n.symm]; exact e⟩
theorem P2.ls {H : Hp} {d b : Addr} {ls : Int → Addr} {S : Lk Int} (h : P2 H b) (A : TreeAt H d ls S) : d ≠ b ∧ ∀ x ∈ S.ns, ls x ≠ b := by
  obtain ⟨x, y, e⟩ := h
  exact ⟨ne_of A.hd e (by intro z; cases z), fun x m => ne_of (A.at' x m) e fun z => absurd (congrArg List.length (HO.lst.inj z)) (by show ¬ 3 = 2; decide)⟩
theorem TreeAt.but {H H' : Hp} {d b : Addr} {ls : Int → Addr} {S : Lk Int} (A : TreeAt H d ls S) (p : P2 H b) (k : But b H H') : TreeAt H' d ls S := by
  obtain ⟨h1, h2⟩ := p.ls A
  refine A.keep fun c o e hc => k _ _ e ?_
  rcases hc with rfl | ⟨x, m, rfl⟩
  · exact h1
  · exact h2 x m
theorem P2.butT {H H' : Hp} {d b : Addr} {ls : Int → Addr} {S : Lk Int} (p : P2 H b) (A : TreeAt H d ls S) (k : ButT ls S.ns H H') : P2 H' b := by
  obtain ⟨h1, h2⟩ := p.ls A
  obtain ⟨x, y, e⟩ := p
  exact ⟨x, y, k _ _ e fun z m => (h2 z m).symm⟩
section
variable {P : Program} {w : World} {K : PySem.W.Frag} {mg : Str → Option Value} {base : Heap}
def spTake2 : Sp := fun vs H Q _ => ∃ (b : Addr) (many : Int), vs = [.ref b, .int many] ∧ P2 H b ∧ 0 < many ∧ many < 2 ^ 60 ∧ ∀ (x : Int) (H' : Hp), 0 ≤ x → x < many → P2 H' b → But b H H' → Q (.int x) H'
theorem ok_take2 (T : Top K mg) : FnOk P w K mg base CX0 1 T.a_Ltake T.d_Ltake ["_law_pot_here", "_law_many"] spTake2 := by
  refine T.F_Ltake.ok sc_Ltake (fun vs H Q E h => ?_) (fun cdv A outer s H vs Q E hr h => ?_)
  · obtain ⟨b, many, rfl, _⟩ := h
    rfl
  · obtain ⟨b, many, rfl, ⟨x, y, hb⟩, m0, m1, q⟩ := h
    refine ⟨_, (pss_cons (ps_if (pt_cmpR op_gt (pe_ix ix_list (pv 0) pe_int (fun _ _ => rfl)) pe_int (nomark _)) (pss_cons (ps_set (i := 2) sc_Ltake.nd rfl (.inl rfl) (pe_op op_mod (pe_ix ix_list (pv 0) pe_int (fun _ _ => rfl)) (pv 1)))
      (pss_cons (ps_asg (pe_op op_fdivW (pe_ix ix_list (pv 0) pe_int (fun _ _ => rfl)) (pv 1)) (pg_sub (pv 0) pe_int set_list))
      (pss_one (ps_ret (pv 2))))) pss_nil)
      (pss_cons (ps_asg (pe_op op_mod (pe_op op_add (pe_op op_mul (pe_ix ix_list (pv 0) pe_int (fun _ _ => rfl)) pe_int) pe_int) pe_int) (pg_sub (pv 0) pe_int set_list))
      (pss_cons (ps_set (i := 3) sc_Ltake.nd rfl (.inl rfl) (pe_op op_mod (pe_op op_mul (pe_op op_mod (pe_ix ix_list (pv 0) pe_int (fun _ _ => rfl)) pe_int) (pe_op op_add (pe_op op_fdivW (pe_ix ix_list (pv 0) pe_int (fun _ _ => rfl)) pe_int) pe_int)) pe_int))
      (pss_one (ps_ret (pe_op op_mod (pe_op op_fdivW (pv 3) pe_int) (pv 1))))))), ?_⟩
    refine ⟨_, rfl, b, _, _, V.int x, rfl, rfl, SqL.of hb, atI_nat (j := 0) rfl, _, _, rfl, rfl, _, rfl, ite2 (fun _ => ?_) (fun _ => ?_)⟩
    · refine ⟨_, rfl, b, _, _, V.int x, rfl, rfl, SqL.of hb, atI_nat (j := 0) rfl, _, rfl, _, _, rfl, rfl, m0, ?_⟩
      refine ⟨_, rfl, b, _, _, V.int x, rfl, rfl, SqL.of hb, atI_nat (j := 0) rfl, _, rfl, _, _, rfl, rfl, wide_ok m0 (by omega), ?_⟩
      refine ⟨_, rfl, b, _, 0, 0, rfl, rfl, hb, rfl, ?_⟩
      exact ⟨_, rfl, q _ _ (Int.emod_nonneg x (by omega)) (Int.emod_lt_of_pos x m0) ⟨_, _, upd_same⟩ But.refl.put⟩
    · refine ⟨_, rfl, b, _, _, V.int y, rfl, rfl, SqL.of hb, atI_nat (j := 1) rfl, _, _, rfl, rfl, .inr ⟨by decide, by decide⟩, _, _, rfl, rfl, _, _, rfl, rfl, (by show (0 : Int) < 2305843009213693951; decide), ?_⟩
      refine ⟨_, rfl, b, _, 1, 1, rfl, rfl, hb, rfl, ?_⟩
      have h2 : upd H b (.lst ([V.int x, V.int y].set 1 (.int ((y * 1181783497276652981 + 12345678910987) % 2305843009213693951)))) b = some (.lst [.int x, .int ((y * 1181783497276652981 + 12345678910987) % 2305843009213693951)]) := upd_same
      have k2 : But b H (upd H b (.lst ([V.int x, V.int y].set 1 (.int ((y * 1181783497276652981 + 12345678910987) % 2305843009213693951))))) := But.refl.put
      generalize upd H b (.lst ([V.int x, V.int y].set 1 (.int ((y * 1181783497276652981 + 12345678910987) % 2305843009213693951)))) = H2 at h2 k2 ⊢
      generalize (y * 1181783497276652981 + 12345678910987) % 2305843009213693951 = y2 at h2
      refine ⟨_, rfl, b, _, _, V.int y2, rfl, rfl, SqL.of h2, atI_nat (j := 1) rfl, _, _, rfl, rfl, (by show (0 : Int) < 2147483629; decide), ?_⟩
      refine ⟨_, rfl, b, _, _, V.int y2, rfl, rfl, SqL.of h2, atI_nat (j := 1) rfl, _, _, rfl, rfl, wide_ok (by decide) (by decide), _, _, rfl, rfl, _, _, rfl, rfl, emod_small (m := 2147483629) (by decide) (by decide), _, _, rfl, rfl, (by show (0 : Int) < 2305843009213693951; decide), ?_⟩
      refine ⟨_, rfl, _, _, rfl, rfl, wide_ok (by decide) (by decide), _, rfl, _, _, rfl, rfl, m0, ?_⟩
      exact q _ _ (Int.emod_nonneg _ (by omega)) (Int.emod_lt_of_pos _ m0) ⟨_, _, h2⟩ k2
def spPot2 : Sp := fun vs H Q _ => ∃ (c s : Int), vs = [.int c, .int s] ∧ ∀ (b : Addr) (H' : Hp), Same H H' → H b = none → P2 H' b → Q (.ref b) H'
theorem ok_pot2 (T : Top K mg) : FnOk P w K mg base CX0 1 T.a_Lpot T.d_Lpot ["_law_cell", "_law_seed_here"] spPot2 := by
  refine T.F_Lpot.ok sc_Lpot (fun vs H Q E h => ?_) (fun cdv A outer s H vs Q E hr h => ?_)
  · obtain ⟨c, s, rfl, _⟩ := h
    rfl
  · obtain ⟨c, s, rfl, q⟩ := h
    refine ⟨_, (pss_cons (ps_set (i := 2) sc_Lpot.nd rfl (.inl rfl) (pe_op op_add (pe_op op_mul pe_int (pe_callB call_abs (by rfl) T.m_abs (by decide +kernel) (pa_cons (pv 0) pa_nil))) (pe_callTy call_int1 (by rfl) T.m_int (by decide +kernel) (pa_cons (pe_cmpR op_lt (pv 0) pe_int (nomark _)) pa_nil))))
      (pss_cons (ps_if (pt_cmpR op_ge (pv 2) (pe_op op_pow pe_int pe_int) (nomark _)) (pss_one (ps_ret (pe_lst (pa_cons (pv 2) (pa_cons (pv 1) pa_nil))))) pss_nil)
      (pss_one (ps_ret (pe_lst (pa_cons pe_int (pa_cons (pe_op op_mod (pe_op op_add (pe_op op_add (pe_op op_mul (pv 1) pe_int) (pv 2)) pe_int) pe_int) pa_nil))))))), ?_⟩
    refine ⟨_, rfl, _, rfl, _, _, rfl, rfl, .inl ⟨by decide, by decide⟩, _, rfl, _, _, rfl, rfl, .inr ⟨_, rfl, ?_⟩⟩
    refine ⟨_, _, rfl, rfl, ?_⟩
    refine ⟨_, rfl, _, _, rfl, rfl, ⟨by decide, by decide, by decide⟩, _, _, rfl, rfl, _, rfl, ite2 (fun _ => ?_) (fun _ => ?_)⟩
    · exact ⟨_, rfl, _, rfl, (by show 2 ≤ sizeLine; decide), fun p np => q p _ (same_new np) np ⟨_, _, upd_same⟩⟩
    · exact ⟨_, rfl, _, _, rfl, rfl, .inr ⟨by decide, by decide⟩, _, rfl, _, _, rfl, rfl, _, _, rfl, rfl, _, _, rfl, rfl, (by show (0 : Int) < 2305843009213693951; decide), (by show 2 ≤ sizeLine; decide), fun p np => q p _ (same_new np) np ⟨_, _, upd_same⟩⟩
def spSeed (K : PySem.W.Frag) : Sp := fun vs H Q _ => ∃ (a : Addr) (ns : List Int), vs = [.ref a] ∧ SqL K H a (ns.map V.int) ∧ ∀ (v : Int) (H' : Hp), Same H H' → Q (.int v) H'
theorem ok_seed (T : Top K mg) : FnOk P w K mg base CX0 1 T.a_Lseed T.d_Lseed ["_law_script"] (spSeed K) := by
  refine T.F_Lseed.ok sc_Lseed (fun vs H Q E h => ?_) (fun cdv A outer s H vs Q E hr h => ?_)
  · obtain ⟨a, ns, rfl, _⟩ := h
    rfl
  · obtain ⟨a, ns, rfl, hS, q⟩ := h
    refine ⟨_, (pss_cons (ps_set (i := 1) sc_Lseed.nd rfl (.inl rfl) pe_int)
      (pss_cons (ps_for PassesOwn.never rfl (pi_list (pe_slice sl_list (pv 0) po_none (po_some pe_int))) (pg_name (i := 2) sc_Lseed.nd rfl (.inl rfl)) (pss_one (ps_set (i := 1) sc_Lseed.nd rfl (.inl rfl) (pe_op op_mod (pe_op op_add (pe_op op_add (pe_op op_mul (pv 1) pe_int) (pe_op op_mod (pv 2) (pe_op op_pow pe_int pe_int))) pe_int) pe_int))))
      (pss_one (ps_ret (pv 1))))), ?_⟩
    refine ⟨_, rfl, 63, rfl, a, _, rfl, hS, fun p np => ?_⟩
    obtain ⟨ck, ec⟩ := cut_map ns (some 63)
    rw [ec]
    have sp := same_new (o := .lst ((ns.take ck).map V.int)) np
    have hp : upd H p (.lst ((ns.take ck).map V.int)) p = some (.lst ((ns.take ck).map V.int)) := upd_same
    generalize upd H p (.lst ((ns.take ck).map V.int)) = H1 at sp hp ⊢
    refine ⟨p, rfl, ⟨_, SqL.of hp⟩, for_list (K := K) (a := p) (xs := (ns.take ck).map V.int) (fun i σ G => ∃ (t : Int) (y2 : Option V), σ = [some (.ref a), some (.int t), y2] ∧ G = H1) ⟨_, none, rfl, rfl⟩ (fun i σ G _ h => ?_) ?_ ?_⟩
    · obtain ⟨_, _, _, rfl⟩ := h
      exact SqL.of hp
    · rintro i v σ G hv ⟨t, y2, rfl, rfl⟩
      rw [List.getElem?_map] at hv
      obtain ⟨x, hx, rfl⟩ := Option.map_eq_some_iff.mp hv
      refine ⟨_, rfl, _, _, rfl, rfl, .inr ⟨by decide, by decide⟩, _, rfl, _, _, rfl, rfl, ⟨by decide, by decide, by decide⟩, _, _, rfl, rfl, (by show (0 : Int) < 10 ^ (30 : Int).toNat; decide +kernel), _, _, rfl, rfl, _, _, rfl, rfl, _, _, rfl, rfl, (by show (0 : Int) < 2305843009213693951; decide), ?_⟩
      exact ⟨_, _, rfl, rfl⟩
    · rintro σ G ⟨t, y2, rfl, rfl⟩
      exact ⟨_, rfl, q t _ sp⟩
end

end My
namespace My
open PySem L2
theorem But2.of_same {b L : Addr} {H H' : Hp} (s : Same H H') : But2 b L H H' := fun a o e _ _ => s a o e
/-! ### drawn strands -/
/-- a strand drawn and hung nowhere: what came to be -/
structure Grown (H H' : Hp) (b d : Addr) (ls ls' : Int → Addr) (S S' : Lk Int) (T : Tr Int) (xs : List Int) : Prop where
  p2 : P2 H' b
  tr : TreeAt H' d ls' S'
  ns : ∃ zs, S'.ns = S.ns ++ zs ∧ zs.Perm T.nms ∧ ∀ x ∈ zs, H (ls' x) = none
  old : ∀ x ∈ S.ns, Agr S S' x ∧ ls' x = ls x
  rep : Rep S' none T
  fl : flat T = true
  od : T.ord = xs
  kp : But2 b d H H'
  tf : S'.t = S.t
  lk : S'.lk = S.lk
theorem cut_drop1 (xs : List Int) (j : Nat) : cutV (xs.map V.int) (some ((j : Int) + 1)) none = (xs.drop (j + 1)).map V.int := by
  unfold cutV
  rw [show ((j : Int) + 1) = ((j + 1 : Nat) : Int) by omega, HT.sIx_nat, HT.sIx_none, List.map_drop, List.length_map]
  by_cases h : j + 1 ≤ xs.length
  · rw [Nat.min_eq_left h, List.take_of_length_le]
    rw [List.length_drop, List.length_map]
    omega
  · rw [Nat.min_eq_right (by omega), List.drop_eq_nil_of_le (by rw [List.length_map]; exact Nat.le_refl _), List.drop_eq_nil_of_le (by rw [List.length_map]; omega)]
    exact List.take_nil
theorem cut_takeJ (xs : List Int) (j : Nat) : cutV (xs.map V.int) none (some (j : Int)) = (xs.take j).map V.int := by
  rw [cut_nat (α := Unit), List.map_take]
theorem pick4 {n x : Int} (hn : 1 ≤ n) (h0 : 0 ≤ x) (h1 : x < n) {k : Int} (k0 : 0 ≤ k) (k4 : k < 4) : ∃ v : Nat, atI [V.int 0, V.int (n - 1), V.int (n / 2), V.int x] k = some (.int (v : Int)) ∧ (v : Int) < n := by
  have hc : k = 0 ∨ k = 1 ∨ k = 2 ∨ k = 3 := by omega
  have mk : ∀ {y : Int}, 0 ≤ y → y < n → ∃ v : Nat, some (V.int y) = some (.int (v : Int)) ∧ (v : Int) < n := fun {y} a b => ⟨y.toNat, by rw [Int.toNat_of_nonneg a], by omega⟩
  rcases hc with rfl | rfl | rfl | rfl
  · exact mk (Int.le_refl _) (by omega)
  · exact mk (y := n - 1) (by omega) (by omega)
  · exact mk (y := n / 2) (by omega) (by omega)
  · exact mk h0 h1
theorem Tr.root_nil {T : Tr Int} (h : T.root = none) : T = .nil := by
  cases T with
  | nil => rfl
  | nd tw l x r => exact nomatch h
theorem rep_sub_ns {S : Lk Int} : ∀ {T : Tr Int} {p : Option Int}, Rep S p T → ∀ x ∈ T.nms, x ∈ S.ns
  | .nd tw l x r, p, h, y, m => by
    obtain ⟨h1, _, _, _, _, hl, hr⟩ := h
    rcases List.mem_append.mp m with m | m
    · exact rep_sub_ns hl y m
    · rcases List.mem_cons.mp m with rfl | m
      · exact h1
      · exact rep_sub_ns hr y m
/-- more names, the old ones as they were -/
theorem Rep.more {S S' : Lk Int} : ∀ {T : Tr Int} {p : Option Int}, Rep S p T → (∀ x ∈ T.nms, x ∈ S'.ns ∧ Agr S S' x) → Rep S' p T
  | .nil, _, _, _ => trivial
  | .nd tw l x r, p, h, h1 => by
    obtain ⟨q1, q2, q3, q4, q5, ql, qr⟩ := h
    obtain ⟨m, a1, a2, a3, a4⟩ := h1 x (List.mem_append_right _ List.mem_cons_self)
    exact ⟨m, a4.trans q2, a1.trans q3, a2.trans q4, a3.trans q5, ql.more fun y m => h1 y (List.mem_append_left _ m), qr.more fun y m => h1 y (List.mem_append_right _ (List.mem_cons_of_mem _ m))⟩
theorem But2.none {b d c : Addr} {H H' : Hp} (k : But2 b d H H') (n : H' c = none) (cb : c ≠ b) (cd : c ≠ d) : H c = none := by
  cases e : H c with
  | none => rfl
  | some o =>
    rw [k c o e cb cd] at n
    exact nomatch n
section
variable {P : Program} {w : World} {K : PySem.W.Frag} {mg : Str → Option Value} {base : Heap}
def spTree (n : Nat) : Sp := fun vs H Q _ => ∃ (b d q : Addr) (ls : Int → Addr) (S : Lk Int) (xs : List Int), vs = [.ref b, .ref d, .ref q] ∧ P2 H b ∧ H q = some (.lst (xs.map V.int)) ∧ q ≠ b ∧ xs.length ≤ n ∧ xs.Nodup ∧ TreeAt H d ls S ∧ S.ns.Nodup ∧ (∀ x ∈ xs, x ∉ S.ns) ∧ S.ns.length + xs.length ≤ 1000 ∧ (∀ x, S.t x = false) ∧
  ∀ (T : Tr Int) (ls' : Int → Addr) (S' : Lk Int) (H' : Hp), Grown H H' b d ls ls' S S' T xs → Q (onV T.root) H'
theorem ok_ltree (T : Top K mg) : ∀ n : Nat, FnOk P w K mg base CX0 (n + 3) T.a_Ltree T.d_Ltree ["_law_pot_here", "_law_forms_here", "_law_names"] (spTree n)
  | 0 => by
    have G_Ltake : FnOk P w K mg base CX0 1 _ _ _ _ := ok_take2 T
    have G_Ltree : FnOk P w K mg base CX0 2 T.a_Ltree T.d_Ltree ["_law_pot_here", "_law_forms_here", "_law_names"] (fun _ _ _ _ => False) := T.F_Ltree.ok sc_Ltree (fun vs H Q E h => h.elim) (fun cdv A outer s H vs Q E hr h => h.elim)
    refine T.F_Ltree.ok sc_Ltree (fun vs H Q E h => ?_) (fun cdv A outer s H vs Q E hr h => ?_)
    · obtain ⟨b, d, q, ls, S, xs, rfl, _⟩ := h
      rfl
    · obtain ⟨b, d, q, ls, S, xs, rfl, p2, hq, qb, lx, nd, A, nn, no, sz, tf, k⟩ := h
      have e0 : xs = [] := List.eq_nil_of_length_eq_zero (by omega)
      subst e0
      refine ⟨_, (pss_cons (ps_if (pt_cmpR (op_eqD hr.units) (pv 2) (pe_lst pa_nil) (nomark _)) (pss_one (ps_ret pe_non)) pss_nil)
      (pss_cons (ps_set (i := 3) sc_Ltree.nd rfl (.inl rfl) (pe_ix ix_list (pe_lst (pa_cons pe_int (pa_cons (pe_op op_sub (pe_callB call_len_seq (by rfl) T.m_len PySem.boot_len (pa_cons (pv 2) pa_nil)) pe_int) (pa_cons (pe_op op_fdivW (pe_callB call_len_seq (by rfl) T.m_len PySem.boot_len (pa_cons (pv 2) pa_nil)) pe_int) (pa_cons (pe_call G_Ltake (hr.mono (by omega)) (by rfl) T.g_Ltake T.F_Ltake.kp T.b_Ltake .nil pass0 (pa_cons (pv 0) (pa_cons (pe_callB call_len_seq (by rfl) T.m_len PySem.boot_len (pa_cons (pv 2) pa_nil)) pa_nil))) pa_nil))))) (pe_call G_Ltake (hr.mono (by omega)) (by rfl) T.g_Ltake T.F_Ltake.kp T.b_Ltake .nil pass0 (pa_cons (pv 0) (pa_cons pe_int pa_nil))) (fun _ _ => rfl)))
      (pss_cons (ps_set (i := 4) sc_Ltree.nd rfl (.inl rfl) (pe_ix ix_list (pv 2) (pv 3) (fun _ _ => rfl)))
      (pss_cons (ps_dput (u1 hr) (pv 1) (pv 4) (pe_lst (pa_cons (pe_call G_Ltree hr (by rfl) T.g_Ltree T.F_Ltree.kp T.b_Ltree .nil pass0 (pa_cons (pv 0) (pa_cons (pv 1) (pa_cons (pe_slice sl_list (pv 2) po_none (po_some (pv 3))) pa_nil)))) (pa_cons (pe_call G_Ltree hr (by rfl) T.g_Ltree T.F_Ltree.kp T.b_Ltree .nil pass0 (pa_cons (pv 0) (pa_cons (pv 1) (pa_cons (pe_slice sl_list (pv 2) (po_some (pe_op op_add (pv 3) pe_int)) po_none) pa_nil)))) (pa_cons pe_non pa_nil)))) rfl)
      (pss_cons (ps_for PassesOwn.never rfl (pi_list (pe_slice sl_list (pe_dget (u1 hr) (pv 1) (pv 4) (fun _ _ => rfl)) po_none (po_some pe_int))) (pg_name (i := 5) sc_Ltree.nd rfl (.inl rfl)) (pss_one (ps_if (pt_cmpR op_notN (pv 5) pe_non (nomark _)) (pss_one (ps_asg (pv 4) (pg_sub (pe_dget (u1 hr) (pv 1) (pv 5) (fun _ _ => rfl)) pe_int set_list))) pss_nil)))
      (pss_one (ps_ret (pv 4)))))))), ?_⟩
      refine ⟨_, rfl, Nat.zero_le _, fun e ne => ?_⟩
      have se := same_new (o := .lst []) ne
      refine ⟨_, _, .lst (SqL.of (se _ _ hq)) (dp_intsL []), .lst (SqL.of upd_same) .nil, shp_ints [], rfl, ?_⟩
      rw [eq_nilL]
      refine ⟨_, rfl, iteT ?_⟩
      exact k .nil ls S _ ⟨p2.same se, A.same se, ⟨[], (List.append_nil _).symm, .refl _, fun x m => nomatch m⟩, fun x _ => ⟨Agr.refl, rfl⟩, trivial, rfl, rfl, But2.of_same se, rfl, rfl⟩
  | n + 1 => by
    have G_Ltake : FnOk P w K mg base CX0 1 _ _ _ _ := ok_take2 T
    have G_Ltree : FnOk P w K mg base CX0 (n + 3) _ _ _ _ := ok_ltree T n
    refine T.F_Ltree.ok sc_Ltree (fun vs H Q E h => ?_) (fun cdv A outer s H vs Q E hr h => ?_)
    · obtain ⟨b, d, q, ls, S, xs, rfl, _⟩ := h
      rfl
    · obtain ⟨b, d, q, ls, S, xs, rfl, p2, hq, qb, lx, nd, A, nn, no, sz, tf, k⟩ := h
      refine ⟨_, (pss_cons (ps_if (pt_cmpR (op_eqD hr.units) (pv 2) (pe_lst pa_nil) (nomark _)) (pss_one (ps_ret pe_non)) pss_nil)
      (pss_cons (ps_set (i := 3) sc_Ltree.nd rfl (.inl rfl) (pe_ix ix_list (pe_lst (pa_cons pe_int (pa_cons (pe_op op_sub (pe_callB call_len_seq (by rfl) T.m_len PySem.boot_len (pa_cons (pv 2) pa_nil)) pe_int) (pa_cons (pe_op op_fdivW (pe_callB call_len_seq (by rfl) T.m_len PySem.boot_len (pa_cons (pv 2) pa_nil)) pe_int) (pa_cons (pe_call G_Ltake (hr.mono (by omega)) (by rfl) T.g_Ltake T.F_Ltake.kp T.b_Ltake .nil pass0 (pa_cons (pv 0) (pa_cons (pe_callB call_len_seq (by rfl) T.m_len PySem.boot_len (pa_cons (pv 2) pa_nil)) pa_nil))) pa_nil))))) (pe_call G_Ltake (hr.mono (by omega)) (by rfl) T.g_Ltake T.F_Ltake.kp T.b_Ltake .nil pass0 (pa_cons (pv 0) (pa_cons pe_int pa_nil))) (fun _ _ => rfl)))
      (pss_cons (ps_set (i := 4) sc_Ltree.nd rfl (.inl rfl) (pe_ix ix_list (pv 2) (pv 3) (fun _ _ => rfl)))
      (pss_cons (ps_dput (u1 hr) (pv 1) (pv 4) (pe_lst (pa_cons (pe_call G_Ltree hr (by rfl) T.g_Ltree T.F_Ltree.kp T.b_Ltree .nil pass0 (pa_cons (pv 0) (pa_cons (pv 1) (pa_cons (pe_slice sl_list (pv 2) po_none (po_some (pv 3))) pa_nil)))) (pa_cons (pe_call G_Ltree hr (by rfl) T.g_Ltree T.F_Ltree.kp T.b_Ltree .nil pass0 (pa_cons (pv 0) (pa_cons (pv 1) (pa_cons (pe_slice sl_list (pv 2) (po_some (pe_op op_add (pv 3) pe_int)) po_none) pa_nil)))) (pa_cons pe_non pa_nil)))) rfl)
      (pss_cons (ps_for PassesOwn.never rfl (pi_list (pe_slice sl_list (pe_dget (u1 hr) (pv 1) (pv 4) (fun _ _ => rfl)) po_none (po_some pe_int))) (pg_name (i := 5) sc_Ltree.nd rfl (.inl rfl)) (pss_one (ps_if (pt_cmpR op_notN (pv 5) pe_non (nomark _)) (pss_one (ps_asg (pv 4) (pg_sub (pe_dget (u1 hr) (pv 1) (pv 5) (fun _ _ => rfl)) pe_int set_list))) pss_nil)))
      (pss_one (ps_ret (pv 4)))))))), ?_⟩
      refine ⟨_, rfl, Nat.zero_le _, fun e ne => ?_⟩
      have se := same_new (o := .lst []) ne
      have he : upd H e (.lst []) e = some (.lst []) := upd_same
      have hq1 := se _ _ hq
      have p21 := p2.same se
      have A1 := A.same se
      generalize upd H e (.lst []) = H1 at se he hq1 p21 A1 ⊢
      refine ⟨_, _, .lst (SqL.of hq1) (dp_intsL xs), .lst (SqL.of he) .nil, shp_ints xs, rfl, ?_⟩
      rw [eq_nilL]
      by_cases c0 : xs = []
      · subst c0
        refine ⟨_, rfl, iteT ?_⟩
        exact k .nil ls S _ ⟨p21, A1, ⟨[], (List.append_nil _).symm, .refl _, fun x m => nomatch m⟩, fun x _ => ⟨Agr.refl, rfl⟩, trivial, rfl, rfl, But2.of_same se, rfl, rfl⟩
      have ce : xs.isEmpty = false := by
        cases xs with
        | nil => exact absurd rfl c0
        | cons _ _ => rfl
      have lp : 1 ≤ xs.length := List.length_pos_iff.mpr c0
      rw [ce]
      refine ⟨_, rfl, iteF ?_⟩
      -- at
      have lm : (xs.map V.int).length = xs.length := List.length_map ..
      refine ⟨_, rfl, q, _, rfl, .inl (SqL.of hq1), _, _, rfl, rfl, ?_⟩
      refine ⟨_, rfl, q, _, rfl, .inl (SqL.of hq1), _, _, rfl, rfl, wide_ok (by decide) (by decide), ?_⟩
      refine ⟨_, rfl, _, rfl, q, _, rfl, .inl (SqL.of hq1), b, _, rfl, p21, (by rw [lm]; omega), (by rw [lm]; omega), fun x4 H2 a4 b4 p22 k2 => ?_⟩
      rw [lm] at b4 ⊢
      refine ⟨(by show 4 ≤ sizeLine; decide), fun p np => ?_⟩
      have sp := same_new (o := .lst [V.int 0, V.int ((xs.length : Int) - 1), V.int ((xs.length : Int) / 2), V.int x4]) np
      have hp : upd H2 p (.lst [V.int 0, V.int ((xs.length : Int) - 1), V.int ((xs.length : Int) / 2), V.int x4]) p = some (.lst [V.int 0, V.int ((xs.length : Int) - 1), V.int ((xs.length : Int) / 2), V.int x4]) := upd_same
      have p23 := p22.same sp
      have pb := p22.ne np
      have hq3 := sp _ _ (k2 _ _ hq1 qb)
      have A3 := (A1.but p21 k2).same sp
      have k03 : But b H (upd H2 p (.lst [V.int 0, V.int ((xs.length : Int) - 1), V.int ((xs.length : Int) / 2), V.int x4])) := fun c o e1 n1 => sp _ _ (k2 _ _ (se _ _ e1) n1)
      generalize upd H2 p (.lst [V.int 0, V.int ((xs.length : Int) - 1), V.int ((xs.length : Int) / 2), V.int x4]) = H3 at sp hp p23 hq3 A3 k03 ⊢
      refine ⟨_, rfl, b, 4, rfl, p23, (by decide), (by decide), fun kk H4 a5 b5 p24 k4 => ?_⟩
      obtain ⟨j, hj, jl⟩ := pick4 (n := (xs.length : Int)) (by omega) a4 b4 a5 b5
      have hq4 := k4 _ _ hq3 qb
      have A4 := A3.but p23 k4
      have k04 := k03.trans k4
      refine ⟨p, _, _, _, rfl, rfl, SqL.of (k4 _ _ hp pb), hj, ?_⟩
      clear hj hp hq3 A3 p23 k03 k4 sp k2 p22 hq1 p21 A1 se he np
      have jl : j < xs.length := by omega
      obtain ⟨t, ht⟩ : ∃ t, xs[j]? = some t := ⟨xs[j], List.getElem?_eq_getElem jl⟩
      refine ⟨_, rfl, _, rfl, q, _, _, V.int t, rfl, rfl, SqL.of hq4, atI_nat (j := j) (by rw [List.getElem?_map, ht]; rfl), ?_⟩
      have ex : xs = xs.take j ++ t :: xs.drop (j + 1) := by
        obtain ⟨l1, e1⟩ := List.getElem?_eq_some_iff.mp ht
        rw [← e1, ← List.drop_eq_getElem_cons l1, List.take_append_drop]
      have nd' := nd
      rw [ex] at nd'
      obtain ⟨n1, n2, n3⟩ := List.nodup_append.mp nd'
      obtain ⟨n4, n5⟩ := List.nodup_cons.mp n2
      have ml : ∀ x ∈ xs.take j, x ∈ xs := fun x m => List.mem_of_mem_take m
      have mr : ∀ x ∈ xs.drop (j + 1), x ∈ xs := fun x m => List.mem_of_mem_drop m
      have mt : t ∈ xs := List.mem_of_getElem? ht
      -- what stands ahead
      refine ⟨_, rfl, _, rfl, _, rfl, _, rfl, (j : Int), rfl, q, _, rfl, SqL.of hq4, fun p1 np1 => ?_⟩
      rw [cut_takeJ]
      have s5 := same_new (o := .lst ((xs.take j).map V.int)) np1
      have h5 : upd H4 p1 (.lst ((xs.take j).map V.int)) p1 = some (.lst ((xs.take j).map V.int)) := upd_same
      have pb1 := p24.ne np1
      have p25 := p24.same s5
      have A5 := A4.same s5
      have hq5 := s5 _ _ hq4
      have k05 : But b H (upd H4 p1 (.lst ((xs.take j).map V.int))) := k04.same s5
      generalize upd H4 p1 (.lst ((xs.take j).map V.int)) = H5 at s5 h5 p25 A5 hq5 k05 ⊢
      have lt : (xs.take j).length = j := by rw [List.length_take]; omega
      refine ⟨b, d, p1, ls, S, xs.take j, rfl, p25, h5, pb1, by omega, n1, A5, nn, (fun x m => no x (ml x m)), by omega, tf, fun T1 ls1 S1 H6 g1 => ?_⟩
      obtain ⟨zs1, en1, pm1, nw1⟩ := g1.ns
      have ord1 : ∀ x, x ∈ T1.nms ↔ x ∈ xs.take j := fun x => by rw [← g1.od]; exact Tr.ord_mem.symm
      have z1 : ∀ x, x ∈ zs1 ↔ x ∈ xs.take j := fun x => by rw [pm1.mem_iff, ord1]
      have lz1 : zs1.length = j := by
        rw [pm1.length_eq, ← ord_flat g1.fl, g1.od, lt]
      have nn1 : S1.ns.Nodup := by
        rw [en1]
        refine List.nodup_append.mpr ⟨nn, ?_, fun x mx y my e1 => no x (ml x ((z1 x).mp (e1 ▸ my))) mx⟩
        rw [pm1.nodup_iff, ← ord_flat g1.fl, g1.od]
        exact n1
      have dq : d ≠ q := ne_of A.hd hq (by intro z; cases z)
      have hq6 := g1.kp _ _ hq5 qb (Ne.symm dq)
      -- what stands behind
      refine ⟨_, rfl, _, rfl, _, rfl, _, rfl, _, _, rfl, rfl, _, rfl, q, _, rfl, SqL.of hq6, fun p2' np2 => ?_⟩
      rw [cut_drop1]
      have s7 := same_new (o := .lst ((xs.drop (j + 1)).map V.int)) np2
      have h7 : upd H6 p2' (.lst ((xs.drop (j + 1)).map V.int)) p2' = some (.lst ((xs.drop (j + 1)).map V.int)) := upd_same
      have pb2 := g1.p2.ne np2
      have p27 := g1.p2.same s7
      have A7 := g1.tr.same s7
      generalize upd H6 p2' (.lst ((xs.drop (j + 1)).map V.int)) = H7 at s7 h7 p27 A7 ⊢
      have ld : (xs.drop (j + 1)).length = xs.length - (j + 1) := List.length_drop
      refine ⟨b, d, p2', ls1, S1, xs.drop (j + 1), rfl, p27, h7, pb2, by omega, n5, A7, nn1, (fun x m => ?_), by rw [en1, List.length_append]; omega, (fun x => by rw [g1.tf]; exact tf x), fun T2 ls2 S2 H8 g2 => ?_⟩
      · rw [en1]
        intro m2
        rcases List.mem_append.mp m2 with m2 | m2
        · exact no x (mr x m) m2
        · exact n3 x ((z1 x).mp m2) x (List.mem_cons_of_mem _ m) rfl
      obtain ⟨zs2, en2, pm2, nw2⟩ := g2.ns
      have ord2 : ∀ x, x ∈ T2.nms ↔ x ∈ xs.drop (j + 1) := fun x => by rw [← g2.od]; exact Tr.ord_mem.symm
      have z2 : ∀ x, x ∈ zs2 ↔ x ∈ xs.drop (j + 1) := fun x => by rw [pm2.mem_iff, ord2]
      have lz2 : zs2.length = xs.length - (j + 1) := by
        rw [pm2.length_eq, ← ord_flat g2.fl, g2.od, ld]
      have tno : t ∉ S2.ns := fun m => by
        rw [en2, en1] at m
        rcases List.mem_append.mp m with m | m
        · rcases List.mem_append.mp m with m | m
          · exact no t mt m
          · exact n3 t ((z1 t).mp m) t List.mem_cons_self rfl
        · exact n4 ((z2 t).mp m)
      refine ⟨(by show 3 ≤ sizeLine; decide), fun c nc => ?_⟩
      have s9 := same_new (o := .lst [onV T1.root, onV T2.root, V.non]) nc
      have h9 : upd H8 c (.lst [onV T1.root, onV T2.root, V.non]) c = some (.lst [onV T1.root, onV T2.root, V.non]) := upd_same
      have A9 := g2.tr.same s9
      have p29 := g2.p2.same s9
      have cb := g2.p2.ne nc
      have cd : d ≠ c := ne_of_none g2.tr.hd nc
      have cl : ∀ x ∈ S2.ns, ls2 x ≠ c := fun x m => ne_of_none (g2.tr.at' x m) nc
      generalize upd H8 c (.lst [onV T1.root, onV T2.root, V.non]) = H9 at s9 h9 A9 p29 ⊢
      have lS2 : S2.ns.length < 1000 := by
        rw [en2, en1, List.length_append, List.length_append]
        omega
      refine ⟨_, rfl, _, rfl, d, _, rfl, DPut.k (k := Sum.inl t) A9.hd (by rw [dN_len]; exact szl (by omega)), ?_⟩
      -- the state then
      have e10 : putK (dN S2.ns fun x => V.ref (ls2 x)) (Sum.inl t) (.ref c) = dN (S2.ns ++ [t]) fun x => V.ref (up1 ls2 t c x) := by
        rw [dN_new tno]
        refine dN_congr fun x _ => ?_
        unfold up1
        split <;> rfl
      have hd10 : upd H9 d (.dK (putK (dN S2.ns fun x => V.ref (ls2 x)) (Sum.inl t) (.ref c))) d = some (.dK (dN (S2.ns ++ [t]) fun x => V.ref (up1 ls2 t c x))) := by rw [upd_same, e10]
      have oth : ∀ a, a ≠ d → upd H9 d (.dK (putK (dN S2.ns fun x => V.ref (ls2 x)) (Sum.inl t) (.ref c))) a = H9 a := fun a n => upd_ne n
      generalize upd H9 d (.dK (putK (dN S2.ns fun x => V.ref (ls2 x)) (Sum.inl t) (.ref c))) = HA at hd10 oth ⊢
      have lst : up1 ls2 t c t = c := up1_same
      have lso : ∀ x ∈ S2.ns, up1 ls2 t c x = ls2 x := fun x m => up1_ne fun e => tno (e ▸ m)
      generalize up1 ls2 t c = ls3 at hd10 lst lso
      have A10 : TreeAt HA d ls3 { S2 with ns := S2.ns ++ [t], l := up1 S2.l t T1.root, r := up1 S2.r t T2.root, a := up1 S2.a t none } := by
        refine ⟨hd10, fun x m => ?_, fun x mx y my e => ?_⟩
        · rcases List.mem_append.mp m with m | m
          · have xt : x ≠ t := fun e => tno (e ▸ m)
            rw [lso x m, oth _ (A9.nd m).symm, A9.at' x m]
            unfold cel
            dsimp only
            rw [up1_ne xt, up1_ne xt, up1_ne xt]
          · have xt := List.mem_singleton.mp m
            subst xt
            rw [lst, oth _ cd.symm, h9]
            unfold cel
            dsimp only
            rw [up1_same, up1_same, up1_same]
            rfl
        · rcases List.mem_append.mp mx with mx | mx <;> rcases List.mem_append.mp my with my | my
          · rw [lso x mx, lso y my] at e
            exact A9.inj x mx y my e
          · rw [List.mem_singleton.mp my, lso x mx, lst] at e
            exact absurd e (cl x mx)
          · rw [List.mem_singleton.mp mx, lso y my, lst] at e
            exact absurd e.symm (cl y my)
          · rw [List.mem_singleton.mp mx, List.mem_singleton.mp my]
      have pA : P2 HA b := by
        obtain ⟨x, y, e1⟩ := p29
        exact ⟨x, y, by rw [oth _ (g2.p2.ls g2.tr).1.symm]; exact e1⟩
      -- below t
      obtain ⟨SX, hX⟩ : ∃ SX : Lk Int, SX = { S2 with ns := S2.ns ++ [t], l := up1 S2.l t T1.root, r := up1 S2.r t T2.root, a := up1 S2.a t none } := ⟨_, rfl⟩
      rw [← hX] at A10
      have xl : SX.l t = T1.root := by rw [hX]; exact up1_same
      have xr : SX.r t = T2.root := by rw [hX]; exact up1_same
      have xn : SX.ns = S2.ns ++ [t] := by rw [hX]
      have mt10 : t ∈ S2.ns ++ [t] := List.mem_append_right _ List.mem_cons_self
      have mtX : t ∈ SX.ns := xn ▸ mt10
      refine ⟨_, rfl, _, rfl, d, _, rfl, A10.get mtX, 2, rfl, ls3 t, _, rfl, SqL.of (A10.at' t mtX), fun p3 np3 => ?_⟩
      rw [take_two, xl, xr]
      have s11 := same_new (o := .lst [onV T1.root, onV T2.root]) np3
      have h11 : upd HA p3 (.lst [onV T1.root, onV T2.root]) p3 = some (.lst ([T1.root, T2.root].map onV)) := upd_same
      have A11 := A10.same s11
      have p211 := pA.same s11
      have p3b := pA.ne np3
      have p3l : ∀ x ∈ SX.ns, ls3 x ≠ p3 := fun x m => ne_of_none (A10.at' x m) np3
      generalize upd HA p3 (.lst [onV T1.root, onV T2.root]) = HB at s11 h11 A11 p211 ⊢
      have r1m : ∀ y, T1.root = some y → y ∈ zs1 := fun y e1 => pm1.mem_iff.mpr (Tr.root_mem e1)
      have r2m : ∀ y, T2.root = some y → y ∈ zs2 := fun y e1 => pm2.mem_iff.mpr (Tr.root_mem e1)
      have nsz : ∀ y, y ∈ zs1 ∨ y ∈ zs2 → y ∈ S2.ns := fun y h => by
        rw [en2, en1]
        rcases h with h | h
        · exact List.mem_append_left _ (List.mem_append_right _ h)
        · exact List.mem_append_right _ h
      refine ⟨p3, rfl, ⟨_, SqL.of h11⟩, ?_⟩
      refine for_list (K := K) (a := p3) (xs := [T1.root, T2.root].map onV) (fun i σ G => ∃ y5 : Option V, σ = [some (.ref b), some (.ref d), some (.ref q), some (.int (j : Int)), some (.int t), y5] ∧ P2 G b ∧ G p3 = some (.lst ([T1.root, T2.root].map onV)) ∧ ButT ls3 (zs1 ++ zs2) HB G ∧ TreeAt G d ls3 { SX with a := ([T1.root, T2.root].take i).foldl (fun f y => upO f y (some t)) SX.a }) ⟨none, rfl, p211, h11, ButT.refl, A11⟩ (fun i σ G _ h => ?_) ?_ ?_
      · obtain ⟨_, _, _, h, _⟩ := h
        exact SqL.of h
      · rintro i v σ G hv ⟨y5, rfl, p2g, hpg, kg, Ag⟩
        rw [List.getElem?_map] at hv
        obtain ⟨y, hy, rfl⟩ := Option.map_eq_some_iff.mp hv
        have ef : (([T1.root, T2.root] : List (Option Int)).take (i + 1)).foldl (fun f y => upO f y (some t)) SX.a = upO ((([T1.root, T2.root] : List (Option Int)).take i).foldl (fun f y => upO f y (some t)) SX.a) y (some t) := by
          rw [tk_at hy, List.foldl_append]
          rfl
        have my : ∀ z, y = some z → z ∈ zs1 ++ zs2 := fun z e1 => by
          subst e1
          match i, hy with
          | 0, hy => exact List.mem_append_left _ (r1m z (Option.some.inj hy))
          | 1, hy => exact List.mem_append_right _ (r2m z (Option.some.inj hy))
        rw [ef]
        refine ⟨_, rfl, rfl, _, rfl, ?_⟩
        cases y with
        | none => exact ifF rfl ⟨_, rfl, p2g, hpg, kg, Ag⟩
        | some z =>
          have mz := my z rfl
          have mz' : z ∈ SX.ns := xn ▸ List.mem_append_left _ (nsz z (List.mem_append.mp mz))
          refine ifT rfl ⟨_, rfl, _, rfl, _, rfl, d, _, rfl, Ag.get mz', ls3 z, _, 2, 2, rfl, rfl, Ag.at' z mz', rfl, ?_⟩
          refine ⟨_, rfl, p2g.put (p2g.ls Ag |>.2 z mz'), ?_, kg.put mz, Ag.setA (y := some t) mz'⟩
          rw [upd_ne (p3l z mz').symm]
          exact hpg
      · rintro σ G ⟨y5, rfl, p2g, hpg, kg, Ag⟩
        subst hX
        have Ag : TreeAt G d ls3 { S2 with ns := S2.ns ++ [t], l := up1 S2.l t T1.root, r := up1 S2.r t T2.root, a := upO (upO (up1 S2.a t none) T1.root (some t)) T2.root (some t) } := Ag
        have n12 : ∀ y, y ∈ zs1 → y ∉ zs2 := fun y m1 m2 => n3 y ((z1 y).mp m1) y (List.mem_cons_of_mem _ ((z2 y).mp m2)) rfl
        have tz1 : t ∉ zs1 := fun m => n3 t ((z1 t).mp m) t List.mem_cons_self rfl
        have tz2 : t ∉ zs2 := fun m => n4 ((z2 t).mp m)
        have nT1 : T1.nms.Nodup := by rw [← ord_flat g1.fl, g1.od]; exact n1
        have nT2 : T2.nms.Nodup := by rw [← ord_flat g2.fl, g2.od]; exact n5
        -- what is above each
        have aO : ∀ y, y ≠ t → T1.root ≠ some y → T2.root ≠ some y → upO (upO (up1 S2.a t none) T1.root (some t)) T2.root (some t) y = S2.a y := fun y h1 h2 h3 => by rw [upO_ne (Ne.symm h3), upO_ne (Ne.symm h2), up1_ne h1]
        have aT : upO (upO (up1 S2.a t none) T1.root (some t)) T2.root (some t) t = none := by rw [upO_ne fun e1 => tz2 (r2m t e1.symm), upO_ne fun e1 => tz1 (r1m t e1.symm), up1_same]
        have a1 : ∀ y, T1.root = some y → upO (upO (up1 S2.a t none) T1.root (some t)) T2.root (some t) y = some t := fun y h => by rw [upO_ne fun e1 => n12 y (r1m y h) (r2m y e1.symm), h, upO_same]
        have a2 : ∀ y, T2.root = some y → upO (upO (up1 S2.a t none) T1.root (some t)) T2.root (some t) y = some t := fun y h => by rw [h, upO_same]
        generalize upO (upO (up1 S2.a t none) T1.root (some t)) T2.root (some t) = aE at Ag aO aT a1 a2
        have agr : ∀ y ∈ S2.ns, T1.root ≠ some y → T2.root ≠ some y → Agr S2 { S2 with ns := S2.ns ++ [t], l := up1 S2.l t T1.root, r := up1 S2.r t T2.root, a := aE } y := fun y m h2 h3 => by
          have yt : y ≠ t := fun e1 => tno (e1 ▸ m)
          exact ⟨up1_ne yt, up1_ne yt, aO y yt h2 h3, rfl⟩
        refine ⟨_, rfl, k (.nd false T1 t T2) ls3 _ G ⟨p2g, Ag, ⟨zs1 ++ (zs2 ++ [t]), ?_, ?_, fun y m => ?_⟩, fun y m => ?_, ?_, ?_, ?_, ?_, ?_, ?_⟩⟩
        · show S2.ns ++ [t] = _
          rw [en2, en1, List.append_assoc, List.append_assoc]
        · show (zs1 ++ (zs2 ++ [t])).Perm (T1.nms ++ t :: T2.nms)
          refine (pm1.append ((pm2.append_right [t]).trans ?_))
          exact List.perm_append_comm (l₁ := T2.nms) (l₂ := [t])
        · have none_h : ∀ a, H6 a = none ∨ H5 a = none → a ≠ b → a ≠ d → H a = none := fun a h nb nd => by
            have h5n : H5 a = none := by
              rcases h with h | h
              · exact g1.kp.none h nb nd
              · exact h
            cases e1 : H a with
            | none => rfl
            | some o =>
              rw [k05 a o e1 nb] at h5n
              exact nomatch h5n
          have new1 : ∀ y ∈ zs1, ls3 y = ls1 y := fun y m => by
            rw [lso y (nsz y (.inl m)), (g2.old y (by rw [en1]; exact List.mem_append_right _ m)).2]
          have bd : ∀ y ∈ S2.ns, ls2 y ≠ b ∧ ls2 y ≠ d := fun y m => ⟨(g2.p2.ls g2.tr).2 y m, (g2.tr.nd m).symm⟩
          rcases List.mem_append.mp m with m | m
          · have e2 := new1 y m
            have e3 := bd y (nsz y (.inl m))
            rw [← lso y (nsz y (.inl m)), e2] at e3
            rw [e2]
            exact none_h _ (.inr (nw1 y m)) e3.1 e3.2
          · rcases List.mem_append.mp m with m | m
            · have e3 := bd y (nsz y (.inr m))
              rw [lso y (nsz y (.inr m))]
              refine none_h _ (.inl ?_) e3.1 e3.2
              exact Same.none s7 (nw2 y m)
            · have yt := List.mem_singleton.mp m
              subst yt
              rw [lst]
              refine none_h _ (.inl ?_) cb cd.symm
              exact Same.none s7 (g2.kp.none nc cb cd.symm)
        · have m1 : y ∈ S1.ns := by rw [en1]; exact List.mem_append_left _ m
          have m2 : y ∈ S2.ns := by rw [en2]; exact List.mem_append_left _ m1
          obtain ⟨b1, b2⟩ := g1.old y m
          obtain ⟨c1, c2⟩ := g2.old y m1
          refine ⟨(b1.trans c1).trans (agr y m2 (fun e1 => ?_) fun e1 => ?_), by rw [lso y m2, c2, b2]⟩
          · exact no y (ml y ((z1 y).mp (r1m y e1))) m
          · exact no y (mr y ((z2 y).mp (r2m y e1))) m
        · refine ⟨mt10, ?_, up1_same, up1_same, aT, ?_, ?_⟩
          · show S2.t t = false
            rw [g2.tf, g1.tf]
            exact tf t
          · have r12 : Rep S2 none T1 := g1.rep.more fun y m => by
              have my1 := pm1.mem_iff.mpr m
              exact ⟨nsz y (.inl my1), (g2.old y (by rw [en1]; exact List.mem_append_right _ my1)).1⟩
            have r3 : Rep { S2 with ns := S2.ns ++ [t] } none T1 := r12.more fun y m => ⟨List.mem_append_left _ (rep_sub_ns r12 y m), Agr.refl⟩
            refine Rep.re (S := { S2 with ns := S2.ns ++ [t] }) (S' := { S2 with ns := S2.ns ++ [t], l := up1 S2.l t T1.root, r := up1 S2.r t T2.root, a := aE }) (p' := some t) rfl r3 nT1 (fun y m => ?_) (fun y m ne2 => ?_) fun y e1 => a1 y e1
            · have yt : y ≠ t := fun e1 => tz1 (pm1.mem_iff.mpr (e1 ▸ m))
              exact ⟨up1_ne yt, up1_ne yt, rfl⟩
            · have my1 := pm1.mem_iff.mpr m
              exact aO y (fun e1 => tz1 (e1 ▸ my1)) ne2 fun e1 => n12 y my1 (r2m y e1)
          · have r3 : Rep { S2 with ns := S2.ns ++ [t] } none T2 := g2.rep.more fun y m => ⟨List.mem_append_left _ (rep_sub_ns g2.rep y m), Agr.refl⟩
            refine Rep.re (S := { S2 with ns := S2.ns ++ [t] }) (S' := { S2 with ns := S2.ns ++ [t], l := up1 S2.l t T1.root, r := up1 S2.r t T2.root, a := aE }) (p' := some t) rfl r3 nT2 (fun y m => ?_) (fun y m ne2 => ?_) fun y e1 => a2 y e1
            · have yt : y ≠ t := fun e1 => tz2 (pm2.mem_iff.mpr (e1 ▸ m))
              exact ⟨up1_ne yt, up1_ne yt, rfl⟩
            · have my2 := pm2.mem_iff.mpr m
              exact aO y (fun e1 => tz2 (e1 ▸ my2)) (fun e1 => n12 y (r1m y e1) my2) ne2
        · show (true && flat T1 && flat T2) = true
          rw [g1.fl, g2.fl]
          rfl
        · show T1.ord ++ t :: T2.ord = xs
          rw [g1.od, g2.od, ← ex]
        · intro a o e1 ab ad
          have e5 := k05 a o e1 ab
          have e8 := g2.kp _ _ (s7 _ _ (g1.kp _ _ e5 ab ad)) ab ad
          have eA : HA a = some o := by
            rw [oth a ad]
            exact s9 _ _ e8
          refine kg _ _ (s11 _ _ eA) fun z mz ea => ?_
          have mz2 := nsz z (List.mem_append.mp mz)
          have hn : H a = none := by
            have e3 : ls2 z ≠ b ∧ ls2 z ≠ d := ⟨(g2.p2.ls g2.tr).2 z mz2, (g2.tr.nd mz2).symm⟩
            rw [ea, lso z mz2]
            have h5n : H5 (ls2 z) = none := by
              rcases List.mem_append.mp mz with mz | mz
              · rw [(g2.old z (by rw [en1]; exact List.mem_append_right _ mz)).2]
                exact nw1 z mz
              · exact g1.kp.none (Same.none s7 (nw2 z mz)) e3.1 e3.2
            cases e4 : H (ls2 z) with
            | none => rfl
            | some o2 =>
              rw [k05 _ o2 e4 e3.1] at h5n
              exact nomatch h5n
          rw [hn] at e1
          exact nomatch e1
        · show S2.t = S.t
          rw [g2.tf, g1.tf]
        · show S2.lk = S.lk
          rw [g2.lk, g1.lk]
end

section
variable {N : Type} [DecidableEq N]
/-- who is below whom -/
theorem rep_child {S : Lk N} : ∀ {T : Tr N} {p : Option N}, Rep S p T → T.nms.Nodup → ∀ x ∈ T.nms, (∀ y, S.l x = some y → y ∈ T.nms ∧ S.a y = some x) ∧ (∀ y, S.r x = some y → y ∈ T.nms ∧ S.a y = some x) ∧ ∀ y, S.l x = some y → S.r x ≠ some y
  | .nd tw l x r, p, h, nd, z, m => by
    obtain ⟨h1, h2, h3, h4, h5, hl, hr⟩ := h
    have nd : (l.nms ++ x :: r.nms).Nodup := nd
    obtain ⟨n1, n2, n3⟩ := List.nodup_append.mp nd
    obtain ⟨n4, n5⟩ := List.nodup_cons.mp n2
    have il : ∀ y, y ∈ l.nms → y ∈ (Tr.nd tw l x r).nms := fun y my => List.mem_append_left _ my
    have ir : ∀ y, y ∈ r.nms → y ∈ (Tr.nd tw l x r).nms := fun y my => List.mem_append_right _ (List.mem_cons_of_mem _ my)
    rcases List.mem_append.mp m with m | m
    · obtain ⟨a1, a2, a3⟩ := rep_child hl n1 z m
      exact ⟨fun y e => ⟨il y (a1 y e).1, (a1 y e).2⟩, fun y e => ⟨il y (a2 y e).1, (a2 y e).2⟩, a3⟩
    · rcases List.mem_cons.mp m with rfl | m
      · refine ⟨fun y e => ?_, fun y e => ?_, fun y e e2 => ?_⟩
        · have e := h3.symm.trans e
          exact ⟨il y (Tr.root_mem e), hl.top e⟩
        · have e := h4.symm.trans e
          exact ⟨ir y (Tr.root_mem e), hr.top e⟩
        · exact n3 y (Tr.root_mem (h3.symm.trans e)) y (List.mem_cons_of_mem _ (Tr.root_mem (h4.symm.trans e2))) rfl
      · obtain ⟨a1, a2, a3⟩ := rep_child hr n5 z m
        exact ⟨fun y e => ⟨ir y (a1 y e).1, (a1 y e).2⟩, fun y e => ⟨ir y (a2 y e).1, (a2 y e).2⟩, a3⟩
end

/-! ### strands that hang on one another -/
abbrev Strands := List (Tr Int × Option Int)
def snm (Ts : Strands) : List Int := Ts.flatMap fun t => t.1.nms
def Hung (S : Lk Int) : Strands → Prop
  | [] => True
  | t :: r => Rep S t.2 t.1 ∧ flat t.1 = true ∧ (∃ x, t.1.root = some x) ∧ (∀ q, t.2 = some q → q ∈ snm r) ∧ Hung S r
theorem snm_cons (t : Tr Int × Option Int) (r : Strands) : snm (t :: r) = t.1.nms ++ snm r := rfl
structure Fo (S : Lk Int) (Ts : Strands) : Prop where
  h : Hung S Ts
  pm : (snm Ts).Perm S.ns
  nn : S.ns.Nodup
theorem Hung.more {S S' : Lk Int} : ∀ {Ts : Strands}, Hung S Ts → (∀ x ∈ snm Ts, x ∈ S'.ns ∧ Agr S S' x) → Hung S' Ts
  | [], _, _ => trivial
  | t :: r, h, k => by
    obtain ⟨h1, h2, h3, h4, h5⟩ := h
    exact ⟨h1.more fun x m => k x (List.mem_append_left _ m), h2, h3, h4, h5.more fun x m => k x (List.mem_append_right _ m)⟩
theorem rep_rank {S : Lk Int} : ∀ {T : Tr Int} {p : Option Int}, Rep S p T → T.nms.Nodup → ∃ d : Int → Int, ∀ x ∈ T.nms, 0 ≤ d x ∧ d x ≤ T.nms.length ∧ (T.root = some x ∨ ∃ u ∈ T.nms, S.a x = some u ∧ d u < d x)
  | .nil, _, _, _ => ⟨fun _ => 0, fun x m => nomatch m⟩
  | .nd tw l z r, p, h, nd => by
    obtain ⟨_, _, _, _, _, hl, hr⟩ := h
    have nd : (l.nms ++ z :: r.nms).Nodup := nd
    obtain ⟨n1, n2, n3⟩ := List.nodup_append.mp nd
    obtain ⟨n4, n5⟩ := List.nodup_cons.mp n2
    obtain ⟨dl, h1⟩ := rep_rank hl n1
    obtain ⟨dr, h2⟩ := rep_rank hr n5
    have zl : z ∉ l.nms := fun m => n3 z m z List.mem_cons_self rfl
    have lr : ∀ x ∈ r.nms, x ∉ l.nms := fun x m m2 => n3 x m2 x (List.mem_cons_of_mem _ m) rfl
    have ln : ((Tr.nd tw l z r).nms.length : Int) = l.nms.length + r.nms.length + 1 := by
      rw [nd_len]
      omega
    refine ⟨fun y => if y = z then 0 else if y ∈ l.nms then dl y + 1 else dr y + 1, fun x m => ?_⟩
    rcases List.mem_append.mp m with m | m
    · have xz : x ≠ z := fun e => zl (e ▸ m)
      obtain ⟨a1, a2, a3⟩ := h1 x m
      dsimp only
      rw [if_neg xz, if_pos m]
      refine ⟨by omega, by omega, .inr ?_⟩
      rcases a3 with e | ⟨u, mu, eu, lu⟩
      · refine ⟨z, List.mem_append_right _ List.mem_cons_self, hl.top e, ?_⟩
        rw [if_pos rfl]
        omega
      · refine ⟨u, List.mem_append_left _ mu, eu, ?_⟩
        rw [if_neg fun (e : u = z) => zl (e ▸ mu), if_pos mu]
        omega
    · rcases List.mem_cons.mp m with e | m
      · dsimp only
        rw [if_pos e]
        exact ⟨Int.le_refl _, by omega, .inl (by rw [e]; rfl)⟩
      · have xz : x ≠ z := fun e => n4 (e ▸ m)
        obtain ⟨a1, a2, a3⟩ := h2 x m
        dsimp only
        rw [if_neg xz, if_neg (lr x m)]
        refine ⟨by omega, by omega, .inr ?_⟩
        rcases a3 with e | ⟨u, mu, eu, lu⟩
        · refine ⟨z, List.mem_append_right _ List.mem_cons_self, hr.top e, ?_⟩
          rw [if_pos rfl]
          omega
        · refine ⟨u, List.mem_append_right _ (List.mem_cons_of_mem _ mu), eu, ?_⟩
          rw [if_neg fun (e : u = z) => n4 (e ▸ mu), if_neg (lr u mu)]
          omega
theorem hung_rank {S : Lk Int} : ∀ {Ts : Strands}, Hung S Ts → (snm Ts).Nodup → ∃ (d : Int → Int) (B : Int), ∀ x ∈ snm Ts, d x ≤ B ∧ ∀ u, S.a x = some u → u ∈ snm Ts ∧ d u < d x
  | [], _, _ => ⟨fun _ => 0, 0, fun x m => nomatch m⟩
  | t :: r, h, nd => by
    obtain ⟨h1, h2, h3, h4, h5⟩ := h
    rw [snm_cons] at nd
    obtain ⟨n1, n2, n3⟩ := List.nodup_append.mp nd
    obtain ⟨d, B, hd⟩ := hung_rank h5 n2
    obtain ⟨dT, hT⟩ := rep_rank h1 n1
    have no : ∀ x ∈ snm r, x ∉ t.1.nms := fun x m m2 => n3 x m2 x m rfl
    refine ⟨fun y => if y ∈ t.1.nms then B + 1 + dT y else d y, B + 1 + t.1.nms.length, fun x m => ?_⟩
    rw [snm_cons] at m
    dsimp only
    rcases List.mem_append.mp m with m | m
    · obtain ⟨a1, a2, a3⟩ := hT x m
      rw [if_pos m]
      refine ⟨by omega, fun u eu => ?_⟩
      rcases a3 with e | ⟨v, mv, ev, lv⟩
      · have ep := (h1.top e).symm.trans eu
        have mu := h4 u ep
        refine ⟨List.mem_append_right _ mu, ?_⟩
        rw [if_neg (no u mu)]
        have := (hd u mu).1
        omega
      · rw [ev] at eu
        cases eu
        refine ⟨List.mem_append_left _ mv, ?_⟩
        rw [if_pos mv]
        omega
    · obtain ⟨a1, a2⟩ := hd x m
      rw [if_neg (no x m)]
      refine ⟨by omega, fun u eu => ?_⟩
      obtain ⟨mu, lu⟩ := a2 u eu
      refine ⟨List.mem_append_right _ mu, ?_⟩
      rw [if_neg (no u mu)]
      exact lu
theorem hung_kids {S : Lk Int} : ∀ {Ts : Strands}, Hung S Ts → (snm Ts).Nodup → ∀ x ∈ snm Ts, (∀ y, S.l x = some y → y ∈ snm Ts ∧ S.a y = some x) ∧ (∀ y, S.r x = some y → y ∈ snm Ts ∧ S.a y = some x) ∧ ∀ y, S.l x = some y → S.r x ≠ some y
  | t :: r, h, nd, x, m => by
    obtain ⟨h1, h2, h3, h4, h5⟩ := h
    rw [snm_cons] at nd m
    obtain ⟨n1, n2, n3⟩ := List.nodup_append.mp nd
    rcases List.mem_append.mp m with m | m
    · obtain ⟨a1, a2, a3⟩ := rep_child h1 n1 x m
      exact ⟨fun y e => ⟨List.mem_append_left _ (a1 y e).1, (a1 y e).2⟩, fun y e => ⟨List.mem_append_left _ (a2 y e).1, (a2 y e).2⟩, a3⟩
    · obtain ⟨a1, a2, a3⟩ := hung_kids h5 n2 x m
      exact ⟨fun y e => ⟨List.mem_append_right _ (a1 y e).1, (a1 y e).2⟩, fun y e => ⟨List.mem_append_right _ (a2 y e).1, (a2 y e).2⟩, a3⟩
theorem Fo.nd {S : Lk Int} {Ts : Strands} (f : Fo S Ts) : (snm Ts).Nodup := f.pm.nodup_iff.mpr f.nn
theorem Fo.wf {S : Lk Int} {Ts : Strands} (f : Fo S Ts) : Wf S := by
  have nd := f.nd
  obtain ⟨d, B, hd⟩ := hung_rank f.h nd
  have mi : ∀ {x}, x ∈ S.ns ↔ x ∈ snm Ts := fun {x} => f.pm.mem_iff.symm
  refine ⟨fun x m => ?_, fun x m y e => ?_, fun x m y e => ?_, fun x m y e => ?_, d, fun x m u e => ((hd x (mi.mp m)).2 u e).2⟩
  · obtain ⟨a1, a2, _⟩ := hung_kids f.h nd x (mi.mp m)
    exact ⟨fun y e => mi.mpr (a1 y e).1, fun y e => mi.mpr (a2 y e).1, fun y e => mi.mpr ((hd x (mi.mp m)).2 y e).1⟩
  · exact ((hung_kids f.h nd x (mi.mp m)).1 y e).2
  · exact ((hung_kids f.h nd x (mi.mp m)).2.1 y e).2
  · exact (hung_kids f.h nd x (mi.mp m)).2.2 y e
/-- one strand more, hung nowhere -/
theorem Fo.more {S S' : Lk Int} {Ts : Strands} {T : Tr Int} {zs : List Int} (f : Fo S Ts) (en : S'.ns = S.ns ++ zs) (pm : zs.Perm T.nms) (old : ∀ x ∈ S.ns, Agr S S' x) (rep : Rep S' none T) (fl : flat T = true) (rt : ∃ x, T.root = some x) (nd : T.nms.Nodup) (no : ∀ x ∈ T.nms, x ∉ S.ns) : Fo S' ((T, none) :: Ts) := by
  refine ⟨⟨rep, fl, rt, (fun q e => nomatch e), f.h.more fun x m => ?_⟩, ?_, ?_⟩
  · have mS := f.pm.mem_iff.mp m
    exact ⟨by rw [en]; exact List.mem_append_left _ mS, old x mS⟩
  · rw [en]
    show (T.nms ++ snm Ts).Perm (S.ns ++ zs)
    exact (pm.symm.append f.pm).trans List.perm_append_comm
  · rw [en]
    exact List.nodup_append.mpr ⟨f.nn, pm.nodup_iff.mpr nd, fun x m y my e => no y (pm.mem_iff.mp my) (e ▸ m)⟩
/-- and hung -/
theorem Fo.put {S : Lk Int} {Ts : Strands} {T : Tr Int} {top z : Int} (f : Fo S ((T, none) :: Ts)) (rt : T.root = some top) (mz : z ∈ snm Ts) : Fo { S with a := up1 S.a top (some z) } ((T, some z) :: Ts) := by
  obtain ⟨⟨h1, h2, h3, h4, h5⟩, pm, nn⟩ := f
  have nd : (T.nms ++ snm Ts).Nodup := pm.nodup_iff.mpr nn
  obtain ⟨n1, n2, n3⟩ := List.nodup_append.mp nd
  have mt := Tr.root_mem rt
  have r1 : Rep { S with a := up1 S.a top (some z) } (some z) T := by
    refine Rep.re (S := S) (S' := { S with a := up1 S.a top (some z) }) rfl h1 n1 (fun y m => ⟨rfl, rfl, rfl⟩) (fun y m ne => up1_ne fun (e : y = top) => ne (by rw [e]; exact rt)) (fun y e => ?_)
    have e := rt.symm.trans e
    cases e
    exact up1_same
  refine ⟨⟨r1, h2, h3, (fun q e => ?_), h5.more fun y m => ⟨pm.mem_iff.mp (List.mem_append_right _ m), rfl, rfl, up1_ne fun (e : y = top) => n3 top mt top (e ▸ m) rfl, rfl⟩⟩, pm, nn⟩
  cases e
  exact mz
theorem swap_nd {xs : List Int} (nd : xs.Nodup) {i j : Nat} {u v : Int} (hi : xs[i]? = some u) (hj : xs[j]? = some v) : ((xs.set i v).set j u).Nodup ∧ ((xs.set i v).set j u).length = xs.length := by
  obtain ⟨li, ei⟩ := List.getElem?_eq_some_iff.mp hi
  obtain ⟨lj, ej⟩ := List.getElem?_eq_some_iff.mp hj
  refine ⟨?_, by rw [List.length_set, List.length_set]⟩
  refine List.pairwise_iff_getElem.mpr fun a b la lb ab e => ?_
  rw [List.length_set, List.length_set] at la lb
  have inj : ∀ {c d : Nat} (lc : c < xs.length) (ld : d < xs.length), xs[c] = xs[d] → c = d := fun {c d} lc ld h => (List.getElem?_inj lc nd).mp (by rw [List.getElem?_eq_getElem lc, List.getElem?_eq_getElem ld, h])
  simp only [List.getElem_set] at e
  by_cases ja : j = a
  · rw [if_pos ja, if_neg (by omega : ¬ j = b)] at e
    by_cases ib : i = b
    · rw [if_pos ib] at e
      have := inj li lj (ei.trans (e.trans ej.symm))
      omega
    · rw [if_neg ib] at e
      have := inj li lb (ei.trans e)
      omega
  · rw [if_neg ja] at e
    by_cases jb : j = b
    · rw [if_pos jb] at e
      by_cases ia : i = a
      · rw [if_pos ia] at e
        have := inj lj li (ej.trans (e.trans ei.symm))
        omega
      · rw [if_neg ia] at e
        have := inj la li (e.trans ei.symm)
        omega
    · rw [if_neg jb] at e
      by_cases ia : i = a
      · rw [if_pos ia, if_neg (by omega : ¬ i = b)] at e
        have := inj lj lb (ej.trans e)
        omega
      · rw [if_neg ia] at e
        by_cases ib : i = b
        · rw [if_pos ib] at e
          have := inj la lj (e.trans ej.symm)
          omega
        · rw [if_neg ib] at e
          have := inj la lb e
          omega

end My
namespace My
open PySem L2
theorem rgc : ∀ n : Nat, n < 22 → ∀ c : Nat, c < 22 → 1 ≤ c → RgC 0 (n : Int) (c : Int) ((n + c - 1) / c) := by
  unfold RgC
  decide +kernel
theorem blk_in : ∀ n : Nat, n < 22 → ∀ c : Nat, c < 22 → 1 ≤ c → (∀ i : Nat, i < (n + c - 1) / c → i * c < n) ∧ n ≤ (n + c - 1) / c * c := by decide +kernel
theorem ixK {n k : Nat} (h : k < n) : ixN n (k : Int) = some k := by
  unfold ixN
  rw [if_pos (by omega)]
  simp
  omega
theorem rgV_rgI (n : Nat) : rgV 0 (n : Int) = (rgI n).map V.int := by
  unfold rgV rgI
  rw [List.map_map]
  have e : ((n : Int) - 0).toNat = n := by omega
  rw [e]
  refine List.map_congr_left fun i _ => ?_
  show V.int (0 + (i : Int)) = V.int (i : Int)
  rw [Int.zero_add]
theorem pick3 {k : Int} (k0 : 0 ≤ k) (k3 : k < 3) : ∃ m : Int, atI [V.int 4, V.int 9, V.int 20] k = some (.int m) ∧ 0 < m ∧ m ≤ 20 := by
  have hc : k = 0 ∨ k = 1 ∨ k = 2 := by omega
  rcases hc with rfl | rfl | rfl
  · exact ⟨4, rfl, by decide, by decide⟩
  · exact ⟨9, rfl, by decide, by decide⟩
  · exact ⟨20, rfl, by decide, by decide⟩
theorem pick5 {n : Nat} (h1 : 1 ≤ n) (h2 : n < 22) {k : Int} (k0 : 0 ≤ k) (k5 : k < 5) : ∃ c : Nat, atI [V.int 1, V.int 2, V.int 3, V.int 5, V.int (n : Int)] k = some (.int (c : Int)) ∧ 1 ≤ c ∧ c < 22 := by
  have hc : k = 0 ∨ k = 1 ∨ k = 2 ∨ k = 3 ∨ k = 4 := by omega
  rcases hc with rfl | rfl | rfl | rfl | rfl
  · exact ⟨1, rfl, by decide, by decide⟩
  · exact ⟨2, rfl, by decide, by decide⟩
  · exact ⟨3, rfl, by decide, by decide⟩
  · exact ⟨5, rfl, by decide, by decide⟩
  · exact ⟨n, rfl, h1, h2⟩
theorem cut_both (xs : List Int) (i c : Nat) (h : i ≤ xs.length) : cutV (xs.map V.int) (some (i : Int)) (some ((i : Int) + (c : Int))) = ((xs.drop i).take c).map V.int := by
  unfold cutV
  rw [show ((i : Int) + (c : Int)) = ((i + c : Nat) : Int) by omega, HT.sIx_nat, HT.sIx_nat, List.length_map, Nat.min_eq_left h, ← List.map_drop, List.map_take]
  by_cases h2 : i + c ≤ xs.length
  · rw [Nat.min_eq_left h2]
    congr 1
    omega
  · rw [Nat.min_eq_right (by omega), List.take_of_length_le, List.take_of_length_le]
    · rw [List.length_map, List.length_drop]
      omega
    · rw [List.length_map, List.length_drop]
      omega
theorem take_block (xs : List Int) (i c : Nat) : xs.take (i + c) = xs.take i ++ (xs.drop i).take c := List.take_add ..
section
variable {P : Program} {w : World} {K : PySem.W.Frag} {mg : Str → Option Value} {base : Heap}
def spForms : Sp := fun vs H Q _ => ∃ b : Addr, vs = [.ref b, .int 20] ∧ P2 H b ∧ ∀ (d : Addr) (ls : Int → Addr) (S : Lk Int) (Ts : Strands) (H' : Hp), P2 H' b → TreeAt H' d ls S → Fo S Ts → (S.t = fun _ => false) → S.lk = 0 → 1 ≤ S.ns.length → S.ns.length ≤ 20 → But b H H' → H d = none → (∀ x ∈ S.ns, H (ls x) = none) → (∀ x ∈ S.ns, 0 ≤ x ∧ x < (S.ns.length : Int)) → Q (.ref d) H'
theorem ok_forms (T : Top K mg) : FnOk P w K mg base CX0 31 T.a_Lforms T.d_Lforms ["_law_pot_here", "_law_most"] spForms := by
  have G_Ltake : FnOk P w K mg base CX0 1 _ _ _ _ := ok_take2 T
  have G_Ltree : FnOk P w K mg base CX0 30 _ _ _ _ := ok_ltree T 27
  refine T.F_Lforms.ok sc_Lforms (fun vs H Q E h => ?_) (fun cdv A outer s H vs Q E hr h => ?_)
  · obtain ⟨b, rfl, _⟩ := h
    rfl
  · obtain ⟨b, rfl, p2, k⟩ := h
    refine ⟨_, (pss_cons (ps_set (i := 2) sc_Lforms.nd rfl (.inl rfl) (pe_op op_add pe_int (pe_call G_Ltake (hr.mono (by decide)) (by rfl) T.g_Ltake T.F_Ltake.kp T.b_Ltake .nil pass0 (pa_cons (pv 0) (pa_cons (pe_ix ix_list (pe_lst (pa_cons pe_int (pa_cons pe_int (pa_cons (pv 1) pa_nil)))) (pe_call G_Ltake (hr.mono (by decide)) (by rfl) T.g_Ltake T.F_Ltake.kp T.b_Ltake .nil pass0 (pa_cons (pv 0) (pa_cons pe_int pa_nil))) (fun _ _ => rfl)) pa_nil)))))
      (pss_cons (ps_set (i := 3) sc_Lforms.nd rfl (.inl rfl) (pe_listRg rfl (by rfl) T.m_list (prg_1 (by rfl) T.m_range (pv 2))))
      (pss_cons (ps_for PassesOwn.never rfl (pi_range1 (by rfl) T.m_range (pa_cons (pv 2) pa_nil)) (pg_name (i := 4) sc_Lforms.nd rfl (.inl rfl)) (pss_cons (ps_set (i := 5) sc_Lforms.nd rfl (.inl rfl) (pe_op op_add (pv 4) (pe_call G_Ltake (hr.mono (by decide)) (by rfl) T.g_Ltake T.F_Ltake.kp T.b_Ltake .nil pass0 (pa_cons (pv 0) (pa_cons (pe_op op_sub (pv 2) (pv 4)) pa_nil)))))
      (pss_one (ps_asg (pe_tup (pa_cons (pe_ix ix_list (pv 3) (pv 5) (fun _ _ => rfl)) (pa_cons (pe_ix ix_list (pv 3) (pv 4) (fun _ _ => rfl)) pa_nil))) (pg_tup rfl (pgs_cons (pg_sub (pv 3) (pv 4) set_list) (pgs_cons (pg_sub (pv 3) (pv 5) set_list) pgs_nil)))))))
      (pss_cons (ps_set (i := 6) sc_Lforms.nd rfl (.inl rfl) pe_dnewK)
      (pss_cons (ps_set (i := 7) sc_Lforms.nd rfl (.inl rfl) (pe_ix ix_list (pe_lst (pa_cons pe_int (pa_cons pe_int (pa_cons pe_int (pa_cons pe_int (pa_cons (pv 2) pa_nil)))))) (pe_call G_Ltake (hr.mono (by decide)) (by rfl) T.g_Ltake T.F_Ltake.kp T.b_Ltake .nil pass0 (pa_cons (pv 0) (pa_cons pe_int pa_nil))) (fun _ _ => rfl)))
      (pss_cons (ps_for PassesOwn.never rfl (pi_range3 (by rfl) T.m_range (pa_cons pe_int (pa_cons (pv 2) (pa_cons (pv 7) pa_nil)))) (pg_name (i := 5) sc_Lforms.nd rfl (.inl rfl)) (pss_cons (ps_set (i := 8) sc_Lforms.nd rfl (.inl rfl) (pe_call G_Ltree hr (by rfl) T.g_Ltree T.F_Ltree.kp T.b_Ltree .nil pass0 (pa_cons (pv 0) (pa_cons (pv 6) (pa_cons (pe_slice sl_list (pv 3) (po_some (pv 5)) (po_some (pe_op op_add (pv 5) (pv 7)))) pa_nil)))))
      (pss_one (ps_if (PW.pt (pw_and (pt_cmpR op_gt (pv 5) pe_int (nomark _)) (pw_and1 (pt_cmpR op_gt (pe_call G_Ltake (hr.mono (by decide)) (by rfl) T.g_Ltake T.F_Ltake.kp T.b_Ltake .nil pass0 (pa_cons (pv 0) (pa_cons pe_int pa_nil))) pe_int (nomark _))))) (pss_one (ps_asg (pe_ix ix_list (pv 3) (pe_call G_Ltake (hr.mono (by decide)) (by rfl) T.g_Ltake T.F_Ltake.kp T.b_Ltake .nil pass0 (pa_cons (pv 0) (pa_cons (pv 5) pa_nil))) (fun _ _ => rfl)) (pg_sub (pe_dget (u1 hr) (pv 6) (pv 8) (fun _ _ => rfl)) pe_int set_list))) pss_nil))))
      (pss_one (ps_ret (pv 6))))))))), ?_⟩
    -- how many
    refine ⟨_, rfl, _, rfl, (by show 3 ≤ sizeLine; decide), fun p np => ?_⟩
    have s1 := same_new (o := .lst [V.int 4, V.int 9, V.int 20]) np
    have hp : upd H p (.lst [V.int 4, V.int 9, V.int 20]) p = some (.lst [V.int 4, V.int 9, V.int 20]) := upd_same
    have pb := p2.ne np
    have p21 := p2.same s1
    generalize upd H p (.lst [V.int 4, V.int 9, V.int 20]) = H1 at s1 hp p21 ⊢
    refine ⟨_, rfl, b, 3, rfl, p21, (by decide), (by decide), fun k3 H2 a1 b1 p22 k2 => ?_⟩
    obtain ⟨m, hm, m0, m20⟩ := pick3 a1 b1
    refine ⟨p, _, _, _, rfl, rfl, SqL.of (k2 _ _ hp pb), hm, ?_⟩
    refine ⟨b, m, rfl, p22, m0, by omega, fun x H3 x0 x1 p23 k3' => ⟨_, _, rfl, rfl, ?_⟩⟩
    obtain ⟨n, en, n1, n20⟩ : ∃ n : Nat, 1 + x = (n : Int) ∧ 1 ≤ n ∧ n ≤ 20 := ⟨(1 + x).toNat, by omega, by omega, by omega⟩
    dsimp only
    rw [en]
    have k03 : But b H H3 := fun c o e nb => k3' _ _ (k2 _ _ (s1 _ _ e) nb) nb
    clear hp s1 p21 k2 k3' p22 hm np en x0 x1
    -- their names
    refine ⟨_, rfl, _, rfl, RgOk.of_le (by omega) (by omega) (by omega) (by omega), fun q nq => ?_⟩
    have s4 := same_new (o := .lst (rgV 0 (n : Int))) nq
    have hq : upd H3 q (.lst (rgV 0 (n : Int))) q = some (.lst ((rgI n).map V.int)) := by rw [upd_same, rgV_rgI]
    have qb := p23.ne nq
    have p24 := p23.same s4
    have k04 := k03.same s4
    have nq0 : H q = none := by
      cases e : H q with
      | none => rfl
      | some o =>
        rw [k03 q o e qb] at nq
        exact nomatch nq
    generalize upd H3 q (.lst (rgV 0 (n : Int))) = H4 at s4 hq p24 k04 ⊢
    refine ⟨_, rfl, (n : Int), rfl, (by omega), (by omega), ?_⟩
    refine for_range (lo := 0) (n := (n : Int).toNat) (fun i σ G => ∃ (ns : List Int) (y4 y5 : Option V), σ = [some (.ref b), some (.int 20), some (.int (n : Int)), some (.ref q), y4, y5, none, none, none] ∧ P2 G b ∧ G q = some (.lst (ns.map V.int)) ∧ ns.Nodup ∧ ns.length = n ∧ (∀ x ∈ ns, 0 ≤ x ∧ x < (n : Int)) ∧ But b H G) ⟨rgI n, none, none, rfl, p24, hq, rgI_nd n, rgI_len n, (fun x m => rgI_mem.mp m), k04⟩ ?_ ?_
    · rintro i σ G hi ⟨ns, y4, y5, rfl, p2g, hqg, nd, ln, rg, kg⟩
      have e0 : (0 : Int) + (i : Int) = (i : Int) := by omega
      rw [e0]
      have li : i < n := by omega
      refine ⟨_, rfl, _, rfl, _, rfl, _, rfl, _, _, rfl, rfl, b, _, rfl, p2g, (by omega), (by omega), fun x G2 x0 x1 p2h kh => ⟨_, _, rfl, rfl, ?_⟩⟩
      obtain ⟨j, ej, lj⟩ : ∃ j : Nat, (i : Int) + x = (j : Int) ∧ j < n := ⟨((i : Int) + x).toNat, by omega, by omega⟩
      dsimp only
      rw [ej]
      have hq2 := kh _ _ hqg qb
      have kg2 := kg.trans kh
      obtain ⟨u, hu⟩ : ∃ u, ns[i]? = some u := ⟨ns[i], List.getElem?_eq_getElem (by omega)⟩
      obtain ⟨v, hv⟩ : ∃ v, ns[j]? = some v := ⟨ns[j], List.getElem?_eq_getElem (by omega)⟩
      refine ⟨_, rfl, _, rfl, q, _, _, V.int v, rfl, rfl, SqL.of hq2, atI_nat (j := j) (by rw [List.getElem?_map, hv]; rfl), ?_⟩
      refine ⟨_, rfl, _, rfl, q, _, _, V.int u, rfl, rfl, SqL.of hq2, atI_nat (j := i) (by rw [List.getElem?_map, hu]; rfl), (by show 2 ≤ sizeLine; decide), fun t nt => ?_⟩
      have s5 := same_new (o := .tup [V.int v, V.int u]) nt
      have hq3 := s5 _ _ hq2
      have p2i := p2h.same s5
      have kg3 := kg2.same s5
      have ht : upd G2 t (.tup [V.int v, V.int u]) t = some (.tup [V.int v, V.int u]) := upd_same
      generalize upd G2 t (.tup [V.int v, V.int u]) = G3 at hq3 p2i kg3 ht ⊢
      refine ⟨t, _, rfl, SqT.of ht, rfl, _, _, rfl, _, rfl, _, rfl, q, _, _, i, rfl, rfl, hq3, ixK (by rw [List.length_map]; omega), ?_⟩
      obtain ⟨w1, w2⟩ := swap_nd nd hu hv
      have kk : ∀ {G' : Hp} {o : HO}, But b H G' → But b H (upd G' q o) := fun {G' o} h c o2 e nb => by
        rw [upd_ne (ne_of_none e nq0)]
        exact h c o2 e nb
      refine ⟨_, _, rfl, _, rfl, _, rfl, q, _, _, j, rfl, rfl, upd_same, ixK (by rw [List.length_set, List.length_map]; omega), rfl, ?_⟩
      refine ⟨(ns.set i v).set j u, _, _, rfl, (p2i.put qb).put qb, ?_, w1, w2.trans ln, (fun y my => ?_), kk (kk kg3)⟩
      rotate_left
      · rcases List.mem_or_eq_of_mem_set my with my | my
        · rcases List.mem_or_eq_of_mem_set my with my | my
          · exact rg y my
          · rw [my]
            exact rg v (List.mem_of_getElem? hv)
        · rw [my]
          exact rg u (List.mem_of_getElem? hu)
      rw [upd_same, ← List.map_set, ← List.map_set]
    · rintro σ G ⟨ns, y4, y5, rfl, p2g, hqg, nd, ln, rg, kg⟩
      refine fun d nd0 => ?_
      have s1 := same_new (o := .dK []) nd0
      have hd : upd G d (.dK []) d = some (.dK []) := upd_same
      have db := p2g.ne nd0
      have p2d := p2g.same s1
      have hqd := s1 _ _ hqg
      have kd := kg.same s1
      have dn : H d = none := by
        cases e : H d with
        | none => rfl
        | some o =>
          rw [kg d o e db] at nd0
          exact nomatch nd0
      generalize upd G d (.dK []) = G1 at s1 hd p2d hqd kd ⊢
      clear s1 nd0 hqg p2g kg hq p24 k04 s4 p23 k03 a1 b1
      -- their size
      refine ⟨_, rfl, (by show 5 ≤ sizeLine; decide), fun p5 np5 => ?_⟩
      have s2 := same_new (o := .lst [V.int 1, V.int 2, V.int 3, V.int 5, V.int (n : Int)]) np5
      have hp5 : upd G1 p5 (.lst [V.int 1, V.int 2, V.int 3, V.int 5, V.int (n : Int)]) p5 = some (.lst [V.int 1, V.int 2, V.int 3, V.int 5, V.int (n : Int)]) := upd_same
      have pb5 := p2d.ne np5
      have p2e := p2d.same s2
      have hq2 := s2 _ _ hqd
      have hd2 := s2 _ _ hd
      have kd2 := kd.same s2
      generalize upd G1 p5 (.lst [V.int 1, V.int 2, V.int 3, V.int 5, V.int (n : Int)]) = G2 at hp5 p2e hq2 hd2 kd2 ⊢
      refine ⟨_, rfl, b, 5, rfl, p2e, (by decide), (by decide), fun k5 G3 a5 b5 p2f k3 => ?_⟩
      obtain ⟨c, hc, c1, c22⟩ := pick5 n1 (by omega : n < 22) a5 b5
      have hq3 := k3 _ _ hq2 qb
      have hd3 := k3 _ _ hd2 db
      have kd3 := kd2.trans k3
      refine ⟨p5, _, _, _, rfl, rfl, SqL.of (k3 _ _ hp5 pb5), hc, ?_⟩
      clear hc hp5 pb5 hq2 hd2 kd2 p2e k3 a5 b5 hqd hd kd p2d
      obtain ⟨bl1, bl2⟩ := blk_in n (by omega) c c22 c1
      refine ⟨_, rfl, _, rfl, 0, (n : Int), (c : Int), _, rfl, rgc n (by omega) c c22 c1, ?_⟩
      refine for_rangeC (fun i σ G => ∃ (ls : Int → Addr) (S : Lk Int) (Ts : Strands) (y4 y5 y8 : Option V), σ = [some (.ref b), some (.int 20), some (.int (n : Int)), some (.ref q), y4, y5, some (.ref d), some (.int (c : Int)), y8] ∧ TreeAt G d ls S ∧ Fo S Ts ∧ (∀ x, x ∈ snm Ts ↔ x ∈ ns.take (i * c)) ∧ P2 G b ∧ G q = some (.lst (ns.map V.int)) ∧ (S.t = fun _ => false) ∧ S.lk = 0 ∧ (∀ x ∈ S.ns, H (ls x) = none) ∧ But b H G) ⟨fun _ => d, ⟨[], fun _ => none, fun _ => none, fun _ => none, fun _ => false, 0⟩, [], _, _, none, rfl, ⟨hd3, (fun x m => nomatch m), fun x m => nomatch m⟩, ⟨trivial, .refl _, List.nodup_nil⟩, (fun x => by rw [Nat.zero_mul]; exact Iff.rfl), p2f, hq3, rfl, rfl, (fun x m => nomatch m), kd3⟩ ?_ ?_
      · rintro i σ G hi ⟨ls, S, Ts, y4, y5, y8, rfl, A, F, mem, p2g, hqg, tf, lk, nw, kg⟩
        have ilt := bl1 i hi
        have e0 : (0 : Int) + (i : Int) * (c : Int) = ((i * c : Nat) : Int) := by
          rw [Int.zero_add]
          exact (Int.natCast_mul i c).symm
        rw [e0]
        have esucc : (i + 1) * c = i * c + c := Nat.succ_mul i c
        rw [esucc]
        generalize i * c = ic at ilt mem
        -- a strand
        refine ⟨_, rfl, _, rfl, _, rfl, _, rfl, (ic : Int), rfl, _, rfl, _, rfl, _, _, rfl, rfl, _, rfl, q, _, rfl, SqL.of hqg, fun pz nz => ?_⟩
        rw [cut_both ns ic c (by omega)]
        have s4 := same_new (o := .lst (((ns.drop ic).take c).map V.int)) nz
        have hz : upd G pz (.lst (((ns.drop ic).take c).map V.int)) pz = some (.lst (((ns.drop ic).take c).map V.int)) := upd_same
        have zb := p2g.ne nz
        have p2h := p2g.same s4
        have A4 := A.same s4
        have hq4 := s4 _ _ hqg
        have k4 := kg.same s4
        generalize upd G pz (.lst (((ns.drop ic).take c).map V.int)) = G4 at hz p2h A4 hq4 k4 ⊢
        have ex : ns.take (ic + c) = ns.take ic ++ (ns.drop ic).take c := take_block ns ic c
        have lz : 1 ≤ ((ns.drop ic).take c).length := by
          rw [List.length_take, List.length_drop]
          omega
        have lz2 : ((ns.drop ic).take c).length ≤ 20 := by
          rw [List.length_take, List.length_drop]
          omega
        have ndt : (ns.take (ic + c)).Nodup := nd.sublist (List.take_sublist _ _)
        rw [ex] at ndt
        obtain ⟨m1, m2, m3⟩ := List.nodup_append.mp ndt
        have mS : ∀ x, x ∈ S.ns ↔ x ∈ ns.take ic := fun x => by rw [← F.pm.mem_iff, mem]
        have lS : S.ns.length ≤ 20 := by
          rw [← F.pm.length_eq]
          have := F.nd.length_le_of_subset (fun x m => List.mem_of_mem_take ((mem x).mp m) : snm Ts ⊆ ns)
          omega
        rw [ex]
        generalize (ns.drop ic).take c = zs at hz lz lz2 m2 m3 ⊢
        refine ⟨b, d, pz, ls, S, zs, rfl, p2h, hz, zb, by omega, m2, A4, F.nn, (fun x m m' => m3 x ((mS x).mp m') x m rfl), by omega, (fun x => by rw [tf]), fun T1 ls1 S1 G5 g => ?_⟩
        obtain ⟨ys, ey, py, nwy⟩ := g.ns
        have ndT : T1.nms.Nodup := by rw [← ord_flat g.fl, g.od]; exact m2
        have mT : ∀ x, x ∈ T1.nms ↔ x ∈ zs := fun x => by rw [← g.od]; exact Tr.ord_mem.symm
        obtain ⟨top, rt⟩ : ∃ top, T1.root = some top := by
          cases e : T1.root with
          | some x => exact ⟨x, rfl⟩
          | none =>
            have e2 := Tr.root_nil e
            have e3 := g.od
            rw [e2] at e3
            have e3 : [] = zs := e3
            rw [← e3] at lz
            exact absurd lz (by decide)
        have F1 : Fo S1 ((T1, none) :: Ts) := F.more ey py (fun x m => (g.old x m).1) g.rep g.fl ⟨top, rt⟩ ndT fun x m m' => m3 x ((mS x).mp m') x ((mT x).mp m) rfl
        have mem1 : ∀ (p : Option Int) x, x ∈ snm ((T1, p) :: Ts) ↔ x ∈ ns.take ic ++ zs := fun p x => by
          rw [snm_cons, List.mem_append, List.mem_append, mem, mT]
          exact or_comm
        have tf1 : S1.t = fun _ => false := g.tf.trans tf
        have lk1 : S1.lk = 0 := g.lk.trans lk
        have qd : q ≠ d := ne_of hq4 A4.hd (by intro z; cases z)
        have hq5 := g.kp _ _ hq4 qb qd
        have k5 : But b H G5 := fun a o e nb => g.kp _ _ (k4 _ _ e nb) nb fun e2 => by
          rw [e2, dn] at e
          exact nomatch e
        have nw1 : ∀ x ∈ S1.ns, H (ls1 x) = none := fun x m => by
          have m0 := m
          rw [ey] at m
          rcases List.mem_append.mp m with m | m
          · rw [(g.old x m).2]
            exact nw x m
          · have h4 := nwy x m
            cases e : H (ls1 x) with
            | none => rfl
            | some o =>
              rw [k4 _ o e ((g.p2.ls g.tr).2 x m0)] at h4
              exact nomatch h4
        have mtop : top ∈ S1.ns := by
          rw [ey]
          exact List.mem_append_right _ (py.mem_iff.mpr (Tr.root_mem rt))
        have p2k := g.p2
        have A5 := g.tr
        rw [rt]
        have nh : ls1 top ≠ q := fun e => by
          rw [← e] at hq4
          have h4 := nwy top (py.mem_iff.mpr (Tr.root_mem rt))
          rw [h4] at hq4
          exact nomatch hq4
        refine ⟨_, rfl, _, _, rfl, rfl, _, rfl, ite2 (fun e => ?_) (fun e => ?_)⟩
        · have ip : 0 < ic := by
            have := of_decide_eq_true e
            omega
          refine ⟨_, rfl, b, 5, rfl, p2k, (by decide), (by decide), fun x G6 x0 x5 p26 k6 => ⟨_, _, rfl, rfl, _, rfl, ?_⟩⟩
          have hq6 := k6 _ _ hq5 qb
          have A6 := A5.but p2k k6
          have k56 := k5.trans k6
          refine ite2 (fun _ => ?_) (fun _ => ?_)
          · refine ⟨_, rfl, _, rfl, _, rfl, b, (ic : Int), rfl, p26, (by omega), (by omega), fun v G7 v0 v1 p27 k7 => ?_⟩
            have hq7 := k7 _ _ hq6 qb
            have A7 := A6.but p26 k7
            obtain ⟨j, ej, lj⟩ : ∃ j : Nat, v = (j : Int) ∧ j < ic := ⟨v.toNat, by omega, by omega⟩
            obtain ⟨z, hz⟩ : ∃ z, ns[j]? = some z := ⟨ns[j], List.getElem?_eq_getElem (by omega)⟩
            have mz : z ∈ snm Ts := (mem z).mpr (List.mem_of_getElem? (by rw [List.getElem?_take, if_pos lj]; exact hz))
            refine ⟨q, _, _, V.int z, rfl, rfl, SqL.of hq7, by rw [ej]; exact atI_nat (by rw [List.getElem?_map, hz]; rfl), ?_⟩
            refine ⟨_, rfl, _, rfl, d, _, rfl, A7.get mtop, ls1 top, _, 2, 2, rfl, rfl, A7.at' top mtop, rfl, ?_⟩
            refine ⟨ls1, _, (T1, some z) :: Ts, _, _, _, rfl, A7.setA (y := some z) mtop, F1.put rt mz, mem1 _, p27.put ((p27.ls A7).2 top mtop), ?_, tf1, lk1, nw1, ?_⟩
            · rw [upd_ne nh.symm]
              exact hq7
            · intro a o e1 nb
              rw [upd_ne fun e2 => ?_]
              · exact (k56.trans k7) _ _ e1 nb
              · rw [e2, nw1 top mtop] at e1
                exact nomatch e1
          · exact ⟨ls1, S1, (T1, none) :: Ts, _, _, _, rfl, A6, F1, mem1 _, p26, hq6, tf1, lk1, nw1, k56⟩
        · exact ⟨ls1, S1, (T1, none) :: Ts, _, _, _, rfl, A5, F1, mem1 _, p2k, hq5, tf1, lk1, nw1, k5⟩
      · rintro σ G ⟨ls, S, Ts, y4, y5, y8, rfl, A, F, mem, p2g, hqg, tf, lk, nw, kg⟩
        have le : (snm Ts).length = n := by
          have mem2 : ∀ x, x ∈ snm Ts ↔ x ∈ ns := fun x => by rw [mem, List.take_of_length_le (by omega)]
          have h1 := F.nd.length_le_of_subset (fun x m => (mem2 x).mp m : snm Ts ⊆ ns)
          have h2 := nd.length_le_of_subset (fun x m => (mem2 x).mpr m : ns ⊆ snm Ts)
          omega
        rw [F.pm.length_eq] at le
        exact ⟨_, rfl, k d ls S Ts G p2g A F tf lk (by omega) (by omega) kg dn nw fun x m => by
          rw [le]
          exact rg x (List.mem_of_mem_take ((mem x).mp (F.pm.mem_iff.mpr m)))⟩
end

end My
namespace My
open PySem L2
/-! ### steps: the law's own -/
theorem eqV_on (y : Option Int) (x : Int) : eqV (onV y) (.int x) = decide (y = some x) := by
  cases y with
  | none => rfl
  | some i =>
    show (i == x) = _
    by_cases e : i = x
    · subst e
      simp
    · rw [decide_eq_false fun z => e (Option.some.inj z)]
      exact beq_eq_false_iff_ne.mpr e
def sdI (b : Bool) : Int := if b then 1 else 0
theorem idx2 (p q : Option Int) (x : Int) (b : Bool) (h0 : b = false → p = some x) (h1 : b = true → q = some x ∧ p ≠ some x) : ∃ (j : Nat) (z : V), ([onV p, onV q] : List V).all flatV = true ∧ ([onV p, onV q] : List V)[j]? = some z ∧ eqV z (.int x) = true ∧ (∀ (m : Nat) (z' : V), m < j → ([onV p, onV q] : List V)[m]? = some z' → eqV z' (.int x) = false) ∧ (j : Int) = sdI b := by
  have fl : ([onV p, onV q] : List V).all flatV = true := by
    show (flatV (onV p) && (flatV (onV q) && true)) = true
    rw [onV_flat, onV_flat]
    rfl
  cases b with
  | false => exact ⟨0, onV p, fl, rfl, by rw [eqV_on, decide_eq_true (h0 rfl)], (fun m z lm => absurd lm (Nat.not_lt_zero m)), rfl⟩
  | true =>
    obtain ⟨e1, e2⟩ := h1 rfl
    refine ⟨1, onV q, fl, rfl, by rw [eqV_on, decide_eq_true e1], fun m z lm hz => ?_, rfl⟩
    have m0 : m = 0 := by omega
    subst m0
    cases hz
    rw [eqV_on, decide_eq_false e2]
theorem strD (a b : Str) : decide (V.str a = V.str b) = decide (a = b) := by
  by_cases e : a = b
  · rw [e, decide_eq_true rfl, decide_eq_true rfl]
  · rw [decide_eq_false e, decide_eq_false fun z => e (V.str.inj z)]
section
variable {P : Program} {w : World} {K : PySem.W.Frag} {mg : Str → Option Value} {base : Heap}
def spLTurned (K : PySem.W.Frag) : Sp := fun vs H Q _ => ∃ (d : Addr) (ls : Int → Addr) (S : Lk Int) (x u : Int), vs = [.ref d, .int x] ∧ TreeAt H d ls S ∧ x ∈ S.ns ∧ Cl S ∧ Tidy S x u ∧ ∀ (H' : Hp), ButT ls S.ns H H' → TreeAt H' d ls (S.turn x) → Q .non H'
theorem ok_lturned (T : Top K mg) : FnOk P w K mg base CX0 1 T.a_Lturned T.d_Lturned ["_law_forms_here", "_law_x"] (spLTurned K) := by
  refine T.F_Lturned.ok sc_Lturned (fun vs H Q E h => ?_) (fun cdv A outer s H vs Q E hr h => ?_)
  · obtain ⟨d, ls, S, x, u, rfl, _⟩ := h
    rfl
  · obtain ⟨d, ls, S, x, u, rfl, A, m, cl, td, q⟩ := h
    have ea := td.ax
    have mu : u ∈ S.ns := (cl x m).2.2 u ea
    obtain ⟨f1, f2, f3, f4, f5, f6⟩ := lturn_eq td
    have eL : S.lturn x = S.lturn1 x u (decide (S.r u = some x)) := by
      unfold Lk.lturn
      rw [ea]
    rw [eL] at f1 f2 f3
    have q : ∀ (H' : Hp), ButT ls S.ns H H' → TreeAt H' d ls (S.lturn1 x u (decide (S.r u = some x))) → Q .non H' := fun H' k t => q H' k (t.congr f5 fun z mz => ⟨by rw [f1], by rw [f2], by rw [f3]⟩)
    clear f1 f2 f3 f4 f5 f6 eL
    have px : (S.plc x u).l x = S.l x ∧ (S.plc x u).r x = S.r x := by
      unfold Lk.plc
      dsimp only
      cases eg : S.a u with
      | none => exact ⟨rfl, rfl⟩
      | some g =>
        have gx := (td.up g eg).2.1
        dsimp only
        constructor
        · split
          · rfl
          · split
            · exact up1_ne (Ne.symm gx)
            · rfl
        · split
          · exact up1_ne (Ne.symm gx)
          · rfl
    refine ⟨_, (pss_cons (ps_set (i := 2) sc_Lturned.nd rfl (.inl rfl) (pe_ix ix_list (pe_dget (u1 hr) (pv 0) (pv 1) (fun _ _ => rfl)) pe_int (fun _ _ => rfl)))
      (pss_cons (ps_set (i := 3) sc_Lturned.nd rfl (.inl rfl) (pe_ix ix_list (pe_dget (u1 hr) (pv 0) (pv 2) (fun _ _ => rfl)) pe_int (fun _ _ => rfl)))
      (pss_cons (ps_set (i := 4) sc_Lturned.nd rfl (.inl rfl) (pe_bm PySem.F.plainAttrs_list PySem.F.slot_list_index PySem.F.type_list_index mt_index (pe_slice sl_list (pe_dget (u1 hr) (pv 0) (pv 2) (fun _ _ => rfl)) po_none (po_some pe_int)) (pa_cons (pv 1) pa_nil)))
      (pss_cons (ps_mid (ps_if (PW.pt (pw_and (pt_cmpR op_notN (pv 3) pe_non (nomark _)) (pw_and1 (pt_cmpR op_in_seq (pv 2) (pe_slice sl_list (pe_dget (u1 hr) (pv 0) (pv 3) (fun _ _ => rfl)) po_none (po_some pe_int)) (by rfl))))) (pss_one (ps_asg (pv 1) (pg_sub (pe_dget (u1 hr) (pv 0) (pv 3) (fun _ _ => rfl)) (pe_bm PySem.F.plainAttrs_list PySem.F.slot_list_index PySem.F.type_list_index mt_index (pe_slice sl_list (pe_dget (u1 hr) (pv 0) (pv 3) (fun _ _ => rfl)) po_none (po_some pe_int)) (pa_cons (pv 2) pa_nil)) set_list))) pss_nil))
      (pss_cons (ps_set (i := 5) sc_Lturned.nd rfl (.inl rfl) (pe_ix ix_list (pe_dget (u1 hr) (pv 0) (pv 1) (fun _ _ => rfl)) (pe_op op_sub pe_int (pv 4)) (fun _ _ => rfl)))
      (pss_cons (ps_asg (pv 5) (pg_sub (pe_dget (u1 hr) (pv 0) (pv 2) (fun _ _ => rfl)) (pv 4) set_list))
      (pss_cons (ps_asg (pv 2) (pg_sub (pe_dget (u1 hr) (pv 0) (pv 1) (fun _ _ => rfl)) (pe_op op_sub pe_int (pv 4)) set_list))
      (pss_cons (ps_asg (pe_tup (pa_cons (pv 3) (pa_cons (pv 1) pa_nil))) (pg_tup rfl (pgs_cons (pg_sub (pe_dget (u1 hr) (pv 0) (pv 1) (fun _ _ => rfl)) pe_int set_list) (pgs_cons (pg_sub (pe_dget (u1 hr) (pv 0) (pv 2) (fun _ _ => rfl)) pe_int set_list) pgs_nil))))
      (pss_one (ps_if (pt_cmpR op_notN (pv 5) pe_non (nomark _)) (pss_one (ps_asg (pv 2) (pg_sub (pe_dget (u1 hr) (pv 0) (pv 5) (fun _ _ => rfl)) pe_int set_list))) pss_nil)))))))))), ?_⟩
    refine rdN 2 A m rfl rfl (v := onV (S.a x)) rfl ?_
    rw [ea]
    refine rdN (i := 0) (j := 2) 2 A mu rfl rfl (v := onV (S.a u)) rfl ?_
    refine ⟨_, rfl, _, rfl, d, _, rfl, A.get mu, 2, rfl, ls u, _, rfl, SqL.of (A.at' u mu), fun p np => ?_⟩
    rw [take_two]
    have s0 := same_new (o := .lst [onV (S.l u), onV (S.r u)]) np
    have hp : upd H p (.lst [onV (S.l u), onV (S.r u)]) p = some (.lst [onV (S.l u), onV (S.r u)]) := upd_same
    have A0 := A.same s0
    have k0 : ButT ls S.ns H (upd H p (.lst [onV (S.l u), onV (S.r u)])) := ButT.of_same s0
    generalize upd H p (.lst [onV (S.l u), onV (S.r u)]) = H0 at hp A0 k0 ⊢
    have sd1 : decide (S.r u = some x) = false → S.l u = some x := fun e => td.one.resolve_right (of_decide_eq_false e)
    have sd2 : decide (S.r u = some x) = true → S.r u = some x ∧ S.l u ≠ some x := fun e => ⟨of_decide_eq_true e, fun z => td.not2 ⟨z, of_decide_eq_true e⟩⟩
    generalize hb : decide (S.r u = some x) = b at q sd1 sd2 ⊢
    obtain ⟨j, zj, z1, z2, z3, z4, z5⟩ := idx2 (S.l u) (S.r u) x b sd1 sd2
    refine ⟨.inl ⟨rfl, _, SqL.of hp⟩, _, rfl, p, _, .int x, j, zj, rfl, rfl, SqL.of hp, rfl, z1, z2, z3, z4, ?_⟩
    rw [z5]
    clear z1 z2 z3 z4 z5
    have eb : ∀ b : Bool, (cel (S.plc x u) x)[(1 - sdI b).toNat]? = some (onV (if b then S.l x else S.r x)) ∧ 1 - sdI b = (((1 - sdI b).toNat : Nat) : Int) := fun b => by
      cases b with
      | false => exact ⟨by show some (onV ((S.plc x u).r x)) = _; rw [px.2]; rfl, rfl⟩
      | true => exact ⟨by show some (onV ((S.plc x u).l x)) = _; rw [px.1]; rfl, rfl⟩
    -- where u was
    refine ⟨fun σ G => σ = [some (.ref d), some (.int x), some (.int u), some (onV (S.a u)), some (.int (sdI b)), none] ∧ ButT ls S.ns H G ∧ TreeAt G d ls (S.plc x u), ?_, ?_⟩
    · refine ⟨_, rfl, rfl, ?_⟩
      unfold Lk.plc
      cases eg : S.a u with
      | none =>
        dsimp only
        exact ⟨_, rfl, ifF rfl (iteF ⟨rfl, k0, A0⟩)⟩
      | some g =>
        have mg : g ∈ S.ns := (cl u mu).2.2 g eg
        have ng := (td.up g eg).2.2
        dsimp only
        refine ⟨_, rfl, ifT rfl ⟨_, rfl, _, rfl, _, rfl, d, _, rfl, A0.get mg, 2, rfl, ls g, _, rfl, SqL.of (A0.at' g mg), fun p np => ?_⟩⟩
        rw [take_two]
        have s1 := same_new (o := .lst [onV (S.l g), onV (S.r g)]) np
        have hp : upd H0 p (.lst [onV (S.l g), onV (S.r g)]) p = some (.lst [onV (S.l g), onV (S.r g)]) := upd_same
        have A1 := A0.same s1
        have k1 := k0.same s1
        generalize upd H0 p (.lst [onV (S.l g), onV (S.r g)]) = H1 at s1 hp A1 k1 ⊢
        refine ⟨p, _, rfl, .inl (SqL.of hp), rfl, ?_, _, rfl, ?_⟩
        · show (flatV (onV (S.l g)) && (flatV (onV (S.r g)) && true)) = true
          rw [onV_flat, onV_flat]
          rfl
        show if inV (.int u) [onV (S.l g), onV (S.r g)] = true then _ else _
        rw [inV_two]
        by_cases c1 : S.r g = some u
        · rw [if_pos c1, if_pos c1]
          refine ifT (by rw [decide_eq_true c1, Bool.or_true]) ⟨_, rfl, _, rfl, _, rfl, d, _, rfl, A1.get mg, _, rfl, _, rfl, d, _, rfl, A1.get mg, 2, rfl, ls g, _, rfl, SqL.of (A1.at' g mg), fun p2 np2 => ?_⟩
          rw [take_two]
          have s2 := same_new (o := .lst [onV (S.l g), onV (S.r g)]) np2
          have hp2 : upd H1 p2 (.lst [onV (S.l g), onV (S.r g)]) p2 = some (.lst [onV (S.l g), onV (S.r g)]) := upd_same
          have A2 := A1.same s2
          obtain ⟨j, zj, z1, z2, z3, z4, z5⟩ := idx2 (S.l g) (S.r g) u true (fun z => nomatch z) (fun _ => ⟨c1, fun z => ng ⟨z, c1⟩⟩)
          refine ⟨.inl ⟨rfl, _, SqL.of hp2⟩, _, rfl, p2, _, .int u, j, zj, rfl, rfl, SqL.of hp2, rfl, z1, z2, z3, z4, ?_⟩
          rw [z5]
          exact ⟨ls g, _, 1, 1, rfl, rfl, A2.at' g mg, rfl, rfl, (k1.same s2).put mg, A2.setR (y := some x) mg⟩
        · rw [if_neg c1, if_neg c1]
          by_cases c2 : S.l g = some u
          · rw [if_pos c2]
            refine ifT (by rw [decide_eq_true c2, Bool.true_or]) ⟨_, rfl, _, rfl, _, rfl, d, _, rfl, A1.get mg, _, rfl, _, rfl, d, _, rfl, A1.get mg, 2, rfl, ls g, _, rfl, SqL.of (A1.at' g mg), fun p2 np2 => ?_⟩
            rw [take_two]
            have s2 := same_new (o := .lst [onV (S.l g), onV (S.r g)]) np2
            have hp2 : upd H1 p2 (.lst [onV (S.l g), onV (S.r g)]) p2 = some (.lst [onV (S.l g), onV (S.r g)]) := upd_same
            have A2 := A1.same s2
            obtain ⟨j, zj, z1, z2, z3, z4, z5⟩ := idx2 (S.l g) (S.r g) u false (fun _ => c2) (fun z => nomatch z)
            refine ⟨.inl ⟨rfl, _, SqL.of hp2⟩, _, rfl, p2, _, .int u, j, zj, rfl, rfl, SqL.of hp2, rfl, z1, z2, z3, z4, ?_⟩
            rw [z5]
            exact ⟨ls g, _, 0, 0, rfl, rfl, A2.at' g mg, rfl, rfl, (k1.same s2).put mg, A2.setL (y := some x) mg⟩
          · rw [if_neg c2]
            exact ifF (by rw [decide_eq_false c1, decide_eq_false c2]; rfl) ⟨rfl, k1, A1⟩
    · rintro σ G ⟨rfl, k1, A1⟩
      rw [lturn1_plc] at q
      have m1 : x ∈ (S.plc x u).ns := m
      have mu1 : u ∈ (S.plc x u).ns := mu
      have en : (S.plc x u).ns = S.ns := rfl
      have ea1 : (S.plc x u).a = S.a := rfl
      generalize S.plc x u = S1 at q A1 m1 mu1 en ea1 eb px ⊢
      refine ⟨_, rfl, _, rfl, d, _, rfl, A1.get m1, _, rfl, _, _, rfl, rfl, ls x, _, 1 - sdI b, onV (if b then S.l x else S.r x), rfl, rfl, SqL.of (A1.at' x m1), by rw [(eb b).2]; exact atI_nat (eb b).1, ?_⟩
      cases b with
      | false =>
        refine ⟨_, rfl, wsL (i := 0) (j := 2) (S.r x) A1 k1 mu1 mu rfl rfl rfl (fun R r => ⟨_, rfl, r⟩) fun G2 A2 k2 => ?_⟩
        refine ⟨_, rfl, wsR (i := 0) (j := 1) (some u) A2 k2 m1 m rfl rfl rfl (fun R r => ⟨_, rfl, _, _, rfl, rfl, r⟩) fun G3 A3 k3 => ?_⟩
        refine ⟨_, rfl, _, rfl, (by show 2 ≤ sizeLine; decide), fun p2 np2 => ?_⟩
        have s5 := same_new (o := .tup [onV (S.a u), V.int x]) np2
        have A5 := A3.same s5
        have k5 := k3.same s5
        refine ⟨p2, _, rfl, SqT.of upd_same, rfl, _, _, rfl, ?_⟩
        refine wsA (i := 0) (j := 1) (S.a u) A5 k5 m1 m rfl rfl rfl (fun R r => r) fun G6 A6 k6 => ⟨_, _, rfl, wsA (i := 0) (j := 2) (some x) A6 k6 mu1 mu rfl rfl rfl (fun R r => r) fun G7 A7 k7 => ⟨rfl, ?_⟩⟩
        dsimp only at q A7
        rw [ea1] at A7
        refine ⟨_, rfl, rfl, _, rfl, ?_⟩
        have mb : ∀ z, S.r x = some z → z ∈ S.ns := fun z e => (cl x m).2.1 z e
        generalize S.r x = bt at q A7 mb ⊢
        cases bt with
        | none => exact ifF rfl (q G7 k7 A7)
        | some z =>
          have mz := mb z rfl
          refine ifT rfl ⟨_, rfl, ?_⟩
          exact wsA (i := 0) (j := 5) (some u) A7 k7 (en ▸ mz) mz rfl rfl rfl (fun R r => r) fun G8 A8 k8 => q G8 k8 A8
      | true =>
        refine ⟨_, rfl, wsR (i := 0) (j := 2) (S.l x) A1 k1 mu1 mu rfl rfl rfl (fun R r => ⟨_, rfl, r⟩) fun G2 A2 k2 => ?_⟩
        refine ⟨_, rfl, wsL (i := 0) (j := 1) (some u) A2 k2 m1 m rfl rfl rfl (fun R r => ⟨_, rfl, _, _, rfl, rfl, r⟩) fun G3 A3 k3 => ?_⟩
        refine ⟨_, rfl, _, rfl, (by show 2 ≤ sizeLine; decide), fun p2 np2 => ?_⟩
        have s5 := same_new (o := .tup [onV (S.a u), V.int x]) np2
        have A5 := A3.same s5
        have k5 := k3.same s5
        refine ⟨p2, _, rfl, SqT.of upd_same, rfl, _, _, rfl, ?_⟩
        refine wsA (i := 0) (j := 1) (S.a u) A5 k5 m1 m rfl rfl rfl (fun R r => r) fun G6 A6 k6 => ⟨_, _, rfl, wsA (i := 0) (j := 2) (some x) A6 k6 mu1 mu rfl rfl rfl (fun R r => r) fun G7 A7 k7 => ⟨rfl, ?_⟩⟩
        dsimp only at q A7
        rw [ea1] at A7
        refine ⟨_, rfl, rfl, _, rfl, ?_⟩
        have mb : ∀ z, S.l x = some z → z ∈ S.ns := fun z e => (cl x m).1 z e
        generalize S.l x = bt at q A7 mb ⊢
        cases bt with
        | none => exact ifF rfl (q G7 k7 A7)
        | some z =>
          have mz := mb z rfl
          refine ifT rfl ⟨_, rfl, ?_⟩
          exact wsA (i := 0) (j := 5) (some u) A7 k7 (en ▸ mz) mz rfl rfl rfl (fun R r => r) fun G8 A8 k8 => q G8 k8 A8
def spCan : Sp := fun vs H Q _ => ∃ (d t : Addr) (ls : Int → Addr) (S : Lk Int) (w : Str) (x : Int), vs = [.ref d, .ref t] ∧ TreeAt H d ls S ∧ H t = some (.tup [.str w, .int x]) ∧ x ∈ S.ns ∧ Cl S ∧ ∀ (H' : Hp), Same H H' → Q (.bl (canS S w x)) H'
theorem ok_can (T : Top K mg) : FnOk P w K mg base CX0 2 T.a_Lcan T.d_Lcan ["_law_forms_here", "_law_step"] spCan := by
  have G_Ltop : FnOk P w K mg base CX0 1 _ _ _ _ := ok_ontop T
  refine T.F_Lcan.ok sc_Lcan (fun vs H Q E h => ?_) (fun cdv A outer s H vs Q E hr h => ?_)
  · obtain ⟨d, t, ls, S, w, x, rfl, _⟩ := h
    rfl
  · obtain ⟨d, t, ls, S, v, x, rfl, A, ht, m, cl, q⟩ := h
    refine ⟨_, (pss_cons (ps_asg (pv 1) (pg_tup rfl (pgs_cons (pg_name (i := 2) sc_Lcan.nd rfl (.inl rfl)) (pgs_cons (pg_name (i := 3) sc_Lcan.nd rfl (.inl rfl)) pgs_nil))))
      (pss_cons (ps_if (pt_cmpR op_eq (pv 2) pe_str (nomark _)) (pss_one (ps_ret (pe_not (pe_call G_Ltop hr (by rfl) T.g_Ltop T.F_Ltop.kp T.b_Ltop .nil pass0 (pa_cons (pv 0) (pa_cons (pv 3) pa_nil)))))) pss_nil)
      (pss_cons (ps_if (PW.pt (pw_or (pt_cmpR op_eq (pv 2) pe_str (nomark _)) (pw_or1 (pt_not (pt_val (pe_call G_Ltop hr (by rfl) T.g_Ltop T.F_Ltop.kp T.b_Ltop .nil pass0 (pa_cons (pv 0) (pa_cons (pv 3) pa_nil)))))))) (pss_one (ps_ret (pe_and (pe_cmpR op_eq (pv 2) pe_str (nomark _)) (pe_one (pe_call G_Ltop hr (by rfl) T.g_Ltop T.F_Ltop.kp T.b_Ltop .nil pass0 (pa_cons (pv 0) (pa_cons (pv 3) pa_nil))))))) pss_nil)
      (pss_cons (ps_set (i := 4) sc_Lcan.nd rfl (.inl rfl) (pe_ix ix_list (pe_dget (u1 hr) (pv 0) (pv 3) (fun _ _ => rfl)) pe_int (fun _ _ => rfl)))
      (pss_one (ps_ret (pe_and (pe_cmpR op_notN (pv 4) pe_non (nomark _)) (pe_and (pe_call G_Ltop hr (by rfl) T.g_Ltop T.F_Ltop.kp T.b_Ltop .nil pass0 (pa_cons (pv 0) (pa_cons (pv 4) pa_nil))) (pe_one (pe_cmpR op_isN (pe_ix ix_list (pe_dget (u1 hr) (pv 0) (pv 4) (fun _ _ => rfl)) pe_int (fun _ _ => rfl)) pe_non (nomark _))))))))))), ?_⟩
    refine ⟨_, rfl, t, _, rfl, SqT.of ht, rfl, _, _, rfl, _, _, rfl, rfl, ?_⟩
    unfold canS at q
    refine ⟨_, rfl, rfl, _, rfl, ?_⟩
    rw [strD]
    by_cases c1 : v = "turn"
    · rw [if_pos c1] at q
      rw [decide_eq_true c1]
      exact iteT ⟨_, rfl, _, rfl, d, ls, S, x, rfl, A, m, cl, fun H1 s1 => ⟨_, rfl, q H1 s1⟩⟩
    · rw [if_neg c1] at q
      rw [decide_eq_false c1]
      refine iteF ⟨_, rfl, rfl, _, rfl, ?_⟩
      rw [strD]
      by_cases c2 : v = "let"
      · rw [if_pos c2] at q
        rw [decide_eq_true c2]
        refine ifT rfl (iteT ⟨_, rfl, rfl, _, rfl, ?_⟩)
        rw [strD, decide_eq_true c2]
        exact ifT rfl ⟨_, rfl, _, rfl, d, ls, S, x, rfl, A, m, cl, fun H1 s1 => q H1 s1⟩
      · rw [if_neg c2] at q
        rw [decide_eq_false c2]
        refine ifF rfl ⟨_, rfl, _, rfl, d, ls, S, x, rfl, A, m, cl, fun H1 s1 => ⟨_, rfl, ?_⟩⟩
        have A1 := A.same s1
        cases et : S.isTop x with
        | false =>
          refine iteT ⟨_, rfl, rfl, _, rfl, ?_⟩
          rw [strD, decide_eq_false c2]
          refine ifF rfl ?_
          cases ea : S.a x with
          | none =>
            rw [ea] at q
            exact q H1 s1
          | some u =>
            rw [ea, et] at q
            exact q H1 s1
        | true =>
          refine iteF ?_
          refine rdN (i := 0) (j := 3) 2 A1 m rfl rfl (v := onV (S.a x)) rfl ?_
          refine ⟨_, rfl, rfl, _, rfl, ?_⟩
          cases ea : S.a x with
          | none =>
            rw [ea] at q
            exact ifF rfl (q H1 s1)
          | some u =>
            rw [ea, et] at q
            dsimp only at q
            have mu := (cl x m).2.2 u ea
            refine ifT rfl ⟨_, rfl, _, rfl, d, ls, S, u, rfl, A1, mu, cl, fun H2 s2 => ⟨_, rfl, ?_⟩⟩
            have A2 := A1.same s2
            cases eu : S.isTop u with
            | false =>
              rw [eu] at q
              exact ifF rfl (q H2 (s1.trans s2))
            | true =>
              rw [eu] at q
              refine ifT rfl (rdN (i := 0) (j := 4) 1 A2 mu rfl rfl (v := onV (S.r u)) rfl ⟨rfl, ?_⟩)
              have q := q H2 (s1.trans s2)
              show Q (.bl (decide (onV (S.r u) = .non))) H2
              rw [onV_non]
              exact q
def spDone : Sp := fun vs H Q _ => ∃ (d t : Addr) (ls : Int → Addr) (S : Lk Int) (w : Str) (x : Int), vs = [.ref d, .ref t] ∧ TreeAt H d ls S ∧ H t = some (.tup [.str w, .int x]) ∧ x ∈ S.ns ∧ Wf S ∧ canS S w x = true ∧ ∀ (H' : Hp), ButT ls S.ns H H' → TreeAt H' d ls (doS S w x) → Q .non H'
theorem ok_done (T : Top K mg) : FnOk P w K mg base CX0 2 T.a_Ldone T.d_Ldone ["_law_forms_here", "_law_step"] spDone := by
  have G_Lturned : FnOk P w K mg base CX0 1 _ _ _ _ := ok_lturned T
  refine T.F_Ldone.ok sc_Ldone (fun vs H Q E h => ?_) (fun cdv A outer s H vs Q E hr h => ?_)
  · obtain ⟨d, t, ls, S, w, x, rfl, _⟩ := h
    rfl
  · obtain ⟨d, t, ls, S, v, x, rfl, A, ht, m, wf, cn, q⟩ := h
    refine ⟨_, (pss_cons (ps_asg (pv 1) (pg_tup rfl (pgs_cons (pg_name (i := 2) sc_Ldone.nd rfl (.inl rfl)) (pgs_cons (pg_name (i := 3) sc_Ldone.nd rfl (.inl rfl)) pgs_nil))))
      (pss_one (ps_if (pt_cmpR op_eq (pv 2) pe_str (nomark _)) (pss_one (ps_expr (pe_call G_Lturned hr (by rfl) T.g_Lturned T.F_Lturned.kp T.b_Lturned .nil pass0 (pa_cons (pv 0) (pa_cons (pv 3) pa_nil))))) (pss_one (ps_if (pt_cmpR op_eq (pv 2) pe_str (nomark _)) (pss_one (ps_asg pe_non (pg_sub (pe_dget (u1 hr) (pv 0) (pv 3) (fun _ _ => rfl)) pe_int set_list))) (pss_one (ps_asg (pv 3) (pg_sub (pe_dget (u1 hr) (pv 0) (pe_ix ix_list (pe_dget (u1 hr) (pv 0) (pv 3) (fun _ _ => rfl)) pe_int (fun _ _ => rfl)) (fun _ _ => rfl)) pe_int set_list)))))))), ?_⟩
    refine ⟨_, rfl, t, _, rfl, SqT.of ht, rfl, _, _, rfl, _, _, rfl, rfl, ?_⟩
    unfold doS at q
    unfold canS at cn
    refine ⟨_, rfl, rfl, _, rfl, ?_⟩
    rw [strD]
    by_cases c1 : v = "turn"
    · rw [if_pos c1] at q cn
      rw [decide_eq_true c1]
      have nt : S.isTop x = false := by simpa using cn
      obtain ⟨u, e, _⟩ := top_not nt
      exact iteT ⟨_, rfl, _, rfl, d, ls, S, x, u, rfl, A, m, wf.cl, wf.tidy m nt e, fun H1 k1 A1 => q H1 k1 A1⟩
    · rw [if_neg c1] at q cn
      rw [decide_eq_false c1]
      refine iteF ⟨_, rfl, rfl, _, rfl, ?_⟩
      rw [strD]
      by_cases c2 : v = "let"
      · rw [if_pos c2] at q
        rw [decide_eq_true c2]
        exact iteT (wsR (i := 0) (j := 3) none A ButT.refl m m rfl rfl rfl (fun R r => r) fun H1 A1 k1 => q H1 k1 (A1.congr rfl fun z mz => ⟨rfl, rfl, rfl⟩))
      · rw [if_neg c2] at q cn
        rw [decide_eq_false c2]
        cases ea : S.a x with
        | none =>
          rw [ea] at cn
          exact nomatch cn
        | some u =>
          have mu := (wf.cl x m).2.2 u ea
          have es : S.hang x = { S with r := up1 S.r u (some x) } := by
            unfold Lk.hang
            rw [ea]
          rw [es] at q
          refine iteF ⟨_, rfl, _, rfl, ?_⟩
          refine rdN (i := 0) (j := 3) 2 A m rfl rfl (v := onV (S.a x)) rfl ?_
          rw [ea]
          exact ⟨d, _, rfl, A.get mu, ls u, _, 1, 1, rfl, rfl, A.at' u mu, rfl, q _ (ButT.refl.put mu) (A.setR (y := some x) mu)⟩
def rowF (S : Lk Int) (x : Int) : LRow := ⟨x, S.l x, S.r x, S.a x, false⟩
def spLRows (K : PySem.W.Frag) : Sp := fun vs H Q _ => ∃ (d : Addr) (ls : Int → Addr) (S : Lk Int), vs = [.ref d] ∧ TreeAt H d ls S ∧ S.ns.length ≤ 1000 ∧ ∀ (t : Addr) (H' : Hp) (vs : List V) (ms : List Int), Same H H' → ms.Perm S.ns → ms.Pairwise (· ≤ ·) → H t = none → H' t = some (.tup vs) → TAll H' vs (ms.map (rowF S)) → Q (.ref t) H'
theorem ok_lrows (T : Top K mg) : FnOk P w K mg base CX0 1 T.a_Lrows T.d_Lrows ["_law_forms_here"] (spLRows K) := by
  refine T.F_Lrows.ok sc_Lrows (fun vs H Q E h => ?_) (fun cdv A outer s H vs Q E hr h => ?_)
  · obtain ⟨d, ls, S, rfl, _⟩ := h
    rfl
  · obtain ⟨d, ls, S, rfl, TA, sz', q⟩ := h
    refine ⟨_, (pss_one (ps_ret (pe_callTy call_tuple_of (by rfl) T.m_tuple (by decide +kernel) (pa_cons (pe_lc (own := [("_law_name", 1)]) (g := gName 1) (tt := tYes) (by rfl) sc_Lrows.nd (pi_list (pe_callB (call_sortedDX rfl) (by rfl) T.m_sorted (by decide +kernel) (pa_cons (pv 0) pa_nil))) (blkOk_by (own := [("_law_name", 1)]) (N := ["_law_forms_here", "_law_name"]) (sc := defScope s_Lrows) (by decide +kernel)) (fun _ _ _ _ _ => (pg_name (i := 1) sc_Lrows.nd rfl (.inl rfl))) (fun _ _ _ _ _ => pts_nil) (fun _ _ _ _ _ => (pe_op (op_catTK (K := K) rfl) (pe_op (op_catTK (K := K) rfl) (pe_tup (pa_cons (pv 1) pa_nil)) (pe_callTy (call_tuple_ofK (K := K) rfl) (by rfl) T.m_tuple (by decide +kernel) (pa_cons (pe_dget (u1 hr) (pv 0) (pv 1) (fun _ _ => rfl)) pa_nil))) (pe_tup (pa_cons pe_bl pa_nil))))) pa_nil)))), ?_⟩
    refine ⟨_, rfl, d, _, S.ns, rfl, .inl TA.hd, by unfold dN; rw [List.map_map]; rfl, by omega, fun ms p1 pm srt np1 => ?_⟩
    have s2 := same_new (o := .lst (ms.map V.int)) np1
    have h1 : upd H p1 (.lst (ms.map V.int)) p1 = some (.lst (ms.map V.int)) := upd_same
    generalize upd H p1 (.lst (ms.map V.int)) = H2 at s2 h1 ⊢
    have lm := pm.length_eq
    refine ⟨p1, rfl, ⟨_, SqL.of h1⟩, fun D nD => ?_⟩
    refine lc_list (K := K) (a := p1) (xs := ms.map V.int) (fun i G => Same H2 G ∧ ∃ vs, G D = some (.lst vs) ∧ TAll G vs ((ms.take i).map (rowF S))) ⟨same_new nD, [], upd_same, .nil⟩ (fun i G _ z => SqL.of (z.1 _ _ h1)) ?_ ?_
    · rintro i v G hv ⟨s3, vs, hD, ta⟩
      rw [List.getElem?_map] at hv
      obtain ⟨x, hx, rfl⟩ := Option.map_eq_some_iff.mp hv
      have mx : x ∈ S.ns := pm.mem_iff.mp (List.mem_of_getElem? hx)
      have L3 := TA.same (s2.trans s3)
      have lv := ta.length
      rw [List.length_map, List.length_take] at lv
      refine ⟨rfl, yes_ite ⟨_, rfl, (by show 1 ≤ sizeLine; decide), fun t1 nt1 => ?_⟩⟩
      have s4 := same_new (o := .tup [V.int x]) nt1
      have g1 : upd G t1 (.tup [V.int x]) t1 = some (.tup [V.int x]) := upd_same
      have L4 := L3.same s4
      generalize upd G t1 (.tup [V.int x]) = G1 at s4 g1 L4 ⊢
      refine ⟨_, rfl, _, rfl, d, _, rfl, L4.get mx, ls x, _, rfl, .inl ⟨SqL.of (L4.at' x mx), fun t2 nt2 => ?_⟩⟩
      have s5 := same_new (o := .tup (cel S x)) nt2
      have g2 : upd G1 t2 (.tup (cel S x)) t2 = some (.tup (cel S x)) := upd_same
      have g1' := s5 _ _ g1
      generalize upd G1 t2 (.tup (cel S x)) = G2 at s5 g2 g1' ⊢
      refine ⟨t1, t2, _, _, rfl, rfl, SqT.of g1', SqT.of g2, (fun z => nomatch z), (by show 4 ≤ sizeLine; decide), (fun z => nomatch z), fun _ t3 nt3 => ?_⟩
      have s6 := same_new (o := .tup ([V.int x] ++ cel S x)) nt3
      have g3 : upd G2 t3 (.tup ([V.int x] ++ cel S x)) t3 = some (.tup ([V.int x] ++ cel S x)) := upd_same
      generalize upd G2 t3 (.tup ([V.int x] ++ cel S x)) = G3 at s6 g3 ⊢
      refine ⟨(by show 1 ≤ sizeLine; decide), fun t4 nt4 => ?_⟩
      have s7 := same_new (o := .tup [V.bl false]) nt4
      have g4 : upd G3 t4 (.tup [V.bl false]) t4 = some (.tup [V.bl false]) := upd_same
      have g3' := s7 _ _ g3
      generalize upd G3 t4 (.tup [V.bl false]) = G4 at s7 g4 g3' ⊢
      refine ⟨t3, t4, _, _, rfl, rfl, SqT.of g3', SqT.of g4, (fun z => nomatch z), (by show 5 ≤ sizeLine; decide), (fun z => nomatch z), fun _ t5 nt5 => ?_⟩
      have s8 := same_new (o := .tup ([V.int x] ++ cel S x ++ [V.bl false])) nt5
      have g5 : upd G4 t5 (.tup ([V.int x] ++ cel S x ++ [V.bl false])) t5 = some (.tup (rowF S x).vs) := upd_same
      generalize upd G4 t5 (.tup ([V.int x] ++ cel S x ++ [V.bl false])) = G5 at s8 g5 ⊢
      have s48 := s4.trans (s5.trans (s6.trans (s7.trans s8)))
      show ∃ acc, _
      have hD4 := s48 _ _ hD
      have ta4 := ta.same s48
      refine ⟨vs, hD4, szl (by omega), same_put (s3.trans s48) nD, vs ++ [.ref t5], upd_same, ?_⟩
      rw [tk_at hx, List.map_append]
      refine (ta4.snoc g5).mono fun p r e => ?_
      rw [upd_ne fun z => ?_]
      · exact e
      · rw [z, hD4] at e
        exact nomatch e
    · rintro G ⟨s3, vs, hD, ta⟩
      rw [List.length_map, List.take_length] at ta
      refine ⟨D, _, rfl, .inl ⟨SqL.of hD, fun t nt => ?_⟩⟩
      have s4 := s2.trans (s3.trans (same_new (o := .tup vs) nt))
      exact q t _ vs ms s4 pm srt (Same.none (s2.trans s3) nt) upd_same (ta.same (same_new nt))
end

end My
namespace My
open PySem L2
def Wd (w : Str) : Prop := w = "turn" ∨ w = "let" ∨ w = "hang"
theorem pickW3 {k : Int} (k0 : 0 ≤ k) (k3 : k < 3) : ∃ w : Str, atI [V.str "turn", V.str "let", V.str "hang"] k = some (.str w) ∧ Wd w := by
  have hc : k = 0 ∨ k = 1 ∨ k = 2 := by omega
  rcases hc with rfl | rfl | rfl
  · exact ⟨_, rfl, .inl rfl⟩
  · exact ⟨_, rfl, .inr (.inl rfl)⟩
  · exact ⟨_, rfl, .inr (.inr rfl)⟩
theorem at_int {ms : List Int} {x : Int} (x0 : 0 ≤ x) (x1 : x < (ms.length : Int)) : ∃ v, v ∈ ms ∧ atI (ms.map V.int) x = some (.int v) := by
  obtain ⟨j, ej, lj⟩ : ∃ j : Nat, x = (j : Int) ∧ j < ms.length := ⟨x.toNat, by omega, by omega⟩
  refine ⟨ms[j], List.getElem_mem lj, ?_⟩
  rw [ej]
  exact atI_nat (by rw [List.getElem?_map, List.getElem?_eq_getElem lj]; rfl)
/-! ### steps: the program's -/
theorem canS_ns {S : Lk Int} {ms : List Int} {w : Str} {x : Int} : canS { S with ns := ms } w x = canS S w x := rfl
theorem turn_ns {S : Lk Int} {ms : List Int} {x : Int} : Lk.turn { S with ns := ms } x = { S.turn x with ns := ms } := by
  unfold Lk.turn
  cases e : S.a x with
  | none => rfl
  | some u =>
    show Lk.turn1 { S with ns := ms } x u = { S.turn1 x u with ns := ms }
    unfold Lk.turn1
    dsimp only
    by_cases c : ({ S with lk := S.lk + 1 }.inPlace x u).l u = some x
    · rw [if_pos c]
      have c' : ({ S with ns := ms, lk := S.lk + 1 }.inPlace x u).l u = some x := c
      rw [if_pos c']
      rfl
    · rw [if_neg c]
      have c' : ¬ ({ S with ns := ms, lk := S.lk + 1 }.inPlace x u).l u = some x := c
      rw [if_neg c']
      rfl
theorem doS_ns {S : Lk Int} {ms : List Int} {w : Str} {x : Int} : doS { S with ns := ms } w x = { doS S w x with ns := ms } := by
  unfold doS
  split
  · exact turn_ns
  · split
    · rfl
    · unfold Lk.hang
      cases e : S.a x with
      | none => rfl
      | some u => rfl
/-- steps in the heap -/
inductive StAll (H : Hp) : List V → List (Str × Int) → Prop
  | nil : StAll H [] []
  | cons {p : Addr} {vs : List V} {w : Str} {x : Int} {ss : List (Str × Int)} : H p = some (.tup [.str w, .int x]) → StAll H vs ss → StAll H (.ref p :: vs) ((w, x) :: ss)
theorem StAll.mono {H H' : Hp} {vs : List V} {ss : List (Str × Int)} (h : StAll H vs ss) (k : ∀ p xs, H p = some (.tup xs) → H' p = some (.tup xs)) : StAll H' vs ss := by
  induction h with
  | nil => exact .nil
  | cons e _ ih => exact .cons (k _ _ e) ih
theorem StAll.length {H : Hp} {vs : List V} {ss : List (Str × Int)} (h : StAll H vs ss) : vs.length = ss.length := by
  induction h with
  | nil => rfl
  | cons _ _ ih => rw [List.length_cons, List.length_cons, ih]
theorem StAll.snoc {H : Hp} {vs : List V} {ss : List (Str × Int)} {p : Addr} {w : Str} {x : Int} (h : StAll H vs ss) (e : H p = some (.tup [.str w, .int x])) : StAll H (vs ++ [.ref p]) (ss ++ [(w, x)]) := by
  induction h with
  | nil => exact .cons e .nil
  | cons e' _ ih => exact .cons e' ih
theorem StAll.at {H : Hp} {vs : List V} {ss : List (Str × Int)} (h : StAll H vs ss) : ∀ {i : Nat} {v : V}, vs[i]? = some v → ∃ p w x, v = .ref p ∧ ss[i]? = some (w, x) ∧ H p = some (.tup [.str w, .int x]) := by
  induction h with
  | nil => intro i v e; exact nomatch e
  | @cons p vs w x ss e _ ih =>
    intro i v ev
    cases i with
    | zero => cases ev; exact ⟨p, w, x, rfl, rfl, e⟩
    | succ i => exact ih ev
section
variable {P : Program} {w : World} {K : PySem.W.Frag} {mg : Str → Option Value} {base : Heap}
def spLetGo (C : Addr) : Sp := fun vs H Q _ => ∃ (A : LA) (S : Lk Int) (x : Int), vs = [.ref A.h, .int x] ∧ LinksAt C H A S ∧ x ∈ S.ns ∧ ∀ H', ButA A H H' → LinksAt C H' A (S.letGo x) → Q .non H'
theorem ok_letgo (T : Top K mg) : FnOk P w K mg base CX0 2 T.a_Linksletgo T.d_Linksletgo ["self", "x"] (spLetGo T.C_Links) := by
  have G_Linksrefresh : FnOk P w K mg base CX0 1 _ _ _ _ := ok_refresh T
  refine T.F_Linksletgo.ok sc_Linksletgo (fun vs H Q E h => ?_) (fun cdv A outer s H vs Q E hr h => ?_)
  · obtain ⟨A, S, x, rfl, _⟩ := h
    rfl
  · obtain ⟨A, S, x, rfl, L, m, q⟩ := h
    obtain ⟨dx, hh⟩ := L.ob
    refine ⟨_, (pss_cons (ps_fldaug (pv 0) pe_int in_add)
      (pss_cons (ps_dput (u1 hr) (pe_fld (pv 0) rfl) (pv 1) pe_non rfl)
      (pss_one (ps_expr (pe_meth (pv 0) T.cl_Links T.me_Linksrefresh G_Linksrefresh hr T.b_Linksrefresh .nil pass0 (pa_cons (pv 1) pa_nil)))))), ?_⟩
    refine ⟨_, rfl, A.h, T.C_Links, dx, _, _, rfl, hh, T.cl_Links, T.na_Links_looked, fl_looked _ _, _, _, rfl, rfl, dx, _, hh, fl_len _ _, ?_⟩
    have k1 : ButA A H (upd H A.h (.ins T.C_Links dx (putF "looked" (.int ((S.lk : Int) + 1)) (fldsL A (S.lk : Int))))) := ButA.refl.put A.mh
    have L1 := L.putK dx hh
    dsimp only
    generalize upd H A.h (.ins T.C_Links dx (putF "looked" (.int ((S.lk : Int) + 1)) (fldsL A (S.lk : Int)))) = H1 at k1 L1 ⊢
    refine wrR T (i := 0) (j := 1) (y := none) L1 m rfl rfl fun H2 k2 L2 => ?_
    obtain ⟨dx2, hh2⟩ := L2.ob
    exact ⟨_, rfl, A.h, dx2, _, rfl, hh2, fl_no _ _ (by decide +kernel) (by decide +kernel) (by decide +kernel) (by decide +kernel) (by decide +kernel), _, rfl, A.h, x, rfl, q H2 (k1.trans k2) L2⟩
def spHang (C : Addr) : Sp := fun vs H Q _ => ∃ (A : LA) (S : Lk Int) (x u : Int), vs = [.ref A.h, .int x] ∧ LinksAt C H A S ∧ x ∈ S.ns ∧ S.a x = some u ∧ u ∈ S.ns ∧ ∀ H', ButA A H H' → LinksAt C H' A (S.hang x) → Q .non H'
theorem ok_hang (T : Top K mg) : FnOk P w K mg base CX0 2 T.a_Linkshang T.d_Linkshang ["self", "x"] (spHang T.C_Links) := by
  have G_Linksrefresh : FnOk P w K mg base CX0 1 _ _ _ _ := ok_refresh T
  refine T.F_Linkshang.ok sc_Linkshang (fun vs H Q E h => ?_) (fun cdv A outer s H vs Q E hr h => ?_)
  · obtain ⟨A, S, x, u, rfl, _⟩ := h
    rfl
  · obtain ⟨A, S, x, u, rfl, L, m, ea, mu, q⟩ := h
    have es : S.hang x = { S with r := up1 S.r u (some x) } := by
      unfold Lk.hang
      rw [ea]
    rw [es] at q
    refine ⟨_, (pss_cons (ps_set (i := 2) sc_Linkshang.nd rfl (.inl rfl) (pe_dget (u1 hr) (pe_fld (pv 0) rfl) (pv 1) (fun _ _ => rfl)))
      (pss_cons (ps_dput (u1 hr) (pe_fld (pv 0) rfl) (pv 2) (pv 1) rfl)
      (pss_one (ps_expr (pe_meth (pv 0) T.cl_Links T.me_Linksrefresh G_Linksrefresh hr T.b_Linksrefresh .nil pass0 (pa_cons (pv 2) pa_nil)))))), ?_⟩
    refine rdA T (i := 0) (j := 1) L m rfl rfl ?_
    rw [ea]
    refine ⟨_, rfl, wrR T (i := 0) (j := 2) (y := some x) L mu rfl rfl fun H2 k2 L2 => ?_⟩
    obtain ⟨dx2, hh2⟩ := L2.ob
    exact ⟨_, rfl, A.h, dx2, _, rfl, hh2, fl_no _ _ (by decide +kernel) (by decide +kernel) (by decide +kernel) (by decide +kernel) (by decide +kernel), _, rfl, A.h, u, rfl, q H2 k2 L2⟩
def canH (S : Lk Int) (x : Int) : Bool := match S.a x with | none => false | some u => S.isTop x && (S.isTop u && decide (S.r u = none))
def spCanHang (C : Addr) : Sp := fun vs H Q _ => ∃ (A : LA) (S : Lk Int) (x : Int), vs = [.ref A.h, .int x] ∧ LinksAt C H A S ∧ x ∈ S.ns ∧ Cl S ∧ ∀ H', Same H H' → Q (.bl (canH S x)) H'
theorem ok_canhang (T : Top K mg) : FnOk P w K mg base CX0 2 T.a_canhang T.d_canhang ["links", "x"] (spCanHang T.C_Links) := by
  have G_Linksistop : FnOk P w K mg base CX0 1 _ _ _ _ := ok_istop T
  refine T.F_canhang.ok sc_canhang (fun vs H Q E h => ?_) (fun cdv A outer s H vs Q E hr h => ?_)
  · obtain ⟨A, S, x, rfl, _⟩ := h
    rfl
  · obtain ⟨A, S, x, rfl, L, m, cl, q⟩ := h
    refine ⟨_, (pss_cons (ps_set (i := 2) sc_canhang.nd rfl (.inl rfl) (pe_dget (u1 hr) (pe_fld (pv 0) rfl) (pv 1) (fun _ _ => rfl)))
      (pss_one (ps_ret (pe_and (pe_cmpR op_notN (pv 2) pe_non (nomark _)) (pe_and (pe_meth (pv 0) T.cl_Links T.me_Linksistop G_Linksistop hr T.b_Linksistop .nil pass0 (pa_cons (pv 1) pa_nil)) (pe_and (pe_meth (pv 0) T.cl_Links T.me_Linksistop G_Linksistop hr T.b_Linksistop .nil pass0 (pa_cons (pv 2) pa_nil)) (pe_one (pe_cmpR op_isN (pe_dget (u1 hr) (pe_fld (pv 0) rfl) (pv 2) (fun _ _ => rfl)) pe_non (nomark _))))))))), ?_⟩
    refine rdA T (i := 0) (j := 1) L m rfl rfl ⟨_, rfl, rfl, _, rfl, ?_⟩
    unfold canH at q
    cases ea : S.a x with
    | none =>
      rw [ea] at q
      exact ifF rfl (q H fun _ _ e => e)
    | some u =>
      rw [ea] at q
      dsimp only at q
      have mu := (cl x m).2.2 u ea
      obtain ⟨dx, hh⟩ := L.ob
      refine ifT rfl ⟨_, rfl, A.h, dx, _, rfl, hh, fl_meth _ _ (by decide +kernel), _, rfl, A, S, x, rfl, L, m, cl, fun H1 s1 => ⟨_, rfl, ?_⟩⟩
      cases et : S.isTop x with
      | false =>
        rw [et] at q
        exact ifF rfl (q H1 s1)
      | true =>
        rw [et] at q
        have L1 := L.same s1
        obtain ⟨dx1, hh1⟩ := L1.ob
        refine ifT rfl ⟨_, rfl, A.h, dx1, _, rfl, hh1, fl_meth _ _ (by decide +kernel), _, rfl, A, S, u, rfl, L1, mu, cl, fun H2 s2 => ⟨_, rfl, ?_⟩⟩
        cases eu : S.isTop u with
        | false =>
          rw [eu] at q
          exact ifF rfl (q H2 (s1.trans s2))
        | true =>
          rw [eu] at q
          refine ifT rfl (rdR T (i := 0) (j := 2) (L1.same s2) mu rfl rfl ⟨rfl, ?_⟩)
          have q := q H2 (s1.trans s2)
          show Q (.bl (decide (onV (S.r u) = .non))) H2
          rw [onV_non]
          exact q
def spCanStep (C : Addr) : Sp := fun vs H Q _ => ∃ (A : LA) (S : Lk Int) (w : Str) (x : Int), vs = [.ref A.h, .str w, .int x] ∧ LinksAt C H A S ∧ x ∈ S.ns ∧ Cl S ∧ ∀ H', Same H H' → Q (.bl (canS S w x)) H'
theorem ok_canstep (T : Top K mg) : FnOk P w K mg base CX0 3 T.a_canstep T.d_canstep ["links", "word", "x"] (spCanStep T.C_Links) := by
  have G_Linksistop : FnOk P w K mg base CX0 1 _ _ _ _ := ok_istop T
  have G_canhang : FnOk P w K mg base CX0 2 _ _ _ _ := ok_canhang T
  refine T.F_canstep.ok sc_canstep (fun vs H Q E h => ?_) (fun cdv A outer s H vs Q E hr h => ?_)
  · obtain ⟨A, S, w, x, rfl, _⟩ := h
    rfl
  · obtain ⟨A, S, v, x, rfl, L, m, cl, q⟩ := h
    obtain ⟨dx, hh⟩ := L.ob
    refine ⟨_, (pss_cons (ps_if (pt_cmpR op_eq (pv 1) pe_str (nomark _)) (pss_one (ps_ret (pe_not (pe_meth (pv 0) T.cl_Links T.me_Linksistop G_Linksistop (hr.mono (by decide)) T.b_Linksistop .nil pass0 (pa_cons (pv 2) pa_nil))))) pss_nil)
      (pss_cons (ps_if (pt_cmpR op_eq (pv 1) pe_str (nomark _)) (pss_one (ps_ret (pe_meth (pv 0) T.cl_Links T.me_Linksistop G_Linksistop (hr.mono (by decide)) T.b_Linksistop .nil pass0 (pa_cons (pv 2) pa_nil)))) pss_nil)
      (pss_one (ps_ret (pe_call G_canhang hr (by rfl) T.g_canhang T.F_canhang.kp T.b_canhang .nil pass0 (pa_cons (pv 0) (pa_cons (pv 2) pa_nil))))))), ?_⟩
    unfold canS at q
    refine ⟨_, rfl, rfl, _, rfl, ?_⟩
    rw [strD]
    by_cases c1 : v = "turn"
    · rw [if_pos c1] at q
      rw [decide_eq_true c1]
      exact iteT ⟨_, rfl, A.h, dx, _, rfl, hh, fl_meth _ _ (by decide +kernel), _, rfl, A, S, x, rfl, L, m, cl, fun H1 s1 => ⟨_, rfl, q H1 s1⟩⟩
    · rw [if_neg c1] at q
      rw [decide_eq_false c1]
      refine iteF ⟨_, rfl, rfl, _, rfl, ?_⟩
      rw [strD]
      by_cases c2 : v = "let"
      · rw [if_pos c2] at q
        rw [decide_eq_true c2]
        exact iteT ⟨_, rfl, A.h, dx, _, rfl, hh, fl_meth _ _ (by decide +kernel), _, rfl, A, S, x, rfl, L, m, cl, fun H1 s1 => q H1 s1⟩
      · rw [if_neg c2] at q
        rw [decide_eq_false c2]
        exact iteF ⟨_, rfl, _, rfl, A, S, x, rfl, L, m, cl, fun H1 s1 => q H1 s1⟩
def spTakeStep (C : Addr) : Sp := fun vs H Q _ => ∃ (A : LA) (S : Lk Int) (w : Str) (x : Int), vs = [.ref A.h, .str w, .int x] ∧ LinksAt C H A S ∧ x ∈ S.ns ∧ Cl S ∧ canS S w x = true ∧ ∀ H', ButA A H H' → LinksAt C H' A (doS S w x) → Q .non H'
theorem ok_takestep (T : Top K mg) : FnOk P w K mg base CX0 3 T.a_takestep T.d_takestep ["links", "word", "x"] (spTakeStep T.C_Links) := by
  have G_Linksturn : FnOk P w K mg base CX0 2 _ _ _ _ := ok_turn T
  have G_Linksletgo : FnOk P w K mg base CX0 2 _ _ _ _ := ok_letgo T
  have G_Linkshang : FnOk P w K mg base CX0 2 _ _ _ _ := ok_hang T
  refine T.F_takestep.ok sc_takestep (fun vs H Q E h => ?_) (fun cdv A outer s H vs Q E hr h => ?_)
  · obtain ⟨A, S, w, x, rfl, _⟩ := h
    rfl
  · obtain ⟨A, S, v, x, rfl, L, m, cl, cn, q⟩ := h
    obtain ⟨dx, hh⟩ := L.ob
    refine ⟨_, (pss_one (ps_if (pt_cmpR op_eq (pv 1) pe_str (nomark _)) (pss_one (ps_expr (pe_meth (pv 0) T.cl_Links T.me_Linksturn G_Linksturn hr T.b_Linksturn .nil pass0 (pa_cons (pv 2) pa_nil)))) (pss_one (ps_if (pt_cmpR op_eq (pv 1) pe_str (nomark _)) (pss_one (ps_expr (pe_meth (pv 0) T.cl_Links T.me_Linksletgo G_Linksletgo hr T.b_Linksletgo .nil pass0 (pa_cons (pv 2) pa_nil)))) (pss_one (ps_expr (pe_meth (pv 0) T.cl_Links T.me_Linkshang G_Linkshang hr T.b_Linkshang .nil pass0 (pa_cons (pv 2) pa_nil)))))))), ?_⟩
    unfold doS at q
    unfold canS at cn
    refine ⟨_, rfl, rfl, _, rfl, ?_⟩
    rw [strD]
    by_cases c1 : v = "turn"
    · rw [if_pos c1] at q cn
      rw [decide_eq_true c1]
      have nt : S.isTop x = false := by simpa using cn
      obtain ⟨u, e, _⟩ := top_not nt
      exact iteT ⟨_, rfl, A.h, dx, _, rfl, hh, fl_meth _ _ (by decide +kernel), _, rfl, A, S, x, u, rfl, L, m, e, cl, fun H1 k1 L1 => q H1 k1 L1⟩
    · rw [if_neg c1] at q cn
      rw [decide_eq_false c1]
      refine iteF ⟨_, rfl, rfl, _, rfl, ?_⟩
      rw [strD]
      by_cases c2 : v = "let"
      · rw [if_pos c2] at q
        rw [decide_eq_true c2]
        exact iteT ⟨_, rfl, A.h, dx, _, rfl, hh, fl_meth _ _ (by decide +kernel), _, rfl, A, S, x, rfl, L, m, fun H1 k1 L1 => q H1 k1 L1⟩
      · rw [if_neg c2] at q cn
        rw [decide_eq_false c2]
        cases ea : S.a x with
        | none =>
          rw [ea] at cn
          exact nomatch cn
        | some u => exact iteF ⟨_, rfl, A.h, dx, _, rfl, hh, fl_meth _ _ (by decide +kernel), _, rfl, A, S, x, u, rfl, L, m, ea, (cl x m).2.2 u ea, fun H1 k1 L1 => q H1 k1 L1⟩
end

/-! ### things that are no steps -/
theorem AnyV.isS {H : Hp} {v : V} (_ : AnyV H v) : isStrV v = true ∨ isStrV v = false := by cases isStrV v <;> simp
inductive OddV (H : Hp) (N : List Int) : V → Prop
  | nt {v : V} : NoTup H v → OddV H N v
  | len {a : Addr} {xs : List V} : H a = some (.tup xs) → xs.length ≠ 2 → OddV H N (.ref a)
  | fst {a : Addr} {y z : V} : H a = some (.tup [y, z]) → AnyV H y → isStrV y = false → OddV H N (.ref a)
  | wrd {a : Addr} {w : Str} {z : V} : H a = some (.tup [.str w, z]) → ¬ Wd w → OddV H N (.ref a)
  | nam {a : Addr} {w : Str} {z : V} : H a = some (.tup [.str w, z]) → Wd w → AnyV H z → wholeB z = false → MkV H z false → OddV H N (.ref a)
  | non {a : Addr} {w : Str} {i : Int} : H a = some (.tup [.str w, .int i]) → Wd w → i ∉ N → OddV H N (.ref a)
theorem MkV.kpf {H H' : Hp} (k : Kp H H') {v : V} {b : Bool} (h : MkV H v b) : MkV H' v b := by
  rcases h with ⟨a, xs, e1, e2, e3, e4, e5, e6⟩ | ⟨nt, e⟩
  · exact .inl ⟨a, xs, e1, e2, k.tup e3, fun x m => (e4 x m).kp k, e5, e6⟩
  · exact .inr ⟨nt.kp k, e⟩
theorem OddV.kp {H H' : Hp} {N : List Int} (k : Kp H H') {v : V} (h : OddV H N v) : OddV H' N v := by
  cases h with
  | nt h => exact .nt (h.kp k)
  | len h l => exact .len (k.tup h) l
  | fst h a e => exact .fst (k.tup h) (a.kp k) e
  | wrd h n => exact .wrd (k.tup h) n
  | nam h w a e m => exact .nam (k.tup h) w (a.kp k) e (m.kpf k)
  | non h w n => exact .non (k.tup h) w n
theorem Kp.lst {H H' : Hp} (k : Kp H H') {t : Addr} {xs : List V} (e : H t = some (.lst xs)) : H' t = some (.lst xs) := k _ _ e (by intro ps z; cases z)
theorem Kp.dK {H H' : Hp} (k : Kp H H') {t : Addr} {d : List ((Int ⊕ Str) × V)} (e : H t = some (.dK d)) : H' t = some (.dK d) := k _ _ e (by intro ps z; cases z)
theorem LinksAt.kp {C : Addr} {H H' : Hp} {A : LA} {S : Lk Int} (L : LinksAt C H A S) (k : Kp H H') : LinksAt C H' A S := by
  obtain ⟨dx, e⟩ := L.ob
  exact ⟨⟨dx, k _ _ e (by intro ps z; cases z)⟩, k.dK L.hl, k.dK L.hr, k.dK L.ha, k.dK L.ht, L.n1, L.n2, L.n3, L.n4, L.n5, L.n6, L.nn, L.sz⟩
theorem ShapeAt.kp {H H' : Hp} {t : Addr} {S : Lk Int} {ms : List Int} (h : ShapeAt H t S ms) (s : Kp H H') : ShapeAt H' t S ms := by
  obtain ⟨xs, h1, h2⟩ := h
  exact ⟨xs, s.tup h1, h2.mono fun p r e => s.tup e⟩
theorem StAll.kp {H H' : Hp} {vs : List V} {ss : List (Str × Int)} (h : StAll H vs ss) (k : Kp H H') : StAll H' vs ss := h.mono fun p xs e => k.tup e
theorem inV_wd {w : Str} : inV (.str w) [V.str "turn", V.str "let", V.str "hang"] = decide (w ∈ (["turn", "let", "hang"] : List Str)) := inV_str w ["turn", "let", "hang"]
theorem wd_mem {w : Str} : w ∈ (["turn", "let", "hang"] : List Str) ↔ Wd w := by
  unfold Wd
  simp only [List.mem_cons, List.not_mem_nil, or_false]
theorem runS_take : ∀ {ss : List (Str × Int)} {S S' : Lk Int} (k : Nat), runS S ss = some S' → ∃ S'', runS S (ss.take k) = some S''
  | [], S, S', k, _ => ⟨S, by rw [List.take_nil]; rfl⟩
  | (w, x) :: r, S, S', 0, _ => ⟨S, rfl⟩
  | (w, x) :: r, S, S', k + 1, e => by
    have e : (if canS S w x then runS (doS S w x) r else none) = some S' := e
    show ∃ S'', (if canS S w x then runS (doS S w x) (r.take k) else none) = some S''
    split at e
    · rename_i c
      rw [if_pos c]
      exact runS_take k e
    · exact nomatch e
section
variable {P : Program} {w : World} {K : PySem.W.Frag} {mg : Str → Option Value} {base : Heap}
def spHas2 (C : Addr) : Sp := fun vs H Q _ => ∃ (A : LA) (S : Lk Int) (x : Int), vs = [.ref A.h, .int x] ∧ LinksAt C H A S ∧ Q (.bl (decide (x ∈ S.ns))) H
theorem ok_has2 (T : Top K mg) : FnOk P w K mg base CX0 1 T.a_Linkshasname T.d_Linkshasname ["self", "x"] (spHas2 T.C_Links) := by
  refine T.F_Linkshasname.ok sc_Linkshasname (fun vs H Q E h => ?_) (fun cdv A outer s H vs Q E hr h => ?_)
  · obtain ⟨A, S, x, rfl, _⟩ := h
    rfl
  · obtain ⟨A, S, x, rfl, L, q⟩ := h
    obtain ⟨dx, hh⟩ := L.ob
    have g : ∃ o, DGet H A.da (.int x) o ∧ o.isSome = decide (x ∈ S.ns) := by
      have g := DGet.k (k := Sum.inl x) L.ha
      by_cases m : x ∈ S.ns
      · rw [dN_get m] at g
        exact ⟨_, g, by rw [decide_eq_true m]; rfl⟩
      · rw [dN_none m] at g
        exact ⟨_, g, by rw [decide_eq_false m]; rfl⟩
    obtain ⟨o, g, eo⟩ := g
    rw [← eo] at q
    exact ⟨_, (pss_one (ps_ret (pe_cmp (pc_din (u1 hr) (pv 1) (pe_fld (pv 0) rfl))))), ⟨_, rfl, _, rfl, A.h, T.C_Links, dx, _, _, rfl, hh, T.cl_Links, T.na_Links_above, fl_above _ _, A.da, _, rfl, g, q⟩⟩
def spIsStep (T : Top K mg) : Sp := fun vs H Q _ => ∃ (A : LA) (S : Lk Int) (v : V) (b : Bool), vs = [.ref A.h, v] ∧ LinksAt T.C_Links H A S ∧ Tb T.tbs H ∧ ((b = true ∧ ∃ t w x, v = .ref t ∧ H t = some (.tup [.str w, .int x]) ∧ Wd w ∧ x ∈ S.ns) ∨ (b = false ∧ OddV H S.ns v)) ∧ ∀ H', Kp H H' → Tb T.tbs H' → Q (.bl b) H'
theorem ok_isstep (T : Top K mg) (TM : GxR.TabB base mg T.cM T.PM) : FnOk P w K mg base CX0 5 T.a_isstep T.d_isstep ["links", "thing"] (spIsStep T) := by
  have G_isname : FnOk P w K mg base CX0 4 _ _ _ _ := ok_name T TM
  have G_Linkshasname : FnOk P w K mg base CX0 1 _ _ _ _ := ok_has2 T
  refine T.F_isstep.ok sc_isstep (fun vs H Q E h => ?_) (fun cdv A outer s H vs Q E hr h => ?_)
  · obtain ⟨A, S, v, b, rfl, _⟩ := h
    rfl
  · obtain ⟨A, S, v, b, rfl, L, tb, hv, q⟩ := h
    refine ⟨_, (pss_cons (ps_if (PW.pt (pw_or (pt_not (pt_val (pe_callB call_isi (by rfl) T.m_isinstance (by decide +kernel) (pa_cons (pv 1) (pa_cons (pe_bltn (v := .ty "tuple") (by rfl) T.m_tuple (by decide +kernel) rfl) pa_nil))))) (pw_or (pt_cmpR op_ne (pe_callB call_len_seq (by rfl) T.m_len PySem.boot_len (pa_cons (pv 1) pa_nil)) pe_int (nomark _)) (pw_or1 (pt_not (pt_val (pe_callB call_isi (by rfl) T.m_isinstance (by decide +kernel) (pa_cons (pe_ix ix_tup (pv 1) pe_int (fun _ _ => rfl)) (pa_cons (pe_bltn (v := .ty "str") (by rfl) T.m_str (by decide +kernel) rfl) pa_nil))))))))) (pss_one (ps_ret pe_bl)) pss_nil)
      (pss_one (ps_ret (pe_and (pe_cmpR op_in_seq (pe_ix ix_tup (pv 1) pe_int (fun _ _ => rfl)) (pe_tup (pa_cons pe_str (pa_cons pe_str (pa_cons pe_str pa_nil)))) (by rfl)) (pe_and (pe_call G_isname hr (by rfl) T.g_isname T.F_isname.kp T.b_isname .nil pass0 (pa_cons (pe_ix ix_tup (pv 1) pe_int (fun _ _ => rfl)) pa_nil)) (pe_one (pe_meth (pv 0) T.cl_Links T.me_Linkshasname G_Linkshasname (hr.mono (by decide)) T.b_Linkshasname .nil pass0 (pa_cons (pe_ix ix_tup (pv 1) pe_int (fun _ _ => rfl)) pa_nil)))))))), ?_⟩
    have two : ∀ {t : Addr} {y : Str} {z : V} {R : Prop}, H t = some (.tup [.str y, z]) → v = .ref t → True := fun _ _ => trivial
    clear two
    -- what is no tuple
    have tupE : (∃ t xs, v = .ref t ∧ H t = some (.tup xs)) ∨ (NoTup H v ∧ b = false) := by
      rcases hv with ⟨_, t, y, x, e, h, _⟩ | ⟨e, o⟩
      · exact .inl ⟨t, _, e, h⟩
      · cases o with
        | nt h => exact .inr ⟨h, e⟩
        | len h _ => exact .inl ⟨_, _, rfl, h⟩
        | fst h _ _ => exact .inl ⟨_, _, rfl, h⟩
        | wrd h _ => exact .inl ⟨_, _, rfl, h⟩
        | nam h _ _ _ _ => exact .inl ⟨_, _, rfl, h⟩
        | non h _ _ => exact .inl ⟨_, _, rfl, h⟩
    rcases tupE with ⟨t, xs, rfl, ht⟩ | ⟨nt, rfl⟩
    rotate_left
    · obtain ⟨k, ty, kt⟩ := notup_ok (K := K) nt
      refine ⟨_, rfl, _, _, _, _, false, rfl, ClsV.ty _, ty, kt, _, rfl, iteT ?_⟩
      exact iteT (q H (Kp.refl H) tb)
    refine ⟨_, rfl, _, _, _, _, true, rfl, ClsV.ty _, .base (.tup ht), kit_ty (by decide +kernel), _, rfl, ifF rfl ?_⟩
    refine ⟨_, rfl, t, _, rfl, .inr (SqT.of ht), rfl, _, rfl, ?_⟩
    by_cases l2 : xs.length = 2
    rotate_left
    · have bf : b = false := by
        rcases hv with ⟨_, t', y, x, e, h, _⟩ | ⟨e, _⟩
        · cases e
          rw [ht] at h
          cases h
          exact absurd rfl l2
        · exact e
      subst bf
      refine ifT ?_ (iteT (q H (Kp.refl H) tb))
      rw [decide_eq_false fun z => l2 (by have := V.int.inj z; omega)]
      rfl
    refine ifF (by rw [l2]; rfl) ?_
    obtain ⟨y, z, rfl⟩ : ∃ y z, xs = [y, z] := by
      match xs, l2 with
      | [y, z], _ => exact ⟨y, z, rfl⟩
    -- what is first
    have fstE : (∃ u, y = .str u) ∨ (AnyV H y ∧ isStrV y = false ∧ b = false) := by
      rcases hv with ⟨_, t', u, x, e, h, _⟩ | ⟨e, o⟩
      · cases e
        rw [ht] at h
        cases h
        exact .inl ⟨u, rfl⟩
      · cases o with
        | nt h =>
          cases h with
          | lst h =>
            rw [ht] at h
            exact nomatch h
          | dK h =>
            rw [ht] at h
            exact nomatch h
        | len h l =>
          rw [ht] at h
          cases h
          exact absurd rfl l
        | fst h a i =>
          rw [ht] at h
          cases h
          exact .inr ⟨a, i, e⟩
        | wrd h _ =>
          rw [ht] at h
          cases h
          exact .inl ⟨_, rfl⟩
        | nam h _ _ _ _ =>
          rw [ht] at h
          cases h
          exact .inl ⟨_, rfl⟩
        | non h _ _ =>
          rw [ht] at h
          cases h
          exact .inl ⟨_, rfl⟩
    rcases fstE with ⟨u, rfl⟩ | ⟨ay, iy, rfl⟩
    rotate_left
    · obtain ⟨k, ty, kt⟩ := str_ok (K := K) ay
      rw [iy] at kt
      exact ⟨_, rfl, t, _, _, _, rfl, rfl, SqT.of ht, atI_nat (j := 0) (v := y) rfl, _, _, _, _, false, rfl, ClsV.ty _, ty, kt, _, rfl, iteT (q H (Kp.refl H) tb)⟩
    refine ⟨_, rfl, t, _, _, _, rfl, rfl, SqT.of ht, atI_nat (j := 0) (v := V.str u) rfl, _, _, _, _, true, rfl, ClsV.ty _, .base (.str _), kit_ty (by decide +kernel), _, rfl, iteF ?_⟩
    refine ⟨_, rfl, t, _, _, _, rfl, rfl, SqT.of ht, atI_nat (j := 0) (v := V.str u) rfl, (by show 3 ≤ sizeLine; decide), fun p np => ?_⟩
    have s1 := same_new (o := .tup [V.str "turn", V.str "let", V.str "hang"]) np
    have ht1 := s1 _ _ ht
    have L1 := L.same s1
    have tb1 := tb.same s1
    have k1 := Kp.of_same s1
    have hp : upd H p (.tup [V.str "turn", V.str "let", V.str "hang"]) p = some (.tup [V.str "turn", V.str "let", V.str "hang"]) := upd_same
    generalize upd H p (.tup [V.str "turn", V.str "let", V.str "hang"]) = H1 at s1 ht1 L1 hp tb1 k1 ⊢
    have sndE : Wd u → (∃ i : Int, z = .int i ∧ b = decide (i ∈ S.ns)) ∨ (AnyV H z ∧ wholeB z = false ∧ MkV H z false ∧ b = false) := fun wu => by
      rcases hv with ⟨e1, t', u, x, e, h, _, m⟩ | ⟨e, o⟩
      · cases e
        rw [ht] at h
        cases h
        exact .inl ⟨x, rfl, by rw [e1, decide_eq_true m]⟩
      · cases o with
        | nt h =>
          cases h with
          | lst h =>
            rw [ht] at h
            exact nomatch h
          | dK h =>
            rw [ht] at h
            exact nomatch h
        | len h l =>
          rw [ht] at h
          cases h
          exact absurd rfl l
        | fst h a i =>
          rw [ht] at h
          cases h
          exact nomatch i
        | wrd h n =>
          rw [ht] at h
          cases h
          exact absurd wu n
        | nam h _ a i m =>
          rw [ht] at h
          cases h
          exact .inr ⟨a, i, m, e⟩
        | non h _ n =>
          rw [ht] at h
          cases h
          exact .inl ⟨_, rfl, by rw [e, decide_eq_false n]⟩
    refine ⟨p, _, rfl, .inr (SqT.of hp), rfl, rfl, _, rfl, ?_⟩
    by_cases wu : Wd u
    rotate_left
    · have bf : b = false := by
        rcases hv with ⟨_, t', u', x, e, h, wd', _⟩ | ⟨e, _⟩
        · cases e
          rw [ht] at h
          cases h
          exact absurd wd' wu
        · exact e
      have iv : inV (.str u) [V.str "turn", V.str "let", V.str "hang"] = false := by
        rw [inV_wd]
        exact decide_eq_false fun m => wu (wd_mem.mp m)
      have q1 := q H1 k1 tb1
      rw [bf] at q1
      exact ifF iv q1
    have iv : inV (.str u) [V.str "turn", V.str "let", V.str "hang"] = true := by
      rw [inV_wd]
      exact decide_eq_true (wd_mem.mpr wu)
    refine ifT iv ?_
    rcases sndE wu with ⟨i, rfl, rfl⟩ | ⟨az, wz, mz, rfl⟩
    · refine ⟨_, rfl, t, _, _, _, rfl, rfl, SqT.of ht1, atI_nat (j := 1) (v := V.int i) rfl, .int i, false, rfl, tb1, .int i, .inr ⟨.int i, rfl⟩, fun H2 k2 tb2 => ⟨_, rfl, ifT rfl ?_⟩⟩
      have L2 := L1.kp k2
      obtain ⟨dx, hh⟩ := L2.ob
      exact ⟨_, rfl, A.h, dx, _, rfl, hh, fl_meth _ _ (by decide +kernel), _, rfl, t, _, _, _, rfl, rfl, SqT.of (k2.tup ht1), atI_nat (j := 1) (v := V.int i) rfl, A, S, i, rfl, L2, q H2 (k1.trans k2) tb2⟩
    · refine ⟨_, rfl, t, _, _, _, rfl, rfl, SqT.of ht1, atI_nat (j := 1) (v := z) rfl, z, false, rfl, tb1, az.kp k1, mz.kpf k1, fun H2 k2 tb2 => ⟨_, rfl, ?_⟩⟩
      rw [wz]
      exact ifF rfl (q H2 (k1.trans k2) tb2)
/-- steps that can be, one thing that is none or nothing, whatever else -/
def spStepped (T : Top K mg) : Sp := fun vs H Q _ => ∃ (t1 : Addr) (v : V) (S0 : Lk Int), vs = [.ref t1, v] ∧ Tb T.tbs H ∧ ((NoTup H v ∧ ∀ H', Kp H H' → Tb T.tbs H' → Q .non H') ∨
  (ShapeAt H t1 S0 S0.ns ∧ S0.ns.Nodup ∧ S0.ns.length ≤ 1000 ∧ S0.lk = 0 ∧ Wf S0 ∧ ∃ (t2 : Addr) (gs rest : List V) (ss : List (Str × Int)) (S' : Lk Int), v = .ref t2 ∧ H t2 = some (.tup (gs ++ rest)) ∧ StAll H gs ss ∧ (∀ s ∈ ss, Wd s.1 ∧ s.2 ∈ S0.ns) ∧ runS S0 ss = some S' ∧
    ((∃ o r, rest = o :: r ∧ OddV H S0.ns o ∧ ∀ H', Kp H H' → Tb T.tbs H' → Q .non H') ∨
     (rest = [] ∧ ∀ (t : Addr) (H' : Hp) (ms : List Int), Kp H H' → Tb T.tbs H' → ms.Perm S0.ns → ms.Pairwise (· ≤ ·) → ShapeAt H' t S' ms → Q (.ref t) H'))))
theorem tb_butA (T : Top K mg) {H H' : Hp} {C : Addr} {A : LA} {S : Lk Int} (h : Tb T.tbs H) (t : LinksAt C H A S) (k : ButA A H H') : Tb T.tbs H' := by
  refine .mk (fun P m => ?_) (fun P q m => by simp [Top.tbs] at m)
  obtain ⟨ps, e, t2⟩ := h.g m
  exact ⟨ps, k _ _ e (t.nin e (by intro dx fs z; cases z) (by intro kvs z; cases z)), t2⟩
theorem ok_stepped (T : Top K mg) (TM : GxR.TabB base mg T.cM T.PM) : FnOk P w K mg base CX0 6 T.a_stepped T.d_stepped ["shape", "steps"] (spStepped T) := by
  have G_linksof : FnOk P w K mg base CX0 3 _ _ _ _ := ok_linksof T
  have G_isstep : FnOk P w K mg base CX0 5 _ _ _ _ := ok_isstep T TM
  have G_canstep : FnOk P w K mg base CX0 3 _ _ _ _ := ok_canstep T
  have G_takestep : FnOk P w K mg base CX0 3 _ _ _ _ := ok_takestep T
  have G_Linksshape : FnOk P w K mg base CX0 1 _ _ _ _ := ok_shape T
  refine T.F_stepped.ok sc_stepped (fun vs H Q E h => ?_) (fun cdv A outer s H vs Q E hr h => ?_)
  · obtain ⟨t1, v, S0, rfl, _⟩ := h
    rfl
  · obtain ⟨t1, v, S0, rfl, tb, ⟨nt, q⟩ | ⟨⟨xs1, h1, ta1⟩, nd, lm, lk0, wf0, t2, gs, rest, ss, S', rfl, h2, sa, gd, run, hR⟩⟩ := h
    · refine ⟨_, (pss_cons (ps_if (pt_not (pt_val (pe_callB call_isi (by rfl) T.m_isinstance (by decide +kernel) (pa_cons (pv 1) (pa_cons (pe_bltn (v := .ty "tuple") (by rfl) T.m_tuple (by decide +kernel) rfl) pa_nil))))) (pss_one (ps_ret pe_non)) pss_nil)
      (pss_cons (ps_set (i := 2) sc_stepped.nd rfl (.inl rfl) (pe_call G_linksof (hr.mono (by decide)) (by rfl) T.g_linksof T.F_linksof.kp T.b_linksof .nil pass0 (pa_cons (pv 0) pa_nil)))
      (pss_cons (ps_for PassesOwn.never rfl (pi_tup (pv 1)) (pg_name (i := 3) sc_stepped.nd rfl (.inl rfl)) (pss_cons (ps_if (PW.pt (pw_or (pt_not (pt_val (pe_call G_isstep hr (by rfl) T.g_isstep T.F_isstep.kp T.b_isstep .nil pass0 (pa_cons (pv 2) (pa_cons (pv 3) pa_nil))))) (pw_or1 (pt_not (pt_val (pe_call G_canstep (hr.mono (by decide)) (by rfl) T.g_canstep T.F_canstep.kp T.b_canstep .nil pass0 (pa_cons (pv 2) (pa_cons (pe_ix ix_tup (pv 3) pe_int (fun _ _ => rfl)) (pa_cons (pe_ix ix_tup (pv 3) pe_int (fun _ _ => rfl)) pa_nil))))))))) (pss_one (ps_ret pe_non)) pss_nil)
      (pss_one (ps_expr (pe_call G_takestep (hr.mono (by decide)) (by rfl) T.g_takestep T.F_takestep.kp T.b_takestep .nil pass0 (pa_cons (pv 2) (pa_cons (pe_ix ix_tup (pv 3) pe_int (fun _ _ => rfl)) (pa_cons (pe_ix ix_tup (pv 3) pe_int (fun _ _ => rfl)) pa_nil))))))))
      (pss_one (ps_ret (pe_meth0 (pv 2) T.cl_Links T.me_Linksshape G_Linksshape (hr.mono (by decide)) T.b_Linksshape .nil pass0)))))), ?_⟩
      obtain ⟨k, ty, kt⟩ := notup_ok (K := K) nt
      exact ⟨_, rfl, _, _, _, _, false, rfl, ClsV.ty _, ty, kt, _, rfl, ifT rfl (q H (Kp.refl H) tb)⟩
    refine ⟨_, (pss_cons (ps_if (pt_not (pt_val (pe_callB call_isi (by rfl) T.m_isinstance (by decide +kernel) (pa_cons (pv 1) (pa_cons (pe_bltn (v := .ty "tuple") (by rfl) T.m_tuple (by decide +kernel) rfl) pa_nil))))) (pss_one (ps_ret pe_non)) pss_nil)
      (pss_cons (ps_set (i := 2) sc_stepped.nd rfl (.inl rfl) (pe_call G_linksof (hr.mono (by decide)) (by rfl) T.g_linksof T.F_linksof.kp T.b_linksof .nil pass0 (pa_cons (pv 0) pa_nil)))
      (pss_cons (ps_for PassesOwn.never rfl (pi_tup (pv 1)) (pg_name (i := 3) sc_stepped.nd rfl (.inl rfl)) (pss_cons (ps_if (PW.pt (pw_or (pt_not (pt_val (pe_call G_isstep hr (by rfl) T.g_isstep T.F_isstep.kp T.b_isstep .nil pass0 (pa_cons (pv 2) (pa_cons (pv 3) pa_nil))))) (pw_or1 (pt_not (pt_val (pe_call G_canstep (hr.mono (by decide)) (by rfl) T.g_canstep T.F_canstep.kp T.b_canstep .nil pass0 (pa_cons (pv 2) (pa_cons (pe_ix ix_tup (pv 3) pe_int (fun _ _ => rfl)) (pa_cons (pe_ix ix_tup (pv 3) pe_int (fun _ _ => rfl)) pa_nil))))))))) (pss_one (ps_ret pe_non)) pss_nil)
      (pss_one (ps_expr (pe_call G_takestep (hr.mono (by decide)) (by rfl) T.g_takestep T.F_takestep.kp T.b_takestep .nil pass0 (pa_cons (pv 2) (pa_cons (pe_ix ix_tup (pv 3) pe_int (fun _ _ => rfl)) (pa_cons (pe_ix ix_tup (pv 3) pe_int (fun _ _ => rfl)) pa_nil))))))))
      (pss_one (ps_ret (pe_meth0 (pv 2) T.cl_Links T.me_Linksshape G_Linksshape (hr.mono (by decide)) T.b_Linksshape .nil pass0)))))), ?_⟩
    refine ⟨_, rfl, _, _, _, _, true, rfl, ClsV.ty _, .base (.tup h2), kit_ty (by decide +kernel), _, rfl, ifF rfl ?_⟩
    refine ⟨_, rfl, t1, xs1, _, rfl, h1, ta1, by rw [List.length_map]; exact lm, fun A H1 nAs s1 L1 => ?_⟩
    obtain ⟨n1, n2, _, n4⟩ := takes_ns (S := S0) (L := emptyLk) nd fun x _ m => (nomatch m)
    have n1 : (emptyLk.takes (S0.ns.map (rowL S0))).ns = S0.ns := n1
    have L1 : LinksAt T.C_Links H1 A S0 := L1.congr n1.symm (lk0.trans n4.symm) fun x m => by
      have a := n2 x (n1 ▸ m)
      exact ⟨a.1.symm, a.2.1.symm, a.2.2.1.symm, a.2.2.2.symm⟩
    have h2' := s1 _ _ h2
    have lx := sa.length
    refine ⟨_, rfl, t2, rfl, ⟨_, SqT.of h2'⟩, for_it (walk_tup (xs := gs ++ rest)) (fun i σ G => ∃ (S : Lk Int) (y3 : Option V), σ = [some (.ref t1), some (.ref t2), some (.ref A.h), y3] ∧ Kp H G ∧ Tb T.tbs G ∧ LinksAt T.C_Links G A S ∧ S.ns = S0.ns ∧ Wf S ∧ i ≤ gs.length ∧ runS S (ss.drop i) = some S') ⟨S0, _, rfl, Kp.of_same s1, tb.same s1, L1, rfl, wf0, Nat.zero_le _, run⟩ (fun i σ G _ h => ?_) ?_ ?_⟩
    · obtain ⟨_, _, _, s, _⟩ := h
      exact SqT.of (s.tup h2)
    · rintro i v σ G G' hi ⟨S, y3, rfl, sG, tbG, L, eS, wf, li, er⟩ ⟨rfl, hx⟩
      by_cases ig : i < gs.length
      rotate_left
      · have ei : i = gs.length := by omega
        rw [List.getElem?_append_right (by omega), ei, Nat.sub_self] at hx
        rcases hR with ⟨o, r, rfl, od, q⟩ | ⟨rfl, _⟩
        · rw [Option.some.inj hx] at od
          refine ⟨_, rfl, _, rfl, A, S, v, false, rfl, L, tbG, .inr ⟨rfl, eS ▸ od.kp sG⟩, fun G1 k1 tb1 => ⟨_, rfl, iteT (iteT (q G1 (sG.trans k1) tb1))⟩⟩
        · exact nomatch hx
      rw [List.getElem?_append_left ig] at hx
      obtain ⟨p, v, x, rfl, hs, hp⟩ := sa.at hx
      have hpG := sG.tup hp
      obtain ⟨wd, mx⟩ := gd _ (List.mem_of_getElem? hs)
      have ed : ss.drop i = (v, x) :: ss.drop (i + 1) := by
        obtain ⟨l1, e⟩ := List.getElem?_eq_some_iff.mp hs
        rw [← e]
        exact List.drop_eq_getElem_cons l1
      rw [ed] at er
      have er : (if canS S v x then runS (doS S v x) (ss.drop (i + 1)) else none) = some S' := er
      refine ⟨_, rfl, _, rfl, A, S, .ref p, true, rfl, L, tbG, .inl ⟨rfl, p, v, x, rfl, hpG, wd, eS ▸ mx⟩, fun G1 k1 tb1 => ⟨_, rfl, iteF ?_⟩⟩
      have hp1 := k1.tup hpG
      have L2 := L.kp k1
      refine ⟨_, rfl, _, rfl, p, _, _, _, rfl, rfl, SqT.of hp1, atI_nat (j := 0) (v := V.str v) rfl, _, rfl, p, _, _, _, rfl, rfl, SqT.of hp1, atI_nat (j := 1) (v := V.int x) rfl, A, S, v, x, rfl, L2, eS ▸ mx, wf.cl, fun G2 s2 => ⟨_, rfl, ?_⟩⟩
      have sG2 : Kp H G2 := (sG.trans k1).trans (Kp.of_same s2)
      cases cn : canS S v x with
      | false =>
        rw [cn, if_neg Bool.false_ne_true] at er
        exact nomatch er
      | true =>
        rw [cn, if_pos rfl] at er
        have hp2 := s2 _ _ hp1
        have L3 := L2.same s2
        refine iteF ⟨_, rfl, _, rfl, p, _, _, _, rfl, rfl, SqT.of hp2, atI_nat (j := 0) (v := V.str v) rfl, _, rfl, p, _, _, _, rfl, rfl, SqT.of hp2, atI_nat (j := 1) (v := V.int x) rfl, A, S, v, x, rfl, L3, eS ▸ mx, wf.cl, cn, fun G3 k3 L4 => ?_⟩
        obtain ⟨w1, w2, _⟩ := do_ok wf (eS ▸ mx) cn
        exact ⟨doS S v x, _, rfl, fun c o e nt => k3 _ _ (sG2 _ _ e nt) (fun m => by rw [nAs c m] at e; exact nomatch e), tb_butA T (tb1.same s2) L3 k3, L4, w2.trans eS, w1, ig, er⟩
    · rintro σ G ⟨S, y3, rfl, sG, tbG, L, eS, wf, li, er⟩
      rcases hR with ⟨o, r, rfl, od, q⟩ | ⟨rfl, q⟩
      · rw [List.length_append, List.length_cons] at li
        omega
      rw [List.append_nil, lx, List.drop_length] at er
      cases er
      obtain ⟨dx, hh⟩ := L.ob
      refine ⟨_, rfl, A.h, dx, _, rfl, hh, fl_meth _ _ (by decide +kernel), A, S', rfl, L, fun t H2 vs2 ms2 s2 p2 r2 nt2 h2b ta2 => ?_⟩
      exact q t H2 ms2 (sG.trans (Kp.of_same s2)) (tbG.same s2) (eS ▸ p2) r2 ⟨vs2, h2b, ta2⟩
end

end My
namespace My
open PySem L2
/-! ### a thing that is no step -/
theorem od_same {H H' : Hp} {N : List Int} {vs : List V} (OD : ∀ u ∈ vs, OddV H N u) (s : Same H H') : ∀ u ∈ vs, OddV H' N u := fun u m => (OD u m).kp (Kp.of_same s)
theorem od_step {H H' : Hp} {N : List Int} {vs : List V} {v : V} (OD : ∀ u ∈ vs, OddV H N u) (s : Same H H') (o : OddV H' N v) : ∀ u ∈ vs ++ [v], OddV H' N u := fun u m => by
  rcases List.mem_append.mp m with m | m
  · exact (OD u m).kp (Kp.of_same s)
  · rw [List.mem_singleton.mp m]
    exact o
theorem od_cat {H : Hp} {N : List Int} {xs ys : List V} (OA : ∀ u ∈ xs, OddV H N u) (OD : ∀ u ∈ ys, OddV H N u) : ∀ u ∈ xs ++ ys, OddV H N u := fun u m => by
  rcases List.mem_append.mp m with m | m
  · exact OA u m
  · exact OD u m
theorem at_anyV {vs : List V} {x : Int} (x0 : 0 ≤ x) (x1 : x < (vs.length : Int)) : ∃ v, v ∈ vs ∧ atI vs x = some v := by
  obtain ⟨j, ej, lj⟩ : ∃ j : Nat, x = (j : Int) ∧ j < vs.length := ⟨x.toNat, by omega, by omega⟩
  refine ⟨vs[j], List.getElem_mem lj, ?_⟩
  rw [ej]
  exact atI_nat (List.getElem?_eq_getElem lj)
theorem P2.nel {H : Hp} {b l : Addr} {xs : List V} (p : P2 H b) (h : H l = some (.lst xs)) (n : xs.length ≠ 2) : l ≠ b := by
  obtain ⟨x, y, e⟩ := p
  exact ne_of h e fun z => n (congrArg List.length (HO.lst.inj z))
section
variable {P : Program} {w : World} {K : PySem.W.Frag} {mg : Str → Option Value} {base : Heap}
def spOdd : Sp := fun vs H Q _ => ∃ (b t : Addr) (v : Str) (x m : Int) (N : List Int), vs = [.ref b, .ref t, .int m] ∧ P2 H b ∧ H t = some (.tup [.str v, .int x]) ∧ Wd v ∧ m ∉ N ∧ (-1 : Int) ∉ N ∧ ((10 : Int) ^ (29 : Int).toNat) ∉ N ∧ ∀ (u : V) (H' H2 : Hp), P2 H2 b → Same H H' → OddV H' N u → P2 H' b → But b H' H2 → Q u H2
theorem ok_odd (T : Top K mg) : FnOk P w K mg base CX0 2 T.a_Lodd T.d_Lodd ["_law_pot_here", "_law_step", "_law_many"] spOdd := by
  have G_Ltake : FnOk P w K mg base CX0 1 _ _ _ _ := ok_take2 T
  refine T.F_Lodd.ok sc_Lodd (fun vs H Q E h => ?_) (fun cdv A outer s H vs Q E hr h => ?_)
  · obtain ⟨b, t, v, x, m, N, rfl, _⟩ := h
    rfl
  · obtain ⟨b, t, v, x, m, N, rfl, p2, ht, wd, nm, n1, n29, q⟩ := h
    have nT : ¬ Wd "Turn" := by unfold Wd; decide +kernel
    have nL : ¬ Wd "lift" := by unfold Wd; decide +kernel
    refine ⟨_, (pss_cons (ps_asg (pv 1) (pg_tup rfl (pgs_cons (pg_name (i := 3) sc_Lodd.nd rfl (.inl rfl)) (pgs_cons (pg_name (i := 4) sc_Lodd.nd rfl (.inl rfl)) pgs_nil))))
      (pss_cons (ps_set (i := 5) sc_Lodd.nd rfl (.inl rfl) (pe_lst (pa_cons (pe_tup (pa_cons pe_str (pa_cons (pv 4) pa_nil))) (pa_cons (pe_tup (pa_cons pe_str (pa_cons (pv 4) pa_nil))) (pa_cons (pe_tup (pa_cons (pv 3) (pa_cons (pv 2) pa_nil))) (pa_cons (pe_tup (pa_cons (pv 3) (pa_cons (pe_un un_neg pe_int) pa_nil))) (pa_cons (pe_tup (pa_cons (pv 3) (pa_cons pe_bl pa_nil))) (pa_cons (pe_tup (pa_cons (pv 3) (pa_cons pe_non pa_nil))) (pa_cons (pe_tup (pa_cons (pv 3) (pa_cons pe_str pa_nil))) pa_nil)))))))))
      (pss_cons (ps_set (i := 5) sc_Lodd.nd rfl (.inl rfl) (pe_op op_cat (pv 5) (pe_lst (pa_cons (pe_tup (pa_cons (pv 3) (pa_cons (pe_tup (pa_cons (pv 4) pa_nil)) pa_nil))) pa_nil))))
      (pss_cons (ps_set (i := 5) sc_Lodd.nd rfl (.inl rfl) (pe_op op_cat (pv 5) (pe_lst (pa_cons (pe_tup (pa_cons (pv 3) (pa_cons (pv 4) (pa_cons (pv 4) pa_nil)))) (pa_cons (pe_tup (pa_cons (pv 3) pa_nil)) (pa_cons (pe_lst (pa_cons (pv 3) (pa_cons (pv 4) pa_nil))) (pa_cons (pv 3) (pa_cons (pv 4) (pa_cons pe_non (pa_cons pe_bl pa_nil))))))))))
      (pss_cons (ps_set (i := 5) sc_Lodd.nd rfl (.inl rfl) (pe_op op_cat (pv 5) (pe_lst (pa_cons (pe_tup pa_nil) (pa_cons (pe_tup (pa_cons (pv 4) (pa_cons (pv 3) pa_nil))) (pa_cons (pe_tup (pa_cons (pe_lst (pa_cons (pv 3) pa_nil)) (pa_cons (pv 4) pa_nil))) (pa_cons (pe_tup (pa_cons (pv 3) (pa_cons (pe_lst (pa_cons (pv 4) pa_nil)) pa_nil))) pa_nil)))))))
      (pss_cons (ps_set (i := 5) sc_Lodd.nd rfl (.inl rfl) (pe_op op_cat (pv 5) (pe_lst (pa_cons (pe_tup (pa_cons pe_non (pa_cons (pv 4) pa_nil))) (pa_cons (pe_tup (pa_cons (pv 3) (pa_cons pe_dnewK pa_nil))) (pa_cons pe_dnewK (pa_cons (pe_tup (pa_cons (pv 3) (pa_cons (pe_op op_pow pe_int pe_int) pa_nil))) (pa_cons (pe_tup (pa_cons (pe_tup (pa_cons (pv 3) (pa_cons (pv 4) pa_nil))) pa_nil)) pa_nil))))))))
      (pss_one (ps_ret (pe_ix ix_list (pv 5) (pe_call G_Ltake hr (by rfl) T.g_Ltake T.F_Ltake.kp T.b_Ltake .nil pass0 (pa_cons (pv 0) (pa_cons (pe_callB call_len_seq (by rfl) T.m_len PySem.boot_len (pa_cons (pv 5) pa_nil)) pa_nil))) (fun _ _ => rfl)))))))))), ?_⟩
    refine ⟨_, rfl, t, _, rfl, SqT.of ht, rfl, _, _, rfl, _, _, rfl, rfl, ?_⟩
    have sH : Same H H := fun _ _ e => e
    have eH : ∃ H0, H0 = H := ⟨H, rfl⟩
    obtain ⟨H0, e0⟩ := eH
    rw [← e0] at p2 ht
    have sH : Same H H0 := by rw [e0]; exact sH
    rw [← e0]
    have OD : ∀ u ∈ ([] : List V), OddV H0 N u := fun u m => nomatch m
    refine ⟨_, rfl, (by show 2 ≤ sizeLine; decide), fun pa npa => ?_⟩
    have s1 := same_new (o := .tup [V.str "Turn", V.int x]) npa
    have hpa : upd H0 pa (.tup [V.str "Turn", V.int x]) pa = some (.tup [V.str "Turn", V.int x]) := upd_same
    generalize upd H0 pa (.tup [V.str "Turn", V.int x]) = H1 at s1 hpa ⊢
    have sB := s1
    have p2 := p2.same sB
    have sH := sH.trans sB
    have OD := od_step OD sB (.wrd hpa nT)
    refine ⟨_, rfl, (by show 2 ≤ sizeLine; decide), fun pb1 npb1 => ?_⟩
    have s2 := same_new (o := .tup [V.str "lift", V.int x]) npb1
    have hpb1 : upd H1 pb1 (.tup [V.str "lift", V.int x]) pb1 = some (.tup [V.str "lift", V.int x]) := upd_same
    generalize upd H1 pb1 (.tup [V.str "lift", V.int x]) = H2 at s2 hpb1 ⊢
    have sB := s2
    have p2 := p2.same sB
    have sH := sH.trans sB
    have OD := od_step OD sB (.wrd hpb1 nL)
    refine ⟨_, rfl, _, rfl, (by show 2 ≤ sizeLine; decide), fun pc npc => ?_⟩
    have s3 := same_new (o := .tup [V.str v, V.int m]) npc
    have hpc : upd H2 pc (.tup [V.str v, V.int m]) pc = some (.tup [V.str v, V.int m]) := upd_same
    generalize upd H2 pc (.tup [V.str v, V.int m]) = H3 at s3 hpc ⊢
    have sB := s3
    have p2 := p2.same sB
    have sH := sH.trans sB
    have OD := od_step OD sB (.non hpc wd nm)
    refine ⟨_, rfl, 1, rfl, (by show 2 ≤ sizeLine; decide), fun pe npe => ?_⟩
    have s4 := same_new (o := .tup [V.str v, V.int (-1)]) npe
    have hpe : upd H3 pe (.tup [V.str v, V.int (-1)]) pe = some (.tup [V.str v, V.int (-1)]) := upd_same
    generalize upd H3 pe (.tup [V.str v, V.int (-1)]) = H4 at s4 hpe ⊢
    have sB := s4
    have p2 := p2.same sB
    have sH := sH.trans sB
    have OD := od_step OD sB (.non hpe wd n1)
    refine ⟨_, rfl, (by show 2 ≤ sizeLine; decide), fun pf npf => ?_⟩
    have s5 := same_new (o := .tup [V.str v, V.bl true]) npf
    have hpf : upd H4 pf (.tup [V.str v, V.bl true]) pf = some (.tup [V.str v, V.bl true]) := upd_same
    generalize upd H4 pf (.tup [V.str v, V.bl true]) = H5 at s5 hpf ⊢
    have sB := s5
    have p2 := p2.same sB
    have sH := sH.trans sB
    have OD := od_step OD sB (.nam hpf wd (.bl true) rfl (.inr ⟨(.bl true), rfl⟩))
    refine ⟨_, rfl, (by show 2 ≤ sizeLine; decide), fun pg npg => ?_⟩
    have s6 := same_new (o := .tup [V.str v, V.non]) npg
    have hpg : upd H5 pg (.tup [V.str v, V.non]) pg = some (.tup [V.str v, V.non]) := upd_same
    generalize upd H5 pg (.tup [V.str v, V.non]) = H6 at s6 hpg ⊢
    have sB := s6
    have p2 := p2.same sB
    have sH := sH.trans sB
    have OD := od_step OD sB (.nam hpg wd .non rfl (.inr ⟨.non, rfl⟩))
    refine ⟨_, rfl, (by show 2 ≤ sizeLine; decide), fun pi npi => ?_⟩
    have s7 := same_new (o := .tup [V.str v, V.str "0"]) npi
    have hpi : upd H6 pi (.tup [V.str v, V.str "0"]) pi = some (.tup [V.str v, V.str "0"]) := upd_same
    generalize upd H6 pi (.tup [V.str v, V.str "0"]) = H7 at s7 hpi ⊢
    have sB := s7
    have p2 := p2.same sB
    have sH := sH.trans sB
    have OD := od_step OD sB (.nam hpi wd (.str "0") rfl (.inr ⟨(.str "0"), rfl⟩))
    refine ⟨(by show 7 ≤ sizeLine; decide), fun l0 nl0 => ?_⟩
    have s8 := same_new (o := .lst [V.ref pa, V.ref pb1, V.ref pc, V.ref pe, V.ref pf, V.ref pg, V.ref pi]) nl0
    have hl0 : upd H7 l0 (.lst [V.ref pa, V.ref pb1, V.ref pc, V.ref pe, V.ref pf, V.ref pg, V.ref pi]) l0 = some (.lst [V.ref pa, V.ref pb1, V.ref pc, V.ref pe, V.ref pf, V.ref pg, V.ref pi]) := upd_same
    generalize upd H7 l0 (.lst [V.ref pa, V.ref pb1, V.ref pc, V.ref pe, V.ref pf, V.ref pg, V.ref pi]) = H8 at s8 hl0 ⊢
    have OD := od_same OD s8
    have p2 := p2.same s8
    have sH := sH.trans s8
    have hl := hl0
    have OA : ∀ u ∈ ([V.ref pa, V.ref pb1, V.ref pc, V.ref pe, V.ref pf, V.ref pg, V.ref pi] : List V), OddV H8 N u := OD
    clear OD
    have OD : ∀ u ∈ ([] : List V), OddV H8 N u := fun u m => nomatch m
    refine ⟨_, rfl, _, rfl, _, rfl, (by show 1 ≤ sizeLine; decide), fun pij npij => ?_⟩
    have s9 := same_new (o := .tup [V.int x]) npij
    have hpij : upd H8 pij (.tup [V.int x]) pij = some (.tup [V.int x]) := upd_same
    generalize upd H8 pij (.tup [V.int x]) = H9 at s9 hpij ⊢
    refine ⟨(by show 2 ≤ sizeLine; decide), fun pj npj => ?_⟩
    have s10 := same_new (o := .tup [V.str v, V.ref pij]) npj
    have hpj : upd H9 pj (.tup [V.str v, V.ref pij]) pj = some (.tup [V.str v, V.ref pij]) := upd_same
    generalize upd H9 pj (.tup [V.str v, V.ref pij]) = H10 at s10 hpj ⊢
    have hi := s10 _ _ hpij
    have sB := (s9).trans s10
    have p2 := p2.same sB
    have sH := sH.trans sB
    have OD := od_step OD sB (.nam hpj wd (.tup hi) rfl (.inl ⟨_, _, rfl, (by show 1 ≤ 1000; decide), hi, (fun u m => by rw [List.mem_singleton.mp m]; exact .int x), (fun z r e => nomatch e), rfl⟩))
    have hl := sB _ _ hl
    have OA := od_same OA sB
    refine ⟨(by show 1 ≤ sizeLine; decide), fun l1 nl1 => ?_⟩
    have s11 := same_new (o := .lst [V.ref pj]) nl1
    have hl1 : upd H10 l1 (.lst [V.ref pj]) l1 = some (.lst [V.ref pj]) := upd_same
    generalize upd H10 l1 (.lst [V.ref pj]) = H11 at s11 hl1 ⊢
    have OD := od_same OD s11
    have p2 := p2.same s11
    have sH := sH.trans s11
    have hl := s11 _ _ hl
    have OA := od_same OA s11
    have OD : ∀ u ∈ ([V.ref pj] : List V), OddV H11 N u := OD
    have OA := od_cat OA OD
    clear OD
    refine ⟨l0, l1, _, _, rfl, rfl, hl, hl1, (by show 7 + 1 ≤ sizeLine; decide), fun c1 nc1 => ?_⟩
    have s12 := same_new (o := .lst ([V.ref pa, V.ref pb1, V.ref pc, V.ref pe, V.ref pf, V.ref pg, V.ref pi] ++ [V.ref pj])) nc1
    have hl : upd H11 c1 (.lst ([V.ref pa, V.ref pb1, V.ref pc, V.ref pe, V.ref pf, V.ref pg, V.ref pi] ++ [V.ref pj])) c1 = some (.lst ([V.ref pa, V.ref pb1, V.ref pc, V.ref pe, V.ref pf, V.ref pg, V.ref pi] ++ [V.ref pj])) := upd_same
    generalize upd H11 c1 (.lst ([V.ref pa, V.ref pb1, V.ref pc, V.ref pe, V.ref pf, V.ref pg, V.ref pi] ++ [V.ref pj])) = H12 at s12 hl ⊢
    have OA := od_same OA s12
    have p2 := p2.same s12
    have sH := sH.trans s12
    have OD : ∀ u ∈ ([] : List V), OddV H12 N u := fun u m => nomatch m
    refine ⟨_, rfl, _, rfl, _, rfl, _, rfl, (by show 3 ≤ sizeLine; decide), fun pk npk => ?_⟩
    have s13 := same_new (o := .tup [V.str v, V.int x, V.int x]) npk
    have hpk : upd H12 pk (.tup [V.str v, V.int x, V.int x]) pk = some (.tup [V.str v, V.int x, V.int x]) := upd_same
    generalize upd H12 pk (.tup [V.str v, V.int x, V.int x]) = H13 at s13 hpk ⊢
    have sB := s13
    have p2 := p2.same sB
    have sH := sH.trans sB
    have OD := od_step OD sB (.len hpk (by show ¬ 3 = 2; decide))
    have hl := sB _ _ hl
    have OA := od_same OA sB
    refine ⟨_, rfl, (by show 1 ≤ sizeLine; decide), fun pl npl => ?_⟩
    have s14 := same_new (o := .tup [V.str v]) npl
    have hpl : upd H13 pl (.tup [V.str v]) pl = some (.tup [V.str v]) := upd_same
    generalize upd H13 pl (.tup [V.str v]) = H14 at s14 hpl ⊢
    have sB := s14
    have p2 := p2.same sB
    have sH := sH.trans sB
    have OD := od_step OD sB (.len hpl (by show ¬ 1 = 2; decide))
    have hl := sB _ _ hl
    have OA := od_same OA sB
    refine ⟨_, rfl, _, rfl, (by show 2 ≤ sizeLine; decide), fun po npo => ?_⟩
    have s15 := same_new (o := .lst [V.str v, V.int x]) npo
    have hpo : upd H14 po (.lst [V.str v, V.int x]) po = some (.lst [V.str v, V.int x]) := upd_same
    generalize upd H14 po (.lst [V.str v, V.int x]) = H15 at s15 hpo ⊢
    have sB := s15
    have p2 := p2.same sB
    have sH := sH.trans sB
    have OD := od_step OD sB (.nt (.lst hpo))
    have hl := sB _ _ hl
    have OA := od_same OA sB
    have OD := od_step OD (fun _ _ e => e) (.nt (.str v))
    have OD := od_step OD (fun _ _ e => e) (.nt (.int x))
    have OD := od_step OD (fun _ _ e => e) (.nt .non)
    have OD := od_step OD (fun _ _ e => e) (.nt (.bl true))
    refine ⟨_, rfl, _, rfl, (by show 7 ≤ sizeLine; decide), fun l2 nl2 => ?_⟩
    have s16 := same_new (o := .lst [V.ref pk, V.ref pl, V.ref po, V.str v, V.int x, V.non, V.bl true]) nl2
    have hl2 : upd H15 l2 (.lst [V.ref pk, V.ref pl, V.ref po, V.str v, V.int x, V.non, V.bl true]) l2 = some (.lst [V.ref pk, V.ref pl, V.ref po, V.str v, V.int x, V.non, V.bl true]) := upd_same
    generalize upd H15 l2 (.lst [V.ref pk, V.ref pl, V.ref po, V.str v, V.int x, V.non, V.bl true]) = H16 at s16 hl2 ⊢
    have OD := od_same OD s16
    have p2 := p2.same s16
    have sH := sH.trans s16
    have hl := s16 _ _ hl
    have OA := od_same OA s16
    have OD : ∀ u ∈ ([V.ref pk, V.ref pl, V.ref po, V.str v, V.int x, V.non, V.bl true] : List V), OddV H16 N u := OD
    have OA := od_cat OA OD
    clear OD
    refine ⟨c1, l2, _, _, rfl, rfl, hl, hl2, (by show 8 + 7 ≤ sizeLine; decide), fun c2 nc2 => ?_⟩
    have s17 := same_new (o := .lst (([V.ref pa, V.ref pb1, V.ref pc, V.ref pe, V.ref pf, V.ref pg, V.ref pi] ++ [V.ref pj]) ++ [V.ref pk, V.ref pl, V.ref po, V.str v, V.int x, V.non, V.bl true])) nc2
    have hl : upd H16 c2 (.lst (([V.ref pa, V.ref pb1, V.ref pc, V.ref pe, V.ref pf, V.ref pg, V.ref pi] ++ [V.ref pj]) ++ [V.ref pk, V.ref pl, V.ref po, V.str v, V.int x, V.non, V.bl true])) c2 = some (.lst (([V.ref pa, V.ref pb1, V.ref pc, V.ref pe, V.ref pf, V.ref pg, V.ref pi] ++ [V.ref pj]) ++ [V.ref pk, V.ref pl, V.ref po, V.str v, V.int x, V.non, V.bl true])) := upd_same
    generalize upd H16 c2 (.lst (([V.ref pa, V.ref pb1, V.ref pc, V.ref pe, V.ref pf, V.ref pg, V.ref pi] ++ [V.ref pj]) ++ [V.ref pk, V.ref pl, V.ref po, V.str v, V.int x, V.non, V.bl true])) = H17 at s17 hl ⊢
    have OA := od_same OA s17
    have p2 := p2.same s17
    have sH := sH.trans s17
    have OD : ∀ u ∈ ([] : List V), OddV H17 N u := fun u m => nomatch m
    refine ⟨_, rfl, (by show 0 ≤ sizeLine; decide), fun pq1 npq1 => ?_⟩
    have s18 := same_new (o := .tup []) npq1
    have hpq1 : upd H17 pq1 (.tup []) pq1 = some (.tup []) := upd_same
    generalize upd H17 pq1 (.tup []) = H18 at s18 hpq1 ⊢
    have sB := s18
    have p2 := p2.same sB
    have sH := sH.trans sB
    have OD := od_step OD sB (.len hpq1 (by show ¬ 0 = 2; decide))
    have hl := sB _ _ hl
    have OA := od_same OA sB
    refine ⟨_, rfl, _, rfl, (by show 2 ≤ sizeLine; decide), fun pr npr => ?_⟩
    have s19 := same_new (o := .tup [V.int x, V.str v]) npr
    have hpr : upd H18 pr (.tup [V.int x, V.str v]) pr = some (.tup [V.int x, V.str v]) := upd_same
    generalize upd H18 pr (.tup [V.int x, V.str v]) = H19 at s19 hpr ⊢
    have sB := s19
    have p2 := p2.same sB
    have sH := sH.trans sB
    have OD := od_step OD sB (.fst hpr (.int x) rfl)
    have hl := sB _ _ hl
    have OA := od_same OA sB
    refine ⟨_, rfl, (by show 1 ≤ sizeLine; decide), fun piu npiu => ?_⟩
    have s20 := same_new (o := .lst [V.str v]) npiu
    have hpiu : upd H19 piu (.lst [V.str v]) piu = some (.lst [V.str v]) := upd_same
    generalize upd H19 piu (.lst [V.str v]) = H20 at s20 hpiu ⊢
    refine ⟨_, rfl, (by show 2 ≤ sizeLine; decide), fun pu npu => ?_⟩
    have s21 := same_new (o := .tup [V.ref piu, V.int x]) npu
    have hpu : upd H20 pu (.tup [V.ref piu, V.int x]) pu = some (.tup [V.ref piu, V.int x]) := upd_same
    generalize upd H20 pu (.tup [V.ref piu, V.int x]) = H21 at s21 hpu ⊢
    have hi := s21 _ _ hpiu
    have sB := (s20).trans s21
    have p2 := p2.same sB
    have sH := sH.trans sB
    have OD := od_step OD sB (.fst hpu (.lst hi) rfl)
    have hl := sB _ _ hl
    have OA := od_same OA sB
    refine ⟨_, rfl, _, rfl, (by show 1 ≤ sizeLine; decide), fun piv1 npiv1 => ?_⟩
    have s22 := same_new (o := .lst [V.int x]) npiv1
    have hpiv1 : upd H21 piv1 (.lst [V.int x]) piv1 = some (.lst [V.int x]) := upd_same
    generalize upd H21 piv1 (.lst [V.int x]) = H22 at s22 hpiv1 ⊢
    refine ⟨(by show 2 ≤ sizeLine; decide), fun pv1 npv1 => ?_⟩
    have s23 := same_new (o := .tup [V.str v, V.ref piv1]) npv1
    have hpv1 : upd H22 pv1 (.tup [V.str v, V.ref piv1]) pv1 = some (.tup [V.str v, V.ref piv1]) := upd_same
    generalize upd H22 pv1 (.tup [V.str v, V.ref piv1]) = H23 at s23 hpv1 ⊢
    have hi := s23 _ _ hpiv1
    have sB := (s22).trans s23
    have p2 := p2.same sB
    have sH := sH.trans sB
    have OD := od_step OD sB (.nam hpv1 wd (.lst hi) rfl (.inr ⟨.lst hi, rfl⟩))
    have hl := sB _ _ hl
    have OA := od_same OA sB
    refine ⟨(by show 4 ≤ sizeLine; decide), fun l3 nl3 => ?_⟩
    have s24 := same_new (o := .lst [V.ref pq1, V.ref pr, V.ref pu, V.ref pv1]) nl3
    have hl3 : upd H23 l3 (.lst [V.ref pq1, V.ref pr, V.ref pu, V.ref pv1]) l3 = some (.lst [V.ref pq1, V.ref pr, V.ref pu, V.ref pv1]) := upd_same
    generalize upd H23 l3 (.lst [V.ref pq1, V.ref pr, V.ref pu, V.ref pv1]) = H24 at s24 hl3 ⊢
    have OD := od_same OD s24
    have p2 := p2.same s24
    have sH := sH.trans s24
    have hl := s24 _ _ hl
    have OA := od_same OA s24
    have OD : ∀ u ∈ ([V.ref pq1, V.ref pr, V.ref pu, V.ref pv1] : List V), OddV H24 N u := OD
    have OA := od_cat OA OD
    clear OD
    refine ⟨c2, l3, _, _, rfl, rfl, hl, hl3, (by show 15 + 4 ≤ sizeLine; decide), fun c3 nc3 => ?_⟩
    have s25 := same_new (o := .lst ((([V.ref pa, V.ref pb1, V.ref pc, V.ref pe, V.ref pf, V.ref pg, V.ref pi] ++ [V.ref pj]) ++ [V.ref pk, V.ref pl, V.ref po, V.str v, V.int x, V.non, V.bl true]) ++ [V.ref pq1, V.ref pr, V.ref pu, V.ref pv1])) nc3
    have hl : upd H24 c3 (.lst ((([V.ref pa, V.ref pb1, V.ref pc, V.ref pe, V.ref pf, V.ref pg, V.ref pi] ++ [V.ref pj]) ++ [V.ref pk, V.ref pl, V.ref po, V.str v, V.int x, V.non, V.bl true]) ++ [V.ref pq1, V.ref pr, V.ref pu, V.ref pv1])) c3 = some (.lst ((([V.ref pa, V.ref pb1, V.ref pc, V.ref pe, V.ref pf, V.ref pg, V.ref pi] ++ [V.ref pj]) ++ [V.ref pk, V.ref pl, V.ref po, V.str v, V.int x, V.non, V.bl true]) ++ [V.ref pq1, V.ref pr, V.ref pu, V.ref pv1])) := upd_same
    generalize upd H24 c3 (.lst ((([V.ref pa, V.ref pb1, V.ref pc, V.ref pe, V.ref pf, V.ref pg, V.ref pi] ++ [V.ref pj]) ++ [V.ref pk, V.ref pl, V.ref po, V.str v, V.int x, V.non, V.bl true]) ++ [V.ref pq1, V.ref pr, V.ref pu, V.ref pv1])) = H25 at s25 hl ⊢
    have OA := od_same OA s25
    have p2 := p2.same s25
    have sH := sH.trans s25
    have OD : ∀ u ∈ ([] : List V), OddV H25 N u := fun u m => nomatch m
    refine ⟨_, rfl, _, rfl, (by show 2 ≤ sizeLine; decide), fun py npy => ?_⟩
    have s26 := same_new (o := .tup [V.non, V.int x]) npy
    have hpy : upd H25 py (.tup [V.non, V.int x]) py = some (.tup [V.non, V.int x]) := upd_same
    generalize upd H25 py (.tup [V.non, V.int x]) = H26 at s26 hpy ⊢
    have sB := s26
    have p2 := p2.same sB
    have sH := sH.trans sB
    have OD := od_step OD sB (.fst hpy .non rfl)
    have hl := sB _ _ hl
    have OA := od_same OA sB
    refine ⟨_, rfl, fun piz npiz => ?_⟩
    have s27 := same_new (o := .dK []) npiz
    have hpiz : upd H26 piz (.dK []) piz = some (.dK []) := upd_same
    generalize upd H26 piz (.dK []) = H27 at s27 hpiz ⊢
    refine ⟨(by show 2 ≤ sizeLine; decide), fun pz npz => ?_⟩
    have s28 := same_new (o := .tup [V.str v, V.ref piz]) npz
    have hpz : upd H27 pz (.tup [V.str v, V.ref piz]) pz = some (.tup [V.str v, V.ref piz]) := upd_same
    generalize upd H27 pz (.tup [V.str v, V.ref piz]) = H28 at s28 hpz ⊢
    have hi := s28 _ _ hpiz
    have sB := (s27).trans s28
    have p2 := p2.same sB
    have sH := sH.trans sB
    have OD := od_step OD sB (.nam hpz wd (.dK hi) rfl (.inr ⟨.dK hi, rfl⟩))
    have hl := sB _ _ hl
    have OA := od_same OA sB
    refine fun pD npD => ?_
    have s29 := same_new (o := .dK []) npD
    have hpD : upd H28 pD (.dK []) pD = some (.dK []) := upd_same
    generalize upd H28 pD (.dK []) = H29 at s29 hpD ⊢
    have sB := s29
    have p2 := p2.same sB
    have sH := sH.trans sB
    have OD := od_step OD sB (.nt (.dK hpD))
    have hl := sB _ _ hl
    have OA := od_same OA sB
    refine ⟨_, rfl, _, _, rfl, rfl, ⟨by decide, by decide, by decide⟩, (by show 2 ≤ sizeLine; decide), fun paa npaa => ?_⟩
    have s30 := same_new (o := .tup [V.str v, V.int (10 ^ (29 : Int).toNat)]) npaa
    have hpaa : upd H29 paa (.tup [V.str v, V.int (10 ^ (29 : Int).toNat)]) paa = some (.tup [V.str v, V.int (10 ^ (29 : Int).toNat)]) := upd_same
    generalize upd H29 paa (.tup [V.str v, V.int (10 ^ (29 : Int).toNat)]) = H30 at s30 hpaa ⊢
    have sB := s30
    have p2 := p2.same sB
    have sH := sH.trans sB
    have OD := od_step OD sB (.non hpaa wd n29)
    have hl := sB _ _ hl
    have OA := od_same OA sB
    refine ⟨_, rfl, _, rfl, (by show 2 ≤ sizeLine; decide), fun piab npiab => ?_⟩
    have s31 := same_new (o := .tup [V.str v, V.int x]) npiab
    have hpiab : upd H30 piab (.tup [V.str v, V.int x]) piab = some (.tup [V.str v, V.int x]) := upd_same
    generalize upd H30 piab (.tup [V.str v, V.int x]) = H31 at s31 hpiab ⊢
    refine ⟨(by show 1 ≤ sizeLine; decide), fun pab npab => ?_⟩
    have s32 := same_new (o := .tup [V.ref piab]) npab
    have hpab : upd H31 pab (.tup [V.ref piab]) pab = some (.tup [V.ref piab]) := upd_same
    generalize upd H31 pab (.tup [V.ref piab]) = H32 at s32 hpab ⊢
    have sB := (s31).trans s32
    have p2 := p2.same sB
    have sH := sH.trans sB
    have OD := od_step OD sB (.len hpab (by show ¬ 1 = 2; decide))
    have hl := sB _ _ hl
    have OA := od_same OA sB
    refine ⟨(by show 5 ≤ sizeLine; decide), fun l4 nl4 => ?_⟩
    have s33 := same_new (o := .lst [V.ref py, V.ref pz, V.ref pD, V.ref paa, V.ref pab]) nl4
    have hl4 : upd H32 l4 (.lst [V.ref py, V.ref pz, V.ref pD, V.ref paa, V.ref pab]) l4 = some (.lst [V.ref py, V.ref pz, V.ref pD, V.ref paa, V.ref pab]) := upd_same
    generalize upd H32 l4 (.lst [V.ref py, V.ref pz, V.ref pD, V.ref paa, V.ref pab]) = H33 at s33 hl4 ⊢
    have OD := od_same OD s33
    have p2 := p2.same s33
    have sH := sH.trans s33
    have hl := s33 _ _ hl
    have OA := od_same OA s33
    have OD : ∀ u ∈ ([V.ref py, V.ref pz, V.ref pD, V.ref paa, V.ref pab] : List V), OddV H33 N u := OD
    have OA := od_cat OA OD
    clear OD
    refine ⟨c3, l4, _, _, rfl, rfl, hl, hl4, (by show 19 + 5 ≤ sizeLine; decide), fun c4 nc4 => ?_⟩
    have s34 := same_new (o := .lst (((([V.ref pa, V.ref pb1, V.ref pc, V.ref pe, V.ref pf, V.ref pg, V.ref pi] ++ [V.ref pj]) ++ [V.ref pk, V.ref pl, V.ref po, V.str v, V.int x, V.non, V.bl true]) ++ [V.ref pq1, V.ref pr, V.ref pu, V.ref pv1]) ++ [V.ref py, V.ref pz, V.ref pD, V.ref paa, V.ref pab])) nc4
    have hl : upd H33 c4 (.lst (((([V.ref pa, V.ref pb1, V.ref pc, V.ref pe, V.ref pf, V.ref pg, V.ref pi] ++ [V.ref pj]) ++ [V.ref pk, V.ref pl, V.ref po, V.str v, V.int x, V.non, V.bl true]) ++ [V.ref pq1, V.ref pr, V.ref pu, V.ref pv1]) ++ [V.ref py, V.ref pz, V.ref pD, V.ref paa, V.ref pab])) c4 = some (.lst (((([V.ref pa, V.ref pb1, V.ref pc, V.ref pe, V.ref pf, V.ref pg, V.ref pi] ++ [V.ref pj]) ++ [V.ref pk, V.ref pl, V.ref po, V.str v, V.int x, V.non, V.bl true]) ++ [V.ref pq1, V.ref pr, V.ref pu, V.ref pv1]) ++ [V.ref py, V.ref pz, V.ref pD, V.ref paa, V.ref pab])) := upd_same
    generalize upd H33 c4 (.lst (((([V.ref pa, V.ref pb1, V.ref pc, V.ref pe, V.ref pf, V.ref pg, V.ref pi] ++ [V.ref pj]) ++ [V.ref pk, V.ref pl, V.ref po, V.str v, V.int x, V.non, V.bl true]) ++ [V.ref pq1, V.ref pr, V.ref pu, V.ref pv1]) ++ [V.ref py, V.ref pz, V.ref pD, V.ref paa, V.ref pab])) = H34 at s34 hl ⊢
    have OA := od_same OA s34
    have p2 := p2.same s34
    have sH := sH.trans s34
    refine ⟨_, rfl, _, rfl, _, rfl, c4, _, rfl, .inl (SqL.of hl), b, _, rfl, p2, (by show (0 : Int) < 24; decide), (by show (24 : Int) < 2 ^ 60; decide), fun k HE k0 k1 pE kE => ?_⟩
    obtain ⟨u, mu, hu⟩ := at_anyV (vs := (((([V.ref pa, V.ref pb1, V.ref pc, V.ref pe, V.ref pf, V.ref pg, V.ref pi] ++ [V.ref pj]) ++ [V.ref pk, V.ref pl, V.ref po, V.str v, V.int x, V.non, V.bl true]) ++ [V.ref pq1, V.ref pr, V.ref pu, V.ref pv1]) ++ [V.ref py, V.ref pz, V.ref pD, V.ref paa, V.ref pab])) k0 k1
    have hlE := kE _ _ hl (p2.nel hl (by show ¬ 24 = 2; decide))
    refine ⟨c4, _, _, u, rfl, rfl, SqL.of hlE, hu, ?_⟩
    exact q u _ HE pE sH (OA u mu) p2 kE
end

end My
namespace My
open PySem L2
theorem shp_reflR {d : PyData} (h : SeqAt.shaped d = true) : (!PyData.eqv d d) = false := by
  have h : (PyData.canLay0 d && decide (PyData.depth d ≤ 64)) = true := h
  rw [Bool.and_eq_true] at h
  rw [SeqAt.eqv_refl d h.1]
  rfl
theorem onD_lay (y : Option Int) : PyData.canLay0 (onD y) = true ∧ PyData.depth (onD y) ≤ 0 := by cases y <;> exact ⟨rfl, Nat.le_refl _⟩
theorem row_lay (r : LRow) : PyData.canLay0 r.dat = true ∧ PyData.depth r.dat ≤ 1 := by
  obtain ⟨x, l, rr, a, t⟩ := r
  cases l <;> cases rr <;> cases a <;> exact ⟨rfl, Nat.le_of_eq rfl⟩
theorem rows_lay : ∀ rs : List LRow, PyData.canLayAll0 (rs.map LRow.dat) = true ∧ PyData.depthAll (rs.map LRow.dat) ≤ 1
  | [] => ⟨rfl, Nat.zero_le _⟩
  | r :: rs => by
    obtain ⟨h1, h2⟩ := row_lay r
    obtain ⟨k1, k2⟩ := rows_lay rs
    refine ⟨?_, Nat.max_le.mpr ⟨h2, k2⟩⟩
    show (PyData.canLay0 r.dat && PyData.canLayAll0 (rs.map LRow.dat)) = true
    rw [h1, k1]
    rfl
theorem shp_rows (rs : List LRow) : SeqAt.shaped (.tuple (rs.map LRow.dat)) = true := by
  have h := rows_lay rs
  unfold SeqAt.shaped
  rw [show PyData.canLay0 (.tuple (rs.map LRow.dat)) = true from h.1, decide_eq_true (show PyData.depth (.tuple (rs.map LRow.dat)) ≤ 64 by show PyData.depthAll _ + 1 ≤ 64; omega)]
  rfl
theorem shp_intsT (l : List Int) : SeqAt.shaped (.tuple (l.map .int)) = true := by
  have h := lay_ints l
  unfold SeqAt.shaped
  rw [show PyData.canLay0 (.tuple (l.map .int)) = true from h.1, decide_eq_true (show PyData.depth (.tuple (l.map .int)) ≤ 64 by show PyData.depthAll _ + 1 ≤ 64; omega)]
  rfl

/-! ### the law k40 -/
theorem P2.tup {H H' : Hp} {b : Addr} (p : P2 H b) (k : But b H H') : ∀ q xs, H q = some (.tup xs) → H' q = some (.tup xs) := fun q xs e => by
  obtain ⟨x, y, hb⟩ := p
  exact k _ _ e (ne_of e hb (by intro z; cases z))
theorem AnyV.bt {H H' : Hp} {b : Addr} {v : V} (a : AnyV H v) (p : P2 H b) (p' : P2 H' b) (k : But b H H') : AnyV H' v := by
  obtain ⟨x, y, hb⟩ := p
  obtain ⟨x', y', hb'⟩ := p'
  cases a with
  | non => exact .non
  | bl c => exact .bl c
  | int c => exact .int c
  | str c => exact .str c
  | tup h => exact .tup (k _ _ h (ne_of h hb (by intro z; cases z)))
  | @lst a xs h =>
    by_cases e : a = b
    · subst e
      exact .lst hb'
    · exact .lst (k _ _ h e)
  | dK h => exact .dK (k _ _ h (ne_of h hb (by intro z; cases z)))
theorem NoTup.bt {H H' : Hp} {b : Addr} {v : V} (a : NoTup H v) (p : P2 H b) (p' : P2 H' b) (k : But b H H') : NoTup H' v := by
  obtain ⟨x, y, hb⟩ := p
  obtain ⟨x', y', hb'⟩ := p'
  cases a with
  | non => exact .non
  | bl c => exact .bl c
  | int c => exact .int c
  | str c => exact .str c
  | @lst a xs h =>
    by_cases e : a = b
    · subst e
      exact .lst hb'
    · exact .lst (k _ _ h e)
  | dK h => exact .dK (k _ _ h (ne_of h hb (by intro z; cases z)))
theorem OddV.bt {H H' : Hp} {b : Addr} {N : List Int} {v : V} (h : OddV H N v) (p : P2 H b) (p' : P2 H' b) (k : But b H H') : OddV H' N v := by
  have tp := p.tup k
  cases h with
  | nt h => exact .nt (h.bt p p' k)
  | len h l => exact .len (tp _ _ h) l
  | fst h a e => exact .fst (tp _ _ h) (a.bt p p' k) e
  | wrd h n => exact .wrd (tp _ _ h) n
  | nam h w a e m =>
    refine .nam (tp _ _ h) w (a.bt p p' k) e ?_
    rcases m with ⟨a, xs, e1, e2, e3, e4, e5, e6⟩ | ⟨nt, e⟩
    · exact .inl ⟨a, xs, e1, e2, tp _ _ e3, fun x m => (e4 x m).bt p p' k, e5, e6⟩
    · exact .inr ⟨nt.bt p p' k, e⟩
  | non h w n => exact .non (tp _ _ h) w n
theorem P2.kp {H H' : Hp} {b : Addr} (p : P2 H b) (k : Kp H H') : P2 H' b := by
  obtain ⟨x, y, e⟩ := p
  exact ⟨x, y, k.lst e⟩
theorem TreeAt.kp {H H' : Hp} {d : Addr} {ls : Int → Addr} {S : Lk Int} (A : TreeAt H d ls S) (k : Kp H H') : TreeAt H' d ls S := ⟨k.dK A.hd, fun x m => k.lst (A.at' x m), A.inj⟩
theorem cutV_whole {xs : List V} {lo hi : Option Int} (h : HT.sIx xs.length 0 lo = 0 ∧ HT.sIx xs.length xs.length hi = xs.length) : cutV xs lo hi = xs := by
  unfold cutV
  rw [h.1, h.2, List.drop_zero, Nat.sub_zero, List.take_length]
theorem slA {K : PySem.W.Frag} {x : V} {lo hi : Option Int} {H : Hp} {Q : VK} {t : Addr} {xs : List V} (ex : x = .ref t) (h : H t = some (.tup xs)) (k : ∀ (p : Addr) (H' : Hp), Same H H' → H' p = some (.tup (cutV xs lo hi)) → Q (.ref p) H') : rSlA K x lo hi H Q :=
  ⟨t, xs, ex, SqT.of h, fun wh => k t H (fun _ _ e => e) (by rw [cutV_whole wh]; exact h), fun _ p np => k p _ (same_new np) upd_same⟩
theorem catA {K : PySem.W.Frag} {x y : V} {H : Hp} {Q : VK} {a b : Addr} {xs ys : List V} (ex : x = .ref a) (ey : y = .ref b) (h1 : H a = some (.tup xs)) (h2 : H b = some (.tup ys)) (l : xs.length + ys.length ≤ sizeLine) (k : ∀ (p : Addr) (H' : Hp), Same H H' → H' p = some (.tup (xs ++ ys)) → Q (.ref p) H') : rCatA K x y H Q :=
  ⟨a, b, xs, ys, ex, ey, SqT.of h1, SqT.of h2, l, fun e => k b H (fun _ _ e => e) (by rw [e]; exact h2), fun _ e => k a H (fun _ _ e => e) (by rw [e, List.append_nil]; exact h1), fun _ _ p np => k p _ (same_new np) upd_same⟩
theorem cut_from (ys : List V) (k : Nat) : cutV ys (some ((k : Int) + 1)) none = ys.drop (k + 1) := by
  unfold cutV
  rw [show ((k : Int) + 1) = ((k + 1 : Nat) : Int) by omega, HT.sIx_nat, HT.sIx_none]
  by_cases h : k + 1 ≤ ys.length
  · rw [Nat.min_eq_left h, List.take_of_length_le]
    rw [List.length_drop]
    omega
  · rw [Nat.min_eq_right (by omega), List.drop_eq_nil_of_le (Nat.le_refl _), List.drop_eq_nil_of_le (by omega)]
    exact List.take_nil
theorem cut_any (ns : List Int) (lo hi : Option Int) : ∃ ms : List Int, cutV (ns.map V.int) lo hi = ms.map V.int ∧ ms.length ≤ ns.length := by
  refine ⟨(ns.drop (HT.sIx ns.length 0 lo)).take (HT.sIx ns.length ns.length hi - HT.sIx ns.length 0 lo), ?_, ?_⟩
  · unfold cutV
    rw [List.length_map, List.map_take, List.map_drop]
  · rw [List.length_take, List.length_drop]
    omega
theorem Wf.ns {S : Lk Int} (h : Wf S) {ms : List Int} (pm : ms.Perm S.ns) : Wf { S with ns := ms } := by
  have mi : ∀ {x}, x ∈ ms → x ∈ S.ns := fun m => pm.mem_iff.mp m
  obtain ⟨d, hd⟩ := h.rk
  exact ⟨fun x m => ⟨fun y e => pm.mem_iff.mpr ((h.cl x (mi m)).1 y e), fun y e => pm.mem_iff.mpr ((h.cl x (mi m)).2.1 y e), fun y e => pm.mem_iff.mpr ((h.cl x (mi m)).2.2 y e)⟩, fun x m => h.dl x (mi m), fun x m => h.dr x (mi m), fun x m => h.lr x (mi m), d, fun x m => hd x (mi m)⟩
theorem rowsL_F {S : Lk Int} (h : S.t = fun _ => false) (ns ms : List Int) : ms.map (rowL { S with ns := ns }) = ms.map (rowF S) := by
  refine List.map_congr_left fun x _ => ?_
  unfold rowL rowF
  dsimp only
  rw [h]
theorem ShapeAt.mono {H H' : Hp} {t : Addr} {S : Lk Int} {ms : List Int} (h : ShapeAt H t S ms) (k : ∀ p xs, H p = some (.tup xs) → H' p = some (.tup xs)) : ShapeAt H' t S ms := by
  obtain ⟨xs, h1, h2⟩ := h
  exact ⟨xs, k _ _ h1, h2.mono k⟩
theorem TreeAt.tup {H H' : Hp} {d : Addr} {ls : Int → Addr} {S : Lk Int} (A : TreeAt H d ls S) (k : ButT ls S.ns H H') : ∀ q xs, H q = some (.tup xs) → H' q = some (.tup xs) := fun q xs e => k _ _ e fun x m => ne_of e (A.at' x m) (by intro z; cases z)
theorem StAll.take {H : Hp} {vs : List V} {ss : List (Str × Int)} (h : StAll H vs ss) : ∀ k : Nat, StAll H (vs.take k) (ss.take k) := by
  induction h with
  | nil => intro k; rw [List.take_nil, List.take_nil]; exact .nil
  | cons e _ ih =>
    intro k
    cases k with
    | zero => exact .nil
    | succ k => exact .cons e (ih k)
section
variable {K : PySem.W.Frag} {mg : Str → Option Value} {H H' : Hp}
theorem tb_none (T : Top K mg) (h : Tb T.tbs H) (g : ∀ P, GxR.TabG H P → GxR.TabG H' P) : Tb T.tbs H' := .mk (fun P m => g P (h.g m)) (fun P q m => by simp [Top.tbs] at m)
theorem tb_but (T : Top K mg) {b : Addr} (h : Tb T.tbs H) (p : P2 H b) (k : But b H H') : Tb T.tbs H' := by
  obtain ⟨x, y, hb⟩ := p
  refine tb_none T h fun P g => ?_
  obtain ⟨ps, e, t⟩ := g
  exact ⟨ps, k _ _ e (ne_of e hb (by intro z; cases z)), t⟩
theorem tb_butT (T : Top K mg) {d : Addr} {ls : Int → Addr} {S : Lk Int} (h : Tb T.tbs H) (A : TreeAt H d ls S) (k : ButT ls S.ns H H') : Tb T.tbs H' := by
  refine tb_none T h fun P g => ?_
  obtain ⟨ps, e, t⟩ := g
  exact ⟨ps, k _ _ e fun x m => ne_of e (A.at' x m) (by intro z; cases z), t⟩
theorem tb_lst (T : Top K mg) {c : Addr} {zs : List V} {o : HO} (h : Tb T.tbs H) (hc : H c = some (.lst zs)) : Tb T.tbs (upd H c o) := by
  refine tb_none T h fun P g => ?_
  obtain ⟨ps, e, t⟩ := g
  refine ⟨ps, ?_, t⟩
  rw [upd_ne (fun z => by rw [z, hc] at e; cases e)]
  exact e
end
/-- what holds behind so many steps -/
structure St40 {K : PySem.W.Frag} {mg : Str → Option Value} (T : Top K mg) (G : Hp) (b d t1 ts D pn : Addr) (ls : Int → Addr) (S0 S : Lk Int) (N ms cs : List Int) (xs : List V) (ss : List (Str × Int)) : Prop where
  p2 : P2 G b
  tr : TreeAt G d ls S
  wf : Wf S
  ns : S.ns = N
  tf : S.t = fun _ => false
  sh : ShapeAt G t1 S0 ms
  hn : G pn = some (.lst (ms.map V.int))
  hs : G ts = some (.tup xs)
  sa : StAll G xs ss
  gd : ∀ s ∈ ss, Wd s.1 ∧ s.2 ∈ ms
  run : runS S0 ss = some { S with ns := ms }
  hD : G D = some (.lst (cs.map V.int))
  tb : Tb T.tbs G
section
variable {K : PySem.W.Frag} {mg : Str → Option Value} {T : Top K mg} {G G' : Hp} {b d t1 ts D pn : Addr} {ls : Int → Addr} {S0 S : Lk Int} {N ms cs : List Int} {xs : List V} {ss : List (Str × Int)}
theorem St40.kp (I : St40 T G b d t1 ts D pn ls S0 S N ms cs xs ss) (k : Kp G G') (tb : Tb T.tbs G') : St40 T G' b d t1 ts D pn ls S0 S N ms cs xs ss :=
  ⟨I.p2.kp k, I.tr.kp k, I.wf, I.ns, I.tf, I.sh.kp k, k.lst I.hn, k.tup I.hs, I.sa.kp k, I.gd, I.run, k.lst I.hD, tb⟩
theorem St40.same (I : St40 T G b d t1 ts D pn ls S0 S N ms cs xs ss) (s : Same G G') : St40 T G' b d t1 ts D pn ls S0 S N ms cs xs ss := I.kp (Kp.of_same s) (I.tb.same s)
theorem St40.but (I : St40 T G b d t1 ts D pn ls S0 S N ms cs xs ss) (p' : P2 G' b) (k : But b G G') (Db : D ≠ b) (nb : pn ≠ b) : St40 T G' b d t1 ts D pn ls S0 S N ms cs xs ss :=
  ⟨p', I.tr.but I.p2 k, I.wf, I.ns, I.tf, I.sh.mono (I.p2.tup k), k _ _ I.hn nb, I.p2.tup k _ _ I.hs, I.sa.mono (I.p2.tup k), I.gd, I.run, k _ _ I.hD Db, tb_but T I.tb I.p2 k⟩
end

section
variable {K : PySem.W.Frag} {mg : Str → Option Value} {T : Top K mg} {G G' : Hp} {b d t1 ts D pn : Addr} {ls : Int → Addr} {S0 S : Lk Int} {N ms cs : List Int} {xs : List V} {ss : List (Str × Int)}
theorem St40.lst (I : St40 T G b d t1 ts D pn ls S0 S N ms cs xs ss) {c : Addr} {zs : List V} {o : HO} (hc : G c = some (.lst zs)) (n1 : c ≠ b) (n2 : c ≠ pn) (n3 : c ≠ D) (n4 : ∀ x ∈ N, c ≠ ls x) : St40 T (upd G c o) b d t1 ts D pn ls S0 S N ms cs xs ss := by
  have tp : ∀ q xs, G q = some (.tup xs) → upd G c o q = some (.tup xs) := fun q xs e => by
    rw [upd_ne (ne_of e hc (by intro z; cases z))]
    exact e
  refine ⟨I.p2.put n1, I.tr.keep fun a u e h => ?_, I.wf, I.ns, I.tf, I.sh.mono tp, by rw [upd_ne (Ne.symm n2)]; exact I.hn, tp _ _ I.hs, I.sa.mono tp, I.gd, I.run, by rw [upd_ne (Ne.symm n3)]; exact I.hD, tb_lst T I.tb hc⟩
  rw [upd_ne fun z => ?_]
  · exact e
  · rcases h with h | ⟨x, m, h⟩
    · rw [← z, h, I.tr.hd] at hc
      exact nomatch hc
    · exact n4 x (I.ns ▸ m) (z.symm.trans h)
theorem first_can (S : Lk Int) (x : Int) : ∃ w0 : Str, atI [V.str "turn", V.str "let"] (if S.isTop x = true then 1 else 0) = some (.str w0) ∧ Wd w0 ∧ canS S w0 x = true := by
  cases e : S.isTop x with
  | true =>
    refine ⟨"let", rfl, .inr (.inl rfl), ?_⟩
    unfold canS
    rw [if_neg (by decide +kernel), if_pos rfl]
    exact e
  | false =>
    refine ⟨"turn", rfl, .inl rfl, ?_⟩
    unfold canS
    rw [if_pos rfl, e]
    rfl
end
section
variable {P : Program} {w : World} {K : PySem.W.Frag} {mg : Str → Option Value} {base : Heap}
theorem run_law (T : Top K mg) {s : Shared} {H : Hp} {a : Addr} {ns : List Int} (TM : GxR.TabB base mg T.cM T.PM) (e0 : Env0 P w K mg base callerA [] s H) (hM : H T.PM = some (.tbl #[])) (hS : SqL K H a (ns.map V.int)) (hlen : ns.length ≤ 63) (room : Room 32 callerA) (bind : ∀ (s : Shared) (u : Value), BindsTo s T.d_law ⟨[u], []⟩ [("_law_script", u)]) :
    codeAny (model P w) callerA (.call (.ref T.a_law) ⟨[.ref a], []⟩) (CR CX0 [] P w H s (fun v _ => v = .bl true) E0) s := by
  have tb0 : Tb T.tbs H := tbs0 T hM
  have G_Lseed : FnOk P w K mg base CX0 1 _ _ _ _ := ok_seed T
  have G_Lpot : FnOk P w K mg base CX0 1 _ _ _ _ := ok_pot2 T
  have G_Lforms : FnOk P w K mg base CX0 31 _ _ _ _ := ok_forms T
  have G_Lrows : FnOk P w K mg base CX0 1 _ _ _ _ := ok_lrows T
  have G_Ltop : FnOk P w K mg base CX0 1 _ _ _ _ := ok_ontop T
  have G_Ltake : FnOk P w K mg base CX0 1 _ _ _ _ := ok_take2 T
  have G_Lodd : FnOk P w K mg base CX0 2 _ _ _ _ := ok_odd T
  have G_Lcan : FnOk P w K mg base CX0 2 _ _ _ _ := ok_can T
  have G_Ldone : FnOk P w K mg base CX0 2 _ _ _ _ := ok_done T
  have G_stepped : FnOk P w K mg base CX0 6 _ _ _ _ := ok_stepped T TM
  obtain ⟨oc, od, kV', doc, pm, an, cdv, ct, osl, ed, lk, hcd⟩ := T.F_law.ex
  rw [ed] at lk
  refine LamX.run_ofS (k := 31) (N := ["_law_script", "_law_seed_here", "_law_cells", "_law_k", "_law_cell", "_law_pot_here", "_law_forms_here", "_law_shape", "_law_names", "_law_steps", "_law_turn", "_law_some", "_law_name", "_law_step", "_law_at", "_law_odd_here", "_law_thing"]) (ps := ["_law_script"]) (us := [.ref a]) (vs := [.ref a]) lk hcd sc_law room e0 (by rw [← ed]; exact bind s _) (.cons rfl .nil) rfl fun hr => ?_
  refine ⟨_, PSs.nox (pss_cons (ps_set (i := 1) sc_law.nd rfl (.inl rfl) (pe_call G_Lseed (hr.mono (by decide)) (by rfl) T.g_Lseed T.F_Lseed.kp T.b_Lseed .nil pass0 (pa_cons (pv 0) pa_nil)))
      (pss_cons (ps_set (i := 2) sc_law.nd rfl (.inl rfl) (pe_slice sl_list (pe_op op_catL (pv 0) (pe_lst (pa_cons pe_int (pa_cons pe_int (pa_cons pe_int pa_nil))))) po_none (po_some pe_int)))
      (pss_cons (ps_for PassesOwn.never rfl (pi_enum (by rfl) T.m_enumerate (pa_cons (pe_op op_catL (pv 2) (pe_slice sl_list (pv 0) (po_some pe_int) (po_some pe_int))) pa_nil)) (pg_tup rfl (pgs_cons (pg_name (i := 3) sc_law.nd rfl (.inl rfl)) (pgs_cons (pg_name (i := 4) sc_law.nd rfl (.inl rfl)) pgs_nil))) (pss_cons (ps_set (i := 5) sc_law.nd rfl (.inl rfl) (pe_call G_Lpot (hr.mono (by decide)) (by rfl) T.g_Lpot T.F_Lpot.kp T.b_Lpot .nil pass0 (pa_cons (pv 4) (pa_cons (pe_op op_add (pv 1) (pe_op op_mul pe_int (pv 3))) pa_nil))))
      (pss_cons (ps_set (i := 6) sc_law.nd rfl (.inl rfl) (pe_call G_Lforms hr (by rfl) T.g_Lforms T.F_Lforms.kp T.b_Lforms .nil pass0 (pa_cons (pv 5) (pa_cons pe_int pa_nil))))
      (pss_cons (ps_set (i := 7) sc_law.nd rfl (.inr rfl) (pe_call G_Lrows (hr.mono (by decide)) (by rfl) T.g_Lrows T.F_Lrows.kp T.b_Lrows .nil pass0 (pa_cons (pv 6) pa_nil)))
      (pss_cons (ps_set (i := 8) sc_law.nd rfl (.inl rfl) (pe_callB (call_sortedDX rfl) (by rfl) T.m_sorted (by decide +kernel) (pa_cons (pv 6) pa_nil)))
      (pss_cons (ps_set (i := 9) sc_law.nd rfl (.inl rfl) (pe_tup pa_nil))
      (pss_cons (ps_for PassesOwn.never rfl (pi_range1 (by rfl) T.m_range (pa_cons pe_int pa_nil)) (pg_name (i := 10) sc_law.nd rfl (.inl rfl)) (pss_cons (ps_set (i := 11) sc_law.nd rfl (.inl rfl) (pe_lst (pa_cons (pe_tup (pa_cons (pe_ix ix_list (pe_lst (pa_cons pe_str (pa_cons pe_str pa_nil))) (pe_callTy call_int1 (by rfl) T.m_int (by decide +kernel) (pa_cons (pe_call G_Ltop (hr.mono (by decide)) (by rfl) T.g_Ltop T.F_Ltop.kp T.b_Ltop .nil pass0 (pa_cons (pv 6) (pa_cons (pe_ix ix_list (pv 8) pe_int (fun _ _ => rfl)) pa_nil))) pa_nil)) (fun _ _ => rfl)) (pa_cons (pe_ix ix_list (pv 8) pe_int (fun _ _ => rfl)) pa_nil))) pa_nil)))
      (pss_cons (ps_for PassesOwn.never rfl (pi_list (pe_slice sl_list (pv 8) po_none (po_some pe_int))) (pg_name (i := 12) sc_law.nd rfl (.inl rfl)) (pss_one (ps_expr (pe_bm PySem.F.plainAttrs_list PySem.F.slot_list_append PySem.F.type_list_append mt_append (pv 11) (pa_cons (pe_tup (pa_cons (pe_ix ix_list (pe_lst (pa_cons pe_str (pa_cons pe_str (pa_cons pe_str pa_nil)))) (pe_call G_Ltake (hr.mono (by decide)) (by rfl) T.g_Ltake T.F_Ltake.kp T.b_Ltake .nil pass0 (pa_cons (pv 5) (pa_cons pe_int pa_nil))) (fun _ _ => rfl)) (pa_cons (pv 12) pa_nil))) pa_nil)))))
      (pss_cons (ps_for PassesOwn.never rfl (pi_list (pv 11)) (pg_name (i := 13) sc_law.nd rfl (.inl rfl)) (pss_one (ps_if (pt_val (pe_call G_Lcan (hr.mono (by decide)) (by rfl) T.g_Lcan T.F_Lcan.kp T.b_Lcan .nil pass0 (pa_cons (pv 6) (pa_cons (pv 13) pa_nil)))) (pss_cons (ps_expr (pe_call G_Ldone (hr.mono (by decide)) (by rfl) T.g_Ldone T.F_Ldone.kp T.b_Ldone .nil pass0 (pa_cons (pv 6) (pa_cons (pv 13) pa_nil))))
      (pss_one (ps_set (i := 9) sc_law.nd rfl (.inl rfl) (pe_op op_catA (pv 9) (pe_tup (pa_cons (pv 13) pa_nil)))))) pss_nil)))
      (pss_cons (ps_set (i := 14) sc_law.nd rfl (.inl rfl) (pe_call G_Ltake (hr.mono (by decide)) (by rfl) T.g_Ltake T.F_Ltake.kp T.b_Ltake .nil pass0 (pa_cons (pv 5) (pa_cons (pe_callB call_len_seq (by rfl) T.m_len PySem.boot_len (pa_cons (pv 9) pa_nil)) pa_nil))))
      (pss_cons (ps_set (i := 15) sc_law.nd rfl (.inl rfl) (pe_op op_catA (pe_op op_catA (pe_slice sl_tupA (pv 9) po_none (po_some (pv 14))) (pe_tup (pa_cons (pe_call G_Lodd (hr.mono (by decide)) (by rfl) T.g_Lodd T.F_Lodd.kp T.b_Lodd .nil pass0 (pa_cons (pv 5) (pa_cons (pe_ix ix_tup (pv 9) (pv 14) (fun _ _ => rfl)) (pa_cons (pe_callB call_len_seq (by rfl) T.m_len PySem.boot_len (pa_cons (pv 8) pa_nil)) pa_nil)))) pa_nil))) (pe_slice sl_tupA (pv 9) (po_some (pe_op op_add (pv 14) pe_int)) po_none)))
      (pss_cons (ps_if (PW.pt (pw_or (pt_cmpR op_notN (pe_call G_stepped (hr.mono (by decide)) (by rfl) T.g_stepped T.F_stepped.kp T.b_stepped .nil pass0 (pa_cons (pv 7) (pa_cons (pv 15) pa_nil))) pe_non (nomark _)) (pw_or1 (pt_cmpR op_notN (pe_call G_stepped (hr.mono (by decide)) (by rfl) T.g_stepped T.F_stepped.kp T.b_stepped .nil pass0 (pa_cons (pv 7) (pa_cons (pe_callTy call_list_of (by rfl) T.m_list (by decide +kernel) (pa_cons (pv 9) pa_nil)) pa_nil))) pe_non (nomark _))))) (pss_one (ps_ret pe_bl)) pss_nil)
      (pss_one (ps_if (pt_cmpR (op_neD hr.units) (pe_call G_stepped (hr.mono (by decide)) (by rfl) T.g_stepped T.F_stepped.kp T.b_stepped .nil pass0 (pa_cons (pv 7) (pa_cons (pv 9) pa_nil))) (pe_call G_Lrows (hr.mono (by decide)) (by rfl) T.g_Lrows T.F_Lrows.kp T.b_Lrows .nil pass0 (pa_cons (pv 6) pa_nil)) (nomark _)) (pss_one (ps_ret pe_bl)) pss_nil)))))))))
      (pss_one (ps_if (pt_not (pt_val (pe_callB (cr_all rfl) (by rfl) T.m_all (by decide +kernel) (pa_cons (pe_lc (own := [("_law_thing", 16)]) (g := gName 16) (tt := tYes) (by rfl) sc_law.nd (pi_list (pe_lst (pa_cons pe_non (pa_cons pe_bl (pa_cons pe_int (pa_cons pe_str (pa_cons (pe_lst pa_nil) (pa_cons pe_dnewK (pa_cons (pe_ix ix_tup (pv 9) pe_int (fun _ _ => rfl)) pa_nil))))))))) (blkOk_by (own := [("_law_thing", 16)]) (N := ["_law_script", "_law_seed_here", "_law_cells", "_law_k", "_law_cell", "_law_pot_here", "_law_forms_here", "_law_shape", "_law_names", "_law_steps", "_law_turn", "_law_some", "_law_name", "_law_step", "_law_at", "_law_odd_here", "_law_thing"]) (sc := defScope s_law) (by decide +kernel)) (fun _ _ _ _ _ => (pg_name (i := 16) sc_law.nd rfl (.inl rfl))) (fun _ _ _ _ _ => pts_nil) (fun _ _ _ _ _ => (pe_cmpR op_isN (pe_call G_stepped (hr.mono (by decide)) (by rfl) T.g_stepped T.F_stepped.kp T.b_stepped .nil pass0 (pa_cons (pv 7) (pa_cons (pv 16) pa_nil))) pe_non (nomark _)))) pa_nil)))) (pss_one (ps_ret pe_bl)) pss_nil)))))))))
      (pss_one (ps_ret pe_bl))))), ?_⟩
  refine ⟨_, rfl, a, ns, rfl, hS, fun sd H1 s1 => ?_⟩
  have hS1 := s1.seq hS
  have tb1 := tb0.same s1
  -- the cells
  refine ⟨_, rfl, (by show 3 ≤ sizeLine; decide), fun p np => ?_⟩
  have s2 := same_new (o := .lst [V.int 0, V.int 1, V.int 2]) np
  have hp : upd H1 p (.lst [V.int 0, V.int 1, V.int 2]) p = some (.lst [V.int 0, V.int 1, V.int 2]) := upd_same
  have hS2 := s2.seq hS1
  have tb2 := tb1.same s2
  generalize upd H1 p (.lst [V.int 0, V.int 1, V.int 2]) = H2 at s2 hp hS2 tb2 ⊢
  refine ⟨a, p, _, _, rfl, rfl, hS2, SqL.of hp, ?_, fun c nc => ?_⟩
  · rw [List.length_map]
    exact sz (by show ns.length + 3 ≤ 100000; omega)
  have ec : ns.map V.int ++ [V.int 0, V.int 1, V.int 2] = (ns ++ [0, 1, 2]).map V.int := by rw [List.map_append]; rfl
  rw [ec]
  have s3 := same_new (o := .lst ((ns ++ [0, 1, 2]).map V.int)) nc
  have hc : upd H2 c (.lst ((ns ++ [0, 1, 2]).map V.int)) c = some (.lst ((ns ++ [0, 1, 2]).map V.int)) := upd_same
  have hS3 := s3.seq hS2
  have tb3 := tb2.same s3
  generalize upd H2 c (.lst ((ns ++ [0, 1, 2]).map V.int)) = H3 at s3 hc hS3 tb3 ⊢
  refine ⟨3, rfl, c, _, rfl, SqL.of hc, fun e ne => ?_⟩
  obtain ⟨c1, ec1, lc1⟩ := cut_any (ns ++ [0, 1, 2]) none (some 3)
  rw [ec1]
  rw [List.length_append] at lc1
  have lc1 : c1.length ≤ ns.length + 3 := lc1
  have s4 := same_new (o := .lst (c1.map V.int)) ne
  have he : upd H3 e (.lst (c1.map V.int)) e = some (.lst (c1.map V.int)) := upd_same
  have hS4 := s4.seq hS3
  have tb4 := tb3.same s4
  generalize upd H3 e (.lst (c1.map V.int)) = H4 at s4 he hS4 tb4 ⊢
  clear s1 s2 s3 s4 hp hc hS1 hS2 hS3 np nc ne ec ec1
  refine ⟨_, rfl, _, rfl, 3, rfl, 10, rfl, a, _, rfl, hS4, fun f nf => ?_⟩
  obtain ⟨c2, ec2, lc2⟩ := cut_any ns (some 3) (some 10)
  rw [ec2]
  have s5 := same_new (o := .lst (c2.map V.int)) nf
  have hf : upd H4 f (.lst (c2.map V.int)) f = some (.lst (c2.map V.int)) := upd_same
  have he5 := s5 _ _ he
  have tb5 := tb4.same s5
  generalize upd H4 f (.lst (c2.map V.int)) = H5 at hf he5 tb5 ⊢
  refine ⟨e, f, _, _, rfl, rfl, SqL.of he5, SqL.of hf, ?_, fun D nD => ?_⟩
  · rw [List.length_map, List.length_map]
    exact sz (by omega)
  rw [← List.map_append]
  have hD : upd H5 D (.lst ((c1 ++ c2).map V.int)) D = some (.lst ((c1 ++ c2).map V.int)) := upd_same
  have tb6 : Tb T.tbs (upd H5 D (.lst ((c1 ++ c2).map V.int))) := tb5.same (same_new nD)
  generalize upd H5 D (.lst ((c1 ++ c2).map V.int)) = H6 at hD tb6 ⊢
  generalize c1 ++ c2 = cs at hD ⊢
  clear s5 hf he5 he hS4 nf nD ec2 lc1 lc2
  refine ⟨D, _, rfl, SqL.of hD, for_it (walk_enum (xs := cs.map V.int)) (fun i σ G => ∃ y3 y4 y5 y6 y7 y8 y9 y10 y11 y12 y13 y14 y15 : Option V, σ = [some (.ref a), some (.int sd), some (.ref e), y3, y4, y5, y6, y7, y8, y9, y10, y11, y12, y13, y14, y15, none] ∧ G D = some (.lst (cs.map V.int)) ∧ Tb T.tbs G) ⟨_, _, _, _, _, _, _, _, _, _, _, _, _, rfl, hD, tb6⟩ (fun i σ G _ h => ?_) ?_ ?_⟩
  · obtain ⟨_, _, _, _, _, _, _, _, _, _, _, _, _, _, h, _⟩ := h
    exact SqL.of h
  · rintro i z σ G G' hi ⟨y3, y4, y5, y6, y7, y8, y9, y10, y11, y12, y13, y14, y15, rfl, hDg, tbg⟩ ⟨T0, z1, z2, rfl, nT, rfl, hz1, hz2⟩
    dsimp only at hz1 hz2
    obtain rfl : V.int (i : Int) = z1 := Option.some.inj hz1
    rw [List.getElem?_map] at hz2
    obtain ⟨cell, hcell, rfl⟩ := Option.map_eq_some_iff.mp hz2
    have sT := same_new (o := .tup [V.int (i : Int), V.int cell]) nT
    refine ⟨T0, _, rfl, SqT.of upd_same, rfl, _, _, rfl, _, _, rfl, rfl, ?_⟩
    have hD1 := sT _ _ hDg
    have tb1 := tbg.same sT
    generalize upd G T0 (.tup [V.int (i : Int), V.int cell]) = G1 at hD1 tb1 ⊢
    clear sT hDg nT hz1 hz2 hcell hi tbg
    refine ⟨_, rfl, _, rfl, _, rfl, _, _, rfl, rfl, .inl ⟨by decide, by decide⟩, _, _, rfl, rfl, cell, _, rfl, fun b G2 s2 nb p2 => ?_⟩
    have hD2 := s2 _ _ hD1
    have tb2 := tb1.same s2
    have Db : D ≠ b := ne_of_none hD1 nb
    clear s2 nb hD1 tb1
    refine ⟨_, rfl, b, rfl, p2, fun d ls S Ts G3 p23 A F tf lk0 l1 l20 k3 nd nw rg => ?_⟩
    have hD3 := k3 _ _ hD2 Db
    have tb3 := tb_but T tb2 p2 k3
    have wf := F.wf
    have Dls : ∀ x ∈ S.ns, D ≠ ls x := fun x m => ne_of_none hD2 (nw x m)
    -- the shape
    refine ⟨_, rfl, d, ls, S, rfl, A, by omega, fun t1 G4 vs ms s4 pm srt nt ht ta => ?_⟩
    have up := rising_nd F.nn pm srt
    have ndm : ms.Nodup := up.imp fun h => by omega
    have lms := pm.length_eq
    have wf0 : Wf { S with ns := ms } := wf.ns pm
    have sh0 : ShapeAt G4 t1 { S with ns := ms } ms := ⟨vs, ht, by rw [rowsL_F tf]; exact ta⟩
    have p24 := p23.same s4
    have A4 := A.same s4
    have hD4 := s4 _ _ hD3
    have tb4 := tb3.same s4
    have eqms : ∀ {ns' : List Int}, ns'.Perm ms → ns'.Pairwise (· ≤ ·) → ns' = ms := fun {ns'} p1 r1 => rising_ext (rising_nd ndm p1 r1) up fun v => p1.mem_iff
    -- the names
    refine ⟨_, rfl, d, _, S.ns, rfl, .inl A4.hd, by unfold dN; rw [List.map_map]; rfl, by omega, fun ms2 pn pm2 srt2 npn => ?_⟩
    rw [eqms (pm2.trans pm.symm) srt2]
    have s5 := same_new (o := .lst (ms.map V.int)) npn
    have hn5 : upd G4 pn (.lst (ms.map V.int)) pn = some (.lst (ms.map V.int)) := upd_same
    have nb : pn ≠ b := p24.ne npn
    have nls : ∀ x ∈ S.ns, pn ≠ ls x := fun x m => (ne_of_none (A4.at' x m) npn).symm
    have p25 := p24.same s5
    have A5 := A4.same s5
    have hD5 := s5 _ _ hD4
    have tb5 := tb4.same s5
    have sh5 := sh0.same s5
    generalize upd G4 pn (.lst (ms.map V.int)) = G5 at hn5 p25 A5 hD5 tb5 sh5 ⊢
    clear k3 nd nw hD3 hD2 p2 p23 A s4 ht ta srt nt s5 p24 A4 hD4 tb4 tb3 tb2 sh0 pm2 srt2 npn
    refine ⟨Nat.zero_le _, fun ts nts => ?_⟩
    have s6 := same_new (o := .tup []) nts
    have hts : upd G5 ts (.tup []) ts = some (.tup []) := upd_same
    have I6 : St40 T (upd G5 ts (.tup [])) b d t1 ts D pn ls { S with ns := ms } S S.ns ms cs [] [] :=
      ⟨p25.same s6, A5.same s6, wf, rfl, tf, sh5.same s6, s6 _ _ hn5, hts, .nil, (fun s m => nomatch m), rfl, s6 _ _ hD5, tb5.same s6⟩
    generalize upd G5 ts (.tup []) = G6 at I6 ⊢
    clear s6 hts nts p25 A5 hD5 tb5 sh5 hn5
    generalize eS0 : ({ S with ns := ms } : Lk Int) = S0 at I6 wf0
    have eN : S0.ns = ms := by rw [← eS0]
    have eK : S0.lk = 0 := by rw [← eS0]; exact lk0
    have big : ∀ x ∈ ms, 0 ≤ x ∧ x < (ms.length : Int) := fun x m => by
      rw [lms]
      exact rg x (pm.mem_iff.mp m)
    clear rg
    clear F
    generalize S.ns = N at I6 pm l1 l20 Dls nls lms
    have lm1 : 1 ≤ ms.length := by omega
    obtain ⟨m0, rest, em⟩ : ∃ m0 rest, ms = m0 :: rest := by
      cases ms with
      | nil => exact absurd lm1 (by decide)
      | cons x r => exact ⟨x, r, rfl⟩
    have mm0 : m0 ∈ ms := by rw [em]; exact List.mem_cons_self
    have at0 : (ms.map V.int)[0]? = some (V.int m0) := by rw [em]; rfl
    have ndS : S0.ns.Nodup := by rw [eN]; exact ndm
    have leS : S0.ns.length ≤ 1000 := by rw [eN]; omega
    refine ⟨8, rfl, (by decide), (by decide), ?_⟩
    refine for_range (lo := 0) (n := 8) (fun j σ G => ∃ (S : Lk Int) (ts : Addr) (xs : List V) (ss : List (Str × Int)) (y10 y11 y12 y13 y14 y15 : Option V), σ = [some (.ref a), some (.int sd), some (.ref e), some (.int (i : Int)), some (.int cell), some (.ref b), some (.ref d), some (.ref t1), some (.ref pn), some (.ref ts), y10, y11, y12, y13, y14, y15, none] ∧ St40 T G b d t1 ts D pn ls S0 S N ms cs xs ss ∧ xs.length ≤ 7 * j ∧ (1 ≤ j → 1 ≤ xs.length)) ⟨S, ts, [], [], _, _, _, _, _, _, rfl, I6, Nat.zero_le _, fun z => absurd z (by decide)⟩ ?_ ?_
    · clear I6 wf tf lk0 eS0
      rintro j σ G hj ⟨S, ts, xs, ss, y10, y11, y12, y13, y14, y15, rfl, I, lx, ne⟩
      -- the first step
      refine ⟨(by show 2 ≤ sizeLine; decide), fun p np => ?_⟩
      have s1 := same_new (o := .lst [V.str "turn", V.str "let"]) np
      have hp : upd G p (.lst [V.str "turn", V.str "let"]) p = some (.lst [V.str "turn", V.str "let"]) := upd_same
      have I1 := I.same s1
      generalize upd G p (.lst [V.str "turn", V.str "let"]) = G1 at s1 hp I1 ⊢
      have mS : ∀ {x}, x ∈ ms → x ∈ S.ns := fun {x} m => by
        rw [I.ns]
        exact pm.mem_iff.mp m
      refine ⟨_, rfl, _, rfl, pn, _, _, V.int m0, rfl, rfl, SqL.of I1.hn, atI_nat (j := 0) at0, d, ls, S, m0, rfl, I1.tr, mS mm0, I1.wf.cl, fun G2 s2 => .inr ⟨_, rfl, ?_⟩⟩
      have I2 := I1.same s2
      have hp2 := s2 _ _ hp
      obtain ⟨w0, hw0, wd0, cn0⟩ := first_can S m0
      refine ⟨p, _, _, V.str w0, rfl, rfl, SqL.of hp2, hw0, ?_⟩
      refine ⟨_, rfl, pn, _, _, V.int m0, rfl, rfl, SqL.of I2.hn, atI_nat (j := 0) at0, (by show 2 ≤ sizeLine; decide), fun t nt => ?_⟩
      have s3 := same_new (o := .tup [V.str w0, V.int m0]) nt
      have ht : upd G2 t (.tup [V.str w0, V.int m0]) t = some (.tup [V.str w0, V.int m0]) := upd_same
      have I3 := I2.same s3
      generalize upd G2 t (.tup [V.str w0, V.int m0]) = G3 at s3 ht I3 ⊢
      refine ⟨(by show 1 ≤ sizeLine; decide), fun sm nsm => ?_⟩
      have s4 := same_new (o := .lst [V.ref t]) nsm
      have hsm : upd G3 sm (.lst [V.ref t]) sm = some (.lst [V.ref t]) := upd_same
      have ht4 := s4 _ _ ht
      have I4 := I3.same s4
      have sb : sm ≠ b := I3.p2.ne nsm
      have sp : sm ≠ pn := (ne_of_none I3.hn nsm).symm
      have sD : sm ≠ D := (ne_of_none I3.hD nsm).symm
      have sl : ∀ x ∈ N, sm ≠ ls x := fun x m => (ne_of_none (I3.tr.at' x (I3.ns ▸ m)) nsm).symm
      generalize upd G3 sm (.lst [V.ref t]) = G4 at hsm ht4 I4 ⊢
      clear I I1 I2 I3 s1 s2 s3 s4 hp hp2 ht nt np nsm hw0
      -- more of them
      refine ⟨_, rfl, 6, rfl, pn, _, rfl, SqL.of I4.hn, fun q nq => ?_⟩
      have ec : cutV (ms.map V.int) none (some 6) = (ms.take 6).map V.int := by
        rw [show (6 : Int) = ((6 : Nat) : Int) from rfl, cut_nat (α := Unit), List.map_take]
      rw [ec]
      have s5 := same_new (o := .lst ((ms.take 6).map V.int)) nq
      have hq : upd G4 q (.lst ((ms.take 6).map V.int)) q = some (.lst ((ms.take 6).map V.int)) := upd_same
      have I5 := I4.same s5
      have hsm5 := s5 _ _ hsm
      have ht5 := s5 _ _ ht4
      have qs : q ≠ sm := (ne_of_none hsm nq).symm
      have qb : q ≠ b := I4.p2.ne nq
      generalize upd G4 q (.lst ((ms.take 6).map V.int)) = G5 at hq I5 hsm5 ht5 ⊢
      clear s5 I4 hsm ht4 nq
      refine ⟨q, rfl, ⟨_, SqL.of hq⟩, for_list (K := K) (a := q) (xs := (ms.take 6).map V.int) (fun k σ G => ∃ (vs : List V) (as : List (Str × Int)) (y12 : Option V), σ = [some (.ref a), some (.int sd), some (.ref e), some (.int (i : Int)), some (.int cell), some (.ref b), some (.ref d), some (.ref t1), some (.ref pn), some (.ref ts), some (.int (0 + (j : Int))), some (.ref sm), y12, y13, y14, y15, none] ∧ St40 T G b d t1 ts D pn ls S0 S N ms cs xs ss ∧ G q = some (.lst ((ms.take 6).map V.int)) ∧ G sm = some (.lst vs) ∧ StAll G vs as ∧ (∀ s ∈ as, Wd s.1 ∧ s.2 ∈ ms) ∧ vs.length = k + 1 ∧ as.head? = some (w0, m0)) ⟨[V.ref t], [(w0, m0)], _, rfl, I5, hq, hsm5, .cons ht5 .nil, (fun s m => by rw [List.mem_singleton.mp m]; exact ⟨wd0, mm0⟩), rfl, rfl⟩ (fun k σ G _ h => ?_) ?_ ?_⟩
      · obtain ⟨_, _, _, _, _, h, _⟩ := h
        exact SqL.of h
      · rintro k z σ G hz ⟨vs, as, y12, rfl, Ig, hqg, hsg, sag, gda, lv, hd⟩
        have lk6 := (List.getElem?_eq_some_iff.mp hz).1
        rw [List.length_map, List.length_take] at lk6
        rw [List.getElem?_map] at hz
        obtain ⟨x, hx, rfl⟩ := Option.map_eq_some_iff.mp hz
        have mx : x ∈ ms := List.mem_of_mem_take (List.mem_of_getElem? hx)
        refine ⟨_, rfl, .inl ⟨rfl, _, SqL.of hsg⟩, (by show 3 ≤ sizeLine; decide), fun p np => ?_⟩
        have s1 := same_new (o := .lst [V.str "turn", V.str "let", V.str "hang"]) np
        have hp : upd G p (.lst [V.str "turn", V.str "let", V.str "hang"]) p = some (.lst [V.str "turn", V.str "let", V.str "hang"]) := upd_same
        have J1 := Ig.same s1
        have hq1 := s1 _ _ hqg
        have hs1 := s1 _ _ hsg
        have sa1 := sag.mono fun p xs e => s1 p _ e
        have pb := Ig.p2.ne np
        generalize upd G p (.lst [V.str "turn", V.str "let", V.str "hang"]) = G1 at hp J1 hq1 hs1 sa1 ⊢
        refine ⟨_, rfl, b, 3, rfl, J1.p2, (by decide), (by decide), fun kk G2 a2 b2 p22 k2 => ?_⟩
        obtain ⟨v', hv', wd'⟩ := pickW3 a2 b2
        have J2 := J1.but p22 k2 Db nb
        have hq2 := k2 _ _ hq1 qb
        have hs2 := k2 _ _ hs1 sb
        have sa2 := sa1.mono (J1.p2.tup k2)
        refine ⟨p, _, _, _, rfl, rfl, SqL.of (k2 _ _ hp pb), hv', _, rfl, (by show 2 ≤ sizeLine; decide), fun u nu => ?_⟩
        have s3 := same_new (o := .tup [V.str v', V.int x]) nu
        have hu : upd G2 u (.tup [V.str v', V.int x]) u = some (.tup [V.str v', V.int x]) := upd_same
        have J3 := J2.same s3
        have hq3 := s3 _ _ hq2
        have hs3 := s3 _ _ hs2
        have sa3 := sa2.mono fun p xs e => s3 p _ e
        generalize upd G2 u (.tup [V.str v', V.int x]) = G3 at hu J3 hq3 hs3 sa3 ⊢
        refine ⟨sm, _, _, rfl, rfl, hs3, szl (by omega), vs ++ [V.ref u], as ++ [(v', x)], _, rfl, J3.lst hs3 sb sp sD sl, by rw [upd_ne qs]; exact hq3, upd_same, ?_, (fun s m => ?_), by rw [List.length_append]; show vs.length + 1 = _; omega, ?_⟩
        · refine (sa3.snoc hu).mono fun c xs e => ?_
          rw [upd_ne (ne_of e hs3 (by intro z; cases z))]
          exact e
        · rcases List.mem_append.mp m with m | m
          · exact gda s m
          · rw [List.mem_singleton.mp m]
            exact ⟨wd', mx⟩
        · cases as with
          | nil => exact nomatch hd
          | cons _ _ => exact hd
      · rintro σ G ⟨vs, as, y12, rfl, Ig, hqg, hsg, sag, gda, lv, hd⟩
        rw [List.length_map, List.length_take] at lv
        clear hqg hq I5 hsm5 ht5 qs qb
        -- those that can be
        have lva := sag.length
        refine ⟨_, rfl, sm, rfl, ⟨_, SqL.of hsg⟩, for_list (K := K) (a := sm) (xs := vs) (fun k σ G => ∃ (S1 : Lk Int) (ts : Addr) (xs : List V) (ss : List (Str × Int)) (y13 : Option V), σ = [some (.ref a), some (.int sd), some (.ref e), some (.int (i : Int)), some (.int cell), some (.ref b), some (.ref d), some (.ref t1), some (.ref pn), some (.ref ts), some (.int (0 + (j : Int))), some (.ref sm), y12, y13, y14, y15, none] ∧ St40 T G b d t1 ts D pn ls S0 S1 N ms cs xs ss ∧ G sm = some (.lst vs) ∧ StAll G vs as ∧ xs.length ≤ 7 * j + k ∧ (k = 0 → S1 = S) ∧ (1 ≤ k → 1 ≤ xs.length)) ⟨S, ts, xs, ss, _, rfl, Ig, hsg, sag, lx, (fun _ => rfl), fun z => absurd z (by decide)⟩ (fun k σ G _ h => ?_) ?_ ?_⟩
        · obtain ⟨_, _, _, _, _, _, _, h, _⟩ := h
          exact SqL.of h
        · rintro k z σ G hz ⟨S1, ts, xs, ss, y13, rfl, J, hsg, sag, lx, eS1, ne1⟩
          obtain ⟨t', v, x, rfl, hs, ht'⟩ := sag.at hz
          obtain ⟨wd, mx⟩ := gda _ (List.mem_of_getElem? hs)
          have lk7 := (List.getElem?_eq_some_iff.mp hz).1
          have mS1 : x ∈ S1.ns := by rw [J.ns]; exact pm.mem_iff.mp mx
          refine ⟨_, rfl, _, rfl, d, t', ls, S1, v, x, rfl, J.tr, ht', mS1, J.wf.cl, fun G1 s1 => ⟨_, rfl, ?_⟩⟩
          have J1 := J.same s1
          have hs1 := s1 _ _ hsg
          have sa1 := sag.mono fun p xs e => s1 p _ e
          have ht1 := s1 _ _ ht'
          cases cn : canS S1 v x with
          | false =>
            refine iteF ⟨S1, ts, xs, ss, _, rfl, J1, hs1, sa1, by omega, (fun z => nomatch z), fun _ => ?_⟩
            by_cases k0 : k = 0
            · subst k0
              have e1 : as[0]? = some (w0, m0) := by
                cases as with
                | nil => exact nomatch hd
                | cons _ _ => exact hd
              rw [e1] at hs
              cases hs
              rw [eS1 rfl, cn0] at cn
              exact nomatch cn
            · exact ne1 (by omega)
          | true =>
            refine iteT ⟨_, rfl, _, rfl, d, t', ls, S1, v, x, rfl, J1.tr, ht1, mS1, J.wf, cn, fun G2 k2 A2 => ?_⟩
            have tp := J1.tr.tup k2
            have rs := runS_snoc (w := v) (x := x) J.run
            rw [canS_ns, doS_ns, cn, if_pos rfl] at rs
            obtain ⟨w1, w2, w3⟩ := do_ok J.wf mS1 cn
            have hs2 := k2 _ _ hs1 fun x m => sl x (J.ns ▸ m)
            refine ⟨_, rfl, _, rfl, (by show 1 ≤ sizeLine; decide), fun u nu => ?_⟩
            have s3 := same_new (o := .tup [V.ref t']) nu
            have hu : upd G2 u (.tup [V.ref t']) u = some (.tup [V.ref t']) := upd_same
            have hts3 := s3 _ _ (tp _ _ J1.hs)
            generalize upd G2 u (.tup [V.ref t']) = G3 at s3 hu hts3 ⊢
            refine catA rfl rfl hts3 hu (sz (by show xs.length + 1 ≤ 100000; omega)) fun ts' G4 s4 hts4 => ?_
            have s34 := s3.trans s4
            refine ⟨doS S1 v x, ts', xs ++ [V.ref t'], ss ++ [(v, x)], _, rfl, ⟨(J1.p2.butT J1.tr k2).same s34, A2.same s34, w1, w2.trans J.ns, w3.trans J.tf, (J1.sh.mono tp).same s34, s34 _ _ (k2 _ _ J1.hn fun y my => nls y (J.ns ▸ my)), hts4, ?_, (fun s m => ?_), rs, s34 _ _ (k2 _ _ J1.hD fun y my => Dls y (J.ns ▸ my)), (tb_butT T J1.tb J1.tr k2).same s34⟩, s34 _ _ hs2, (sa1.mono tp).mono fun p xs e => s34 p _ e, by rw [List.length_append]; show xs.length + 1 ≤ _; omega, (fun z => nomatch z), fun _ => by rw [List.length_append]; show 1 ≤ xs.length + 1; omega⟩
            · exact ((J1.sa.mono tp).mono fun p xs e => s34 p _ e).snoc (s34 _ _ (tp _ _ ht1))
            · rcases List.mem_append.mp m with m | m
              · exact J.gd s m
              · rw [List.mem_singleton.mp m]
                exact ⟨wd, mx⟩
        · rintro σ G ⟨S1, ts, xs, ss, y13, rfl, J, hsg2, sag2, lx, eS1, ne1⟩
          have l1x : 1 ≤ xs.length := ne1 (by omega)
          clear hsg2 sag2 eS1 ne1 hsg sag Ig gda hd
          have lx7 : xs.length ≤ 7 * (j + 1) := by omega
          have lxs := J.sa.length
          -- one exchanged
          refine ⟨_, rfl, _, rfl, ts, _, rfl, .inr (SqT.of J.hs), b, _, rfl, J.p2, (by omega), (by omega), fun at' G1 a0 a1 p21 k1 => ?_⟩
          have J1 := J.but p21 k1 Db nb
          obtain ⟨ja, ea, la⟩ : ∃ ja : Nat, at' = (ja : Int) ∧ ja < xs.length := ⟨at'.toNat, by omega, by omega⟩
          subst ea
          clear J k1 a0 a1
          obtain ⟨vq, hvq⟩ : ∃ vq, xs[ja]? = some vq := ⟨xs[ja], List.getElem?_eq_getElem la⟩
          obtain ⟨tq, vw, vx, rfl, hsq, htq⟩ := J1.sa.at hvq
          obtain ⟨wdq, mxq⟩ := J1.gd _ (List.mem_of_getElem? hsq)
          refine ⟨_, rfl, _, rfl, (ja : Int), rfl, slA rfl J1.hs fun p1 G2 s2 h1 => ?_⟩
          rw [cut_nat (α := Unit)] at h1
          have J2 := J1.same s2
          have lmm : (ms.map V.int).length = ms.length := List.length_map ..
          refine ⟨_, rfl, _, rfl, _, rfl, ts, _, _, V.ref tq, rfl, rfl, SqT.of J2.hs, atI_nat (j := ja) hvq, _, rfl, pn, _, rfl, .inl (SqL.of J2.hn), b, tq, vw, vx, _, S0.ns, rfl, J2.p2, s2 _ _ htq, wdq, ?_, ?_, ?_, fun u HX G3 p23 sX od pX kX => ?_⟩
          · rw [eN, lmm]
            intro m
            have := (big _ m).2
            omega
          · rw [eN]
            intro m
            have := (big _ m).1
            omega
          · rw [eN]
            intro m
            have h1 := (big _ m).2
            have h2 : (10 : Int) ^ (29 : Int).toNat < 1000 := by omega
            exact absurd h2 (by decide +kernel)
          have JX := J2.same sX
          have J3 := JX.but p23 kX Db nb
          have h1X := JX.p2.tup kX _ _ (sX _ _ h1)
          have od3 := od.bt pX p23 kX
          refine ⟨(by show 1 ≤ sizeLine; decide), fun p3 np3 => ?_⟩
          have s4 := same_new (o := .tup [u]) np3
          have h4 : upd G3 p3 (.tup [u]) p3 = some (.tup [u]) := upd_same
          have h14 := s4 _ _ h1X
          have J4 := J3.same s4
          have od4 := od3.kp (Kp.of_same s4)
          generalize upd G3 p3 (.tup [u]) = G4 at h4 h14 J4 od4 ⊢
          refine catA rfl rfl h14 h4 (sz (by rw [List.length_take]; show _ + 1 ≤ 100000; omega)) fun p5 G5 s5 h5 => ?_
          have J5 := J4.same s5
          refine ⟨_, rfl, _, rfl, _, _, rfl, rfl, _, rfl, ?_⟩
          dsimp only [tNoPart]
          refine slA rfl J5.hs fun p6 G6 s6 h6 => ?_
          rw [cut_from] at h6
          refine catA rfl rfl (s6 _ _ h5) h6 (sz (by rw [List.length_append, List.length_take, List.length_drop]; show _ + 1 + _ ≤ 100000; omega)) fun p7 G7 s7 h7 => ?_
          rw [List.append_assoc] at h7
          have s57 := s5.trans (s6.trans s7)
          have J7 := J4.same s57
          have od7 := od4.kp (Kp.of_same s57)
          clear J1 J2 JX J3 J4 J5 s2 s4 s5 s6 s7 s57 h1 h1X h14 h4 h5 h6 np3 od od3 od4 pX kX sX p23 p21 htq
          have gdS : ∀ s ∈ ss, Wd s.1 ∧ s.2 ∈ S0.ns := by rw [eN]; exact J7.gd
          obtain ⟨S'', run2⟩ := runS_take ja J7.run
          refine ⟨_, rfl, _, rfl, t1, .ref p7, S0, rfl, J7.tb, .inr ⟨by rw [eN]; exact J7.sh, ndS, leS, eK, wf0, p7, xs.take ja, _, ss.take ja, S'', rfl, h7, J7.sa.take ja, (fun s m => gdS s (List.mem_of_mem_take m)), run2, .inl ⟨u, xs.drop (ja + 1), rfl, od7, fun G8 k8 tb8 => ⟨rfl, _, rfl, ifF rfl ?_⟩⟩⟩⟩
          have J8 := J7.kp k8 tb8
          clear J7 k8 tb8 h7 od7
          refine ⟨_, rfl, _, rfl, ts, _, rfl, .inr (SqT.of J8.hs), fun l nl => ?_⟩
          have s9 := same_new (o := .lst xs) nl
          have h9 : upd G8 l (.lst xs) l = some (.lst xs) := upd_same
          have J9 := J8.same s9
          generalize upd G8 l (.lst xs) = G9 at h9 J9 ⊢
          refine ⟨t1, .ref l, S0, rfl, J9.tb, .inl ⟨.lst h9, fun G10 k10 tb10 => ⟨rfl, _, rfl, ifF rfl ?_⟩⟩⟩
          have J10 := J9.kp k10 tb10
          clear J8 J9 s9 h9 nl k10 tb10
          -- as due
          refine ⟨_, rfl, _, rfl, t1, .ref ts, S0, rfl, J10.tb, .inr ⟨by rw [eN]; exact J10.sh, ndS, leS, eK, wf0, ts, xs, [], ss, _, rfl, by rw [List.append_nil]; exact J10.hs, J10.sa, gdS, J10.run, .inr ⟨rfl, fun tt G11 m11 k11 tb11 pm11 srt11 sh11 => ?_⟩⟩⟩
          rw [eN] at pm11
          rw [eqms pm11 srt11] at sh11
          have J11 := J10.kp k11 tb11
          refine ⟨_, rfl, d, ls, S1, rfl, J11.tr, by rw [J11.ns]; omega, fun td G12 vs12 ms12 s12 pm12 srt12 nt12 htd ta12 => ?_⟩
          rw [J11.ns] at pm12
          rw [eqms (pm12.trans pm.symm) srt12] at ta12
          have J12 := J11.same s12
          obtain ⟨va, ha, taa⟩ := sh11.same s12
          rw [rowsL_F J12.tf] at taa
          refine ⟨_, _, .tup (SqT.of ha) taa.dp, .tup (SqT.of htd) ta12.dp, shp_rows _, shp_rows _, _, rfl, ifF (shp_reflR (shp_rows _)) ?_⟩
          exact ⟨S1, ts, xs, ss, _, _, _, _, _, _, rfl, J12, lx7, fun _ => l1x⟩
    · rintro σ G ⟨S, ts, xs, ss, y10, y11, y12, y13, y14, y15, rfl, I, lx, ne⟩
      have l1x : 1 ≤ xs.length := ne (by decide)
      obtain ⟨v0, hv0⟩ : ∃ v0, xs[0]? = some v0 := ⟨xs[0], List.getElem?_eq_getElem l1x⟩
      obtain ⟨tq, vw, vx, rfl, hsq, htq⟩ := I.sa.at hv0
      refine ⟨Nat.zero_le _, fun e1 ne1 => ?_⟩
      have s1 := same_new (o := .lst []) ne1
      have he1 : upd G e1 (.lst []) e1 = some (.lst []) := upd_same
      have I1 := I.same s1
      have htq1 := s1 _ _ htq
      generalize upd G e1 (.lst []) = G1 at he1 I1 htq1 ⊢
      refine fun dd ndd => ?_
      have s2 := same_new (o := .dK []) ndd
      have hdd : upd G1 dd (.dK []) dd = some (.dK []) := upd_same
      have I2 := I1.same s2
      have he2 := s2 _ _ he1
      have htq2 := s2 _ _ htq1
      generalize upd G1 dd (.dK []) = G2 at hdd I2 he2 htq2 ⊢
      refine ⟨_, rfl, ts, _, _, V.ref tq, rfl, rfl, SqT.of I2.hs, atI_nat (j := 0) hv0, (by show 7 ≤ sizeLine; decide), fun l nl => ?_⟩
      have s3 := same_new (o := .lst [V.non, V.bl true, V.int 5, V.str "turn", V.ref e1, V.ref dd, V.ref tq]) nl
      have hl : upd G2 l (.lst [V.non, V.bl true, V.int 5, V.str "turn", V.ref e1, V.ref dd, V.ref tq]) l = some (.lst [V.non, V.bl true, V.int 5, V.str "turn", V.ref e1, V.ref dd, V.ref tq]) := upd_same
      have I3 := I2.same s3
      have he3 := s3 _ _ he2
      have hdd3 := s3 _ _ hdd
      have htq3 := s3 _ _ htq2
      generalize upd G2 l (.lst [V.non, V.bl true, V.int 5, V.str "turn", V.ref e1, V.ref dd, V.ref tq]) = G3 at hl I3 he3 hdd3 htq3 ⊢
      refine ⟨l, rfl, ⟨_, SqL.of hl⟩, fun M nM => ?_⟩
      refine lc_list (K := K) (a := l) (xs := [V.non, V.bl true, V.int 5, V.str "turn", V.ref e1, V.ref dd, V.ref tq]) (fun k G' => Kp G3 G' ∧ Tb T.tbs G' ∧ G' M = some (.lst ((List.replicate k true).map V.bl))) ⟨Kp.of_same (same_new nM), I3.tb.same (same_new nM), upd_same⟩ (fun k G' _ z => SqL.of (z.1.lst hl)) ?_ ?_
      · rintro k z G' hz ⟨k1, tb1, hM⟩
        have lk7 : k < 7 := (List.getElem?_eq_some_iff.mp hz).1
        have hc : NoTup G' z ∨ z = .ref tq := by
          match k, hz with
          | 0, hz => cases hz; exact .inl .non
          | 1, hz => cases hz; exact .inl (.bl true)
          | 2, hz => cases hz; exact .inl (.int 5)
          | 3, hz => cases hz; exact .inl (.str "turn")
          | 4, hz => cases hz; exact .inl (.lst (k1.lst he3))
          | 5, hz => cases hz; exact .inl (.dK (k1.dK hdd3))
          | 6, hz => cases hz; exact .inr rfl
        have step : ∀ H2, Kp G' H2 → Tb T.tbs H2 → Kp G3 (upd H2 M (.lst ((List.replicate k true).map V.bl ++ [V.bl true]))) ∧ Tb T.tbs (upd H2 M (.lst ((List.replicate k true).map V.bl ++ [V.bl true]))) ∧ upd H2 M (.lst ((List.replicate k true).map V.bl ++ [V.bl true])) M = some (.lst ((List.replicate (k + 1) true).map V.bl)) := fun H2 k2 tb2 => by
          refine ⟨fun c o e n => ?_, tb_lst T tb2 (k2.lst hM), ?_⟩
          · rw [upd_ne (ne_of_none e nM)]
            exact (k1.trans k2) _ _ e n
          · rw [upd_same, List.replicate_succ', List.map_append]
            rfl
        have lsz : ((List.replicate k true).map V.bl).length < sizeLine := by
          rw [List.length_map, List.length_replicate]
          exact szl (by omega)
        refine ⟨rfl, yes_ite ⟨_, rfl, _, rfl, t1, z, S0, rfl, tb1, ?_⟩⟩
        rcases hc with nt | rfl
        · exact .inl ⟨nt, fun H2 k2 tb2 => ⟨rfl, _, k2.lst hM, lsz, step H2 k2 tb2⟩⟩
        · exact .inr ⟨by rw [eN]; exact I3.sh.kp k1, ndS, leS, eK, wf0, tq, [], [V.str vw, V.int vx], [], S0, rfl, k1.tup htq3, .nil, (fun s m => nomatch m), rfl, .inl ⟨V.str vw, [V.int vx], rfl, .nt (.str vw), fun H2 k2 tb2 => ⟨rfl, _, k2.lst hM, lsz, step H2 k2 tb2⟩⟩⟩
      · rintro G' ⟨k1, tb1, hM⟩
        refine ⟨M, _, rfl, SqL.of hM, ?_⟩
        refine ⟨_, rfl, iteF ?_⟩
        exact ⟨_, _, _, _, _, _, _, _, _, _, _, _, _, rfl, k1.lst I3.hD, tb1⟩
  · rintro σ G ⟨y3, y4, y5, y6, y7, y8, y9, y10, y11, y12, y13, y14, y15, rfl, hDg, tbg⟩
    exact rfl
end

end My
namespace My
open PySem L2
theorem all_mk {l : PySem.W.OpenLaw} {w : World} {K : PySem.W.Frag} {h : Heap} {mg : Str → Option Value} {fa f0 f1 f2 f3 f4 f5 f6 f7 f8 f9 f10 f11 f12 f13 f14 f15 f16 f17 f18 f19 f20 cc0 fm0 fm1 fm2 fm3 fm4 fm5 fm6 fm7 fm8 fm9 fm10 fm11 : Addr} {cM PM : Addr} {eM : Value} {ddM : Option Addr} {vsM : Array Value} {sloM : Array (Option Value)} (X : K.In h) (G : h.Ns mainGlobals mg) (hfa : mg "law" = some (.ref fa))
    {od0 an0 od1 an1 od2 an2 od3 an3 od4 an4 od5 an5 od6 an6 od7 an7 od8 an8 od9 an9 od10 an10 od11 an11 od12 an12 od13 an13 od14 an14 od15 an15 od16 an16 od17 an17 od18 an18 od19 an19 od20 an20 : Option Addr} {sl0 sl1 sl2 sl3 sl4 sl5 sl6 sl7 sl8 sl9 sl10 sl11 sl12 sl13 sl14 sl15 sl16 sl17 sl18 sl19 sl20 : Array (Option Value)} {oc0 kV0 dc0 pm0 cd0 ct0 oc1 kV1 dc1 pm1 cd1 ct1 oc2 kV2 dc2 pm2 cd2 ct2 oc3 kV3 dc3 pm3 cd3 ct3 oc4 kV4 dc4 pm4 cd4 ct4 oc5 kV5 dc5 pm5 cd5 ct5 oc6 kV6 dc6 pm6 cd6 ct6 oc7 kV7 dc7 pm7 cd7 ct7 oc8 kV8 dc8 pm8 cd8 ct8 oc9 kV9 dc9 pm9 cd9 ct9 oc10 kV10 dc10 pm10 cd10 ct10 oc11 kV11 dc11 pm11 cd11 ct11 oc12 kV12 dc12 pm12 cd12 ct12 oc13 kV13 dc13 pm13 cd13 ct13 oc14 kV14 dc14 pm14 cd14 ct14 oc15 kV15 dc15 pm15 cd15 ct15 oc16 kV16 dc16 pm16 cd16 ct16 oc17 kV17 dc17 pm17 cd17 ct17 oc18 kV18 dc18 pm18 cd18 ct18 oc19 kV19 dc19 pm19 cd19 ct19 oc20 kV20 dc20 pm20 cd20 ct20 : Value}
    {odm0 anm0 odm1 anm1 odm2 anm2 odm3 anm3 odm4 anm4 odm5 anm5 odm6 anm6 odm7 anm7 odm8 anm8 odm9 anm9 odm10 anm10 odm11 anm11 : Option Addr} {slm0 slm1 slm2 slm3 slm4 slm5 slm6 slm7 slm8 slm9 slm10 slm11 : Array (Option Value)} {ocm0 kVm0 dcm0 pmm0 cdm0 ctm0 ocm1 kVm1 dcm1 pmm1 cdm1 ctm1 ocm2 kVm2 dcm2 pmm2 cdm2 ctm2 ocm3 kVm3 dcm3 pmm3 cdm3 ctm3 ocm4 kVm4 dcm4 pmm4 cdm4 ctm4 ocm5 kVm5 dcm5 pmm5 cdm5 ctm5 ocm6 kVm6 dcm6 pmm6 cdm6 ctm6 ocm7 kVm7 dcm7 pmm7 cdm7 ctm7 ocm8 kVm8 dcm8 pmm8 cdm8 ctm8 ocm9 kVm9 dcm9 pmm9 cdm9 ctm9 ocm10 kVm10 dcm10 pmm10 cdm10 ctm10 ocm11 kVm11 dcm11 pmm11 cdm11 ctm11 : Value}
    (aC0 : PySem.W.nsIn K mainGlobals "Links" = some (some (.ref cc0))) (pgC0 : PySem.W.plainGet K cc0 Str.empty = true) (hdC0 : PySem.W.hasDictIn K cc0 = true) (poC0 : PySem.W.plainOver K cc0 = true) (saC0 : PySem.W.findIn K (.ref cc0) "__setattr__" = some (some (.builtin "object.__setattr__"))) (mkC0 : PySem.W.makesIn K cc0 = true) (kcC0 : PySem.W.keepIn K (.ref cc0) = true)
    (nC0_left : PySem.W.findIn K (.ref cc0) "left" = some none)
    (nC0_right : PySem.W.findIn K (.ref cc0) "right" = some none)
    (nC0_above : PySem.W.findIn K (.ref cc0) "above" = some none)
    (nC0_turned : PySem.W.findIn K (.ref cc0) "turned" = some none)
    (nC0_looked : PySem.W.findIn K (.ref cc0) "looked" = some none)
    (am0 : PySem.W.findIn K (.ref cc0) "__init__" = some (some (.ref fm0))) (im0 : PySem.W.isFn K (.ref fm0) = true) (lm0 : K.lookup fm0 = some ⟨ocm0, odm0, .func (PySem.W.fnOf "__init__" "Links.__init__" (defArgs s_Linksinit) (defBody s_Linksinit) (defScope s_Linksinit) .none kVm0 dcm0 pmm0 anm0 cdm0 ctm0), slm0⟩) (cm0 : PySem.W.codeIn K cdm0 "Links.__init__" = true) (km0 : PySem.W.keepIn K (.ref fm0) = true)
    (am1 : PySem.W.findIn K (.ref cc0) "take_rows" = some (some (.ref fm1))) (im1 : PySem.W.isFn K (.ref fm1) = true) (lm1 : K.lookup fm1 = some ⟨ocm1, odm1, .func (PySem.W.fnOf "take_rows" "Links.take_rows" (defArgs s_Linkstakerows) (defBody s_Linkstakerows) (defScope s_Linkstakerows) .none kVm1 dcm1 pmm1 anm1 cdm1 ctm1), slm1⟩) (cm1 : PySem.W.codeIn K cdm1 "Links.take_rows" = true) (km1 : PySem.W.keepIn K (.ref fm1) = true)
    (am2 : PySem.W.findIn K (.ref cc0) "shape" = some (some (.ref fm2))) (im2 : PySem.W.isFn K (.ref fm2) = true) (lm2 : K.lookup fm2 = some ⟨ocm2, odm2, .func (PySem.W.fnOf "shape" "Links.shape" (defArgs s_Linksshape) (defBody s_Linksshape) (defScope s_Linksshape) .none kVm2 dcm2 pmm2 anm2 cdm2 ctm2), slm2⟩) (cm2 : PySem.W.codeIn K cdm2 "Links.shape" = true) (km2 : PySem.W.keepIn K (.ref fm2) = true)
    (am3 : PySem.W.findIn K (.ref cc0) "has_name" = some (some (.ref fm3))) (im3 : PySem.W.isFn K (.ref fm3) = true) (lm3 : K.lookup fm3 = some ⟨ocm3, odm3, .func (PySem.W.fnOf "has_name" "Links.has_name" (defArgs s_Linkshasname) (defBody s_Linkshasname) (defScope s_Linkshasname) .none kVm3 dcm3 pmm3 anm3 cdm3 ctm3), slm3⟩) (cm3 : PySem.W.codeIn K cdm3 "Links.has_name" = true) (km3 : PySem.W.keepIn K (.ref fm3) = true)
    (am4 : PySem.W.findIn K (.ref cc0) "is_top" = some (some (.ref fm4))) (im4 : PySem.W.isFn K (.ref fm4) = true) (lm4 : K.lookup fm4 = some ⟨ocm4, odm4, .func (PySem.W.fnOf "is_top" "Links.is_top" (defArgs s_Linksistop) (defBody s_Linksistop) (defScope s_Linksistop) .none kVm4 dcm4 pmm4 anm4 cdm4 ctm4), slm4⟩) (cm4 : PySem.W.codeIn K cdm4 "Links.is_top" = true) (km4 : PySem.W.keepIn K (.ref fm4) = true)
    (am5 : PySem.W.findIn K (.ref cc0) "refresh" = some (some (.ref fm5))) (im5 : PySem.W.isFn K (.ref fm5) = true) (lm5 : K.lookup fm5 = some ⟨ocm5, odm5, .func (PySem.W.fnOf "refresh" "Links.refresh" (defArgs s_Linksrefresh) (defBody s_Linksrefresh) (defScope s_Linksrefresh) .none kVm5 dcm5 pmm5 anm5 cdm5 ctm5), slm5⟩) (cm5 : PySem.W.codeIn K cdm5 "Links.refresh" = true) (km5 : PySem.W.keepIn K (.ref fm5) = true)
    (am6 : PySem.W.findIn K (.ref cc0) "set_left" = some (some (.ref fm6))) (im6 : PySem.W.isFn K (.ref fm6) = true) (lm6 : K.lookup fm6 = some ⟨ocm6, odm6, .func (PySem.W.fnOf "set_left" "Links.set_left" (defArgs s_Linkssetleft) (defBody s_Linkssetleft) (defScope s_Linkssetleft) .none kVm6 dcm6 pmm6 anm6 cdm6 ctm6), slm6⟩) (cm6 : PySem.W.codeIn K cdm6 "Links.set_left" = true) (km6 : PySem.W.keepIn K (.ref fm6) = true)
    (am7 : PySem.W.findIn K (.ref cc0) "set_right" = some (some (.ref fm7))) (im7 : PySem.W.isFn K (.ref fm7) = true) (lm7 : K.lookup fm7 = some ⟨ocm7, odm7, .func (PySem.W.fnOf "set_right" "Links.set_right" (defArgs s_Linkssetright) (defBody s_Linkssetright) (defScope s_Linkssetright) .none kVm7 dcm7 pmm7 anm7 cdm7 ctm7), slm7⟩) (cm7 : PySem.W.codeIn K cdm7 "Links.set_right" = true) (km7 : PySem.W.keepIn K (.ref fm7) = true)
    (am8 : PySem.W.findIn K (.ref cc0) "put_in_place" = some (some (.ref fm8))) (im8 : PySem.W.isFn K (.ref fm8) = true) (lm8 : K.lookup fm8 = some ⟨ocm8, odm8, .func (PySem.W.fnOf "put_in_place" "Links.put_in_place" (defArgs s_Linksputinplace) (defBody s_Linksputinplace) (defScope s_Linksputinplace) .none kVm8 dcm8 pmm8 anm8 cdm8 ctm8), slm8⟩) (cm8 : PySem.W.codeIn K cdm8 "Links.put_in_place" = true) (km8 : PySem.W.keepIn K (.ref fm8) = true)
    (am9 : PySem.W.findIn K (.ref cc0) "turn" = some (some (.ref fm9))) (im9 : PySem.W.isFn K (.ref fm9) = true) (lm9 : K.lookup fm9 = some ⟨ocm9, odm9, .func (PySem.W.fnOf "turn" "Links.turn" (defArgs s_Linksturn) (defBody s_Linksturn) (defScope s_Linksturn) .none kVm9 dcm9 pmm9 anm9 cdm9 ctm9), slm9⟩) (cm9 : PySem.W.codeIn K cdm9 "Links.turn" = true) (km9 : PySem.W.keepIn K (.ref fm9) = true)
    (am10 : PySem.W.findIn K (.ref cc0) "let_go" = some (some (.ref fm10))) (im10 : PySem.W.isFn K (.ref fm10) = true) (lm10 : K.lookup fm10 = some ⟨ocm10, odm10, .func (PySem.W.fnOf "let_go" "Links.let_go" (defArgs s_Linksletgo) (defBody s_Linksletgo) (defScope s_Linksletgo) .none kVm10 dcm10 pmm10 anm10 cdm10 ctm10), slm10⟩) (cm10 : PySem.W.codeIn K cdm10 "Links.let_go" = true) (km10 : PySem.W.keepIn K (.ref fm10) = true)
    (am11 : PySem.W.findIn K (.ref cc0) "hang" = some (some (.ref fm11))) (im11 : PySem.W.isFn K (.ref fm11) = true) (lm11 : K.lookup fm11 = some ⟨ocm11, odm11, .func (PySem.W.fnOf "hang" "Links.hang" (defArgs s_Linkshang) (defBody s_Linkshang) (defScope s_Linkshang) .none kVm11 dcm11 pmm11 anm11 cdm11 ctm11), slm11⟩) (cm11 : PySem.W.codeIn K cdm11 "Links.hang" = true) (km11 : PySem.W.keepIn K (.ref fm11) = true)
    (a0 : PySem.W.nsIn K mainGlobals "is_whole" = some (some (.ref f0))) (l0 : K.lookup f0 = some ⟨oc0, od0, .func (PySem.W.fnOf "is_whole" "is_whole" (defArgs s_iswhole) (defBody s_iswhole) (defScope s_iswhole) .none kV0 dc0 pm0 an0 cd0 ct0), sl0⟩) (c0 : PySem.W.codeIn K cd0 "is_whole" = true) (k0 : PySem.W.keepIn K (.ref f0) = true)
    (a1 : PySem.W.nsIn K mainGlobals "links_of" = some (some (.ref f1))) (l1 : K.lookup f1 = some ⟨oc1, od1, .func (PySem.W.fnOf "links_of" "links_of" (defArgs s_linksof) (defBody s_linksof) (defScope s_linksof) .none kV1 dc1 pm1 an1 cd1 ct1), sl1⟩) (c1 : PySem.W.codeIn K cd1 "links_of" = true) (k1 : PySem.W.keepIn K (.ref f1) = true)
    (a2 : PySem.W.nsIn K mainGlobals "is_mark" = some (some (.ref f2))) (l2 : K.lookup f2 = some ⟨oc2, od2, .func (PySem.W.fnOf "is_mark" "is_mark" (defArgs s_ismark) (defBody s_ismark) (defScope s_ismark) .none kV2 dc2 pm2 an2 cd2 ct2), sl2⟩) (c2 : PySem.W.codeIn K cd2 "is_mark" = true) (k2 : PySem.W.keepIn K (.ref f2) = true)
    (a3 : PySem.W.nsIn K mainGlobals "is_name" = some (some (.ref f3))) (l3 : K.lookup f3 = some ⟨oc3, od3, .func (PySem.W.fnOf "is_name" "is_name" (defArgs s_isname) (defBody s_isname) (defScope s_isname) .none kV3 dc3 pm3 an3 cd3 ct3), sl3⟩) (c3 : PySem.W.codeIn K cd3 "is_name" = true) (k3 : PySem.W.keepIn K (.ref f3) = true)
    (a4 : PySem.W.nsIn K mainGlobals "stepped" = some (some (.ref f4))) (l4 : K.lookup f4 = some ⟨oc4, od4, .func (PySem.W.fnOf "stepped" "stepped" (defArgs s_stepped) (defBody s_stepped) (defScope s_stepped) .none kV4 dc4 pm4 an4 cd4 ct4), sl4⟩) (c4 : PySem.W.codeIn K cd4 "stepped" = true) (k4 : PySem.W.keepIn K (.ref f4) = true)
    (a5 : PySem.W.nsIn K mainGlobals "is_step" = some (some (.ref f5))) (l5 : K.lookup f5 = some ⟨oc5, od5, .func (PySem.W.fnOf "is_step" "is_step" (defArgs s_isstep) (defBody s_isstep) (defScope s_isstep) .none kV5 dc5 pm5 an5 cd5 ct5), sl5⟩) (c5 : PySem.W.codeIn K cd5 "is_step" = true) (k5 : PySem.W.keepIn K (.ref f5) = true)
    (a6 : PySem.W.nsIn K mainGlobals "can_step" = some (some (.ref f6))) (l6 : K.lookup f6 = some ⟨oc6, od6, .func (PySem.W.fnOf "can_step" "can_step" (defArgs s_canstep) (defBody s_canstep) (defScope s_canstep) .none kV6 dc6 pm6 an6 cd6 ct6), sl6⟩) (c6 : PySem.W.codeIn K cd6 "can_step" = true) (k6 : PySem.W.keepIn K (.ref f6) = true)
    (a7 : PySem.W.nsIn K mainGlobals "can_hang" = some (some (.ref f7))) (l7 : K.lookup f7 = some ⟨oc7, od7, .func (PySem.W.fnOf "can_hang" "can_hang" (defArgs s_canhang) (defBody s_canhang) (defScope s_canhang) .none kV7 dc7 pm7 an7 cd7 ct7), sl7⟩) (c7 : PySem.W.codeIn K cd7 "can_hang" = true) (k7 : PySem.W.keepIn K (.ref f7) = true)
    (a8 : PySem.W.nsIn K mainGlobals "take_step" = some (some (.ref f8))) (l8 : K.lookup f8 = some ⟨oc8, od8, .func (PySem.W.fnOf "take_step" "take_step" (defArgs s_takestep) (defBody s_takestep) (defScope s_takestep) .none kV8 dc8 pm8 an8 cd8 ct8), sl8⟩) (c8 : PySem.W.codeIn K cd8 "take_step" = true) (k8 : PySem.W.keepIn K (.ref f8) = true)
    (a9 : PySem.W.nsIn K mainGlobals "_law_pot" = some (some (.ref f9))) (l9 : K.lookup f9 = some ⟨oc9, od9, .func (PySem.W.fnOf "_law_pot" "_law_pot" (defArgs s_Lpot) (defBody s_Lpot) (defScope s_Lpot) .none kV9 dc9 pm9 an9 cd9 ct9), sl9⟩) (c9 : PySem.W.codeIn K cd9 "_law_pot" = true) (k9 : PySem.W.keepIn K (.ref f9) = true)
    (a10 : PySem.W.nsIn K mainGlobals "_law_take" = some (some (.ref f10))) (l10 : K.lookup f10 = some ⟨oc10, od10, .func (PySem.W.fnOf "_law_take" "_law_take" (defArgs s_Ltake) (defBody s_Ltake) (defScope s_Ltake) .none kV10 dc10 pm10 an10 cd10 ct10), sl10⟩) (c10 : PySem.W.codeIn K cd10 "_law_take" = true) (k10 : PySem.W.keepIn K (.ref f10) = true)
    (a11 : PySem.W.nsIn K mainGlobals "_law_seed" = some (some (.ref f11))) (l11 : K.lookup f11 = some ⟨oc11, od11, .func (PySem.W.fnOf "_law_seed" "_law_seed" (defArgs s_Lseed) (defBody s_Lseed) (defScope s_Lseed) .none kV11 dc11 pm11 an11 cd11 ct11), sl11⟩) (c11 : PySem.W.codeIn K cd11 "_law_seed" = true) (k11 : PySem.W.keepIn K (.ref f11) = true)
    (a12 : PySem.W.nsIn K mainGlobals "_law_top" = some (some (.ref f12))) (l12 : K.lookup f12 = some ⟨oc12, od12, .func (PySem.W.fnOf "_law_top" "_law_top" (defArgs s_Ltop) (defBody s_Ltop) (defScope s_Ltop) .none kV12 dc12 pm12 an12 cd12 ct12), sl12⟩) (c12 : PySem.W.codeIn K cd12 "_law_top" = true) (k12 : PySem.W.keepIn K (.ref f12) = true)
    (a13 : PySem.W.nsIn K mainGlobals "_law_tree" = some (some (.ref f13))) (l13 : K.lookup f13 = some ⟨oc13, od13, .func (PySem.W.fnOf "_law_tree" "_law_tree" (defArgs s_Ltree) (defBody s_Ltree) (defScope s_Ltree) .none kV13 dc13 pm13 an13 cd13 ct13), sl13⟩) (c13 : PySem.W.codeIn K cd13 "_law_tree" = true) (k13 : PySem.W.keepIn K (.ref f13) = true)
    (a14 : PySem.W.nsIn K mainGlobals "_law_forms" = some (some (.ref f14))) (l14 : K.lookup f14 = some ⟨oc14, od14, .func (PySem.W.fnOf "_law_forms" "_law_forms" (defArgs s_Lforms) (defBody s_Lforms) (defScope s_Lforms) .none kV14 dc14 pm14 an14 cd14 ct14), sl14⟩) (c14 : PySem.W.codeIn K cd14 "_law_forms" = true) (k14 : PySem.W.keepIn K (.ref f14) = true)
    (a15 : PySem.W.nsIn K mainGlobals "_law_turned" = some (some (.ref f15))) (l15 : K.lookup f15 = some ⟨oc15, od15, .func (PySem.W.fnOf "_law_turned" "_law_turned" (defArgs s_Lturned) (defBody s_Lturned) (defScope s_Lturned) .none kV15 dc15 pm15 an15 cd15 ct15), sl15⟩) (c15 : PySem.W.codeIn K cd15 "_law_turned" = true) (k15 : PySem.W.keepIn K (.ref f15) = true)
    (a16 : PySem.W.nsIn K mainGlobals "_law_can" = some (some (.ref f16))) (l16 : K.lookup f16 = some ⟨oc16, od16, .func (PySem.W.fnOf "_law_can" "_law_can" (defArgs s_Lcan) (defBody s_Lcan) (defScope s_Lcan) .none kV16 dc16 pm16 an16 cd16 ct16), sl16⟩) (c16 : PySem.W.codeIn K cd16 "_law_can" = true) (k16 : PySem.W.keepIn K (.ref f16) = true)
    (a17 : PySem.W.nsIn K mainGlobals "_law_done" = some (some (.ref f17))) (l17 : K.lookup f17 = some ⟨oc17, od17, .func (PySem.W.fnOf "_law_done" "_law_done" (defArgs s_Ldone) (defBody s_Ldone) (defScope s_Ldone) .none kV17 dc17 pm17 an17 cd17 ct17), sl17⟩) (c17 : PySem.W.codeIn K cd17 "_law_done" = true) (k17 : PySem.W.keepIn K (.ref f17) = true)
    (a18 : PySem.W.nsIn K mainGlobals "_law_rows" = some (some (.ref f18))) (l18 : K.lookup f18 = some ⟨oc18, od18, .func (PySem.W.fnOf "_law_rows" "_law_rows" (defArgs s_Lrows) (defBody s_Lrows) (defScope s_Lrows) .none kV18 dc18 pm18 an18 cd18 ct18), sl18⟩) (c18 : PySem.W.codeIn K cd18 "_law_rows" = true) (k18 : PySem.W.keepIn K (.ref f18) = true)
    (a19 : PySem.W.nsIn K mainGlobals "_law_odd" = some (some (.ref f19))) (l19 : K.lookup f19 = some ⟨oc19, od19, .func (PySem.W.fnOf "_law_odd" "_law_odd" (defArgs s_Lodd) (defBody s_Lodd) (defScope s_Lodd) .none kV19 dc19 pm19 an19 cd19 ct19), sl19⟩) (c19 : PySem.W.codeIn K cd19 "_law_odd" = true) (k19 : PySem.W.keepIn K (.ref f19) = true)
    (a20 : PySem.W.nsIn K mainGlobals "law" = some (some (.ref f20))) (l20 : K.lookup f20 = some ⟨oc20, od20, .func (PySem.W.fnOf "law" "law" (defArgs s_law) (defBody s_law) (defScope s_law) .none kV20 dc20 pm20 an20 cd20 ct20), sl20⟩) (c20 : PySem.W.codeIn K cd20 "law" = true) (k20 : PySem.W.keepIn K (.ref f20) = true)
    (z0 : PySem.W.nsIn K mainGlobals "abs" = some none)
    (z1 : PySem.W.nsIn K mainGlobals "all" = some none)
    (z2 : PySem.W.nsIn K mainGlobals "bool" = some none)
    (z3 : PySem.W.nsIn K mainGlobals "enumerate" = some none)
    (z4 : PySem.W.nsIn K mainGlobals "int" = some none)
    (z5 : PySem.W.nsIn K mainGlobals "isinstance" = some none)
    (z6 : PySem.W.nsIn K mainGlobals "len" = some none)
    (z7 : PySem.W.nsIn K mainGlobals "list" = some none)
    (z8 : PySem.W.nsIn K mainGlobals "range" = some none)
    (z9 : PySem.W.nsIn K mainGlobals "sorted" = some none)
    (z10 : PySem.W.nsIn K mainGlobals "str" = some none)
    (z11 : PySem.W.nsIn K mainGlobals "tuple" = some none)
    (hcM : cd2 = .ref cM)
    (lcM : K.lookup cM = some ⟨eM, ddM, .fields vsM, sloM⟩)
    (v11M : vsM[11]? = some (.ref PM))
    (nPM : K.lookup PM = none)
    (hdM : PySem.W.codeHdIn K cM PM = true)
    (hneP : ([PM] : List Addr).Nodup)
    (tabs : ∀ nm ∈ (["is_mark"] : List Str), TabAt mg h nm) : ∃ cs : List (Addr × Addr), (∀ p ∈ cs, h.get? p.2 = some { cls := .none, data := .fields #[] }) ∧ (∀ p ∈ cs, K.lookup p.2 = none) ∧ (∀ p ∈ cs, PySem.W.CodeHd h p.1 p.2) ∧
      ∀ (s : Shared) (H : Hp) (base : Heap) (a : Addr) (ns : List Int), ns.length ≤ 63 → (∀ z ∈ ns, Builtin.Int.intBits z ≤ 1048576) → (∀ p ∈ cs, LamX.TabB base mg p.1 p.2) → Env0 l.prog w K mg base callerA [] s H → (∀ p ∈ cs, H p.2 = some (.tbl #[])) → SqL K H a (ns.map V.int) →
        codeAny (model l.prog w) callerA (.call (.ref fa) ⟨[.ref a], []⟩) (CR CX0 [] l.prog w H s (fun v _ => v = .bl true) E0) s := by
  have e := hfa.symm.trans (PySem.W.mg_of X G a20)
  cases e
  have F0 := fun_mk (st := s_iswhole) l0 c0 k0
  have b0 := F0.binds (ps := ["thing"]) fun _ _ _ _ _ _ us hl => match us, hl with | [_], _ => rfl
  have F1 := fun_mk (st := s_linksof) l1 c1 k1
  have b1 := F1.binds (ps := ["shape"]) fun _ _ _ _ _ _ us hl => match us, hl with | [_], _ => rfl
  have F2 := fun_mk (st := s_ismark) l2 c2 k2
  have b2 := F2.binds (ps := ["thing"]) fun _ _ _ _ _ _ us hl => match us, hl with | [_], _ => rfl
  have F3 := fun_mk (st := s_isname) l3 c3 k3
  have b3 := F3.binds (ps := ["thing"]) fun _ _ _ _ _ _ us hl => match us, hl with | [_], _ => rfl
  have F4 := fun_mk (st := s_stepped) l4 c4 k4
  have b4 := F4.binds (ps := ["shape", "steps"]) fun _ _ _ _ _ _ us hl => match us, hl with | [_, _], _ => rfl
  have F5 := fun_mk (st := s_isstep) l5 c5 k5
  have b5 := F5.binds (ps := ["links", "thing"]) fun _ _ _ _ _ _ us hl => match us, hl with | [_, _], _ => rfl
  have F6 := fun_mk (st := s_canstep) l6 c6 k6
  have b6 := F6.binds (ps := ["links", "word", "x"]) fun _ _ _ _ _ _ us hl => match us, hl with | [_, _, _], _ => rfl
  have F7 := fun_mk (st := s_canhang) l7 c7 k7
  have b7 := F7.binds (ps := ["links", "x"]) fun _ _ _ _ _ _ us hl => match us, hl with | [_, _], _ => rfl
  have F8 := fun_mk (st := s_takestep) l8 c8 k8
  have b8 := F8.binds (ps := ["links", "word", "x"]) fun _ _ _ _ _ _ us hl => match us, hl with | [_, _, _], _ => rfl
  have F9 := fun_mk (st := s_Lpot) l9 c9 k9
  have b9 := F9.binds (ps := ["_law_cell", "_law_seed_here"]) fun _ _ _ _ _ _ us hl => match us, hl with | [_, _], _ => rfl
  have F10 := fun_mk (st := s_Ltake) l10 c10 k10
  have b10 := F10.binds (ps := ["_law_pot_here", "_law_many"]) fun _ _ _ _ _ _ us hl => match us, hl with | [_, _], _ => rfl
  have F11 := fun_mk (st := s_Lseed) l11 c11 k11
  have b11 := F11.binds (ps := ["_law_script"]) fun _ _ _ _ _ _ us hl => match us, hl with | [_], _ => rfl
  have F12 := fun_mk (st := s_Ltop) l12 c12 k12
  have b12 := F12.binds (ps := ["_law_forms_here", "_law_x"]) fun _ _ _ _ _ _ us hl => match us, hl with | [_, _], _ => rfl
  have F13 := fun_mk (st := s_Ltree) l13 c13 k13
  have b13 := F13.binds (ps := ["_law_pot_here", "_law_forms_here", "_law_names"]) fun _ _ _ _ _ _ us hl => match us, hl with | [_, _, _], _ => rfl
  have F14 := fun_mk (st := s_Lforms) l14 c14 k14
  have b14 := F14.binds (ps := ["_law_pot_here", "_law_most"]) fun _ _ _ _ _ _ us hl => match us, hl with | [_, _], _ => rfl
  have F15 := fun_mk (st := s_Lturned) l15 c15 k15
  have b15 := F15.binds (ps := ["_law_forms_here", "_law_x"]) fun _ _ _ _ _ _ us hl => match us, hl with | [_, _], _ => rfl
  have F16 := fun_mk (st := s_Lcan) l16 c16 k16
  have b16 := F16.binds (ps := ["_law_forms_here", "_law_step"]) fun _ _ _ _ _ _ us hl => match us, hl with | [_, _], _ => rfl
  have F17 := fun_mk (st := s_Ldone) l17 c17 k17
  have b17 := F17.binds (ps := ["_law_forms_here", "_law_step"]) fun _ _ _ _ _ _ us hl => match us, hl with | [_, _], _ => rfl
  have F18 := fun_mk (st := s_Lrows) l18 c18 k18
  have b18 := F18.binds (ps := ["_law_forms_here"]) fun _ _ _ _ _ _ us hl => match us, hl with | [_], _ => rfl
  have F19 := fun_mk (st := s_Lodd) l19 c19 k19
  have b19 := F19.binds (ps := ["_law_pot_here", "_law_step", "_law_many"]) fun _ _ _ _ _ _ us hl => match us, hl with | [_, _, _], _ => rfl
  have F20 := fun_mk (st := s_law) l20 c20 k20
  have b20 := F20.binds (ps := ["_law_script"]) fun _ _ _ _ _ _ us hl => match us, hl with | [_], _ => rfl
  have Fm0 := fun_mk (st := s_Linksinit) lm0 cm0 km0
  have bm0 := Fm0.binds (ps := ["self"]) fun _ _ _ _ _ _ us hl => match us, hl with | [_], _ => rfl
  have Fm1 := fun_mk (st := s_Linkstakerows) lm1 cm1 km1
  have bm1 := Fm1.binds (ps := ["self", "shape"]) fun _ _ _ _ _ _ us hl => match us, hl with | [_, _], _ => rfl
  have Fm2 := fun_mk (st := s_Linksshape) lm2 cm2 km2
  have bm2 := Fm2.binds (ps := ["self"]) fun _ _ _ _ _ _ us hl => match us, hl with | [_], _ => rfl
  have Fm3 := fun_mk (st := s_Linkshasname) lm3 cm3 km3
  have bm3 := Fm3.binds (ps := ["self", "x"]) fun _ _ _ _ _ _ us hl => match us, hl with | [_, _], _ => rfl
  have Fm4 := fun_mk (st := s_Linksistop) lm4 cm4 km4
  have bm4 := Fm4.binds (ps := ["self", "x"]) fun _ _ _ _ _ _ us hl => match us, hl with | [_, _], _ => rfl
  have Fm5 := fun_mk (st := s_Linksrefresh) lm5 cm5 km5
  have bm5 := Fm5.binds (ps := ["self", "x"]) fun _ _ _ _ _ _ us hl => match us, hl with | [_, _], _ => rfl
  have Fm6 := fun_mk (st := s_Linkssetleft) lm6 cm6 km6
  have bm6 := Fm6.binds (ps := ["self", "x", "y"]) fun _ _ _ _ _ _ us hl => match us, hl with | [_, _, _], _ => rfl
  have Fm7 := fun_mk (st := s_Linkssetright) lm7 cm7 km7
  have bm7 := Fm7.binds (ps := ["self", "x", "y"]) fun _ _ _ _ _ _ us hl => match us, hl with | [_, _, _], _ => rfl
  have Fm8 := fun_mk (st := s_Linksputinplace) lm8 cm8 km8
  have bm8 := Fm8.binds (ps := ["self", "x", "u"]) fun _ _ _ _ _ _ us hl => match us, hl with | [_, _, _], _ => rfl
  have Fm9 := fun_mk (st := s_Linksturn) lm9 cm9 km9
  have bm9 := Fm9.binds (ps := ["self", "x"]) fun _ _ _ _ _ _ us hl => match us, hl with | [_, _], _ => rfl
  have Fm10 := fun_mk (st := s_Linksletgo) lm10 cm10 km10
  have bm10 := Fm10.binds (ps := ["self", "x"]) fun _ _ _ _ _ _ us hl => match us, hl with | [_, _], _ => rfl
  have Fm11 := fun_mk (st := s_Linkshang) lm11 cm11 km11
  have bm11 := Fm11.binds (ps := ["self", "x"]) fun _ _ _ _ _ _ us hl => match us, hl with | [_, _], _ => rfl
  let T : Top K mg := ⟨_, _, F0, b0, PySem.W.mg_of X G a0, _, _, F1, b1, PySem.W.mg_of X G a1, _, _, F2, b2, PySem.W.mg_of X G a2, _, _, F3, b3, PySem.W.mg_of X G a3, _, _, F4, b4, PySem.W.mg_of X G a4, _, _, F5, b5, PySem.W.mg_of X G a5, _, _, F6, b6, PySem.W.mg_of X G a6, _, _, F7, b7, PySem.W.mg_of X G a7, _, _, F8, b8, PySem.W.mg_of X G a8, _, _, F9, b9, PySem.W.mg_of X G a9, _, _, F10, b10, PySem.W.mg_of X G a10, _, _, F11, b11, PySem.W.mg_of X G a11, _, _, F12, b12, PySem.W.mg_of X G a12, _, _, F13, b13, PySem.W.mg_of X G a13, _, _, F14, b14, PySem.W.mg_of X G a14, _, _, F15, b15, PySem.W.mg_of X G a15, _, _, F16, b16, PySem.W.mg_of X G a16, _, _, F17, b17, PySem.W.mg_of X G a17, _, _, F18, b18, PySem.W.mg_of X G a18, _, _, F19, b19, PySem.W.mg_of X G a19, _, _, F20, b20, PySem.W.mg_of X G a20, cc0, ⟨pgC0, hdC0, poC0, saC0⟩, PySem.W.mg_of X G aC0, nC0_left, nC0_right, nC0_above, nC0_turned, nC0_looked, _, _, Fm0, bm0, ⟨mkC0, am0, im0, kcC0⟩, _, _, Fm1, bm1, ⟨am1, im1, km1⟩, _, _, Fm2, bm2, ⟨am2, im2, km2⟩, _, _, Fm3, bm3, ⟨am3, im3, km3⟩, _, _, Fm4, bm4, ⟨am4, im4, km4⟩, _, _, Fm5, bm5, ⟨am5, im5, km5⟩, _, _, Fm6, bm6, ⟨am6, im6, km6⟩, _, _, Fm7, bm7, ⟨am7, im7, km7⟩, _, _, Fm8, bm8, ⟨am8, im8, km8⟩, _, _, Fm9, bm9, ⟨am9, im9, km9⟩, _, _, Fm10, bm10, ⟨am10, im10, km10⟩, _, _, Fm11, bm11, ⟨am11, im11, km11⟩, PySem.W.mg_none_of X G z0, PySem.W.mg_none_of X G z1, PySem.W.mg_none_of X G z2, PySem.W.mg_none_of X G z3, PySem.W.mg_none_of X G z4, PySem.W.mg_none_of X G z5, PySem.W.mg_none_of X G z6, PySem.W.mg_none_of X G z7, PySem.W.mg_none_of X G z8, PySem.W.mg_none_of X G z9, PySem.W.mg_none_of X G z10, PySem.W.mg_none_of X G z11, cM, PM, hcM, hneP⟩
  refine ⟨[(cM, PM)], ?_, ?_, ?_, fun s H base a ns hlen hbits tb e0 th sq => ?_⟩
  · intro p hp
    rcases mem1 hp with rfl
    · exact tab_empty (tabs _ List.mem_cons_self) X (PySem.W.mg_of X G a2) l2 rfl hcM lcM v11M
  · intro p hp
    rcases mem1 hp with rfl
    · exact nPM
  · intro p hp
    rcases mem1 hp with rfl
    · exact PySem.W.codeHd_of_K X hdM
  · exact run_law T ⟨(tb _ List.mem_cons_self).code, (tb _ List.mem_cons_self).bm, (tb _ List.mem_cons_self).gP⟩ e0 (th _ List.mem_cons_self) sq hlen ⟨rfl, by decide, by decide⟩ (fun s u => .of_eq rfl)
end My
open PySem PySem.W PyProof.Rows
set_option maxRecDepth 100000 in
set_option maxHeartbeats 0 in
theorem PySem.Challenge.cw_tiedcut_k40_things_that_are_no_steps_holds : PySem.Challenge.rw_tiedcut_k40_things_that_are_no_steps.Holds := by
  w_on; o_law; k_head; (case hw => w_witness2)
  k_fill
  refine My.walk_law0 (l := PySem.Challenge.rw_tiedcut_k40_things_that_are_no_steps) (most := 63) ["is_mark"] rfl (by decide) rfl (by decide +kernel) (fun w h Y => by first | exact PySem.W.kIn_of Y | exact PySem.W.km_in_of Y) ?F
  case F =>
    intro w mg fa h KX G hmg tabs
    refine' My.all_mk KX G hmg ?aC0 ?pgC0 ?hdC0 ?poC0 ?saC0 ?mkC0 ?kcC0 ?nC0_left ?nC0_right ?nC0_above ?nC0_turned ?nC0_looked ?am0 ?im0 ?lm0 ?cm0 ?km0 ?am1 ?im1 ?lm1 ?cm1 ?km1 ?am2 ?im2 ?lm2 ?cm2 ?km2 ?am3 ?im3 ?lm3 ?cm3 ?km3 ?am4 ?im4 ?lm4 ?cm4 ?km4 ?am5 ?im5 ?lm5 ?cm5 ?km5 ?am6 ?im6 ?lm6 ?cm6 ?km6 ?am7 ?im7 ?lm7 ?cm7 ?km7 ?am8 ?im8 ?lm8 ?cm8 ?km8 ?am9 ?im9 ?lm9 ?cm9 ?km9 ?am10 ?im10 ?lm10 ?cm10 ?km10 ?am11 ?im11 ?lm11 ?cm11 ?km11 ?a0 ?l0 ?c0 ?k0 ?a1 ?l1 ?c1 ?k1 ?a2 ?l2 ?c2 ?k2 ?a3 ?l3 ?c3 ?k3 ?a4 ?l4 ?c4 ?k4 ?a5 ?l5 ?c5 ?k5 ?a6 ?l6 ?c6 ?k6 ?a7 ?l7 ?c7 ?k7 ?a8 ?l8 ?c8 ?k8 ?a9 ?l9 ?c9 ?k9 ?a10 ?l10 ?c10 ?k10 ?a11 ?l11 ?c11 ?k11 ?a12 ?l12 ?c12 ?k12 ?a13 ?l13 ?c13 ?k13 ?a14 ?l14 ?c14 ?k14 ?a15 ?l15 ?c15 ?k15 ?a16 ?l16 ?c16 ?k16 ?a17 ?l17 ?c17 ?k17 ?a18 ?l18 ?c18 ?k18 ?a19 ?l19 ?c19 ?k19 ?a20 ?l20 ?c20 ?k20 ?z0 ?z1 ?z2 ?z3 ?z4 ?z5 ?z6 ?z7 ?z8 ?z9 ?z10 ?z11 ?hcM ?lcM ?v11M ?nPM ?hdM ?hneP tabs
    (case aC0 => k_is)
    (case pgC0 => k_is)
    (case hdC0 => k_is)
    (case poC0 => k_is)
    (case saC0 => k_is)
    (case mkC0 => k_is)
    (case kcC0 => k_is)
    (case nC0_left => k_is)
    (case nC0_right => k_is)
    (case nC0_above => k_is)
    (case nC0_turned => k_is)
    (case nC0_looked => k_is)
    (case am0 => k_is)
    (case im0 => k_is)
    (case lm0 => k_is)
    (case cm0 => k_is)
    (case km0 => k_is)
    (case am1 => k_is)
    (case im1 => k_is)
    (case lm1 => k_is)
    (case cm1 => k_is)
    (case km1 => k_is)
    (case am2 => k_is)
    (case im2 => k_is)
    (case lm2 => k_is)
    (case cm2 => k_is)
    (case km2 => k_is)
    (case am3 => k_is)
    (case im3 => k_is)
    (case lm3 => k_is)
    (case cm3 => k_is)
    (case km3 => k_is)
    (case am4 => k_is)
    (case im4 => k_is)
    (case lm4 => k_is)
    (case cm4 => k_is)
    (case km4 => k_is)
    (case am5 => k_is)
    (case im5 => k_is)
    (case lm5 => k_is)
    (case cm5 => k_is)
    (case km5 => k_is)
    (case am6 => k_is)
    (case im6 => k_is)
    (case lm6 => k_is)
    (case cm6 => k_is)
    (case km6 => k_is)
    (case am7 => k_is)
    (case im7 => k_is)
    (case lm7 => k_is)
    (case cm7 => k_is)
    (case km7 => k_is)
    (case am8 => k_is)
    (case im8 => k_is)
    (case lm8 => k_is)
    (case cm8 => k_is)
    (case km8 => k_is)
    (case am9 => k_is)
    (case im9 => k_is)
    (case lm9 => k_is)
    (case cm9 => k_is)
    (case km9 => k_is)
    (case am10 => k_is)
    (case im10 => k_is)
    (case lm10 => k_is)
    (case cm10 => k_is)
    (case km10 => k_is)
    (case am11 => k_is)
    (case im11 => k_is)
    (case lm11 => k_is)
    (case cm11 => k_is)
    (case km11 => k_is)
    (case a0 => k_is)
    (case l0 => k_is)
    (case c0 => k_is)
    (case k0 => k_is)
    (case a1 => k_is)
    (case l1 => k_is)
    (case c1 => k_is)
    (case k1 => k_is)
    (case a2 => k_is)
    (case l2 => k_is)
    (case c2 => k_is)
    (case k2 => k_is)
    (case a3 => k_is)
    (case l3 => k_is)
    (case c3 => k_is)
    (case k3 => k_is)
    (case a4 => k_is)
    (case l4 => k_is)
    (case c4 => k_is)
    (case k4 => k_is)
    (case a5 => k_is)
    (case l5 => k_is)
    (case c5 => k_is)
    (case k5 => k_is)
    (case a6 => k_is)
    (case l6 => k_is)
    (case c6 => k_is)
    (case k6 => k_is)
    (case a7 => k_is)
    (case l7 => k_is)
    (case c7 => k_is)
    (case k7 => k_is)
    (case a8 => k_is)
    (case l8 => k_is)
    (case c8 => k_is)
    (case k8 => k_is)
    (case a9 => k_is)
    (case l9 => k_is)
    (case c9 => k_is)
    (case k9 => k_is)
    (case a10 => k_is)
    (case l10 => k_is)
    (case c10 => k_is)
    (case k10 => k_is)
    (case a11 => k_is)
    (case l11 => k_is)
    (case c11 => k_is)
    (case k11 => k_is)
    (case a12 => k_is)
    (case l12 => k_is)
    (case c12 => k_is)
    (case k12 => k_is)
    (case a13 => k_is)
    (case l13 => k_is)
    (case c13 => k_is)
    (case k13 => k_is)
    (case a14 => k_is)
    (case l14 => k_is)
    (case c14 => k_is)
    (case k14 => k_is)
    (case a15 => k_is)
    (case l15 => k_is)
    (case c15 => k_is)
    (case k15 => k_is)
    (case a16 => k_is)
    (case l16 => k_is)
    (case c16 => k_is)
    (case k16 => k_is)
    (case a17 => k_is)
    (case l17 => k_is)
    (case c17 => k_is)
    (case k17 => k_is)
    (case a18 => k_is)
    (case l18 => k_is)
    (case c18 => k_is)
    (case k18 => k_is)
    (case a19 => k_is)
    (case l19 => k_is)
    (case c19 => k_is)
    (case k19 => k_is)
    (case a20 => k_is)
    (case l20 => k_is)
    (case c20 => k_is)
    (case k20 => k_is)
    (case z0 => k_is)
    (case z1 => k_is)
    (case z2 => k_is)
    (case z3 => k_is)
    (case z4 => k_is)
    (case z5 => k_is)
    (case z6 => k_is)
    (case z7 => k_is)
    (case z8 => k_is)
    (case z9 => k_is)
    (case z10 => k_is)
    (case z11 => k_is)
    (case hcM => rfl)
    (case lcM => k_is)
    (case v11M => rfl)
    (case nPM => kernel_rfl)
    (case hdM => kernel_rfl)
    (case hneP => decide +kernel)
