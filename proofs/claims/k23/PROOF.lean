import PyProof.Rows.All
import Wide.All
import OpenK.AllK
import Wide.FinOn
import HandS.ForMost
import HandS.More
import HandS.Sort
import HandS.Wide
import HandS.WideBits
import HandS.IsInst
import HandS.EndBits
import HandS.Exc
import HandS.ExcOwn
import HandS.ExcValue
import HandS.ExcInit
import HandS.ExcField
import HandS.WordsExc
import HandS.WordsDict
import KE.DataCmp
import KE.KExcIs
import HandS.HotCalls
import HandS.TupLe
import HandS.TupAny
import HandS.Zip
import HandS.Walk
import HandS.Star
import HandS.Style
import HandS.CallLocal
import HandS.Deep
import HandS.AnyAll
import HandS.GenOver
import HandS.EndTab
import HandS.Lambda
import PyProof.TupleOfGen
import PyProof.GenCompD
import PyProof.EqLayable
import HandS.SortInts
import HandS.RaiseMore
import HandS.SetFor
import HandS.Strs
import HandS.SortRule
import HandS.TryOnly
import HandS.Set
import HandS.Flow
import HandS.TupLen
import KE.KDictPairs
import KE.DataFind
import KE.GoesMore
import HandS.RevTup
import HandS.Rev
import HandS.Text
import HandS.StrMore
import HandS.Replace
import PyProof.StrLawsAffix
import PyProof.JoinWalk
import HandS.Conv
import HandS.Iter
import KE.KUnpackStar
import HandS.DictComp
import HandS.TupSets
import HandS.TupMul
import HandS.SortKw
import KE.DatumOrd
import KE.DataMinKey
import HandS.DictTup
import KE.KDictCopyH
import KE.KDictWalk
import PyProof.ReprRoads
import PyProof.ReprLen
import KE.SortData
import PyProof.DictMoreH
import HandS.Small
import HandS.Defaults
import PySem.Challenge.RW_tiedcut_k23_shapes_or_not
set_option Elab.async false
set_option linter.all false
set_option maxRecDepth 100000
set_option maxHeartbeats 4000000
namespace My
open PySem PySem.Spec PyProof.Rows L2
/-! ### a generator expression, consumed by all: its own frame -/
def gcx (X : Cx) (s : Shared) (H : Hp) (ge : Env) (fp : List Addr) (Ag : Around) : Cx :=
  { X with A := Ag, s_0 := s, H_0 := H, env := ge, outer := X.stack, stack := ge :: X.stack, ex := fp, fn := fun _ => false, pn := [], xe := fun _ _ => False }
section
variable {X : Cx} {pins : List (Addr × Obj)} {σ : L2.St} {H : Hp} {s : Shared}
theorem clo_in {scope : Scope} {own : List (Str × Nat)} (I : Inv X pins σ H s) (ok : BlkOk X.N X.env.scope scope own) {y : Str} {c : Addr} (hm : (y, c) ∈ cloFrom X.env.cells scope.names []) : X.env.cells.lookup y = some c ∧ c < s.heap.objs.size ∧ (y, NameKind.free) ∈ scope.names := by
  rcases cloFrom_mem hm with z | ⟨h1, rfl⟩
  · cases z
  · have hc : ∃ c, X.env.cells.lookup y = some c := by
      rcases ok.free _ h1 rfl with k | k
      · exact I.ok.has _ (.inl k)
      · exact I.ok.has _ (.inr k)
    obtain ⟨c, hc⟩ := hc
    obtain ⟨v, z⟩ := I.cell _ _ hc
    rw [hc]
    exact ⟨rfl, z.lt, h1⟩
theorem gen_start {scope : Scope} {own : List (Str × Nat)} {fp : List Addr} {ge : Env} {code : Value} {Ag : Around} {s5 : Shared} {m : Str → Option Value} {ga : Addr} {go : Obj} (I : Inv X pins σ H s) (ok : BlkOk X.N X.env.scope scope own) (hN : X.N.Nodup)
    (hfp : ∀ b ∈ fp, FpOk X pins H b ∧ b < s.heap.objs.size) (hge : ge = genEnv scope (cloFrom X.env.cells scope.names []) s.heap.objs.size code builtinsNs X.env) (nocell : ∀ y ∈ scope.names, y.2 ≠ .cell)
    (hA : Ag.handled = none) (hfr : Ag.frames = some (ge :: X.stack)) (k5 : ∀ b o, s.heap.get? b = some o → s5.heap.get? b = some o) (os5 : s5.os = s.os) (bare5 : AllBare s5.gens)
    (ns5 : s5.heap.Ns s.heap.objs.size m) (hga : s5.heap.get? ga = some go) (hgt : s.heap.objs.size < ga) (hgd : ∀ v, go.data ≠ .cell v) :
    Inv (gcx X s H ge fp Ag) [(ga, go)] (wipe σ (own.map (·.2))) H s5 := by
  have hL : ge.locals = s.heap.objs.size := by
    rw [hge]
    rfl
  have hC : ge.cells = cloFrom X.env.cells scope.names [] := by
    rw [hge]
    rfl
  have hS : ge.scope = scope := by
    rw [hge]
    rfl
  have inC : ∀ {y c}, ge.cells.lookup y = some c → X.env.cells.lookup y = some c ∧ c < s.heap.objs.size := fun {y c} e => by
    rw [hC] at e
    have z := clo_in I ok (PySem.mem_of_lookup e)
    exact ⟨z.1, z.2.1⟩
  have look : ∀ {y}, scope.names.lookup y = some .free → ∃ c, ge.cells.lookup y = some c ∧ X.env.cells.lookup y = some c := fun {y} hl => by
    have hm := cloFrom_has (cells := X.env.cells) (acc := []) (PySem.mem_of_lookup hl)
    obtain ⟨c, e⟩ := mem_lookup hm
    rw [← hC] at e
    exact ⟨c, e, (inC e).1⟩
  have kindF : ∀ {y k}, scope.names.lookup y = some k → (k = .cell ∨ k = .free) → scope.names.lookup y = some .free := fun {y k} e hk => by
    rcases hk with rfl | rfl
    · exact absurd rfl (nocell _ (PySem.mem_of_lookup e))
    · exact e
  have okG : (gcx X s H ge fp Ag).Ok := by
    refine ⟨I.ok.mod, ?_, ?_, ?_, ?_, ?_, ?_, ?_, fun _ => hA, hfr, .inr ⟨rfl, ?_⟩, ?_, I.bs, Nat.le_trans I.ok.bsz I.sz, ?_, ?_, I.stack, I.stkFree⟩
    · show ge.scope.kind = .function
      rw [hS]
      exact ok.kind
    · show ge.globals = mainGlobals
      rw [hge]
      exact I.ok.glob
    · show ge.builtins = builtinsNs
      rw [hge]
      rfl
    · show s.heap.objs.size ≤ ge.locals
      rw [hL]
      exact Nat.le_refl _
    · intro y z c e1 e2
      exact I.ok.inj y z c (inC e1).1 (inC e2).1
    · intro y hy
      have e : scope.names.lookup y = some .free := by
        rcases hy with hy | hy
        · have hy2 : ge.scope.names.lookup y = some .cell := hy
          rw [hS] at hy2
          exact kindF hy2 (.inl rfl)
        · have hy2 : ge.scope.names.lookup y = some .free := hy
          rw [hS] at hy2
          exact hy2
      obtain ⟨c, e1, _⟩ := look e
      exact ⟨c, e1⟩
    · intro y c z
      cases z
    · show ge.frame = some ge.locals
      rw [hge]
      rfl
    · intro b hb
      refine ⟨?_, fun y c e z => ?_⟩
      · show b ≠ ge.locals
        rw [hL]
        exact Nat.ne_of_lt (hfp b hb).2
      · exact (hfp b hb).1.2.2.2.2.1 y c (inC e).1 z
    · intro b o e hb
      rcases (hfp b hb).1.2.2.2.1 with z | z
      · exact I.ok.noex b o e z
      · exact absurd (Nat.lt_of_lt_of_le (Heap.lt_size e) (Nat.le_trans I.ok.bsz z)) (Nat.lt_irrefl _)
    · intro b hb z
      rcases List.mem_cons.mp (I.stkSub b z) with z | z
      · exact (hfp b hb).1.2.1 z
      · exact (hfp b hb).1.2.2.1 z
  have frL : H s.heap.objs.size = none := I.hok.fresh (Nat.le_refl _)
  refine ⟨okG, os5, bare5, Un.kept k5, ⟨m, ?_, fun i y av e1 e2 e3 => ?_⟩, fun y c e => ?_, ?_, fun y c e => I.freeC y c (inC e).1, fun p hp => ?_, I.hok.kept k5, by rw [wipe_length]; exact I.len⟩
  · show s5.heap.Ns ge.locals m
    rw [hL]
    exact ns5
  · obtain ⟨e2, hne⟩ := wipe_some e2
    have e3 : Vis ge.scope y := e3
    rw [hS] at e3
    have nol : scope.names.lookup y ≠ some .local := fun z => by
      rcases ok.own _ (PySem.mem_of_lookup z) (.inl rfl) with q | q
      · obtain ⟨p, hp, hpy⟩ := List.mem_map.mp q
        have e5 := ok.ix p hp
        have e6 : p.1 = y := hpy
        rw [e6] at e5
        exact hne (List.mem_map.mpr ⟨p, hp, nodup_ix hN e5 e1⟩)
      · exact q (List.mem_of_getElem? e1)
    have hf : scope.names.lookup y = some .free := by
      rcases e3 with z | z | z
      · exact absurd z nol
      · exact kindF z (.inl rfl)
      · exact z
    obtain ⟨m0, hn, hl⟩ := I.loc
    have hvis : Vis X.env.scope y := (ok.free _ (PySem.mem_of_lookup hf) rfl).elim (fun k => .inr (.inl k)) (fun k => .inr (.inr k))
    obtain ⟨u, r, q⟩ := hl i y av e1 e2 hvis
    obtain ⟨c, g1, g2⟩ := look hf
    refine ⟨u, r, .inr ⟨.inr ?_, c, g1, ?_⟩⟩
    · show ge.scope.names.lookup y = some .free
      rw [hS]
      exact hf
    · rcases q with ⟨k, _⟩ | ⟨_, c', e', z⟩
      · have k : X.env.scope.names.lookup y = some .local := k
        rcases ok.free _ (PySem.mem_of_lookup hf) rfl with k' | k'
        · have k2 : X.env.scope.names.lookup y = some .cell := k'
          rw [k2] at k
          cases k
        · have k2 : X.env.scope.names.lookup y = some .free := k'
          rw [k2] at k
          cases k
      · rw [g2] at e'
        cases e'
        exact z.keeps k5
  · obtain ⟨v, z⟩ := I.cell y c (inC e).1
    exact ⟨v, z.keeps k5⟩
  · show H ge.locals = none
    rw [hL]
    exact frL
  · have hp2 : p ∈ ([] : List (Addr × Obj)) ++ [(ga, go)] := hp
    rw [List.nil_append] at hp2
    rcases List.mem_cons.mp hp2 with e | e
    · subst e
      refine ⟨hga, I.hok.fresh (Nat.le_of_lt hgt), ?_, fun z => ?_, hgd⟩
      · show ga ≠ ge.locals
        rw [hL]
        exact Nat.ne_of_gt hgt
      · have z2 : ga ∈ frs X.stack := z
        obtain ⟨_, o, ho, _⟩ := I.stack.mem z2
        exact absurd (Nat.lt_trans (Heap.lt_size ho) hgt) (Nat.lt_irrefl _)
    · cases e
end
section
variable {X : Cx} {pins : List (Addr × Obj)} {σ : L2.St} {H : Hp} {s : Shared}
/-- the generator's object -/
def genO (X : Cx) (s4 : Shared) : Obj := { cls := .type "generator", data := .fields #[.int s4.gens.size 0, .str "<genexpr>" (s4.toks + 1), .str (X.env.qual ++ "<genexpr>") (s4.toks + 1 + 1)] }
/-- the generator is made: its source has come, the def's table may have grown -/
theorem gen_make {c P : Addr} {elt tg iter : Expr} {gpos : Pos} {scope : Scope} {own : List (Str × Nat)} {wi : TI} {k : Nat} {Q' : Value → Shared → Prop} {R : It → Hp → Prop} (hr : Room k X.A) (TB : GxR.TabB X.base X.mg c P) (hcode : X.env.code = .ref c)
    (ok : BlkOk X.N X.env.scope scope own) (hco : scope.isCoroutine = false) (nocell : ∀ y ∈ scope.names, y.2 ≠ .cell) (hdot : scope.names.lookup (".0" : Str) = some NameKind.local) (hi : PI X tg iter wi) (hs : ∀ v, genFold iter X.env v = pure v)
    (I : Inv X pins σ H s) (h : wi σ H fun J H1 => GxR.TabG H1 P ∧ R J H1)
    (hQ : ∀ (it : Addr) (fp : List Addr) (tn : Nat → Heap → Prop) (J : It) (H1 H2 : Hp) (code : Value) (s4 : Shared) (h5 : Heap), Inv X pins σ H2 s4 → GxR.Tabbed P H1 H2 → Turn X.prog X.w X.K tg J fp it tn → tn 0 s4.heap →
      (∀ b ∈ fp, FpOk X pins H2 b ∧ b < s4.heap.objs.size) → R J H1 → h5.Ns s4.heap.objs.size (fun y => if y = ".0" then some (.ref it) else none) → Heap.SameBut s4.heap.objs.size (s4.heap.push { cls := .type "frame", data := .dict #[] }) h5 →
      Q' (.ref h5.objs.size) { s4 with gens := s4.gens.push (.fresh (.compStart (.GeneratorExp elt [⟨tg, iter, [], 0⟩] scope gpos) 0 (.ref it) .none (genEnv scope (cloFrom X.env.cells scope.names []) s4.heap.objs.size code builtinsNs X.env))), toks := s4.toks + 1 + 1 + 1, heap := h5.push (genO X s4) }) :
    wpAny (model X.prog X.w) X.A (eval (.GeneratorExp elt [⟨tg, iter, [], 0⟩] scope gpos) X.env) Q' X.xe s := by
  have hfree : ∀ y ∈ scope.names, y.2 = .free → ∃ c, X.env.cells.lookup y.1 = some c := fun y hy e => by
    rcases ok.free y hy e with z | z
    · exact I.ok.has _ (.inl z)
    · exact I.ok.has _ (.inr z)
  refine wpAny_GeneratorExp_make hco (closure_ok hfree) nocell hdot ok.kind (by have := hr.dp; omega) ?_ hs
  refine thn (hi.run pins s σ H _ I h) fun xv s1 hx => thn hx fun itv s2 h2 => ?_
  obtain ⟨it, fp, tn, J, H1, rfl, I1, T, st, f1, ⟨ps, hP, ht⟩, q1⟩ := h2
  have hPs : s2.heap.get? P = some { cls := .none, data := .fields ps } := I1.hok P _ hP
  have cd : PySem.W.CodeHd s2.heap c P := TB.code.keeps fun b u e => I1.bk b u e
  have nP : ∀ b, H1 b = none → b ≠ P := fun b e z => by
    rw [z, hP] at e
    cases e
  have fsz : ∀ b ∈ fp, b < s2.heap.objs.size := fun b hb => by
    obtain ⟨o, e, _⟩ := T.obj _ _ st b hb
    exact Heap.lt_size e
  have cont : ∀ (code : Value) (h3 : Heap) (tk : Nat) (ps' : Array Value), Heap.ExtBut P s2.heap h3 → s2.heap.objs.size ≤ h3.objs.size → h3.get? P = some { cls := .none, data := .fields ps' } → (∃ more, ps' = ps ++ more) → TriplesOk ps'.toList →
      wpAny (model X.prog X.w) X.A (builtinsFor X.env.globals X.env.builtins) (fun bi s4 => ∀ h5, h5.Ns s4.heap.objs.size (fun y => if y = ".0" then some (.ref it) else none) → Heap.SameBut s4.heap.objs.size (s4.heap.push { cls := .type "frame", data := .dict #[] }) h5 →
        Q' (.ref h5.objs.size) { s4 with gens := s4.gens.push (.fresh (.compStart (.GeneratorExp elt [⟨tg, iter, [], 0⟩] scope gpos) 0 (.ref it) .none (genEnv scope (cloFrom X.env.cells scope.names []) s4.heap.objs.size code bi X.env))), toks := s4.toks + 1 + 1 + 1, heap := h5.push (genO X s4) }) X.xe { s2 with heap := h3, toks := tk } := by
    intro code h3 tk ps' hx hsz hP3 hmore ht3
    obtain ⟨bm, ob, e1, e2, e3, e4, e5, e6, e7, e8⟩ := TB.bm
    have keep3 : ∀ b u, b ≠ P → s2.heap.get? b = some u → h3.get? b = some u := fun b u hb e => hx b u hb e
    refine wpAny_builtinsFor (m := X.mg) (by rw [I1.ok.glob]; exact (I1.mod.glob.keeps I1.bk).extBut hx TB.gP) e1 e2 (keep3 _ _ e4 (I1.bk _ _ e5)) e6 e7 e8 ?_
    intro h5 n5 b5
    obtain ⟨more, em⟩ := hmore
    have J0 := GxR.inv_tab (more := more) (h' := h3) (g' := s2.gens) (d' := s2.drawn) (t' := tk) I1 hP keep3 (by rw [← em]; exact hP3) I1.bare
    refine hQ it fp tn J H1 (upd H1 P (.tbl (ps ++ more))) code { s2 with heap := h3, toks := tk } h5 J0 ⟨⟨ps ++ more, upd_same, by rw [← em]; exact ht3⟩, fun b hb => upd_ne hb⟩ T ?_ ?_ q1 n5 b5
    · refine T.keep _ _ _ st fun b hb o e => keep3 b o (nP b (f1 b hb).1) e
    · intro b hb
      refine ⟨⟨?_, (f1 b hb).2⟩, Nat.lt_of_lt_of_le (fsz b hb) hsz⟩
      rw [upd_ne (nP b (f1 b hb).1)]
      exact (f1 b hb).1
  refine ⟨I1.nolimit, ?_⟩
  cases hf : codeAmong gpos ps.toList with
  | none =>
    refine wpAny_genexprCodeX hcode (cd.code hPs ht) (cd.tab hPs) hf fun c' h' tk hx hge hlt hco' _ htab' _ => ?_
    obtain ⟨o1, vs, f1', tf, fl, tg', inF, tx, tt, op, _, _, _, _, _, _, _, _, _, htr, _⟩ := hco'
    exact cont _ h' tk _ hx (Nat.le_trans hge (Nat.le_of_lt hlt)) htab'.2 ⟨_, rfl⟩ htr
  | some cv =>
    refine wpAny_genexprCode_hit hcode (cd.code hPs ht) hf ?_
    exact cont cv s2.heap s2.toks ps (Heap.ExtBut.refl _ _) (Nat.le_refl _) hPs ⟨#[], by simp⟩ ht
end
/-- nothing but the table of generators has changed -/
structure Woke (s s2 : Shared) : Prop where
  hp : s2.heap = s.heap
  os : s2.os = s.os
  br : AllBare s2.gens
theorem inv_woke {X : Cx} {pins : List (Addr × Obj)} {σ : L2.St} {H : Hp} {s s2 : Shared} (I : Inv X pins σ H s) (k : Woke s s2) : Inv X pins σ H s2 := by
  obtain ⟨h2, g2, d2, t2, o2⟩ := s2
  obtain ⟨h1, g1, d1, t1, o1⟩ := s
  obtain ⟨e1, e2, br⟩ := k
  dsimp only at e1 e2
  subst e1 e2
  exact ⟨I.ok, I.os, br, I.base, I.loc, I.cell, I.free, I.freeC, I.pin, I.hok, I.len⟩
/-- what a generator expression under all is asked -/
def gTurns (J : It) (g : TG) (te : TE) (σw : L2.St) (vs : List Nat) (W : Nat → Nat → Hp → Prop) (Q : Bool → Hp → Prop) : Prop :=
  ∀ i m H, W i m H → (J.stop i H ∧ Q true H) ∨ (J.go i H ∧ ∀ x H', J.yld i H x H' → g x σw H' fun σ2 H2 => wipe σ2 vs = σw ∧ te σ2 H2 fun y H3 => ∃ b, y = .bl b ∧ if b = true then ∃ m', m' < m ∧ W (i + 1) m' H3 else Q false H3)
def gFin (G : Cx) (pn : Addr × Obj) (σw : L2.St) (Q : Bool → Hp → Prop) (b : Bool) (s : Shared) : Prop := ∃ H', Inv G [pn] σw H' s ∧ Q b H'
def gY (G : Cx) (pn : Addr × Obj) (σw : L2.St) (Q : Bool → Hp → Prop) : Protocol := fun _ _ v s kap =>
  ∃ b : Bool, v = .bool b ∧ (∃ H', Inv G [pn] σw H' s) ∧ (b = true → ∀ s2, Woke s s2 → kap (.send .none) s2) ∧ (b = false → gFin G pn σw Q false s)
section
variable {G : Cx} {pn : Addr × Obj} {σw : L2.St} {Q : Bool → Hp → Prop} {A2 : Around} {elt tg iter : Expr} {scope : Scope} {gpos : Pos} {it : Addr} {fp : List Addr} {tn : Nat → Heap → Prop} {J : It} {g : TG} {te : TE} {vs : List Nat} {W : Nat → Nat → Hp → Prop}
theorem gen_loop (hA : G.A = A2.over (.compLoop (.GeneratorExp elt [⟨tg, iter, [], 0⟩] scope gpos) 0 (.ref it) .none G.env) []) (hc : G.calm = true) (hex : G.ex = fp) (hpn : G.pn = []) (hxe : G.xe = fun _ _ => False) (hco : G.env.scope.isCoroutine = false)
    (T : Turn G.prog G.w G.K tg J fp it tn) (hgp : ∀ b ∈ fp, pn.1 ≠ b) (pg : PG G tg g) (pe : PE G elt te) (hsw : ∀ σ2 : L2.St, wipe σ2 vs = σw → σ2.length = σw.length ∧ ∀ (i : Nat) v, σw[i]? = some (some v) → σ2[i]? = some (some v)) (turn : gTurns J g te σw vs W Q) :
    ∀ (m n i : Nat) (s₀ s : Shared), m < n → (∃ H', Inv G [pn] σw H' s ∧ tn i s.heap ∧ (∀ b ∈ fp, H' b = none) ∧ W i m H') →
      Seg (model G.prog G.w) A2 (fun _ _ r s1 => r = .ok .next ∧ gFin G pn σw Q true s1) (gY G pn σw Q) n s₀ (.compLoop (.GeneratorExp elt [⟨tg, iter, [], 0⟩] scope gpos) 0 (.ref it) .none G.env)
        ((model G.prog G.w).den (.compLoop (.GeneratorExp elt [⟨tg, iter, [], 0⟩] scope gpos) 0 (.ref it) .none G.env)) [] s := by
  have stat : ∀ {σ' : L2.St} {H' : Hp} {s' : Shared}, Inv G [pn] σ' H' s' → (∀ b ∈ fp, H' b = none) → ∀ b ∈ fp, FpOk G [pn] H' b := fun {σ' H' s'} I' hn b hb => by
    have hb2 : b ∈ G.ex := by
      rw [hex]
      exact hb
    refine ⟨hn b hb, (I'.ok.exf b hb2).1, I'.ok.exfs b hb2, .inl hb2, fun x c e => (I'.ok.exf b hb2).2 x c e, fun p hp => ?_⟩
    rw [hpn] at hp
    have hp2 : p ∈ [pn] := hp
    rw [List.mem_singleton.mp hp2]
    exact hgp b hb
  intro m
  induction m using Nat.strongRecOn with
  | ind m ih =>
    rintro n i s₀ s hmn ⟨H', I, st, nf, w⟩
    obtain ⟨n, rfl⟩ : ∃ n', n = n' + 1 := ⟨n - 1, by omega⟩
    show Seg _ A2 _ _ _ s₀ _ ((compTurn (.GeneratorExp elt [⟨tg, iter, [], 0⟩] scope gpos) 0 (.ref it) .none G.env).onRaise (leaving G.env)) [] s
    rw [compTurn_gen, Sem.onRaise_eq_wrap]
    refine seg_bind_wrap (wpAny_standAt ?_)
    rcases turn i m H' w with ⟨stop, qq⟩ | ⟨gox, step⟩
    · have td := T.done G rfl rfl rfl hc i [pn] s σw H' (fun _ _ => False) I (stat I nf) st stop
      rw [hA] at td
      refine seg_bind_wrap (thnF td fun r s6 z => ?_)
      obtain ⟨hr, I6⟩ := z
      subst hr
      exact seg_end (.ok .next) ⟨rfl, H', I6, qq⟩
    · have ti := T.item G rfl rfl rfl hc i [pn] s σw H' (fun _ _ => False) I (stat I nf) st gox
      rw [hA] at ti
      refine seg_bind_wrap (thnF ti fun r s6 z => ?_)
      obtain ⟨u, hr, h6⟩ := z
      subst hr
      refine seg_bind_wrap (thnF h6 fun _ s7 z => ?_)
      obtain ⟨x, H7, I7, r7, y7, st7, n7⟩ := z
      have I7' := I7.pinned (stat I7 n7) (T.obj _ _ st7)
      have pr := pg.run _ s7 _ H7 x u _ I7' r7 (step x H7 y7)
      rw [hA, hxe] at pr
      refine seg_bind_wrap (thnF pr fun _ s8 z => ?_)
      obtain ⟨σ8, H8, I8, hw8, q8⟩ := z
      have hy : ∀ v, yieldOut G.env v = yieldValue v := fun v => by simp only [yieldOut, hco, Bool.false_eq_true, if_false]
      simp only [List.forIn_nil, hy]
      refine seg_bind_wrap (wpAny_pure ?_)
      simp only [if_true]
      rw [Sem.bind_eq_wrap', Sem.bind_eq_wrap', Sem.wrap_wrap, Sem.wrap_wrap]
      have er := pe.run _ s8 σ8 H8 _ I8 q8
      rw [hA, hxe] at er
      refine seg_wrap (thnF er fun z s10 zz => ?_)
      obtain ⟨yv, H10, I10, r10, b, rfl, nx⟩ := zz
      cases r10
      have pin' : ∀ b ∈ fp, ∀ o, s7.heap.get? b = some o → s10.heap.get? b = some o ∧ H10 b = none := fun b hb o e =>
        let z := I10.pin (b, o) (List.mem_append_right _ (List.mem_append_right _ (mem_pinsAt hb e)))
        ⟨z.1, z.2.1⟩
      obtain ⟨hl8, hk8⟩ := hsw σ8 hw8
      have J10 : Inv G [pn] σw H10 s10 := (I10.unpinned (pins := [pn])).weak hl8.symm hk8
      refine seg_at (seg_yield rfl rfl rfl ⟨b, rfl, ⟨H10, J10⟩, fun hb s2 wk => ?_, fun hb => ?_⟩)
      · subst hb
        rw [if_pos rfl] at nx
        obtain ⟨m', hm', w'⟩ := nx
        refine seg_again rfl (ih m' hm' n (i + 1) s2 s2 (by omega) ⟨H10, inv_woke J10 wk, ?_, fun b hb => ?_, w'⟩)
        · rw [wk.hp]
          exact T.keep _ _ _ st7 fun b hb o e => (pin' b hb o e).1
        · obtain ⟨o, e, _⟩ := T.obj _ _ st7 b hb
          exact (pin' b hb o e).2
      · subst hb
        exact ⟨H10, J10, nx⟩
end
section
variable {M : Model} {A2 : Around} {R : GenEnd} {Y : Protocol} {n : Nat} {s₀ s : Shared} {elt tg iter : Expr} {scope : Scope} {gpos : Pos} {it : Addr} {ge : Env}
/-- the first turn -/
theorem gen_first {P : Program} {w : World} (hself : ∀ (Q : Value → Shared → Prop) (E : Value → Shared → Prop), Q (.ref it) s → wpAny (model P w) (A2.over (.compStart (.GeneratorExp elt [⟨tg, iter, [], 0⟩] scope gpos) 0 (.ref it) .none ge) []) (pyIter (.ref it)) Q E s)
    (loop : Seg (model P w) A2 R Y n s₀ (.compLoop (.GeneratorExp elt [⟨tg, iter, [], 0⟩] scope gpos) 0 (.ref it) .none ge) ((model P w).den (.compLoop (.GeneratorExp elt [⟨tg, iter, [], 0⟩] scope gpos) 0 (.ref it) .none ge)) [] s) :
    Seg (model P w) A2 R Y n s₀ (.compStart (.GeneratorExp elt [⟨tg, iter, [], 0⟩] scope gpos) 0 (.ref it) .none ge) ((model P w).den (.compStart (.GeneratorExp elt [⟨tg, iter, [], 0⟩] scope gpos) 0 (.ref it) .none ge)) [] s := by
  show Seg _ A2 _ _ _ s₀ _ ((compStart (.GeneratorExp elt [⟨tg, iter, [], 0⟩] scope gpos) 0 (.ref it) .none ge).onRaise (leaving ge)) [] s
  unfold compStart
  rw [Sem.onRaise_eq_wrap]
  show Seg _ A2 _ _ _ s₀ _ ((ask >>= _).wrap _ _ _ _) [] s
  refine seg_bind_wrap (wpAny_askSetting ?_)
  split
  · exact seg_again rfl loop
  · first
      | exact seg_bind_wrap (wpAny_rule (seg_bind_wrap (wpAny_standAt (seg_bind_wrap (hself _ _ (seg_again rfl loop))))))
      | (refine seg_bind_wrap (wpAny_rule ?_)
         show Seg _ A2 _ _ _ s₀ _ ((standAt iter.pos >>= _).wrap _ _ _ _) [] s
         exact seg_bind_wrap (wpAny_standAt (seg_bind_wrap (hself _ _ (seg_again rfl loop)))))
end
theorem bare_set {gens : Array GenState} {x : GenState} (h : AllBare gens) (hx : x.bare = true) (i : Nat) : AllBare (gens.setIfInBounds i x) := fun y hy => by
  rw [Array.mem_iff_getElem?] at hy
  obtain ⟨j, hj⟩ := hy
  by_cases e : i = j
  · subst e
    by_cases hi : i < gens.size
    · rw [Array.getElem?_setIfInBounds_self_of_lt hi] at hj
      rw [← Option.some.inj hj]
      exact hx
    · rw [Array.getElem?_eq_none (by simpa using hi)] at hj
      cases hj
  · rw [Array.getElem?_setIfInBounds_ne e] at hj
    exact h y (Array.mem_iff_getElem?.mpr ⟨j, hj⟩)
/-- all over the generator at a, number gi: its turns by the protocol -/
theorem all_gen {G : Cx} {pn : Addr × Obj} {σw : L2.St} {Q : Bool → Hp → Prop} {A : Around} {gi : Nat} {RR : Result → Shared → Prop} (hh : A.handled = none) (hroom : A.depth < recursionLimit) (hgen : ∀ h : Heap, h.get? pn.1 = some pn.2 → h.IsGen pn.1 gi)
    (hR : ∀ b s1, gFin G pn σw Q b s1 → ∀ s2 : Shared, (∀ b o, s1.heap.get? b = some o → s2.heap.get? b = some o) → s2.os = s1.os → AllBare s2.gens → RR (.ok (.ret (.bool b))) s2) :
    ∀ (n : Nat) (s : Shared), (∃ H', Inv G [pn] σw H' s) → gi < s.gens.size → (∃ gs, s.gens[gi]? = some gs ∧ ∀ s2, Woke s s2 → gs.Goes (model G.prog G.w) A.in1.in1 (fun _ _ r s1 => r = .ok .next ∧ gFin G pn σw Q true s1) (gY G pn σw Q) n (.send .none) s2) →
      codeAny (model G.prog G.w) A (.builtin "all.loop" ⟨[.ref pn.1], []⟩) RR s := by
  intro n
  induction n using Nat.strongRecOn with
  | ind n ih =>
    rintro s ⟨H', I⟩ hgi ⟨gs, hgs, hgo⟩
    have hpin := (I.pin pn (List.mem_append_right _ (List.mem_singleton.mpr rfl))).1
    have brun : AllBare (s.setGen gi .running).gens := bare_set I.bare rfl gi
    refine codeAny_builtin F.entry_all_loop ?_
    rw [Around.under_plainId F.plain_all_loop _]
    show wpAny _ A.in1 (pyNext (.ref pn.1) >>= _) _ _ s
    refine wpAny_bind (GenW.wpAny_gsz (n := s.gens.size) (Nat.le_refl _) ?_)
    refine wpAny_pyNext_genexpQ (P := fun _ _ s1 => gFin G pn σw Q true s1) hh I.nolimit hroom (hgen _ hpin) hgs (hgo _ ⟨rfl, rfl, brun⟩) (fun v s₁ gs' hb hv hsz => ?_) (fun s₁ hp h' hk hsz => ?_)
    · obtain ⟨b, rfl, ⟨H1, I1⟩, ht, hf⟩ := hv
      have b1 : AllBare (s₁.setGen gi gs').gens := bare_set I1.bare hb gi
      refine wpAny_bind (wpAny_holding (wpAny_truthy_bool ?_))
      refine wpAny_bind (wpAny_letGo ?_)
      cases b with
      | false =>
        simp only [Bool.false_eq_true, if_false]
        refine wpAny_bind (wpAny_rule (wpAny_pure ?_))
        exact hR false s₁ (hf rfl) (s₁.setGen gi gs') (fun _ _ e => e) rfl b1
      | true =>
        simp only [if_true]
        have hlt : gi < (s₁.setGen gi gs').gens.size := Nat.lt_of_lt_of_le hgi hsz
        have hlt1 : gi < s₁.gens.size := by
          have e := GenW.setGen_size s₁ gi gs'
          omega
        cases n with
        | zero => exact absurd (ht rfl s₁ ⟨rfl, rfl, I1.bare⟩) id
        | succ n =>
          refine wpAny_pure ⟨plainId_quiet F.plain_all_loop _, ih n (Nat.lt_succ_self n) (s₁.setGen gi gs') ⟨H1, inv_woke I1 ⟨rfl, rfl, b1⟩⟩ hlt ⟨gs', ?_, fun s2 wk => ht rfl s2 ⟨wk.hp, wk.os, wk.br⟩⟩⟩
          show (s₁.gens.setIfInBounds gi gs')[gi]? = some gs'
          rw [Array.getElem?_setIfInBounds_self_of_lt hlt1]
    · refine wpAny_bind (wpAny_rule (wpAny_pure ?_))
      obtain ⟨H1, I1, q1⟩ := id hp
      exact hR true s₁ hp { s₁.setGen gi .finished with heap := h' } hk rfl (bare_set I1.bare rfl gi)
def tAllG (P : Addr) (wi : TI) (g : TG) (te : TE) (vs : List Nat) : TE := fun σ H Q => wi σ H fun J H1 => GxR.TabG H1 P ∧ ∀ H2, GxR.Tabbed P H1 H2 → ∃ W : Nat → Nat → Hp → Prop, (∃ m, W 0 m H2) ∧ gTurns J g te (wipe σ vs) vs W (fun b H' => Q (.bl b) H')
theorem pe_allG {X : Cx} {c P : Addr} {elt tg iter : Expr} {p pos gpos : Pos} {scope : Scope} {own : List (Str × Nat)} {wi : TI} {g : TG} {te : TE} {k : Nat} (hr : Room (k + 1) X.A) (hc : X.calm = true) (hN : X.N.Nodup) (hg : Gl X "all") (hm : X.mg "all" = none) (hb : bootBuiltins "all" = some (.builtin "all"))
    (TB : GxR.TabB X.base X.mg c P) (hcode : X.env.code = .ref c) (ok : BlkOk X.N X.env.scope scope own) (hco : scope.isCoroutine = false) (nocell : ∀ y ∈ scope.names, y.2 ≠ .cell) (hdot : scope.names.lookup (".0" : Str) = some NameKind.local) (hi : PI X tg iter wi)
    (hgt : ∀ (s : Shared) (H : Hp) (cl : List (Str × Addr)) (C : Addr) (code : Value) (fp : List Addr) (Ag : Around), PG (gcx X s H (genEnv scope cl C code builtinsNs X.env) fp Ag) tg g)
    (hel : ∀ (s : Shared) (H : Hp) (cl : List (Str × Addr)) (C : Addr) (code : Value) (fp : List Addr) (Ag : Around), Room k Ag → PE (gcx X s H (genEnv scope cl C code builtinsNs X.env) fp Ag) elt te)
    (hs : ∀ v, genFold iter X.env v = pure v := by intro _; rfl)
    (he : starEach [.GeneratorExp elt [⟨tg, iter, [], 0⟩] scope gpos] X.env = (false, eval (.GeneratorExp elt [⟨tg, iter, [], 0⟩] scope gpos) X.env) :: starEach [] X.env := by rfl) :
    PE X (.Call (.Name "all" p) [.GeneratorExp elt [⟨tg, iter, [], 0⟩] scope gpos] [] pos) (tAllG P wi g te (own.map (·.2))) := by
  constructor
  intro pins s σ H Q I h
  refine wpAny_Call_Name_kw (ld_blt I hg hm hb ?_)
  refine PyProof.Rows.callWith_builtin1 ?_ he (by rfl)
  rw [he]
  show wpAny _ _ (spliced ((false, eval (.GeneratorExp elt [⟨tg, iter, [], 0⟩] scope gpos) X.env) :: backTo pos (starEach [] X.env))) _ _ s
  refine Calls.spliced_cons (gen_make (hr.mono (Nat.le_succ k)) TB hcode ok hco nocell hdot hi hs I h fun it fp tn J H1 H2 code s4 h5 I4 tb T st f4 hR n5 b5 => ?_)
  refine Calls.spliced_nil ?_
  obtain ⟨W, ⟨m, w0⟩, turns⟩ := hR H2 tb
  show wpAny _ _ (call (.builtin "all") [.ref h5.objs.size]) _ _ _
  have sz5 : h5.objs.size = s4.heap.objs.size + 1 := by
    rw [b5.1, Heap.size_push]
  generalize hge : genEnv scope (cloFrom X.env.cells scope.names []) s4.heap.objs.size code builtinsNs X.env = ge
  have k5 : ∀ b o, s4.heap.get? b = some o → (h5.push (genO X s4)).get? b = some o := fun b o e =>
    Heap.get?_push_of_some _ (b5.extBut b o (Nat.ne_of_lt (Heap.lt_size e)) (Heap.get?_push_of_some _ e))
  have ga5 : (h5.push (genO X s4)).get? h5.objs.size = some (genO X s4) := Heap.get?_push_size _ rfl
  have hAg : (X.A.in1.in1.over (.compLoop (.GeneratorExp elt [⟨tg, iter, [], 0⟩] scope gpos) 0 (.ref it) .none ge) []).handled = none := hr.hd
  have hFr : (X.A.in1.in1.over (.compLoop (.GeneratorExp elt [⟨tg, iter, [], 0⟩] scope gpos) 0 (.ref it) .none ge) []).frames = some (ge :: X.stack) := by
    show pushEnvs [ge] (pushEnvs [] X.A.frames) = some (ge :: X.stack)
    rw [I4.ok.frames]
    rfl
  have hRm : Room k (X.A.in1.in1.over (.compLoop (.GeneratorExp elt [⟨tg, iter, [], 0⟩] scope gpos) 0 (.ref it) .none ge) []) := by
    have e1 : (X.A.in1.in1.over (.compLoop (.GeneratorExp elt [⟨tg, iter, [], 0⟩] scope gpos) 0 (.ref it) .none ge) []).depth = X.A.depth + 1 := rfl
    have e2 : (X.A.in1.in1.over (.compLoop (.GeneratorExp elt [⟨tg, iter, [], 0⟩] scope gpos) 0 (.ref it) .none ge) []).units = X.A.units + 5 := rfl
    have d1 := hr.dp
    have d2 := hr.un
    exact ⟨hr.hd, by rw [e1]; omega, by rw [e2]; omega⟩
  have I5 := gen_start (s5 := { s4 with gens := s4.gens.push (.fresh (.compStart (.GeneratorExp elt [⟨tg, iter, [], 0⟩] scope gpos) 0 (.ref it) .none ge)), toks := s4.toks + 1 + 1 + 1, heap := h5.push (genO X s4) }) I4 ok hN f4 hge.symm nocell hAg hFr k5 rfl (I4.bare.push rfl) (n5.keeps fun b o e => Heap.get?_push_of_some _ e) ga5 (by omega) (fun v z => by cases z)
  have st5 : tn 0 (h5.push (genO X s4)) := T.keep _ _ _ st fun b _ o e => k5 b o e
  refine call_function_tree F.kind_all F.plain_all F.entry_all (F.args_all1 _) ?_
  unfold Builtin.«all»
  refine wpAny_bind (m := oneArg "all" _) (wpAny_pure ?_)
  have isg : ∀ hh : Heap, hh.get? h5.objs.size = some (genO X s4) → hh.IsGen h5.objs.size s4.gens.size := fun hh e => ⟨_, _, _, e, rfl, rfl, rfl⟩
  refine wpAny_bind (wpAny_pyIter_gen (isg _ ga5) ?_)
  refine wpAny_pure ⟨plainId_quiet F.plain_all_loop _, ?_⟩
  refine all_gen (G := gcx X s4 H2 ge fp (X.A.in1.in1.over (.compLoop (.GeneratorExp elt [⟨tg, iter, [], 0⟩] scope gpos) 0 (.ref it) .none ge) [])) (pn := (h5.objs.size, genO X s4)) (σw := wipe σ (own.map (·.2))) (Q := fun b H' => Q (.bl b) H') (gi := s4.gens.size)
    hr.hd (by have := hr.dp; omega) isg (fun b s1 hf s2 hk ho hbr => ?_) (m + 1) _ ⟨H2, I5⟩ (by show s4.gens.size < (s4.gens.push _).size; rw [Array.size_push]; omega) ⟨.fresh (.compStart (.GeneratorExp elt [⟨tg, iter, [], 0⟩] scope gpos) 0 (.ref it) .none ge), by show (s4.gens.push _)[s4.gens.size]? = some _; rw [Array.getElem?_push_size], fun s2 wk => ⟨rfl, ?_⟩⟩
  · obtain ⟨H', I', q'⟩ := hf
    have un : Un (frs X.stack) fp H2 H' s4.heap s2.heap := Un.trans I'.base (Un.kept hk)
    have J' : Inv X pins σ H' s2 := I4.call' (ch := fp) (ho.trans I'.os) un (I'.hok.kept hk) hbr fun b hb => ⟨(f4 b hb).1.2.2.2.1, (f4 b hb).1.2.1, (f4 b hb).1.2.2.2.2.1, (f4 b hb).1.2.2.2.2.2⟩
    exact ⟨.bl b, H', J', rfl, q'⟩
  · have nfp : ∀ b ∈ fp, H2 b = none := fun b hb => (f4 b hb).1.1
    refine gen_first (fun Q1 E1 q1 => T.self _ 0 s2 Q1 E1 (by rw [wk.hp]; exact st5) q1) ?_
    refine gen_loop (G := gcx X s4 H2 ge fp (X.A.in1.in1.over (.compLoop (.GeneratorExp elt [⟨tg, iter, [], 0⟩] scope gpos) 0 (.ref it) .none ge) [])) (tn := tn) (vs := own.map (·.2)) (W := W) rfl hc rfl rfl rfl ?_ T (fun b hb => ?_) ?_ ?_ ?_ turns m (m + 1) 0 s2 s2 (Nat.lt_succ_self m) ⟨H2, inv_woke I5 wk, by rw [wk.hp]; exact st5, nfp, w0⟩
    · show ge.scope.isCoroutine = false
      rw [← hge]
      exact hco
    · have hb4 : b < s4.heap.objs.size := (f4 b hb).2
      intro z
      have z2 : h5.objs.size = b := z
      rw [← z2, sz5] at hb4
      exact absurd hb4 (Nat.not_lt.mpr (Nat.le_succ _))
    · rw [← hge]
      exact hgt _ _ _ _ _ _ _
    · subst hge
      exact hel _ _ _ _ _ _ _ hRm
    · intro σ2 e2
      refine ⟨?_, fun i v e3 => ?_⟩
      · rw [← wipe_length σ2 (own.map (·.2)), e2]
      · rw [← e2] at e3
        exact (wipe_some e3).1

/-- all over zip of two tuples of one length -/
theorem gturns_zipT {K : PySem.W.Frag} {a b : Addr} {xs ys : List V} {g : TG} {te : TE} {σw : L2.St} {vs : List Nat} {Q : Bool → Hp → Prop} {H : Hp} (hl : xs.length = ys.length) (Pv : Nat → Hp → Prop) (h0 : Pv 0 H) (hq : ∀ i H, Pv i H → SqT K H a xs ∧ SqT K H b ys)
    (hs : ∀ (i : Nat) (x y : V) (T : Addr) (H : Hp) (N : Hp → Prop), xs[i]? = some x → ys[i]? = some y → Pv i H → H T = none → (∀ H3, Pv (i + 1) H3 → N H3) → g (.ref T) σw (upd H T (.tup [x, y])) fun σ2 H2 => wipe σ2 vs = σw ∧ te σ2 H2 fun v H3 => ∃ b, v = .bl b ∧ if b = true then N H3 else Q false H3)
    (hd : ∀ H, Pv xs.length H → Q true H) : ∃ W : Nat → Nat → Hp → Prop, (∃ m, W 0 m H) ∧ gTurns (RZ.ItzT K a b) g te σw vs W Q := by
  refine ⟨fun i m H => m = xs.length - i ∧ i ≤ xs.length ∧ Pv i H, ⟨xs.length, rfl, Nat.zero_le _, h0⟩, fun i m H st => ?_⟩
  obtain ⟨em, le, pv⟩ := st
  have two := hq i H pv
  rcases Nat.lt_or_eq_of_le le with lt | eq
  · refine .inr ⟨⟨xs, ys, xs[i], ys[i], two.1, two.2, List.getElem?_eq_getElem lt, List.getElem?_eq_getElem (hl ▸ lt)⟩, fun v H' y => ?_⟩
    obtain ⟨tp, a1, a2, rfl, free, rfl, w1, w2⟩ := y
    exact hs i a1 a2 tp H _ (w1 xs two.1) (w2 ys two.2) pv free fun H3 p' => ⟨xs.length - (i + 1), by omega, rfl, lt, p'⟩
  · subst eq
    exact .inl ⟨⟨xs, ys, two.1, two.2, Or.inl (Nat.le_refl _)⟩, hd H pv⟩

/-! ### zip of a text and a tuple -/
def ItzS (K : PySem.W.Frag) (x : Str) (b : Addr) : It :=
  ⟨fun i H => ∃ (ys : List V) (c : Nat) (y : V), SqT K H b ys ∧ x.cps[i]? = some c ∧ ys[i]? = some y,
    fun i H v H' => ∃ (T : Addr) (c : Nat) (y : V), v = .ref T ∧ H T = none ∧ H' = upd H T (.tup [.str ⟨#[c]⟩, y]) ∧ x.cps[i]? = some c ∧ ∀ ys, SqT K H b ys → ys[i]? = some y,
    fun i H => ∃ ys : List V, SqT K H b ys ∧ i ≤ x.cps.size ∧ i ≤ ys.length ∧ (i = x.cps.size ∨ i = ys.length)⟩
theorem zip_sep {z TI TO i1 i2 b : Addr} (D : ZipApart z TI TO i1 i2 b b) : ZipSep2 z TI TO i1 i2 [i1] [i2, b] where
  TIz := D.TIz
  TOz := D.TOz
  TITO := D.TITO
  TIi1 := D.TIi1
  mem1 := List.mem_singleton.mpr rfl
  zf1 := fun h => D.i1z (List.mem_singleton.mp h).symm
  Tf1 := fun h => D.TOi1 (List.mem_singleton.mp h)
  TIi2 := D.TIi2
  mem2 := List.mem_cons_self
  zf2 := fun h => by
    rcases List.mem_cons.mp h with e | e
    · exact D.i2z e.symm
    · exact D.l1z (List.mem_singleton.mp e).symm
  Tf2 := fun h => by
    rcases List.mem_cons.mp h with e | e
    · exact D.TOi2 e
    · exact D.l1TO (List.mem_singleton.mp e).symm
  sep1_2 := fun h => by
    rcases List.mem_cons.mp h with e | e
    · exact D.i12 e
    · exact D.l1i1 (List.mem_singleton.mp e).symm
  sep2_1 := fun h => D.i12 (List.mem_singleton.mp h).symm
/-- the five cells of a running zip of the text x and the tuple at b, i turns done -/
structure ZipGo (x : Str) (t : Tok) (z TI TO i1 i2 b : Addr) (i : Nat) (h : Heap) : Prop where
  zp : IsZip h z TI TO .none
  ins : IsPair h TI (.ref i1) (.ref i2)
  out : ∃ p : Value × Value, IsPair h TO p.1 p.2
  txt : h.IsStrIter i1 (strIterType x) x t i
  tup : h.IsTupleIter i2 b i
theorem five {z TI TO i1 i2 c : Addr} {Pr : Addr → Prop} (h : c ∈ [z, TI, TO, i1, i2]) (pz : Pr z) (pI : Pr TI) (pO : Pr TO) (p1 : Pr i1) (p2 : Pr i2) : Pr c := by
  simp only [List.mem_cons, List.not_mem_nil, or_false] at h
  rcases h with rfl | rfl | rfl | rfl | rfl
  all_goals assumption
theorem apart5 {z TI TO i1 i2 c : Addr} (h : c ∉ [z, TI, TO, i1, i2]) : c ≠ z ∧ c ≠ TO ∧ c ≠ i1 ∧ c ≠ i2 := by
  simp only [List.mem_cons, List.not_mem_nil, or_false, not_or] at h
  exact ⟨h.1, h.2.2.1, h.2.2.2.1, h.2.2.2.2⟩
section
variable {x : Str} {t : Tok} {z TI TO i1 i2 b : Addr} {i : Nat} {h h' : Heap}
theorem ZipGo.obj (g : ZipGo x t z TI TO i1 i2 b i h) {c : Addr} (hc : c ∈ [z, TI, TO, i1, i2]) : ∃ o, h.get? c = some o ∧ ∀ v, o.data ≠ .cell v := by
  obtain ⟨p, hp⟩ := g.out
  obtain ⟨oa, ea, _, da⟩ := g.txt
  obtain ⟨ob, eb, _, db⟩ := g.tup
  refine five (Pr := fun c => ∃ o, h.get? c = some o ∧ ∀ v, o.data ≠ .cell v) hc ⟨_, g.zp, ?_⟩ ⟨_, g.ins, ?_⟩ ⟨_, hp, ?_⟩ ⟨oa, ea, ?_⟩ ⟨ob, eb, ?_⟩
  · intro v e; cases e
  · intro v e; cases e
  · intro v e; cases e
  · intro v e; rw [da] at e; cases e
  · intro v e; rw [db] at e; cases e
theorem ZipGo.lt (g : ZipGo x t z TI TO i1 i2 b i h) {c : Addr} (hc : c ∈ [z, TI, TO, i1, i2]) : c < h.objs.size := by
  obtain ⟨o, e, _⟩ := g.obj hc
  exact Heap.lt_size e
theorem ZipGo.on (g : ZipGo x t z TI TO i1 i2 b i h) (k : ∀ c ∈ [z, TI, TO, i1, i2], ∀ o, h.get? c = some o → h'.get? c = some o) : ZipGo x t z TI TO i1 i2 b i h' := by
  obtain ⟨p, hp⟩ := g.out
  obtain ⟨oa, ea, ra⟩ := g.txt
  exact ⟨k z (by simp) _ g.zp, k TI (by simp) _ g.ins, ⟨p, k TO (by simp) _ hp⟩, ⟨oa, k i1 (by simp) _ ea, ra⟩, g.tup.at (k i2 (by simp))⟩
end
theorem turn_zipS {P : Program} {w : World} {K : PySem.W.Frag} {elts : List Expr} {kk : Nat} {tpos : Pos} {x : Str} {t : Tok} {b z TI TO i1 i2 : Addr} (D : ZipApart z TI TO i1 i2 b b) :
    Turn P w K (.Tuple elts kk tpos) (ItzS K x b) [z, TI, TO, i1, i2] z (ZipGo x t z TI TO i1 i2 b) where
  mem := List.mem_cons_self
  obj := fun _ _ g _ hc => g.obj hc
  keep := fun _ _ _ g k => g.on k
  item := by
    intro X eP ew eK calm n pins s σ H E I fps g go
    subst eP ew eK
    obtain ⟨ys, c, y, tys, ec, ey⟩ := go
    obtain ⟨vs, rel, tupAt, _⟩ := I.tuple tys
    obtain ⟨u, eu, ru⟩ := rel.get ey
    obtain ⟨p, hp⟩ := g.out
    have zlt := g.lt (c := z) (by simp)
    have n1 : n < x.cps.size := Nat.lt_of_not_le fun le => by
      rw [Array.getElem?_eq_none le] at ec
      cases ec
    have n2 : n < vs.toArray.size := by simpa using (List.getElem?_eq_some_iff.mp eu).1
    have calmA : X.A.in1.handled = none := I.ok.hd calm
    refine wpAny_pyNext_zipD2_item (zip_sep D) (Draws.text calmA i1 x t) (Draws.tuple calmA i2 b D.l1i2 vs.toArray) g.zp g.ins hp g.txt ⟨g.tup, tupAt⟩ n1 n2 fun v1 v2 h1 tk P1 P2 zp1 out1 txt1 tup1 new1 _ kept1 => ?_
    obtain ⟨c', k, ec', rfl⟩ := P1
    obtain rfl : c = c' := Option.some.inj (ec.symm.trans ec')
    obtain rfl : u = v2 := Option.some.inj (eu.symm.trans (by simpa using P2))
    refine ⟨_, rfl, wpAny_letOwnedTupleGo_zip (s := { s with heap := h1, toks := tk }) zp1 fun h2 zp2 sb => ?_⟩
    have up : ∀ d, d ≠ z → h2.get? d = h1.get? d := fun d nd => sb.2 d nd
    have kept2 : ∀ d o, d ∉ [z, TI, TO, i1, i2] → s.heap.get? d = some o → h2.get? d = some o := fun d o nd e => by
      obtain ⟨a1, a2, a3, a4⟩ := apart5 nd
      rw [up d a1]
      exact kept1 d o a1 a2 a3 a4 e
    have new2 : h2.get? s.heap.objs.size = some { cls := .type "tuple", data := .seq #[.str ⟨#[c]⟩ k, u] } := (up _ (Nat.ne_of_gt zlt)).trans new1
    have I2 := I.turnedNew (t' := tk) (ch := [z, TI, TO, i1, i2]) (ob := .tup [.str ⟨#[c]⟩, y]) kept2 fps (Nat.le_refl _) ⟨show 2 ≤ sizeLine by decide, [.str ⟨#[c]⟩ k, u], .cons ⟨k, rfl⟩ (.cons ru .nil), ⟨_, new2, rfl, _, rfl⟩⟩
    refine ⟨.ref s.heap.objs.size, _, I2, rfl, ⟨_, c, y, rfl, I.hok.fresh (Nat.le_refl _), rfl, ec, fun l tl => (I.tuple_inj tl tys) ▸ ey⟩, ⟨zp2, ?_, ⟨(_, _), (up _ D.TOz).trans out1⟩, ?_, tup1.1.at fun o e => (up _ D.i2z).trans e⟩, fun d hd => ?_⟩
    · exact (up _ D.TIz).trans (kept1 TI _ D.TIz D.TITO D.TIi1 D.TIi2 g.ins)
    · obtain ⟨o, e, r⟩ := txt1
      exact ⟨o, (up _ D.i1z).trans e, r⟩
    · rw [upd_ne (Nat.ne_of_lt (g.lt hd))]
      exact (fps d hd).1
  done := by
    intro X eP ew eK calm n pins s σ H E I fps g stop
    subst eP ew eK
    obtain ⟨ys, tys, le1, le2, last⟩ := stop
    obtain ⟨vs, rel, tupAt, _⟩ := I.tuple tys
    obtain ⟨p, hp⟩ := g.out
    have lv : vs.toArray.size = ys.length := by simpa using rel.length.symm
    have calmA : X.A.in1.handled = none := I.ok.hd calm
    refine wpAny_pyNext_zipD2_end (zip_sep D) (Draws.text calmA i1 x t) (Draws.tuple calmA i2 b D.l1i2 vs.toArray) g.zp g.ins hp g.txt ⟨g.tup, tupAt⟩ le1 (by omega) (by omega) fun h1 tk kept1 => ⟨rfl, ?_⟩
    refine I.turnedL (t' := tk) (ch := [z, TI, TO, i1, i2]) (fun d o nd e => ?_) fps
    obtain ⟨a1, a2, a3, a4⟩ := apart5 nd
    exact kept1 d o a1 a2 a3 a4 e
  self := fun _ _ _ _ _ g q => wpAny_pyIter_zip g.zp q
def iZipS (K : PySem.W.Frag) (ta : TA) : TI := fun σ H R => ta σ H fun vs H1 => ∃ x b ys, vs = [.str x, .ref b] ∧ SqT K H1 b ys ∧ R (ItzS K x b) H1
theorem pi_zipS {X : Cx} {ea eb : Expr} {ta : TA} {p pos tpos : Pos} {elts : List Expr} {kk : Nat} (gl : Gl X "zip") (own : X.mg "zip" = none) (args : PA X [ea, eb] ta)
    (star : starEach [ea, eb] X.env = (false, eval ea X.env) :: starEach [eb] X.env := by rfl) (plain : (backTo pos (starEach [eb] X.env)).any (·.1) = false := by rfl) :
    PI X (.Tuple elts kk tpos) (.Call (.Name "zip" p) [ea, eb] [] pos) (iZipS X.K ta) := by
  constructor
  intro pins s σ H R I q
  refine Call_ (ld_blt I gl own PyProof.Rows.boot_zip (PyProof.Rows.callWith_type1 ?_ star plain))
  refine thn (args.run pos pins s σ H _ I q) fun us s1 ans => ?_
  obtain ⟨vs, H1, J, rel, x, b, ys, rfl, tys, go⟩ := ans
  obtain ⟨u1, u2, rfl, r1, r2⟩ := vals2 rel
  obtain ⟨t, rfl⟩ := r1
  obtain rfl : u2 = Value.ref b := r2
  obtain ⟨its, _, tupAt, _⟩ := J.tuple tys
  have blt : b < s1.heap.objs.size := by
    obtain ⟨_, e, _⟩ := id tupAt
    exact Heap.lt_size e
  have fresh : ∀ c, s1.heap.objs.size ≤ c → FpOk X pins H1 c := fun c le => J.fpOk le (J.hok.fresh le)
  refine zip_begins2 (begins_text x t) (begins_tuple b its.toArray) trivial tupAt fun h2 zp ins out o1 o2 _ kept => wpAny_pyIter_zip zp ?_
  refine ⟨_, [s1.heap.objs.size + 4, s1.heap.objs.size + 2, s1.heap.objs.size + 3, s1.heap.objs.size, s1.heap.objs.size + 1], _, _, H1, rfl, J.kept (t' := s1.toks) kept, turn_zipS (t := t) (PySem.W.ktu_apart s1.heap.objs.size b b blt blt), ?_, fun c hc => ?_, go⟩
  · exact ⟨zp, ins, ⟨(_, _), out⟩, ⟨_, o1, rfl, rfl⟩, ⟨_, o2, rfl, rfl⟩⟩
  · exact five (Pr := FpOk X pins H1) hc (fresh _ (by omega)) (fresh _ (by omega)) (fresh _ (by omega)) (fresh _ (by omega)) (fresh _ (by omega))
/-- a loop over zip of a text and a tuple of one length -/
theorem for_zipS {K : PySem.W.Frag} {x : Str} {b : Addr} {ys : List V} {g : TG} {tb : TS} {D : Ends} {σ : L2.St} {H : Hp} (hl : x.cps.size = ys.length) (Pv : Nat → L2.St → Hp → Prop) (h0 : Pv 0 σ H) (hq : ∀ i σ H, Pv i σ H → SqT K H b ys)
    (hs : ∀ (i c : Nat) (y : V) (T : Addr) (σ : L2.St) (H : Hp), x.cps[i]? = some c → ys[i]? = some y → Pv i σ H → H T = none → g (.ref T) σ (upd H T (.tup [.str ⟨#[c]⟩, y])) fun σ2 H2 => tb { D with nx := Pv (i + 1), ct := Pv (i + 1), bk := D.nx } σ2 H2) (hd : ∀ σ H, Pv ys.length σ H → D.nx σ H) :
    ∃ W : Nat → Nat → L2.St → Hp → Prop, (∃ m, W 0 m σ H) ∧ ∀ i m σ H, W i m σ H →
      ((ItzS K x b).stop i H ∧ D.nx σ H) ∨ ((ItzS K x b).go i H ∧ ∃ N : L2.St → Hp → Prop, (∀ σ' H', N σ' H' → ∃ m', m' < m ∧ W (i + 1) m' σ' H') ∧ ∀ v H', (ItzS K x b).yld i H v H' → g v σ H' fun σ2 H2 => tb { D with nx := N, ct := N, bk := D.nx } σ2 H2) := by
  refine ⟨fun i m σ H => m = ys.length - i ∧ i ≤ ys.length ∧ Pv i σ H, ⟨ys.length, rfl, Nat.zero_le _, h0⟩, fun i m σ H st => ?_⟩
  obtain ⟨em, le, pv⟩ := st
  have tys := hq i σ H pv
  rcases Nat.lt_or_eq_of_le le with lt | eq
  · refine .inr ⟨⟨ys, x.cps[i], ys[i], tys, Array.getElem?_eq_getElem (hl.symm ▸ lt), List.getElem?_eq_getElem lt⟩, Pv (i + 1), fun σ' H' p' => ⟨ys.length - (i + 1), by omega, rfl, lt, p'⟩, fun v H' y => ?_⟩
    obtain ⟨tp, c, a2, rfl, free, rfl, w1, w2⟩ := y
    exact hs i c a2 tp σ H w1 (w2 ys tys) pv free
  · subst eq
    exact .inl ⟨⟨ys, tys, Nat.le_of_eq hl.symm, Nat.le_refl _, .inr rfl⟩, hd σ H pv⟩
/-! ### d.update(e) -/
def tDUpd (td ty : TE) : TE := fun σ H Q => td σ H fun x H1 => ∃ a, x = .ref a ∧ IsD H1 a ∧ ty σ H1 fun y H2 => ∃ b kvs more, y = .ref b ∧ H2 a = some (.dK kvs) ∧ H2 b = some (.dK more) ∧ a ≠ b ∧ kvs.length + more.length ≤ sizeLine ∧ Q .non (upd H2 a (.dK (mergeK kvs more)))
theorem pe_dupd {X : Cx} {o e : Expr} {apos cpos : Pos} {td ty : TE} (ho : PE X o td) (he : PE X e ty) (m : M1 X o "update" apos e cpos) : PE X (.Call (.Attribute o "update" apos) [e] [] cpos) (tDUpd td ty) := by
  refine ⟨fun pins s σ H Q I h => ?_⟩
  refine wpAny_Call_method m.base m.few m.line PySem.F.plainAttrs_dict PySem.F.slot_dict_update PySem.F.type_dict_update (thn (ho.run pins s σ H _ I h) fun u s1 ⟨x, H1, I1, rx, a, ex, d, q1⟩ => ?_)
  subst ex
  obtain rfl : u = Value.ref a := rx
  obtain ⟨t1, t2, _⟩ := isD_at I1 d
  refine ⟨t1, t2, ?_⟩
  rw [m.trees]
  refine Calls.callWith_builtin rfl (Calls.evalArgs_plain (Calls.spliced_cons (thn (he.run pins s1 σ H1 _ I1 q1) fun iv s2 ⟨y, H2, I2, ry, b, kvs, more, ey, ea, eb, ne, hz, q2⟩ => Calls.spliced_nil ?_)))
  subst ey
  obtain rfl : iv = Value.ref b := ry
  obtain ⟨za, hda, vs, ra, dda⟩ := dk_of I2.hok ea
  obtain ⟨zb, hdb, ws, rb, ddb⟩ := dk_of I2.hok eb
  refine call_meetsIn PySem.F.slot_dict_update dda.typeIs PySem.F.entry_dict_update (PySem.F.args_dict_update_2 _ _) (meets_dict_update (mixKind X.prog X.w) a b ne hdb) ⟨vs, ws, dda, ddb, (by rw [← ra.length, ← rb.length]; exact hz), fun h' hmm _ hs => ?_⟩
  have he' : ∃ q, h'.get? a = some q := let ⟨q, _, _, hq, _⟩ := hmm; ⟨q, hq⟩
  exact ⟨.non, _, d_write I2 (by rw [ea]; exact True.intro) hs he' (dk_new (Nat.le_trans (length_mergeK more kvs) hz) hda (rb.merge ra) hmm), rfl, q2⟩
/-! ### list(text), tuple == () -/
def sgs (x : Str) : List V := x.cps.toList.map fun c => V.str ⟨#[c]⟩
theorem vals_at : ∀ {xs : List V} {us : List Value}, xs.length = us.length → (∀ (j : Nat) (v : V) (u : Value), xs[j]? = some v → us[j]? = some u → RelV v u) → Vals xs us
  | [], [], _, _ => .nil
  | [], _ :: _, h, _ => nomatch h
  | _ :: _, [], h, _ => nomatch h
  | v :: xs, u :: us, h, k => .cons (k 0 v u rfl rfl) (vals_at (Nat.succ.inj h) fun j a b ha hb => k (j + 1) a b ha hb)
theorem call_list_txt {X : Cx} (hc : X.calm = true) : CallR X (.type "list") (fun xs H Q => ∃ x : Str, xs = [.str x] ∧ x.cps.size ≤ sizeLine ∧ ∀ l, H l = none → Q (.ref l) (upd H l (.lst (sgs x)))) := by
  intro pins s σ H xs us Q I r h
  obtain ⟨x, rfl, hz, q⟩ := h
  obtain ⟨u, rfl, rx⟩ := vals1 r
  obtain ⟨t, rfl⟩ := rx
  refine call_list_str (I.ok.hd hc) x t (hn := hz) fun h' tk acc' c' hk hS' hacc => ?_
  have hl : (sgs x).length = acc'.toList.length := by
    unfold sgs
    rw [List.length_map, Array.length_toList, Array.length_toList]
    exact hacc.1.symm
  have rv : Vals (sgs x) acc'.toList := vals_at hl fun j v u hv hu => by
    obtain ⟨c, k, hc', rfl⟩ := hacc.2 j u (by simpa using hu)
    unfold sgs at hv
    rw [List.getElem?_map] at hv
    obtain ⟨c2, h2, rfl⟩ := Option.map_eq_some_iff.mp hv
    have z : x.cps.toList[j]? = some c := by simpa using hc'
    rw [z] at h2
    cases h2
    exact ⟨k, rfl⟩
  have hz2 : (sgs x).length ≤ sizeLine := by
    unfold sgs
    rw [List.length_map, Array.length_toList]
    exact hz
  exact ⟨.ref s.heap.objs.size, _, I.laid (t' := tk) hk (Nat.le_refl _) (show ObjOk X.prog X.w _ h' _ (.lst (sgs x)) from ⟨hz2, acc'.toList, c', rv, by simpa using hS'⟩), rfl, q _ (I.hok.fresh (Nat.le_refl _))⟩
def rEq0 (K : PySem.W.Frag) : R2 := fun x y H Q => ∃ a b xs, x = .ref a ∧ y = .ref b ∧ SqT K H a xs ∧ SqT K H b [] ∧ Q (.bl xs.isEmpty) H
theorem op_eq0 {X : Cx} (hu : X.A.units < cLine) : OpR X (compareOp .Eq) (rEq0 X.K) := by
  intro pins s σ H x y v u Q I rx ry h
  obtain ⟨a, b, xs, rfl, rfl, ha, hb, q⟩ := h
  cases rx
  cases ry
  obtain ⟨its, r1, p1, _⟩ := I.tuple ha
  obtain ⟨its2, r2, p2, _⟩ := I.tuple hb
  cases r2
  refine SeqAt.eq_tupleAt (e := fun _ => true) p1 p2 hu (fun j h1 h2 => by simp at h2) ?_
  have e : ((List.range (min its.toArray.size ([] : List Value).toArray.size)).all (fun _ => true) && its.toArray.size == ([] : List Value).toArray.size) = xs.isEmpty := by
    cases r1 with
    | nil => rfl
    | cons _ _ => simp
  rw [e]
  exact ⟨.bl _, H, I, rfl, q⟩

/-! ### the end of a law whose defs make generator expressions -/
/-- the def nm of the top, its code object's table empty -/
def TabAt (mg : Str → Option Value) (h : Heap) (nm : Str) : Prop := ∃ (f : Addr) (o : Obj) (fd : FuncData) (c P : Addr), mg nm = some (.ref f) ∧ h.get? f = some o ∧ o.data = .func fd ∧ fd.code = .ref c ∧ h.TableAt c P #[]
theorem tab_empty {K : PySem.W.Frag} {mg : Str → Option Value} {h : Heap} {nm : Str} {f c P : Addr} {o : Obj} {fd : FuncData} {e : Value} {dd : Option Addr} {vs : Array Value} {sl : Array (Option Value)} (t : TabAt mg h nm) (X : K.In h) (g : mg nm = some (.ref f))
    (lf : K.lookup f = some o) (df : o.data = .func fd) (cf : fd.code = .ref c) (lc : K.lookup c = some ⟨e, dd, .fields vs, sl⟩) (at11 : vs[11]? = some (.ref P)) : h.get? P = some { cls := .none, data := .fields #[] } := by
  obtain ⟨f', o', fd', c', P', m1, m2, m3, m4, ⟨oc, vc, w1, _, w3, w4⟩, tp⟩ := t
  have ef : f = f' := Value.ref.inj (Option.some.inj (g.symm.trans m1))
  subst ef
  have eo : o = o' := Option.some.inj ((X f o lf).symm.trans m2)
  subst eo
  have ed : fd = fd' := Data.func.inj (df.symm.trans m3)
  subst ed
  have ec : c = c' := Value.ref.inj (cf.symm.trans m4)
  subst ec
  have eq : (⟨e, dd, .fields vs, sl⟩ : Obj) = oc := Option.some.inj ((X c _ lc).symm.trans w1)
  subst eq
  have ev : vs = vc := Data.fields.inj w3
  subst ev
  have eP : P = P' := Value.ref.inj (Option.some.inj (at11.symm.trans w4))
  subst eP
  exact tp
theorem walk_tabs {l : PySem.W.OpenLaw} {most lv : Nat} {prog : Program} {lo : List Str} {XP : (Str → Option Value) → Heap → Prop} {YP : World → Heap → Prop} {df : DefRec} {K : Params → PySem.W.Frag} {par : Str} (names : List Str)
    (h1 : l.most = some most) (h2 : most ≤ sizeLine) (h3 : df.params.defaults = []) (room : Room lv callerA) (recs : (names.all fun nm => (recsOf prog).any fun r => r.name == nm) = true) (kin : ∀ (w : World) (h : Heap), YP w h → (K w.params).In h)
    (at_ : ∀ (w : World) (mg : Str → Option Value) (fa : Addr) (h : Heap), (K w.params).In h → h.Ns mainGlobals mg → mg df.name = some (.ref fa) → (∀ nm ∈ names, TabAt mg h nm) → LamX.LawAtS l w (K w.params) CX0 lv most par mg fa h) :
    PySem.W.WalkO prog lo XP YP l.row.toRowW df [] (fun f vs => PySem.call f vs) := by
  refine Att.attach_callB h1 h3 fun w s0 s mg mb fa o pm cd doc a vs ns Gr Y _ _ _ name ob iar len bits gens => ?_
  have tabs : ∀ nm ∈ names, TabAt mg s.heap nm := fun nm hm => by
    obtain ⟨r, hr, er⟩ := List.any_eq_true.mp (List.all_eq_true.mp recs nm hm)
    obtain ⟨x1, x2, x3, x4, x5, y1, y2, y3, y4, _, y6⟩ := Gr.T.tab r hr
    rw [beq_iff_eq.mp er] at y1
    exact ⟨x1, x2, x3, x4, x5, y1, y2, y3, y4, y6⟩
  obtain ⟨fd, cs, sp, t1, t2, t3, bind, asked, ok⟩ := at_ w mg fa _ (kin w _ Y) Gr.T.g name tabs
  exact LamX.law_callTs (kin w _ Y) Gr.T.g Gr.T.b Gr.T.builtins Gr.T.nolimit gens t1 t2 t3 Gr.T.bmain ob iar (Nat.le_trans len h2) room ok bind (fun H hH hS => asked H a ns len bits hH hS) fun _ _ _ z => z

end My
namespace My
open PySem L2
/-! ### a mid-condition behind a statement, an expression, a test -/
def sMid (t : TS) : TS := fun D σ H => ∃ M : L2.St → Hp → Prop, t { D with nx := M } σ H ∧ ∀ σ' H', M σ' H' → D.nx σ' H'
theorem ps_mid {X : Cx} {st : Stmt} {t : TS} (h : PS X st t) : PS X st (sMid t) := by
  refine ⟨fun pins s σ H D I z => ?_⟩
  obtain ⟨M, q, k⟩ := z
  refine thn (h.run pins s σ H { D with nx := M } I q) fun f s1 y => ?_
  cases f with
  | next =>
    obtain ⟨σ', H', I', y⟩ := y
    exact ⟨σ', H', I', k _ _ y⟩
  | ret v => exact y
  | brk => exact y
  | cont => exact y
def tMid (t : TT) : TT := fun σ H Q => ∃ M : Bool → Hp → Prop, t σ H M ∧ ∀ b H', M b H' → Q b H'
theorem pt_mid {X : Cx} {e : Expr} {t : TT} (h : PT X e t) : PT X e (tMid t) := by
  refine ⟨fun pins s σ H Q I z => ?_⟩
  obtain ⟨M, q, k⟩ := z
  exact thn (h.run pins s σ H M I q) fun b s1 ⟨H', I', y⟩ => ⟨H', I', k _ _ y⟩
def eMid (t : TE) : TE := fun σ H Q => ∃ M : V → Hp → Prop, t σ H M ∧ ∀ v H', M v H' → Q v H'
theorem pe_mid {X : Cx} {e : Expr} {t : TE} (h : PE X e t) : PE X e (eMid t) := by
  refine ⟨fun pins s σ H Q I z => ?_⟩
  obtain ⟨M, q, k⟩ := z
  exact thn (h.run pins s σ H M I q) fun u s1 ⟨v, H', I', r, y⟩ => ⟨v, H', I', r, k _ _ y⟩
theorem yes_ite {σ : L2.St} {H : Hp} {A B : Hp → Prop} (h : A H) : tYes σ H (fun b H3 => if b = true then A H3 else B H3) := by
  unfold tYes
  exact (show (if true = true then A H else B H) from iteT h)
/-- xs[i] op= e, the read -/
theorem get_list {X : Cx} : PGet X (rIxL X.K) := by
  intro pins s σ H x y v u Q I rx ry h
  obtain ⟨p, xs, i, z, rfl, rfl, hq, he, q⟩ := h
  cases rx
  obtain ⟨t, rfl⟩ := ry
  obtain ⟨its, r, pl, hz⟩ := I.list hq
  obtain ⟨j, h1, h2, h3, h4, h5⟩ := atI_get he
  obtain ⟨w, ew, rw'⟩ := r.get h2
  have hl := r.length
  have hn := line63
  have fin : EP X pins σ Q w s := ⟨z, H, I, rw', q⟩
  by_cases h0 : 0 ≤ i
  · have hj : i.toNat = j := by
      rw [PySem.seqIndex_of h0 h5] at h1
      exact Option.some.inj h1
    exact PySem.wpAny_getItem_list pl.isList h0 (by omega) (by rw [hj]; simpa using ew) fin
  · have hj : (i + (its.toArray.size : Int)).toNat = j := by
      rw [PySem.seqIndex_neg (by omega) h4] at h1
      rw [List.size_toArray, ← hl]
      exact Option.some.inj h1
    exact PySem.wpAny_getItem_list_neg pl.isList (by omega) (by rw [List.size_toArray] <;> omega) (by omega) (by rw [hj]; simpa using ew) fin
theorem same_new {H : Hp} {p : Addr} {o : HO} (h : H p = none) : Same H (upd H p o) := fun b u q => by rw [upd_ne (ne_of_none q h)]; exact q
/-- all but d as it was -/
def But (d : Addr) (H H' : Hp) : Prop := ∀ b o, H b = some o → b ≠ d → H' b = some o
theorem But.refl {d : Addr} {H : Hp} : But d H H := fun _ _ e _ => e
theorem But.trans {d : Addr} {H H1 H2 : Hp} (x : But d H H1) (y : But d H1 H2) : But d H H2 := fun b o e n => y b o (x b o e n) n
theorem But.put {d : Addr} {H H1 : Hp} {o : HO} (x : But d H H1) : But d H (upd H1 d o) := fun b u e n => by
  rw [upd_ne n]
  exact x b u e n
theorem But.new {d p : Addr} {H H1 : Hp} {o : HO} (x : But d H H1) (n : H1 p = none) : But d H (upd H1 p o) := fun b u e nb => by
  have q := x b u e nb
  rw [upd_ne (ne_of_none q n)]
  exact q
theorem But.same {d : Addr} {H H1 H2 : Hp} (x : But d H H1) (s : Same H1 H2) : But d H H2 := fun b u e nb => s _ _ (x b u e nb)
theorem at_map {ns : List Int} {k : Int} (h0 : 0 ≤ k) (h : k < (ns.length : Int)) : ∃ v : Int, atI (ns.map V.int) k = some (.int v) ∧ v ∈ ns := by
  have hk : k.toNat < ns.length := by omega
  have ek : k = ((k.toNat : Nat) : Int) := by omega
  have q : atI (ns.map V.int) ((k.toNat : Nat) : Int) = some (.int ns[k.toNat]) := atI_nat (by rw [List.getElem?_map, List.getElem?_eq_getElem hk] <;> rfl)
  rw [← ek] at q
  exact ⟨_, q, List.getElem_mem _⟩
theorem at_any {α : Type} {xs : List α} {k : Int} (h0 : 0 ≤ k) (h : k < (xs.length : Int)) : ∃ v : α, atI xs k = some v ∧ v ∈ xs := by
  have hk : k.toNat < xs.length := by omega
  have ek : k = ((k.toNat : Nat) : Int) := by omega
  have q : atI xs ((k.toNat : Nat) : Int) = some xs[k.toNat] := atI_nat (List.getElem?_eq_getElem hk)
  rw [← ek] at q
  exact ⟨_, q, List.getElem_mem _⟩
theorem wide_ok {i j : Int} (h : 0 < j) (h2 : j < 2 ^ 100) : CDivW i j := wide_div (b := 100) h (by
  have e : ((j.natAbs : Nat) : Int) < ((2 ^ 100 : Nat) : Int) := by
    rw [Int.natCast_pow]
    show (j.natAbs : Int) < 2 ^ 100
    omega
  exact_mod_cast e) (by decide) (by decide)
theorem cut_map (ns : List Int) (hi : Option Int) : ∃ k : Nat, cutV (ns.map V.int) none hi = (ns.take k).map V.int := by
  refine ⟨HT.sIx ns.length ns.length hi, ?_⟩
  unfold cutV
  rw [HT.sIx_none, List.drop_zero, Nat.sub_zero, List.length_map, List.map_take]
theorem cut_nat {α : Type} (xs : List V) (k : Nat) : cutV xs none (some (k : Int)) = xs.take k := by
  unfold cutV
  rw [HT.sIx_none, List.drop_zero, Nat.sub_zero, HT.sIx_nat]
  by_cases h : k ≤ xs.length
  · rw [Nat.min_eq_left h]
  · rw [Nat.min_eq_right (by omega), List.take_of_length_le (Nat.le_refl _), List.take_of_length_le (by omega)]
theorem sz {n : Nat} (h : n ≤ 100000) : n ≤ sizeLine := Nat.le_trans h (by decide)
theorem szl {n : Nat} (h : n < 100000) : n < sizeLine := Nat.lt_of_lt_of_le h (by decide)
def spLaw (K : PySem.W.Frag) : Sp := fun vs H Q _ => ∃ (a : Addr) (ns : List Int), vs = [.ref a] ∧ SqL K H a (ns.map V.int) ∧ ns.length ≤ 63 ∧ (∀ z ∈ ns, Builtin.Int.intBits z ≤ 1048576) ∧ ∀ H', Q (.bl true) H'
/-! ### data of tuples -/
mutual
inductive Td (K : PySem.W.Frag) (H : Hp) : V → PyData → Prop
  | non : Td K H .non .none
  | bl (b : Bool) : Td K H (.bl b) (.bool b)
  | int (i : Int) : Td K H (.int i) (.int i)
  | str (x : Str) : Td K H (.str x) (.str x)
  | tup {a : Addr} {xs : List V} {ds : List PyData} : SqT K H a xs → TdAll K H xs ds → Td K H (.ref a) (.tuple ds)
inductive TdAll (K : PySem.W.Frag) (H : Hp) : List V → List PyData → Prop
  | nil : TdAll K H [] []
  | cons {v : V} {vs : List V} {d : PyData} {ds : List PyData} : Td K H v d → TdAll K H vs ds → TdAll K H (v :: vs) (d :: ds)
end
/-- tuples stay -/
def Tups (K : PySem.W.Frag) (H H' : Hp) : Prop := ∀ a xs, SqT K H a xs → SqT K H' a xs
theorem Tups.of_same {K : PySem.W.Frag} {H H' : Hp} (s : Same H H') : Tups K H H' := fun a xs h => by
  rcases h with h | h
  · rcases h with h | ⟨o, h⟩
    · exact .inl (.inl (s _ _ h))
    · exact .inl (.inr ⟨o, s _ _ h⟩)
  · exact .inr h
theorem Tups.of_but {K : PySem.W.Frag} {H H' : Hp} {d : Addr} {l : List V} (s : But d H H') (e : H d = some (.lst l)) : Tups K H H' := fun a xs h => by
  rcases h with h | h
  · rcases h with h | ⟨o, h⟩
    · exact .inl (.inl (s _ _ h (ne_of h e (by intro z; cases z))))
    · exact .inl (.inr ⟨o, s _ _ h (ne_of h e (by intro z; cases z))⟩)
  · exact .inr h
theorem Tups.trans {K : PySem.W.Frag} {H H1 H2 : Hp} (a : Tups K H H1) (b : Tups K H1 H2) : Tups K H H2 := fun p xs h => b _ _ (a _ _ h)
mutual
theorem Td.mono {K : PySem.W.Frag} {H H' : Hp} (t : Tups K H H') : ∀ {v : V} {d : PyData}, Td K H v d → Td K H' v d
  | _, _, .non => .non
  | _, _, .bl b => .bl b
  | _, _, .int i => .int i
  | _, _, .str x => .str x
  | _, _, .tup h k => .tup (t _ _ h) (TdAll.mono t k)
theorem TdAll.mono {K : PySem.W.Frag} {H H' : Hp} (t : Tups K H H') : ∀ {vs : List V} {ds : List PyData}, TdAll K H vs ds → TdAll K H' vs ds
  | _, _, .nil => .nil
  | _, _, .cons h k => .cons (Td.mono t h) (TdAll.mono t k)
end
mutual
theorem Td.dp {K : PySem.W.Frag} {H : Hp} : ∀ {v : V} {d : PyData}, Td K H v d → Dp K H v d
  | _, _, .non => .non
  | _, _, .bl b => .bl b
  | _, _, .int i => .int i
  | _, _, .str x => .str x
  | _, _, .tup h k => .tup h (TdAll.dp k)
theorem TdAll.dp {K : PySem.W.Frag} {H : Hp} : ∀ {vs : List V} {ds : List PyData}, TdAll K H vs ds → DpAll K H vs ds
  | _, _, .nil => .nil
  | _, _, .cons h k => .cons (Td.dp h) (TdAll.dp k)
end
theorem TdAll.length {K : PySem.W.Frag} {H : Hp} : ∀ {vs : List V} {ds : List PyData}, TdAll K H vs ds → vs.length = ds.length
  | _, _, .nil => rfl
  | _, _, .cons _ k => congrArg (· + 1) (TdAll.length k)
theorem TdAll.append {K : PySem.W.Frag} {H : Hp} : ∀ {vs ws : List V} {ds es : List PyData}, TdAll K H vs ds → TdAll K H ws es → TdAll K H (vs ++ ws) (ds ++ es)
  | _, _, _, _, .nil, k => k
  | _, _, _, _, .cons h k, z => .cons h (TdAll.append k z)
theorem TdAll.get {K : PySem.W.Frag} {H : Hp} : ∀ {vs : List V} {ds : List PyData}, TdAll K H vs ds → ∀ {v : V}, v ∈ vs → ∃ d, d ∈ ds ∧ Td K H v d
  | _, _, .nil, _, h => nomatch h
  | _, _, .cons (d := d) h k, v, m => by
    rcases List.mem_cons.mp m with e | m
    · subst e
      exact ⟨d, List.mem_cons_self, h⟩
    · obtain ⟨d', hd, t⟩ := TdAll.get k m
      exact ⟨d', List.mem_cons_of_mem _ hd, t⟩
theorem inV_str (w : Str) : ∀ ws : List Str, inV (.str w) (ws.map V.str) = decide (w ∈ ws)
  | [] => rfl
  | x :: r => by
    have ih := inV_str w r
    unfold inV at ih ⊢
    rw [List.map_cons, List.any_cons, ih]
    by_cases e : x = w
    · subst e
      simp [eqV]
    · have e2 : ¬ w = x := fun z => e z.symm
      simp [eqV, e, e2]
theorem flat_strs : ∀ ws : List Str, (ws.map V.str).all flatV = true
  | [] => rfl
  | _ :: r => by
    rw [List.map_cons, List.all_cons, flat_strs r]
    rfl
/-- the kinds -/
def kinds : List Str := ["a", "b", "c", "d", "e", "f", "g", "h"]
/-- a tuple as a target, the table and the number as they are written -/
theorem pg_tupK {X : Cx} {K : PySem.W.Frag} {pos : Pos} {es : List Expr} {k : Nat} {t : TGs} {n : Nat} (hK : X.K = K) (hc : X.calm = true) (h : PGs X es t)
    (hn : (assignEach es X.env).length = n) (hst : (assignEach es X.env).findIdx? (·.1) = none := by rfl) : PG X (.Tuple es k pos) (gTup K n t) := by
  subst hK
  exact pg_tup hc h hn hst
theorem cut_tail (x : V) (ps : List V) : cutV (x :: ps) (some 1) none = ps := by
  unfold cutV
  rw [show (1 : Int) = ((1 : Nat) : Int) from rfl, HT.sIx_nat, HT.sIx_none, List.length_cons]
  have e : min 1 (ps.length + 1) = 1 := by omega
  rw [e, List.drop_succ_cons, List.drop_zero, Nat.add_sub_cancel, List.take_of_length_le (Nat.le_refl _)]
theorem u1 {k : Nat} {A : Around} (h : Room k A) : A.units + 1 < cLine := by
  have := h.units
  omega
theorem u0 {k : Nat} {A : Around} (h : Room k A) : A.units < cLine := by
  have := h.units
  omega
theorem u65 {k : Nat} {A : Around} (h : Room k A) : A.units + 65 < cLine := by
  have := h.un
  omega
theorem op_in_seqK {X : Cx} {K : PySem.W.Frag} (hK : X.K = K) : OpR X (compareOp .In) (rIn K false) := by
  subst hK
  exact op_in_seq
theorem op_notIn_seqK {X : Cx} {K : PySem.W.Frag} (hK : X.K = K) : OpR X (compareOp .NotIn) (rIn K true) := by
  subst hK
  exact op_notIn_seq

/-! ### own exceptions as values -/
def veB : List Value := [.type "ValueError", .type "Exception", .type "BaseException", .type "object"]
/-- an exception object of the class C, not raised, with or without fields -/
def ExAt (H : Hp) (a C : Addr) : Prop := H a = some (ExO (.ref C) a) ∨ ∃ (d : Addr) (fs : List (Str × V)), H a = some (exo a C (some d)) ∧ H d = some (exd d fs)
theorem ExAt.same {H H' : Hp} {a C : Addr} (s : Same H H') (h : ExAt H a C) : ExAt H' a C := by
  rcases h with h | ⟨d, fs, h, g⟩
  · exact .inl (s _ _ h)
  · exact .inr ⟨d, fs, s _ _ h, s _ _ g⟩
section
variable {X : Cx}
theorem ExAt.inst {pins : List (Addr × Obj)} {σ : L2.St} {H : Hp} {s : Shared} {a C : Addr} (I : Inv X pins σ H s) (h : ExAt H a C) : ∃ (oe : Obj) (od : Option Obj), PySem.W.InstAt s.heap a oe C od := by
  rcases h with h | ⟨d, fs, h, g⟩
  · obtain ⟨⟨oe, vs, ho, hz, hd, _⟩, _, _⟩ := I.hok a _ h
    refine ⟨oe, none, ho, hz.1, ?_, ?_⟩
    · unfold PySem.W.notCls
      rw [hd]
    · rw [hz.2]
      trivial
  · obtain ⟨t1, ho⟩ := exo_at I.hok h
    obtain ⟨mA, hm, _⟩ := exd_at I.hok g
    obtain ⟨od, hod, _⟩ := lookIn_ns hm
    exact ⟨_, some od, ho, rfl, rfl, hod⟩
theorem pe_exc0 {C : Addr} {x : Str} {p pos : Pos} (hc : PySem.W.excIn X.K C veB "ValueError.__new__" = true) (gC : X.mg x = some (.ref C)) (kC : PySem.W.keepIn X.K (.ref C) = true) (hg : Gl X x) (hdb : (x == ("__debug__" : Str)) = false := by decide) :
    PE X (.Call (.Name x p) [] [] pos) (fun _ H Q => ∀ a, H a = none → Q (.ref a) (upd H a (ExO (.ref C) a))) := by
  constructor
  intro pins st σ H Q I h
  refine wpAny_Call_Name_kw (ld_glob I hg gC ?_ hdb)
  refine PySem.W.callWith_K0 I.kIn kC ?_
  obtain ⟨bm, N, nm, qn, bs, hdct, sn, sub, ab, col, dd, k0, k1, k2, k3, k5, mN, hC, hN, hni, OT⟩ := exc_obj I.kIn hc
  refine wpAny_call_exc_subT PySem.F.excBase_ValueError OT hC hN hni (fun h' a hm => ?_) (Nat.zero_le _)
  have free : H a = none := I.hok.gone hm.new
  obtain ⟨t, ht, _, _⟩ := hm.there
  have ok : ObjOk X.prog X.w (upd H a (ExO (.ref C) a)) h' a (ExO (.ref C) a) := exO_ok ht ⟨rfl, rfl⟩ rfl rfl rfl (show 4 < 6 by decide)
  exact ⟨.ref a, _, I.laidN hm.keeps hm.new free ok, rfl, h a free⟩
/-- C(e, ..), C an own exception class with an own __init__, as a value -/
def tOexV (C : Addr) (sp : Sp) (ta : TA) : TE := fun σ H Q => ta σ H fun vs H1 => vs.length ≤ 1000 ∧ ∀ a, H1 a = none → sp (.ref a :: vs) (upd H1 a (exo a C none)) (fun v H2 => v = .non ∧ Q (.ref a) H2) (fun _ _ _ => False)
theorem pe_oexV {x : Str} {C fI : Addr} {k : Nat} {fd : FuncData} {ps : List Str} {sp : Sp} {e : Expr} {es : List Expr} {ta : TA} {p pos : Pos} (OC : OexC X.K C) (iC : PySem.W.findIn X.K (.ref C) "__init__" = some (some (.ref fI)))
    (tI : PySem.W.typeIn X.K (.ref fI) = some (.type "function")) (F1 : FnOk X.prog X.w X.K X.mg X.base CX0 k fI fd ps sp) (hr : Room (k + 1) X.A) (hb : Binds X.K fd ps []) (hg : Gl X x) (hm : X.mg x = some (.ref C)) (ha : PA X (e :: es) ta)
    (hdb : (x == ("__debug__" : Str)) = false := by decide) (he : starEach (e :: es) X.env = (false, eval e X.env) :: starEach es X.env := by rfl) (hpl : (backTo pos (starEach es X.env)).any (·.1) = false := by rfl) :
    PE X (.Call (.Name x p) (e :: es) [] pos) (tOexV C sp ta) := by
  constructor
  intro pins st σ H Q I h
  obtain ⟨nm, q, N, bs, bm, sn, sub, ab, col, dd, k0, k1, k2, k3, k5, hC, hbm⟩ := OC.cls
  refine wpAny_Call_Name_kw (ld_glob I hg hm ?_ hdb)
  refine PySem.W.callWith_K (h₀ := X.base) I.ok.mod.kin OC.kC (thn (ha.run pos pins st σ H _ I h) fun us s1 z => ?_) he hpl
  obtain ⟨vs, H1, I1, r1, hz, q1⟩ := z
  refine ⟨I1.kIn, ?_⟩
  obtain ⟨hp, g, dr, tk, os⟩ := s1
  have hn : H1 (hp.objs.size + 1) = none := I1.hok.fresh (Nat.le_succ _)
  have hq := q1 _ hn
  have kk : ∀ b o, hp.get? b = some o → ((hp.push (PySem.W.kdv_tup us)).push (PySem.HandSPX.excO C hp.objs.size)).get? b = some o := fun b o z =>
    Heap.get?_push_of_some _ (Heap.get?_push_of_some _ z)
  have hget : ((hp.push (PySem.W.kdv_tup us)).push (PySem.HandSPX.excO C hp.objs.size)).get? (hp.objs.size + 1) = some (PySem.HandSPX.excO C hp.objs.size) := by
    heap_get
  have I2 : Inv X pins σ (upd H1 (hp.objs.size + 1) (exo (hp.objs.size + 1) C none)) ⟨(hp.push (PySem.W.kdv_tup us)).push (PySem.HandSPX.excO C hp.objs.size), g, dr, tk, os⟩ :=
    I1.laid (t' := tk) (a := hp.objs.size + 1) (o := exo (hp.objs.size + 1) C none) (h' := (hp.push (PySem.W.kdv_tup us)).push (PySem.HandSPX.excO C hp.objs.size)) kk (Nat.le_succ _) (exo_ok hget)
  have r2 : Vals (V.ref (hp.objs.size + 1) :: vs) (Value.ref (hp.objs.size + 1) :: us) := .cons rfl r1
  have hl : (Value.ref (hp.objs.size + 1) :: us).length = ps.length := by
    rw [← r2.length]
    exact F1.len _ _ _ _ hq
  have hus : us.length ≤ sizeLine := by
    rw [← Paired.length r1, sizeLine_eq]
    omega
  have hb2 := hb ⟨(hp.push (PySem.W.kdv_tup us)).push (PySem.HandSPX.excO C hp.objs.size), g, dr, tk, os⟩ (Value.ref (hp.objs.size + 1) :: us) I2.kIn (by rw [List.append_nil]; exact hl)
  rw [List.append_nil] at hb2
  refine wpAny_call (PySem.HandSPX.call_own PySem.F.excBase_ValueError (fun Y => PySem.HandSPX.refsVE_contains Y bm hbm) (I1.kIn _ _ hC) (PySem.W.looks_findIn I1.kIn iC) (fun self => PySem.W.bind_fn I1.kIn self tI) hus
    (codeAny_mono (F1.run _ X.stack _ _ ⟨Value.ref (hp.objs.size + 1) :: us, []⟩ (Value.ref (hp.objs.size + 1) :: us) _ _ (fun _ _ _ => False) (hr.make C us []) (I2.env0.make C us []) hb2 r2 hq) fun r s' z => ?_))
  cases r with
  | error er => exact absurd z id
  | ok fl =>
    cases fl with
    | ret u =>
      obtain ⟨v, H', J, rv, ev, qq⟩ := I2.after z
      subst ev
      exact ⟨rv, .ref (hp.objs.size + 1), H', J, rfl, qq⟩
    | next => exact absurd z id
    | brk => exact absurd z id
    | cont => exact absurd z id
/-- what isinstance asks of the class of an exception -/
structure XcC (K : PySem.W.Frag) (C : Addr) : Prop where
  cl : (PySem.W.clsIn K C).isSome = true
  hg : PySem.W.findIn K (.ref C) "__getattribute__" = some (some (.builtin "BaseException.__getattribute__"))
  hk : PySem.W.findIn K (.ref C) "__getattr__" = some none
  hs : PySem.W.subIn K (.ref C) (.type "BaseException") = some true
  ha : PySem.W.findIn K (.ref C) "__class__" = some (some (.builtin "object.__class__"))
  hn : PySem.W.specialIn K (.builtin "object.__class__") "__get__" = some (some (.builtin "getset_descriptor.__get__"))
  ht : PySem.W.takesIn K (.builtin "object.__class__") = some true
  hm : PySem.W.mroIn K C (.type "object") = some true
def xcB (K : PySem.W.Frag) (C : Addr) : Bool := (PySem.W.clsIn K C).isSome && (decide (PySem.W.findIn K (.ref C) "__getattribute__" = some (some (.builtin "BaseException.__getattribute__"))) && (decide (PySem.W.findIn K (.ref C) "__getattr__" = some none) &&
  (decide (PySem.W.subIn K (.ref C) (.type "BaseException") = some true) && (decide (PySem.W.findIn K (.ref C) "__class__" = some (some (.builtin "object.__class__"))) && (decide (PySem.W.specialIn K (.builtin "object.__class__") "__get__" = some (some (.builtin "getset_descriptor.__get__"))) &&
  (decide (PySem.W.takesIn K (.builtin "object.__class__") = some true) && decide (PySem.W.mroIn K C (.type "object") = some true)))))))
theorem xcB_ok {K : PySem.W.Frag} {C : Addr} (h : xcB K C = true) : XcC K C := by
  unfold xcB at h
  simp only [Bool.and_eq_true, decide_eq_true_eq] at h
  obtain ⟨h1, h2, h3, h4, h5, h6, h7, h8⟩ := h
  exact ⟨h1, h2, h3, h4, h5, h6, h7, h8⟩
def rIsX (K : PySem.W.Frag) : List V → Hp → VK → Prop := fun xs H Q => ∃ (a C : Addr) (c : V) (cv : Value) (b : Bool), xs = [.ref a, c] ∧ ExAt H a C ∧ XcC K C ∧ ClsV c cv ∧ PySem.W.kitOne K (.ref C) cv = some b ∧ Q (.bl b) H
theorem call_isX : CallR X (.builtin "isinstance") (rIsX X.K) := by
  intro pins st σ H xs us Q I r h
  obtain ⟨a, C, c, cv, b, rfl, ex, xc, kc, e, q⟩ := h
  obtain ⟨u1, u2, rfl, r1, r2⟩ := vals2 r
  cases r1
  have e2 := kc.eq r2
  subst e2
  obtain ⟨oe, od, J⟩ := ex.inst I
  exact PySem.W.kia_one (PySem.W.kitx_exc xc.cl xc.hg xc.hk xc.hs xc.ha xc.hn xc.ht xc.hm) I.kIn J e (fun z => nomatch z) fun tk => ⟨.bl b, H, I.kept (t' := tk) fun _ _ z => z, rfl, q⟩
theorem call_isXK {K : PySem.W.Frag} (hK : X.K = K) : CallR X (.builtin "isinstance") (rIsX K) := by
  subst hK
  exact call_isX
/-- e.f of such an object -/
def tXv (K : PySem.W.Frag) (f : Str) (te : TE) : TE := fun σ H Q => te σ H fun x H1 => ∃ (a C d : Addr) (fs : List (Str × V)) (v : V), x = .ref a ∧ H1 a = some (exo a C (some d)) ∧ H1 d = some (exd d fs) ∧ XfC K C ∧ PySem.W.findIn K (.ref C) f = some none ∧ fs.lookup f = some v ∧ Q v H1
theorem pe_xv {e : Expr} {te : TE} {pos : Pos} {n : Str} (he : PE X e te) (hb : attributeBase e n X.env (eval e X.env) = eval e X.env := by rfl) : PE X (.Attribute e n pos) (tXv X.K n te) := by
  constructor
  intro pins st σ H Q I h
  refine attr_of hb (thn (he.run pins st σ H _ I h) fun u s1 z => ?_)
  obtain ⟨x, H1, I1, rx, a, C, d, fs, v, rfl, h1, h2, xf, hno, hl, q⟩ := z
  cases rx
  obtain ⟨t1, ho⟩ := exo_at I1.hok h1
  obtain ⟨mA, hns, hrel⟩ := exd_at I1.hok h2
  obtain ⟨od, hod, hlk⟩ := lookIn_ns hns
  obtain ⟨u, hu, ru⟩ := RelO.some_of (v := v) (o := mA n) (by rw [← hl]; exact hrel n)
  have J : PySem.W.InstAt s1.heap a _ C (some od) := ⟨ho, rfl, rfl, hod⟩
  exact HandSPX.exc_get I1.kIn J xf.ga xf.gg xf.exC (PySem.W.findObj_own xf.hdC hno rfl (by rw [hlk, hu])) (handed_of ru) ⟨v, H1, I1.tok _, ru, q⟩
end
/-! ### facts of the written part, by one kernel run each -/
/-- a written tuple of texts -/
def strOf : Value → Option Str
  | .str x _ => some x
  | _ => none
def tupB (K : PySem.W.Frag) (a : Addr) (ws : List Str) : Bool := match K.lookup a with
  | some o => decide (o.cls = .type "tuple") && (match o.data with
    | .seq its _ => decide (its.size ≤ 1000) && decide (its.toList.map strOf = ws.map some)
    | _ => false)
  | none => false
theorem vals_str : ∀ {us : List Value} {ws : List Str}, us.map strOf = ws.map some → Vals (ws.map V.str) us
  | [], [], _ => .nil
  | [], _ :: _, h => nomatch h
  | _ :: _, [], h => nomatch h
  | u :: us, w :: ws, h => by
    rw [List.map_cons, List.map_cons] at h
    obtain ⟨h1, h2⟩ := List.cons.inj h
    refine .cons ?_ (vals_str h2)
    cases u with
    | str x t =>
      have e : x = w := Option.some.inj h1
      subst e
      exact ⟨t, rfl⟩
    | _ => exact nomatch h1
theorem tupB_ok {K : PySem.W.Frag} {a : Addr} {ws : List Str} (h : tupB K a ws = true) (H : Hp) : SqT K H a (ws.map V.str) := by
  unfold tupB at h
  split at h
  · rename_i o ho
    rw [Bool.and_eq_true] at h
    obtain ⟨h1, h2⟩ := h
    split at h2
    · rename_i its n hd
      rw [Bool.and_eq_true] at h2
      exact .inr ⟨o, its, n, ho, of_decide_eq_true h1, hd, sz (Nat.le_trans (of_decide_eq_true h2.1) (by decide)), vals_str (of_decide_eq_true h2.2)⟩
    · cases h2
  · cases h
/-- the refusals among one another, and under the first of them -/
def kitsB (K : PySem.W.Frag) (t : Addr) (cs : List Addr) : Bool := (List.range cs.length).all fun i => decide (PySem.W.kitOne K (.ref (cs.getD i 0)) (.ref t) = some true) && (List.range cs.length).all fun j => decide (PySem.W.kitOne K (.ref (cs.getD i 0)) (.ref (cs.getD j 0)) = some (decide (i = j)))
theorem kitsB_top {K : PySem.W.Frag} {t : Addr} {cs : List Addr} (h : kitsB K t cs = true) {i : Nat} (hi : i < cs.length) : PySem.W.kitOne K (.ref (cs.getD i 0)) (.ref t) = some true := by
  unfold kitsB at h
  have z := List.all_eq_true.mp h i (List.mem_range.mpr hi)
  rw [Bool.and_eq_true] at z
  exact of_decide_eq_true z.1
theorem kitsB_two {K : PySem.W.Frag} {t : Addr} {cs : List Addr} (h : kitsB K t cs = true) {i j : Nat} (hi : i < cs.length) (hj : j < cs.length) : PySem.W.kitOne K (.ref (cs.getD i 0)) (.ref (cs.getD j 0)) = some (decide (i = j)) := by
  unfold kitsB at h
  have z := List.all_eq_true.mp h i (List.mem_range.mpr hi)
  rw [Bool.and_eq_true] at z
  exact of_decide_eq_true (List.all_eq_true.mp z.2 j (List.mem_range.mpr hj))
def dws : List Str := ["new", "put", "paint", "tie", "cut", "add", "spread"]

end My
namespace My
open PySem PySem.Spec PyProof.Rows L2
/-! ### an exception caught and kept -/
/-- at a stands an exception of the class cls that was raised -/
def ExC (cls : Value) (d : Option Addr) (a : Addr) : HO := .ext fun h => ∃ (oe : Obj) (vs : Array Value), h.get? a = some oe ∧ Zc cls d oe ∧ oe.data = .fields vs
theorem exC_ok {P : Program} {w : World} {H : Hp} {h : Heap} {a : Addr} {cls : Value} {d : Option Addr} {oe : Obj} {vs : Array Value} (e : h.get? a = some oe) (z : Zc cls d oe) (dd : oe.data = .fields vs) : ObjOk P w H h a (ExC cls d a) := by
  refine ⟨⟨oe, vs, e, z, dd⟩, ⟨oe, e⟩, ?_⟩
  rintro h1 h2 ⟨o, v, e1, z1, d1⟩ st
  exact ⟨o, v, st _ e1, z1, d1⟩
/-- what stood nowhere at sI is none of the context's own: it may be tracked -/
theorem inv_seen {X : Cx} {pins : List (Addr × Obj)} {σI σ : L2.St} {HI H : Hp} {sI s : Shared} {a : Addr} {o : HO} (J : Inv X pins σI HI sI) (new : sI.heap.get? a = none) (I : Inv X pins σ H s) (na : H a = none) (ok : ObjOk X.prog X.w (upd H a o) s.heap a o) :
    Inv X pins σ (upd H a o) s := by
  have old : ∀ {b : Addr} {ob : Obj}, sI.heap.get? b = some ob → upd H a o b = H b := fun {b ob} e => upd_ne fun z => by
    rw [z, new] at e
    cases e
  have trk : ∀ {b : Addr} {u : HO}, H b = some u → upd H a o b = some u := fun {b u} e => (upd_ne (ne_of_none e na)).trans e
  refine ⟨I.ok, I.os, I.bare, ⟨I.base.keep, I.base.slot, ?_, I.base.there, ?_, ?_, ?_⟩, I.loc, I.cell, ?_, ?_, ?_, ?_, I.len⟩
  · intro b ob e nb hx
    obtain ⟨o', e'⟩ := J.base.there b ob e hx
    rw [old e']
    exact I.base.free b ob e nb hx
  · intro b xs e
    exact trk (I.base.tups b xs e)
  · intro b ob u e
    exact trk (I.base.frzs b ob u e)
  · intro b ps e
    obtain ⟨more, q⟩ := I.base.tbls b ps e
    exact ⟨more, trk q⟩
  · obtain ⟨m, ⟨ol, _, _, el, _⟩, _⟩ := J.loc
    rw [old el]
    exact I.free
  · intro y c e
    obtain ⟨v, oc, ec, _⟩ := J.cell y c e
    rw [old ec]
    exact I.freeC y c e
  · intro p hp
    obtain ⟨p1, p2, p3⟩ := I.pin p hp
    exact ⟨p1, (old (J.pin p hp).1).trans p2, p3⟩
  · intro b u e
    by_cases hb : b = a
    · subst hb
      rw [upd_same] at e
      cases e
      exact ok
    · rw [upd_ne hb] at e
      exact (I.hok b u e).stay (fun _ _ _ q => q) (fun _ q => trk q) fun _ _ q => trk q
/-- what 'except x as n' wishes, the exception kept behind it -/
def wKeep (K : PySem.W.Frag) (c : Value) (i : Nat) (ts : Addr → TS) (D : Ends) : WX := fun cls d σ H =>
  PySem.W.exmOne K cls c = some true ∧ ∀ a, H a = none → ts a { nx := fun σ' H' => H' a = none ∧ D.nx (σ'.set i none) (upd H' a (ExC cls d a)), rt := fun _ _ => False, bk := fun _ _ => False, ct := fun _ _ => False } (σ.set i (some (.ref a))) H
theorem ps_try_keep {X : Cx} {x n : Str} {c : Value} {i : Nat} {body suite : List Stmt} {b0 : Stmt} {np pos pos' : Pos} {tb : WX → TS} {ts : Addr → TS} (stk : X.stack = X.env :: X.outer) (frm : X.env.frame = some X.env.locals) (nd : X.N.Nodup) (hi : X.N[i]? = some n) (loc : X.env.kindOf n = some .local) (nm : Names X x c)
    (hb : ∀ (W : WX) (pn : List (Addr × Obj)) (xe : Value → Shared → Prop), Takes (X.tr pn xe) W → PSs (X.tr pn xe) body (tb W))
    (hsu : ∀ (a : Addr) (pn : List (Addr × Obj)), PSs (X.suite a pn) (b0 :: suite) (ts a)) :
    PS X (.Try body [.ExceptHandler (some (.Name x np)) (some n) (b0 :: suite) pos'] [] [] pos) (fun D σ H => tb (wKeep X.K c i ts D) D σ H) := by
  constructor
  intro pins s σ H D I h
  have frs' : X.A.frames = some (X.env :: X.outer) := by rw [I.ok.frames, stk]
  refine wpAny_Try_except (wpAny_mono ((hb (wKeep X.K c i ts D) (X.pn ++ pins) _ fun u s' ex => ?_).run [] s σ H D (I.toTry _) h) (fun f s1 sp => ?_) fun e s1 q => q)
  · obtain ⟨a, B, sI, pins', σ', H', cls, d, rfl, JT, nb, up, sky, na, os, ag, hm, go⟩ := ex
    have J : Inv X pins σ' H' sI := JT.ofTry I.ok
    have sky2 : Sky B (X.env :: X.outer) a (Zc cls d) X.env.locals s'.heap := stk ▸ sky
    refine Sky.land Zc.steady frs' frm sky2 fun h3 fl3 up3 => ?_
    have J3 : Inv X pins σ' H' { s' with heap := h3 } := J.landed nb fl3.1 (up.trans up3) os ag
    have away : ∀ {hp : Heap} {o : Obj} {vs : Array Value}, hp.FunFrames B (X.env :: X.outer) → hp.get? a = some o → o.data = .fields vs → a ∉ frs (X.env :: X.outer) := fun {hp o vs} ff e dd m => by
      obtain ⟨_, o', e', nf⟩ := ff.mem m
      rw [e] at e'
      cases e'
      exact nf _ dd
    obtain ⟨oe3, vs3, he3, hz3, hd3⟩ := fl3.there
    have nfr := away fl3.2.2.1 he3 hd3
    have nl : a ≠ X.env.locals := fun z => nfr (List.mem_filterMap.mpr ⟨X.env, List.mem_cons_self, by rw [frm, z]⟩)
    have nfs : a ∉ X.fs := fun m => by
      obtain ⟨e, he, q⟩ := List.mem_filterMap.mp m
      exact nfr (List.mem_filterMap.mpr ⟨e, List.mem_cons_of_mem _ he, q⟩)
    have newI : sI.heap.get? a = none := by
      cases q : sI.heap.get? a with
      | none => rfl
      | some ob =>
        have z := nb a ob q (by rw [stk]; exact nfr)
        rw [fl3.2.1] at z
        cases z
    have S3 := J3.suite he3 hd3 na nl nfs
    refine wpAny_handleBy_cons (codeAny_handlers_test ?_) (fun z => nomatch z)
    have name : ∀ {Q' : Value → Shared → Prop} {E' : Value → Shared → Prop}, Q' c { s' with heap := h3 } → wpAny (model X.prog X.w) (X.A.mark (some (.ref a))) (eval (.Name x np) X.env) Q' E' { s' with heap := h3 } := fun {Q' E'} q => by
      obtain ⟨gl, dbg, hit | ⟨miss, bt, nn⟩⟩ := nm
      · exact ld_glob (X := X.suite a ((a, oe3) :: (X.pn ++ pins))) S3 gl hit q dbg
      · exact ld_blt (X := X.suite a ((a, oe3) :: (X.pn ++ pins))) S3 gl miss bt q nn dbg
    have looks : PySem.W.Looks (model X.prog X.w) h3 (typeOf (.ref a)) cls := fun A' Q' E' t k q => wpAny_typeOf_ref (k _ _ he3) (hz3.1.symm ▸ q)
    refine name ((PySem.W.exm_one (M := model X.prog X.w) J3.kIn looks hm).here (codeAny_handlers_suite_as (HandSPX.lands_againZ fl3 fun h4 fl4 up4 => ?_)))
    · have J4 : Inv X pins σ' H' { s' with heap := h4 } := J.landed nb fl4.1 ((up.trans up3).trans up4) os ag
      obtain ⟨oe4, vs4, he4, hz4, hd4⟩ := fl4.there
      refine store_ok (X := X.suite a ((a, oe4) :: (X.pn ++ pins))) (v := .ref a) (J4.suite he4 hd4 na nl nfs) nd hi (.inl loc) rfl (fun s5 S5 => ?_) (.inr loc)
      refine wpAny_mono ((hsu a ((a, oe4) :: (X.pn ++ pins))).run [] s5 _ H' _ S5 (go a na)) (fun f s6 sp => ?_) fun _ _ z => (show False from z).elim
      cases f with
      | next =>
        obtain ⟨σ6, H6, S6, n6, q6⟩ := sp
        refine gone_ok (X := X.suite a ((a, oe4) :: (X.pn ++ pins))) S6 nd hi loc fun s7 S7 => ?_
        have at7 := (S7.pin (a, oe4) (List.mem_append_left _ List.mem_cons_self)).1
        exact ⟨_, _, inv_seen J newI (S7.unsuite I.ok) n6 (exC_ok at7 hz4 hd4), q6⟩
      | brk =>
        obtain ⟨_, _, _, z⟩ := sp
        exact (show False from z).elim
      | cont =>
        obtain ⟨_, _, _, z⟩ := sp
        exact (show False from z).elim
      | ret u =>
        obtain ⟨_, _, _, _, _, z⟩ := sp
        exact (show False from z).elim
  · cases f with
    | next =>
      obtain ⟨σ', H', J, q⟩ := sp
      exact wpAny_execs_nil ⟨σ', H', J.ofTry I.ok, q⟩
    | brk =>
      obtain ⟨σ', H', J, q⟩ := sp
      exact ⟨σ', H', J.ofTry I.ok, q⟩
    | cont =>
      obtain ⟨σ', H', J, q⟩ := sp
      exact ⟨σ', H', J.ofTry I.ok, q⟩
    | ret u =>
      obtain ⟨v, σ', H', J, r, q⟩ := sp
      exact ⟨v, σ', H', J.ofTry I.ok, r, q⟩

/-! ### a lambda of one parameter -/
structure LamP (sc scope : Scope) (p : Str) : Prop where
  kind : scope.kind = .function
  co : scope.isCoroutine = false
  gen : scope.isGenerator = false
  par : scope.names.lookup p = some .local
  own : ∀ y ∈ scope.names, y.2 ≠ .cell ∧ (y.2 = .local → y.1 = p)
  free : ∀ y ∈ scope.names, y.2 = .free → sc.names.lookup y.1 = some .cell ∨ sc.names.lookup y.1 = some .free
def lamPB (sc scope : Scope) (p : Str) : Bool := decide (scope.kind = .function) && (!scope.isCoroutine && (!scope.isGenerator && (decide (scope.names.lookup p = some .local) && scope.names.all fun y => !decide (y.2 = .cell) && ((!decide (y.2 = .local) || decide (y.1 = p)) && (!decide (y.2 = .free) || (decide (sc.names.lookup y.1 = some .cell) || decide (sc.names.lookup y.1 = some .free)))))))
theorem lamP_by {sc scope : Scope} {p : Str} (h : lamPB sc scope p = true) : LamP sc scope p := by
  unfold lamPB at h
  simp only [Bool.and_eq_true, Bool.or_eq_true, Bool.not_eq_true', decide_eq_true_eq, decide_eq_false_iff_not, List.all_eq_true] at h
  obtain ⟨h1, h2, h3, h4, h5⟩ := h
  refine ⟨h1, h2, h3, h4, fun y hy => ⟨(h5 y hy).1, fun e => ?_⟩, fun y hy e => ?_⟩
  · rcases (h5 y hy).2.1 with z | z
    · exact absurd e z
    · exact z
  · rcases (h5 y hy).2.2 with z | z
    · exact absurd e z
    · exact z
theorem LamP.has {X : Cx} {scope : Scope} {p : Str} (L : LamP X.env.scope scope p) (ok : X.Ok) {y : Str × NameKind} (hy : y ∈ scope.names) (e : y.2 = .free) : ∃ c, X.env.cells.lookup y.1 = some c := ok.has _ (L.free y hy e)
/-- the context of its body -/
def cxP (X : Cx) (A : Around) (outer : List Env) (s : Shared) (H : Hp) (E : XK) (scope : Scope) (p : Str) (f c' : Addr) : Cx := { LamX.lamCx X A outer s H E scope f c' with N := X.N ++ [p] }
section
variable {X : Cx} {pins : List (Addr × Obj)} {σ : L2.St} {H HZ : Hp} {s s1 : Shared} {A : Around} {outer : List Env} {E : XK} {scope : Scope} {p : Str} {f c' : Addr}
theorem lamP_start {h1 : Heap} {tk : Nat} {v : V} {u : Value} (I : Inv X pins σ H s) (L : LamP X.env.scope scope p) (np : ∀ (i : Nat) (v : V), X.N[i]? = some p → σ[i]? = some (some v) → False) (e0 : Env0 X.prog X.w X.K X.mg X.base A outer s1 HZ) (calm : A.handled = none)
    (un : Un (frs X.stack) [] H HZ s.heap s1.heap) (ns : h1.Ns s1.heap.objs.size fun y => ([(p, u)] : List (Str × Value)).reverse.lookup y) (kp : ∀ b o, s1.heap.get? b = some o → h1.get? b = some o) (r : RelV v u) :
    Inv (cxP X A outer s1 HZ E scope p f c') [] (σ ++ [some v]) HZ { s1 with heap := h1, toks := tk } := by
  -- the closure's cells are the maker's
  have back : ∀ {y : Str} {c : Addr}, (cloFrom X.env.cells scope.names []).lookup y = some c → X.env.cells.lookup y = some c := fun {y c} e => by
    rcases cloFrom_mem (PySem.mem_of_lookup e) with z | ⟨z, ec⟩
    · cases z
    · obtain ⟨c1, e1⟩ := L.has I.ok z rfl
      rw [ec, e1]
      rfl
  have fwd : ∀ {y : Str}, scope.names.lookup y = some .free → ∃ c, (cloFrom X.env.cells scope.names []).lookup y = some c := fun {y} e =>
    mem_lookup (cloFrom_has (cells := X.env.cells) (acc := []) (show (y, NameKind.free) ∈ scope.names from PySem.mem_of_lookup e))
  have cellOn : ∀ {c : Addr} {x : Option Value}, H c = none → s.heap.IsCell c x → h1.IsCell c x := fun {c x} n z => by
    obtain ⟨o, ho, hd⟩ := z
    obtain ⟨sl, q⟩ := un.any ho n (fun z => nomatch z)
    exact ⟨_, kp _ _ q, hd⟩
  have noCell : ∀ {y : Str}, scope.names.lookup y ≠ some .cell := fun {y} e => (L.own _ (PySem.mem_of_lookup e)).1 rfl
  have isOwn : ∀ {y : Str}, scope.names.lookup y = some .local → y = p := fun {y} e => (L.own _ (PySem.mem_of_lookup e)).2 rfl
  have ok : (cxP X A outer s1 HZ E scope p f c').Ok :=
    { mod := e0.mod
      kind := L.kind
      glob := rfl
      blt := rfl
      above := Nat.le_refl _
      inj := fun y z c e1 e2 => I.ok.inj y z c (back e1) (back e2)
      has := fun y hy => by
        rcases hy with hy | hy
        · exact absurd hy noCell
        · exact fwd hy
      cab := fun y c z _ => absurd (show false = true from z) Bool.false_ne_true
      hd := fun _ => calm
      frames := Around.frames_deeper e0.frames
      stk := .inr ⟨rfl, rfl⟩
      exf := fun b z => absurd (show b ∈ ([] : List Addr) from z) List.not_mem_nil
      bs := e0.bs
      bsz := e0.bsz
      noex := fun b _ _ z => absurd (show b ∈ ([] : List Addr) from z) List.not_mem_nil
      exfs := fun b z => absurd (show b ∈ ([] : List Addr) from z) List.not_mem_nil
      funs := e0.funs
      frf := e0.frf }
  refine ⟨ok, rfl, e0.bare, Un.kept kp, ⟨_, ns, fun i y x e1 e2 e3 => ?_⟩, fun y c e => ?_, e0.hok.fresh (Nat.le_refl _), fun y c e => ?_, fun q hq => absurd (show q ∈ ([] : List (Addr × Obj)) ++ [] from hq) List.not_mem_nil, e0.hok.kept kp, ?_⟩
  · have e1 : (X.N ++ [p])[i]? = some y := e1
    have e3 : Vis scope y := e3
    have ll : σ.length = X.N.length := I.len
    by_cases lt : i < X.N.length
    · rw [List.getElem?_append_left lt] at e1
      rw [List.getElem?_append_left (by rw [ll]; exact lt)] at e2
      have ny : y ≠ p := fun z => np i x (z ▸ e1) e2
      rcases e3 with k | k | k
      · exact absurd (isOwn k) ny
      · exact absurd k noCell
      · obtain ⟨m, _, at_⟩ := I.loc
        have fr := L.free _ (PySem.mem_of_lookup k) rfl
        obtain ⟨u', r', q⟩ := at_ i y x e1 e2 (.inr fr)
        obtain ⟨c, ec⟩ := fwd k
        refine ⟨u', r', .inr ⟨.inr k, c, ec, ?_⟩⟩
        rcases q with ⟨k', _⟩ | ⟨_, c2, ec2, z⟩
        · have k' : X.env.scope.names.lookup y = some .local := k'
          rcases fr with k2 | k2
          · rw [k'] at k2
            cases k2
          · rw [k'] at k2
            cases k2
        · rw [back ec] at ec2
          cases ec2
          exact cellOn (I.freeC y c (back ec)) z
    · have ge : X.N.length ≤ i := Nat.le_of_not_lt lt
      rw [List.getElem?_append_right ge] at e1
      rw [List.getElem?_append_right (by rw [ll]; exact ge), ll] at e2
      cases hi : i - X.N.length with
      | zero =>
        rw [hi] at e1 e2
        have ey : p = y := Option.some.inj e1
        have ev : v = x := Option.some.inj (Option.some.inj e2)
        subst ey ev
        refine ⟨u, r, .inl ⟨L.par, ?_⟩⟩
        show ([(p, u)] : List (Str × Value)).lookup p = some u
        rw [List.lookup_cons, beq_self_eq_true]
      | succ n =>
        rw [hi] at e1
        cases e1
  · obtain ⟨x, z⟩ := I.cell y c (back e)
    exact ⟨x, cellOn (I.freeC y c (back e)) z⟩
  · obtain ⟨x, o, ho, _⟩ := I.cell y c (back e)
    exact un.free c o ho (I.freeC y c (back e)) (fun z => nomatch z)
  · show (σ ++ [some v]).length = (X.N ++ [p]).length
    rw [List.length_append, List.length_append, I.len]
    rfl
/-- the lambda at f called with one thing, at any time behind its making -/
theorem lamP_run {k : Nat} {params : Arguments} {b : Expr} {pm ctv : Value} {tb : TE} {v : V} {u : Value} {Q : VK} (I : Inv X pins σ H s) (L : LamP X.env.scope scope p) (np : ∀ (i : Nat) (v : V), X.N[i]? = some p → σ[i]? = some (some v) → False)
    (hf : s.heap.get? f = some (PySem.W.kla_obj "<lambda>" (X.env.qual ++ "<lambda>") params b scope (cloFrom X.env.cells scope.names []) pm c' ctv)) (hfn : H f = none) (hfr : f ∉ frs X.stack)
    (bind : ∀ u, bindArgs (PySem.W.kla_fn "<lambda>" (X.env.qual ++ "<lambda>") params b scope (cloFrom X.env.cells scope.names []) pm (.ref c') ctv) ⟨[u], []⟩ = pure [(p, u)]) (room : Room (k + 1) A) (e0 : Env0 X.prog X.w X.K X.mg X.base A outer s1 HZ)
    (un : Un (frs X.stack) [] H HZ s.heap s1.heap) (code : HZ c' = some (LamX.CodeO c' (X.env.qual ++ "<lambda>"))) (body : ∀ (A : Around) (outer : List Env) (s : Shared) (H : Hp), Room k (A.deeper (LamX.lamEnv X scope s.heap.objs.size f c')) → PE (cxP X A outer s H E scope p f c') b tb)
    (r : RelV v u) (t : tb (σ ++ [some v]) HZ Q) : codeAny (model X.prog X.w) A (.call (.ref f) ⟨[u], []⟩) (CR (L2.CX X.prog X.w) outer X.prog X.w HZ s1 Q E) s1 := by
  have here := un.keep f _ hf hfn hfr (fun z => nomatch z)
  obtain ⟨⟨oc, vs, tk, ho, hd, hv⟩, _, _⟩ := e0.hok c' _ code
  refine PySem.W.kla_callFunE room.depth here rfl L.co L.gen rfl ⟨c', oc, vs, tk, rfl, ho, hd, hv⟩ ?_
  rw [bind u]
  refine wpAny_pure (wpAny_newFunctionEnv (fun y hy => (L.own y hy).1) (fun y hy => ?_) (fun h1 ns sb => ⟨?_, ?_⟩) L.kind)
  · rw [List.mem_singleton.mp hy]
    exact L.par
  · have kin : s1.heap.NoLimit := e0.mod.nolimit.keeps fun b o e => (e0.bs b o e).1
    exact kin.fresh _ sb
  · have kp : ∀ b o, s1.heap.get? b = some o → h1.get? b = some o := fun b o e => sb.extBut b o (Nat.ne_of_lt (Heap.lt_size e)) (Heap.get?_push_of_some _ e)
    have J := lamP_start (E := E) (f := f) (c' := c') (tk := s1.toks + ([(p, u)] : List (Str × Value)).length) I L np e0 room.hd un ns kp r
    show codeAny _ _ (.expr b (LamX.lamEnv X scope s1.heap.objs.size f c')) _ _
    refine PySem.W.kla_codeExpr (wpAny_mono ((body _ _ s1 HZ (room.deeper _)).run [] _ _ HZ Q J t) (fun w' s' z => ?_) fun e s' z => z)
    obtain ⟨x, H', J', rx, q⟩ := z
    exact ⟨x, H', J'.os, J'.bare, J'.base, J'.hok, rx, q⟩
end
/-! ### it is called by the def that got it -/
/-- that def's context, entered at s -/
abbrev gotCx (X : Cx) (Ng : List Str) (x : Str) (sg : Scope) (g : Addr) (cdg : Value) (s : Shared) (H : Hp) : Cx := cxOf CX0 X.prog X.w X.K X.mg X.base Ng x sg g cdg X.A X.stack s H E0
/-- a(e), a's slot the i-th: e's reading, then the lambda's of e's value -/
def tAct (i : Nat) (f c' : Addr) (q : Str) (ta : TA) (W : WX) (tl : XK → V → Hp → VK → Prop) : TE := fun σ H Q => σ[i]? = some (some (.ref f)) ∧ ta σ H fun vs H1 => ∃ v, vs = [v] ∧ H1 c' = some (LamX.CodeO c' q) ∧ tl (fun cls d H' => W cls d σ H') v H1 Q
theorem pe_actP {X : Cx} {pins : List (Addr × Obj)} {σ : L2.St} {H : Hp} {s : Shared} {scope : Scope} {p x a : Str} {f c' g : Addr} {k i : Nat} {params : Arguments} {b e : Expr} {pm ctv cdg : Value} {tb : XK → TE} {ta : TA} {Ng : List Str} {sg : Scope} {pn : List (Addr × Obj)} {xe : Value → Shared → Prop} {W : WX} {p1 p2 : Pos}
    (I : Inv X pins σ H s) (L : LamP X.env.scope scope p) (np : ∀ (i : Nat) (v : V), X.N[i]? = some p → σ[i]? = some (some v) → False) (hf : s.heap.get? f = some (PySem.W.kla_obj "<lambda>" (X.env.qual ++ "<lambda>") params b scope (cloFrom X.env.cells scope.names []) pm c' ctv)) (hfn : H f = none) (hfr : f ∉ frs X.stack)
    (bind : ∀ u, bindArgs (PySem.W.kla_fn "<lambda>" (X.env.qual ++ "<lambda>") params b scope (cloFrom X.env.cells scope.names []) pm (.ref c') ctv) ⟨[u], []⟩ = pure [(p, u)])
    (tk : Takes ((gotCx X Ng x sg g cdg s H).tr pn xe) W) (room : Room (k + 1) (X.A.deeper (envOfC x sg s.heap.objs.size g cdg)))
    (body : ∀ (A : Around) (outer : List Env) (s : Shared) (H : Hp) (E : XK), Room k (A.deeper (LamX.lamEnv X scope s.heap.objs.size f c')) → PE (cxP X A outer s H E scope p f c') b (tb E))
    (at_ : Ng[i]? = some a) (vis : Vis sg a) (args : PA ((gotCx X Ng x sg g cdg s H).tr pn xe) [e] ta)
    (star : starEach [e] ((gotCx X Ng x sg g cdg s H).tr pn xe).env = (false, eval e ((gotCx X Ng x sg g cdg s H).tr pn xe).env) :: starEach [] ((gotCx X Ng x sg g cdg s H).tr pn xe).env := by rfl)
    (d1 : (a == ("__debug__" : Str)) = false := by decide) (d2 : (a == ("__classdict__" : Str)) = false := by decide) :
    PE ((gotCx X Ng x sg g cdg s H).tr pn xe) (.Call (.Name a p1) [e] [] p2) (tAct i f c' (X.env.qual ++ "<lambda>") ta W fun E v H1 Q => tb E (σ ++ [some v]) H1 Q) := by
  constructor
  intro pz sz σz Hz Q Iz h
  obtain ⟨slot, ht⟩ := h
  refine wpAny_Call_Name_kw (thn ((pe_var (pos := p1) (i := i) at_ vis d1 d2).run pz sz σz Hz (fun v H1 => v = .ref f ∧ H1 = Hz) Iz ⟨.ref f, slot, rfl, rfl⟩) fun u s1 z => ?_)
  obtain ⟨v0, H1, I1, r1, rfl, rfl⟩ := z
  obtain rfl : u = Value.ref f := r1
  have still : ∀ {σ' : L2.St} {H' : Hp} {s' : Shared}, Inv ((gotCx X Ng x sg g cdg s H).tr pn xe) pz σ' H' s' → s'.heap.get? f = some (PySem.W.kla_obj "<lambda>" (X.env.qual ++ "<lambda>") params b scope (cloFrom X.env.cells scope.names []) pm c' ctv) := fun J => J.base.keep f _ hf hfn hfr (fun z => nomatch z)
  refine PySem.W.callWith_F ⟨_, _, _, _, still I1⟩ (thn (args.run p2 pz s1 σz H1 _ I1 ht) fun us s2 z => ?_) star rfl
  obtain ⟨vs, H2, I2, rv, v, rfl, hc, tl⟩ := z
  obtain ⟨u, rfl, ru⟩ := vals1 rv
  have e2 : Env0 X.prog X.w X.K X.mg X.base (X.A.deeper (envOfC x sg s.heap.objs.size g cdg)) (envOfC x sg s.heap.objs.size g cdg :: X.stack) s2 H2 := I2.env0
  have un : Un (frs X.stack) [] H H2 s.heap s2.heap := I2.base
  have run := lamP_run (X := X) (E := fun cls d H' => W cls d σz H') (k := k) (u := u) (Q := Q) I L np hf hfn hfr bind room e2 un hc (fun A outer s H rm => body A outer s H _ rm) ru tl
  refine ⟨⟨_, _, _, _, still I2⟩, wpAny_call (codeAny_mono run fun res s3 z => ?_)⟩
  cases res with
  | error er => exact tk er s3 (XE.of_call I2 (fun _ _ _ w => w) z)
  | ok fl =>
    cases fl with
    | ret u' => exact I2.after z
    | next => exact (show False from z).elim
    | brk => exact (show False from z).elim
    | cont => exact (show False from z).elim
/-- what the def makes of the lambda's reading tl and of the thing v: TT -/
def GivesP (X : Cx) (k : Nat) (Ng : List Str) (x : Str) (sg : Scope) (g : Addr) (cdg : Value) (bg : List Stmt) (a : Str) (q : Str) (TT : V → (XK → V → Hp → VK → Prop) → Hp → VK → Prop) : Prop :=
  ∀ (f c' : Addr) (v : V) (s : Shared) (H : Hp) (Q : VK) (tl : XK → V → Hp → VK → Prop), Room k (X.A.deeper (envOfC x sg s.heap.objs.size g cdg)) →
    (∀ (W : WX) (pn : List (Addr × Obj)) (xe : Value → Shared → Prop) (p1 p2 : Pos) (e : Expr) (ta : TA), Takes ((gotCx X Ng x sg g cdg s H).tr pn xe) W → PA ((gotCx X Ng x sg g cdg s H).tr pn xe) [e] ta →
      starEach [e] ((gotCx X Ng x sg g cdg s H).tr pn xe).env = (false, eval e ((gotCx X Ng x sg g cdg s H).tr pn xe).env) :: starEach [] ((gotCx X Ng x sg g cdg s H).tr pn xe).env →
      PE ((gotCx X Ng x sg g cdg s H).tr pn xe) (.Call (.Name a p1) [e] [] p2) (tAct 0 f c' q ta W tl)) →
    H c' = some (LamX.CodeO c' q) → TT v tl H Q →
    ∃ t, PSs (gotCx X Ng x sg g cdg s H).nox bg t ∧ t { nx := fun _ H' => Q .non H', rt := Q } (L2.start Ng [.ref f, v]) H
/-- the lambda is made: all but the table at P is as it was -/
theorem lam_new {X : Cx} {pins : List (Addr × Obj)} {σ : L2.St} {H : Hp} {s : Shared} {c P : Addr} {params : Arguments} {b : Expr} {scope : Scope} {pos : Pos} {E Q : Value → Shared → Prop} (J : Inv X pins σ H s) (tab : LamX.TabB X.base X.mg c P) (own : X.env.code = .ref c)
    (t0 : LamX.TabS H P (X.env.qual ++ "<lambda>")) (nodef : defaultsOf params X.env = ([], [])) (has : ∀ y ∈ scope.names, y.2 = .free → ∃ c, X.env.cells.lookup y.1 = some c)
    (go : ∀ (f c' : Addr) (pm ctv : Value) (H1 : Hp) (s1 : Shared), Inv X pins σ H1 s1 → But P H H1 → LamX.TabS H1 P (X.env.qual ++ "<lambda>") → s1.heap.get? f = some (PySem.W.kla_obj "<lambda>" (X.env.qual ++ "<lambda>") params b scope (cloFrom X.env.cells scope.names []) pm c' ctv) →
      H1 f = none → f ∉ frs X.stack → H1 c' = some (LamX.CodeO c' (X.env.qual ++ "<lambda>")) → Q (.ref f) s1) : wpAny (model X.prog X.w) X.A (eval (.Lambda params b scope pos) X.env) Q E s := by
  have seen := t0
  obtain ⟨ps, atP, tri, each⟩ := seen
  have blt : s.heap.BuiltinsAt X.mg P := tab.bm.keeps J.bk
  have objP : s.heap.get? P = some { cls := .none, data := .fields ps } := J.hok P _ atP
  have far : ∀ f, s.heap.objs.size ≤ f → f ∉ frs X.stack := fun f le m => by
    rcases List.mem_cons.mp (J.stkSub _ m) with e | e
    · have lt := J.lt
      rw [← e] at lt
      exact absurd (Nat.lt_of_lt_of_le lt le) (Nat.lt_irrefl _)
    · exact J.nofs le e
  refine PySem.W.kla_eval nodef ?_
  cases found : codeAmong pos ps.toList with
  | some cv =>
    obtain ⟨c', rfl, here⟩ := each pos cv found
    refine PySem.W.kla_makeFunctionHit (P := P) (c := c) (mg := X.mg) (ps := ps) (closure_ok has) J.ok.glob (J.mod.glob.keeps J.bk) own (tab.code.keeps J.bk) objP tri found blt fun ctv h' tk kept le => ?_
    have J1 : Inv X pins σ H { s with heap := h'.push (PySem.W.kla_obj "<lambda>" (X.env.qual ++ "<lambda>") params b scope (cloFrom X.env.cells scope.names []) ((X.mg "__name__").getD .none) c' ctv), toks := tk } := J.kept fun _ _ e => Heap.get?_push_of_some _ (kept _ _ e)
    exact go _ c' _ ctv H _ J1 .refl t0 (Heap.get?_push_size _ rfl) (J.hok.fresh le) (far _ le) here
  | none =>
    refine PySem.W.kla_makeFunction (P := P) (c := c) (mg := X.mg) (ps := ps) (closure_ok has) J.ok.glob (J.mod.glob.keeps J.bk) own (tab.code.keeps J.bk) objP tri found tab.gP blt fun c' ctv h' tk kept ge lt rec_ grown => ?_
    obtain ⟨c2, oc, vs, tk2, e2, atC, dat, nm⟩ := rec_
    cases e2
    have le : s.heap.objs.size ≤ h'.objs.size := Nat.le_trans ge (Nat.le_of_lt lt)
    have newC : H c' = none := J.hok.fresh ge
    have J1 := LamX.inv_table (t' := tk) (more := #[rawInt pos.line, rawInt pos.col, .ref c']) (h' := h'.push (PySem.W.kla_obj "<lambda>" (X.env.qual ++ "<lambda>") params b scope (cloFrom X.env.cells scope.names []) ((X.mg "__name__").getD .none) c' ctv)) J atP
      (fun _ _ nb e => Heap.get?_push_of_some _ (kept _ _ nb e)) (Heap.get?_push_of_some _ grown) ge ⟨oc, vs, tk2, Heap.get?_push_of_some _ atC, dat, nm⟩
    have but : But P H (upd (upd H P (.tbl (ps ++ #[rawInt pos.line, rawInt pos.col, .ref c']))) c' (LamX.CodeO c' (X.env.qual ++ "<lambda>"))) := fun d o e n => by
      rw [upd_ne (ne_of_none e newC), upd_ne n]
      exact e
    have toL : (ps ++ #[rawInt pos.line, rawInt pos.col, .ref c']).toList = ps.toList ++ [rawInt pos.line, rawInt pos.col, .ref c'] := by simp
    have away : ∀ {d : Addr} {q : Str}, H d = some (LamX.CodeO d q) → d ≠ P := fun {d q} e z => by
      rw [z, atP] at e
      exact LamX.codeO_ne ps (Option.some.inj e).symm
    refine go h'.objs.size c' _ ctv _ _ J1 but ⟨ps ++ #[rawInt pos.line, rawInt pos.col, .ref c'], ?_, ?_, fun p' cv among => ?_⟩ (Heap.get?_push_size _ rfl) ?_ (far _ le) upd_same
    · rw [upd_ne (ne_of_none atP newC), upd_same]
    · rw [toL]
      exact PySem.TriplesOk_snoc _ _ _ _ tri
    · rw [toL] at among
      rcases LamX.among_app _ tri among with z | z
      · obtain ⟨c0, e1, e2⟩ := each p' cv z
        exact ⟨c0, e1, but _ _ e2 (away e2)⟩
      · exact ⟨c', z, upd_same⟩
    · rw [upd_ne (Nat.ne_of_gt lt), upd_ne (Nat.ne_of_gt (Nat.lt_of_lt_of_le (Heap.lt_size objP) le))]
      exact J.hok.fresh le
def tLamP (P : Addr) (qn : Str) (TT : V → (XK → V → Hp → VK → Prop) → Hp → VK → Prop) (t : XK → TE) (ta : TA) : TE := fun σ H Q => LamX.TabS H P qn ∧ ∀ H1, But P H H1 → LamX.TabS H1 P qn → ta σ H1 fun vs H2 => ∃ v, vs = [v] ∧ LamX.ExtN H1 H2 ∧ TT v (fun E v H' Q' => t E (σ ++ [some v]) H' Q') H2 Q
theorem pinned_one {X : Cx} {pins : List (Addr × Obj)} {σ : L2.St} {H : Hp} {s : Shared} {f : Addr} {o : Obj} {fd : FuncData} (I : Inv X pins σ H s) (hf : s.heap.get? f = some o) (hd : o.data = .func fd) (hn : H f = none) (hfr : f ∉ frs X.stack) : Inv X ((f, o) :: pins) σ H s := by
  refine ⟨I.ok, I.os, I.bare, I.base, I.loc, I.cell, I.free, I.freeC, fun q hq => ?_, I.hok, I.len⟩
  rcases List.mem_append.mp hq with z | z
  · exact I.pin q (List.mem_append_left _ z)
  · rcases List.mem_cons.mp z with e | z
    · subst e
      refine ⟨hf, hn, fun e => ?_, fun m => hfr ?_, fun v e => ?_⟩
      · obtain ⟨m, ⟨ol, es, ep, el, dl, _⟩, _⟩ := I.loc
        have e' : f = X.env.locals := e
        rw [← e', hf] at el
        cases el
        rw [hd] at dl
        cases dl
      · rcases I.ok.stk with st | ⟨st, _⟩
        · rw [st]
          exact m
        · rw [st]
          obtain ⟨e1, m1, m2⟩ := List.mem_filterMap.mp m
          exact List.mem_filterMap.mpr ⟨e1, List.mem_cons_of_mem _ m1, m2⟩
      · have e' : o.data = .cell v := e
        rw [hd] at e'
        cases e'
    · exact I.pin q (List.mem_append_right _ z)
theorem unpin_one {X : Cx} {pins : List (Addr × Obj)} {σ : L2.St} {H : Hp} {s : Shared} {q : Addr × Obj} (I : Inv X (q :: pins) σ H s) : Inv X pins σ H s := by
  refine ⟨I.ok, I.os, I.bare, I.base, I.loc, I.cell, I.free, I.freeC, fun z hz => I.pin z ?_, I.hok, I.len⟩
  rcases List.mem_append.mp hz with m | m
  · exact List.mem_append_left _ m
  · exact List.mem_append_right _ (List.mem_cons_of_mem _ m)
/-- x(lambda p: b, e) -/
theorem pe_lamP {X : Cx} {TT : V → (XK → V → Hp → VK → Prop) → Hp → VK → Prop} {x a a2 p : Str} {g c P : Addr} {k : Nat} {pg : Arguments} {bg : List Stmt} {sg : Scope} {dV kV doc pm cdv ct oc : Value} {an od : Option Addr} {osl : Array (Option Value)} {Ng : List Str} {params : Arguments} {b e : Expr} {scope : Scope} {t : XK → TE} {ta : TA} {pp lpos pos : Pos}
    (gl : Gl X x) (mg : X.mg x = some (.ref g)) (keep : PySem.W.keepIn X.K (.ref g) = true) (look : X.K.lookup g = some ⟨oc, od, .func (PySem.W.fnOf x x pg bg sg dV kV doc pm an cdv ct), osl⟩) (code : PySem.W.codeIn X.K cdv x = true)
    (binds : L2.Binds X.K (PySem.W.fnOf x x pg bg sg dV kV doc pm an cdv ct) [a, a2] []) (S : FnScope Ng [a, a2] sg) (at0 : Ng[0]? = some a) (vis : Vis sg a) (gives : GivesP X (k + 1) Ng x sg g cdv bg a (X.env.qual ++ "<lambda>") TT)
    (TB : LamX.TabB X.base X.mg c P) (own : X.env.code = .ref c) (room : Room (k + 2) X.A) (L : LamP X.env.scope scope p) (np : p ∉ X.N) (nodef : defaultsOf params X.env = ([], []))
    (bind : ∀ (q : Str) (cl : List (Str × Addr)) (pm cv ctv u : Value), bindArgs (PySem.W.kla_fn "<lambda>" q params b scope cl pm cv ctv) ⟨[u], []⟩ = pure [(p, u)])
    (body : ∀ (A : Around) (outer : List Env) (s : Shared) (H : Hp) (E : XK) (f c' : Addr), Room k (A.deeper (LamX.lamEnv X scope s.heap.objs.size f c')) → PE (cxP X A outer s H E scope p f c') b (t E)) (args : PA X [e] ta)
    (star : starEach (.Lambda params b scope lpos :: [e]) X.env = (false, eval (.Lambda params b scope lpos) X.env) :: starEach [e] X.env := by rfl) (plain : (backTo pos (starEach [e] X.env)).any (·.1) = false := by rfl)
    (d0 : (x == ("__debug__" : Str)) = false := by decide) (d1 : (a == ("__debug__" : Str)) = false := by decide) (d2 : (a == ("__classdict__" : Str)) = false := by decide) :
    PE X (.Call (.Name x pp) [.Lambda params b scope lpos, e] [] pos) (tLamP P (X.env.qual ++ "<lambda>") TT t ta) := by
  constructor
  intro pins s σ H Q I h
  obtain ⟨hT, h⟩ := h
  refine wpAny_Call_Name_kw (ld_glob I gl mg ?_ d0)
  refine PySem.W.callWith_K (h₀ := X.base) I.ok.mod.kin keep ?_ star plain
  rw [star]
  show wpAny _ _ (spliced ((false, eval (.Lambda params b scope lpos) X.env) :: backTo pos (starEach [e] X.env))) _ _ s
  refine Calls.spliced_cons (lam_new I TB own hT nodef (fun y hy z => L.has I.ok hy z) fun f c' pm' ctv H1 s1 I1 ext T1 hf hfn hfr hco => ?_)
  have Ip := pinned_one I1 hf rfl hfn hfr
  refine thn (args.run pos _ s1 σ H1 _ Ip (h H1 ext T1)) fun us s2 z => ?_
  obtain ⟨vs, H2, I2, rv, v, rfl, ext2, tt⟩ := z
  obtain ⟨u, rfl, ru⟩ := vals1 rv
  have f2 := I2.pin (f, _) (List.mem_append_right _ List.mem_cons_self)
  have co2 : H2 c' = some (LamX.CodeO c' (X.env.qual ++ "<lambda>")) := ext2 _ _ hco (LamX.codeO_ne)
  refine ⟨I2.kIn, ?_⟩
  have run : codeAny (model X.prog X.w) X.A (.call (.ref g) ⟨[.ref f, u], []⟩) (CR CX0 X.stack X.prog X.w H2 s2 Q E0) s2 := by
    refine LamX.run_ofS (N := Ng) (ps := [a, a2]) (us := [.ref f, u]) (vs := [.ref f, v]) look code S room I2.env0 (binds s2 [.ref f, u] I2.kIn rfl) (.cons rfl (.cons ru .nil)) rfl fun hr' => ?_
    obtain ⟨t', ht', q'⟩ := gives f c' v s2 H2 Q (fun E v H' Q' => t E (σ ++ [some v]) H' Q') hr' (fun W pn xe p1 p2 e ta tk args star => pe_actP (k := k) I2 L (fun i v e _ => np (List.mem_of_getElem? e)) f2.1 f2.2.1 hfr (fun u => bind _ _ _ _ _ u) tk hr' (fun A outer s H E rm => body A outer s H E f c' rm) at0 vis args star d1 d2) co2 tt
    exact ⟨t', ht'.nox, q'⟩
  refine wpAny_call (codeAny_mono run fun res s3 z => ?_)
  cases res with
  | error er => exact (show False from z).elim
  | ok fl =>
    cases fl with
    | ret u' =>
      obtain ⟨v', H', J, r', q'⟩ := I2.after z
      exact ⟨v', H', unpin_one J, r', q'⟩
    | next => exact (show False from z).elim
    | brk => exact (show False from z).elim
    | cont => exact (show False from z).elim
/-- the same by the def's own facts -/
theorem pe_lamF {X : Cx} {TT : V → (XK → V → Hp → VK → Prop) → Hp → VK → Prop} {x a a2 p : Str} {g c P : Addr} {k : Nat} {st : Stmt} {fd : FuncData} {Ng : List Str} {params : Arguments} {b e : Expr} {scope : Scope} {t : XK → TE} {ta : TA} {pp lpos pos : Pos}
    (gl : Gl X x) (mg : X.mg x = some (.ref g)) (F : Fun X.K x x st g fd) (binds : L2.Binds X.K fd [a, a2] []) (S : FnScope Ng [a, a2] (defScope st)) (at0 : Ng[0]? = some a) (vis : Vis (defScope st) a) (gives : ∀ cdg, GivesP X (k + 1) Ng x (defScope st) g cdg (defBody st) a (X.env.qual ++ "<lambda>") TT)
    (TB : LamX.TabB X.base X.mg c P) (own : X.env.code = .ref c) (room : Room (k + 2) X.A) (L : LamP X.env.scope scope p) (np : p ∉ X.N) (nodef : defaultsOf params X.env = ([], []))
    (bind : ∀ (q : Str) (cl : List (Str × Addr)) (pm cv ctv u : Value), bindArgs (PySem.W.kla_fn "<lambda>" q params b scope cl pm cv ctv) ⟨[u], []⟩ = pure [(p, u)])
    (body : ∀ (A : Around) (outer : List Env) (s : Shared) (H : Hp) (E : XK) (f c' : Addr), Room k (A.deeper (LamX.lamEnv X scope s.heap.objs.size f c')) → PE (cxP X A outer s H E scope p f c') b (t E)) (args : PA X [e] ta)
    (star : starEach (.Lambda params b scope lpos :: [e]) X.env = (false, eval (.Lambda params b scope lpos) X.env) :: starEach [e] X.env := by rfl) (plain : (backTo pos (starEach [e] X.env)).any (·.1) = false := by rfl)
    (d0 : (x == ("__debug__" : Str)) = false := by decide) (d1 : (a == ("__debug__" : Str)) = false := by decide) (d2 : (a == ("__classdict__" : Str)) = false := by decide) :
    PE X (.Call (.Name x pp) [.Lambda params b scope lpos, e] [] pos) (tLamP P (X.env.qual ++ "<lambda>") TT t ta) := by
  have keep := F.kp
  obtain ⟨oc, od, kV, doc, pm, an, cdv, ct, osl, rfl, lk, hcd⟩ := F.ex
  exact pe_lamP gl mg keep lk hcd binds S at0 vis (gives cdv) TB own room L np nodef bind body args star plain d0 d1 d2

/-! ### a lambda given as the second thing: x(e, lambda p: b) -/
/-- what the def makes of the thing v and of the lambda's reading tl: TT -/
def GivesP2 (X : Cx) (k : Nat) (Ng : List Str) (x : Str) (sg : Scope) (g : Addr) (cdg : Value) (bg : List Stmt) (a : Str) (q : Str) (TT : V → (XK → V → Hp → VK → Prop) → Hp → VK → Prop) : Prop :=
  ∀ (f c' : Addr) (v : V) (s : Shared) (H : Hp) (Q : VK) (tl : XK → V → Hp → VK → Prop), Room k (X.A.deeper (envOfC x sg s.heap.objs.size g cdg)) →
    (∀ (W : WX) (pn : List (Addr × Obj)) (xe : Value → Shared → Prop) (p1 p2 : Pos) (e : Expr) (ta : TA), Takes ((gotCx X Ng x sg g cdg s H).tr pn xe) W → PA ((gotCx X Ng x sg g cdg s H).tr pn xe) [e] ta →
      starEach [e] ((gotCx X Ng x sg g cdg s H).tr pn xe).env = (false, eval e ((gotCx X Ng x sg g cdg s H).tr pn xe).env) :: starEach [] ((gotCx X Ng x sg g cdg s H).tr pn xe).env →
      PE ((gotCx X Ng x sg g cdg s H).tr pn xe) (.Call (.Name a p1) [e] [] p2) (tAct 1 f c' q ta W tl)) →
    H c' = some (LamX.CodeO c' q) → TT v tl H Q →
    ∃ t, PSs (gotCx X Ng x sg g cdg s H).nox bg t ∧ t { nx := fun _ H' => Q .non H', rt := Q } (L2.start Ng [v, .ref f]) H
/-- nothing stands in a slot of this name -/
def NoVal (p : Str) : List Str → L2.St → Prop
  | x :: N, o :: σ => (x = p → o = none) ∧ NoVal p N σ
  | _, _ => True
theorem NoVal.at {p : Str} : ∀ {N : List Str} {σ : L2.St}, NoVal p N σ → ∀ (i : Nat) (v : V), N[i]? = some p → σ[i]? = some (some v) → False
  | [], _, _, i, v, e, _ => by cases i <;> cases e
  | _ :: _, [], _, i, v, _, e => by cases i <;> cases e
  | x :: N, o :: σ, h, 0, v, e1, e2 => by
    have e1 : x = p := Option.some.inj e1
    have e2 : o = some v := Option.some.inj e2
    rw [h.1 e1] at e2
    cases e2
  | x :: N, o :: σ, h, i + 1, v, e1, e2 => NoVal.at (N := N) (σ := σ) h.2 i v e1 e2
def tLamP2 (N : List Str) (p : Str) (P : Addr) (qn : Str) (TT : V → (XK → V → Hp → VK → Prop) → Hp → VK → Prop) (t : XK → TE) (te : TE) : TE := fun σ H Q => NoVal p N σ ∧ te σ H fun v H1 => LamX.TabS H1 P qn ∧ ∀ H2, But P H1 H2 → LamX.TabS H2 P qn → TT v (fun E v H' Q' => t E (σ ++ [some v]) H' Q') H2 Q
theorem pe_lamP2 {X : Cx} {TT : V → (XK → V → Hp → VK → Prop) → Hp → VK → Prop} {x a a1 p : Str} {g c P : Addr} {k : Nat} {pg : Arguments} {bg : List Stmt} {sg : Scope} {dV kV doc pm cdv ct oc : Value} {an od : Option Addr} {osl : Array (Option Value)} {Ng : List Str} {params : Arguments} {b e : Expr} {scope : Scope} {t : XK → TE} {te : TE} {pp lpos pos : Pos}
    (gl : Gl X x) (mg : X.mg x = some (.ref g)) (keep : PySem.W.keepIn X.K (.ref g) = true) (look : X.K.lookup g = some ⟨oc, od, .func (PySem.W.fnOf x x pg bg sg dV kV doc pm an cdv ct), osl⟩) (code : PySem.W.codeIn X.K cdv x = true)
    (binds : L2.Binds X.K (PySem.W.fnOf x x pg bg sg dV kV doc pm an cdv ct) [a1, a] []) (S : FnScope Ng [a1, a] sg) (at1 : Ng[1]? = some a) (vis : Vis sg a) (gives : GivesP2 X (k + 1) Ng x sg g cdv bg a (X.env.qual ++ "<lambda>") TT)
    (TB : LamX.TabB X.base X.mg c P) (own : X.env.code = .ref c) (room : Room (k + 2) X.A) (L : LamP X.env.scope scope p) (nodef : defaultsOf params X.env = ([], []))
    (bind : ∀ (q : Str) (cl : List (Str × Addr)) (pm cv ctv u : Value), bindArgs (PySem.W.kla_fn "<lambda>" q params b scope cl pm cv ctv) ⟨[u], []⟩ = pure [(p, u)])
    (body : ∀ (A : Around) (outer : List Env) (s : Shared) (H : Hp) (E : XK) (f c' : Addr), Room k (A.deeper (LamX.lamEnv X scope s.heap.objs.size f c')) → PE (cxP X A outer s H E scope p f c') b (t E)) (arg : PE X e te)
    (star : starEach (e :: [.Lambda params b scope lpos]) X.env = (false, eval e X.env) :: starEach [.Lambda params b scope lpos] X.env := by rfl) (star2 : starEach [.Lambda params b scope lpos] X.env = (false, eval (.Lambda params b scope lpos) X.env) :: starEach [] X.env := by rfl) (plain : (backTo pos (starEach [.Lambda params b scope lpos] X.env)).any (·.1) = false := by rfl)
    (d0 : (x == ("__debug__" : Str)) = false := by decide) (d1 : (a == ("__debug__" : Str)) = false := by decide) (d2 : (a == ("__classdict__" : Str)) = false := by decide) :
    PE X (.Call (.Name x pp) [e, .Lambda params b scope lpos] [] pos) (tLamP2 X.N p P (X.env.qual ++ "<lambda>") TT t te) := by
  constructor
  intro pins s σ H Q I h
  obtain ⟨np, h⟩ := h
  refine wpAny_Call_Name_kw (ld_glob I gl mg ?_ d0)
  refine PySem.W.callWith_K (h₀ := X.base) I.ok.mod.kin keep ?_ star plain
  rw [star]
  show wpAny _ _ (spliced ((false, eval e X.env) :: backTo pos (starEach [.Lambda params b scope lpos] X.env))) _ _ s
  refine Calls.spliced_cons (thn (arg.run pins s σ H _ I h) fun u s1 z => ?_)
  obtain ⟨v, H1, I1, ru, hT, h1⟩ := z
  rw [star2]
  show wpAny _ _ (spliced ((false, eval (.Lambda params b scope lpos) X.env) :: backTo pos (starEach [] X.env))) _ _ s1
  refine Calls.spliced_cons (lam_new I1 TB own hT nodef (fun y hy z => L.has I1.ok hy z) fun f c' pm' ctv H2 s2 I2 ext T2 hf hfn hfr hco => ?_)
  refine Calls.spliced_nil ?_
  have tt := h1 H2 ext T2
  refine ⟨I2.kIn, ?_⟩
  have run : codeAny (model X.prog X.w) X.A (.call (.ref g) ⟨[u, .ref f], []⟩) (CR CX0 X.stack X.prog X.w H2 s2 Q E0) s2 := by
    refine LamX.run_ofS (N := Ng) (ps := [a1, a]) (us := [u, .ref f]) (vs := [v, .ref f]) look code S room I2.env0 (binds s2 [u, .ref f] I2.kIn rfl) (.cons ru (.cons rfl .nil)) rfl fun hr' => ?_
    obtain ⟨t', ht', q'⟩ := gives f c' v s2 H2 Q (fun E v H' Q' => t E (σ ++ [some v]) H' Q') hr' (fun W pn xe p1 p2 e ta tk args star => pe_actP (k := k) I2 L (NoVal.at np) hf hfn hfr (fun u => bind _ _ _ _ _ u) tk hr' (fun A outer s H E rm => body A outer s H E f c' rm) at1 vis args star d1 d2) hco tt
    exact ⟨t', ht'.nox, q'⟩
  refine wpAny_call (codeAny_mono run fun res s3 z => ?_)
  cases res with
  | error er => exact (show False from z).elim
  | ok fl =>
    cases fl with
    | ret u' => exact I2.after z
    | next => exact (show False from z).elim
    | brk => exact (show False from z).elim
    | cont => exact (show False from z).elim
theorem pe_lamF2 {X : Cx} {TT : V → (XK → V → Hp → VK → Prop) → Hp → VK → Prop} {x a a1 p : Str} {g c P : Addr} {k : Nat} {st : Stmt} {fd : FuncData} {Ng : List Str} {params : Arguments} {b e : Expr} {scope : Scope} {t : XK → TE} {te : TE} {pp lpos pos : Pos}
    (gl : Gl X x) (mg : X.mg x = some (.ref g)) (F : Fun X.K x x st g fd) (binds : L2.Binds X.K fd [a1, a] []) (S : FnScope Ng [a1, a] (defScope st)) (at1 : Ng[1]? = some a) (vis : Vis (defScope st) a) (gives : ∀ cdg, GivesP2 X (k + 1) Ng x (defScope st) g cdg (defBody st) a (X.env.qual ++ "<lambda>") TT)
    (TB : LamX.TabB X.base X.mg c P) (own : X.env.code = .ref c) (room : Room (k + 2) X.A) (L : LamP X.env.scope scope p) (nodef : defaultsOf params X.env = ([], []))
    (bind : ∀ (q : Str) (cl : List (Str × Addr)) (pm cv ctv u : Value), bindArgs (PySem.W.kla_fn "<lambda>" q params b scope cl pm cv ctv) ⟨[u], []⟩ = pure [(p, u)])
    (body : ∀ (A : Around) (outer : List Env) (s : Shared) (H : Hp) (E : XK) (f c' : Addr), Room k (A.deeper (LamX.lamEnv X scope s.heap.objs.size f c')) → PE (cxP X A outer s H E scope p f c') b (t E)) (arg : PE X e te)
    (star : starEach (e :: [.Lambda params b scope lpos]) X.env = (false, eval e X.env) :: starEach [.Lambda params b scope lpos] X.env := by rfl) (star2 : starEach [.Lambda params b scope lpos] X.env = (false, eval (.Lambda params b scope lpos) X.env) :: starEach [] X.env := by rfl) (plain : (backTo pos (starEach [.Lambda params b scope lpos] X.env)).any (·.1) = false := by rfl)
    (d0 : (x == ("__debug__" : Str)) = false := by decide) (d1 : (a == ("__debug__" : Str)) = false := by decide) (d2 : (a == ("__classdict__" : Str)) = false := by decide) :
    PE X (.Call (.Name x pp) [e, .Lambda params b scope lpos] [] pos) (tLamP2 X.N p P (X.env.qual ++ "<lambda>") TT t te) := by
  have keep := F.kp
  obtain ⟨oc, od, kV, doc, pm, an, cdv, ct, osl, rfl, lk, hcd⟩ := F.ex
  exact pe_lamP2 gl mg keep lk hcd binds S at1 vis (gives cdv) TB own room L nodef bind body arg star star2 plain d0 d1 d2

/-! ### a law called from the caller itself: nothing is shown around it -/
/-- at the law's call: its tables are empty, the script is frozen (or known by K) -/
def lawH (K : PySem.W.Frag) (cs : List (Addr × Addr)) (a : Addr) (o : Obj) (ns : List Int) : Hp := fun b => if b ∈ cs.map (·.2) then some (.tbl #[]) else if b = a ∧ K.lookup a = none then some (.frz o (.lst (ns.map V.int))) else none
theorem lawH_some {K : PySem.W.Frag} {cs : List (Addr × Addr)} {a b : Addr} {o : Obj} {ns : List Int} {u : HO} (h : lawH K cs a o ns b = some u) : (b ∈ cs.map (·.2) ∧ u = .tbl #[]) ∨ (b = a ∧ K.lookup a = none ∧ u = .frz o (.lst (ns.map V.int))) := by
  unfold lawH at h
  split at h
  · rename_i m
    exact .inl ⟨m, (Option.some.inj h).symm⟩
  · split at h
    · rename_i m
      exact .inr ⟨m.1, m.2, (Option.some.inj h).symm⟩
    · cases h
theorem call_law {P : Program} {w : World} {K : PySem.W.Frag} {mg mb : Str → Option Value} {fa a : Addr} {cs : List (Addr × Addr)} {s : Shared} {vs : List Value} {ns : List Int} (kin : K.In s.heap) (gl : s.heap.Ns mainGlobals mg) (bi : s.heap.Ns builtinsNs mb)
    (boot : ∀ x : Str, x ≠ "__name__" → mb x = bootBuiltins x) (lim : s.heap.NoLimit) (gens : s.gens = #[]) (tabs : ∀ p ∈ cs, s.heap.get? p.2 = some { cls := .none, data := .fields #[] }) (away : ∀ p ∈ cs, K.lookup p.2 = none) (code : ∀ p ∈ cs, PySem.W.CodeHd s.heap p.1 p.2)
    (bm : ∃ (bm : Addr) (ob : Obj), mg "__builtins__" = some (.ref bm) ∧ bm ≠ builtinsNs ∧ s.heap.get? bm = some ob ∧ ob.cls = .type "module" ∧ ob.dict = some builtinsNs ∧ ob.data = .plain) (scr : s.heap.get? a = some { cls := .type "list", data := .seq vs.toArray }) (iar : IntsAre vs ns) (len : ns.length ≤ sizeLine)
    (run : ∀ (base : Heap) (H : Hp), (∀ p ∈ cs, LamX.TabB base mg p.1 p.2) → Env0 P w K mg base callerA [] s H → (∀ p ∈ cs, H p.2 = some (.tbl #[])) → SqL K H a (ns.map V.int) →
      codeAny (model P w) callerA (.call (.ref fa) ⟨[.ref a], []⟩) (CR CX0 [] P w H s (fun v _ => v = .bl true) E0) s) :
    codeAny (model P w) callerA (.call (.ref fa) ⟨[.ref a], []⟩) (fun r s' => r = .ok (.ret (.bool true)) ∧ OldK s.heap s'.heap ∧ s'.os = s.os ∧ AllBare s'.gens) s := by
  have rel := vals_ints iar
  have tabAt : ∀ {b : Addr}, b ∈ cs.map (·.2) → s.heap.get? b = some { cls := .none, data := .fields #[] } := fun {b} m => by
    obtain ⟨p, hp, rfl⟩ := List.mem_map.mp m
    exact tabs p hp
  have notTab : a ∉ cs.map (·.2) := fun m => by
    have z := (tabAt m).symm.trans scr
    have z2 := congrArg Obj.data (Option.some.inj z)
    cases z2
  generalize hH : lawH K cs a { cls := .type "list", data := .seq vs.toArray } ns = H
  have some_ : ∀ {b : Addr} {u : HO}, H b = some u → (b ∈ cs.map (·.2) ∧ u = .tbl #[]) ∨ (b = a ∧ K.lookup a = none ∧ u = .frz { cls := .type "list", data := .seq vs.toArray } (.lst (ns.map V.int))) := fun {b u} e => by
    rw [← hH] at e
    exact lawH_some e
  have tabH : ∀ p ∈ cs, H p.2 = some (.tbl #[]) := fun p hp => by
    rw [← hH]
    exact if_pos (List.mem_map.mpr ⟨p, hp, rfl⟩)
  -- what is neither a list nor an empty table isn't tracked
  have loose : ∀ {b : Addr} {ob : Obj}, s.heap.get? b = some ob → (∀ xs n, ob.data ≠ .seq xs n) → ob.data ≠ .fields #[] → H b = none := fun {b ob} e n1 n2 => by
    cases q : H b with
    | none => rfl
    | some u =>
      rcases some_ q with ⟨m, _⟩ | ⟨rfl, _⟩
      · rw [tabAt m] at e
        cases e
        exact absurd rfl n2
      · rw [scr] at e
        cases e
        exact absurd rfl (n1 _ _)
  have nsOn : ∀ {b : Addr} {m : Str → Option Value}, s.heap.Ns b m → (hidT s.heap H).Ns b m := fun {b m} z => by
    obtain ⟨o, es, ep, e, d, r⟩ := z
    refine ⟨o, es, ep, hidT_get e (loose e (fun _ _ q => ?_) fun q => ?_), d, r⟩
    · rw [d] at q
      cases q
    · rw [d] at q
      cases q
  have kin' : K.In (hidT s.heap H) := fun b o e => hidT_get (kin b o e) (by
    cases q : H b with
    | none => rfl
    | some u =>
      rcases some_ q with ⟨m, _⟩ | ⟨rfl, n, _⟩
      · obtain ⟨p, hp, rfl⟩ := List.mem_map.mp m
        rw [away p hp] at e
        cases e
      · rw [n] at e
        cases e)
  have hok : HOk P w H s.heap := fun b u e => by
    rcases some_ e with ⟨m, rfl⟩ | ⟨rfl, _, rfl⟩
    · exact tabAt m
    · exact ⟨scr, by rw [List.length_map]; exact len, vs, _, rel, scr⟩
  have sq : SqL K H a (ns.map V.int) := by
    cases q : K.lookup a with
    | none =>
      refine .inl (.inr ⟨{ cls := .type "list", data := .seq vs.toArray }, ?_⟩)
      rw [← hH]
      exact (if_neg notTab).trans (if_pos ⟨rfl, q⟩)
    | some o =>
      have e := kin a o q
      rw [scr] at e
      cases e
      exact .inr ⟨_, vs.toArray, _, q, rfl, rfl, rfl, by rw [List.size_toArray, iar.length]; exact len, rel⟩
  have tb : ∀ p ∈ cs, LamX.TabB (hidT s.heap H) mg p.1 p.2 := fun p hp => by
    have pt := tabs p hp
    refine ⟨?_, ?_, fun e => ?_⟩
    · obtain ⟨o, us, fl, tf, fg, tg, iF, tx, tt, g1, g2, g3, g4, g5⟩ := code p hp
      refine ⟨o, us, fl, tf, fg, tg, iF, tx, tt, hidT_get g1 (loose g1 (fun _ _ q => ?_) fun q => ?_), g2, g3, g4, g5⟩
      · rw [g3] at q
        cases q
      · rw [g3] at q
        cases q
        simp at g4
    · obtain ⟨b, ob, m1, m2, m3, m4, m5, m6⟩ := bm
      refine ⟨b, ob, m1, m2, fun e => ?_, fun e => ?_, hidT_get m3 (loose m3 (fun _ _ q => ?_) fun q => ?_), m4, m5, m6⟩
      · obtain ⟨o, es, ep, e1, d1, _⟩ := gl
        rw [e, e1] at m3
        cases m3
        rw [d1] at m6
        cases m6
      · rw [e, pt] at m3
        cases m3
        cases m6
      · rw [m6] at q
        cases q
      · rw [m6] at q
        cases q
    · obtain ⟨o, es, ep, e1, d1, _⟩ := gl
      rw [e, pt] at e1
      cases e1
      cases d1
  have limOn : (hidT s.heap H).NoLimit := by
    obtain ⟨mc, l1, l2⟩ := lim
    exact ⟨mc, nsOn l1, l2⟩
  have env : Env0 P w K mg (hidT s.heap H) callerA [] s H := ⟨rfl, ⟨kin', nsOn gl, ⟨mb, nsOn bi, boot⟩, limOn⟩, fun b o e => of_hidT e, Nat.le_of_eq (hidT_size _ _), trivial, fun b hb => absurd (show b ∈ ([] : List Addr) from hb) List.not_mem_nil, hok, .of_eq gens⟩
  refine codeAny_mono (run _ H tb env tabH sq) fun r s' z => ?_
  cases r with
  | error e => exact (show False from z).elim
  | ok fl =>
    cases fl with
    | next => exact (show False from z).elim
    | brk => exact (show False from z).elim
    | cont => exact (show False from z).elim
    | ret u =>
      obtain ⟨v, H', os, bare, un, hok', rv, ev⟩ := z
      have ev : v = .bl true := ev
      subst ev
      obtain rfl : u = Value.bool true := rv
      have grown : ∀ p ∈ cs, ∃ more : Array Value, s'.heap.get? p.2 = some { cls := .none, data := .fields more } := fun p hp => by
        obtain ⟨more, q⟩ := un.tbls p.2 #[] (tabH p hp)
        exact ⟨_, hok' p.2 _ q⟩
      have stays : ∀ b o, b ∉ cs.map (·.2) → s.heap.get? b = some o → s'.heap.get? b = some o := fun b o nb e => by
        cases q : H b with
        | none => exact un.keep b o e q (fun z => absurd (show b ∈ ([] : List Addr) from z) List.not_mem_nil) List.not_mem_nil
        | some u =>
          rcases some_ q with ⟨m, _⟩ | ⟨_, _, rfl⟩
          · exact absurd m nb
          · have e1 := (hok b _ q).1
            have e2 := (hok' b _ (un.frzs b _ _ q)).1
            rw [e] at e1
            rw [Option.some.inj e1]
            exact e2
      refine ⟨rfl, ⟨fun b o e => ?_, fun b o e => ?_⟩, os, bare⟩
      · by_cases m : b ∈ cs.map (·.2)
        · obtain ⟨p, hp, rfl⟩ := List.mem_map.mp m
          obtain ⟨more, hm⟩ := grown p hp
          rw [tabs p hp] at e
          cases e
          exact .inr (.inl ⟨((code p hp).tab (tabs p hp)).isCodeTable, rfl, #[], more, rfl, by rw [Array.empty_append]; exact hm⟩)
        · exact .inl (stays b o m e)
      · by_cases m : b ∈ cs.map (·.2)
        · obtain ⟨p, hp, rfl⟩ := List.mem_map.mp m
          obtain ⟨more, hm⟩ := grown p hp
          exact ⟨_, hm⟩
        · exact ⟨o, stays b o m e⟩
theorem walk_law0 {l : PySem.W.OpenLaw} {most : Nat} {prog : Program} {lo : List Str} {XP : (Str → Option Value) → Heap → Prop} {YP : World → Heap → Prop} {df : DefRec} {K : Params → PySem.W.Frag} (names : List Str)
    (h1 : l.most = some most) (h2 : most ≤ sizeLine) (h3 : df.params.defaults = []) (recs : (names.all fun nm => (recsOf prog).any fun r => r.name == nm) = true) (kin : ∀ (w : World) (h : Heap), YP w h → (K w.params).In h)
    (at_ : ∀ (w : World) (mg : Str → Option Value) (fa : Addr) (h : Heap), (K w.params).In h → h.Ns mainGlobals mg → mg df.name = some (.ref fa) → (∀ nm ∈ names, TabAt mg h nm) →
      ∃ cs : List (Addr × Addr), (∀ p ∈ cs, h.get? p.2 = some { cls := .none, data := .fields #[] }) ∧ (∀ p ∈ cs, (K w.params).lookup p.2 = none) ∧ (∀ p ∈ cs, PySem.W.CodeHd h p.1 p.2) ∧
        ∀ (s : Shared) (H : Hp) (base : Heap) (a : Addr) (ns : List Int), ns.length ≤ most → (∀ z ∈ ns, Builtin.Int.intBits z ≤ 1048576) → (∀ p ∈ cs, LamX.TabB base mg p.1 p.2) → Env0 l.prog w (K w.params) mg base callerA [] s H → (∀ p ∈ cs, H p.2 = some (.tbl #[])) → SqL (K w.params) H a (ns.map V.int) →
          codeAny (model l.prog w) callerA (.call (.ref fa) ⟨[.ref a], []⟩) (CR CX0 [] l.prog w H s (fun v _ => v = .bl true) E0) s) :
    PySem.W.WalkO prog lo XP YP l.row.toRowW df [] (fun f vs => PySem.call f vs) := by
  refine Att.attach_callB h1 h3 fun w s0 s mg mb fa o pm cd doc a vs ns Gr Y _ _ _ name ob iar len bits gens => ?_
  have tabs : ∀ nm ∈ names, TabAt mg s.heap nm := fun nm hm => by
    obtain ⟨r, hr, er⟩ := List.any_eq_true.mp (List.all_eq_true.mp recs nm hm)
    obtain ⟨x1, x2, x3, x4, x5, y1, y2, y3, y4, _, y6⟩ := Gr.T.tab r hr
    rw [beq_iff_eq.mp er] at y1
    exact ⟨x1, x2, x3, x4, x5, y1, y2, y3, y4, y6⟩
  obtain ⟨cs, t1, t2, t3, go⟩ := at_ w mg fa _ (kin w _ Y) Gr.T.g name tabs
  exact call_law (kin w _ Y) Gr.T.g Gr.T.b Gr.T.builtins Gr.T.nolimit gens t1 t2 t3 Gr.T.bmain ob iar (Nat.le_trans len h2) fun base H tb e0 th sq => go s H base a ns len bits tb e0 th sq

/-! ### a law whose methods make lambdas -/
theorem walk_law1 {l : PySem.W.OpenLaw} {most : Nat} {prog : Program} {lo : List Str} {XP : (Str → Option Value) → Heap → Prop} {YP : World → Heap → Prop} {df : DefRec} {K : Params → PySem.W.Frag} {ts : List Addr} (names : List Str)
    (h1 : l.most = some most) (h2 : most ≤ sizeLine) (h3 : df.params.defaults = []) (recs : (names.all fun nm => (recsOf prog).any fun r => r.name == nm) = true) (kin : ∀ (w : World) (h : Heap), YP w h → (K w.params).In h) (tsf : ∀ (w : World) (h : Heap), YP w h → ∀ P ∈ ts, h.get? P = some (PySem.W.tabObj #[]))
    (at_ : ∀ (w : World) (mg : Str → Option Value) (fa : Addr) (h : Heap), (K w.params).In h → h.Ns mainGlobals mg → mg df.name = some (.ref fa) → (∀ P ∈ ts, h.get? P = some (PySem.W.tabObj #[])) → (∀ nm ∈ names, TabAt mg h nm) →
      ∃ cs : List (Addr × Addr), (∀ p ∈ cs, h.get? p.2 = some { cls := .none, data := .fields #[] }) ∧ (∀ p ∈ cs, (K w.params).lookup p.2 = none) ∧ (∀ p ∈ cs, PySem.W.CodeHd h p.1 p.2) ∧
        ∀ (s : Shared) (H : Hp) (base : Heap) (a : Addr) (ns : List Int), ns.length ≤ most → (∀ z ∈ ns, Builtin.Int.intBits z ≤ 1048576) → (∀ p ∈ cs, LamX.TabB base mg p.1 p.2) → Env0 l.prog w (K w.params) mg base callerA [] s H → (∀ p ∈ cs, H p.2 = some (.tbl #[])) → SqL (K w.params) H a (ns.map V.int) →
          codeAny (model l.prog w) callerA (.call (.ref fa) ⟨[.ref a], []⟩) (CR CX0 [] l.prog w H s (fun v _ => v = .bl true) E0) s) :
    PySem.W.WalkO prog lo XP YP l.row.toRowW df [] (fun f vs => PySem.call f vs) := by
  refine Att.attach_callB h1 h3 fun w s0 s mg mb fa o pm cd doc a vs ns Gr Y _ _ _ name ob iar len bits gens => ?_
  have tabs : ∀ nm ∈ names, TabAt mg s.heap nm := fun nm hm => by
    obtain ⟨r, hr, er⟩ := List.any_eq_true.mp (List.all_eq_true.mp recs nm hm)
    obtain ⟨x1, x2, x3, x4, x5, y1, y2, y3, y4, _, y6⟩ := Gr.T.tab r hr
    rw [beq_iff_eq.mp er] at y1
    exact ⟨x1, x2, x3, x4, x5, y1, y2, y3, y4, y6⟩
  obtain ⟨cs, t1, t2, t3, go⟩ := at_ w mg fa _ (kin w _ Y) Gr.T.g name (tsf w _ Y) tabs
  exact call_law (kin w _ Y) Gr.T.g Gr.T.b Gr.T.builtins Gr.T.nolimit gens t1 t2 t3 Gr.T.bmain ob iar (Nat.le_trans len h2) fun base H tb e0 th sq => go s H base a ns len bits tb e0 th sq

end My
namespace My
open PySem PySem.Spec PyProof.Rows L2
/-! ### repr of what is nested; a list of truths counted; raise X() -/
def rRepr (K : PySem.W.Frag) : List V → Hp → VK → Prop := fun xs H Q => ∃ (v : V) (d : PyData), xs = [v] ∧ Dp K H v d ∧ isDisplay d = true ∧ d.showable = true ∧ d.hasDict = false ∧ d.depth ≤ 50 ∧ d.shown.length ≤ sizeLine ∧ Q (.str d.shown) H
theorem call_repr {X : Cx} (none_ : X.A.guards = some []) (room : X.A.units + 64 < cLine) : CallR X (.builtin "repr") (rRepr X.K) := by
  intro pins s σ H xs us Q I r h
  obtain ⟨v, d, rfl, dp, disp, shw, nod, dep, len, q⟩ := h
  obtain ⟨u, rfl, ru⟩ := vals1 r
  obtain ⟨as, rd⟩ := Dp.reads I d v u dp ru
  obtain ⟨a, rfl⟩ := isRef_of_reads rd disp
  exact repr_of_reads' rd shw (PyData.noDict_hsm nod) none_ (by omega) (fun _ _ e => e) (fun h' t tk hk => ⟨.str d.shown, H, I.kept (t' := tk) hk, ⟨t, rfl⟩, q⟩) len
/-- l.count(True), l a list of truths -/
def rCntB (K : PySem.W.Frag) : V → List V → Hp → VK → Prop := fun x xs H Q => ∃ (p : Addr) (bs : List Bool) (b : Bool), x = .ref p ∧ xs = [.bl b] ∧ SqL K H p (bs.map V.bl) ∧ Q (.int (bs.count b : Nat)) H
def isB (b : Bool) : Value → Bool
  | .bool c => c == b
  | _ => false
theorem bools_of {b : Bool} : ∀ {bs : List Bool} {us : List Value}, Vals (bs.map V.bl) us → (∀ y ∈ us, ∃ c, y = .bool c) ∧ us.countP (isB b) = bs.count b
  | [], _, r => by
    cases r
    exact ⟨fun y h => (nomatch h), rfl⟩
  | c :: bs, _, r => by
    rw [List.map_cons] at r
    cases r with
    | @cons a u as us ru rr =>
      obtain ⟨h1, h2⟩ := bools_of (b := b) rr
      obtain rfl : u = Value.bool c := ru
      refine ⟨fun y hy => ?_, ?_⟩
      · rcases List.mem_cons.mp hy with e | e
        · exact ⟨c, e⟩
        · exact h1 y e
      · rw [List.countP_cons, List.count_cons, h2]
        rfl
theorem mt_countB {X : Cx} : MtR X "list.count" (rCntB X.K) := by
  intro pins s σ H x xs v us Q I rx rxs h
  obtain ⟨p, bs, b, rfl, rfl, sq, q⟩ := h
  obtain rfl : v = Value.ref p := rx
  obtain ⟨u, rfl, ru⟩ := rxs.one
  obtain rfl : u = Value.bool b := ru
  obtain ⟨its, rel, ⟨ob, n, hob, cls, dct, dat⟩, _⟩ := I.list sq
  obtain ⟨oc, od, odt, osl⟩ := ob
  simp only at cls dat
  subst cls dat
  obtain ⟨all, cnt⟩ := bools_of (b := b) rel
  refine call_meets PySem.F.slot_list_count ⟨_, hob, rfl⟩ PySem.F.entry_list_count (PySem.F.args_list_count_2 _ _) (SeqAt.list_countAt p its.toArray n od osl (.bool b) (isB b)) ⟨hob, fun y hy => ?_, ?_⟩
  · obtain ⟨c, rfl⟩ := all y (by simpa using hy)
    exact SeqAt.EqAt.bool_bool c b
  · refine ⟨.int (bs.count b : Nat), H, I.tok _, ⟨s.toks, ?_⟩, q⟩
    show Value.int ((its.toArray.toList.countP (isB b) : Nat) : Int) s.toks = Value.int ((bs.count b : Nat) : Int) s.toks
    rw [← cnt]
/-- raise X() -/
theorem pmk_own0 {X : Cx} {C : Addr} {x : Str} {p pos : Pos} (ex : PySem.W.excIn X.K C veB "ValueError.__new__" = true) (gC : X.mg x = some (.ref C)) (kC : PySem.W.keepIn X.K (.ref C) = true) (rs : Raises X (.ref C)) (gl : Gl X x) (dbg : (x == ("__debug__" : Str)) = false := by decide) :
    PMk X (.Call (.Name x p) [] [] pos) (fun _ H Q => Q (.ref C) none H) := by
  intro pins st σ H Q I q
  refine wpAny_Call_Name_kw (ld_glob I gl gC ?_ dbg)
  refine PySem.W.callWith_K0 I.kIn kC ?_
  obtain ⟨bm, N, nm, qn, bs, hdct, sn, sub, ab, col, dd, k0, k1, k2, k3, k5, mN, hC, hN, hni, OT⟩ := exc_obj I.kIn ex
  exact wpAny_call_exc_subT PySem.F.excBase_ValueError OT hC hN hni (fun h' a made => mk_of I made rs q (I.hok.gone made.new)) (Nat.zero_le _)
/-- isinstance of a kept exception -/
def rIsC (K : PySem.W.Frag) : List V → Hp → VK → Prop := fun xs H Q => ∃ (a C : Addr) (c : V) (cv : Value) (b : Bool), xs = [.ref a, c] ∧ H a = some (ExC (.ref C) none a) ∧ XcC K C ∧ ClsV c cv ∧ PySem.W.kitOne K (.ref C) cv = some b ∧ Q (.bl b) H
theorem call_isC {X : Cx} : CallR X (.builtin "isinstance") (rIsC X.K) := by
  intro pins st σ H xs us Q I r h
  obtain ⟨a, C, c, cv, b, rfl, at_, xc, kc, e, q⟩ := h
  obtain ⟨u1, u2, rfl, r1, r2⟩ := vals2 r
  obtain rfl : u1 = Value.ref a := r1
  obtain rfl := kc.eq r2
  obtain ⟨⟨oe, vs, ho, hz, hd⟩, _, _⟩ := I.hok a _ at_
  have inst : PySem.W.InstAt st.heap a oe C none := by
    refine ⟨ho, hz.1, ?_, ?_⟩
    · unfold PySem.W.notCls
      rw [hd]
    · rw [hz.2]
      trivial
  exact PySem.W.kia_one (PySem.W.kitx_exc xc.cl xc.hg xc.hk xc.hs xc.ha xc.hn xc.ht xc.hm) I.kIn inst e (fun z => nomatch z) fun tk => ⟨.bl b, H, I.kept (t' := tk) fun _ _ z => z, rfl, q⟩

/-! ### len(set(t)) of a tuple of whole numbers -/
def tLenSetT (K : PySem.W.Frag) (ta : TE) : TE := fun σ H Q => ta σ H fun x H1 => ∃ (p : Addr) (ns : List Int), x = .ref p ∧ SqT K H1 p (ns.map V.int) ∧ ns.length ≤ 1000 ∧ ∀ out : List Int, out.Nodup → (∀ k, k ∈ out ↔ k ∈ ns) → Q (.int (out.length : Nat)) H1
theorem pe_lenSetT {X : Cx} {a : Expr} {ta : TE} {p p2 q pos : Pos} (hc : X.calm = true) (hg : Gl X "len") (hm : X.mg "len" = none) (hg2 : Gl X "set") (hm2 : X.mg "set" = none) (ha : PE X a ta)
    (na : starEach [a] X.env = (false, eval a X.env) :: starEach [] X.env := by rfl) : PE X (.Call (.Name "len" p) [.Call (.Name "set" p2) [a] [] q] [] pos) (tLenSetT X.K ta) := by
  refine ⟨fun pins s σ H Q I h => ?_⟩
  refine Call_ (ld_blt I hg hm boot_len ?_)
  refine PyProof.Rows.callWith_builtin1 (PyProof.Rows.args_cons ?_ rfl) rfl rfl
  refine Call_ (ld_blt I hg2 hm2 boot_set ?_)
  refine PyProof.Rows.callWith_type1 (PyProof.Rows.args_cons (thn (ha.run pins s σ H _ I h) fun v s1 ⟨x, H1, I1, r1, q1⟩ => PyProof.Rows.args_nil ?_) na) na rfl
  obtain ⟨p0, ns, rfl, hq, hl, q1⟩ := q1
  cases r1
  obtain ⟨its, rv, pt, hz⟩ := I1.tuple hq
  have hi : IntsAre its.toArray.toList ns := ints_of_vals rv
  refine call_set_tupI ns (I1.ok.hd hc) (show s1.heap.IsTuple p0 its.toArray from pt) hi (by unfold scanBound; omega) fun h' tk c R1 hcn k => ?_
  refine PyProof.Rows.args_nil ?_
  obtain ⟨o, es, ep, t, ho, hex, hdt, g, nd, hm2, hb, hf, hn, hr, hl2⟩ := R1
  have I2 : Inv X pins σ H1 { s1 with heap := h', toks := tk } := I1.kept fun b o e => k b o e
  have z := q1 (es.toList.map keyOf) nd fun j => by rw [← hm2 j, decide_eq_true_eq]
  rw [List.length_map, Array.length_toList] at z
  exact call_len_set (s := { s1 with heap := h', toks := tk }) ho hex hdt hf (by rw [hn]; omega) ⟨.int es.size, H1, I2.tok _, ⟨_, rfl⟩, z⟩
/-! ### all of a generator expression, by a walk -/
theorem gturns_it {J : It} {n : Nat} {G : Hp → Prop} {Y : Nat → Hp → V → Hp → Prop} (wk : Walk J n G Y) {g : TG} {te : TE} {σw : L2.St} {vs : List Nat} {Q : Bool → Hp → Prop} {H : Hp} (Pv : Nat → Hp → Prop) (h0 : Pv 0 H) (hG : ∀ i H, i ≤ n → Pv i H → G H)
    (hs : ∀ (i : Nat) (x : V) (H H' : Hp) (N : Hp → Prop), i < n → Pv i H → Y i H x H' → (∀ H3, Pv (i + 1) H3 → N H3) → g x σw H' fun σ2 H2 => wipe σ2 vs = σw ∧ te σ2 H2 fun v H3 => ∃ b, v = .bl b ∧ if b = true then N H3 else Q false H3)
    (hd : ∀ H, Pv n H → Q true H) : ∃ W : Nat → Nat → Hp → Prop, (∃ m, W 0 m H) ∧ gTurns J g te σw vs W Q := by
  refine ⟨fun i m H => m = n - i ∧ i ≤ n ∧ Pv i H, ⟨n, rfl, Nat.zero_le _, h0⟩, fun i m H st => ?_⟩
  obtain ⟨em, le, pv⟩ := st
  have q := hG i H le pv
  rcases Nat.lt_or_eq_of_le le with lt | eq
  · refine .inr ⟨wk.goes i H lt q, fun v H' y => ?_⟩
    exact hs i v H H' _ lt pv (wk.yields i H v H' lt q y) fun H3 p' => ⟨n - (i + 1), by omega, rfl, lt, p'⟩
  · subst eq
    exact .inl ⟨wk.stops H q, hd H pv⟩
theorem walk_zipT {K : PySem.W.Frag} {a b : Addr} {xs ys : List V} {n : Nat} (hn : n = min xs.length ys.length) : Walk (RZ.ItzT K a b) n (fun H => SqT K H a xs ∧ SqT K H b ys) (YPair (fun i => xs[i]?) (fun i => ys[i]?)) := by
  subst hn
  refine ⟨fun i _ hi q => ?_, fun _ q => ⟨xs, ys, q.1, q.2, by omega⟩, fun i H v H' _ q y => ?_⟩
  · have h1 : i < xs.length := by omega
    have h2 : i < ys.length := by omega
    exact ⟨xs, ys, xs[i], ys[i], q.1, q.2, by simp [h1], by simp [h2]⟩
  · obtain ⟨T, x, z, h1, h2, h3, h4, h5⟩ := y
    exact ⟨T, x, z, h1, h2, h3, h4 xs q.1, h5 ys q.2⟩

end My
namespace My
open PySem PySem.Spec PyProof.Rows L2
/-! ### enumerate over a tuple -/
theorem enum_tup_new (a : Addr) (its : Array Value) (n : Nat) (dc : Option Addr) (sl : Array (Option Value)) :
    Meets (Builtin.«enumerate.__new__» ⟨[.type "enumerate", .ref a], []⟩) (fun _ R s => s.heap.get? a = some { cls := .type "tuple", dict := dc, data := .seq its n, slots := sl } ∧
      R (.ok (.ret (.ref (s.heap.push { cls := .type "tuple_iterator", data := .fields #[.ref a, .int 0 0] }).objs.size))) { s with heap := (s.heap.push { cls := .type "tuple_iterator", data := .fields #[.ref a, .int 0 0] }).push { cls := .type "enumerate", data := .fields #[.none, .bool false, .ref s.heap.objs.size, rawInt 0, .none, .none] } }) :=
  .of_wp fun prog w A R s h => by
    obtain ⟨hp, g, d, tk, os⟩ := s
    obtain ⟨hl, h⟩ := h
    have hsub := sub_enumerate
    have hT : Heap.IsTuple (Shared.heap ⟨hp, g, d, tk, os⟩) a its := ⟨_, hl, rfl, n, rfl⟩
    wp_walk using AutoSeq1.wpAny_loadPart' hl
    refine wpAny_stack_any (fun stk => wpAny_pure ?_)
    split
    · rename_i cc _ _ _ _ _
      cases (cc == Value.type "enumerate")
      · wp_walk using AutoSeq1.wpAny_loadPart' hl, wpAny_pyIter_tuple hT
        exact ⟨_, rfl, h⟩
      · wp_walk using AutoSeq1.wpAny_loadPart' hl, wpAny_pyIter_tuple hT
        exact ⟨_, rfl, h⟩
    · wp_walk using AutoSeq1.wpAny_loadPart' hl, wpAny_pyIter_tuple hT
      exact ⟨_, rfl, h⟩
theorem call_enum_tup {prog : Program} {w : World} {A : Around} {E : Value → Shared → Prop} {s : Shared} {a : Addr} {its : Array Value} {Q : Value → Shared → Prop} (ht : s.heap.IsTuple a its)
    (h : ∀ h', IsEnum h' (s.heap.objs.size + 1) s.heap.objs.size 0 .none → h'.IsTupleIter s.heap.objs.size a 0 → (∀ b o, s.heap.get? b = some o → h'.get? b = some o) → Q (.ref (s.heap.objs.size + 1)) { s with heap := h' }) :
    wpAny (model prog w) A (call (.type "enumerate") [.ref a]) Q E s := by
  obtain ⟨⟨c, dc, dt, sl⟩, hl, hc, n, hd⟩ := ht
  obtain rfl : c = .type "tuple" := hc
  obtain rfl : dt = .seq its n := hd
  refine callType_new F.called_enumerate (by decide) (F.typeCall_enumerate_1 _) (F.newCall_enumerate_1 _) (fun obj => F.args_object_init_2 obj _) F.entry_enumerate_new (enum_tup_new a its n dc sl) ⟨hl, ?_⟩
  have sz : (s.heap.push { cls := .type "tuple_iterator", data := .fields #[.ref a, .int 0 0] }).objs.size = s.heap.objs.size + 1 := Heap.size_push ..
  show _ ∧ _
  rw [sz]
  have he : IsEnum ((s.heap.push { cls := .type "tuple_iterator", data := .fields #[.ref a, .int 0 0] }).push { cls := .type "enumerate", data := .fields #[.none, .bool false, .ref s.heap.objs.size, rawInt 0, .none, .none] }) (s.heap.objs.size + 1) s.heap.objs.size 0 .none := by
    have z := Heap.get?_push_size (s.heap.push { cls := .type "tuple_iterator", data := .fields #[.ref a, .int 0 0] }) (o := { cls := .type "enumerate", data := .fields #[.none, .bool false, .ref s.heap.objs.size, rawInt 0, .none, .none] }) rfl
    rw [sz] at z
    exact z
  exact ⟨⟨_, he, rfl⟩, h _ he ⟨_, Heap.get?_push_of_some _ (Heap.get?_push_size _ rfl), rfl, rfl⟩ fun b o y => Heap.get?_push_of_some _ (Heap.get?_push_of_some _ y)⟩
/-- the tuple at a, each item in a new pair with its number -/
def ItE (K : PySem.W.Frag) (a : Addr) : It :=
  ⟨fun i H => ∃ (xs : List V) (x : V), SqT K H a xs ∧ xs[i]? = some x,
    fun i H v H' => ∃ (T : Addr) (x : V), v = .ref T ∧ H T = none ∧ H' = upd H T (.tup [.int (i : Nat), x]) ∧ ∀ xs, SqT K H a xs → xs[i]? = some x,
    fun i H => ∃ xs : List V, SqT K H a xs ∧ xs.length = i⟩
theorem turn_enumT {P : Program} {w : World} {K : PySem.W.Frag} {elts : List Expr} {kk : Nat} {tpos : Pos} (a e it : Addr) :
    Turn P w K (.Tuple elts kk tpos) (ItE K a) [e, it] e (fun i h => (∃ old, IsEnum h e it ((i : Nat) : Int) old) ∧ h.IsTupleIter it a i ∧ e ≠ it) where
  mem := List.mem_cons_self
  obj := fun i h st b hb => by
    obtain ⟨⟨old, he⟩, ⟨o, ho, hc, hd⟩, _⟩ := st
    rcases List.mem_cons.mp hb with z | z
    · rw [z]
      exact ⟨_, he, fun v q => nomatch q⟩
    · rw [List.mem_singleton.mp z]
      exact ⟨o, ho, fun v q => by rw [hd] at q; cases q⟩
  keep := fun i h h' st k => by
    obtain ⟨⟨old, he⟩, hi, hne⟩ := st
    exact ⟨⟨old, k e List.mem_cons_self _ he⟩, hi.at fun o q => k it (List.mem_cons_of_mem _ List.mem_cons_self) o q, hne⟩
  item := by
    intro X hP hw hK hc i pins s σ H E I hf st hg
    subst hP hw hK
    obtain ⟨⟨old, he⟩, hit, hne⟩ := st
    obtain ⟨xs, x, hq, hx⟩ := hg
    obtain ⟨its, rv, tp, hz⟩ := I.tuple hq
    obtain ⟨u, hu, ru⟩ := rv.get hx
    have ea : e ≠ a := fun z => by
      obtain ⟨o, h1, h2, _⟩ := id tp
      have he2 : s.heap.get? e = some _ := he
      rw [z, h1] at he2
      rw [Option.some.inj he2] at h2
      injection h2 with z2
      exact absurd z2 (by decide)
    have ia : a ≠ it := fun z => by
      obtain ⟨o, h1, h2, _⟩ := id tp
      obtain ⟨o2, g1, g2, _⟩ := id hit
      rw [← z, h1] at g1
      rw [Option.some.inj g1, g2] at h2
      injection h2 with z2
      exact absurd z2 (by decide)
    have hel : e < s.heap.objs.size := Heap.lt_size he
    have hil : it < s.heap.objs.size := by
      obtain ⟨_, q, _⟩ := id hit
      exact Heap.lt_size q
    have hui : its.toArray[i]? = some u := by simpa using hu
    have hlt : i < its.toArray.size := (Array.getElem?_eq_some_iff.mp hui).1
    refine wpAny_pyNext_enum_itemD (Draws.tuple (A := X.A.in1) (I.ok.hd hc) it a ia its.toArray) he ⟨hit, tp⟩ hlt hne (fun z => ?_) fun y h' tk hy ho st' hT hsz hk => ?_
    · rcases List.mem_cons.mp z with z | z
      · exact hne z
      · exact ea (List.mem_singleton.mp z)
    · have ey : y = u := by
        have hy2 : its.toArray[i]? = some y := hy
        rw [hui] at hy2
        exact (Option.some.inj hy2).symm
      subst ey
      refine ⟨_, rfl, wpAny_letOwnedTupleGo_enum (s := { s with heap := h', toks := tk + 1 }) ho fun h'' he' sb => ?_⟩
      have hT2 : h''.get? s.heap.objs.size = some { cls := .type "tuple", data := .seq #[.int i tk, y] } := (sb.2 _ (Nat.ne_of_gt hel)).trans hT
      have new : ObjOk X.prog X.w (upd H s.heap.objs.size (.tup [.int (i : Nat), x])) h'' s.heap.objs.size (.tup [.int (i : Nat), x]) :=
        ⟨by show 2 ≤ sizeLine; decide, [.int i tk, y], .cons ⟨_, rfl⟩ (.cons ru .nil), ⟨_, hT2, rfl, _, rfl⟩⟩
      have fr : ∀ b ob, b ∉ [e, it] → s.heap.get? b = some ob → h''.get? b = some ob := fun b ob hb q => by
        have n1 : b ≠ e := fun z => hb (z ▸ List.mem_cons_self)
        have n2 : b ≠ it := fun z => hb (z ▸ List.mem_cons_of_mem _ List.mem_cons_self)
        exact (sb.2 b n1).trans (hk b ob n1 n2 q)
      have I1 : Inv X pins σ (upd H s.heap.objs.size (.tup [.int (i : Nat), x])) { s with heap := h'', toks := tk + 1 } := I.turnedNew (ch := [e, it]) fr hf (Nat.le_refl _) new
      refine ⟨.ref s.heap.objs.size, _, I1, rfl, ⟨_, x, rfl, I.hok.fresh (Nat.le_refl _), rfl, fun ys hy => by rw [I.tuple_inj hy hq]; exact hx⟩, ⟨⟨y, ?_⟩, (st'.1).at fun o q => (sb.2 it (Ne.symm hne)).trans q, hne⟩, fun b hb => ?_⟩
      · have e1 : ((i + 1 : Nat) : Int) = (i : Int) + 1 := by omega
        rw [e1]
        exact he'
      · have hb' : b < s.heap.objs.size := by
          rcases List.mem_cons.mp hb with z | z
          · rw [z]
            exact hel
          · rw [List.mem_singleton.mp z]
            exact hil
        rw [upd_ne (Nat.ne_of_lt hb')]
        exact (hf b hb).1
  done := by
    intro X hP hw hK hc i pins s σ H E I hf st hg
    subst hP hw hK
    obtain ⟨⟨old, he⟩, hit, hne⟩ := st
    obtain ⟨xs, hq, hx⟩ := hg
    obtain ⟨its, rv, tp, hz⟩ := I.tuple hq
    obtain ⟨f0, f1, f2, f3, f4, f5⟩ := hf it (List.mem_cons_of_mem _ List.mem_cons_self)
    have ia : a ≠ it := fun z => by
      obtain ⟨o, h1, h2, _⟩ := id tp
      obtain ⟨o2, g1, g2, _⟩ := id hit
      rw [← z, h1] at g1
      rw [Option.some.inj g1, g2] at h2
      injection h2 with z2
      exact absurd z2 (by decide)
    have hl : i = its.toArray.size := by
      rw [List.size_toArray, ← rv.length, hx]
    subst hl
    exact wpAny_pyNext_enum_endD (Draws.tuple (A := X.A.in1) (I.ok.hd hc) it a ia its.toArray) he ⟨hit, tp⟩ fun h' eb => ⟨rfl, I.turned (t' := s.toks) (fun b o hb q => eb b o hb q) f0 f1 f3 f4 f5⟩
  self := fun A i s Q E st h => by
    obtain ⟨⟨_, he⟩, _⟩ := st
    exact wpAny_pyIter_enum he h
def iEnumT (K : PySem.W.Frag) (ta : TA) : TI := fun σ H R => ta σ H fun vs H1 => ∃ (a : Addr) (xs : List V), vs = [.ref a] ∧ SqT K H1 a xs ∧ R (ItE K a) H1
theorem pi_enumT {X : Cx} {e : Expr} {ta : TA} {p pos tpos : Pos} {elts : List Expr} {kk : Nat} (hg : Gl X "enumerate") (hm : X.mg "enumerate" = none) (ha : PA X [e] ta) (hs : starEach [e] X.env = [(false, eval e X.env)] := by rfl) :
    PI X (.Tuple elts kk tpos) (.Call (.Name "enumerate" p) [e] [] pos) (iEnumT X.K ta) := by
  constructor
  intro pins s σ H R I h
  refine Call_ (ld_blt I hg hm boot_enumerate (PyProof.Rows.callWith_type1 (thn (ha.run pos pins s σ H _ I h) fun us s1 z => ?_) hs rfl))
  obtain ⟨vs, H1, I1, r1, a, xs, rfl, hq, q⟩ := z
  obtain ⟨u, rfl, r⟩ := vals1 r1
  obtain rfl : u = Value.ref a := r
  obtain ⟨its, rv, tp, hz⟩ := I1.tuple hq
  refine call_enum_tup tp fun h' he hit hk => wpAny_pyIter_enum he ?_
  have I2 : Inv X pins σ H1 { s1 with heap := h' } := I1.kept (t' := s1.toks) hk
  refine ⟨s1.heap.objs.size + 1, [s1.heap.objs.size + 1, s1.heap.objs.size], _, _, H1, rfl, I2, turn_enumT a (s1.heap.objs.size + 1) s1.heap.objs.size, ⟨⟨.none, he⟩, hit, Nat.succ_ne_self _⟩, fun b hb => ?_, q⟩
  have hle : s1.heap.objs.size ≤ b := by
    rcases List.mem_cons.mp hb with z | z
    · rw [z]
      exact Nat.le_succ _
    · rw [List.mem_singleton.mp z]
      exact Nat.le_refl _
  exact I1.fpOk hle (I1.hok.fresh hle)
theorem walk_enumT {K : PySem.W.Frag} {a : Addr} {xs : List V} : L2.Walk (ItE K a) xs.length (fun H => SqT K H a xs) (YPair (fun i => some (.int (i : Nat))) (fun i => xs[i]?)) := by
  refine ⟨fun i _ hi q => ⟨xs, xs[i], q, List.getElem?_eq_getElem hi⟩, fun _ q => ⟨xs, q, rfl⟩, fun i H v H' _ q y => ?_⟩
  obtain ⟨T, x, h1, h2, h3, h4⟩ := y
  exact ⟨T, .int (i : Nat), x, h1, h2, h3, rfl, h4 xs q⟩

/-! ### sorted of a dict's keys, of a tuple: ints, any number of them -/
section
variable {X : Cx}
theorem call_sortedDX (hcalm : X.calm = true) : CallR X (.builtin "sorted") (fun xs H Q => ∃ (a : Addr) (kvs : List (Key × V)) (ks : List Int), xs = [.ref a] ∧ Rd H a (.dK kvs) ∧ kvs.map (·.1) = ks.map Sum.inl ∧ ks.length ≤ 100000 ∧
    ∀ (ys : List Int) (p : Addr), ys.Perm ks → ys.Pairwise (· ≤ ·) → H p = none → Q (.ref p) (upd H p (.lst (ys.map V.int)))) := by
  intro pins s σ H xs us Q I r q
  obtain ⟨a, kvs, ks, ex, hd, hks, hz, q⟩ := q
  subst ex
  obtain ⟨u, eu, rx⟩ := vals1 r
  subst eu
  cases rx
  obtain ⟨z, lo, vs, rel, dd⟩ := dk_rd I.hok hd
  obtain ⟨ep, hat⟩ := dd.dictAt
  have hkeys : vs.map (·.1) = ks.map Sum.inl := rel.keys.symm.trans hks
  have hl : vs.length = ks.length := by
    have e := congrArg List.length hkeys
    rw [List.length_map, List.length_map] at e
    exact e
  refine Calls.call_function_entry PyProof.Rows.kind_sorted PyProof.Rows.plain_sorted PyProof.Rows.entry_sorted (PyProof.Rows.args_sorted1 _) ?_
  unfold Builtin.«sorted»
  refine wpAny_bind (m := checkCount "sorted" 1 1 _) (wpAny_pure ?_)
  refine wpAny_bind (PySem.W.kdu_collect (A := X.A.in1) (PySem.W.kdl_dict (knd := mixKind X.prog X.w) (kvs := vs) (ep := ep) lo) (I.ok.hd hcalm) hat (by rw [hl]; exact sz hz) fun h' tk acc hk hacc => ?_)
  have hal : acc.toList.length = ks.length := by rw [Array.length_toList, hacc.1, hl]
  have hS : PyProof.Rows.IntsAre acc.toList ks := ints_each hal fun j v e => by
    obtain ⟨k, x, e1, e2⟩ := hacc.2 j v (by rw [← Array.getElem?_toList]; exact e)
    have e3 : (vs.map (·.1))[j]? = some k := by rw [List.getElem?_map, e1]; rfl
    rw [hkeys, List.getElem?_map] at e3
    cases e4 : ks[j]? with
    | none => rw [e4] at e3; cases e3
    | some y =>
      rw [e4] at e3
      have e5 : Sum.inl y = k := Option.some.inj e3
      subst e5
      rcases keyIs_shape (show keyIs (Sum.inl y) v = true from e2) with ⟨i, t, ek, ev⟩ | ⟨z, t, ek, ev⟩
      · cases ek
        exact ⟨y, t, rfl, ev⟩
      · cases ek
  have I1 : Inv X pins σ H { s with heap := h', toks := tk } := I.kept hk
  refine wpAny_bind (wpAny_newList ?_ (by rw [hal]; exact sz hz))
  have hoL : (h'.push (seqObj "list" acc.toList.toArray 0)).get? h'.objs.size = some (seqObj "list" acc.toList.toArray 0) := Heap.get?_push_size _ rfl
  show wpAny _ _ _ _ _ { s with heap := h'.push (seqObj "list" acc.toList.toArray 0), toks := tk }
  refine wpAny_bind (wpAny_holding (wpAny_call_entry PyProof.Rows.slot_list_sort ⟨_, hoL, rfl⟩ PyProof.Rows.entry_list_sort
    (SrtO.list_sort_ord (s := { s with heap := h'.push (seqObj "list" acc.toList.toArray 0), toks := tk }) SrtO.swo_int hoL (by rw [hal]; exact sz hz) (fun h2 => SrtO.ints_sortable hS h2) fun out h1 h2 => ⟨_, rfl, ?_⟩) (PyProof.Rows.args_list_sort _)))
  obtain ⟨k1, k2, k3⟩ := SrtO.ints_out hS h1 h2
  obtain ⟨e', he'⟩ := PyProof.Rows.sortedHeap_at (vs := acc.toList) (out := out.toArray) hoL
  have hlen : ((out.map SrtO.iv).map V.int).length ≤ sizeLine := by
    rw [List.length_map, k2.length_eq]
    exact sz hz
  refine wpAny_pure ⟨_, rfl, .ref h'.objs.size, upd H h'.objs.size (.lst ((out.map SrtO.iv).map V.int)), I1.laid (t' := tk) (fun b u e => ?_) (Nat.le_refl _)
    (show ObjOk X.prog X.w _ _ _ (.lst ((out.map SrtO.iv).map V.int)) from ⟨hlen, out, e', vals_of_ints k1, he'⟩), rfl, q _ _ k2 k3 (I1.hok.fresh (Nat.le_refl _))⟩
  have hb : b < h'.objs.size := Heap.lt_size e
  rw [PyProof.Rows.sortedHeap_old (Nat.ne_of_lt hb) (by rw [size_push']; exact Nat.lt_succ_of_lt hb)]
  exact Heap.get?_push_of_some _ e
end

/-! ### t[::-1] of a tuple -/
theorem adjust_rev (n : Nat) : Builtin.Slice.sliceAdjust none none (-1) (n : Int) = ((n : Int) - 1, -1) := by
  first
  | rfl
  | (unfold Builtin.Slice.sliceAdjust; simp)
theorem places_rev (n : Nat) : Builtin.Slice.slicePlaces ((n : Int) - 1) (-1) (-1) = n := by
  unfold Builtin.Slice.slicePlaces
  have h1 : ¬ ((-1 : Int) > 0) := by decide
  simp only [h1, if_false]
  by_cases h : (n : Int) - 1 > -1
  · rw [if_pos (by omega)]
    have e : ((n : Int) - 1 - -1 - 1) / (- -1) = (n : Int) - 1 := by
      rw [show (- -1 : Int) = 1 by decide, Int.ediv_one]
      omega
    omega
  · rw [if_neg (by omega)]
    omega
theorem filterMap_ext {α β : Type} {f g : α → Option β} : ∀ {l : List α}, (∀ x ∈ l, f x = g x) → l.filterMap f = l.filterMap g
  | [], _ => rfl
  | x :: l, h => by
    rw [List.filterMap_cons, List.filterMap_cons, h x List.mem_cons_self, filterMap_ext fun y hy => h y (List.mem_cons_of_mem _ hy)]
theorem pick_rev (xs : Array Value) : ((List.range xs.size).filterMap fun (m : Nat) => xs[(((xs.size : Int) - 1) + (m : Int) * (-1)).toNat]?).toArray = xs.toList.reverse.toArray := by
  have e : (List.range xs.size).filterMap (fun (m : Nat) => xs[(((xs.size : Int) - 1) + (m : Int) * (-1)).toNat]?) = ((List.range xs.size).map fun k => xs.size - 1 - k).filterMap (xs[·]?) := by
    rw [List.filterMap_map]
    refine filterMap_ext fun m hm => ?_
    have := List.mem_range.mp hm
    show xs[(((xs.size : Int) - 1) + (m : Int) * (-1)).toNat]? = xs[xs.size - 1 - m]?
    have e2 : (((xs.size : Int) - 1) + (m : Int) * (-1)).toNat = xs.size - 1 - m := by omega
    rw [e2]
  rw [e, PySem.W.krv_range, List.filterMap_reverse, PySem.W.krv_all]
theorem sliceApplied_rev {prog : Program} {w : World} {A : Around} {E : Value → Shared → Prop} {s : Shared} {sl : Addr} {vl vu vs : Value} {n : Nat} {Q : Int × Int × Nat → Shared → Prop} (hs : s.heap.IsSliceOf sl vl vu vs) (pl : PySem.IsPart vl none) (pu : PySem.IsPart vu none) (ps : PySem.IsPart vs (some (-1)))
    (h : Q ((n : Int) - 1, -1, n) s) : wpAny (model prog w) A (Builtin.Slice.sliceApplied (.ref sl) (pure (n : Int))) Q E s := by
  obtain ⟨os, hos, hcs, hds⟩ := id hs
  unfold Builtin.Slice.sliceApplied Builtin.Slice.sliceFields
  refine wpAny_bind (wpAny_bind (wpAny_field hos hds (x := vl) rfl (wpAny_bind (wpAny_field hos hds (x := vu) rfl (wpAny_bind (wpAny_field hos hds (x := vs) rfl (wpAny_pure ?_)))))))
  refine wpAny_bind (HT.slicePart_ ps ?_)
  show wpAny _ _ (if ((-1 : Int) == 0) = true then _ else _) _ _ s
  rw [if_neg (by decide)]
  refine wpAny_bind (HT.slicePart_ pl (wpAny_bind (HT.slicePart_ pu (wpAny_bind (wpAny_pure ?_)))))
  show wpAny _ _ (match Builtin.Slice.sliceAdjust none none (-1) (n : Int) with | (lo, hi) => pure (lo, (-1 : Int), Builtin.Slice.slicePlaces lo hi (-1))) _ _ s
  rw [adjust_rev]
  show wpAny _ _ (pure ((n : Int) - 1, (-1 : Int), Builtin.Slice.slicePlaces ((n : Int) - 1) (-1) (-1))) _ _ s
  rw [places_rev]
  exact wpAny_pure h
theorem getItem_revT {prog : Program} {w : World} {A : Around} {E : Value → Shared → Prop} {s : Shared} {t sl : Addr} {items : Array Value} {vl vu vs : Value} {Q : Value → Shared → Prop} (ht : IsTup s.heap t items) (hs : s.heap.IsSliceOf sl vl vu vs) (pl : PySem.IsPart vl none) (pu : PySem.IsPart vu none) (ps : PySem.IsPart vs (some (-1)))
    (h : Q (.ref s.heap.objs.size) { s with heap := s.heap.push { cls := .type "tuple", data := .seq items.toList.reverse.toArray } }) (hsz : items.size ≤ sizeLine) : wpAny (model prog w) A (getItem (.ref t) (.ref sl)) Q E s := by
  obtain ⟨os, hos, hcs, hds⟩ := id hs
  have hTs : s.TypeIs (.ref sl) "slice" := ⟨os, hos, hcs⟩
  have htake : sizeOk (.seq items.toList.reverse.toArray) := by
    show items.toList.reverse.toArray.size ≤ sizeLine
    rw [List.size_toArray, List.length_reverse, Array.length_toList]
    exact hsz
  unfold getItem
  try with_reducible refine wpAny_holding ?_
  first | refine wpAny_bind (wpAny_pure ?_) | skip
  refine wpAny_bind (wpAny_sequenceKey ht.typeIs (by decide) ?_)
  refine wpAny_bind (wpAny_callSpecial?_slot (name := Str.ofString "__getitem__") ht.typeIs PyProof.Rows.slot_tuple_getitem
    (wpAny_call_entry PyProof.Rows.slot_tuple_getitem ht.typeIs PyProof.Rows.entry_tuple_getitem ?_ (PyProof.Rows.args_tuple_getitem _ _)))
  show wpAny _ _ (Builtin.Tuple.tupleItemsOf (.ref t) >>= _) _ _ s
  refine wpAny_bind (tupleItemsOf_ ht ?_)
  refine wpAny_bind (wpAny_typeOf hTs ?_)
  rw [if_pos (by decide)]
  refine wpAny_bind (sliceApplied_rev hs pl pu ps ?_)
  show wpAny _ _ (if ((((items.size : Int) - 1) == 0) && ((-1 : Int) == 1) && (items.size == items.size)) = true then _ else _) _ _ s
  rw [if_neg (by rw [show ((-1 : Int) == 1) = false from rfl, Bool.and_false, Bool.false_and]; decide), pick_rev]
  first
    | exact wpAny_bind (m := Builtin.Tuple.tupleExact _) (wpAny_newObj_type (wpAny_pure ⟨_, rfl, wpAny_pure h⟩) htake)
    | exact wpAny_bind (m := Builtin.Tuple.tupleExact _) (wpAny_newObj_type (wpAny_bind (wpAny_pure (wpAny_pure ⟨_, rfl, wpAny_pure h⟩))) htake)
    | exact wpAny_bind (wpAny_bind (m := Builtin.Tuple.tupleExact _) (wpAny_newObj_type (wpAny_pure (wpAny_pure ⟨_, rfl, wpAny_pure h⟩)) htake))
    | exact wpAny_bind (wpAny_bind (m := Builtin.Tuple.tupleExact _) (wpAny_newObj_type (wpAny_pure ⟨_, rfl, wpAny_pure h⟩) htake))
section
variable {X : Cx}
def tRevT (K : PySem.W.Frag) (te : TE) : TE := fun σ H Q => te σ H fun x H1 => ∃ a xs, x = .ref a ∧ SqT K H1 a xs ∧ ∀ p, H1 p = none → Q (.ref p) (upd H1 p (.tup xs.reverse))
theorem pe_revT {e : Expr} {te : TE} {k : Nat} {p1 p2 p3 pos : Pos} (he : PE X e te) : PE X (.Subscript e (.Slice none none (some (.UnaryOp .USub (.Constant (.int 1) k p1) p2)) p3) pos) (tRevT X.K te) := by
  refine ⟨fun pins s σ H Q I h => ?_⟩
  refine Subscript_ (thn (he.run pins s σ H _ I h) fun v s1 ⟨x, H1, I1, r1, q1⟩ => ?_)
  obtain ⟨a, xs, ex, hx, q⟩ := q1
  subst ex
  cases r1
  have hst : PO X (some (.UnaryOp .USub (.Constant (.int 1) k p1) p2)) (tPart (tUn (rU fun i => .int (-i)) (tC (.int 1)))) := po_some (pe_un un_neg pe_int)
  refine wpAny_Slice (thn (po_none.run pins s1 σ H1 (fun o H2 => o = none ∧ H2 = H1) I1 ⟨rfl, rfl⟩) fun vl s2 ⟨l, H2, I2, pl, el, e2⟩ => ?_)
  subst el e2
  refine thn (po_none.run pins s2 σ H2 (fun o H3 => o = none ∧ H3 = H2) I2 ⟨rfl, rfl⟩) fun vu s3 ⟨u, H3, I3, pu, eu, e3⟩ => ?_
  subst eu e3
  refine thn (hst.run pins s3 σ H3 (fun o H4 => o = some (-1) ∧ H4 = H3) I3 ⟨1, rfl, -1, rfl, rfl, rfl⟩) fun vs s4 ⟨o, H4, I4, ps, eo, e4⟩ => ?_
  subst eo e4
  have I5 : Inv X pins σ H4 { s4 with heap := s4.heap.push { cls := .type "slice", data := .fields #[vl, vu, vs] } } := I4.kept (t' := s4.toks) fun b ob q => Heap.get?_push_of_some _ q
  obtain ⟨its, r, ht, hz⟩ := I5.tuple hx
  have hlen := r.length
  show wpAny (model X.prog X.w) X.A (subscriptTail e (.Slice none none (some (.UnaryOp .USub (.Constant (.int 1) k p1) p2)) p3) (.ref a) (.ref s4.heap.objs.size)) (EP X pins σ Q) X.xe { s4 with heap := s4.heap.push { cls := .type "slice", data := .fields #[vl, vu, vs] } }
  refine tail_any (ops := [.ref a, .ref s4.heap.objs.size]) ht.typeIs (PyProof.Rows.slot_tuple_getitem.lookup) ?_ (by with_unfolding_all rfl)
  refine getItem_revT ht (Heap.IsSliceOf.new _ vl vu vs) pl pu ps ?_ (by rw [List.size_toArray]; omega)
  refine ⟨.ref _, _, I5.laid (t' := s4.toks) (o := .tup xs.reverse) (fun b ob q => Heap.get?_push_of_some _ q) (Nat.le_refl _) ?_, rfl, q _ (I5.hok.fresh (Nat.le_refl _))⟩
  exact ⟨by rw [List.length_reverse]; exact hz, _, r.reverse, IsTup.new _ _⟩
end

/-! ### a list's method within a block -/
theorem mt_countBK {X : Cx} {K : PySem.W.Frag} (hK : X.K = K) : MtR X "list.count" (rCntB K) := by
  subst hK
  exact mt_countB
theorem call_isiK {X : Cx} {K : PySem.W.Frag} (hK : X.K = K) : CallR X (.builtin "isinstance") (rIsi K) := by
  subst hK
  exact call_isi
theorem pe_bmK {X : Cx} {K : PySem.W.Frag} (hK : X.K = K) {o e : Expr} {es : List Expr} {to : TE} {t : TA} {name : Str} {apos cpos : Pos} {T id : String} {r : V → List V → Hp → VK → Prop} (pa : PlainAttrs T) (slot : Slot T name id) (hty : typeOf (.builtin id) = pure (.type "method_descriptor")) (hm : MtR X id r) (ho : PE X o to) (ha : PA X (e :: es) t)
    (hbase : attributeBase o name X.env (eval o X.env) = eval o X.env := by rfl)
    (hfew : ((backTo cpos (starEach (e :: es) X.env)).all (fun x => !x.1) && (backToKw cpos (keywordEach [] X.env)).all (fun x => x.1.isSome)
      && decide ((e :: es).length + ([] : List Keyword).length + (if ([] : List Keyword).isEmpty then 0 else 1) < 30)) = true := by rfl)
    (hline : (apos.endLine == cpos.line) = true := by rfl) (hs : starEach (e :: es) X.env = (false, eval e X.env) :: starEach es X.env := by rfl) (hplain : (backTo cpos (starEach es X.env)).any (·.1) = false := by rfl) :
    PE X (.Call (.Attribute o name apos) (e :: es) [] cpos) (tBM K T r to t) := by
  subst hK
  exact pe_bm pa slot hty hm ho ha hbase hfew hline hs hplain

/-! ### rules within a block, the written part by its own letter -/
theorem ix_tupK {X : Cx} {K : PySem.W.Frag} (hK : X.K = K) : IxR X (rIxT K) := by
  subst hK
  exact ix_tup
theorem ix_listK {X : Cx} {K : PySem.W.Frag} (hK : X.K = K) : IxR X (rIxL K) := by
  subst hK
  exact ix_list
theorem call_len_seqK {X : Cx} {K : PySem.W.Frag} (hK : X.K = K) : CallR X (.builtin "len") (fun xs H Q => ∃ p ys, xs = [.ref p] ∧ (SqL K H p ys ∨ SqT K H p ys) ∧ Q (.int ys.length) H) := by
  subst hK
  exact call_len_seq
theorem pe_fldK {X : Cx} {K : PySem.W.Frag} {e : Expr} {ta : TE} {f : Str} {pos : Pos} (hK : X.K = K) (he : PE X e ta) (hb : attributeBase e f X.env (eval e X.env) = eval e X.env) : PE X (.Attribute e f pos) (tFld K ta f) := by
  subst hK
  exact pe_fld he hb

/-! ### what is made on the spot, locked for good -/
def tFrz (t : TE) : TE := fun σ H Q => t σ H fun v H1 => ∃ d u, v = .ref d ∧ H1 d = some u ∧ Mut (some u) ∧ ∀ od, Q v (upd H1 d (.frz od u))
theorem pe_frz {X : Cx} {e : Expr} {t : TE} (h : PE X e t) : PE X e (tFrz t) := by
  refine ⟨fun pins s σ H Q I hw => ?_⟩
  refine thn (h.run pins s σ H _ I hw) fun v s1 ⟨x, H1, I1, r, d, u, ex, hd, mu, q⟩ => ?_
  obtain ⟨od, I2⟩ := I1.lock hd mu
  exact ⟨x, _, I2, r, q od⟩
theorem call_list_ofK {X : Cx} {K : PySem.W.Frag} (hK : X.K = K) : CallR X (.type "list") (fun xs H Q => ∃ p ys, xs = [.ref p] ∧ (SqL K H p ys ∨ SqT K H p ys) ∧ ∀ l, H l = none → Q (.ref l) (upd H l (.lst ys))) := by
  subst hK
  exact call_list_of
theorem sl_tupK {X : Cx} {K : PySem.W.Frag} (hK : X.K = K) : SlR X (rSlT K) := by
  subst hK
  exact sl_tup
/-- a dict comprehension over any walk -/
theorem dcI_it {J : It} {n : Nat} {G : Hp → Prop} {Y : Nat → Hp → V → Hp → Prop} (w : Walk J n G Y) {g : TG} {tt : TT} {tk tv : TE} {vs : List Nat} {σ : L2.St} {H1 : Hp} {D : Addr} {Qd : Hp → Prop} (Pv : Nat → Hp → Prop) (h0 : Pv 0 (upd H1 D (.dK []))) (hG : ∀ i H, i ≤ n → Pv i H → G H)
    (hs : ∀ i x H H', i < n → Pv i H → Y i H x H' → g x (wipe σ vs) H' fun σ2 H2 => wipe σ2 vs = wipe σ vs ∧ tt σ2 H2 fun b H3 =>
      if b = true then tk σ2 H3 fun y H4 => tv σ2 H4 fun z H5 => ∃ kvs k, y = kV k ∧ H5 D = some (.dK kvs) ∧ kvs.length < sizeLine ∧ Pv (i + 1) (upd H5 D (.dK (putK kvs k z))) else Pv (i + 1) H3) (hd : ∀ H, Pv n H → Qd H) :
    ∃ W : Nat → Nat → Hp → Prop, (∃ m, W 0 m (upd H1 D (.dK []))) ∧ ∀ i m H, W i m H →
      (J.stop i H ∧ Qd H) ∨ (J.go i H ∧ ∃ Nx : Hp → Prop, (∀ H', Nx H' → ∃ m', m' < m ∧ W (i + 1) m' H') ∧ ∀ x H', J.yld i H x H' → g x (wipe σ vs) H' fun σ2 H2 => wipe σ2 vs = wipe σ vs ∧ tt σ2 H2 fun b H3 =>
        if b = true then tk σ2 H3 fun y H4 => tv σ2 H4 fun z H5 => ∃ kvs k, y = kV k ∧ H5 D = some (.dK kvs) ∧ kvs.length < sizeLine ∧ Nx (upd H5 D (.dK (putK kvs k z))) else Nx H3) := by
  refine ⟨fun i m H => m = n - i ∧ i ≤ n ∧ Pv i H, ⟨n, by simp, Nat.zero_le _, h0⟩, ?_⟩
  rintro i m H ⟨rfl, hi, p⟩
  have q := hG i H hi p
  by_cases hlt : i < n
  · refine .inr ⟨w.goes i H hlt q, Pv (i + 1), fun H' p' => ⟨n - (i + 1), by omega, rfl, hlt, p'⟩, fun x H' y => hs i x H H' hlt p (w.yields i H x H' hlt q y)⟩
  · have e : i = n := by omega
    subst e
    exact .inl ⟨w.stops H q, hd H p⟩
/-- a dict comprehension bound to a name of the def -/
theorem sw_trueD {kx vx : Expr} {gens : List Comprehension} {scope : Scope} {pos np : Pos} {nm : Str} {ln : Nat} {env : Env} (fk : env.scope.kind = .function) (fy : env.scope.names.lookup nm = some .local) (fl : (np.line == pos.line) = true)
    (fa : (scope.names.any fun (n, k) => n == nm && (k == .local || k == .cell)) = false) : swapsWith (.DictComp kx vx gens scope pos) (some (.Name nm np)) ln env = pure true := by
  have e1 : env.kindOf nm = some .local := fy
  have e2 : env.blockKind = .function := by
    unfold Env.blockKind
    rw [fk]
    rfl
  unfold swapsWith
  simp only [e2, e1, fa, Expr.pos, fl]
  rfl
theorem ps_setDc {X : Cx} {j : Nat} {nm : Str} {np : Pos} {kx vx tg iter : Expr} {ifs : List Expr} {scope : Scope} {own : List (Str × Nat)} {pos stp : Pos} {wi : TI} {g : TG} {tt : TT} {tk tv : TE} (calm : X.calm = true) (nodup : X.N.Nodup) (at' : X.N[j]? = some nm) (loc : X.env.scope.names.lookup nm = some .local)
    (sw : swapsWith (.DictComp kx vx [⟨tg, iter, ifs, 0⟩] scope pos) (some (.Name nm np)) stp.line X.env = pure true) (src : PI X tg iter wi) (blk : BlkOk X.N X.env.scope scope own)
    (fg : ∀ (z : Shared) (M : Hp) (C : Addr) (cl : List (Str × Addr)) (fp : List Addr), PG (X.blk z M scope (compEnvC scope cl C X.env) fp) tg g) (ft : ∀ (z : Shared) (M : Hp) (C : Addr) (cl : List (Str × Addr)) (fp : List Addr), PTs (X.blk z M scope (compEnvC scope cl C X.env) fp) ifs tt)
    (fk : ∀ (z : Shared) (M : Hp) (C : Addr) (cl : List (Str × Addr)) (fp : List Addr), PE (X.blk z M scope (compEnvC scope cl C X.env) fp) kx tk) (fv : ∀ (z : Shared) (M : Hp) (C : Addr) (cl : List (Str × Addr)) (fp : List Addr), PE (X.blk z M scope (compEnvC scope cl C X.env) fp) vx tv)
    (fs : ∀ x, foldedSetIterable iter X.env x = pure x := by intro _; rfl) :
    PS X (.Assign [.Name nm np] (.DictComp kx vx [⟨tg, iter, ifs, 0⟩] scope pos) stp) (tAsg (tDc wi g tt tk tv (own.map (·.2))) (gName j)) := by
  refine ⟨fun pz z0 σ0 M0 D0 J0 hq => ?_⟩
  rw [exec_Assign_Name_used _ _ _ _ sw]
  refine wpAny_bind (wpAny_standAt (wpAny_bind ?_))
  show wpAny _ X.A (do let _ ← comprehension (.DictComp kx vx [⟨tg, iter, ifs, 0⟩] scope pos) scope X.env (firstIterPos [⟨tg, iter, ifs, 0⟩] pos) newDict false (eval iter X.env) (some (assign (.Name nm np) X.env))) _ _ z0
  have hq2 : tDc wi g tt tk tv (own.map (·.2)) σ0 M0 (fun x M1 => gName j x σ0 M1 D0.nx) := hq
  refine wpAny_bind (thn (dc_core (Qf := fun _ z9 => SP X pz D0 .next z9) calm nodup J0 src blk fg ft fk fv fs hq2 fun Lz Cz z8 mz M8 J8 w8 n8 p8 => ?_) fun _ z9 w9 => wpAny_pure (wpAny_pure w9))
  show wpAny _ _ (assign (.Name nm np) X.env (.ref Lz)) _ _ _
  refine wpAny_assign_Name (store_ok2 (v := V.ref Lz) J8 nodup at' (.inl loc) rfl (fun z7 J7 ⟨az, sbz, haz⟩ => ?_) (.inr loc))
  obtain ⟨p0, p1, p2, p3, p4, p5⟩ := p8
  have far : Cz ≠ az := haz.elim (fun z => by rw [z]; exact p1) fun z e => p4 nm az z e.symm
  refine ⟨mz, n8.sameBut sbz far, fun h6 sb6 => ?_⟩
  exact ⟨_, M8, J7.turned (t' := z7.toks) (fun b o hb e => (sb6.2 b hb).trans e) p0 p1 p3 p4 p5, w8⟩

/-! ### dicts with tuple keys: their values walked, listed; del d[k] -/
theorem frzTV {X : Cx} {pins : List (Addr × Obj)} {σ : L2.St} {H : Hp} {s : Shared} {d : Addr} {o : Obj} {kvs : List (List Key × V)} (I : Inv X pins σ H s) (h : H d = some (.frz o (.dT kvs))) :
    (d == sysModules) = false ∧ s.heap.get? d = some o ∧ o.ExactDict ∧ ∃ (es : Array DictEntry) (ep : Nat), o.data = .dict es ep ∧ es.size = kvs.length ∧ ∀ (i : Nat) (k : List Key) (v : V), kvs[i]? = some (k, v) → ∃ en : DictEntry, es[i]? = some en ∧ RelV v en.val := by
  obtain ⟨hd, z, hs, xs, pr, o', es, ep, ho, hx, hdt, he, _⟩ := I.hok d _ h
  rw [hd] at ho
  cases ho
  refine ⟨hs, hd, hx, es, ep, hdt, ?_, fun i k v e => ?_⟩
  · have l1 : es.size = xs.length := size_of_entries he
    have l2 : kvs.length = xs.length := Paired.length pr
    omega
  · obtain ⟨b, hb, _, _, rv⟩ := L2.paired_get pr e
    have q := entry_at he i
    rw [hb] at q
    exact ⟨_, q, rv⟩
/-- the values of the locked dict at d, in their order -/
def Itvt (d : Addr) (o : Obj) (kvs : List (List Key × V)) : It :=
  ⟨fun i H => H d = some (.frz o (.dT kvs)) ∧ i < kvs.length, fun i H x H' => H' = H ∧ ∃ k, kvs[i]? = some (k, x), fun i H => H d = some (.frz o (.dT kvs)) ∧ kvs.length ≤ i⟩
theorem turn_valsT {P : Program} {w : World} {K : PySem.W.Frag} {tg : Expr} {d : Addr} {o : Obj} {es : Array DictEntry} {ep : Nat} {kvs : List (List Key × V)} (it : Addr) (hod : o.data = .dict es ep) (hes : es.size = kvs.length) (hx : o.ExactDict) : Turn P w K tg (Itvt d o kvs) [it] it (fun i h => h.IsValIter it d i es.size ep) where
  mem := List.mem_singleton.mpr rfl
  obj := fun i h st b hb => by
    rw [List.mem_singleton.mp hb]
    obtain ⟨oi, e, c, dd⟩ := st
    exact ⟨oi, e, fun v z => by rw [dd] at z; cases z⟩
  keep := fun i h h' st k => st.at fun oi e => k it (List.mem_singleton.mpr rfl) oi e
  item := by
    intro X eP ew eK calm i pins s σ H E I hf st hg
    subst eP ew eK
    obtain ⟨hd, hi⟩ := hg
    obtain ⟨f0, f1, f2, f3, f4, f5⟩ := hf it (List.mem_singleton.mpr rfl)
    obtain ⟨_, hgd, _, es', ep', hdt, _, ent⟩ := frzTV I hd
    obtain ⟨rfl, rfl⟩ := dict_ep hod hdt
    have hkv : kvs[i]? = some kvs[i] := List.getElem?_eq_getElem hi
    obtain ⟨en, hen, rv⟩ := ent i _ _ hkv
    obtain ⟨il, ee⟩ := Array.getElem?_eq_some_iff.mp hen
    refine wpAny_pyNext_values_item_raw st ⟨o, hgd, hx, hod⟩ il fun h' st' sb => ?_
    rw [ee]
    have I1 : Inv X pins σ H { s with heap := h' } := I.turned (t' := s.toks) (fun b ob hb e => (sb.2 b hb).trans e) f0 f1 f3 f4 f5
    obtain ⟨oi, e, c, dd⟩ := id st'
    exact ⟨en.val, rfl, go_of (s := { s with heap := h' }) e c dd (by decide) ⟨_, H, I1, rv, ⟨rfl, _, hkv⟩, st', fun b hb => (hf b hb).1⟩⟩
  done := by
    intro X eP ew eK calm i pins s σ H E I hf st hg
    subst eP ew eK
    obtain ⟨hd, hi⟩ := hg
    obtain ⟨f0, f1, f2, f3, f4, f5⟩ := hf it (List.mem_singleton.mpr rfl)
    obtain ⟨_, hgd, _, es', ep', hdt, _, _⟩ := frzTV I hd
    obtain ⟨rfl, rfl⟩ := dict_ep hod hdt
    exact wpAny_pyNext_values_end_raw (I.ok.hd calm) st ⟨o, hgd, hx, hod⟩ (by omega) fun h' eb => ⟨rfl, I.turned (t' := s.toks) (fun b ob hb e => eb b ob hb e) f0 f1 f3 f4 f5⟩
  self := fun A i s Q E st h => wpAny_pyIter_valiter st h
def iValsT (td : TE) : TI := fun σ H R => td σ H fun x H1 => ∃ d o kvs, x = .ref d ∧ H1 d = some (.frz o (.dT kvs)) ∧ R (Itvt d o kvs) H1
section
variable {X : Cx} {tg e : Expr} {td : TE} {apos cpos : Pos}
theorem pi_valuesT (he : PE X e td) (hb : attributeBase e "values" X.env (eval e X.env) = eval e X.env := by rfl) (hl : (apos.endLine == cpos.line) = true := by rfl) : PI X tg (.Call (.Attribute e "values" apos) [] [] cpos) (iValsT td) := by
  refine ⟨fun pins s σ H R I h => ?_⟩
  refine wpAny_Call_method (T := "dict") (id := "dict.values") hb rfl hl F.plainAttrs_dict F.slot_dict_values F.type_dict_values (thn (he.run pins s σ H _ I h) fun u s1 z => ?_)
  obtain ⟨x, H1, I1, rx, d, o, kvs, rfl, hd, q⟩ := z
  obtain rfl : u = Value.ref d := rx
  obtain ⟨hs, hgd, hx, es, ep, hdt, hsz, _⟩ := frzTV I1 hd
  have raw : s1.heap.DictRaw d es ep := ⟨o, hgd, hx, hdt⟩
  refine ⟨raw.typeIs, fun b e => by cases e; exact ⟨o, hgd, hx.2.1⟩, ?_⟩
  have I2 : Inv X pins σ H1 { s1 with heap := s1.heap.push { cls := .type "dict_values", data := .fields #[.ref d] } } := I1.kept (t' := s1.toks) fun b ob q => Heap.get?_push_of_some _ q
  have fin : wpAny (model X.prog X.w) X.A (pyIter (.ref s1.heap.objs.size)) (PIE X pins σ tg R) X.xe { s1 with heap := s1.heap.push { cls := .type "dict_values", data := .fields #[.ref d] } } := by
    refine wpAny_pyIter_values_raw (d := d) (es := es) (ep := ep) ⟨_, Heap.get?_push_size _ rfl, rfl, rfl⟩ (raw.at fun o e => Heap.get?_push_of_some _ e) ?_
    exact pi_one (tk := s1.toks) I2 _ (turn_valsT _ hdt hsz hx) ⟨_, Heap.get?_push_size _ rfl, rfl, rfl⟩ q
  show wpAny _ _ (callWith cpos (.builtin "dict.values") [.ref d] [] []) _ X.xe s1
  exact method_meetsIn F.slot_dict_values F.entry_dict_values rfl (PySem.evalArgs_none ⟨rfl, raw.typeIs, F.args_dict_values_1 _, _, meets_dict_values_raw d hs, ⟨es, ep, raw⟩, fin⟩)
end
/-- a view of the values, told by an object of its own -/
def viewV (a d : Addr) : HO := .ext fun h => h.IsValuesView a d
/-- e.values(), kept as a view -/
def tValsT (td : TE) : TE := fun σ H Q => td σ H fun x H1 => ∃ d kvs, x = .ref d ∧ H1 d = some (.dT kvs) ∧ ∀ a, H1 a = none → Q (.ref a) (upd H1 a (viewV a d))
theorem viewV_ok {P : Program} {w : World} {H : Hp} {h : Heap} {a d : Addr} (e : h.get? a = some { cls := .type "dict_values", data := .fields #[.ref d] }) : ObjOk P w H h a (viewV a d) := by
  refine ⟨⟨_, e, rfl, rfl⟩, ⟨_, e⟩, ?_⟩
  rintro h1 h2 ⟨o, e1, c1, d1⟩ st
  exact ⟨o, st _ e1, c1, d1⟩
section
variable {X : Cx} {e : Expr} {td : TE} {apos cpos : Pos}
theorem pe_valsT (he : PE X e td) (hb : attributeBase e "values" X.env (eval e X.env) = eval e X.env := by rfl) (hl : (apos.endLine == cpos.line) = true := by rfl) : PE X (.Call (.Attribute e "values" apos) [] [] cpos) (tValsT td) := by
  refine ⟨fun pins s σ H Q I h => ?_⟩
  refine wpAny_Call_method (T := "dict") (id := "dict.values") hb rfl hl F.plainAttrs_dict F.slot_dict_values F.type_dict_values (thn (he.run pins s σ H _ I h) fun u s1 z => ?_)
  obtain ⟨x, H1, I1, rx, d, kvs, rfl, hd, q⟩ := z
  obtain rfl : u = Value.ref d := rx
  obtain ⟨z, hs, xs, pr, o, es, ep, ho, hx, hdt, _⟩ := dt_of I1.hok hd
  have raw : s1.heap.DictRaw d es ep := ⟨o, ho, hx, hdt⟩
  refine ⟨raw.typeIs, fun b e => by cases e; exact ⟨o, ho, hx.2.1⟩, ?_⟩
  have nf : H1 s1.heap.objs.size = none := I1.hok.fresh (Nat.le_refl _)
  have I2 : Inv X pins σ (upd H1 s1.heap.objs.size (viewV s1.heap.objs.size d)) { s1 with heap := s1.heap.push { cls := .type "dict_values", data := .fields #[.ref d] } } := I1.laid (t' := s1.toks) (fun b ob q => Heap.get?_push_of_some _ q) (Nat.le_refl _) (viewV_ok (Heap.get?_push_size _ rfl))
  show wpAny _ _ (callWith cpos (.builtin "dict.values") [.ref d] [] []) _ X.xe s1
  exact method_meetsIn F.slot_dict_values F.entry_dict_values rfl (PySem.evalArgs_none ⟨rfl, raw.typeIs, F.args_dict_values_1 _, _, meets_dict_values_raw d hs, ⟨es, ep, raw⟩, ⟨.ref s1.heap.objs.size, _, I2, rfl, q _ nf⟩⟩)
/-- list(d.values()) -/
theorem call_list_valsT (calm : X.calm = true) : CallR X (.type "list") (fun xs H Q => ∃ (a d : Addr) (kvs : List (List Key × V)), xs = [V.ref a] ∧ H a = some (viewV a d) ∧ H d = some (.dT kvs) ∧ ∀ p, H p = none → Q (.ref p) (upd H p (.lst (kvs.map Prod.snd)))) := by
  intro pins s σ H xs us Q I r h
  obtain ⟨a, d, kvs, rfl, ha, hd, q⟩ := h
  obtain ⟨u, rfl, rx⟩ := r.one
  cases rx
  obtain ⟨z, hs, ks, pr, o, es, ep, ho, hx, hdt, he, hn⟩ := (show ObjOk X.prog X.w H s.heap d (.dT kvs) from I.hok d _ hd)
  have view : s.heap.IsValuesView a d := (I.hok a _ ha).1
  have l1 : es.size = ks.length := size_of_entries he
  have l2 : kvs.length = ks.length := Paired.length pr
  refine PySem.W.kdl_call (PySem.KdlSrc.rawValues (d := d) (es := es) (ep := ep)) (I.ok.hd calm) ⟨view, ⟨o, ho, hx, hdt⟩⟩ (by omega) fun h' tk acc' c' kp e it => ?_
  have rv : Vals (kvs.map Prod.snd) acc'.toList := by
    have each : ∀ (j : Nat) (v : Value), acc'.toList[j]? = some v → ∃ kv, kvs[j]? = some kv ∧ RelV kv.2 v := fun j v hj => by
      obtain ⟨hi, hv⟩ := it.2 j v (by rw [← Array.getElem?_toList]; exact hj)
      have jl : j < kvs.length := by omega
      have hkv : kvs[j]? = some kvs[j] := List.getElem?_eq_getElem jl
      obtain ⟨b, hb, _, _, rv⟩ := L2.paired_get pr hkv
      have qe := entry_at he j
      rw [hb, Array.getElem?_eq_getElem hi] at qe
      have e2 := Option.some.inj qe
      refine ⟨_, hkv, ?_⟩
      rw [hv, e2]
      exact rv
    have ln : acc'.toList.length = kvs.length := by
      rw [Array.length_toList, it.1]
      omega
    generalize acc'.toList = us at each ln
    clear pr l2 z hd q
    induction kvs generalizing us with
    | nil =>
      cases us with
      | nil => exact .nil
      | cons _ _ => exact nomatch ln
    | cons kv r ih =>
      cases us with
      | nil => exact nomatch ln
      | cons u us =>
        obtain ⟨kv', e1, rv⟩ := each 0 u rfl
        cases Option.some.inj e1
        exact .cons rv (ih us (fun j v hj => each (j + 1) v hj) (Nat.succ.inj ln))
  have hz : (kvs.map Prod.snd).length ≤ sizeLine := by rw [List.length_map]; omega
  refine ⟨.ref s.heap.objs.size, _, I.laid (t' := tk) (o := .lst (kvs.map Prod.snd)) kp (Nat.le_refl _) ?_, rfl, q _ (I.hok.fresh (Nat.le_refl _))⟩
  exact ⟨hz, acc'.toList, c', rv, by rw [Array.toArray_toList]; exact e⟩
end
/-- del d[k], k a tuple that is there -/
def sDDelT (td ty : TE) : TS := fun D σ H => td σ H fun x H1 => ty σ H1 fun y H2 => ∃ (a : Addr) (kvs : List (List Key × V)) (k : List Key) (b : Addr), x = .ref a ∧ H2 a = some (.dT kvs) ∧ y = .ref b ∧ H2 b = some (.tup (k.map kV)) ∧ (valV kvs k).isSome = true ∧ D.nx σ (upd H2 a (.dT (dropK kvs k)))
theorem ps_ddelT {X : Cx} {o i : Expr} {td ty : TE} {tpos pos : Pos} (hu : X.A.units + 1 < cLine) (ho : PE X o td) (hi : PE X i ty) : PS X (.Delete [.Subscript o i tpos] pos) (sDDelT td ty) := by
  refine ⟨fun pins s σ H D I h => ?_⟩
  refine wpAny_Delete (wpAny_deleteEach_cons (wpAny_delete_Subscript (thn (ho.run pins s σ H _ I h) fun u s1 z1 => ?_)))
  obtain ⟨x, H1, I1, rx, q1⟩ := z1
  refine thn (hi.run pins s1 σ H1 _ I1 q1) fun iv s2 z2 => ?_
  obtain ⟨y, H2, I2, ry, a, kvs, k, b, rfl, ha, rfl, hb, there, q2⟩ := z2
  obtain rfl : u = Value.ref a := rx
  obtain rfl : iv = Value.ref b := ry
  obtain ⟨z, hd, xs', rel, dd⟩ := dt_of I2.hok ha
  have hz : xs'.length ≤ sizeLine := by rw [← Paired.length rel]; exact z
  refine wpAny_delItem_slot dd.typeIs (by decide) PySem.F.slot_dict_delitem (call_meetsIn PySem.F.slot_dict_delitem dd.typeIs PySem.F.entry_dict_delitem (PySem.F.args_dict_delitem_2 _ _) (meetsH_dict_delitem (tupleKind (mixKind X.prog X.w)) a b hd) ⟨tupleKind_room_in1 hu, k, xs', key_of I2.hok hb, dd, hz, fun p hp h' dd' hs => ?_, fun hn => ?_⟩)
  · obtain ⟨o, es, ep, hq, h2, h3, h4, _, h5⟩ := dd'
    have I3 : Inv X pins σ (upd H2 a (.dT (dropK kvs k))) { s2 with heap := h', toks := s2.toks + (tupleKind (mixKind X.prog X.w)).draws k } :=
      d_write I2 (by rw [ha]; exact True.intro) hs ⟨o, hq⟩ ⟨Nat.le_trans (dropK_le kvs k) z, hd, _, (show KT H2 (dropK kvs k) (withoutH xs' k) from L2.DX.KT_drop k rel).keeps (fun c ys ec => (by rw [upd_ne (ne_of ec ha (fun z => nomatch z))]; exact ec)), o, es, ep, hq, h2, h3, h4, h5⟩
    exact wpAny_deleteEach_nil ⟨σ, _, I3, q2⟩
  · exfalso
    have r := rel.val k
    rw [hn] at r
    cases ev : valV kvs k with
    | none =>
      rw [ev] at there
      exact nomatch there
    | some v0 =>
      rw [ev] at r
      exact r

end My
namespace My
open PySem L2
inductive Sl | pt | oth | num | plc | knd
  deriving DecidableEq
def fit : Sl → V → Prop
  | .pt, v => ∃ i, v = .int i
  | .oth, v => v = .non ∨ ∃ i, v = .int i
  | .num, v => ∃ i, v = .int i
  | .plc, v => ∃ i : Int, v = .int i ∧ 0 ≤ i
  | .knd, v => ∃ k, v = .str k ∧ k ∈ kinds
inductive FitAll : List Sl → List V → Prop
  | nil : FitAll [] []
  | cons {s : Sl} {v : V} {ss : List Sl} {vs : List V} : fit s v → FitAll ss vs → FitAll (s :: ss) (v :: vs)
def forms : List (Str × List Sl) := [("new", [.num, .knd]), ("put", [.pt, .num]), ("paint", [.pt, .knd]), ("tie", [.pt, .pt]), ("cut", [.pt, .pt]), ("add", [.pt, .pt, .num]), ("spread", [.pt, .oth, .num]),
  ("joined", [.pt, .pt]), ("way", [.pt, .pt]), ("total", [.pt, .pt]), ("many", [.pt, .pt]), ("most", [.pt, .pt]), ("first", [.pt, .pt, .knd]), ("reach", [.pt, .pt, .num]), ("kth", [.pt, .pt, .plc]), ("meet", [.pt, .pt, .pt]), ("sum", [.pt, .oth]), ("size", [.pt, .oth]), ("top", [.pt, .oth]), ("least", [.pt, .oth, .knd])]
def evs : List Str := ["new", "put", "paint", "tie", "cut", "add", "spread", "joined", "way", "total", "many", "most", "first", "reach", "kth", "meet", "sum", "size", "top", "least"]

/-! ### a written dict from texts to tuples of texts -/
def formB (K : PySem.W.Frag) : List DictEntry → List (Str × List Str) → Bool
  | [], [] => true
  | e :: es, f :: fs => e.key.isStr f.1 && ((match e.val with | .ref a => tupB K a f.2 | _ => false) && formB K es fs)
  | _, _ => false
theorem isStr_key {v : Value} {x : Str} (h : v.isStr x = true) : ∃ t, v = .str x t := by
  cases v with
  | str y t =>
    have e : (y == x) = true := h
    exact ⟨t, by rw [beq_iff_eq.mp e]⟩
  | _ => exact nomatch h
theorem formB_ns {K : PySem.W.Frag} : ∀ {es : List DictEntry} {fs : List (Str × List Str)}, formB K es fs = true → es.any (·.refKey) = false ∧ ∀ z : Str, match fs.lookup z with
    | none => es.find? (·.key.isStr z) = none
    | some ws => ∃ e a, es.find? (·.key.isStr z) = some e ∧ e.val = .ref a ∧ tupB K a ws = true
  | [], [], _ => ⟨rfl, fun _ => rfl⟩
  | [], _ :: _, h => nomatch h
  | _ :: _, [], h => nomatch h
  | e :: es, f :: fs, h => by
    unfold formB at h
    rw [Bool.and_eq_true, Bool.and_eq_true] at h
    obtain ⟨h1, h2, h3⟩ := h
    obtain ⟨r1, r2⟩ := formB_ns h3
    obtain ⟨t, ek⟩ := isStr_key h1
    refine ⟨?_, fun z => ?_⟩
    · rw [List.any_cons, r1, Bool.or_false]
      obtain ⟨hs, k, v⟩ := e
      dsimp only at ek
      subst ek
      rfl
    · have q := r2 z
      rw [List.lookup_cons, List.find?_cons]
      by_cases ez : z = f.1
      · subst ez
        rw [beq_self_eq_true]
        dsimp only
        rw [h1]
        dsimp only
        cases ev : e.val with
        | ref a =>
          rw [ev] at h2
          exact ⟨e, a, rfl, ev, h2⟩
        | _ =>
          rw [ev] at h2
          exact nomatch h2
      · have e1 : (z == f.1) = false := beq_eq_false_iff_ne.mpr ez
        have e2 : e.key.isStr z = false := by
          rw [ek]
          show (f.1 == z) = false
          exact beq_eq_false_iff_ne.mpr fun y => ez y.symm
        rw [e1, e2]
        dsimp only
        exact q
theorem formB_get {K : PySem.W.Frag} {d : Addr} {c : Value} {od : Option Addr} {es : Array DictEntry} {n : Nat} {sl : Array (Option Value)} {fs : List (Str × List Str)} (hl : K.lookup d = some ⟨c, od, .dict es n, sl⟩) (h : formB K es.toList fs = true) (z : Str) :
    match fs.lookup z with
    | none => PySem.W.nsIn K d z = some none
    | some ws => ∃ a, PySem.W.nsIn K d z = some (some (.ref a)) ∧ tupB K a ws = true := by
  obtain ⟨r1, r2⟩ := formB_ns h
  have q := r2 z
  unfold PySem.W.nsIn
  rw [hl]
  cases e : fs.lookup z with
  | none =>
    rw [e] at q
    dsimp only at q ⊢
    rw [q]
    dsimp only
    rw [r1]
    rfl
  | some ws =>
    rw [e] at q
    obtain ⟨en, a, h1, h2, h3⟩ := q
    refine ⟨a, ?_, h3⟩
    dsimp only
    rw [h1]
    dsimp only
    rw [h2]
/-! ### anything -/
inductive AnyV (H : Hp) : V → Prop
  | non : AnyV H .non
  | bl (b : Bool) : AnyV H (.bl b)
  | int (i : Int) : AnyV H (.int i)
  | str (x : Str) : AnyV H (.str x)
  | tup {a : Addr} {xs : List V} (h : H a = some (.tup xs)) : AnyV H (.ref a)
  | lst {a : Addr} {xs : List V} (h : H a = some (.lst xs)) : AnyV H (.ref a)
  | dK {a : Addr} {kvs : List (Key × V)} (h : H a = some (.dK kvs)) : AnyV H (.ref a)
/-- all but tables of code objects stays -/
def Kp (H H' : Hp) : Prop := ∀ a o, H a = some o → (∀ ps, o ≠ .tbl ps) → H' a = some o
theorem Kp.refl (H : Hp) : Kp H H := fun _ _ e _ => e
theorem Kp.trans {H H1 H2 : Hp} (x : Kp H H1) (y : Kp H1 H2) : Kp H H2 := fun a o e n => y a o (x a o e n) n
theorem Kp.of_same {H H' : Hp} (s : Same H H') : Kp H H' := fun a o e _ => s a o e
theorem Kp.of_tab {H H' : Hp} {P : Addr} (g : GxR.TabG H P) (t : GxR.Tabbed P H H') : Kp H H' := fun a o e n => by
  by_cases h : a = P
  · subst h
    obtain ⟨ps, hp, _⟩ := g
    rw [hp] at e
    exact absurd (Option.some.inj e).symm (n ps)
  · rw [t.2 a h]
    exact e
theorem AnyV.kp {H H' : Hp} (k : Kp H H') {v : V} (h : AnyV H v) : AnyV H' v := by
  cases h with
  | non => exact .non
  | bl b => exact .bl b
  | int i => exact .int i
  | str x => exact .str x
  | tup h => exact .tup (k _ _ h (by intro ps z; cases z))
  | lst h => exact .lst (k _ _ h (by intro ps z; cases z))
  | dK h => exact .dK (k _ _ h (by intro ps z; cases z))
/-- isinstance with int, bool, str, tuple -/
def isIntV : V → Bool
  | .bl _ => true
  | .int _ => true
  | _ => false
def isBoolV : V → Bool
  | .bl _ => true
  | _ => false
def isStrV : V → Bool
  | .str _ => true
  | _ => false
theorem int_ok {K : PySem.W.Frag} {H : Hp} {v : V} (h : AnyV H v) : ∃ t, TyX K H v t ∧ PySem.W.kitOne K t (.type "int") = some (isIntV v) := by
  cases h with
  | non => exact ⟨_, .base .non, kit_ty (show kitB _ _ = some false by decide +kernel)⟩
  | bl b => exact ⟨_, .base (.bl b), kit_ty (show kitB _ _ = some true by decide +kernel)⟩
  | int i => exact ⟨_, .base (.int i), kit_ty (show kitB _ _ = some true by decide +kernel)⟩
  | str x => exact ⟨_, .base (.str x), kit_ty (show kitB _ _ = some false by decide +kernel)⟩
  | tup h => exact ⟨_, .base (.tup h), kit_ty (show kitB _ _ = some false by decide +kernel)⟩
  | lst h => exact ⟨_, .base (.lst h), kit_ty (show kitB _ _ = some false by decide +kernel)⟩
  | dK h => exact ⟨_, .base (.dK h), kit_ty (show kitB _ _ = some false by decide +kernel)⟩
theorem bool_ok {K : PySem.W.Frag} {H : Hp} {v : V} (h : AnyV H v) : ∃ t, TyX K H v t ∧ PySem.W.kitOne K t (.type "bool") = some (isBoolV v) := by
  cases h with
  | non => exact ⟨_, .base .non, kit_ty (show kitB _ _ = some false by decide +kernel)⟩
  | bl b => exact ⟨_, .base (.bl b), kit_ty (show kitB _ _ = some true by decide +kernel)⟩
  | int i => exact ⟨_, .base (.int i), kit_ty (show kitB _ _ = some false by decide +kernel)⟩
  | str x => exact ⟨_, .base (.str x), kit_ty (show kitB _ _ = some false by decide +kernel)⟩
  | tup h => exact ⟨_, .base (.tup h), kit_ty (show kitB _ _ = some false by decide +kernel)⟩
  | lst h => exact ⟨_, .base (.lst h), kit_ty (show kitB _ _ = some false by decide +kernel)⟩
  | dK h => exact ⟨_, .base (.dK h), kit_ty (show kitB _ _ = some false by decide +kernel)⟩
theorem str_ok {K : PySem.W.Frag} {H : Hp} {v : V} (h : AnyV H v) : ∃ t, TyX K H v t ∧ PySem.W.kitOne K t (.type "str") = some (isStrV v) := by
  cases h with
  | non => exact ⟨_, .base .non, kit_ty (show kitB _ _ = some false by decide +kernel)⟩
  | bl b => exact ⟨_, .base (.bl b), kit_ty (show kitB _ _ = some false by decide +kernel)⟩
  | int i => exact ⟨_, .base (.int i), kit_ty (show kitB _ _ = some false by decide +kernel)⟩
  | str x => exact ⟨_, .base (.str x), kit_ty (show kitB _ _ = some true by decide +kernel)⟩
  | tup h => exact ⟨_, .base (.tup h), kit_ty (show kitB _ _ = some false by decide +kernel)⟩
  | lst h => exact ⟨_, .base (.lst h), kit_ty (show kitB _ _ = some false by decide +kernel)⟩
  | dK h => exact ⟨_, .base (.dK h), kit_ty (show kitB _ _ = some false by decide +kernel)⟩
/-! ### rows by their form -/
def wholeB : V → Bool
  | .int _ => true
  | _ => false
def kindB : V → Bool
  | .str k => decide (k ∈ kinds)
  | _ => false
def fitB : Sl → V → Bool
  | .knd, v => kindB v
  | .oth, v => decide (v = .non) || wholeB v
  | .plc, .int i => decide (0 ≤ i)
  | .plc, _ => false
  | _, v => wholeB v
def slT : Sl → Str
  | .pt => "point"
  | .oth => "other"
  | .num => "number"
  | .plc => "place"
  | .knd => "kind"
def fitsB : List Sl → List V → Bool
  | [], [] => true
  | s :: ss, v :: vs => fitB s v && fitsB ss vs
  | _, _ => false
theorem fits_len : ∀ {ss : List Sl} {vs : List V}, vs.length ≠ ss.length → fitsB ss vs = false
  | [], [], h => absurd rfl h
  | [], _ :: _, _ => rfl
  | _ :: _, [], _ => rfl
  | s :: ss, v :: vs, h => by
    show (fitB s v && fitsB ss vs) = false
    rw [fits_len (ss := ss) (vs := vs) fun z => h (by rw [List.length_cons, List.length_cons, z]), Bool.and_false]
theorem drop_at {α : Type} {xs : List α} {i : Nat} {x : α} (h : xs[i]? = some x) : xs.drop i = x :: xs.drop (i + 1) := by
  obtain ⟨hl, e⟩ := List.getElem?_eq_some_iff.mp h
  rw [List.drop_eq_getElem_cons hl, e]
def rowB : List V → Bool
  | .str w :: ps => (match forms.lookup w with | some sl => fitsB sl ps | none => false)
  | _ => false
def formsT : List (Str × List Str) := forms.map fun f => (f.1, f.2.map slT)
theorem formsT_lookup (z : Str) : formsT.lookup z = (forms.lookup z).map fun sl => sl.map slT := by
  have g : ∀ l : List (Str × List Sl), (l.map fun f => (f.1, f.2.map slT)).lookup z = (l.lookup z).map fun sl => sl.map slT := by
    intro l
    induction l with
    | nil => rfl
    | cons f r ih =>
      obtain ⟨a, b⟩ := f
      rw [List.map_cons, List.lookup_cons, List.lookup_cons]
      cases e : z == a with
      | true => rfl
      | false => exact ih
  exact g forms
/-- a def by its body, its code object known -/
theorem okC {P : Program} {w : World} {K : PySem.W.Frag} {mg : Str → Option Value} {base : Heap} {x qual : Str} {st : Stmt} {f c : Addr} {fd : FuncData} {N ps : List Str} {k : Nat} {sp : Sp} (F : Fun K x qual st f fd) (hcd : fd.code = .ref c) (S : FnScope N ps (defScope st))
    (len : ∀ vs H Q E, sp vs H Q E → vs.length = ps.length)
    (body : ∀ (A : Around) (outer : List Env) (s : Shared) (H : Hp) (vs : List V) (Q : VK) (E : XK), Room k (A.deeper (PyProof.Rows.envOfC qual (defScope st) s.heap.objs.size f (.ref c))) → sp vs H Q E →
      ∃ t, PSs (cxOf CX0 P w K mg base N qual (defScope st) f (.ref c) A outer s H E).nox (defBody st) t ∧ t { nx := fun _ H' => Q .non H', rt := Q } (start N vs) H) : FnOk P w K mg base CX0 (k + 1) f fd ps sp := by
  obtain ⟨oc, od, kV, doc, pm, an, cdv, ct, osl, rfl, lk, hc⟩ := F.ex
  have e : cdv = .ref c := hcd
  subst e
  refine fn_of lk hc S len fun A outer s H vs Q E hr hsp => ?_
  obtain ⟨t, h, q⟩ := body A outer s H vs Q E hr hsp
  exact ⟨t, h.nox, q⟩

end My
namespace My
open PySem L2
/-! ### names linked in trees -/
section
variable {N : Type} [DecidableEq N]
def up1 {α : Type} (f : N → α) (x : N) (v : α) : N → α := fun y => if y = x then v else f y
theorem up1_same {α : Type} {f : N → α} {x : N} {v : α} : up1 f x v x = v := if_pos rfl
theorem up1_ne {α : Type} {f : N → α} {x y : N} {v : α} (h : y ≠ x) : up1 f x v y = f y := if_neg h
structure Lk (N : Type) where
  ns : List N
  l : N → Option N
  r : N → Option N
  a : N → Option N
  t : N → Bool
  lk : Nat
def upO {α : Type} (f : N → α) (x : Option N) (v : α) : N → α := match x with | none => f | some z => up1 f z v
theorem upO_ne {α : Type} {f : N → α} {x : Option N} {y : N} {v : α} (h : some y ≠ x) : upO f x v y = f y := by
  cases x with
  | none => rfl
  | some z => exact up1_ne fun e => h (by rw [e])
theorem upO_same {α : Type} {f : N → α} {y : N} {v : α} : upO f (some y) v y = v := up1_same
def Lk.setL (S : Lk N) (x : N) (y : Option N) : Lk N := { S with l := up1 S.l x y, a := upO S.a y (some x) }
def Lk.setR (S : Lk N) (x : N) (y : Option N) : Lk N := { S with r := up1 S.r x y, a := upO S.a y (some x) }
def Lk.isTop (S : Lk N) (x : N) : Bool := match S.a x with | none => true | some u => !(decide (S.l u = some x) || decide (S.r u = some x))
def Lk.inPlace (S : Lk N) (x u : N) : Lk N :=
  { S with a := up1 S.a x (S.a u)
           l := match S.a u with | none => S.l | some o => if S.l o = some u then up1 S.l o (some x) else S.l
           r := match S.a u with | none => S.r | some o => if S.l o = some u then S.r else if S.r o = some u then up1 S.r o (some x) else S.r }
def Lk.turn1 (S : Lk N) (x u : N) : Lk N :=
  let S1 := { S with lk := S.lk + 1 }.inPlace x u
  if S1.l u = some x then (S1.setL u (S1.r x)).setR x (some u) else (S1.setR u (S1.l x)).setL x (some u)
def Lk.turn (S : Lk N) (x : N) : Lk N := match S.a x with | none => S | some u => S.turn1 x u
/-- the same as far as l, r, a, t go -/
def Agr (S S' : Lk N) (x : N) : Prop := S'.l x = S.l x ∧ S'.r x = S.r x ∧ S'.a x = S.a x ∧ S'.t x = S.t x
theorem Agr.refl {S : Lk N} {x : N} : Agr S S x := ⟨rfl, rfl, rfl, rfl⟩
theorem Agr.trans {S S1 S2 : Lk N} {x : N} (h : Agr S S1 x) (k : Agr S1 S2 x) : Agr S S2 x := ⟨k.1.trans h.1, k.2.1.trans h.2.1, k.2.2.1.trans h.2.2.1, k.2.2.2.trans h.2.2.2⟩
inductive Tr (N : Type) where
  | nil : Tr N
  | nd (tw : Bool) (l : Tr N) (x : N) (r : Tr N) : Tr N
def Tr.root : Tr N → Option N
  | .nil => none
  | .nd _ _ x _ => some x
def Tr.nms : Tr N → List N
  | .nil => []
  | .nd _ l x r => l.nms ++ x :: r.nms
/-- the order that is meant -/
def Tr.ord : Tr N → List N
  | .nil => []
  | .nd false l x r => l.ord ++ x :: r.ord
  | .nd true l x r => (l.ord ++ x :: r.ord).reverse
def Rep (S : Lk N) : Option N → Tr N → Prop
  | _, .nil => True
  | p, .nd tw l x r => x ∈ S.ns ∧ S.t x = tw ∧ S.l x = l.root ∧ S.r x = r.root ∧ S.a x = p ∧ Rep S (some x) l ∧ Rep S (some x) r
theorem Tr.root_mem : ∀ {T : Tr N} {x : N}, T.root = some x → x ∈ T.nms
  | .nd _ l y r, x, h => by
    cases h
    exact List.mem_append_right _ List.mem_cons_self
theorem Tr.ord_mem : ∀ {T : Tr N} {x : N}, x ∈ T.ord ↔ x ∈ T.nms
  | .nil, x => Iff.rfl
  | .nd false l y r, x => by
    simp only [Tr.ord, Tr.nms, List.mem_append, List.mem_cons, l.ord_mem, r.ord_mem]
  | .nd true l y r, x => by
    simp only [Tr.ord, Tr.nms, List.mem_reverse, List.mem_append, List.mem_cons, l.ord_mem, r.ord_mem]
theorem Rep.sub {S : Lk N} : ∀ {T : Tr N} {p : Option N} {x : N}, Rep S p T → x ∈ T.nms → x ∈ S.ns
  | .nd _ l y r, p, x, h, m => by
    obtain ⟨h1, _, _, _, _, hl, hr⟩ := h
    rcases List.mem_append.mp m with m | m
    · exact hl.sub m
    · rcases List.mem_cons.mp m with rfl | m
      · exact h1
      · exact hr.sub m
/-- what isn't in it may change; the top may come to be below another one -/
theorem Rep.re {S S' : Lk N} (hn : S'.ns = S.ns) : ∀ {T : Tr N} {p p' : Option N}, Rep S p T → T.nms.Nodup → (∀ x ∈ T.nms, S'.l x = S.l x ∧ S'.r x = S.r x ∧ S'.t x = S.t x) → (∀ x ∈ T.nms, T.root ≠ some x → S'.a x = S.a x) → (∀ x, T.root = some x → S'.a x = p') → Rep S' p' T
  | .nil, _, _, _, _, _, _, _ => trivial
  | .nd tw l x r, p, p', h, nd, h1, h2, h3 => by
    obtain ⟨q1, q2, q3, q4, q5, ql, qr⟩ := h
    have nd : (l.nms ++ x :: r.nms).Nodup := nd
    obtain ⟨n1, n2, n3⟩ := List.nodup_append.mp nd
    obtain ⟨n4, n5⟩ := List.nodup_cons.mp n2
    have ml : ∀ y ∈ l.nms, y ∈ (Tr.nd tw l x r).nms := fun y m => List.mem_append_left _ m
    have mr : ∀ y ∈ r.nms, y ∈ (Tr.nd tw l x r).nms := fun y m => List.mem_append_right _ (List.mem_cons_of_mem _ m)
    have mx : x ∈ (Tr.nd tw l x r).nms := List.mem_append_right _ List.mem_cons_self
    have nl : ∀ y ∈ l.nms, y ≠ x := fun y m e => n3 y m x List.mem_cons_self e
    have nr : ∀ y ∈ r.nms, y ≠ x := fun y m e => n4 (e ▸ m)
    have al : ∀ y ∈ l.nms, S'.a y = S.a y := fun y m => h2 y (ml y m) fun e => nl y m (Option.some.inj e).symm
    have ar : ∀ y ∈ r.nms, S'.a y = S.a y := fun y m => h2 y (mr y m) fun e => nr y m (Option.some.inj e).symm
    obtain ⟨a1, a2, a3⟩ := h1 x mx
    refine ⟨hn ▸ q1, a3.trans q2, a1.trans q3, a2.trans q4, h3 x rfl, ql.re hn n1 (fun y m => h1 y (ml y m)) (fun y m _ => al y m) (fun y e => ?_), qr.re hn n5 (fun y m => h1 y (mr y m)) (fun y m _ => ar y m) (fun y e => ?_)⟩
    · rw [al y (Tr.root_mem e)]
      cases l with
      | nil => exact nomatch e
      | nd tw2 l2 y2 r2 =>
        cases e
        exact ql.2.2.2.2.1
    · rw [ar y (Tr.root_mem e)]
      cases r with
      | nil => exact nomatch e
      | nd tw2 l2 y2 r2 =>
        cases e
        exact qr.2.2.2.2.1
theorem Rep.agr {S S' : Lk N} (hn : S'.ns = S.ns) : ∀ {T : Tr N} {p : Option N}, Rep S p T → (∀ x ∈ T.nms, Agr S S' x) → Rep S' p T
  | .nil, _, _, _ => trivial
  | .nd tw l x r, p, h, h1 => by
    obtain ⟨q1, q2, q3, q4, q5, ql, qr⟩ := h
    obtain ⟨a1, a2, a3, a4⟩ := h1 x (List.mem_append_right _ List.mem_cons_self)
    exact ⟨hn ▸ q1, a4.trans q2, a1.trans q3, a2.trans q4, a3.trans q5, ql.agr hn fun y m => h1 y (List.mem_append_left _ m), qr.agr hn fun y m => h1 y (List.mem_append_right _ (List.mem_cons_of_mem _ m))⟩
theorem Rep.top {S : Lk N} {T : Tr N} {p : Option N} {x : N} (h : Rep S p T) (e : T.root = some x) : S.a x = p := by
  cases T with
  | nil => exact nomatch e
  | nd tw l y r =>
    cases e
    exact h.2.2.2.2.1
/-- two states that make the same tree agree on it -/
theorem Rep.det {S S' : Lk N} : ∀ {T : Tr N} {p : Option N}, Rep S p T → Rep S' p T → ∀ x ∈ T.nms, Agr S S' x
  | .nd tw l x r, p, h, k, y, m => by
    obtain ⟨_, q2, q3, q4, q5, ql, qr⟩ := h
    obtain ⟨_, k2, k3, k4, k5, kl, kr⟩ := k
    rcases List.mem_append.mp m with m | m
    · exact ql.det kl y m
    · rcases List.mem_cons.mp m with rfl | m
      · exact ⟨k3.trans q3.symm, k4.trans q4.symm, k5.trans q5.symm, k2.trans q2.symm⟩
      · exact qr.det kr y m
/-- what stands around a part of a tree, from within: (is the part the left one, the name, the other part); nothing is turned there -/
abbrev Cz (N : Type) := List (Bool × N × Tr N)
def plug : Tr N → Cz N → Tr N
  | t, [] => t
  | t, (true, u, s) :: c => plug (.nd false t u s) c
  | t, (false, u, s) :: c => plug (.nd false s u t) c
def ctop (p : Option N) : Cz N → Option N
  | [] => p
  | (_, u, _) :: _ => some u
def cnm : Cz N → List N
  | [] => []
  | (_, u, s) :: c => u :: s.nms ++ cnm c
def RepC (S : Lk N) (p : Option N) : Cz N → Option N → Prop
  | [], _ => True
  | (b, u, s) :: c, z => u ∈ S.ns ∧ S.t u = false ∧ (if b then S.l u = z ∧ S.r u = s.root else S.l u = s.root ∧ S.r u = z) ∧ S.a u = ctop p c ∧ Rep S (some u) s ∧ RepC S p c (some u)
theorem rep_plug {S : Lk N} {p : Option N} : ∀ {c : Cz N} {t : Tr N}, Rep S p (plug t c) ↔ Rep S (ctop p c) t ∧ RepC S p c t.root
  | [], t => ⟨fun h => ⟨h, trivial⟩, fun h => h.1⟩
  | (true, u, s) :: c, t => by
    show Rep S p (plug (.nd false t u s) c) ↔ _
    rw [rep_plug]
    constructor
    · rintro ⟨⟨h1, h2, h3, h4, h5, h6, h7⟩, h8⟩
      exact ⟨h6, h1, h2, ⟨h3, h4⟩, h5, h7, h8⟩
    · rintro ⟨h6, h1, h2, ⟨h3, h4⟩, h5, h7, h8⟩
      exact ⟨⟨h1, h2, h3, h4, h5, h6, h7⟩, h8⟩
  | (false, u, s) :: c, t => by
    show Rep S p (plug (.nd false s u t) c) ↔ _
    rw [rep_plug]
    constructor
    · rintro ⟨⟨h1, h2, h3, h4, h5, h6, h7⟩, h8⟩
      exact ⟨h7, h1, h2, ⟨h3, h4⟩, h5, h6, h8⟩
    · rintro ⟨h6, h1, h2, ⟨h3, h4⟩, h5, h7, h8⟩
      exact ⟨⟨h1, h2, h3, h4, h5, h7, h6⟩, h8⟩
theorem plug_perm : ∀ {c : Cz N} {t : Tr N}, (plug t c).nms.Perm (t.nms ++ cnm c)
  | [], t => by
    show t.nms.Perm (t.nms ++ [])
    rw [List.append_nil]
  | (true, u, s) :: c, t => by
    refine (plug_perm (c := c) (t := .nd false t u s)).trans ?_
    show ((t.nms ++ u :: s.nms) ++ cnm c).Perm (t.nms ++ (u :: s.nms ++ cnm c))
    rw [List.append_assoc]
  | (false, u, s) :: c, t => by
    refine (plug_perm (c := c) (t := .nd false s u t)).trans ?_
    show ((s.nms ++ u :: t.nms) ++ cnm c).Perm (t.nms ++ (u :: s.nms ++ cnm c))
    refine ((List.perm_append_comm (l₁ := s.nms) (l₂ := u :: t.nms)).append_right _).trans ?_
    show (u :: (t.nms ++ s.nms) ++ cnm c).Perm (t.nms ++ (u :: s.nms ++ cnm c))
    rw [List.cons_append, List.cons_append, List.append_assoc]
    exact List.perm_middle.symm
def cL : Cz N → List N
  | [] => []
  | (true, _, _) :: c => cL c
  | (false, u, s) :: c => cL c ++ (s.ord ++ [u])
def cR : Cz N → List N
  | [] => []
  | (true, u, s) :: c => u :: s.ord ++ cR c
  | (false, _, _) :: c => cR c
theorem plug_ord : ∀ {c : Cz N} {t : Tr N}, (plug t c).ord = cL c ++ (t.ord ++ cR c)
  | [], t => by
    show t.ord = [] ++ (t.ord ++ [])
    rw [List.append_nil, List.nil_append]
  | (true, u, s) :: c, t => by
    refine (plug_ord (c := c) (t := .nd false t u s)).trans ?_
    show cL c ++ ((t.ord ++ u :: s.ord) ++ cR c) = cL c ++ (t.ord ++ (u :: s.ord ++ cR c))
    rw [List.append_assoc]
  | (false, u, s) :: c, t => by
    refine (plug_ord (c := c) (t := .nd false s u t)).trans ?_
    show cL c ++ ((s.ord ++ u :: t.ord) ++ cR c) = (cL c ++ (s.ord ++ [u])) ++ (t.ord ++ cR c)
    simp only [List.append_assoc, List.cons_append, List.nil_append]
/-- the context stays where its names do; its innermost one has another part -/
theorem RepC.re {S S' : Lk N} {p : Option N} (hn : S'.ns = S.ns) : ∀ {c : Cz N} {z : Option N}, RepC S p c z → (∀ x ∈ cnm c, Agr S S' x) → RepC S' p c z
  | [], _, _, _ => trivial
  | (b, u, s) :: c, z, h, k => by
    obtain ⟨h1, h2, h3, h4, h5, h6⟩ := h
    obtain ⟨k1, k2, k3, k4⟩ := k u List.mem_cons_self
    refine ⟨hn ▸ h1, k4.trans h2, ?_, k3.trans h4, h5.agr hn fun x m => k x (List.mem_cons_of_mem _ (List.mem_append_left _ m)), h6.re hn fun x m => k x (List.mem_cons_of_mem _ (List.mem_append_right _ m))⟩
    rw [k1, k2]
    exact h3
end
section
variable {N : Type} [DecidableEq N]
/-- l and r once x stands where u was -/
structure Placed (S : Lk N) (x u : N) (c : Cz N) (l1 r1 : N → Option N) : Prop where
  fl : ∀ y, some y ≠ ctop none c → l1 y = S.l y
  fr : ∀ y, some y ≠ ctop none c → r1 y = S.r y
  gb : ∀ b g q c', c = (b, g, q) :: c' → if b then l1 g = some x ∧ r1 g = S.r g else l1 g = S.l g ∧ r1 g = some x
theorem root_ne {s : Tr N} {u : N} (h : u ∉ s.nms) : s.root ≠ some u := fun e => h (Tr.root_mem e)
theorem placed {S : Lk N} {p : Option N} {x u : N} {c : Cz N} (hc : RepC S p c (some u)) (hu : S.a u = ctop p c) (nu : u ∉ cnm c) (ho : c = [] → ∀ q, p = some q → S.l q ≠ some u ∧ S.r q ≠ some u) : Placed S x u c (S.inPlace x u).l (S.inPlace x u).r := by
  cases c with
  | nil =>
    have e1 : (S.inPlace x u).l = S.l := by
      show (match S.a u with | none => S.l | some o => if S.l o = some u then up1 S.l o (some x) else S.l) = S.l
      rw [hu]
      cases p with
      | none => rfl
      | some q => exact if_neg (ho rfl q rfl).1
    have e2 : (S.inPlace x u).r = S.r := by
      show (match S.a u with | none => S.r | some o => if S.l o = some u then S.r else if S.r o = some u then up1 S.r o (some x) else S.r) = S.r
      rw [hu]
      cases p with
      | none => rfl
      | some q =>
        show (if S.l q = some u then S.r else if S.r q = some u then up1 S.r q (some x) else S.r) = S.r
        rw [if_neg (ho rfl q rfl).1, if_neg (ho rfl q rfl).2]
    exact ⟨fun y _ => by rw [e1], fun y _ => by rw [e2], fun b g q c' e => nomatch e⟩
  | cons f c' =>
    obtain ⟨b, g, q⟩ := f
    obtain ⟨_, _, h3, _, _, _⟩ := hc
    have hu : S.a u = some g := hu
    have nq : q.root ≠ some u := root_ne fun m => nu (List.mem_cons_of_mem _ (List.mem_append_left _ m))
    cases b with
    | true =>
      have h3 : S.l g = some u ∧ S.r g = q.root := h3
      have e1 : (S.inPlace x u).l = up1 S.l g (some x) := by
        show (match S.a u with | none => S.l | some o => if S.l o = some u then up1 S.l o (some x) else S.l) = _
        rw [hu]
        exact if_pos h3.1
      have e2 : (S.inPlace x u).r = S.r := by
        show (match S.a u with | none => S.r | some o => if S.l o = some u then S.r else if S.r o = some u then up1 S.r o (some x) else S.r) = S.r
        rw [hu]
        exact if_pos h3.1
      refine ⟨fun y ny => by rw [e1, up1_ne fun e => ny (by rw [e]; rfl)], fun y _ => by rw [e2], fun b2 g2 q2 c2 e => ?_⟩
      cases e
      exact ⟨by rw [e1, up1_same], by rw [e2]⟩
    | false =>
      have h3 : S.l g = q.root ∧ S.r g = some u := h3
      have nl : ¬ S.l g = some u := fun e => nq (h3.1.symm.trans e)
      have e1 : (S.inPlace x u).l = S.l := by
        show (match S.a u with | none => S.l | some o => if S.l o = some u then up1 S.l o (some x) else S.l) = _
        rw [hu]
        exact if_neg nl
      have e2 : (S.inPlace x u).r = up1 S.r g (some x) := by
        show (match S.a u with | none => S.r | some o => if S.l o = some u then S.r else if S.r o = some u then up1 S.r o (some x) else S.r) = _
        rw [hu]
        show (if S.l g = some u then S.r else if S.r g = some u then up1 S.r g (some x) else S.r) = _
        rw [if_neg nl, if_pos h3.2]
      refine ⟨fun y _ => by rw [e1], fun y ny => by rw [e2, up1_ne fun e => ny (by rw [e]; rfl)], fun b2 g2 q2 c2 e => ?_⟩
      cases e
      exact ⟨by rw [e1], by rw [e2, up1_same]⟩
theorem ctop_mem {c : Cz N} {y : N} (h : some y = ctop none c) : y ∈ cnm c := by
  cases c with
  | nil => exact nomatch h
  | cons f c' =>
    obtain ⟨b, g, q⟩ := f
    cases h
    exact List.mem_cons_self
/-- what a turn leaves -/
structure Turned (S S' : Lk N) (T : Tr N) : Prop where
  ns : S'.ns = S.ns
  t : S'.t = S.t
  lk : S'.lk = S.lk + 1
  out : ∀ y, y ∉ T.nms → Agr S S' y
theorem repc_put {S S' : Lk N} {p : Option N} {x u : N} {c : Cz N} (hn : S'.ns = S.ns) (ht : S'.t = S.t) (hc : RepC S p c (some u)) (nd : (cnm c).Nodup)
    (ha : ∀ y ∈ cnm c, S'.a y = S.a y) (hl : ∀ y ∈ cnm c, some y ≠ ctop none c → S'.l y = S.l y) (hr : ∀ y ∈ cnm c, some y ≠ ctop none c → S'.r y = S.r y)
    (gb : ∀ b g q c', c = (b, g, q) :: c' → if b then S'.l g = some x ∧ S'.r g = S.r g else S'.l g = S.l g ∧ S'.r g = some x) : RepC S' p c (some x) := by
  cases c with
  | nil => trivial
  | cons f c' =>
    obtain ⟨b, g, q⟩ := f
    obtain ⟨h1, h2, h3, h4, h5, h6⟩ := hc
    have nd : (g :: (q.nms ++ cnm c')).Nodup := nd
    obtain ⟨n1, n2⟩ := List.nodup_cons.mp nd
    have ag : ∀ y ∈ q.nms ++ cnm c', Agr S S' y := fun y m => by
      have m' : y ∈ cnm ((b, g, q) :: c') := List.mem_cons_of_mem _ m
      have ny : some y ≠ ctop none ((b, g, q) :: c') := fun e => by
        cases e
        exact n1 m
      exact ⟨hl y m' ny, hr y m' ny, ha y m', by rw [ht]⟩
    refine ⟨hn ▸ h1, by rw [ht]; exact h2, ?_, (ha g List.mem_cons_self).trans h4, h5.agr hn fun y m => ag y (List.mem_append_left _ m), h6.re hn fun y m => ag y (List.mem_append_right _ m)⟩
    have z := gb b g q c' rfl
    cases b with
    | true => exact ⟨z.1, z.2.trans h3.2⟩
    | false => exact ⟨z.1.trans h3.1, z.2⟩
theorem turnL {S : Lk N} {p : Option N} {A B s : Tr N} {x u : N} {c : Cz N} (h : Rep S p (plug (.nd false A x B) ((true, u, s) :: c))) (nd : (plug (.nd false A x B) ((true, u, s) :: c)).nms.Nodup)
    (ho : c = [] → ∀ q, p = some q → S.l q ≠ some u ∧ S.r q ≠ some u) :
    Rep (S.turn x) p (plug (.nd false A x (.nd false B u s)) c) ∧ Turned S (S.turn x) (plug (.nd false A x B) ((true, u, s) :: c)) := by
  have nd2 := plug_perm.nodup_iff.mp nd
  rw [show (Tr.nd false A x B).nms = A.nms ++ x :: B.nms from rfl, show cnm ((true, u, s) :: c) = u :: s.nms ++ cnm c from rfl] at nd2
  obtain ⟨n1, n2, n3⟩ := List.nodup_append.mp nd2
  obtain ⟨a1, a2, a3⟩ := List.nodup_append.mp n1
  obtain ⟨b1, b2⟩ := List.nodup_cons.mp a2
  have n2 : (u :: (s.nms ++ cnm c)).Nodup := n2
  obtain ⟨u1, u2⟩ := List.nodup_cons.mp n2
  obtain ⟨s1, s2, s3⟩ := List.nodup_append.mp u2
  have nuc : u ∉ cnm c := fun m => u1 (List.mem_append_right _ m)
  have xu : x ≠ u := n3 x (List.mem_append_right _ List.mem_cons_self) u List.mem_cons_self
  have xc : x ∉ cnm c := fun m => n3 x (List.mem_append_right _ List.mem_cons_self) x (List.mem_cons_of_mem _ (List.mem_append_right _ m)) rfl
  have xs : x ∉ s.nms := fun m => n3 x (List.mem_append_right _ List.mem_cons_self) x (List.mem_cons_of_mem _ (List.mem_append_left _ m)) rfl
  have inB : ∀ y ∈ B.nms, y ≠ u ∧ y ∉ s.nms ∧ y ∉ cnm c ∧ y ≠ x ∧ y ∉ A.nms := fun y m => by
    have my : y ∈ A.nms ++ x :: B.nms := List.mem_append_right _ (List.mem_cons_of_mem _ m)
    exact ⟨n3 y my u List.mem_cons_self, fun z => n3 y my y (List.mem_cons_of_mem _ (List.mem_append_left _ z)) rfl, fun z => n3 y my y (List.mem_cons_of_mem _ (List.mem_append_right _ z)) rfl, fun e => b1 (e ▸ m), fun z => a3 y z y (List.mem_cons_of_mem _ m) rfl⟩
  have inA : ∀ y ∈ A.nms, y ≠ u ∧ y ∉ s.nms ∧ y ∉ cnm c ∧ y ≠ x ∧ y ∉ B.nms := fun y m => by
    have my : y ∈ A.nms ++ x :: B.nms := List.mem_append_left _ m
    exact ⟨n3 y my u List.mem_cons_self, fun z => n3 y my y (List.mem_cons_of_mem _ (List.mem_append_left _ z)) rfl, fun z => n3 y my y (List.mem_cons_of_mem _ (List.mem_append_right _ z)) rfl, a3 y m x List.mem_cons_self, fun z => a3 y m y (List.mem_cons_of_mem _ z) rfl⟩
  obtain ⟨⟨g1, g2, g3, g4, g5, gA, gB⟩, hu1, hu2, ⟨hu3, hu4⟩, hu5, hs, hc⟩ := rep_plug.mp h
  have pl := placed (x := x) hc hu5 nuc ho
  have g5 : S.a x = some u := g5
  have hu3 : S.l u = some x := hu3
  have el : (S.inPlace x u).l u = some x := (pl.fl u fun e => nuc (ctop_mem e)).trans hu3
  have er : (S.inPlace x u).r x = B.root := (pl.fr x fun e => xc (ctop_mem e)).trans g4
  have e0 : S.turn x = (({ S with lk := S.lk + 1 }.inPlace x u).setL u (({ S with lk := S.lk + 1 }.inPlace x u).r x)).setR x (some u) := by
    unfold Lk.turn
    rw [g5]
    exact if_pos el
  have fl : (S.turn x).l = up1 (S.inPlace x u).l u B.root := by
    rw [e0, ← er]
    rfl
  have fr : (S.turn x).r = up1 (S.inPlace x u).r x (some u) := by
    rw [e0]
    rfl
  have fa : (S.turn x).a = up1 (upO (up1 S.a x (S.a u)) B.root (some u)) u (some x) := by
    rw [e0, ← er]
    rfl
  have ft : (S.turn x).t = S.t := by
    rw [e0]
    rfl
  have fn : (S.turn x).ns = S.ns := by
    rw [e0]
    rfl
  have fk : (S.turn x).lk = S.lk + 1 := by
    rw [e0]
    rfl
  have nBu : some u ≠ B.root := fun e => (inB u (Tr.root_mem e.symm)).1 rfl
  have nBx : some x ≠ B.root := fun e => b1 (Tr.root_mem e.symm)
  have al : ∀ y, y ≠ x → y ≠ u → y ∉ cnm c → (S.turn x).l y = S.l y ∧ (S.turn x).r y = S.r y := fun y yx yu yc => by
    rw [fl, fr, up1_ne yu, up1_ne yx]
    exact ⟨pl.fl y fun e => yc (ctop_mem e), pl.fr y fun e => yc (ctop_mem e)⟩
  have aa : ∀ y, y ≠ x → y ≠ u → some y ≠ B.root → (S.turn x).a y = S.a y := fun y yx yu yB => by
    rw [fa, up1_ne yu, upO_ne yB, up1_ne yx]
  have ag : ∀ y, y ≠ x → y ≠ u → y ∉ cnm c → some y ≠ B.root → Agr S (S.turn x) y := fun y yx yu yc yB => ⟨(al y yx yu yc).1, (al y yx yu yc).2, aa y yx yu yB, by rw [ft]⟩
  refine ⟨rep_plug.mpr ⟨⟨fn ▸ g1, by rw [ft]; exact g2, ?_, ?_, ?_, ?_, ?_⟩, ?_⟩, ⟨fn, ft, fk, fun y ny => ?_⟩⟩
  · rw [fl, up1_ne xu]
    exact (pl.fl x fun e => xc (ctop_mem e)).trans g3
  · rw [fr, up1_same]
    rfl
  · rw [fa, up1_ne xu, upO_ne nBx, up1_same]
    exact hu5
  · exact gA.agr fn fun y m => ag y (inA y m).2.2.2.1 (inA y m).1 (inA y m).2.2.1 fun e => (inA y m).2.2.2.2 (Tr.root_mem e.symm)
  · refine ⟨fn ▸ hu1, by rw [ft]; exact hu2, ?_, ?_, ?_, ?_, ?_⟩
    · rw [fl, up1_same]
    · rw [fr, up1_ne xu.symm]
      exact (pl.fr u fun e => nuc (ctop_mem e)).trans hu4
    · rw [fa, up1_same]
    · refine gB.re fn b2 (fun y m => ?_) (fun y m ny => ?_) (fun y e => ?_)
      · obtain ⟨q1, q2, q3, q4, q5⟩ := inB y m
        exact ⟨(al y q4 q1 q3).1, (al y q4 q1 q3).2, by rw [ft]⟩
      · obtain ⟨q1, q2, q3, q4, q5⟩ := inB y m
        exact aa y q4 q1 ny.symm
      · obtain ⟨q1, q2, q3, q4, q5⟩ := inB y (Tr.root_mem e)
        rw [fa, up1_ne q1, e, upO_same]
    · exact hs.agr fn fun y m => ag y (fun e => xs (e ▸ m)) (fun e => u1 (e ▸ List.mem_append_left _ m)) (fun z => s3 y m y z rfl) fun e => (inB y (Tr.root_mem e.symm)).2.1 m
  · refine repc_put fn ft hc s2 (fun y m => ?_) (fun y m ny => ?_) (fun y m ny => ?_) (fun b g q c' e => ?_)
    · exact aa y (fun e => xc (e ▸ m)) (fun e => nuc (e ▸ m)) fun e => (inB y (Tr.root_mem e.symm)).2.2.1 m
    · rw [fl, up1_ne fun (e : y = u) => nuc (e ▸ m)]
      exact pl.fl y ny
    · rw [fr, up1_ne fun (e : y = x) => xc (e ▸ m)]
      exact pl.fr y ny
    · have mg : g ∈ cnm c := by
        rw [e]
        exact List.mem_cons_self
      have z := pl.gb b g q c' e
      have e1 : (S.turn x).l g = (S.inPlace x u).l g := by rw [fl, up1_ne fun (e : g = u) => nuc (e ▸ mg)]
      have e2 : (S.turn x).r g = (S.inPlace x u).r g := by rw [fr, up1_ne fun (e : g = x) => xc (e ▸ mg)]
      rw [e1, e2]
      exact z
  · have ny : y ∉ (A.nms ++ x :: B.nms) ++ (u :: s.nms ++ cnm c) := fun m => ny (plug_perm.mem_iff.mpr m)
    refine ag y (fun e => ny (e ▸ List.mem_append_left _ (List.mem_append_right _ List.mem_cons_self))) (fun e => ny (e ▸ List.mem_append_right _ List.mem_cons_self)) (fun m => ny (List.mem_append_right _ (List.mem_cons_of_mem _ (List.mem_append_right _ m)))) fun e => ny (List.mem_append_left _ (List.mem_append_right _ (List.mem_cons_of_mem _ (Tr.root_mem e.symm))))
theorem turnR {S : Lk N} {p : Option N} {A B s : Tr N} {x u : N} {c : Cz N} (h : Rep S p (plug (.nd false A x B) ((false, u, s) :: c))) (nd : (plug (.nd false A x B) ((false, u, s) :: c)).nms.Nodup)
    (ho : c = [] → ∀ q, p = some q → S.l q ≠ some u ∧ S.r q ≠ some u) :
    Rep (S.turn x) p (plug (.nd false (.nd false s u A) x B) c) ∧ Turned S (S.turn x) (plug (.nd false A x B) ((false, u, s) :: c)) := by
  have nd2 := plug_perm.nodup_iff.mp nd
  rw [show (Tr.nd false A x B).nms = A.nms ++ x :: B.nms from rfl, show cnm ((false, u, s) :: c) = u :: s.nms ++ cnm c from rfl] at nd2
  obtain ⟨n1, n2, n3⟩ := List.nodup_append.mp nd2
  obtain ⟨a1, a2, a3⟩ := List.nodup_append.mp n1
  obtain ⟨b1, b2⟩ := List.nodup_cons.mp a2
  have n2 : (u :: (s.nms ++ cnm c)).Nodup := n2
  obtain ⟨u1, u2⟩ := List.nodup_cons.mp n2
  obtain ⟨s1, s2, s3⟩ := List.nodup_append.mp u2
  have nuc : u ∉ cnm c := fun m => u1 (List.mem_append_right _ m)
  have xu : x ≠ u := n3 x (List.mem_append_right _ List.mem_cons_self) u List.mem_cons_self
  have xc : x ∉ cnm c := fun m => n3 x (List.mem_append_right _ List.mem_cons_self) x (List.mem_cons_of_mem _ (List.mem_append_right _ m)) rfl
  have xs : x ∉ s.nms := fun m => n3 x (List.mem_append_right _ List.mem_cons_self) x (List.mem_cons_of_mem _ (List.mem_append_left _ m)) rfl
  have inB : ∀ y ∈ B.nms, y ≠ u ∧ y ∉ s.nms ∧ y ∉ cnm c ∧ y ≠ x ∧ y ∉ A.nms := fun y m => by
    have my : y ∈ A.nms ++ x :: B.nms := List.mem_append_right _ (List.mem_cons_of_mem _ m)
    exact ⟨n3 y my u List.mem_cons_self, fun z => n3 y my y (List.mem_cons_of_mem _ (List.mem_append_left _ z)) rfl, fun z => n3 y my y (List.mem_cons_of_mem _ (List.mem_append_right _ z)) rfl, fun e => b1 (e ▸ m), fun z => a3 y z y (List.mem_cons_of_mem _ m) rfl⟩
  have inA : ∀ y ∈ A.nms, y ≠ u ∧ y ∉ s.nms ∧ y ∉ cnm c ∧ y ≠ x ∧ y ∉ B.nms := fun y m => by
    have my : y ∈ A.nms ++ x :: B.nms := List.mem_append_left _ m
    exact ⟨n3 y my u List.mem_cons_self, fun z => n3 y my y (List.mem_cons_of_mem _ (List.mem_append_left _ z)) rfl, fun z => n3 y my y (List.mem_cons_of_mem _ (List.mem_append_right _ z)) rfl, a3 y m x List.mem_cons_self, fun z => a3 y m y (List.mem_cons_of_mem _ z) rfl⟩
  obtain ⟨⟨g1, g2, g3, g4, g5, gA, gB⟩, hu1, hu2, ⟨hu3, hu4⟩, hu5, hs, hc⟩ := rep_plug.mp h
  have pl := placed (x := x) hc hu5 nuc ho
  have g5 : S.a x = some u := g5
  have hu4 : S.r u = some x := hu4
  have nl : ¬ (S.inPlace x u).l u = some x := fun e => by
    rw [pl.fl u fun e => nuc (ctop_mem e), hu3] at e
    exact xs (Tr.root_mem e)
  have er : (S.inPlace x u).l x = A.root := (pl.fl x fun e => xc (ctop_mem e)).trans g3
  have e0 : S.turn x = (({ S with lk := S.lk + 1 }.inPlace x u).setR u (({ S with lk := S.lk + 1 }.inPlace x u).l x)).setL x (some u) := by
    unfold Lk.turn
    rw [g5]
    exact if_neg nl
  have fr : (S.turn x).r = up1 (S.inPlace x u).r u A.root := by
    rw [e0, ← er]
    rfl
  have fl : (S.turn x).l = up1 (S.inPlace x u).l x (some u) := by
    rw [e0]
    rfl
  have fa : (S.turn x).a = up1 (upO (up1 S.a x (S.a u)) A.root (some u)) u (some x) := by
    rw [e0, ← er]
    rfl
  have ft : (S.turn x).t = S.t := by
    rw [e0]
    rfl
  have fn : (S.turn x).ns = S.ns := by
    rw [e0]
    rfl
  have fk : (S.turn x).lk = S.lk + 1 := by
    rw [e0]
    rfl
  have nBu : some u ≠ A.root := fun e => (inA u (Tr.root_mem e.symm)).1 rfl
  have nBx : some x ≠ A.root := fun e => (inA x (Tr.root_mem e.symm)).2.2.2.1 rfl
  have al : ∀ y, y ≠ x → y ≠ u → y ∉ cnm c → (S.turn x).l y = S.l y ∧ (S.turn x).r y = S.r y := fun y yx yu yc => by
    rw [fl, fr, up1_ne yu, up1_ne yx]
    exact ⟨pl.fl y fun e => yc (ctop_mem e), pl.fr y fun e => yc (ctop_mem e)⟩
  have aa : ∀ y, y ≠ x → y ≠ u → some y ≠ A.root → (S.turn x).a y = S.a y := fun y yx yu yB => by
    rw [fa, up1_ne yu, upO_ne yB, up1_ne yx]
  have ag : ∀ y, y ≠ x → y ≠ u → y ∉ cnm c → some y ≠ A.root → Agr S (S.turn x) y := fun y yx yu yc yB => ⟨(al y yx yu yc).1, (al y yx yu yc).2, aa y yx yu yB, by rw [ft]⟩
  refine ⟨rep_plug.mpr ⟨⟨fn ▸ g1, by rw [ft]; exact g2, ?_, ?_, ?_, ?_, ?_⟩, ?_⟩, ⟨fn, ft, fk, fun y ny => ?_⟩⟩
  · rw [fl, up1_same]
    rfl
  · rw [fr, up1_ne xu]
    exact (pl.fr x fun e => xc (ctop_mem e)).trans g4
  · rw [fa, up1_ne xu, upO_ne nBx, up1_same]
    exact hu5
  · refine ⟨fn ▸ hu1, by rw [ft]; exact hu2, ?_, ?_, ?_, ?_, ?_⟩
    · rw [fl, up1_ne xu.symm]
      exact (pl.fl u fun e => nuc (ctop_mem e)).trans hu3
    · rw [fr, up1_same]
    · rw [fa, up1_same]
    · exact hs.agr fn fun y m => ag y (fun e => xs (e ▸ m)) (fun e => u1 (e ▸ List.mem_append_left _ m)) (fun z => s3 y m y z rfl) fun e => (inA y (Tr.root_mem e.symm)).2.1 m
    · refine gA.re fn a1 (fun y m => ?_) (fun y m ny => ?_) (fun y e => ?_)
      · obtain ⟨q1, q2, q3, q4, q5⟩ := inA y m
        exact ⟨(al y q4 q1 q3).1, (al y q4 q1 q3).2, by rw [ft]⟩
      · obtain ⟨q1, q2, q3, q4, q5⟩ := inA y m
        exact aa y q4 q1 ny.symm
      · obtain ⟨q1, q2, q3, q4, q5⟩ := inA y (Tr.root_mem e)
        rw [fa, up1_ne q1, e, upO_same]
  · exact gB.agr fn fun y m => ag y (inB y m).2.2.2.1 (inB y m).1 (inB y m).2.2.1 fun e => (inB y m).2.2.2.2 (Tr.root_mem e.symm)
  · refine repc_put fn ft hc s2 (fun y m => ?_) (fun y m ny => ?_) (fun y m ny => ?_) (fun b g q c' e => ?_)
    · exact aa y (fun e => xc (e ▸ m)) (fun e => nuc (e ▸ m)) fun e => (inA y (Tr.root_mem e.symm)).2.2.1 m
    · rw [fl, up1_ne fun (e : y = x) => xc (e ▸ m)]
      exact pl.fl y ny
    · rw [fr, up1_ne fun (e : y = u) => nuc (e ▸ m)]
      exact pl.fr y ny
    · have mg : g ∈ cnm c := by
        rw [e]
        exact List.mem_cons_self
      have z := pl.gb b g q c' e
      have e1 : (S.turn x).l g = (S.inPlace x u).l g := by rw [fl, up1_ne fun (e : g = x) => xc (e ▸ mg)]
      have e2 : (S.turn x).r g = (S.inPlace x u).r g := by rw [fr, up1_ne fun (e : g = u) => nuc (e ▸ mg)]
      rw [e1, e2]
      exact z
  · have ny : y ∉ (A.nms ++ x :: B.nms) ++ (u :: s.nms ++ cnm c) := fun m => ny (plug_perm.mem_iff.mpr m)
    refine ag y (fun e => ny (e ▸ List.mem_append_left _ (List.mem_append_right _ List.mem_cons_self))) (fun e => ny (e ▸ List.mem_append_right _ List.mem_cons_self)) (fun m => ny (List.mem_append_right _ (List.mem_cons_of_mem _ (List.mem_append_right _ m)))) fun e => ny (List.mem_append_left _ (List.mem_append_left _ (Tr.root_mem e.symm)))
end
section
variable {N : Type} [DecidableEq N]
def Lk.next (S : Lk N) (x : N) (goal : Option N) : List N := match S.a x with
  | none => [x]
  | some u => if S.isTop u || decide (S.a u = goal) then [x] else match S.a u with
    | none => [x]
    | some o => if decide (S.l u = some x) = decide (S.l o = some u) then [u, x] else [x, x]
def Lk.turns (S : Lk N) (xs : List N) : Lk N := xs.foldl Lk.turn S
/-- turned one by one, each one below another one then -/
def Lk.turnsQ : Lk N → List N → Option (Lk N)
  | S, [] => some S
  | S, y :: ys => if (S.a y).isSome then Lk.turnsQ (S.turn y) ys else none
/-- lifted until it is on top, or below goal; at most so many rounds -/
def Lk.lift : Nat → Lk N → N → Option N → Option (Lk N × List N)
  | 0, _, _, _ => none
  | k + 1, S, x, goal => if S.isTop x || decide (S.a x = goal) then some (S, []) else
    match S.turnsQ (S.next x goal) with
    | none => none
    | some S1 => match Lk.lift k S1 x goal with
      | none => none
      | some (S', ms) => some (S', S.next x goal ++ ms)
theorem Lk.lift_more : ∀ {k : Nat} {S : Lk N} {x : N} {goal : Option N} {R : Lk N × List N}, S.lift k x goal = some R → S.lift (k + 1) x goal = some R
  | 0, _, _, _, _, h => nomatch h
  | k + 1, S, x, goal, R, h => by
    unfold Lk.lift at h ⊢
    by_cases c : (S.isTop x || decide (S.a x = goal)) = true
    · rw [if_pos c] at h ⊢
      exact h
    · rw [if_neg c] at h ⊢
      cases et : S.turnsQ (S.next x goal) with
      | none =>
        rw [et] at h
        exact nomatch h
      | some S1 =>
        rw [et] at h
        have h : (match Lk.lift k S1 x goal with | none => none | some (S', ms) => some (S', S.next x goal ++ ms)) = some R := h
        show (match Lk.lift (k + 1) S1 x goal with | none => none | some (S', ms) => some (S', S.next x goal ++ ms)) = some R
        cases e : Lk.lift k S1 x goal with
        | none =>
          rw [e] at h
          exact nomatch h
        | some R2 =>
          rw [e] at h
          rw [Lk.lift_more e]
          exact h
theorem Lk.lift_le {k m : Nat} {S : Lk N} {x : N} {goal : Option N} {R : Lk N × List N} (h : S.lift k x goal = some R) (le : k ≤ m) : S.lift m x goal = some R := by
  induction le with
  | refl => exact h
  | step _ ih => exact Lk.lift_more ih
def nf (l : Tr N) (x : N) (r : Tr N) : Tr N := .nd false l x r
def splayT : Tr N → N → Tr N → Cz N → Tr N × List N
  | A, x, B, [] => (nf A x B, [])
  | A, x, B, [(true, u, s)] => (nf A x (nf B u s), [x])
  | A, x, B, [(false, u, s)] => (nf (nf s u A) x B, [x])
  | A, x, B, (true, u, s) :: (true, g, q) :: c => ((splayT A x (nf B u (nf s g q)) c).1, u :: x :: (splayT A x (nf B u (nf s g q)) c).2)
  | A, x, B, (true, u, s) :: (false, g, q) :: c => ((splayT (nf q g A) x (nf B u s) c).1, x :: x :: (splayT (nf q g A) x (nf B u s) c).2)
  | A, x, B, (false, u, s) :: (true, g, q) :: c => ((splayT (nf s u A) x (nf B g q) c).1, x :: x :: (splayT (nf s u A) x (nf B g q) c).2)
  | A, x, B, (false, u, s) :: (false, g, q) :: c => ((splayT (nf (nf q g s) u A) x B c).1, u :: x :: (splayT (nf (nf q g s) u A) x B c).2)
/-- what lies outside of the tree has none of it as a left or right one -/
def OutT (S : Lk N) (p : Option N) (T : Tr N) : Prop := ∀ q, p = some q → ∀ y ∈ T.nms, S.l q ≠ some y ∧ S.r q ≠ some y
/-- what some turns leave -/
structure Lifted (S S' : Lk N) (T : Tr N) (k : Nat) : Prop where
  ns : S'.ns = S.ns
  t : S'.t = S.t
  lk : S'.lk = S.lk + k
  out : ∀ y, y ∉ T.nms → Agr S S' y
theorem Lifted.refl {S : Lk N} {T : Tr N} : Lifted S S T 0 := ⟨rfl, rfl, rfl, fun _ _ => .refl⟩
theorem Lifted.trans {S S1 S2 : Lk N} {T T1 : Tr N} {k m : Nat} (a : Lifted S S1 T k) (b : Lifted S1 S2 T1 m) (e : ∀ y, y ∈ T1.nms ↔ y ∈ T.nms) : Lifted S S2 T (k + m) :=
  ⟨b.ns.trans a.ns, b.t.trans a.t, by rw [b.lk, a.lk, Nat.add_assoc], fun y ny => (a.out y ny).trans (b.out y fun z => ny ((e y).mp z))⟩
theorem Turned.lifted {S S' : Lk N} {T : Tr N} (h : Turned S S' T) : Lifted S S' T 1 := ⟨h.ns, h.t, h.lk, h.out⟩
theorem OutT.lift {S S' : Lk N} {p : Option N} {T T1 : Tr N} {k : Nat} (h : OutT S p T) (a : Lifted S S' T k) (e : ∀ y, y ∈ T1.nms ↔ y ∈ T.nms) (hp : ∀ q, p = some q → q ∉ T.nms) : OutT S' p T1 := fun q eq y m => by
  obtain ⟨z1, z2, _, _⟩ := a.out q (hp q eq)
  rw [z1, z2]
  exact h q eq y ((e y).mp m)
theorem turnLL {S : Lk N} {p : Option N} {A B s : Tr N} {x u : N} {c : Cz N} (h : Rep S p (plug (nf A x B) ((true, u, s) :: c))) (nd : (plug (nf A x B) ((true, u, s) :: c)).nms.Nodup) (ho : OutT S p (plug (nf A x B) ((true, u, s) :: c))) :
    Rep (S.turn x) p (plug (nf A x (nf B u s)) c) ∧ Lifted S (S.turn x) (plug (nf A x B) ((true, u, s) :: c)) 1 := by
  obtain ⟨a, b⟩ := turnL h nd fun _ q e => ho q e u (plug_perm.mem_iff.mpr (List.mem_append_right _ List.mem_cons_self))
  exact ⟨a, b.lifted⟩
theorem turnRR {S : Lk N} {p : Option N} {A B s : Tr N} {x u : N} {c : Cz N} (h : Rep S p (plug (nf A x B) ((false, u, s) :: c))) (nd : (plug (nf A x B) ((false, u, s) :: c)).nms.Nodup) (ho : OutT S p (plug (nf A x B) ((false, u, s) :: c))) :
    Rep (S.turn x) p (plug (nf (nf s u A) x B) c) ∧ Lifted S (S.turn x) (plug (nf A x B) ((false, u, s) :: c)) 1 := by
  obtain ⟨a, b⟩ := turnR h nd fun _ q e => ho q e u (plug_perm.mem_iff.mpr (List.mem_append_right _ List.mem_cons_self))
  exact ⟨a, b.lifted⟩
theorem plug_app : ∀ {c d : Cz N} {t : Tr N}, plug t (c ++ d) = plug (plug t c) d
  | [], _, _ => rfl
  | (true, u, s) :: c, d, t => plug_app (c := c)
  | (false, u, s) :: c, d, t => plug_app (c := c)
theorem permLL {A B s : Tr N} {x u : N} : (nf A x (nf B u s)).nms.Perm (nf (nf A x B) u s).nms := by
  show (A.nms ++ x :: (B.nms ++ u :: s.nms)).Perm ((A.nms ++ x :: B.nms) ++ u :: s.nms)
  rw [List.append_assoc, List.cons_append]
theorem permP {t t' : Tr N} {c : Cz N} (h : t.nms.Perm t'.nms) : (plug t c).nms.Perm (plug t' c).nms := plug_perm.trans ((h.append_right _).trans plug_perm.symm)
theorem splay_perm : ∀ {c : Cz N} {A B : Tr N} {x : N}, (splayT A x B c).1.nms.Perm (plug (nf A x B) c).nms
  | [], A, B, x => .refl _
  | [(true, u, s)], A, B, x => permLL
  | [(false, u, s)], A, B, x => permLL.symm
  | (true, u, s) :: (true, g, q) :: c, A, B, x => by
    refine (splay_perm (c := c) (A := A) (B := nf B u (nf s g q)) (x := x)).trans (permP (c := c) (t' := nf (nf (nf A x B) u s) g q) ?_)
    show (A.nms ++ x :: (B.nms ++ u :: (s.nms ++ g :: q.nms))).Perm (((A.nms ++ x :: B.nms) ++ u :: s.nms) ++ g :: q.nms)
    simp only [List.append_assoc, List.cons_append]
    exact .refl _
  | (true, u, s) :: (false, g, q) :: c, A, B, x => by
    refine (splay_perm (c := c) (A := nf q g A) (B := nf B u s) (x := x)).trans (permP (c := c) (t' := nf q g (nf (nf A x B) u s)) ?_)
    show ((q.nms ++ g :: A.nms) ++ x :: (B.nms ++ u :: s.nms)).Perm (q.nms ++ g :: ((A.nms ++ x :: B.nms) ++ u :: s.nms))
    simp only [List.append_assoc, List.cons_append]
    exact .refl _
  | (false, u, s) :: (true, g, q) :: c, A, B, x => by
    refine (splay_perm (c := c) (A := nf s u A) (B := nf B g q) (x := x)).trans (permP (c := c) (t' := nf (nf s u (nf A x B)) g q) ?_)
    show ((s.nms ++ u :: A.nms) ++ x :: (B.nms ++ g :: q.nms)).Perm ((s.nms ++ u :: (A.nms ++ x :: B.nms)) ++ g :: q.nms)
    simp only [List.append_assoc, List.cons_append]
    exact .refl _
  | (false, u, s) :: (false, g, q) :: c, A, B, x => by
    refine (splay_perm (c := c) (A := nf (nf q g s) u A) (B := B) (x := x)).trans (permP (c := c) (t' := nf q g (nf s u (nf A x B))) ?_)
    show ((((q.nms ++ g :: s.nms) ++ u :: A.nms)) ++ x :: B.nms).Perm (q.nms ++ g :: (s.nms ++ u :: (A.nms ++ x :: B.nms)))
    simp only [List.append_assoc, List.cons_append]
    exact .refl _
theorem splay_ord : ∀ {c : Cz N} {A B : Tr N} {x : N}, (splayT A x B c).1.ord = (plug (nf A x B) c).ord
  | [], A, B, x => rfl
  | [(true, u, s)], A, B, x => by
    show A.ord ++ x :: (B.ord ++ u :: s.ord) = (A.ord ++ x :: B.ord) ++ u :: s.ord
    rw [List.append_assoc, List.cons_append]
  | [(false, u, s)], A, B, x => by
    show (s.ord ++ u :: A.ord) ++ x :: B.ord = s.ord ++ u :: (A.ord ++ x :: B.ord)
    rw [List.append_assoc, List.cons_append]
  | (true, u, s) :: (true, g, q) :: c, A, B, x => by
    show (splayT A x (nf B u (nf s g q)) c).1.ord = _
    rw [splay_ord, plug_ord, plug_ord]
    show cL c ++ ((A.ord ++ x :: (B.ord ++ u :: (s.ord ++ g :: q.ord))) ++ cR c) = cL c ++ ((A.ord ++ x :: B.ord) ++ (u :: s.ord ++ (g :: q.ord ++ cR c)))
    simp only [List.append_assoc, List.cons_append]
  | (true, u, s) :: (false, g, q) :: c, A, B, x => by
    show (splayT (nf q g A) x (nf B u s) c).1.ord = _
    rw [splay_ord, plug_ord, plug_ord]
    show cL c ++ (((q.ord ++ g :: A.ord) ++ x :: (B.ord ++ u :: s.ord)) ++ cR c) = (cL c ++ (q.ord ++ [g])) ++ ((A.ord ++ x :: B.ord) ++ (u :: s.ord ++ cR c))
    simp only [List.append_assoc, List.cons_append, List.nil_append]
  | (false, u, s) :: (true, g, q) :: c, A, B, x => by
    show (splayT (nf s u A) x (nf B g q) c).1.ord = _
    rw [splay_ord, plug_ord, plug_ord]
    show cL c ++ (((s.ord ++ u :: A.ord) ++ x :: (B.ord ++ g :: q.ord)) ++ cR c) = (cL c ++ (s.ord ++ [u])) ++ ((A.ord ++ x :: B.ord) ++ (g :: q.ord ++ cR c))
    simp only [List.append_assoc, List.cons_append, List.nil_append]
  | (false, u, s) :: (false, g, q) :: c, A, B, x => by
    show (splayT (nf (nf q g s) u A) x B c).1.ord = _
    rw [splay_ord, plug_ord, plug_ord]
    show cL c ++ (((((q.ord ++ g :: s.ord) ++ u :: A.ord)) ++ x :: B.ord) ++ cR c) = ((cL c ++ (q.ord ++ [g])) ++ (s.ord ++ [u])) ++ ((A.ord ++ x :: B.ord) ++ cR c)
    simp only [List.append_assoc, List.cons_append, List.nil_append]
theorem splay_root : ∀ {c : Cz N} {A B : Tr N} {x : N}, ∃ A' B', (splayT A x B c).1 = nf A' x B'
  | [], A, B, x => ⟨_, _, rfl⟩
  | [(true, u, s)], A, B, x => ⟨_, _, rfl⟩
  | [(false, u, s)], A, B, x => ⟨_, _, rfl⟩
  | (true, u, s) :: (true, g, q) :: c, A, B, x => splay_root (c := c)
  | (true, u, s) :: (false, g, q) :: c, A, B, x => splay_root (c := c)
  | (false, u, s) :: (true, g, q) :: c, A, B, x => splay_root (c := c)
  | (false, u, s) :: (false, g, q) :: c, A, B, x => splay_root (c := c)
/-- x has one above it in its tree -/
theorem not_top {S : Lk N} {p : Option N} {t : Tr N} {x u : N} {b : Bool} {s : Tr N} {c : Cz N} (h : Rep S p (plug t ((b, u, s) :: c))) (e : t.root = some x) : S.isTop x = false ∧ S.a x = some u ∧ S.a u = ctop p c := by
  obtain ⟨h1, _, _, h3, h4, _⟩ := rep_plug.mp h
  have ha : S.a x = some u := h1.top e
  refine ⟨?_, ha, h4⟩
  unfold Lk.isTop
  rw [ha]
  cases b with
  | true =>
    have h3 : S.l u = t.root ∧ S.r u = s.root := h3
    show (!(decide (S.l u = some x) || decide (S.r u = some x))) = false
    rw [h3.1, e]
    simp
  | false =>
    have h3 : S.l u = s.root ∧ S.r u = t.root := h3
    show (!(decide (S.l u = some x) || decide (S.r u = some x))) = false
    rw [h3.2, e]
    simp
theorem is_top {S : Lk N} {p : Option N} {T : Tr N} {x : N} (h : Rep S p T) (e : T.root = some x) (ho : OutT S p T) : S.isTop x = true := by
  have ha := h.top e
  unfold Lk.isTop
  rw [ha]
  cases p with
  | none => rfl
  | some q =>
    obtain ⟨z1, z2⟩ := ho q rfl x (Tr.root_mem e)
    show (!(decide (S.l q = some x) || decide (S.r q = some x))) = true
    simp [z1, z2]
end
section
variable {N : Type} [DecidableEq N]
theorem lift_stop {S : Lk N} {x : N} {goal : Option N} {k : Nat} (h : (S.isTop x || decide (S.a x = goal)) = true) : S.lift (k + 1) x goal = some (S, []) := by
  unfold Lk.lift
  rw [if_pos h]
theorem lift_step {S S' : Lk N} {x : N} {goal : Option N} {k : Nat} {ns ms : List N} (h1 : S.isTop x = false) (h2 : S.a x ≠ goal) (hn : S.next x goal = ns) {S1 : Lk N} (ht : S.turnsQ ns = some S1) (h : S1.lift k x goal = some (S', ms)) : S.lift (k + 1) x goal = some (S', ns ++ ms) := by
  unfold Lk.lift
  rw [if_neg (by rw [h1, decide_eq_false h2]; decide), hn, ht]
  show (match Lk.lift k S1 x goal with | none => none | some (S', ms) => some (S', ns ++ ms)) = _
  rw [h]
theorem tq1 {S : Lk N} {x u : N} (h : S.a x = some u) : S.turnsQ [x] = some (S.turn x) := by
  show (if (S.a x).isSome = true then some (S.turn x) else none) = _
  rw [h]
  rfl
theorem tq2 {S : Lk N} {x y u v : N} (h : S.a y = some u) (k : (S.turn y).a x = some v) : S.turnsQ [y, x] = some ((S.turn y).turn x) := by
  show (if (S.a y).isSome = true then (S.turn y).turnsQ [x] else none) = _
  rw [h, tq1 k]
  rfl
theorem ctop_not {c : Cz N} {u : N} (h : u ∉ cnm c) : some u ≠ ctop none c := fun e => h (ctop_mem e)
theorem ctop_pn {p : Option N} {f : Bool × N × Tr N} {c : Cz N} : ctop p (f :: c) = ctop none (f :: c) := rfl
theorem cnm_app : ∀ {c d : Cz N}, cnm (c ++ d) = cnm c ++ cnm d
  | [], _ => rfl
  | (b, u, s) :: c, d => by
    show u :: s.nms ++ cnm (c ++ d) = u :: s.nms ++ cnm c ++ cnm d
    rw [cnm_app, List.append_assoc]
/-- u, the innermost one, is no other one's name further out -/
theorem nd_ctx {t : Tr N} {b : Bool} {u : N} {s : Tr N} {c : Cz N} (nd : (plug t ((b, u, s) :: c)).nms.Nodup) : u ∉ s.nms ∧ u ∉ cnm c ∧ ∀ x ∈ t.nms, x ≠ u ∧ x ∉ s.nms ∧ x ∉ cnm c := by
  have z := plug_perm.nodup_iff.mp nd
  obtain ⟨_, z2, z3⟩ := List.nodup_append.mp z
  have z2 : (u :: (s.nms ++ cnm c)).Nodup := z2
  obtain ⟨z4, _⟩ := List.nodup_cons.mp z2
  exact ⟨fun m => z4 (List.mem_append_left _ m), fun m => z4 (List.mem_append_right _ m), fun x m => ⟨z3 x m u List.mem_cons_self, fun y => z3 x m x (List.mem_cons_of_mem _ (List.mem_append_left _ y)) rfl, fun y => z3 x m x (List.mem_cons_of_mem _ (List.mem_append_right _ y)) rfl⟩⟩
theorem nx_one {S : Lk N} {x u : N} {goal : Option N} (ha : S.a x = some u) (h : (S.isTop u || decide (S.a u = goal)) = true) : S.next x goal = [x] := by
  unfold Lk.next
  rw [ha]
  exact if_pos h
theorem nx_two {S : Lk N} {x u g : N} {goal : Option N} (ha : S.a x = some u) (hu : S.a u = some g) (h1 : S.isTop u = false) (h2 : S.a u ≠ goal) : S.next x goal = if decide (S.l u = some x) = decide (S.l g = some u) then [u, x] else [x, x] := by
  unfold Lk.next
  rw [ha]
  show (if (S.isTop u || decide (S.a u = goal)) = true then [x] else match S.a u with | none => [x] | some o => if decide (S.l u = some x) = decide (S.l o = some u) then [u, x] else [x, x]) = _
  rw [if_neg (by rw [h1, decide_eq_false h2]; decide), hu]
theorem plug_root {t t' : Tr N} (h : t.root = t'.root) : ∀ {c : Cz N}, (plug t c).root = (plug t' c).root
  | [] => h
  | (true, u, s) :: c => plug_root (t := .nd false t u s) (t' := .nd false t' u s) rfl (c := c)
  | (false, u, s) :: c => plug_root (t := .nd false s u t) (t' := .nd false s u t') rfl (c := c)
/-- stop: on top, or below goal -/
theorem at_stop {S : Lk N} {p : Option N} {T : Tr N} {x : N} {c2 : Cz N} (h : Rep S p (plug T c2)) (e : T.root = some x) (ho : OutT S p (plug T c2)) : (S.isTop x || decide (S.a x = ctop none c2)) = true := by
  cases c2 with
  | nil => rw [is_top h e ho, Bool.true_or]
  | cons f c =>
    obtain ⟨b, u, s⟩ := f
    obtain ⟨_, z, _⟩ := not_top h e
    rw [z]
    show (S.isTop x || decide (some u = some u)) = true
    rw [decide_eq_true rfl, Bool.or_true]
theorem Lifted.eqT {S S' : Lk N} {T T' : Tr N} {k : Nat} (h : Lifted S S' T k) (e : T = T') : Lifted S S' T' k := e ▸ h
theorem lift_rep : ∀ {c1 : Cz N} {S : Lk N} {A B : Tr N} {x : N} {c2 : Cz N} {p : Option N}, Rep S p (plug (nf A x B) (c1 ++ c2)) → (plug (nf A x B) (c1 ++ c2)).nms.Nodup → OutT S p (plug (nf A x B) (c1 ++ c2)) → (∀ q, p = some q → q ∉ (plug (nf A x B) (c1 ++ c2)).nms) →
    ∃ S', S.lift (c1.length + 1) x (ctop none c2) = some (S', (splayT A x B c1).2) ∧ Rep S' p (plug (splayT A x B c1).1 c2) ∧ Lifted S S' (plug (nf A x B) (c1 ++ c2)) (splayT A x B c1).2.length
  | [], S, A, B, x, c2, p, h, nd, ho, hp => ⟨S, lift_stop (at_stop h rfl ho), h, .refl⟩
  | [(true, u, s)], S, A, B, x, c2, p, h, nd, ho, hp => by
    obtain ⟨t1, t2, t3⟩ := not_top h rfl
    obtain ⟨n1, n2, n3⟩ := nd_ctx nd
    obtain ⟨r1, L1⟩ := turnLL h nd ho
    have em : ∀ y, y ∈ (plug (nf A x (nf B u s)) c2).nms ↔ y ∈ (plug (nf A x B) ((true, u, s) :: c2)).nms := fun y => (permP (c := c2) permLL).mem_iff
    have z := at_stop (T := nf (nf A x B) u s) h rfl ho
    refine ⟨_, lift_step t1 (by rw [t2]; exact ctop_not n2) (nx_one t2 z) (tq1 t2) (lift_stop (at_stop r1 rfl (ho.lift L1 em hp))), r1, L1⟩
  | [(false, u, s)], S, A, B, x, c2, p, h, nd, ho, hp => by
    obtain ⟨t1, t2, t3⟩ := not_top h rfl
    obtain ⟨n1, n2, n3⟩ := nd_ctx nd
    obtain ⟨r1, L1⟩ := turnRR h nd ho
    have em : ∀ y, y ∈ (plug (nf (nf s u A) x B) c2).nms ↔ y ∈ (plug (nf A x B) ((false, u, s) :: c2)).nms := fun y => (permP (c := c2) permLL.symm).mem_iff
    have z := at_stop (T := nf s u (nf A x B)) h rfl ho
    refine ⟨_, lift_step t1 (by rw [t2]; exact ctop_not n2) (nx_one t2 z) (tq1 t2) (lift_stop (at_stop r1 rfl (ho.lift L1 em hp))), r1, L1⟩
  | (true, u, s) :: (true, g, q) :: c, S, A, B, x, c2, p, h, nd, ho, hp => by
    obtain ⟨t1, t2, t3⟩ := not_top h rfl
    obtain ⟨n1, n2, n3⟩ := nd_ctx nd
    have t3 : S.a u = some g := t3
    have h' : Rep S p (plug (nf (nf A x B) u s) ((true, g, q) :: (c ++ c2))) := h
    have nd' : (plug (nf (nf A x B) u s) ((true, g, q) :: (c ++ c2))).nms.Nodup := nd
    obtain ⟨v1, v2, v3⟩ := not_top h' rfl
    obtain ⟨m1, m2, m3⟩ := nd_ctx nd'
    have ug : u ≠ g := (m3 u (List.mem_append_right _ List.mem_cons_self)).1
    have gc : g ∉ cnm c2 := fun z => m2 (by rw [cnm_app]; exact List.mem_append_right _ z)
    have uc : u ∉ cnm c2 := fun z => (m3 u (List.mem_append_right _ List.mem_cons_self)).2.2 (by rw [cnm_app]; exact List.mem_append_right _ z)
    have lu : S.l u = some x := (rep_plug.mp h).2.2.2.1.1
    have lg : S.l g = some u := (rep_plug.mp h').2.2.2.1.1
    have hn : S.next x (ctop none c2) = [u, x] := by
      rw [nx_two t2 t3 v1 (by rw [t3]; exact ctop_not gc), lu, lg, if_pos (by simp)]
    obtain ⟨r1, L1⟩ := turnLL (A := nf A x B) (B := s) (x := u) (s := q) h' nd' ho
    have em : ∀ y, y ∈ (plug (nf (nf A x B) u (nf s g q)) (c ++ c2)).nms ↔ y ∈ (plug (nf (nf A x B) u s) ((true, g, q) :: (c ++ c2))).nms := fun y => (permP (c := c ++ c2) permLL).mem_iff
    have nd1 : (plug (nf (nf A x B) u (nf s g q)) (c ++ c2)).nms.Nodup := (permP (c := c ++ c2) permLL).nodup_iff.mpr nd'
    have ho1 := ho.lift L1 em hp
    obtain ⟨r2, L2⟩ := turnLL (A := A) (B := B) (x := x) (u := u) (s := nf s g q) r1 nd1 ho1
    have em2 : ∀ y, y ∈ (plug (nf A x (nf B u (nf s g q))) (c ++ c2)).nms ↔ y ∈ (plug (nf A x B) ((true, u, nf s g q) :: (c ++ c2))).nms := fun y => (permP (c := c ++ c2) permLL).mem_iff
    have nd2 : (plug (nf A x (nf B u (nf s g q))) (c ++ c2)).nms.Nodup := (permP (c := c ++ c2) permLL).nodup_iff.mpr nd1
    have ho2 := ho1.lift L2 em2 fun q e z => hp q e ((em q).mp z)
    obtain ⟨S', e1, e2, e3⟩ := lift_rep (c1 := c) r2 nd2 ho2 fun q e z => hp q e ((em q).mp ((em2 q).mp z))
    have L12 := L1.trans L2 em
    refine ⟨S', lift_step t1 (by rw [t2]; exact ctop_not uc) hn (tq2 t3 (not_top (t := nf A x B) (b := true) (s := nf s g q) (c := c ++ c2) r1 rfl).2.1) (Lk.lift_more e1), e2, (L12.trans e3 fun y => (em2 y).trans (em y)).1, ?_, ?_, ?_⟩
    · exact (L12.trans e3 fun y => (em2 y).trans (em y)).t
    · rw [(L12.trans e3 fun y => (em2 y).trans (em y)).lk]
      show _ = S.lk + ((splayT A x (nf B u (nf s g q)) c).2.length + 1 + 1)
      omega
    · exact (L12.trans e3 fun y => (em2 y).trans (em y)).out
  | (true, u, s) :: (false, g, q) :: c, S, A, B, x, c2, p, h, nd, ho, hp => by
    obtain ⟨t1, t2, t3⟩ := not_top h rfl
    obtain ⟨n1, n2, n3⟩ := nd_ctx nd
    have t3 : S.a u = some g := t3
    have h' : Rep S p (plug (nf (nf A x B) u s) ((false, g, q) :: (c ++ c2))) := h
    have nd' : (plug (nf (nf A x B) u s) ((false, g, q) :: (c ++ c2))).nms.Nodup := nd
    obtain ⟨v1, v2, v3⟩ := not_top h' rfl
    obtain ⟨m1, m2, m3⟩ := nd_ctx nd'
    have mu := m3 u (List.mem_append_right _ List.mem_cons_self)
    have gc : g ∉ cnm c2 := fun z => m2 (by rw [cnm_app]; exact List.mem_append_right _ z)
    have uc : u ∉ cnm c2 := fun z => mu.2.2 (by rw [cnm_app]; exact List.mem_append_right _ z)
    have lu : S.l u = some x := (rep_plug.mp h).2.2.2.1.1
    have lg : S.l g = q.root := (rep_plug.mp h').2.2.2.1.1
    have nq : q.root ≠ some u := root_ne mu.2.1
    have hn : S.next x (ctop none c2) = [x, x] := by
      rw [nx_two t2 t3 v1 (by rw [t3]; exact ctop_not gc), lu, lg, if_neg (by simp [nq])]
    obtain ⟨r1, L1⟩ := turnLL h nd ho
    have em : ∀ y, y ∈ (plug (nf A x (nf B u s)) ((false, g, q) :: (c ++ c2))).nms ↔ y ∈ (plug (nf A x B) ((true, u, s) :: (false, g, q) :: (c ++ c2))).nms := fun y => (permP (c := (false, g, q) :: (c ++ c2)) permLL).mem_iff
    have nd1 : (plug (nf A x (nf B u s)) ((false, g, q) :: (c ++ c2))).nms.Nodup := (permP (c := (false, g, q) :: (c ++ c2)) permLL).nodup_iff.mpr nd
    have ho1 := ho.lift L1 em hp
    obtain ⟨r2, L2⟩ := turnRR (A := A) (B := nf B u s) (x := x) (u := g) (s := q) r1 nd1 ho1
    have em2 : ∀ y, y ∈ (plug (nf (nf q g A) x (nf B u s)) (c ++ c2)).nms ↔ y ∈ (plug (nf A x (nf B u s)) ((false, g, q) :: (c ++ c2))).nms := fun y => (permP (c := c ++ c2) permLL.symm).mem_iff
    have nd2 : (plug (nf (nf q g A) x (nf B u s)) (c ++ c2)).nms.Nodup := (permP (c := c ++ c2) permLL.symm).nodup_iff.mpr nd1
    have ho2 := ho1.lift L2 em2 fun q e z => hp q e ((em q).mp z)
    obtain ⟨S', e1, e2, e3⟩ := lift_rep (c1 := c) r2 nd2 ho2 fun q e z => hp q e ((em q).mp ((em2 q).mp z))
    have L12 := L1.trans L2 em
    refine ⟨S', lift_step t1 (by rw [t2]; exact ctop_not uc) hn (tq2 t2 (not_top r1 rfl).2.1) (Lk.lift_more e1), e2, (L12.trans e3 fun y => (em2 y).trans (em y)).1, ?_, ?_, ?_⟩
    · exact (L12.trans e3 fun y => (em2 y).trans (em y)).t
    · rw [(L12.trans e3 fun y => (em2 y).trans (em y)).lk]
      show _ = S.lk + ((splayT (nf q g A) x (nf B u s) c).2.length + 1 + 1)
      omega
    · exact (L12.trans e3 fun y => (em2 y).trans (em y)).out
  | (false, u, s) :: (true, g, q) :: c, S, A, B, x, c2, p, h, nd, ho, hp => by
    obtain ⟨t1, t2, t3⟩ := not_top h rfl
    obtain ⟨n1, n2, n3⟩ := nd_ctx nd
    have t3 : S.a u = some g := t3
    have h' : Rep S p (plug (nf s u (nf A x B)) ((true, g, q) :: (c ++ c2))) := h
    have nd' : (plug (nf s u (nf A x B)) ((true, g, q) :: (c ++ c2))).nms.Nodup := nd
    obtain ⟨v1, v2, v3⟩ := not_top h' rfl
    obtain ⟨m1, m2, m3⟩ := nd_ctx nd'
    have mu := m3 u (List.mem_append_right _ List.mem_cons_self)
    have gc : g ∉ cnm c2 := fun z => m2 (by rw [cnm_app]; exact List.mem_append_right _ z)
    have uc : u ∉ cnm c2 := fun z => mu.2.2 (by rw [cnm_app]; exact List.mem_append_right _ z)
    have lu : S.l u = s.root := (rep_plug.mp h).2.2.2.1.1
    have lg : S.l g = some u := (rep_plug.mp h').2.2.2.1.1
    have nx : s.root ≠ some x := root_ne (n3 x (List.mem_append_right _ List.mem_cons_self)).2.1
    have hn : S.next x (ctop none c2) = [x, x] := by
      rw [nx_two t2 t3 v1 (by rw [t3]; exact ctop_not gc), lu, lg, if_neg (by simp [nx])]
    obtain ⟨r1, L1⟩ := turnRR h nd ho
    have em : ∀ y, y ∈ (plug (nf (nf s u A) x B) ((true, g, q) :: (c ++ c2))).nms ↔ y ∈ (plug (nf A x B) ((false, u, s) :: (true, g, q) :: (c ++ c2))).nms := fun y => (permP (c := (true, g, q) :: (c ++ c2)) permLL.symm).mem_iff
    have nd1 : (plug (nf (nf s u A) x B) ((true, g, q) :: (c ++ c2))).nms.Nodup := (permP (c := (true, g, q) :: (c ++ c2)) permLL.symm).nodup_iff.mpr nd
    have ho1 := ho.lift L1 em hp
    obtain ⟨r2, L2⟩ := turnLL (A := nf s u A) (B := B) (x := x) (u := g) (s := q) r1 nd1 ho1
    have em2 : ∀ y, y ∈ (plug (nf (nf s u A) x (nf B g q)) (c ++ c2)).nms ↔ y ∈ (plug (nf (nf s u A) x B) ((true, g, q) :: (c ++ c2))).nms := fun y => (permP (c := c ++ c2) permLL).mem_iff
    have nd2 : (plug (nf (nf s u A) x (nf B g q)) (c ++ c2)).nms.Nodup := (permP (c := c ++ c2) permLL).nodup_iff.mpr nd1
    have ho2 := ho1.lift L2 em2 fun q e z => hp q e ((em q).mp z)
    obtain ⟨S', e1, e2, e3⟩ := lift_rep (c1 := c) r2 nd2 ho2 fun q e z => hp q e ((em q).mp ((em2 q).mp z))
    have L12 := L1.trans L2 em
    refine ⟨S', lift_step t1 (by rw [t2]; exact ctop_not uc) hn (tq2 t2 (not_top r1 rfl).2.1) (Lk.lift_more e1), e2, (L12.trans e3 fun y => (em2 y).trans (em y)).1, ?_, ?_, ?_⟩
    · exact (L12.trans e3 fun y => (em2 y).trans (em y)).t
    · rw [(L12.trans e3 fun y => (em2 y).trans (em y)).lk]
      show _ = S.lk + ((splayT (nf s u A) x (nf B g q) c).2.length + 1 + 1)
      omega
    · exact (L12.trans e3 fun y => (em2 y).trans (em y)).out
  | (false, u, s) :: (false, g, q) :: c, S, A, B, x, c2, p, h, nd, ho, hp => by
    obtain ⟨t1, t2, t3⟩ := not_top h rfl
    obtain ⟨n1, n2, n3⟩ := nd_ctx nd
    have t3 : S.a u = some g := t3
    have h' : Rep S p (plug (nf s u (nf A x B)) ((false, g, q) :: (c ++ c2))) := h
    have nd' : (plug (nf s u (nf A x B)) ((false, g, q) :: (c ++ c2))).nms.Nodup := nd
    obtain ⟨v1, v2, v3⟩ := not_top h' rfl
    obtain ⟨m1, m2, m3⟩ := nd_ctx nd'
    have mu := m3 u (List.mem_append_right _ List.mem_cons_self)
    have gc : g ∉ cnm c2 := fun z => m2 (by rw [cnm_app]; exact List.mem_append_right _ z)
    have uc : u ∉ cnm c2 := fun z => mu.2.2 (by rw [cnm_app]; exact List.mem_append_right _ z)
    have lu : S.l u = s.root := (rep_plug.mp h).2.2.2.1.1
    have lg : S.l g = q.root := (rep_plug.mp h').2.2.2.1.1
    have nx : s.root ≠ some x := root_ne (n3 x (List.mem_append_right _ List.mem_cons_self)).2.1
    have nq : q.root ≠ some u := root_ne mu.2.1
    have hn : S.next x (ctop none c2) = [u, x] := by
      rw [nx_two t2 t3 v1 (by rw [t3]; exact ctop_not gc), lu, lg, if_pos (by simp [nx, nq])]
    obtain ⟨r1, L1⟩ := turnRR (A := s) (B := nf A x B) (x := u) (s := q) h' nd' ho
    have em : ∀ y, y ∈ (plug (nf (nf q g s) u (nf A x B)) (c ++ c2)).nms ↔ y ∈ (plug (nf s u (nf A x B)) ((false, g, q) :: (c ++ c2))).nms := fun y => (permP (c := c ++ c2) permLL.symm).mem_iff
    have nd1 : (plug (nf (nf q g s) u (nf A x B)) (c ++ c2)).nms.Nodup := (permP (c := c ++ c2) permLL.symm).nodup_iff.mpr nd'
    have ho1 := ho.lift L1 em hp
    obtain ⟨r2, L2⟩ := turnRR (A := A) (B := B) (x := x) (u := u) (s := nf q g s) r1 nd1 ho1
    have em2 : ∀ y, y ∈ (plug (nf (nf (nf q g s) u A) x B) (c ++ c2)).nms ↔ y ∈ (plug (nf A x B) ((false, u, nf q g s) :: (c ++ c2))).nms := fun y => (permP (c := c ++ c2) permLL.symm).mem_iff
    have nd2 : (plug (nf (nf (nf q g s) u A) x B) (c ++ c2)).nms.Nodup := (permP (c := c ++ c2) permLL.symm).nodup_iff.mpr nd1
    have ho2 := ho1.lift L2 em2 fun q e z => hp q e ((em q).mp z)
    obtain ⟨S', e1, e2, e3⟩ := lift_rep (c1 := c) r2 nd2 ho2 fun q e z => hp q e ((em q).mp ((em2 q).mp z))
    have L12 := L1.trans L2 em
    refine ⟨S', lift_step t1 (by rw [t2]; exact ctop_not uc) hn (tq2 t3 (not_top (t := nf A x B) (b := false) (s := nf q g s) (c := c ++ c2) r1 rfl).2.1) (Lk.lift_more e1), e2, (L12.trans e3 fun y => (em2 y).trans (em y)).1, ?_, ?_, ?_⟩
    · exact (L12.trans e3 fun y => (em2 y).trans (em y)).t
    · rw [(L12.trans e3 fun y => (em2 y).trans (em y)).lk]
      show _ = S.lk + ((splayT (nf (nf q g s) u A) x B c).2.length + 1 + 1)
      omega
    · exact (L12.trans e3 fun y => (em2 y).trans (em y)).out
/-- each name of a tree stands in it somewhere -/
def flat : Tr N → Bool
  | .nil => true
  | .nd tw l _ r => !tw && flat l && flat r
theorem flat_find : ∀ {T : Tr N} {x : N}, flat T = true → x ∈ T.nms → ∀ c : Cz N, ∃ A B d, plug T c = plug (nf A x B) (d ++ c) ∧ d.length < T.nms.length
  | .nd tw l y r, x, f, m, c => by
    have f : (!tw && flat l && flat r) = true := f
    rw [Bool.and_eq_true, Bool.and_eq_true] at f
    obtain ⟨⟨f1, f2⟩, f3⟩ := f
    have tf : tw = false := by
      cases tw
      · rfl
      · exact absurd f1 (by decide)
    subst tf
    have e : (Tr.nd false l y r).nms.length = l.nms.length + (r.nms.length + 1) := by
      show (l.nms ++ y :: r.nms).length = _
      rw [List.length_append, List.length_cons]
    rcases List.mem_append.mp m with m | m
    · obtain ⟨A, B, d, h, k⟩ := flat_find f2 m ((true, y, r) :: c)
      exact ⟨A, B, d ++ [(true, y, r)], by rw [List.append_assoc]; exact h, by rw [List.length_append, e]; show d.length + 1 < _; omega⟩
    · rcases List.mem_cons.mp m with rfl | m
      · exact ⟨l, r, [], rfl, by rw [e]; show 0 < _; omega⟩
      · obtain ⟨A, B, d, h, k⟩ := flat_find f3 m ((false, y, l) :: c)
        exact ⟨A, B, d ++ [(false, y, l)], by rw [List.append_assoc]; exact h, by rw [List.length_append, e]; show d.length + 1 < _; omega⟩
def flatC : Cz N → Bool
  | [] => true
  | (_, _, s) :: c => flat s && flatC c
theorem flat_plug : ∀ {c : Cz N} {t : Tr N}, flat (plug t c) = (flat t && flatC c)
  | [], t => by
    show flat t = (flat t && true)
    rw [Bool.and_true]
  | (true, u, s) :: c, t => by
    refine (flat_plug (c := c) (t := .nd false t u s)).trans ?_
    show ((true && flat t && flat s) && flatC c) = (flat t && (flat s && flatC c))
    rw [Bool.true_and, Bool.and_assoc]
  | (false, u, s) :: c, t => by
    refine (flat_plug (c := c) (t := .nd false s u t)).trans ?_
    show ((true && flat s && flat t) && flatC c) = (flat t && (flat s && flatC c))
    rw [Bool.true_and]
    cases flat s <;> cases flat t <;> rfl
theorem flat_splay : ∀ {c : Cz N} {A B : Tr N} {x : N}, flat (splayT A x B c).1 = (flat A && flat B && flatC c)
  | [], A, B, x => by
    show (true && flat A && flat B) = (flat A && flat B && true)
    rw [Bool.true_and, Bool.and_true]
  | [(true, u, s)], A, B, x => by
    show (true && flat A && (true && flat B && flat s)) = (flat A && flat B && (flat s && true))
    cases flat A <;> cases flat B <;> cases flat s <;> rfl
  | [(false, u, s)], A, B, x => by
    show (true && (true && flat s && flat A) && flat B) = (flat A && flat B && (flat s && true))
    cases flat A <;> cases flat B <;> cases flat s <;> rfl
  | (true, u, s) :: (true, g, q) :: c, A, B, x => by
    refine (flat_splay (c := c) (A := A) (B := nf B u (nf s g q)) (x := x)).trans ?_
    show (flat A && (true && flat B && (true && flat s && flat q)) && flatC c) = (flat A && flat B && (flat s && (flat q && flatC c)))
    cases flat A <;> cases flat B <;> cases flat s <;> cases flat q <;> rfl
  | (true, u, s) :: (false, g, q) :: c, A, B, x => by
    refine (flat_splay (c := c) (A := nf q g A) (B := nf B u s) (x := x)).trans ?_
    show ((true && flat q && flat A) && (true && flat B && flat s) && flatC c) = (flat A && flat B && (flat s && (flat q && flatC c)))
    cases flat A <;> cases flat B <;> cases flat s <;> cases flat q <;> rfl
  | (false, u, s) :: (true, g, q) :: c, A, B, x => by
    refine (flat_splay (c := c) (A := nf s u A) (B := nf B g q) (x := x)).trans ?_
    show ((true && flat s && flat A) && (true && flat B && flat q) && flatC c) = (flat A && flat B && (flat s && (flat q && flatC c)))
    cases flat A <;> cases flat B <;> cases flat s <;> cases flat q <;> rfl
  | (false, u, s) :: (false, g, q) :: c, A, B, x => by
    refine (flat_splay (c := c) (A := nf (nf q g s) u A) (B := B) (x := x)).trans ?_
    show ((true && (true && flat q && flat s) && flat A) && flat B && flatC c) = (flat A && flat B && (flat s && (flat q && flatC c)))
    cases flat A <;> cases flat B <;> cases flat s <;> cases flat q <;> rfl
end

/-! ### what is turned, the way up, the order (pure) -/
section
variable {N : Type} [DecidableEq N]
def Lk.below (S : Lk N) (x : N) : List N := [S.l x, S.r x].filterMap id
def flips (t : N → Bool) (ys : List N) : N → Bool := ys.foldl (fun t y => up1 t y (!t y)) t
def Lk.swap (S : Lk N) (x : N) : Lk N := { S with l := up1 S.l x (S.r x), r := up1 S.r x (S.l x), t := up1 S.t x false }
def Lk.push (S : Lk N) (x : N) : Lk N := if S.t x = true then { S.swap x with t := flips (S.swap x).t ((S.swap x).below x) } else S
/-- x and those above it in its tree -/
def Lk.path : Nat → Lk N → N → Option (List N)
  | 0, _, _ => none
  | k + 1, S, x => if S.isTop x then some [x] else match S.a x with
    | none => some [x]
    | some u => (Lk.path k S u).map (x :: ·)
def Lk.pushes (S : Lk N) (xs : List N) : Lk N := xs.foldl Lk.push S
/-- the names in order: w those that wait, the last one first -/
def Lk.io : Nat → Lk N → Option N → List N → List N → Option (Lk N × List N)
  | 0, _, _, _, _ => none
  | k + 1, S, some x, w, ns => Lk.io k (S.push x) ((S.push x).l x) (x :: w) ns
  | k + 1, S, none, x :: w, ns => Lk.io k S (S.r x) w (ns ++ [x])
  | _ + 1, S, none, [], ns => some (S, ns)
theorem Lk.push_flat {S : Lk N} {x : N} (h : S.t x = false) : S.push x = S := by
  unfold Lk.push
  rw [if_neg (by rw [h]; decide)]
theorem Lk.pushes_flat {S : Lk N} : ∀ {xs : List N}, (∀ x ∈ xs, S.t x = false) → S.pushes xs = S
  | [], _ => rfl
  | x :: xs, h => by
    show (S.push x).pushes xs = S
    rw [Lk.push_flat (h x List.mem_cons_self)]
    exact Lk.pushes_flat fun y m => h y (List.mem_cons_of_mem _ m)
theorem path_rep {S : Lk N} {p : Option N} : ∀ {c : Cz N} {t : Tr N} {x : N}, Rep S p (plug t c) → t.root = some x → OutT S p (plug t c) → ∃ xs, S.path (c.length + 1) x = some xs ∧ ∀ y ∈ xs, y = x ∨ y ∈ cnm c
  | [], t, x, h, e, ho => ⟨[x], by
      unfold Lk.path
      rw [if_pos (is_top h e ho)], fun y m => .inl (List.mem_singleton.mp m)⟩
  | (b, u, s) :: c, t, x, h, e, ho => by
    obtain ⟨t1, t2, _⟩ := not_top h e
    have go : ∀ t' : Tr N, plug t ((b, u, s) :: c) = plug t' c → t'.root = some u → ∃ xs, S.path (c.length + 1) u = some xs ∧ ∀ y ∈ xs, y = u ∨ y ∈ cnm c := fun t' et er => path_rep (et ▸ h) er (et ▸ ho)
    have q : ∃ xs, S.path (c.length + 1) u = some xs ∧ ∀ y ∈ xs, y = u ∨ y ∈ cnm c := by
      cases b with
      | true => exact go (.nd false t u s) rfl rfl
      | false => exact go (.nd false s u t) rfl rfl
    obtain ⟨xs, h1, h2⟩ := q
    refine ⟨x :: xs, ?_, fun y m => ?_⟩
    · show Lk.path (c.length + 1 + 1) S x = _
      unfold Lk.path
      rw [if_neg (by rw [t1]; decide), t2]
      show (Lk.path (c.length + 1) S u).map (x :: ·) = _
      rw [h1]
      rfl
    · rcases List.mem_cons.mp m with e | m
      · exact .inl e
      · rcases h2 y m with e | m
        · exact .inr (e ▸ List.mem_cons_self)
        · exact .inr (List.mem_cons_of_mem _ (List.mem_append_right _ m))
theorem Lk.path_more : ∀ {k : Nat} {S : Lk N} {x : N} {xs : List N}, S.path k x = some xs → S.path (k + 1) x = some xs
  | 0, _, _, _, h => nomatch h
  | k + 1, S, x, xs, h => by
    unfold Lk.path at h ⊢
    by_cases c : S.isTop x = true
    · rw [if_pos c] at h ⊢
      exact h
    · rw [if_neg c] at h ⊢
      cases e : S.a x with
      | none =>
        rw [e] at h
        exact h
      | some u =>
        rw [e] at h
        have h : (Lk.path k S u).map (x :: ·) = some xs := h
        show (Lk.path (k + 1) S u).map (x :: ·) = some xs
        cases e2 : Lk.path k S u with
        | none =>
          rw [e2] at h
          exact nomatch h
        | some ys =>
          rw [Lk.path_more e2]
          rw [e2] at h
          exact h
theorem Lk.path_le {k m : Nat} {S : Lk N} {x : N} {xs : List N} (h : S.path k x = some xs) (le : k ≤ m) : S.path m x = some xs := by
  induction le with
  | refl => exact h
  | step _ ih => exact Lk.path_more ih
def Tr.cost : Tr N → Nat
  | .nil => 0
  | .nd _ l _ r => l.cost + r.cost + 2
theorem Tr.cost_eq : ∀ T : Tr N, T.cost = 2 * T.nms.length
  | .nil => rfl
  | .nd tw l x r => by
    show l.cost + r.cost + 2 = 2 * (l.nms ++ x :: r.nms).length
    rw [l.cost_eq, r.cost_eq, List.length_append, List.length_cons]
    omega
theorem io_flat {S : Lk N} : ∀ {T : Tr N} {p : Option N}, Rep S p T → flat T = true → ∀ (k : Nat) (w ns : List N), S.io (k + T.cost) T.root w ns = S.io k none w (ns ++ T.ord)
  | .nil, _, _, _, k, w, ns => by
    show S.io k none w ns = S.io k none w (ns ++ [])
    rw [List.append_nil]
  | .nd tw l x r, p, h, f, k, w, ns => by
    obtain ⟨h1, h2, h3, h4, h5, hl, hr⟩ := h
    have f : (!tw && flat l && flat r) = true := f
    rw [Bool.and_eq_true, Bool.and_eq_true] at f
    obtain ⟨⟨f1, f2⟩, f3⟩ := f
    have tf : tw = false := by
      cases tw
      · rfl
      · exact absurd f1 (by decide)
    subst tf
    have e : k + (Tr.nd false l x r).cost = (k + r.cost + 1) + l.cost + 1 := by
      show k + (l.cost + r.cost + 2) = _
      omega
    rw [e]
    show S.io ((k + r.cost + 1) + l.cost + 1) (some x) w ns = _
    rw [show S.io ((k + r.cost + 1) + l.cost + 1) (some x) w ns = (S.push x).io ((k + r.cost + 1) + l.cost) ((S.push x).l x) (x :: w) ns from rfl, Lk.push_flat h2, h3, io_flat hl f2 _ _ _]
    show S.io (k + r.cost) (S.r x) w (ns ++ l.ord ++ [x]) = _
    rw [h4, io_flat hr f3 _ _ _]
    show _ = S.io k none w (ns ++ (l.ord ++ x :: r.ord))
    simp only [List.append_assoc, List.cons_append, List.nil_append]
theorem io_all {S : Lk N} {T : Tr N} {p : Option N} (h : Rep S p T) (f : flat T = true) : S.io (T.cost + 1) T.root [] [] = some (S, T.ord) := by
  rw [Nat.add_comm, io_flat h f]
  rfl
theorem flat_t {S : Lk N} : ∀ {T : Tr N} {p : Option N}, Rep S p T → flat T = true → ∀ x ∈ T.nms, S.t x = false
  | .nd tw l x r, p, h, f, y, m => by
    obtain ⟨h1, h2, h3, h4, h5, hl, hr⟩ := h
    have f : (!tw && flat l && flat r) = true := f
    rw [Bool.and_eq_true, Bool.and_eq_true] at f
    obtain ⟨⟨f1, f2⟩, f3⟩ := f
    rcases List.mem_append.mp m with m | m
    · exact flat_t hl f2 y m
    · rcases List.mem_cons.mp m with rfl | m
      · rw [h2]
        cases tw
        · rfl
        · exact absurd f1 (by decide)
      · exact flat_t hr f3 y m
end
section
variable {N : Type} [DecidableEq N]
theorem turnsQ_at : ∀ {ys : List N} {S S1 : Lk N}, S.turnsQ ys = some S1 → ∀ {i : Nat} {y : N}, ys[i]? = some y → ∃ Si u, S.turnsQ (ys.take i) = some Si ∧ Si.a y = some u ∧ S.turnsQ (ys.take (i + 1)) = some (Si.turn y)
  | z :: ys, S, S1, h, i, y, hy => by
    have h : (if (S.a z).isSome = true then (S.turn z).turnsQ ys else none) = some S1 := h
    by_cases c : (S.a z).isSome = true
    · rw [if_pos c] at h
      cases i with
      | zero =>
        cases hy
        obtain ⟨u, hu⟩ := Option.isSome_iff_exists.mp c
        exact ⟨S, u, rfl, hu, tq1 hu⟩
      | succ i =>
        obtain ⟨Si, u, h1, h2, h3⟩ := turnsQ_at h hy
        have e : ∀ zs, S.turnsQ (z :: zs) = (S.turn z).turnsQ zs := fun zs => if_pos c
        exact ⟨Si, u, (e _).trans h1, h2, (e _).trans h3⟩
    · rw [if_neg c] at h
      exact nomatch h
end
section
variable {N : Type} [DecidableEq N]
/-- what is named is there -/
def Cl (S : Lk N) : Prop := ∀ x ∈ S.ns, (∀ y, S.l x = some y → y ∈ S.ns) ∧ (∀ y, S.r x = some y → y ∈ S.ns) ∧ (∀ y, S.a x = some y → y ∈ S.ns)
theorem cl_setL {S : Lk N} {x : N} {y : Option N} (h : Cl S) (m : x ∈ S.ns) (my : ∀ z, y = some z → z ∈ S.ns) : Cl (S.setL x y) := fun z mz => by
  have mz : z ∈ S.ns := mz
  obtain ⟨h1, h2, h3⟩ := h z mz
  refine ⟨fun v e => ?_, h2, fun v e => ?_⟩
  · have e : up1 S.l x y z = some v := e
    by_cases c : z = x
    · rw [c, up1_same] at e
      exact my v e
    · rw [up1_ne c] at e
      exact h1 v e
  · have e : upO S.a y (some x) z = some v := e
    by_cases c : some z = y
    · rw [← c, upO_same] at e
      cases e
      exact m
    · rw [upO_ne c] at e
      exact h3 v e
theorem cl_setR {S : Lk N} {x : N} {y : Option N} (h : Cl S) (m : x ∈ S.ns) (my : ∀ z, y = some z → z ∈ S.ns) : Cl (S.setR x y) := fun z mz => by
  have mz : z ∈ S.ns := mz
  obtain ⟨h1, h2, h3⟩ := h z mz
  refine ⟨h1, fun v e => ?_, fun v e => ?_⟩
  · have e : up1 S.r x y z = some v := e
    by_cases c : z = x
    · rw [c, up1_same] at e
      exact my v e
    · rw [up1_ne c] at e
      exact h2 v e
  · have e : upO S.a y (some x) z = some v := e
    by_cases c : some z = y
    · rw [← c, upO_same] at e
      cases e
      exact m
    · rw [upO_ne c] at e
      exact h3 v e
theorem up1_mem {ns : List N} {f : N → Option N} {x z v : N} {y : Option N} (hf : f z = some v → v ∈ ns) (hy : y = some v → v ∈ ns) (e : up1 f x y z = some v) : v ∈ ns := by
  by_cases c : z = x
  · rw [c, up1_same] at e
    exact hy e
  · rw [up1_ne c] at e
    exact hf e
theorem cl_inPlace {S : Lk N} {x u : N} (h : Cl S) (m : x ∈ S.ns) (mu : u ∈ S.ns) : Cl (S.inPlace x u) := fun z mz => by
  have mz : z ∈ S.ns := mz
  obtain ⟨h1, h2, h3⟩ := h z mz
  refine ⟨fun v e => ?_, fun v e => ?_, fun v e => ?_⟩
  · have e : (match S.a u with | none => S.l | some o => if S.l o = some u then up1 S.l o (some x) else S.l) z = some v := e
    cases ea : S.a u with
    | none =>
      rw [ea] at e
      exact h1 v e
    | some o =>
      rw [ea] at e
      have e : (if S.l o = some u then up1 S.l o (some x) else S.l) z = some v := e
      by_cases c : S.l o = some u
      · rw [if_pos c] at e
        exact up1_mem (h1 v) (fun q => by cases q; exact m) e
      · rw [if_neg c] at e
        exact h1 v e
  · have e : (match S.a u with | none => S.r | some o => if S.l o = some u then S.r else if S.r o = some u then up1 S.r o (some x) else S.r) z = some v := e
    cases ea : S.a u with
    | none =>
      rw [ea] at e
      exact h2 v e
    | some o =>
      rw [ea] at e
      have e : (if S.l o = some u then S.r else if S.r o = some u then up1 S.r o (some x) else S.r) z = some v := e
      by_cases c : S.l o = some u
      · rw [if_pos c] at e
        exact h2 v e
      · rw [if_neg c] at e
        by_cases c2 : S.r o = some u
        · rw [if_pos c2] at e
          exact up1_mem (h2 v) (fun q => by cases q; exact m) e
        · rw [if_neg c2] at e
          exact h2 v e
  · exact up1_mem (h3 v) (fun q => (h u mu).2.2 v q) (show up1 S.a x (S.a u) z = some v from e)
theorem cl_turn {S : Lk N} {x u : N} (h : Cl S) (m : x ∈ S.ns) (e : S.a x = some u) : Cl (S.turn x) ∧ (S.turn x).ns = S.ns := by
  have mu : u ∈ S.ns := (h x m).2.2 u e
  have c1 : Cl ({ S with lk := S.lk + 1 }.inPlace x u) := cl_inPlace (S := { S with lk := S.lk + 1 }) h m mu
  unfold Lk.turn
  rw [e]
  show Cl (S.turn1 x u) ∧ (S.turn1 x u).ns = S.ns
  unfold Lk.turn1
  dsimp only
  split
  · exact ⟨cl_setR (cl_setL c1 mu fun z q => (c1 x m).2.1 z q) m fun z q => by cases q; exact mu, rfl⟩
  · exact ⟨cl_setL (cl_setR c1 mu fun z q => (c1 x m).1 z q) m fun z q => by cases q; exact mu, rfl⟩
theorem cl_push {S : Lk N} {x : N} (h : Cl S) (m : x ∈ S.ns) : Cl (S.push x) ∧ (S.push x).ns = S.ns := by
  unfold Lk.push
  split
  · refine ⟨fun z mz => ?_, rfl⟩
    have mz : z ∈ S.ns := mz
    obtain ⟨h1, h2, h3⟩ := h z mz
    exact ⟨fun v e => up1_mem (h1 v) (fun q => (h x m).2.1 v q) e, fun v e => up1_mem (h2 v) (fun q => (h x m).1 v q) e, h3⟩
  · exact ⟨h, rfl⟩
theorem cl_pushes : ∀ {xs : List N} {S : Lk N}, Cl S → (∀ x ∈ xs, x ∈ S.ns) → Cl (S.pushes xs) ∧ (S.pushes xs).ns = S.ns
  | [], S, h, _ => ⟨h, rfl⟩
  | x :: xs, S, h, k => by
    obtain ⟨c1, c2⟩ := cl_push h (k x List.mem_cons_self)
    obtain ⟨d1, d2⟩ := cl_pushes (xs := xs) c1 fun y m => by rw [c2]; exact k y (List.mem_cons_of_mem _ m)
    exact ⟨d1, d2.trans c2⟩
theorem path_mem : ∀ {k : Nat} {S : Lk N} {x : N} {xs : List N}, S.path k x = some xs → Cl S → x ∈ S.ns → ∀ y ∈ xs, y ∈ S.ns
  | 0, _, _, _, h, _, _, _, _ => nomatch h
  | k + 1, S, x, xs, h, cl, m, y, my => by
    unfold Lk.path at h
    by_cases c : S.isTop x = true
    · rw [if_pos c] at h
      cases h
      rw [List.mem_singleton.mp my]
      exact m
    · rw [if_neg c] at h
      cases e : S.a x with
      | none =>
        rw [e] at h
        cases h
        rw [List.mem_singleton.mp my]
        exact m
      | some u =>
        rw [e] at h
        have h : (S.path k u).map (x :: ·) = some xs := h
        obtain ⟨ys, hy, rfl⟩ := Option.map_eq_some_iff.mp h
        rcases List.mem_cons.mp my with rfl | my
        · exact m
        · exact path_mem hy cl ((cl x m).2.2 u e) y my
theorem next_mem {S : Lk N} {x y : N} {goal : Option N} (cl : Cl S) (m : x ∈ S.ns) (h : y ∈ S.next x goal) : y ∈ S.ns := by
  unfold Lk.next at h
  cases e : S.a x with
  | none =>
    rw [e] at h
    rw [List.mem_singleton.mp h]
    exact m
  | some u =>
    rw [e] at h
    have h : y ∈ (if (S.isTop u || decide (S.a u = goal)) = true then [x] else match S.a u with | none => [x] | some o => if decide (S.l u = some x) = decide (S.l o = some u) then [u, x] else [x, x]) := h
    have one : ∀ {z : N}, z ∈ [u, x] → z ∈ S.ns := fun {z} mz => by
      rcases List.mem_cons.mp mz with rfl | mz
      · exact (cl x m).2.2 _ e
      · rw [List.mem_singleton.mp mz]
        exact m
    have two : ∀ {z : N}, z ∈ [x] → z ∈ S.ns := fun {z} mz => one (List.mem_cons_of_mem _ mz)
    split at h
    · exact two h
    · cases e2 : S.a u with
      | none =>
        rw [e2] at h
        exact two h
      | some o =>
        rw [e2] at h
        have h : y ∈ (if decide (S.l u = some x) = decide (S.l o = some u) then [u, x] else [x, x]) := h
        split at h
        · exact one h
        · rcases List.mem_cons.mp h with rfl | h
          · exact m
          · exact two h
end

/-! ### turned otherwise: a tree's own turns -/
section
variable {N : Type} [DecidableEq N]
/-- x stands below u, u below another one or none: no name twice -/
structure Tidy (S : Lk N) (x u : N) : Prop where
  ax : S.a x = some u
  one : S.l u = some x ∨ S.r u = some x
  not2 : ¬ (S.l u = some x ∧ S.r u = some x)
  up : ∀ g, S.a u = some g → g ≠ u ∧ g ≠ x ∧ ¬ (S.l g = some u ∧ S.r g = some u)
  lx : S.l x ≠ some u
  rx : S.r x ≠ some u
  ne : x ≠ u
def Lk.lturn1 (S : Lk N) (x u : N) (side : Bool) : Lk N :=
  { S with
    l := if side then up1 (match S.a u with | none => S.l | some g => if S.r g = some u then S.l else if S.l g = some u then up1 S.l g (some x) else S.l) x (some u)
         else up1 (match S.a u with | none => S.l | some g => if S.r g = some u then S.l else if S.l g = some u then up1 S.l g (some x) else S.l) u (S.r x)
    r := if side then up1 (match S.a u with | none => S.r | some g => if S.r g = some u then up1 S.r g (some x) else S.r) u (S.l x)
         else up1 (match S.a u with | none => S.r | some g => if S.r g = some u then up1 S.r g (some x) else S.r) x (some u)
    a := upO (up1 (up1 S.a x (S.a u)) u (some x)) (if side then S.l x else S.r x) (some u) }
def Lk.lturn (S : Lk N) (x : N) : Lk N := match S.a x with | none => S | some u => S.lturn1 x u (decide (S.r u = some x))
/-- once x stands where u was -/
def Lk.plc (S : Lk N) (x u : N) : Lk N :=
  { S with
    l := match S.a u with | none => S.l | some g => if S.r g = some u then S.l else if S.l g = some u then up1 S.l g (some x) else S.l
    r := match S.a u with | none => S.r | some g => if S.r g = some u then up1 S.r g (some x) else S.r }
theorem lturn1_plc (S : Lk N) (x u : N) (b : Bool) : S.lturn1 x u b = if b then
    { S.plc x u with l := up1 (S.plc x u).l x (some u), r := up1 (S.plc x u).r u (S.l x), a := upO (up1 (up1 S.a x (S.a u)) u (some x)) (S.l x) (some u) }
    else { S.plc x u with l := up1 (S.plc x u).l u (S.r x), r := up1 (S.plc x u).r x (some u), a := upO (up1 (up1 S.a x (S.a u)) u (some x)) (S.r x) (some u) } := by
  cases b <;> rfl
theorem up_comm {α : Type} {f : N → α} {u : N} {b : Option N} {v w : α} (h : b ≠ some u) : upO (up1 f u v) b w = up1 (upO f b w) u v := by
  funext z
  cases b with
  | none => rfl
  | some b =>
    show up1 (up1 f u v) b w z = up1 (up1 f b w) u v z
    by_cases e1 : z = b
    · subst e1
      rw [up1_same, up1_ne fun e => h (by rw [e]), up1_same]
    · rw [up1_ne e1]
      by_cases e2 : z = u
      · subst e2
        rw [up1_same, up1_same]
      · rw [up1_ne e2, up1_ne e2, up1_ne e1]
theorem lturn_eq {S : Lk N} {x u : N} (t : Tidy S x u) : (S.lturn x).l = (S.turn x).l ∧ (S.lturn x).r = (S.turn x).r ∧ (S.lturn x).a = (S.turn x).a ∧ (S.turn x).t = S.t ∧ (S.turn x).ns = S.ns ∧ (S.turn x).lk = S.lk + 1 := by
  have el : (S.inPlace x u).l = match S.a u with | none => S.l | some g => if S.r g = some u then S.l else if S.l g = some u then up1 S.l g (some x) else S.l := by
    show (match S.a u with | none => S.l | some o => if S.l o = some u then up1 S.l o (some x) else S.l) = _
    cases e : S.a u with
    | none => rfl
    | some g =>
      obtain ⟨g1, g2, g3⟩ := t.up g e
      dsimp only
      by_cases c : S.r g = some u
      · rw [if_pos c, if_neg fun z => g3 ⟨z, c⟩]
      · rw [if_neg c]
  have er : (S.inPlace x u).r = match S.a u with | none => S.r | some g => if S.r g = some u then up1 S.r g (some x) else S.r := by
    show (match S.a u with | none => S.r | some o => if S.l o = some u then S.r else if S.r o = some u then up1 S.r o (some x) else S.r) = _
    cases e : S.a u with
    | none => rfl
    | some g =>
      obtain ⟨g1, g2, g3⟩ := t.up g e
      dsimp only
      by_cases c : S.r g = some u
      · rw [if_pos c, if_neg fun z => g3 ⟨z, c⟩]
      · rw [if_neg c]
        split <;> rfl
  have elu : (S.inPlace x u).l u = S.l u := by
    rw [el]
    cases e : S.a u with
    | none => rfl
    | some g =>
      obtain ⟨g1, g2, g3⟩ := t.up g e
      dsimp only
      split
      · rfl
      · split
        · exact up1_ne g1.symm
        · rfl
  have elx : (S.inPlace x u).l x = S.l x := by
    rw [el]
    cases e : S.a u with
    | none => rfl
    | some g =>
      obtain ⟨g1, g2, g3⟩ := t.up g e
      dsimp only
      split
      · rfl
      · split
        · exact up1_ne g2.symm
        · rfl
  have erx : (S.inPlace x u).r x = S.r x := by
    rw [er]
    cases e : S.a u with
    | none => rfl
    | some g =>
      obtain ⟨g1, g2, g3⟩ := t.up g e
      dsimp only
      split
      · exact up1_ne g2.symm
      · rfl
  have d1 : S.turn x = S.turn1 x u := by
    unfold Lk.turn
    rw [t.ax]
  have d2 : S.lturn x = S.lturn1 x u (decide (S.r u = some x)) := by
    unfold Lk.lturn
    rw [t.ax]
  rw [d1, d2]
  by_cases c : S.r u = some x
  · have c2 : ¬ S.l u = some x := fun z => t.not2 ⟨z, c⟩
    have e0 : S.turn1 x u = (({ S with lk := S.lk + 1 }.inPlace x u).setR u (({ S with lk := S.lk + 1 }.inPlace x u).l x)).setL x (some u) := if_neg (show ¬ (S.inPlace x u).l u = some x by rw [elu]; exact c2)
    rw [e0, decide_eq_true c]
    refine ⟨?_, ?_, ?_, rfl, rfl, rfl⟩
    · show up1 _ x (some u) = up1 (S.inPlace x u).l x (some u)
      rw [el]
    · show up1 _ u (S.l x) = up1 (S.inPlace x u).r u ((S.inPlace x u).l x)
      rw [er, elx]
    · show upO (up1 (up1 S.a x (S.a u)) u (some x)) (S.l x) (some u) = up1 (upO (up1 S.a x (S.a u)) ((S.inPlace x u).l x) (some u)) u (some x)
      rw [elx]
      exact up_comm t.lx
  · have c2 : S.l u = some x := t.one.resolve_right c
    have e0 : S.turn1 x u = (({ S with lk := S.lk + 1 }.inPlace x u).setL u (({ S with lk := S.lk + 1 }.inPlace x u).r x)).setR x (some u) := if_pos (show (S.inPlace x u).l u = some x by rw [elu]; exact c2)
    rw [e0, decide_eq_false c]
    refine ⟨?_, ?_, ?_, rfl, rfl, rfl⟩
    · show up1 _ u (S.r x) = up1 (S.inPlace x u).l u ((S.inPlace x u).r x)
      rw [el, erx]
    · show up1 _ x (some u) = up1 (S.inPlace x u).r x (some u)
      rw [er]
    · show upO (up1 (up1 S.a x (S.a u)) u (some x)) (S.r x) (some u) = up1 (upO (up1 S.a x (S.a u)) ((S.inPlace x u).r x) (some u)) u (some x)
      rw [erx]
      exact up_comm t.rx
theorem tidy_of {S : Lk N} {p : Option N} {A B s : Tr N} {x u : N} {b : Bool} {c : Cz N} (h : Rep S p (plug (nf A x B) ((b, u, s) :: c))) (nd : (plug (nf A x B) ((b, u, s) :: c)).nms.Nodup) (ho : OutT S p (plug (nf A x B) ((b, u, s) :: c))) (hp : ∀ q, p = some q → q ∉ (plug (nf A x B) ((b, u, s) :: c)).nms) : Tidy S x u := by
  obtain ⟨n1, n2, n3⟩ := nd_ctx nd
  obtain ⟨nx1, nx2, nx3⟩ := n3 x (List.mem_append_right _ List.mem_cons_self)
  obtain ⟨⟨_, _, hl, hr, ha, _, _⟩, _, _, hu3, hu4, _, hc⟩ := rep_plug.mp h
  have mu : u ∈ (plug (nf A x B) ((b, u, s) :: c)).nms := plug_perm.mem_iff.mpr (List.mem_append_right _ List.mem_cons_self)
  have mx : x ∈ (plug (nf A x B) ((b, u, s) :: c)).nms := plug_perm.mem_iff.mpr (List.mem_append_left _ (List.mem_append_right _ List.mem_cons_self))
  have ns : s.root ≠ some x := root_ne nx2
  have nA : A.root ≠ some u := fun e => (n3 u (List.mem_append_left _ (Tr.root_mem e))).1 rfl
  have nB : B.root ≠ some u := fun e => (n3 u (List.mem_append_right _ (List.mem_cons_of_mem _ (Tr.root_mem e)))).1 rfl
  refine ⟨ha, ?_, ?_, ?_, by rw [hl]; exact nA, by rw [hr]; exact nB, nx1⟩
  · cases b with
    | true => exact .inl hu3.1
    | false => exact .inr hu3.2
  · rintro ⟨e1, e2⟩
    cases b with
    | true => exact ns (hu3.2.symm.trans e2)
    | false => exact ns (hu3.1.symm.trans e1)
  · intro g eg
    rw [hu4] at eg
    cases c with
    | nil =>
      refine ⟨fun e => hp g eg (e ▸ mu), fun e => hp g eg (e ▸ mx), fun z => (ho g eg u mu).1 z.1⟩
    | cons f c' =>
      obtain ⟨b', g', q⟩ := f
      cases eg
      have ng : g ∈ cnm ((b', g, q) :: c') := List.mem_cons_self
      have nq : q.root ≠ some u := root_ne fun m => n2 (List.mem_cons_of_mem _ (List.mem_append_left _ m))
      refine ⟨fun (e : g = u) => n2 (e ▸ ng), fun (e : g = x) => nx3 (e ▸ ng), ?_⟩
      rintro ⟨e1, e2⟩
      obtain ⟨_, _, h3, _, _, _⟩ := hc
      cases b' with
      | true => exact nq (h3.2.symm.trans e2)
      | false => exact nq (h3.1.symm.trans e1)
/-- two turns of a lift -/
theorem two_turns {S : Lk N} {p : Option N} {A B s q : Tr N} {x u g : N} {b1 b2 : Bool} {c : Cz N} (h : Rep S p (plug (nf A x B) ((b1, u, s) :: (b2, g, q) :: c))) (nd : (plug (nf A x B) ((b1, u, s) :: (b2, g, q) :: c)).nms.Nodup) (ho : OutT S p (plug (nf A x B) ((b1, u, s) :: (b2, g, q) :: c))) (hp : ∀ z, p = some z → z ∉ (plug (nf A x B) ((b1, u, s) :: (b2, g, q) :: c)).nms) :
    ∃ A' B' f u1 u2, f = (if decide (S.l u = some x) = decide (S.l g = some u) then u else x) ∧ splayT A x B ((b1, u, s) :: (b2, g, q) :: c) = ((splayT A' x B' c).1, f :: x :: (splayT A' x B' c).2) ∧ Tidy S f u1 ∧ Tidy (S.turn f) x u2 ∧ Rep ((S.turn f).turn x) p (plug (nf A' x B') c) ∧ Lifted S ((S.turn f).turn x) (plug (nf A x B) ((b1, u, s) :: (b2, g, q) :: c)) 2 ∧ (plug (nf A' x B') c).nms.Perm (plug (nf A x B) ((b1, u, s) :: (b2, g, q) :: c)).nms ∧ f ∈ (plug (nf A x B) ((b1, u, s) :: (b2, g, q) :: c)).nms := by
  obtain ⟨n1, n2, n3⟩ := nd_ctx nd
  have mu : u ∈ (plug (nf A x B) ((b1, u, s) :: (b2, g, q) :: c)).nms := plug_perm.mem_iff.mpr (List.mem_append_right _ List.mem_cons_self)
  have mx : x ∈ (plug (nf A x B) ((b1, u, s) :: (b2, g, q) :: c)).nms := plug_perm.mem_iff.mpr (List.mem_append_left _ (List.mem_append_right _ List.mem_cons_self))
  have lu : (if b1 then S.l u = some x ∧ S.r u = s.root else S.l u = s.root ∧ S.r u = some x) := (rep_plug.mp h).2.2.2.1
  have nx : s.root ≠ some x := root_ne (n3 x (List.mem_append_right _ List.mem_cons_self)).2.1
  cases b1 with
  | true =>
    have h' : Rep S p (plug (nf (nf A x B) u s) ((b2, g, q) :: c)) := h
    have nd' : (plug (nf (nf A x B) u s) ((b2, g, q) :: c)).nms.Nodup := nd
    have lg : (if b2 then S.l g = some u ∧ S.r g = q.root else S.l g = q.root ∧ S.r g = some u) := (rep_plug.mp h').2.2.2.1
    have nq : q.root ≠ some u := root_ne ((nd_ctx nd').2.2 u (List.mem_append_right _ List.mem_cons_self)).2.1
    cases b2 with
    | true =>
      obtain ⟨r1, L1⟩ := turnLL (A := nf A x B) (B := s) (x := u) (s := q) h' nd' ho
      have pm1 : (plug (nf (nf A x B) u (nf s g q)) c).nms.Perm (plug (nf (nf A x B) u s) ((true, g, q) :: c)).nms := permP (c := c) permLL
      have nd1 := pm1.nodup_iff.mpr nd'
      have ho1 := ho.lift L1 (fun y => pm1.mem_iff) hp
      have hp1 : ∀ z, p = some z → z ∉ (plug (nf (nf A x B) u (nf s g q)) c).nms := fun z e m => hp z e (pm1.mem_iff.mp m)
      obtain ⟨r2, L2⟩ := turnLL (A := A) (B := B) (x := x) (u := u) (s := nf s g q) r1 nd1 ho1
      have pm2 : (plug (nf A x (nf B u (nf s g q))) c).nms.Perm (plug (nf (nf A x B) u (nf s g q)) c).nms := permP (c := c) permLL
      refine ⟨A, nf B u (nf s g q), u, g, u, by rw [lu.1, lg.1, if_pos (by simp)], rfl, tidy_of (A := nf A x B) (B := s) (x := u) h' nd' ho hp, tidy_of (A := A) (B := B) (x := x) (b := true) (s := nf s g q) r1 nd1 ho1 hp1, r2, L1.trans L2 fun y => pm1.mem_iff, pm2.trans pm1, mu⟩
    | false =>
      obtain ⟨r1, L1⟩ := turnLL h nd ho
      have pm1 : (plug (nf A x (nf B u s)) ((false, g, q) :: c)).nms.Perm (plug (nf A x B) ((true, u, s) :: (false, g, q) :: c)).nms := permP (c := (false, g, q) :: c) permLL
      have nd1 := pm1.nodup_iff.mpr nd
      have ho1 := ho.lift L1 (fun y => pm1.mem_iff) hp
      have hp1 : ∀ z, p = some z → z ∉ (plug (nf A x (nf B u s)) ((false, g, q) :: c)).nms := fun z e m => hp z e (pm1.mem_iff.mp m)
      obtain ⟨r2, L2⟩ := turnRR (A := A) (B := nf B u s) (x := x) (u := g) (s := q) r1 nd1 ho1
      have pm2 : (plug (nf (nf q g A) x (nf B u s)) c).nms.Perm (plug (nf A x (nf B u s)) ((false, g, q) :: c)).nms := permP (c := c) permLL.symm
      refine ⟨nf q g A, nf B u s, x, u, g, by rw [lu.1, lg.1, if_neg (by simp [nq])], rfl, tidy_of h nd ho hp, tidy_of r1 nd1 ho1 hp1, r2, L1.trans L2 fun y => pm1.mem_iff, pm2.trans pm1, mx⟩
  | false =>
    have h' : Rep S p (plug (nf s u (nf A x B)) ((b2, g, q) :: c)) := h
    have nd' : (plug (nf s u (nf A x B)) ((b2, g, q) :: c)).nms.Nodup := nd
    have lg : (if b2 then S.l g = some u ∧ S.r g = q.root else S.l g = q.root ∧ S.r g = some u) := (rep_plug.mp h').2.2.2.1
    have nq : q.root ≠ some u := root_ne ((nd_ctx nd').2.2 u (List.mem_append_right _ List.mem_cons_self)).2.1
    cases b2 with
    | true =>
      obtain ⟨r1, L1⟩ := turnRR h nd ho
      have pm1 : (plug (nf (nf s u A) x B) ((true, g, q) :: c)).nms.Perm (plug (nf A x B) ((false, u, s) :: (true, g, q) :: c)).nms := permP (c := (true, g, q) :: c) permLL.symm
      have nd1 := pm1.nodup_iff.mpr nd
      have ho1 := ho.lift L1 (fun y => pm1.mem_iff) hp
      have hp1 : ∀ z, p = some z → z ∉ (plug (nf (nf s u A) x B) ((true, g, q) :: c)).nms := fun z e m => hp z e (pm1.mem_iff.mp m)
      obtain ⟨r2, L2⟩ := turnLL (A := nf s u A) (B := B) (x := x) (u := g) (s := q) r1 nd1 ho1
      have pm2 : (plug (nf (nf s u A) x (nf B g q)) c).nms.Perm (plug (nf (nf s u A) x B) ((true, g, q) :: c)).nms := permP (c := c) permLL
      refine ⟨nf s u A, nf B g q, x, u, g, by rw [lu.1, lg.1, if_neg (by simp [nx])], rfl, tidy_of h nd ho hp, tidy_of r1 nd1 ho1 hp1, r2, L1.trans L2 fun y => pm1.mem_iff, pm2.trans pm1, mx⟩
    | false =>
      obtain ⟨r1, L1⟩ := turnRR (A := s) (B := nf A x B) (x := u) (s := q) h' nd' ho
      have pm1 : (plug (nf (nf q g s) u (nf A x B)) c).nms.Perm (plug (nf s u (nf A x B)) ((false, g, q) :: c)).nms := permP (c := c) permLL.symm
      have nd1 := pm1.nodup_iff.mpr nd'
      have ho1 := ho.lift L1 (fun y => pm1.mem_iff) hp
      have hp1 : ∀ z, p = some z → z ∉ (plug (nf (nf q g s) u (nf A x B)) c).nms := fun z e m => hp z e (pm1.mem_iff.mp m)
      obtain ⟨r2, L2⟩ := turnRR (A := A) (B := B) (x := x) (u := u) (s := nf q g s) r1 nd1 ho1
      have pm2 : (plug (nf (nf (nf q g s) u A) x B) c).nms.Perm (plug (nf (nf q g s) u (nf A x B)) c).nms := permP (c := c) permLL.symm
      refine ⟨nf (nf q g s) u A, B, u, g, u, by rw [lu.1, lg.1, if_pos (by simp [nx, nq])], rfl, tidy_of (A := s) (B := nf A x B) (x := u) h' nd' ho hp, tidy_of (A := A) (B := B) (x := x) (b := false) (s := nf q g s) r1 nd1 ho1 hp1, r2, L1.trans L2 fun y => pm1.mem_iff, pm2.trans pm1, mu⟩
end
/-! ### the chain at first -/
def rgI (n : Nat) : List Int := (List.range n).map fun (k : Nat) => (k : Int)
theorem rgI_mem {n : Nat} {x : Int} : x ∈ rgI n ↔ 0 ≤ x ∧ x < n := by
  unfold rgI
  rw [List.mem_map]
  constructor
  · rintro ⟨k, mk, rfl⟩
    have := List.mem_range.mp mk
    omega
  · rintro ⟨h1, h2⟩
    exact ⟨x.toNat, List.mem_range.mpr (by omega), by omega⟩
theorem rgI_succ (n : Nat) : rgI (n + 1) = rgI n ++ [(n : Int)] := by
  unfold rgI
  rw [List.range_succ, List.map_append]
  rfl
theorem rgI_len (n : Nat) : (rgI n).length = n := by
  unfold rgI
  rw [List.length_map, List.length_range]
theorem rgI_up (n : Nat) : (rgI n).Pairwise (· < ·) := by
  unfold rgI
  rw [List.pairwise_map]
  exact List.pairwise_lt_range.imp fun h => by omega
theorem rgI_nd (n : Nat) : (rgI n).Nodup := (rgI_up n).imp fun h => by omega
def chainK (n : Nat) : Lk Int := ⟨rgI n, fun _ => none, fun x => if 0 ≤ x ∧ x + 1 < n then some (x + 1) else none, fun x => if 1 ≤ x ∧ x < n then some (x - 1) else none, fun _ => false, 0⟩
def chainT : Nat → Nat → Tr Int
  | _, 0 => .nil
  | k, m + 1 => nf .nil (k : Int) (chainT (k + 1) m)
theorem chainT_root (k m : Nat) : (chainT k m).root = if 0 < m then some (k : Int) else none := by
  cases m with
  | zero => rfl
  | succ m => rfl
theorem chain_rep {n : Nat} : ∀ {m k : Nat}, k + m = n → Rep (chainK n) (if 1 ≤ k then some ((k : Int) - 1) else none) (chainT k m)
  | 0, k, _ => trivial
  | m + 1, k, h => by
    have ih := chain_rep (n := n) (m := m) (k := k + 1) (by omega)
    rw [if_pos (by omega)] at ih
    refine ⟨rgI_mem.mpr (by omega), rfl, rfl, ?_, ?_, trivial, ?_⟩
    · rw [chainT_root]
      show (if 0 ≤ (k : Int) ∧ (k : Int) + 1 < n then some ((k : Int) + 1) else none) = _
      by_cases c : 0 < m
      · rw [if_pos (by omega), if_pos c]
        rfl
      · rw [if_neg (by omega), if_neg c]
    · show (if 1 ≤ (k : Int) ∧ (k : Int) < n then some ((k : Int) - 1) else none) = _
      by_cases c : 1 ≤ k
      · rw [if_pos (by omega), if_pos c]
      · rw [if_neg (by omega), if_neg c]
    · have e : (((k + 1 : Nat) : Int) - 1) = (k : Int) := by omega
      rw [e] at ih
      exact ih
theorem chain_nms : ∀ {m k : Nat}, (chainT k m).nms = (List.range' k m).map fun (j : Nat) => (j : Int)
  | 0, _ => rfl
  | m + 1, k => by
    show [] ++ (k : Int) :: (chainT (k + 1) m).nms = _
    rw [chain_nms, List.range'_succ]
    rfl
theorem chain_all (n : Nat) : (chainT 0 n).nms = rgI n := by
  rw [chain_nms]
  unfold rgI
  rw [List.range_eq_range']
theorem chain_flat : ∀ {m k : Nat}, flat (chainT k m) = true
  | 0, _ => rfl
  | m + 1, k => by
    show (!false && true && flat (chainT (k + 1) m)) = true
    rw [chain_flat]
    rfl
theorem ord_flat {N : Type} : ∀ {T : Tr N}, flat T = true → T.ord = T.nms
  | .nil, _ => rfl
  | .nd tw l x r, f => by
    have f : (!tw && flat l && flat r) = true := f
    rw [Bool.and_eq_true, Bool.and_eq_true] at f
    obtain ⟨⟨f1, f2⟩, f3⟩ := f
    have tf : tw = false := by
      cases tw
      · rfl
      · exact absurd f1 (by decide)
    subst tf
    show l.ord ++ x :: r.ord = l.nms ++ x :: r.nms
    rw [ord_flat f2, ord_flat f3]

/-! ### weights, and what lifting costs (pure) -/
section
variable {N : Type} [DecidableEq N]
/-- the names from one on up to the end -/
def Lk.ups (S : Lk N) : Nat → Option N → Option (List N)
  | _, none => some []
  | 0, some _ => none
  | k + 1, some x => (Lk.ups S k (S.a x)).map (x :: ·)
theorem Lk.ups_more {S : Lk N} : ∀ {k : Nat} {x : Option N} {xs : List N}, S.ups k x = some xs → S.ups (k + 1) x = some xs
  | 0, none, _, h => h
  | 0, some _, _, h => nomatch h
  | _ + 1, none, _, h => h
  | k + 1, some x, xs, h => by
    have h : (S.ups k (S.a x)).map (x :: ·) = some xs := h
    obtain ⟨ys, hy, rfl⟩ := Option.map_eq_some_iff.mp h
    show (S.ups (k + 1) (S.a x)).map (x :: ·) = _
    rw [Lk.ups_more hy]
    rfl
theorem Lk.ups_le {S : Lk N} {k m : Nat} {x : Option N} {xs : List N} (h : S.ups k x = some xs) (le : k ≤ m) : S.ups m x = some xs := by
  induction le with
  | refl => exact h
  | step _ ih => exact Lk.ups_more ih
def pth : Tr N → N → List N
  | .nil, _ => []
  | .nd _ l y r, s => if s = y then [y] else if s ∈ l.nms then pth l s ++ [y] else pth r s ++ [y]
theorem pth_ups {S : Lk N} : ∀ {T : Tr N} {p : Option N} {s : N} {k : Nat} {xs : List N}, Rep S p T → s ∈ T.nms → S.ups k p = some xs → S.ups (k + T.nms.length) (some s) = some (pth T s ++ xs)
  | .nd tw l y r, p, s, k, xs, h, m, e => by
    obtain ⟨h1, h2, h3, h4, h5, hl, hr⟩ := h
    have el : (Tr.nd tw l y r).nms.length = l.nms.length + (r.nms.length + 1) := by
      show (l.nms ++ y :: r.nms).length = _
      rw [List.length_append, List.length_cons]
    have e2 : S.ups (k + 1) (some y) = some (y :: xs) := by
      show (S.ups k (S.a y)).map (y :: ·) = _
      rw [h5, e]
      rfl
    unfold pth
    by_cases c1 : s = y
    · rw [if_pos c1, c1]
      exact Lk.ups_le e2 (by omega)
    · rw [if_neg c1]
      by_cases c2 : s ∈ l.nms
      · rw [if_pos c2, List.append_assoc]
        exact Lk.ups_le (pth_ups hl c2 e2) (by omega)
      · rw [if_neg c2, List.append_assoc]
        have m2 : s ∈ r.nms := by
          rcases List.mem_append.mp m with m | m
          · exact absurd m c2
          · exact (List.mem_cons.mp m).resolve_left c1
        exact Lk.ups_le (pth_ups hr m2 e2) (by omega)
theorem pth_mem : ∀ {T : Tr N} {s y : N}, y ∈ pth T s → y ∈ T.nms
  | .nd tw l z r, s, y, h => by
    unfold pth at h
    by_cases c1 : s = z
    · rw [if_pos c1] at h
      rw [List.mem_singleton.mp h]
      exact List.mem_append_right _ List.mem_cons_self
    · rw [if_neg c1] at h
      by_cases c2 : s ∈ l.nms
      · rw [if_pos c2] at h
        rcases List.mem_append.mp h with h | h
        · exact List.mem_append_left _ (pth_mem h)
        · rw [List.mem_singleton.mp h]
          exact List.mem_append_right _ List.mem_cons_self
      · rw [if_neg c2] at h
        rcases List.mem_append.mp h with h | h
        · exact List.mem_append_right _ (List.mem_cons_of_mem _ (pth_mem h))
        · rw [List.mem_singleton.mp h]
          exact List.mem_append_right _ List.mem_cons_self
/-- how many stand at or below it -/
def wtT : Tr N → N → Nat
  | .nil, _ => 0
  | .nd _ l z r, y => if y = z then l.nms.length + r.nms.length + 1 else wtT l y + wtT r y
theorem wtT_out : ∀ {T : Tr N} {y : N}, y ∉ T.nms → wtT T y = 0
  | .nil, _, _ => rfl
  | .nd tw l z r, y, h => by
    have h : y ∉ l.nms ++ z :: r.nms := h
    show (if y = z then l.nms.length + r.nms.length + 1 else wtT l y + wtT r y) = 0
    rw [if_neg fun (e : y = z) => h (e ▸ List.mem_append_right _ List.mem_cons_self), wtT_out fun m => h (List.mem_append_left _ m), wtT_out fun m => h (List.mem_append_right _ (List.mem_cons_of_mem _ m))]
theorem sum_const_one {α : Type} {f : α → Nat} : ∀ {xs : List α}, (∀ x ∈ xs, f x = 1) → (xs.map f).sum = xs.length
  | [], _ => rfl
  | x :: xs, h => by
    rw [List.map_cons, List.sum_cons, h x List.mem_cons_self, sum_const_one fun y m => h y (List.mem_cons_of_mem _ m), List.length_cons]
    omega
theorem sum_congr {α : Type} {f g : α → Nat} {xs : List α} (h : ∀ x ∈ xs, f x = g x) : (xs.map f).sum = (xs.map g).sum := by rw [List.map_congr_left h]
theorem sum_zero {α : Type} {f : α → Nat} : ∀ {xs : List α}, (∀ x ∈ xs, f x = 0) → (xs.map f).sum = 0
  | [], _ => rfl
  | x :: xs, h => by
    rw [List.map_cons, List.sum_cons, h x List.mem_cons_self, sum_zero fun y m => h y (List.mem_cons_of_mem _ m)]
theorem wt_count : ∀ {T : Tr N} (y : N), T.nms.Nodup → (T.nms.map fun s => (pth T s).count y).sum = wtT T y
  | .nil, _, _ => rfl
  | .nd tw l z r, y, nd => by
    have nd : (l.nms ++ z :: r.nms).Nodup := nd
    obtain ⟨n1, n2, n3⟩ := List.nodup_append.mp nd
    obtain ⟨n4, n5⟩ := List.nodup_cons.mp n2
    have nl : z ∉ l.nms := fun m => n3 z m z List.mem_cons_self rfl
    have pl : ∀ s ∈ l.nms, pth (.nd tw l z r) s = pth l s ++ [z] := fun s m => by
      show (if s = z then [z] else if s ∈ l.nms then pth l s ++ [z] else pth r s ++ [z]) = _
      rw [if_neg fun (e : s = z) => nl (e ▸ m), if_pos m]
    have pr : ∀ s ∈ r.nms, pth (.nd tw l z r) s = pth r s ++ [z] := fun s m => by
      show (if s = z then [z] else if s ∈ l.nms then pth l s ++ [z] else pth r s ++ [z]) = _
      rw [if_neg fun (e : s = z) => n4 (e ▸ m), if_neg fun q => n3 s q s (List.mem_cons_of_mem _ m) rfl]
    have pz : pth (.nd tw l z r) z = [z] := by
      show (if z = z then [z] else _) = _
      rw [if_pos rfl]
    show ((l.nms ++ z :: r.nms).map fun s => (pth (.nd tw l z r) s).count y).sum = if y = z then l.nms.length + r.nms.length + 1 else wtT l y + wtT r y
    rw [List.map_append, List.sum_append, List.map_cons, List.sum_cons, pz]
    by_cases c : y = z
    · subst c
      rw [if_pos rfl, sum_const_one fun s m => by rw [pl s m, List.count_append, List.count_eq_zero_of_not_mem fun q => nl (pth_mem q)]; simp, sum_const_one fun s m => by rw [pr s m, List.count_append, List.count_eq_zero_of_not_mem fun q => n4 (pth_mem q)]; simp]
      simp
      omega
    · have cz : [z].count y = 0 := List.count_eq_zero_of_not_mem fun m => c (List.mem_singleton.mp m)
      rw [if_neg c, cz, sum_congr (g := fun s => (pth l s).count y) fun s m => by rw [pl s m, List.count_append, cz, Nat.add_zero], sum_congr (xs := r.nms) (g := fun s => (pth r s).count y) fun s m => by rw [pr s m, List.count_append, cz, Nat.add_zero], wt_count y n1, wt_count y n5]
      omega
def phiT : Tr N → Nat
  | .nil => 0
  | .nd _ l _ r => phiT l + phiT r + (l.nms.length + r.nms.length + 1).log2
theorem phi_sum : ∀ {T : Tr N}, T.nms.Nodup → (T.nms.map fun y => (wtT T y).log2).sum = phiT T
  | .nil, _ => rfl
  | .nd tw l z r, nd => by
    have nd : (l.nms ++ z :: r.nms).Nodup := nd
    obtain ⟨n1, n2, n3⟩ := List.nodup_append.mp nd
    obtain ⟨n4, n5⟩ := List.nodup_cons.mp n2
    have nl : z ∉ l.nms := fun m => n3 z m z List.mem_cons_self rfl
    show ((l.nms ++ z :: r.nms).map fun y => (wtT (.nd tw l z r) y).log2).sum = phiT l + phiT r + _
    have wz : wtT (.nd tw l z r) z = l.nms.length + r.nms.length + 1 := if_pos rfl
    have wo : ∀ y, y ≠ z → wtT (.nd tw l z r) y = wtT l y + wtT r y := fun y c => if_neg c
    rw [List.map_append, List.sum_append, List.map_cons, List.sum_cons, wz, sum_congr (g := fun y => (wtT l y).log2) fun y m => by rw [wo y fun (e : y = z) => nl (e ▸ m), wtT_out (T := r) fun q => n3 y m y (List.mem_cons_of_mem _ q) rfl, Nat.add_zero], sum_congr (xs := r.nms) (g := fun y => (wtT r y).log2) fun y m => by rw [wo y fun (e : y = z) => n4 (e ▸ m), wtT_out (T := l) fun q => n3 y q y (List.mem_cons_of_mem _ m) rfl, Nat.zero_add], phi_sum n1, phi_sum n5]
    omega
theorem lg_mono {a b : Nat} (h : a ≤ b) (ha : 0 < a) : a.log2 ≤ b.log2 := (Nat.le_log2 (by omega)).mpr (Nat.le_trans (Nat.log2_self_le (by omega)) h)
/-- two of like ranks make more -/
theorem lg_two {a b c k : Nat} (ha : 0 < a) (hb : 0 < b) (h : a + b ≤ c) (h1 : k ≤ a.log2) (h2 : k ≤ b.log2) : k + 1 ≤ c.log2 := by
  have e1 := (Nat.le_log2 (show a ≠ 0 by omega)).mp h1
  have e2 := (Nat.le_log2 (show b ≠ 0 by omega)).mp h2
  refine (Nat.le_log2 (by omega)).mpr ?_
  rw [Nat.pow_succ]
  omega
def phiC : Nat → Cz N → Nat
  | _, [] => 0
  | k, (_, _, s) :: c => phiT s + (k + s.nms.length + 1).log2 + phiC (k + s.nms.length + 1) c
theorem nd_len {tw : Bool} {l r : Tr N} {x : N} : (Tr.nd tw l x r).nms.length = l.nms.length + r.nms.length + 1 := by
  show (l.nms ++ x :: r.nms).length = _
  rw [List.length_append, List.length_cons]
  omega
theorem phi_plug : ∀ {c : Cz N} {t : Tr N}, phiT (plug t c) = phiT t + phiC t.nms.length c
  | [], t => rfl
  | (true, u, s) :: c, t => by
    show phiT (plug (.nd false t u s) c) = _
    rw [phi_plug, nd_len]
    show phiT t + phiT s + (t.nms.length + s.nms.length + 1).log2 + _ = phiT t + (phiT s + (t.nms.length + s.nms.length + 1).log2 + _)
    omega
  | (false, u, s) :: c, t => by
    show phiT (plug (.nd false s u t) c) = _
    have e : s.nms.length + t.nms.length + 1 = t.nms.length + s.nms.length + 1 := by omega
    rw [phi_plug, nd_len]
    show phiT s + phiT t + (s.nms.length + t.nms.length + 1).log2 + phiC (s.nms.length + t.nms.length + 1) c = phiT t + (phiT s + (t.nms.length + s.nms.length + 1).log2 + phiC (t.nms.length + s.nms.length + 1) c)
    rw [e]
    omega
theorem nf_len {l r : Tr N} {x : N} : (nf l x r).nms.length = l.nms.length + r.nms.length + 1 := nd_len
theorem nf_phi {l r : Tr N} {x : N} : phiT (nf l x r) = phiT l + phiT r + (l.nms.length + r.nms.length + 1).log2 := rfl
theorem plug_ge {t : Tr N} {c : Cz N} : t.nms.length ≤ (plug t c).nms.length := by
  have h := (plug_perm (c := c) (t := t)).length_eq
  rw [List.length_append] at h
  omega
/-- one double turn -/
theorem two_cost {n u1 v w n' : Nat} (hn : 0 < n) (h1 : n ≤ u1) (h2 : u1 ≤ n') (hv : 0 < v) (hw : 0 < w) (v1 : v ≤ n') (w1 : w ≤ n') (hs : n + v ≤ n' ∨ v + w ≤ n') : 1 + v.log2 + w.log2 + 3 * n.log2 ≤ 3 * n'.log2 + n.log2 + u1.log2 := by
  have a1 := lg_mono h1 hn
  have a2 := lg_mono h2 (by omega)
  have a3 := lg_mono v1 hv
  have a4 := lg_mono w1 hw
  by_cases c : n.log2 < n'.log2
  · omega
  · have e : n.log2 = n'.log2 := by omega
    rcases hs with hs | hs
    · have b : ¬ n'.log2 ≤ v.log2 := fun z => by
        have := lg_two hn hv hs (Nat.le_of_eq e.symm) z
        omega
      omega
    · have b : ¬ (n'.log2 ≤ v.log2 ∧ n'.log2 ≤ w.log2) := fun z => by
        have := lg_two hv hw hs z.1 z.2
        omega
      omega
theorem splay_cost : ∀ {c : Cz N} {A B : Tr N} {x : N}, (splayT A x B c).2.length + 2 * phiT (splayT A x B c).1 + 6 * (nf A x B).nms.length.log2 ≤ 6 * (plug (nf A x B) c).nms.length.log2 + 1 + 2 * phiT (plug (nf A x B) c)
  | [], A, B, x => by
    show 0 + 2 * phiT (nf A x B) + _ ≤ 6 * (nf A x B).nms.length.log2 + 1 + 2 * phiT (nf A x B)
    omega
  | [(true, u, s)], A, B, x => by
    show 1 + 2 * phiT (nf A x (nf B u s)) + 6 * (nf A x B).nms.length.log2 ≤ 6 * (nf (nf A x B) u s).nms.length.log2 + 1 + 2 * phiT (nf (nf A x B) u s)
    simp only [nf_phi, nf_len]
    have e : A.nms.length + (B.nms.length + s.nms.length + 1) + 1 = A.nms.length + B.nms.length + 1 + s.nms.length + 1 := by omega
    rw [e]
    have h1 := lg_mono (show B.nms.length + s.nms.length + 1 ≤ A.nms.length + B.nms.length + 1 + s.nms.length + 1 by omega) (by omega)
    have h2 := lg_mono (show A.nms.length + B.nms.length + 1 ≤ A.nms.length + B.nms.length + 1 + s.nms.length + 1 by omega) (by omega)
    omega
  | [(false, u, s)], A, B, x => by
    show 1 + 2 * phiT (nf (nf s u A) x B) + 6 * (nf A x B).nms.length.log2 ≤ 6 * (nf s u (nf A x B)).nms.length.log2 + 1 + 2 * phiT (nf s u (nf A x B))
    simp only [nf_phi, nf_len]
    have e : s.nms.length + A.nms.length + 1 + B.nms.length + 1 = s.nms.length + (A.nms.length + B.nms.length + 1) + 1 := by omega
    rw [e]
    have h1 := lg_mono (show s.nms.length + A.nms.length + 1 ≤ s.nms.length + (A.nms.length + B.nms.length + 1) + 1 by omega) (by omega)
    have h2 := lg_mono (show A.nms.length + B.nms.length + 1 ≤ s.nms.length + (A.nms.length + B.nms.length + 1) + 1 by omega) (by omega)
    omega
  | (true, u, s) :: (true, g, q) :: c, A, B, x => by
    have ih := splay_cost (c := c) (A := A) (B := nf B u (nf s g q)) (x := x)
    have el : (nf A x (nf B u (nf s g q))).nms.length = (nf (nf (nf A x B) u s) g q).nms.length := by simp only [nf_len]; omega
    have e1 : (plug (nf A x (nf B u (nf s g q))) c).nms.length = (plug (nf (nf (nf A x B) u s) g q) c).nms.length := by rw [plug_perm.length_eq, plug_perm.length_eq, List.length_append, List.length_append, el]
    rw [phi_plug, el, e1] at ih
    show (splayT A x (nf B u (nf s g q)) c).2.length + 1 + 1 + 2 * phiT (splayT A x (nf B u (nf s g q)) c).1 + _ ≤ 6 * (plug (nf (nf (nf A x B) u s) g q) c).nms.length.log2 + 1 + 2 * phiT (plug (nf (nf (nf A x B) u s) g q) c)
    rw [phi_plug]
    simp only [nf_phi, nf_len] at ih ⊢
    have k := two_cost (n := A.nms.length + B.nms.length + 1) (u1 := A.nms.length + B.nms.length + 1 + s.nms.length + 1) (v := s.nms.length + q.nms.length + 1) (w := B.nms.length + (s.nms.length + q.nms.length + 1) + 1) (n' := A.nms.length + B.nms.length + 1 + s.nms.length + 1 + q.nms.length + 1) (by omega) (by omega) (by omega) (by omega) (by omega) (by omega) (by omega) (.inl (by omega))
    have e2 : A.nms.length + (B.nms.length + (s.nms.length + q.nms.length + 1) + 1) + 1 = A.nms.length + B.nms.length + 1 + s.nms.length + 1 + q.nms.length + 1 := by omega
    rw [e2] at ih
    omega
  | (true, u, s) :: (false, g, q) :: c, A, B, x => by
    have ih := splay_cost (c := c) (A := nf q g A) (B := nf B u s) (x := x)
    have el : (nf (nf q g A) x (nf B u s)).nms.length = (nf q g (nf (nf A x B) u s)).nms.length := by simp only [nf_len]; omega
    have e1 : (plug (nf (nf q g A) x (nf B u s)) c).nms.length = (plug (nf q g (nf (nf A x B) u s)) c).nms.length := by rw [plug_perm.length_eq, plug_perm.length_eq, List.length_append, List.length_append, el]
    rw [phi_plug, el, e1] at ih
    show (splayT (nf q g A) x (nf B u s) c).2.length + 1 + 1 + 2 * phiT (splayT (nf q g A) x (nf B u s) c).1 + _ ≤ 6 * (plug (nf q g (nf (nf A x B) u s)) c).nms.length.log2 + 1 + 2 * phiT (plug (nf q g (nf (nf A x B) u s)) c)
    rw [phi_plug]
    simp only [nf_phi, nf_len] at ih ⊢
    have k := two_cost (n := A.nms.length + B.nms.length + 1) (u1 := A.nms.length + B.nms.length + 1 + s.nms.length + 1) (v := q.nms.length + A.nms.length + 1) (w := B.nms.length + s.nms.length + 1) (n' := q.nms.length + (A.nms.length + B.nms.length + 1 + s.nms.length + 1) + 1) (by omega) (by omega) (by omega) (by omega) (by omega) (by omega) (by omega) (.inr (by omega))
    have e2 : q.nms.length + A.nms.length + 1 + (B.nms.length + s.nms.length + 1) + 1 = q.nms.length + (A.nms.length + B.nms.length + 1 + s.nms.length + 1) + 1 := by omega
    rw [e2] at ih
    omega
  | (false, u, s) :: (true, g, q) :: c, A, B, x => by
    have ih := splay_cost (c := c) (A := nf s u A) (B := nf B g q) (x := x)
    have el : (nf (nf s u A) x (nf B g q)).nms.length = (nf (nf s u (nf A x B)) g q).nms.length := by simp only [nf_len]; omega
    have e1 : (plug (nf (nf s u A) x (nf B g q)) c).nms.length = (plug (nf (nf s u (nf A x B)) g q) c).nms.length := by rw [plug_perm.length_eq, plug_perm.length_eq, List.length_append, List.length_append, el]
    rw [phi_plug, el, e1] at ih
    show (splayT (nf s u A) x (nf B g q) c).2.length + 1 + 1 + 2 * phiT (splayT (nf s u A) x (nf B g q) c).1 + _ ≤ 6 * (plug (nf (nf s u (nf A x B)) g q) c).nms.length.log2 + 1 + 2 * phiT (plug (nf (nf s u (nf A x B)) g q) c)
    rw [phi_plug]
    simp only [nf_phi, nf_len] at ih ⊢
    have k := two_cost (n := A.nms.length + B.nms.length + 1) (u1 := s.nms.length + (A.nms.length + B.nms.length + 1) + 1) (v := s.nms.length + A.nms.length + 1) (w := B.nms.length + q.nms.length + 1) (n' := s.nms.length + (A.nms.length + B.nms.length + 1) + 1 + q.nms.length + 1) (by omega) (by omega) (by omega) (by omega) (by omega) (by omega) (by omega) (.inr (by omega))
    have e2 : s.nms.length + A.nms.length + 1 + (B.nms.length + q.nms.length + 1) + 1 = s.nms.length + (A.nms.length + B.nms.length + 1) + 1 + q.nms.length + 1 := by omega
    rw [e2] at ih
    omega
  | (false, u, s) :: (false, g, q) :: c, A, B, x => by
    have ih := splay_cost (c := c) (A := nf (nf q g s) u A) (B := B) (x := x)
    have el : (nf (nf (nf q g s) u A) x B).nms.length = (nf q g (nf s u (nf A x B))).nms.length := by simp only [nf_len]; omega
    have e1 : (plug (nf (nf (nf q g s) u A) x B) c).nms.length = (plug (nf q g (nf s u (nf A x B))) c).nms.length := by rw [plug_perm.length_eq, plug_perm.length_eq, List.length_append, List.length_append, el]
    rw [phi_plug, el, e1] at ih
    show (splayT (nf (nf q g s) u A) x B c).2.length + 1 + 1 + 2 * phiT (splayT (nf (nf q g s) u A) x B c).1 + _ ≤ 6 * (plug (nf q g (nf s u (nf A x B))) c).nms.length.log2 + 1 + 2 * phiT (plug (nf q g (nf s u (nf A x B))) c)
    rw [phi_plug]
    simp only [nf_phi, nf_len] at ih ⊢
    have k := two_cost (n := A.nms.length + B.nms.length + 1) (u1 := s.nms.length + (A.nms.length + B.nms.length + 1) + 1) (v := q.nms.length + s.nms.length + 1) (w := q.nms.length + s.nms.length + 1 + A.nms.length + 1) (n' := q.nms.length + (s.nms.length + (A.nms.length + B.nms.length + 1) + 1) + 1) (by omega) (by omega) (by omega) (by omega) (by omega) (by omega) (by omega) (.inl (by omega))
    have e2 : q.nms.length + s.nms.length + 1 + A.nms.length + 1 + B.nms.length + 1 = q.nms.length + (s.nms.length + (A.nms.length + B.nms.length + 1) + 1) + 1 := by omega
    rw [e2] at ih
    omega
theorem wtT_plug {A B : Tr N} {x : N} : ∀ {c : Cz N} {t : Tr N}, (plug t c).nms.Nodup → x ∈ t.nms → wtT (plug t c) x = wtT t x
  | [], t, _, _ => rfl
  | (true, u, s) :: c, t, nd, m => by
    obtain ⟨n1, n2, n3⟩ := nd_ctx nd
    obtain ⟨m1, m2, m3⟩ := n3 x m
    show wtT (plug (.nd false t u s) c) x = _
    rw [wtT_plug (A := A) (B := B) (t := .nd false t u s) nd (List.mem_append_left _ m)]
    show (if x = u then _ else wtT t x + wtT s x) = _
    rw [if_neg m1, wtT_out m2, Nat.add_zero]
  | (false, u, s) :: c, t, nd, m => by
    obtain ⟨n1, n2, n3⟩ := nd_ctx nd
    obtain ⟨m1, m2, m3⟩ := n3 x m
    show wtT (plug (.nd false s u t) c) x = _
    rw [wtT_plug (A := A) (B := B) (t := .nd false s u t) nd (List.mem_append_right _ (List.mem_cons_of_mem _ m))]
    show (if x = u then _ else wtT s x + wtT t x) = _
    rw [if_neg m1, wtT_out m2, Nat.zero_add]
theorem wtT_root {A B : Tr N} {x : N} {c : Cz N} (nd : (plug (nf A x B) c).nms.Nodup) : wtT (plug (nf A x B) c) x = (nf A x B).nms.length := by
  rw [wtT_plug (A := A) (B := B) nd (List.mem_append_right _ List.mem_cons_self), nf_len]
  exact if_pos rfl
theorem perm_sum {xs ys : List Nat} (h : xs.Perm ys) : xs.sum = ys.sum := by
  induction h with
  | nil => rfl
  | cons x _ ih => rw [List.sum_cons, List.sum_cons, ih]
  | swap x y l =>
    rw [List.sum_cons, List.sum_cons, List.sum_cons, List.sum_cons]
    omega
  | trans _ _ h1 h2 => exact h1.trans h2
/-- how often each name stands above one of some -/
def Lk.cw (S : Lk N) (k : Nat) (ss : List N) (y : N) : Nat := (ss.map fun s => ((S.ups k (some s)).getD []).count y).sum
theorem cw_tree {S : Lk N} {T : Tr N} (h : Rep S none T) (nd : T.nms.Nodup) {ss : List N} (pm : ss.Perm T.nms) {k : Nat} (hk : T.nms.length ≤ k) (y : N) : S.cw k ss y = wtT T y := by
  rw [← wt_count y nd]
  unfold Lk.cw
  rw [perm_sum (pm.map _)]
  refine sum_congr fun s m => ?_
  have e := pth_ups (k := 0) (xs := []) h m rfl
  rw [Lk.ups_le e (by omega), List.append_nil]
  rfl
theorem ups_tree {S : Lk N} {T : Tr N} (h : Rep S none T) {s : N} (m : s ∈ T.nms) {k : Nat} (hk : T.nms.length ≤ k) : S.ups k (some s) = some (pth T s) := by
  have e := pth_ups (k := 0) (xs := []) h m rfl
  rw [Lk.ups_le e (by omega), List.append_nil]
end

/-! ### strands: names linked, none above itself -/
section
variable {N : Type} [DecidableEq N]
structure Wf (S : Lk N) : Prop where
  cl : Cl S
  dl : ∀ x ∈ S.ns, ∀ y, S.l x = some y → S.a y = some x
  dr : ∀ x ∈ S.ns, ∀ y, S.r x = some y → S.a y = some x
  lr : ∀ x ∈ S.ns, ∀ y, S.l x = some y → S.r x ≠ some y
  rk : ∃ d : N → Int, ∀ x ∈ S.ns, ∀ u, S.a x = some u → d u < d x
theorem top_not {S : Lk N} {x : N} (h : S.isTop x = false) : ∃ u, S.a x = some u ∧ (S.l u = some x ∨ S.r u = some x) := by
  unfold Lk.isTop at h
  cases e : S.a x with
  | none =>
    rw [e] at h
    exact nomatch h
  | some u =>
    rw [e] at h
    refine ⟨u, rfl, ?_⟩
    have h : (!(decide (S.l u = some x) || decide (S.r u = some x))) = false := h
    rw [Bool.not_eq_false'] at h
    rcases Bool.or_eq_true_iff.mp h with h | h
    · exact .inl (of_decide_eq_true h)
    · exact .inr (of_decide_eq_true h)
theorem top_is {S : Lk N} {x u : N} (h : S.isTop x = true) (e : S.a x = some u) : S.l u ≠ some x ∧ S.r u ≠ some x := by
  unfold Lk.isTop at h
  rw [e] at h
  have h : (!(decide (S.l u = some x) || decide (S.r u = some x))) = true := h
  simpa using h
theorem Wf.tidy {S : Lk N} (h : Wf S) {x u : N} (m : x ∈ S.ns) (nt : S.isTop x = false) (e : S.a x = some u) : Tidy S x u := by
  obtain ⟨u', e', one⟩ := top_not nt
  rw [e] at e'
  cases e'
  have mu := (h.cl x m).2.2 u e
  obtain ⟨d, hd⟩ := h.rk
  have d1 := hd x m u e
  refine ⟨e, one, fun z => h.lr u mu x z.1 z.2, fun g eg => ?_, fun z => ?_, fun z => ?_, fun z => ?_⟩
  · have mg := (h.cl u mu).2.2 g eg
    have d2 := hd u mu g eg
    exact ⟨fun z => by rw [z] at d2; omega, fun z => by rw [z] at d2; omega, fun z => h.lr g mg u z.1 z.2⟩
  · have := hd u mu x (h.dl x m u z)
    omega
  · have := hd u mu x (h.dr x m u z)
    omega
  · rw [z] at d1
    omega
theorem turnW {ns : List N} {l r a l' r' a' : N → Option N} {x u : N} {d : N → Int} (mx : x ∈ ns) (mu : u ∈ ns)
    (dl : ∀ y ∈ ns, ∀ z, l y = some z → a z = some y) (dr : ∀ y ∈ ns, ∀ z, r y = some z → a z = some y) (lr : ∀ y ∈ ns, ∀ z, l y = some z → r y ≠ some z)
    (inl : ∀ y ∈ ns, ∀ z, l y = some z → z ∈ ns) (inr : ∀ y ∈ ns, ∀ z, r y = some z → z ∈ ns)
    (rk : ∀ y ∈ ns, ∀ z, a y = some z → d z < d y) (ax : a x = some u) (lu : l u = some x)
    (hl : ∀ y, l' y = if y = u then r x else if a u = some y ∧ l y = some u then some x else l y)
    (hr : ∀ y, r' y = if y = x then some u else if a u = some y ∧ r y = some u then some x else r y)
    (ha : ∀ y, a' y = if y = x then a u else if y = u then some x else if r x = some y then some u else a y) :
    (∀ y ∈ ns, ∀ z, l' y = some z → a' z = some y) ∧ (∀ y ∈ ns, ∀ z, r' y = some z → a' z = some y) ∧ (∀ y ∈ ns, ∀ z, l' y = some z → r' y ≠ some z) ∧
      ∀ y ∈ ns, ∀ z, a' y = some z → (if z = x then 2 * d u - 1 else 2 * d z) < (if y = x then 2 * d u - 1 else 2 * d y) := by
  have f1 := rk x mx u ax
  have xu : x ≠ u := fun z => by rw [z] at f1; omega
  have f2 : ∀ g, a u = some g → d g < d u ∧ g ≠ u ∧ g ≠ x := fun g e => by
    have := rk u mu g e
    exact ⟨this, fun z => by rw [z] at this; omega, fun z => by rw [z] at this; omega⟩
  have f3 : ∀ i, r x = some i → a i = some x ∧ d x < d i ∧ i ≠ x ∧ i ≠ u := fun i e => by
    have h1 := dr x mx i e
    have h2 := rk i (inr x mx i e) x h1
    exact ⟨h1, h2, fun z => by rw [z] at h2; omega, fun z => by rw [z] at h2; omega⟩
  have aX : a' x = a u := by rw [ha, if_pos rfl]
  have aU : a' u = some x := by rw [ha, if_neg (Ne.symm xu), if_pos rfl]
  have aO : ∀ {z}, z ≠ x → z ≠ u → r x ≠ some z → a' z = a z := fun {z} h1 h2 h3 => by rw [ha, if_neg h1, if_neg h2, if_neg h3]
  refine ⟨fun y my z e => ?_, fun y my z e => ?_, fun y my z e e2 => ?_, fun y my z e => ?_⟩
  · rw [hl] at e
    split at e
    · rename_i c
      obtain ⟨g1, g2, g3, g4⟩ := f3 z e
      rw [ha, if_neg g3, if_neg g4, if_pos e, c]
    · rename_i c
      split at e
      · rename_i c2
        rw [← Option.some.inj e, aX]
        exact c2.1
      · rename_i c2
        have az := dl y my z e
        rw [aO (fun zx => ?_) (fun zu => ?_) (fun zi => ?_)]
        · exact az
        · rw [zx, ax] at az
          exact c (Option.some.inj az).symm
        · rw [zu] at az e
          exact c2 ⟨az, e⟩
        · have g1 := (f3 z zi).1
          rw [g1] at az
          cases az
          exact lr x mx z e zi
  · rw [hr] at e
    split at e
    · rename_i c
      rw [← Option.some.inj e, aU, c]
    · rename_i c
      split at e
      · rename_i c2
        rw [← Option.some.inj e, aX]
        exact c2.1
      · rename_i c2
        have az := dr y my z e
        rw [aO (fun zx => ?_) (fun zu => ?_) (fun zi => ?_)]
        · exact az
        · rw [zx, ax] at az
          cases az
          rw [zx] at e
          exact lr u mu x lu e
        · rw [zu] at az e
          exact c2 ⟨az, e⟩
        · have g1 := (f3 z zi).1
          rw [g1] at az
          cases az
          exact c rfl
  · rw [hl] at e
    rw [hr] at e2
    split at e
    · rename_i c
      have g1 := (f3 z e).1
      rw [if_neg (fun h => xu (h.symm.trans c))] at e2
      split at e2
      · rename_i c2
        exact (f2 y c2.1).2.1 c
      · have az := dr y my z e2
        rw [g1] at az
        exact xu ((Option.some.inj az).trans c)
    · rename_i c
      split at e
      · rename_i c2
        have zx := (Option.some.inj e).symm
        subst zx
        rw [if_neg (f2 y c2.1).2.2] at e2
        split at e2
        · rename_i c3
          exact lr y my u c2.2 c3.2
        · have az := dr y my z e2
          rw [ax] at az
          exact c (Option.some.inj az).symm
      · rename_i c2
        split at e2
        · rename_i c3
          have zu := (Option.some.inj e2).symm
          subst zu
          rw [c3] at e
          have az := dl x mx z e
          have := rk z mu x az
          omega
        · split at e2
          · rename_i c4 c3
            have zx := (Option.some.inj e2).symm
            subst zx
            have az := dl y my z e
            rw [ax] at az
            exact c (Option.some.inj az).symm
          · exact lr y my z e e2
  · rw [ha] at e
    split at e
    · rename_i c
      obtain ⟨g1, g2, g3⟩ := f2 z e
      rw [if_neg g3, if_pos c]
      omega
    · rename_i c
      rw [if_neg c]
      split at e
      · rename_i c2
        rw [if_pos (Option.some.inj e).symm, c2]
        omega
      · split at e
        · rename_i c3
          have g := f3 y c3
          have zu := (Option.some.inj e).symm
          rw [zu, if_neg (Ne.symm xu)]
          omega
        · have g := rk y my z e
          split
          · rename_i c5
            rw [c5] at g
            omega
          · omega
theorem turn_at {S : Lk N} {x u : N} (t : Tidy S x u) (hi : S.l x ≠ some x ∧ S.r x ≠ some x) :
    (S.r u ≠ some x → (∀ y, (S.turn x).l y = if y = u then S.r x else if S.a u = some y ∧ S.l y = some u then some x else S.l y) ∧ (∀ y, (S.turn x).r y = if y = x then some u else if S.a u = some y ∧ S.r y = some u then some x else S.r y) ∧ ∀ y, (S.turn x).a y = if y = x then S.a u else if y = u then some x else if S.r x = some y then some u else S.a y) ∧
    (S.r u = some x → (∀ y, (S.turn x).r y = if y = u then S.l x else if S.a u = some y ∧ S.r y = some u then some x else S.r y) ∧ (∀ y, (S.turn x).l y = if y = x then some u else if S.a u = some y ∧ S.l y = some u then some x else S.l y) ∧ ∀ y, (S.turn x).a y = if y = x then S.a u else if y = u then some x else if S.l x = some y then some u else S.a y) := by
  obtain ⟨h1, h2, h3, _⟩ := lturn_eq t
  have xu := t.ne
  have L0 : ∀ y, (S.plc x u).l y = if S.a u = some y ∧ S.l y = some u then some x else S.l y := fun y => by
    unfold Lk.plc
    dsimp only
    cases e : S.a u with
    | none => rw [if_neg fun h => nomatch h.1]
    | some g =>
      dsimp only
      have tg := (t.up g e).2.2
      by_cases c1 : S.r g = some u
      · rw [if_pos c1, if_neg fun h => tg ⟨by rw [Option.some.inj h.1]; exact h.2, c1⟩]
      · rw [if_neg c1]
        by_cases c2 : S.l g = some u
        · rw [if_pos c2]
          by_cases c3 : y = g
          · rw [c3, up1_same, if_pos ⟨rfl, c2⟩]
          · rw [up1_ne c3, if_neg fun h => c3 (Option.some.inj h.1).symm]
        · rw [if_neg c2, if_neg fun h => c2 (by rw [Option.some.inj h.1]; exact h.2)]
  have R0 : ∀ y, (S.plc x u).r y = if S.a u = some y ∧ S.r y = some u then some x else S.r y := fun y => by
    unfold Lk.plc
    dsimp only
    cases e : S.a u with
    | none => rw [if_neg fun h => nomatch h.1]
    | some g =>
      dsimp only
      by_cases c2 : S.r g = some u
      · rw [if_pos c2]
        by_cases c3 : y = g
        · rw [c3, up1_same, if_pos ⟨rfl, c2⟩]
        · rw [up1_ne c3, if_neg fun h => c3 (Option.some.inj h.1).symm]
      · rw [if_neg c2, if_neg fun h => c2 (by rw [Option.some.inj h.1]; exact h.2)]
  have A0 : ∀ (i : Option N), i ≠ some u → i ≠ some x → ∀ y, upO (up1 (up1 S.a x (S.a u)) u (some x)) i (some u) y = if y = x then S.a u else if y = u then some x else if i = some y then some u else S.a y := fun i iu ix y => by
    by_cases c1 : y = x
    · rw [if_pos c1, c1, upO_ne (Ne.symm ix), up1_ne xu, up1_same]
    · rw [if_neg c1]
      by_cases c2 : y = u
      · rw [if_pos c2, c2, upO_ne (Ne.symm iu), up1_same]
      · rw [if_neg c2]
        by_cases c3 : i = some y
        · rw [if_pos c3, c3, upO_same]
        · rw [if_neg c3, upO_ne (Ne.symm c3), up1_ne c2, up1_ne c1]
  unfold Lk.lturn at h1 h2 h3
  rw [t.ax] at h1 h2 h3
  dsimp only at h1 h2 h3
  refine ⟨fun c => ?_, fun c => ?_⟩
  · rw [decide_eq_false c] at h1 h2 h3
    refine ⟨fun y => ?_, fun y => ?_, fun y => ?_⟩
    · rw [← h1]
      show up1 _ u (S.r x) y = _
      by_cases e : y = u
      · rw [e, up1_same, if_pos rfl]
      · rw [up1_ne e, if_neg e]
        exact L0 y
    · rw [← h2]
      show up1 _ x (some u) y = _
      by_cases e : y = x
      · rw [e, up1_same, if_pos rfl]
      · rw [up1_ne e, if_neg e]
        exact R0 y
    · rw [← h3]
      exact A0 _ t.rx hi.2 y
  · rw [decide_eq_true c] at h1 h2 h3
    refine ⟨fun y => ?_, fun y => ?_, fun y => ?_⟩
    · rw [← h2]
      show up1 _ u (S.l x) y = _
      by_cases e : y = u
      · rw [e, up1_same, if_pos rfl]
      · rw [up1_ne e, if_neg e]
        exact R0 y
    · rw [← h1]
      show up1 _ x (some u) y = _
      by_cases e : y = x
      · rw [e, up1_same, if_pos rfl]
      · rw [up1_ne e, if_neg e]
        exact L0 y
    · rw [← h3]
      exact A0 _ t.lx hi.1 y
theorem Wf.turn {S : Lk N} (h : Wf S) {x u : N} (m : x ∈ S.ns) (nt : S.isTop x = false) (e : S.a x = some u) : Wf (S.turn x) := by
  have t := h.tidy m nt e
  obtain ⟨_, _, _, _, en, _⟩ := lturn_eq t
  have mu := (h.cl x m).2.2 u e
  obtain ⟨d, hd⟩ := h.rk
  have inl : ∀ y ∈ S.ns, ∀ z, S.l y = some z → z ∈ S.ns := fun y my => (h.cl y my).1
  have inr : ∀ y ∈ S.ns, ∀ z, S.r y = some z → z ∈ S.ns := fun y my => (h.cl y my).2.1
  have hi : S.l x ≠ some x ∧ S.r x ≠ some x := ⟨fun z => by have := hd x m x (h.dl x m x z); omega, fun z => by have := hd x m x (h.dr x m x z); omega⟩
  have rl : ∀ y ∈ S.ns, ∀ z, S.r y = some z → S.l y ≠ some z := fun y my z e1 e2 => h.lr y my z e2 e1
  obtain ⟨tA, tB⟩ := turn_at t hi
  by_cases c : S.r u = some x
  · obtain ⟨g1, g2, g3⟩ := tB c
    obtain ⟨k1, k2, k3, k4⟩ := turnW m mu h.dr h.dl rl inr inl hd e c g1 g2 g3
    exact ⟨(cl_turn h.cl m e).1, by rw [en]; exact k2, by rw [en]; exact k1, by rw [en]; exact fun y my z e1 e2 => k3 y my z e2 e1, _, by rw [en]; exact k4⟩
  · obtain ⟨g1, g2, g3⟩ := tA c
    obtain ⟨k1, k2, k3, k4⟩ := turnW m mu h.dl h.dr h.lr inl inr hd e (t.one.resolve_right c) g1 g2 g3
    exact ⟨(cl_turn h.cl m e).1, by rw [en]; exact k1, by rw [en]; exact k2, by rw [en]; exact k3, _, by rw [en]; exact k4⟩
def Lk.letGo (S : Lk N) (x : N) : Lk N := { S with lk := S.lk + 1, r := up1 S.r x none }
def Lk.hang (S : Lk N) (x : N) : Lk N := match S.a x with | none => S | some u => { S with r := up1 S.r u (some x) }
theorem Wf.letGo {S : Lk N} (h : Wf S) {x : N} : Wf (S.letGo x) := by
  have rr : ∀ y z, (S.letGo x).r y = some z → S.r y = some z := fun y z e => by
    have e : up1 S.r x none y = some z := e
    by_cases c : y = x
    · rw [c, up1_same] at e
      exact nomatch e
    · rw [up1_ne c] at e
      exact e
  exact ⟨fun y my => ⟨(h.cl y my).1, fun z e => (h.cl y my).2.1 z (rr y z e), (h.cl y my).2.2⟩, h.dl, fun y my z e => h.dr y my z (rr y z e), fun y my z e e2 => h.lr y my z e (rr y z e2), h.rk⟩
theorem Wf.hang {S : Lk N} (h : Wf S) {x u : N} (m : x ∈ S.ns) (e : S.a x = some u) (tp : S.isTop x = true) : Wf (S.hang x) := by
  have es : S.hang x = { S with r := up1 S.r u (some x) } := by
    unfold Lk.hang
    rw [e]
  rw [es]
  have rr : ∀ y z, up1 S.r u (some x) y = some z → (y = u ∧ z = x) ∨ S.r y = some z := fun y z e => by
    by_cases c : y = u
    · rw [c, up1_same] at e
      exact .inl ⟨c, (Option.some.inj e).symm⟩
    · rw [up1_ne c] at e
      exact .inr e
  refine ⟨fun y my => ⟨(h.cl y my).1, fun z e2 => ?_, (h.cl y my).2.2⟩, h.dl, fun y my z e2 => ?_, fun y my z e1 e2 => ?_, h.rk⟩
  · rcases rr y z e2 with ⟨_, rfl⟩ | e3
    · exact m
    · exact (h.cl y my).2.1 z e3
  · rcases rr y z e2 with ⟨rfl, rfl⟩ | e3
    · exact e
    · exact h.dr y my z e3
  · rcases rr y z e2 with ⟨rfl, rfl⟩ | e3
    · exact (top_is tp e).1 e1
    · exact h.lr y my z e1 e3
end

/-! ### names: ints, or tuples of ints and texts (marks) -/
inductive Nm where
  | i (n : Int)
  | m (k : List Key)
  deriving DecidableEq
def ik : Nm → Int
  | .i n => n
  | .m _ => 0
def tk : Nm → List Key
  | .i _ => []
  | .m k => k
def sdN : Nm → Bool
  | .i _ => false
  | .m _ => true
theorem ik_inj {x y : Nm} (hx : sdN x = false) (hy : sdN y = false) (e : ik x = ik y) : x = y := by
  cases x with
  | i n =>
    cases y with
    | i m => exact congrArg Nm.i (show n = m from e)
    | m k => exact nomatch hy
  | m k => exact nomatch hx
theorem tk_inj {x y : Nm} (hx : sdN x = true) (hy : sdN y = true) (e : tk x = tk y) : x = y := by
  cases x with
  | m n =>
    cases y with
    | m m => exact congrArg Nm.m (show n = m from e)
    | i k => exact nomatch hy
  | i k => exact nomatch hx
/-- the thing v is the name x -/
def IsN (H : Hp) (v : V) : Nm → Prop
  | .i n => v = .int n
  | .m k => ∃ a, v = .ref a ∧ H a = some (.tup (k.map kV))
/-- None, or a name -/
def IsO (H : Hp) (v : V) : Option Nm → Prop
  | none => v = .non
  | some x => IsN H v x
/-- tuples stay -/
def TupK (H H' : Hp) : Prop := ∀ a xs, H a = some (.tup xs) → H' a = some (.tup xs)
theorem TupK.refl {H : Hp} : TupK H H := fun _ _ e => e
theorem TupK.trans {H H1 H2 : Hp} (x : TupK H H1) (y : TupK H1 H2) : TupK H H2 := fun a xs e => y a xs (x a xs e)
theorem Same.tupk {H H' : Hp} (s : Same H H') : TupK H H' := fun a xs e => s a _ e
theorem TupK.put {H H1 : Hp} {d : Addr} {o u : HO} (k : TupK H H1) (e : H1 d = some u) (n : ∀ xs, u ≠ .tup xs) : TupK H (upd H1 d o) := fun a xs h => by
  have z := k a xs h
  rw [upd_ne (ne_of z e fun q => n xs q.symm)]
  exact z
theorem TupK.new {H H1 : Hp} {d : Addr} {o : HO} (k : TupK H H1) (e : H1 d = none) : TupK H (upd H1 d o) := fun a xs h => by
  have z := k a xs h
  rw [upd_ne (ne_of_none z e)]
  exact z
theorem IsN.up {H H' : Hp} (k : TupK H H') {v : V} : ∀ {x : Nm}, IsN H v x → IsN H' v x
  | .i _, h => h
  | .m _, ⟨a, e, h⟩ => ⟨a, e, k _ _ h⟩
theorem IsO.up {H H' : Hp} (k : TupK H H') {v : V} : ∀ {x : Option Nm}, IsO H v x → IsO H' v x
  | none, h => h
  | some _, h => IsN.up k h
theorem IsN.nn {H : Hp} {v : V} : ∀ {x : Nm}, IsN H v x → v ≠ .non
  | .i _, h, e => by
    rw [show v = _ from h] at e
    exact nomatch e
  | .m _, ⟨_, h, _⟩, e => by
    rw [h] at e
    exact nomatch e
theorem IsO.non {H : Hp} {v : V} {x : Option Nm} (h : IsO H v x) : decide (v = .non) = decide (x = none) := by
  cases x with
  | none => rw [show v = _ from h, decide_eq_true rfl, decide_eq_true rfl]
  | some y => rw [decide_eq_false (IsN.nn (show IsN H v y from h)), decide_eq_false (by simp)]
/-- a thing is one name at most -/
theorem IsN.fn {H : Hp} {v : V} : ∀ {x y : Nm}, IsN H v x → IsN H v y → x = y
  | .i n, .i m, h, k => by
    have e : V.int n = V.int m := h.symm.trans k
    cases e
    rfl
  | .i n, .m m, h, ⟨a, k, _⟩ => nomatch h.symm.trans k
  | .m n, .i m, ⟨a, k, _⟩, h => nomatch h.symm.trans k
  | .m n, .m m, ⟨a, e, h⟩, ⟨b, f, k⟩ => by
    have z : V.ref a = V.ref b := e.symm.trans f
    cases z
    rw [h] at k
    have e2 : n.map kV = m.map kV := by
      injection k with k
      injection k
    have inj : ∀ {n m : List Key}, n.map kV = m.map kV → n = m := by
      intro n
      induction n with
      | nil => intro m e; cases m with
        | nil => rfl
        | cons _ _ => exact nomatch e
      | cons x n ih => intro m e; cases m with
        | nil => exact nomatch e
        | cons y m =>
          rw [List.map_cons, List.map_cons] at e
          injection e with e1 e2
          rw [ih e2]
          congr 1
          cases x <;> cases y <;> first | (cases e1; rfl) | exact nomatch e1
    rw [inj e2]
/-! ### dicts of names -/
def AllS (s : Bool) (ns : List Nm) : Prop := ∀ x ∈ ns, sdN x = s
def dO (s : Bool) (ns : List Nm) (f : Nm → V) : HO := match s with
  | false => .dK (ns.map fun x => (Sum.inl (ik x), f x))
  | true => .dT (ns.map fun x => (tk x, f x))
theorem dO_mut {s : Bool} {ns : List Nm} {f : Nm → V} : Mut (some (dO s ns f)) := by cases s <;> trivial
theorem dO_ntup {s : Bool} {ns : List Nm} {f : Nm → V} : ∀ xs, dO s ns f ≠ .tup xs := by cases s <;> (intro xs e; exact nomatch e)
theorem dO_nlst {s : Bool} {ns : List Nm} {f : Nm → V} : ∀ xs, dO s ns f ≠ .lst xs := by cases s <;> (intro xs e; exact nomatch e)
section
variable {κ : Type} [DecidableEq κ] {g : Nm → κ} {f : Nm → V} {P : Nm → Prop}
theorem aN_get (inj : ∀ x y, P x → P y → g x = g y → x = y) {x : Nm} (px : P x) : ∀ {ns : List Nm}, (∀ y ∈ ns, P y) → valV (ns.map fun y => (g y, f y)) (g x) = if x ∈ ns then some (f x) else none
  | [], _ => rfl
  | y :: r, h => by
    have ih := aN_get inj px (ns := r) fun z m => h z (List.mem_cons_of_mem _ m)
    by_cases e : y = x
    · subst e
      rw [if_pos List.mem_cons_self]
      exact valV_pos (p := (g y, f y)) rfl
    · have ne : ¬ g y = g x := fun q => e (inj y x (h y List.mem_cons_self) px q)
      show valV ((g y, f y) :: r.map fun y => (g y, f y)) (g x) = _
      rw [valV_neg ne, ih]
      by_cases m : x ∈ r
      · rw [if_pos m, if_pos (List.mem_cons_of_mem _ m)]
      · rw [if_neg m, if_neg fun q => m ((List.mem_cons.mp q).resolve_left fun z => e z.symm)]
theorem aN_put (inj : ∀ x y, P x → P y → g x = g y → x = y) {x : Nm} (px : P x) {ns : List Nm} (al : ∀ y ∈ ns, P y) (m : x ∈ ns) {v : V} : putK (ns.map fun y => (g y, f y)) (g x) v = ns.map fun y => (g y, up1 f x v y) := by
  unfold putK
  rw [valV_any, aN_get inj px al, if_pos m, if_pos (show (some (f x)).isSome = true from rfl), List.map_map]
  refine List.map_congr_left fun y my => ?_
  show (if g y = g x then (g y, v) else (g y, f y)) = (g y, up1 f x v y)
  by_cases e : y = x
  · subst e
    rw [if_pos rfl, up1_same]
  · rw [if_neg fun z => e (inj y x (al y my) px z), up1_ne e]
theorem aN_new (inj : ∀ x y, P x → P y → g x = g y → x = y) {x : Nm} (px : P x) {ns : List Nm} (al : ∀ y ∈ ns, P y) (m : x ∉ ns) {v : V} : putK (ns.map fun y => (g y, f y)) (g x) v = (ns ++ [x]).map fun y => (g y, up1 f x v y) := by
  unfold putK
  rw [valV_any, aN_get inj px al, if_neg m, if_neg (by decide), List.map_append]
  congr 1
  · exact List.map_congr_left fun y my => by rw [up1_ne fun (e : y = x) => m (e ▸ my)]
  · show [(g x, v)] = [(g x, up1 f x v x)]
    rw [up1_same]
end
theorem dO_congr {s : Bool} {ns : List Nm} {f g : Nm → V} (h : ∀ x ∈ ns, f x = g x) : dO s ns f = dO s ns g := by
  cases s
  · exact congrArg HO.dK (List.map_congr_left fun x m => by rw [h x m])
  · exact congrArg HO.dT (List.map_congr_left fun x m => by rw [h x m])
section
variable {H : Hp} {d : Addr} {s : Bool} {ns : List Nm} {f : Nm → V} {v u : V} {x : Nm}
theorem dO_get (al : AllS s ns) (sx : sdN x = s) (rd : Rd H d (dO s ns f)) (iv : IsN H v x) : DGet H d v (if x ∈ ns then some (f x) else none) := by
  cases s with
  | false =>
    cases x with
    | m k => exact nomatch sx
    | i n => exact .inl ⟨_, Sum.inl n, rd, iv, (aN_get (g := fun y => (Sum.inl (ik y) : Key)) (P := fun y => sdN y = false) (x := .i n) (fun x y hx hy e => ik_inj hx hy (Sum.inl.inj e)) rfl al).symm⟩
  | true =>
    cases x with
    | i k => exact nomatch sx
    | m k =>
      obtain ⟨a, e, h⟩ := iv
      exact .inr ⟨_, k, a, rd, e, h, (aN_get (g := tk) (P := fun y => sdN y = true) (x := .m k) (fun x y hx hy e => tk_inj hx hy e) rfl al).symm⟩
theorem dO_in (al : AllS s ns) (m : x ∈ ns) (rd : Rd H d (dO s ns f)) (iv : IsN H v x) : DGet H d v (some (f x)) := by
  have g := dO_get al (al x m) rd iv
  rw [if_pos m] at g
  exact g
theorem dO_put (al : AllS s ns) (m : x ∈ ns) (hd : H d = some (dO s ns f)) (iv : IsN H v x) (len : ns.length < sizeLine) : DPut H d v u (upd H d (dO s ns (up1 f x u))) := by
  have sx := al x m
  cases s with
  | false =>
    cases x with
    | m k => exact nomatch sx
    | i n => exact .inl ⟨_, Sum.inl n, hd, iv, by rw [List.length_map]; exact len, congrArg (fun z => upd H d (HO.dK z)) (aN_put (g := fun y => (Sum.inl (ik y) : Key)) (P := fun y => sdN y = false) (x := .i n) (fun x y hx hy e => ik_inj hx hy (Sum.inl.inj e)) rfl al m).symm⟩
  | true =>
    cases x with
    | i k => exact nomatch sx
    | m k =>
      obtain ⟨a, e, h⟩ := iv
      exact .inr ⟨_, k, a, hd, e, h, by rw [List.length_map]; exact len, congrArg (fun z => upd H d (HO.dT z)) (aN_put (g := tk) (P := fun y => sdN y = true) (x := .m k) (fun x y hx hy e => tk_inj hx hy e) rfl al m).symm⟩
theorem dO_new (al : AllS s ns) (sx : sdN x = s) (m : x ∉ ns) (hd : H d = some (dO s ns f)) (iv : IsN H v x) (len : ns.length < sizeLine) : DPut H d v u (upd H d (dO s (ns ++ [x]) (up1 f x u))) := by
  cases s with
  | false =>
    cases x with
    | m k => exact nomatch sx
    | i n => exact .inl ⟨_, Sum.inl n, hd, iv, by rw [List.length_map]; exact len, congrArg (fun z => upd H d (HO.dK z)) (aN_new (g := fun y => (Sum.inl (ik y) : Key)) (P := fun y => sdN y = false) (x := .i n) (fun x y hx hy e => ik_inj hx hy (Sum.inl.inj e)) rfl al m).symm⟩
  | true =>
    cases x with
    | i k => exact nomatch sx
    | m k =>
      obtain ⟨a, e, h⟩ := iv
      exact .inr ⟨_, k, a, hd, e, h, by rw [List.length_map]; exact len, congrArg (fun z => upd H d (HO.dT z)) (aN_new (g := tk) (P := fun y => sdN y = true) (x := .m k) (fun x y hx hy e => tk_inj hx hy e) rfl al m).symm⟩
theorem AllS.snoc (al : AllS s ns) (sx : sdN x = s) : AllS s (ns ++ [x]) := fun y m => by
  rcases List.mem_append.mp m with m | m
  · exact al y m
  · rw [List.mem_singleton.mp m]
    exact sx
end
/-! ### walks over their keys -/
def itN (s : Bool) (d : Addr) (o : Obj) (ns : List Nm) (f : Nm → V) : It := match s with
  | false => Itk d o (ns.map fun x => (Sum.inl (ik x), f x))
  | true => Itkt d o (ns.map fun x => (tk x, f x))
theorem walk_nm {s : Bool} {d : Addr} {o : Obj} {ns : List Nm} {f : Nm → V} (al : AllS s ns) : Walk (itN s d o ns f) ns.length (fun H => H d = some (.frz o (dO s ns f))) (fun i H v H' => H' = H ∧ ∃ x, ns[i]? = some x ∧ IsN H v x) := by
  cases s with
  | false =>
    have w := walk_keys (d := d) (o := o) (kvs := ns.map fun x => ((Sum.inl (ik x) : Key), f x))
    rw [List.length_map] at w
    refine w.mono (fun H h => h) ?_
    rintro i H v H' hi h ⟨rfl, k, u, e, rfl⟩
    rw [List.getElem?_map] at e
    obtain ⟨x, hx, e⟩ := Option.map_eq_some_iff.mp e
    have sx := al x (List.mem_of_getElem? hx)
    cases x with
    | m k => exact nomatch sx
    | i n =>
      cases e
      exact ⟨rfl, _, hx, rfl⟩
  | true =>
    have w := walk_keysT (d := d) (o := o) (kvs := ns.map fun x => (tk x, f x))
    rw [List.length_map] at w
    refine w.mono (fun H h => h) ?_
    rintro i H v H' hi h ⟨rfl, k, u, q, e, rfl, hq⟩
    rw [List.getElem?_map] at e
    obtain ⟨x, hx, e⟩ := Option.map_eq_some_iff.mp e
    have sx := al x (List.mem_of_getElem? hx)
    cases x with
    | i k => exact nomatch sx
    | m n =>
      cases e
      exact ⟨rfl, _, hx, q, rfl, hq⟩
theorem keys_nm {s : Bool} {d : Addr} {o : Obj} {ns : List Nm} {f : Nm → V} {H : Hp} {R : It → Hp → Prop} (h : H d = some (.frz o (dO s ns f))) (q : R (itN s d o ns f) H) :
    ∃ d' o', V.ref d = .ref d' ∧ ((∃ kvs, H d' = some (.frz o' (.dK kvs)) ∧ R (Itk d' o' kvs) H) ∨ ∃ kvs, H d' = some (.frz o' (.dT kvs)) ∧ R (Itkt d' o' kvs) H) := by
  cases s with
  | false => exact ⟨d, o, rfl, .inl ⟨_, h, q⟩⟩
  | true => exact ⟨d, o, rfl, .inr ⟨_, h, q⟩⟩
/-! ### one rule or another: the reading chooses -/
def orE (a b : TE) : TE := fun σ H Q => a σ H Q ∨ b σ H Q
theorem pe_or2 {X : Cx} {e : Expr} {a b : TE} (x : PE X e a) (y : PE X e b) : PE X e (orE a b) := ⟨fun pins s σ H Q I z => z.elim (x.run pins s σ H Q I) (y.run pins s σ H Q I)⟩
def orI (a b : TI) : TI := fun σ H Q => a σ H Q ∨ b σ H Q
theorem pi_or2 {X : Cx} {t e : Expr} {a b : TI} (x : PI X t e a) (y : PI X t e b) : PI X t e (orI a b) := ⟨fun pins s σ H Q I z => z.elim (x.run pins s σ H Q I) (y.run pins s σ H Q I)⟩
def orS (a b : TS) : TS := fun D σ H => a D σ H ∨ b D σ H
theorem ps_or2 {X : Cx} {e : Stmt} {a b : TS} (x : PS X e a) (y : PS X e b) : PS X e (orS a b) := ⟨fun pins s σ H D I z => z.elim (x.run pins s σ H D I) (y.run pins s σ H D I)⟩
def orC (a b : List V → Hp → VK → Prop) : List V → Hp → VK → Prop := fun xs H Q => a xs H Q ∨ b xs H Q
theorem cr_or2 {X : Cx} {v : Value} {a b : List V → Hp → VK → Prop} (x : CallR X v a) (y : CallR X v b) : CallR X v (orC a b) := fun pins s σ H vs us Q I r z => z.elim (x pins s σ H vs us Q I r) (y pins s σ H vs us Q I r)
/-- {} -/
abbrev dnewN (a b : TE) : TE := orE a b

/-! ### {k: v for .. in ..}, the keys tuples -/
section
variable {X : Cx}
theorem setT {pins : List (Addr × Obj)} {σ : L2.St} {M : Hp} {z : Shared} {F : Value → Shared → Prop} {Z b : Addr} {kvs : List (List Key × V)} {k : List Key} {v : V} {r : Value} {Q : Unit → Shared → Prop} (hu : X.A.units < cLine) (J : Inv X pins σ M z) (hZ : M Z = some (.dT kvs)) (hb : M b = some (.tup (k.map kV))) (few : kvs.length < sizeLine) (rv : RelV v r)
    (q : ∀ z', Inv X pins σ (upd M Z (.dT (putK kvs k v))) z' → Q () z') : wpAny (model X.prog X.w) X.A (dictSet Z (.ref b) r) Q F z := by
  obtain ⟨z0, nm, xs, rel, dd⟩ := dt_of J.hok hZ
  have zx : xs.length ≤ sizeLine := Paired.length rel ▸ z0
  have zp : (putK kvs k v).length ≤ sizeLine := Nat.le_trans (length_putK kvs k v) few
  refine wpAny_dictSet_heap (knd := tupleKind (mixKind X.prog X.w)) (hsz := zx) hu (key_of J.hok hb) dd fun h2 dd2 sb => q _ ?_
  obtain ⟨o, es, ep, g1, g2, g3, g4, _, g6⟩ := dd2
  refine d_write J (hZ ▸ True.intro) sb ⟨o, g1⟩ ⟨zp, nm, _, (rel.put k hb rv).keeps fun c ys ec => ?_, o, es, ep, g1, g2, g3, g4, g6⟩
  exact (upd_ne (ne_of ec hZ (fun y => nomatch y))).trans ec
def tDcT (wi : TI) (g : TG) (tt : TT) (tk tv : TE) (vs : List Nat) : TE := fun σ H Q => wi σ H fun J H1 => ∀ D, H1 D = none → ∃ W : Nat → Nat → Hp → Prop, (∃ m, W 0 m (upd H1 D (.dT []))) ∧ ∀ i m H, W i m H →
  (J.stop i H ∧ Q (.ref D) H) ∨ (J.go i H ∧ ∃ Nx : Hp → Prop, (∀ H', Nx H' → ∃ m', m' < m ∧ W (i + 1) m' H') ∧ ∀ x H', J.yld i H x H' → g x (wipe σ vs) H' fun σ2 H2 => wipe σ2 vs = wipe σ vs ∧ tt σ2 H2 fun b H3 =>
    if b = true then tk σ2 H3 fun y H4 => tv σ2 H4 fun z H5 => ∃ kvs k b, y = .ref b ∧ H5 b = some (.tup (k.map kV)) ∧ H5 D = some (.dT kvs) ∧ kvs.length < sizeLine ∧ Nx (upd H5 D (.dT (putK kvs k z))) else Nx H3)
set_option maxHeartbeats 8000000 in
theorem dcT_core {pins : List (Addr × Obj)} {z0 : Shared} {σ : L2.St} {M0 : Hp} {Q : VK} {kx vx tg iter : Expr} {ifs : List Expr} {scope : Scope} {own : List (Str × Nat)} {pos pos2 : Pos} {wi : TI} {g : TG} {tt : TT} {tk tv : TE} {use : Option (Value → Sem Unit)} {Qf : Value → Shared → Prop} (calm : X.calm = true) (hu : X.A.units < cLine) (nodup : X.N.Nodup) (J0 : Inv X pins σ M0 z0) (src : PI X tg iter wi) (blk : BlkOk X.N X.env.scope scope own)
    (hg : ∀ (z : Shared) (M : Hp) (C : Addr) (cl : List (Str × Addr)) (fp : List Addr), PG (X.blk z M scope (compEnvC scope cl C X.env) fp) tg g) (ht : ∀ (z : Shared) (M : Hp) (C : Addr) (cl : List (Str × Addr)) (fp : List Addr), PTs (X.blk z M scope (compEnvC scope cl C X.env) fp) ifs tt)
    (hk : ∀ (z : Shared) (M : Hp) (C : Addr) (cl : List (Str × Addr)) (fp : List Addr), PE (X.blk z M scope (compEnvC scope cl C X.env) fp) kx tk)
    (hv : ∀ (z : Shared) (M : Hp) (C : Addr) (cl : List (Str × Addr)) (fp : List Addr), PE (X.blk z M scope (compEnvC scope cl C X.env) fp) vx tv) (fs : ∀ x, foldedSetIterable iter X.env x = pure x)
    (h : tDcT wi g tt tk tv (own.map (·.2)) σ M0 Q)
    (last : ∀ D C z6 mm M', Inv X pins σ M' z6 → Q (.ref D) M' → z6.heap.Ns C mm → FpOk X pins M' C → compPost (model X.prog X.w) X.A X.xe use Qf (.ref D) C (.ok .next) z6) :
    wpAny (model X.prog X.w) X.A (comprehension (.DictComp kx vx [⟨tg, iter, ifs, 0⟩] scope pos) scope X.env pos2 newDict false (eval iter X.env) use) Qf X.xe z0 := by
  have cells : ∀ y ∈ scope.names, y.2 = .free → ∃ c, X.env.cells.lookup y.1 = some c := fun y hy e => (blk.free y hy e).elim (fun k => J0.ok.has _ (.inl k)) fun k => J0.ok.has _ (.inr k)
  refine wpAny_comprehension_free (use := use) rfl fs (closure_ok cells) blk.kind (fun y hy e => (blk.uniq y hy).trans (congrArg some e)) (thn (src.run pins z0 σ M0 _ J0 h) fun xv z1 hx => thn hx fun itv z2 hit => ?_)
  obtain ⟨it, fp, tn, Jt, M2, rfl, J2, T, st2, f2, q⟩ := hit
  refine wpAny_newObj_type (newEnv_comp ?_)
  generalize eZ : z2.heap.objs.size = Z
  have nZ : M2 Z = none := J2.hok.fresh (Nat.le_of_eq eZ)
  obtain ⟨W, ⟨m0, w0⟩, turn⟩ := q Z nZ
  generalize ez3 : ({ z2 with heap := z2.heap.push { cls := .type "dict", data := .dict #[] } } : Shared) = z3
  have eh3 : z3.heap = z2.heap.push { cls := .type "dict", data := .dict #[] } := ez3 ▸ rfl
  have J3 : Inv X pins σ (upd M2 Z (.dT [])) z3 := ez3 ▸ J2.laid (t' := z2.toks) (fun b o e => Heap.get?_push_of_some _ e) (Nat.le_of_eq eZ) (eZ ▸ dt_empty z2.heap J2.big)
  have below : ∀ b ∈ fp, b < z2.heap.objs.size := fun b hb => let ⟨o, e, _⟩ := T.obj _ _ st2 b hb; Heap.lt_size e
  have f3 : ∀ b ∈ fp, FpOk X pins (upd M2 Z (.dT [])) b ∧ b < z3.heap.objs.size := fun b hb => by
    have lt := below b hb
    exact ⟨⟨(upd_ne (eZ ▸ Nat.ne_of_lt lt)).trans (f2 b hb).1, (f2 b hb).2⟩, eh3 ▸ (Heap.size_push .. ▸ Nat.lt_succ_of_lt lt)⟩
  have st3 : tn 0 z3.heap := T.keep _ _ _ st2 fun b _ o e => eh3 ▸ Heap.get?_push_of_some _ e
  have J4 := block_start J3 blk nodup f3
  have pg := hg z3 (upd M2 Z (.dT [])) z3.heap.objs.size (cellsFrom (z3.heap.objs.size + 1) scope.names (cloFrom X.env.cells scope.names [])) fp
  have pt := ht z3 (upd M2 Z (.dT [])) z3.heap.objs.size (cellsFrom (z3.heap.objs.size + 1) scope.names (cloFrom X.env.cells scope.names [])) fp
  have pk := hk z3 (upd M2 Z (.dT [])) z3.heap.objs.size (cellsFrom (z3.heap.objs.size + 1) scope.names (cloFrom X.env.cells scope.names [])) fp
  have pv' := hv z3 (upd M2 Z (.dT [])) z3.heap.objs.size (cellsFrom (z3.heap.objs.size + 1) scope.names (cloFrom X.env.cells scope.names [])) fp
  show codeAny _ _ (.compStart (.DictComp kx vx [⟨tg, iter, ifs, 0⟩] scope pos) 0 (.ref it) (.ref Z) (compEnvC scope (cellsFrom (z3.heap.objs.size + 1) scope.names (cloFrom X.env.cells scope.names [])) z3.heap.objs.size X.env)) (compPost (model X.prog X.w) X.A X.xe use Qf (.ref Z) z3.heap.objs.size) { z3 with heap := pushCells (z3.heap.push { cls := .type "dict", data := .dict #[] }) scope.names }
  have nfp : ∀ b ∈ fp, (upd M2 Z (.dT [])) b = none := fun b hb => (f3 b hb).1.1
  generalize ece : compEnvC scope (cellsFrom (z3.heap.objs.size + 1) scope.names (cloFrom X.env.cells scope.names [])) z3.heap.objs.size X.env = ce at J4 pg pt pk pv' ⊢
  have cl : ce.locals = z3.heap.objs.size := ece ▸ rfl
  generalize eM3 : upd M2 Z (.dT []) = M3 at J3 J4 pg pt pk pv' w0 nfp f3
  generalize ez4 : ({ z3 with heap := pushCells (z3.heap.push { cls := .type "dict", data := .dict #[] }) scope.names } : Shared) = z4 at J4 ⊢
  have st4 : tn 0 z4.heap := T.keep _ _ _ st3 fun b _ o e => ez4 ▸ pushCells_keeps _ _ _ _ (Heap.get?_push_of_some _ e)
  have still : ∀ {τ : L2.St} {M' : Hp} {z' : Shared}, Inv (X.blk z3 M3 scope ce fp) [] τ M' z' → (∀ b ∈ fp, M' b = none) → ∀ b ∈ fp, FpOk (X.blk z3 M3 scope ce fp) [] M' b := fun {τ M' z'} J' nn b hb =>
    ⟨nn b hb, (J'.ok.exf b hb).1, J'.ok.exfs b hb, .inl hb, fun x c e => (J'.ok.exf b hb).2 x c e, fun p hp => absurd (show p ∈ ([] : List (Addr × Obj)) ++ [] from hp) (by simp)⟩
  have loop : codeAny (model X.prog X.w) X.A (.compLoop (.DictComp kx vx [⟨tg, iter, ifs, 0⟩] scope pos) 0 (.ref it) (.ref Z) ce) (compPost (model X.prog X.w) X.A X.xe use Qf (.ref Z) z3.heap.objs.size) z4 := by
    refine compLoop_anyD (fun n z' => ∃ i M', Inv (X.blk z3 M3 scope ce fp) [] (wipe σ (own.map (·.2))) M' z' ∧ tn i z'.heap ∧ (∀ b ∈ fp, M' b = none) ∧ W i n M') ?_ m0 ⟨0, M3, J4, st4, nfp, w0⟩
    rintro n z5 ⟨i, M5, J5, st5, n5, w5⟩
    rcases turn i n M5 w5 with ⟨stop, qq⟩ | ⟨go, Nx, hNx, step⟩
    · refine thnF (T.done (X.blk z3 M3 scope ce fp) rfl rfl rfl calm i [] z5 _ M5 (fun _ _ => False) J5 (still J5 n5) st5 stop) fun r z6 ⟨er, J6⟩ => ?_
      subst er
      have J7 : Inv X pins σ M5 z6 := J3.call' (ch := fp) J6.os J6.base J6.hok J6.bare fun b hb => ⟨(f3 b hb).1.2.2.2.1, (f3 b hb).1.2.1, (f3 b hb).1.2.2.2.2.1, (f3 b hb).1.2.2.2.2.2⟩
      have nC : M5 z3.heap.objs.size = none := cl ▸ (show M5 ce.locals = none from J6.free)
      obtain ⟨mm, hn, _⟩ := J6.loc
      have hn : z6.heap.Ns z3.heap.objs.size mm := cl ▸ (show z6.heap.Ns ce.locals mm from hn)
      exact last Z z3.heap.objs.size z6 mm M5 J7 qq hn (J3.fpOk (Nat.le_refl _) nC)
    · refine thnF (T.item (X.blk z3 M3 scope ce fp) rfl rfl rfl calm i [] z5 _ M5 (fun _ _ => False) J5 (still J5 n5) st5 go) fun r z6 ⟨u, er, h6⟩ => ?_
      subst er
      refine thnF h6 fun _ z7 ⟨x, M7, J7, r7, y7, st7, n7⟩ => ?_
      refine thnF (pg.run _ z7 _ M7 x u _ (J7.pinned (still J7 n7) (T.obj _ _ st7)) r7 (step x M7 y7)) fun _ z8 ⟨τ, M8, J8, hw8, q8⟩ => ?_
      refine thnF (pt.run _ z8 τ M8 _ J8 q8) fun b z9 ⟨M9, J9, q9⟩ => ?_
      have fin : ∀ {z' : Shared} {M' : Hp}, Inv (X.blk z3 M3 scope ce fp) ([] ++ pinsAt fp z7.heap) τ M' z' → Nx M' → ∃ m, m < n ∧ ∃ i M', Inv (X.blk z3 M3 scope ce fp) [] (wipe σ (own.map (·.2))) M' z' ∧ tn i z'.heap ∧ (∀ b ∈ fp, M' b = none) ∧ W i m M' := fun {z' M'} J' nx => by
        obtain ⟨m', lt, w'⟩ := hNx M' nx
        have pin' : ∀ b ∈ fp, ∀ o, z7.heap.get? b = some o → z'.heap.get? b = some o ∧ M' b = none := fun b hb o e =>
          let y := J'.pin (b, o) (List.mem_append_right _ (List.mem_append_right _ (mem_pinsAt hb e)))
          ⟨y.1, y.2.1⟩
        refine ⟨m', lt, i + 1, M', (J'.unpinned (pins := [])).weak (by rw [← hw8, wipe_length]) (fun j v e => (wipe_some (hw8 ▸ e)).1), T.keep _ _ _ st7 fun b hb o e => (pin' b hb o e).1, fun b hb => ?_, w'⟩
        obtain ⟨o, e, _⟩ := T.obj _ _ st7 b hb
        exact (pin' b hb o e).2
      cases b with
      | false =>
        simp only [Bool.false_eq_true, if_false] at q9 ⊢
        exact fin J9 q9
      | true =>
        simp only [if_true] at q9 ⊢
        refine thnF (pk.run _ z9 τ M9 _ J9 q9) fun ku z10 ⟨yk, M10, J10, r10, q10⟩ => thnF (pv'.run _ z10 τ M10 _ J10 q10) fun vu z11 ⟨yv, M11, J11, r11, kvs, k, kb, ek, hkb, hZ11, few, nx⟩ => ?_
        subst ek
        cases (show ku = Value.ref kb from r10)
        exact setT (X := X.blk z3 M3 scope ce fp) hu J11 hZ11 hkb few r11 fun z12 J12 => fin J12 nx
  exact codeAny_compStart_dict loop (T.self X.A 0 _ _ _ st4 loop)
theorem pe_dcT {kx vx tg iter : Expr} {ifs : List Expr} {scope : Scope} {own : List (Str × Nat)} {pos : Pos} {wi : TI} {g : TG} {tt : TT} {tk tv : TE} (calm : X.calm = true) (hu : X.A.units < cLine) (nodup : X.N.Nodup) (src : PI X tg iter wi) (blk : BlkOk X.N X.env.scope scope own)
    (hg : ∀ (z : Shared) (M : Hp) (C : Addr) (cl : List (Str × Addr)) (fp : List Addr), PG (X.blk z M scope (compEnvC scope cl C X.env) fp) tg g) (ht : ∀ (z : Shared) (M : Hp) (C : Addr) (cl : List (Str × Addr)) (fp : List Addr), PTs (X.blk z M scope (compEnvC scope cl C X.env) fp) ifs tt)
    (hk : ∀ (z : Shared) (M : Hp) (C : Addr) (cl : List (Str × Addr)) (fp : List Addr), PE (X.blk z M scope (compEnvC scope cl C X.env) fp) kx tk)
    (hv : ∀ (z : Shared) (M : Hp) (C : Addr) (cl : List (Str × Addr)) (fp : List Addr), PE (X.blk z M scope (compEnvC scope cl C X.env) fp) vx tv) (fs : ∀ x, foldedSetIterable iter X.env x = pure x := by intro _; rfl) :
    PE X (.DictComp kx vx [⟨tg, iter, ifs, 0⟩] scope pos) (tDcT wi g tt tk tv (own.map (·.2))) := by
  refine ⟨fun pins z0 σ M0 Q J0 h => ?_⟩
  rw [arm_eval_DictComp]
  refine dcT_core calm hu nodup J0 src blk hg ht hk hv fs h fun D C z6 mm M' J' qq hn f => ⟨mm, hn, fun h9 sb => ?_⟩
  obtain ⟨a0, a1, _, a3, a4, a5⟩ := f
  exact ⟨.ref D, M', J'.turned (t' := z6.toks) (fun b o nb e => (sb.2 b nb).trans e) a0 a1 a3 a4 a5, rfl, qq⟩
theorem ps_setDcT {j : Nat} {nm : Str} {np : Pos} {kx vx tg iter : Expr} {ifs : List Expr} {scope : Scope} {own : List (Str × Nat)} {pos stp : Pos} {wi : TI} {g : TG} {tt : TT} {tk tv : TE} (calm : X.calm = true) (hu : X.A.units < cLine) (nodup : X.N.Nodup) (at' : X.N[j]? = some nm) (loc : X.env.scope.names.lookup nm = some .local)
    (sw : swapsWith (.DictComp kx vx [⟨tg, iter, ifs, 0⟩] scope pos) (some (.Name nm np)) stp.line X.env = pure true) (src : PI X tg iter wi) (blk : BlkOk X.N X.env.scope scope own)
    (hg : ∀ (z : Shared) (M : Hp) (C : Addr) (cl : List (Str × Addr)) (fp : List Addr), PG (X.blk z M scope (compEnvC scope cl C X.env) fp) tg g) (ht : ∀ (z : Shared) (M : Hp) (C : Addr) (cl : List (Str × Addr)) (fp : List Addr), PTs (X.blk z M scope (compEnvC scope cl C X.env) fp) ifs tt)
    (hk : ∀ (z : Shared) (M : Hp) (C : Addr) (cl : List (Str × Addr)) (fp : List Addr), PE (X.blk z M scope (compEnvC scope cl C X.env) fp) kx tk)
    (hv : ∀ (z : Shared) (M : Hp) (C : Addr) (cl : List (Str × Addr)) (fp : List Addr), PE (X.blk z M scope (compEnvC scope cl C X.env) fp) vx tv) (fs : ∀ x, foldedSetIterable iter X.env x = pure x := by intro _; rfl) :
    PS X (.Assign [.Name nm np] (.DictComp kx vx [⟨tg, iter, ifs, 0⟩] scope pos) stp) (tAsg (tDcT wi g tt tk tv (own.map (·.2))) (gName j)) := by
  refine ⟨fun pz z0 σ0 M0 D0 J0 hq => ?_⟩
  rw [exec_Assign_Name_used _ _ _ _ sw]
  refine wpAny_bind (wpAny_standAt (wpAny_bind ?_))
  show wpAny _ X.A (do let _ ← comprehension (.DictComp kx vx [⟨tg, iter, ifs, 0⟩] scope pos) scope X.env (firstIterPos [⟨tg, iter, ifs, 0⟩] pos) newDict false (eval iter X.env) (some (assign (.Name nm np) X.env))) _ _ z0
  have hq2 : tDcT wi g tt tk tv (own.map (·.2)) σ0 M0 (fun x M1 => gName j x σ0 M1 D0.nx) := hq
  refine wpAny_bind (thn (dcT_core (Qf := fun _ z9 => SP X pz D0 .next z9) calm hu nodup J0 src blk hg ht hk hv fs hq2 fun Lz Cz z8 mz M8 J8 w8 n8 p8 => ?_) fun _ z9 w9 => wpAny_pure (wpAny_pure w9))
  show wpAny _ _ (assign (.Name nm np) X.env (.ref Lz)) _ _ _
  refine wpAny_assign_Name (store_ok2 (v := V.ref Lz) J8 nodup at' (.inl loc) rfl (fun z7 J7 ⟨az, sbz, haz⟩ => ?_) (.inr loc))
  obtain ⟨p0, p1, p2, p3, p4, p5⟩ := p8
  have far : Cz ≠ az := haz.elim (fun z => by rw [z]; exact p1) fun z e => p4 nm az z e.symm
  refine ⟨mz, n8.sameBut sbz far, fun h6 sb6 => ?_⟩
  exact ⟨_, M8, J7.turned (t' := z7.toks) (fun b o hb e => (sb6.2 b hb).trans e) p0 p1 p3 p4 p5, w8⟩
end

/-! ### rules for dicts of names -/
theorem dnew_nm {s : Bool} {f : Nm → V} {σ : L2.St} {H : Hp} {Q : VK} (q : ∀ p, H p = none → Q (.ref p) (upd H p (dO s [] f))) : orE tDNewK tDNewT σ H Q := by
  cases s with
  | false => exact .inl q
  | true => exact .inr q
/-- {k: v for .. in ..}, the keys names -/
def tDcN (wi : TI) (g : TG) (tt : TT) (tk tv : TE) (vs : List Nat) : TE := orE (tDc wi g tt tk tv vs) (tDcT wi g tt tk tv vs)
section
variable {X : Cx}
theorem pe_dcN {kx vx tg iter : Expr} {ifs : List Expr} {scope : Scope} {own : List (Str × Nat)} {pos : Pos} {wi : TI} {g : TG} {tt : TT} {tk tv : TE} (calm : X.calm = true) (hu : X.A.units < cLine) (nodup : X.N.Nodup) (src : PI X tg iter wi) (blk : BlkOk X.N X.env.scope scope own)
    (hg : ∀ (z : Shared) (M : Hp) (C : Addr) (cl : List (Str × Addr)) (fp : List Addr), PG (X.blk z M scope (compEnvC scope cl C X.env) fp) tg g) (ht : ∀ (z : Shared) (M : Hp) (C : Addr) (cl : List (Str × Addr)) (fp : List Addr), PTs (X.blk z M scope (compEnvC scope cl C X.env) fp) ifs tt)
    (hk : ∀ (z : Shared) (M : Hp) (C : Addr) (cl : List (Str × Addr)) (fp : List Addr), PE (X.blk z M scope (compEnvC scope cl C X.env) fp) kx tk)
    (hv : ∀ (z : Shared) (M : Hp) (C : Addr) (cl : List (Str × Addr)) (fp : List Addr), PE (X.blk z M scope (compEnvC scope cl C X.env) fp) vx tv) (fs : ∀ x, foldedSetIterable iter X.env x = pure x := by intro _; rfl) :
    PE X (.DictComp kx vx [⟨tg, iter, ifs, 0⟩] scope pos) (tDcN wi g tt tk tv (own.map (·.2))) := pe_or2 (pe_dc calm nodup src blk hg ht hk hv fs) (pe_dcT calm hu nodup src blk hg ht hk hv fs)
theorem ps_setDcN {j : Nat} {nm : Str} {np : Pos} {kx vx tg iter : Expr} {ifs : List Expr} {scope : Scope} {own : List (Str × Nat)} {pos stp : Pos} {wi : TI} {g : TG} {tt : TT} {tk tv : TE} (calm : X.calm = true) (hu : X.A.units < cLine) (nodup : X.N.Nodup) (at' : X.N[j]? = some nm) (loc : X.env.scope.names.lookup nm = some .local)
    (sw : swapsWith (.DictComp kx vx [⟨tg, iter, ifs, 0⟩] scope pos) (some (.Name nm np)) stp.line X.env = pure true) (src : PI X tg iter wi) (blk : BlkOk X.N X.env.scope scope own)
    (hg : ∀ (z : Shared) (M : Hp) (C : Addr) (cl : List (Str × Addr)) (fp : List Addr), PG (X.blk z M scope (compEnvC scope cl C X.env) fp) tg g) (ht : ∀ (z : Shared) (M : Hp) (C : Addr) (cl : List (Str × Addr)) (fp : List Addr), PTs (X.blk z M scope (compEnvC scope cl C X.env) fp) ifs tt)
    (hk : ∀ (z : Shared) (M : Hp) (C : Addr) (cl : List (Str × Addr)) (fp : List Addr), PE (X.blk z M scope (compEnvC scope cl C X.env) fp) kx tk)
    (hv : ∀ (z : Shared) (M : Hp) (C : Addr) (cl : List (Str × Addr)) (fp : List Addr), PE (X.blk z M scope (compEnvC scope cl C X.env) fp) vx tv) (fs : ∀ x, foldedSetIterable iter X.env x = pure x := by intro _; rfl) :
    PS X (.Assign [.Name nm np] (.DictComp kx vx [⟨tg, iter, ifs, 0⟩] scope pos) stp) (tAsg (tDcN wi g tt tk tv (own.map (·.2))) (gName j)) := by
  have a := ps_setDc calm nodup at' loc sw src blk hg ht hk hv fs
  have b := ps_setDcT calm hu nodup at' loc sw src blk hg ht hk hv fs
  exact ⟨fun pins z σ H D I q => (show _ ∨ _ from q).elim (a.run pins z σ H D I) (b.run pins z σ H D I)⟩
end
/-- what one dict comprehension's turn wants, the keys names -/
def NmTurn (D : Addr) (s : Bool) (y z : V) (H5 : Hp) (N : Hp → Prop) : Prop := ∃ (ns : List Nm) (f : Nm → V) (x : Nm), H5 D = some (dO s ns f) ∧ AllS s ns ∧ sdN x = s ∧ x ∉ ns ∧ IsN H5 y x ∧ ns.length < sizeLine ∧ N (upd H5 D (dO s (ns ++ [x]) (up1 f x z)))
theorem DPut.k' {H H' : Hp} {d : Addr} {kvs : List (Key × V)} {y v : V} (e : H d = some (.dK kvs)) (g : DPut H d y v H') : ∃ k, y = kV k ∧ kvs.length < sizeLine ∧ H' = upd H d (.dK (putK kvs k v)) := by
  rcases g with ⟨kvs', k, e', h1, h2, h3⟩ | ⟨kvs', k, b, e', _⟩
  · rw [e] at e'
    injection e' with e'
    injection e' with e'
    subst e'
    exact ⟨k, h1, h2, h3⟩
  · rw [e] at e'
    exact nomatch e'
theorem DPut.t' {H H' : Hp} {d : Addr} {kvs : List (List Key × V)} {y v : V} (e : H d = some (.dT kvs)) (g : DPut H d y v H') : ∃ k b, y = .ref b ∧ H b = some (.tup (k.map kV)) ∧ kvs.length < sizeLine ∧ H' = upd H d (.dT (putK kvs k v)) := by
  rcases g with ⟨kvs', k, e', _⟩ | ⟨kvs', k, b, e', h1, h2, h3, h4⟩
  · rw [e] at e'
    exact nomatch e'
  · rw [e] at e'
    injection e' with e'
    injection e' with e'
    subst e'
    exact ⟨k, b, h1, h2, h3, h4⟩
/-- a dict comprehension over any walk, the keys new names of one sort -/
theorem dcN_it {s : Bool} {f0 : Nm → V} {J : It} {n : Nat} {G : Hp → Prop} {Y : Nat → Hp → V → Hp → Prop} (w : Walk J n G Y) {wi : TI} {g : TG} {tt : TT} {tk tv : TE} {vs : List Nat} {σ : L2.St} {H H1 : Hp} {Q : VK} (Pv : Addr → Nat → Hp → Prop)
    (src : ∀ R : It → Hp → Prop, R J H1 → wi σ H R) (h0 : ∀ D, H1 D = none → Pv D 0 (upd H1 D (dO s [] f0))) (hG : ∀ D i H, H1 D = none → i ≤ n → Pv D i H → G H)
    (hs : ∀ D i x H H', H1 D = none → i < n → Pv D i H → Y i H x H' → g x (wipe σ vs) H' fun σ2 H2 => wipe σ2 vs = wipe σ vs ∧ tt σ2 H2 fun b H3 =>
      if b = true then tk σ2 H3 fun y H4 => tv σ2 H4 fun z H5 => NmTurn D s y z H5 (Pv D (i + 1)) else Pv D (i + 1) H3) (hd : ∀ D H, H1 D = none → Pv D n H → Q (.ref D) H)
    (tgm : ∀ {x : V} {σ' : L2.St} {H' : Hp} {P R : L2.St → Hp → Prop}, (∀ a b, P a b → R a b) → g x σ' H' P → g x σ' H' R) (ttm : ∀ {σ' : L2.St} {H' : Hp} {P R : Bool → Hp → Prop}, (∀ a b, P a b → R a b) → tt σ' H' P → tt σ' H' R)
    (tkm : ∀ {σ' : L2.St} {H' : Hp} {P R : V → Hp → Prop}, (∀ a b, P a b → R a b) → tk σ' H' P → tk σ' H' R) (tvm : ∀ {σ' : L2.St} {H' : Hp} {P R : V → Hp → Prop}, (∀ a b, P a b → R a b) → tv σ' H' P → tv σ' H' R) :
    tDcN wi g tt tk tv vs σ H Q := by
  cases s with
  | false =>
    refine .inl (src _ fun D nD => dcI_it w (Pv D) (h0 D nD) (fun i H => hG D i H nD) (fun i x H H' hi p y => ?_) fun H p => hd D H nD p)
    refine tgm (fun σ2 H2 => fun ⟨e, h⟩ => ⟨e, ttm (fun b H3 => ?_) h⟩) (hs D i x H H' nD hi p y)
    cases b with
    | false => exact id
    | true =>
      intro h
      refine tkm (fun y H4 h => tvm (fun z H5 h => ?_) h) h
      obtain ⟨ns, f, x, hD, al, sx, nx, iv, len, q⟩ := h
      obtain ⟨k, e1, e2, e3⟩ := DPut.k' hD (dO_new (u := z) al sx nx hD iv len)
      exact ⟨_, k, e1, hD, e2, by rw [← e3]; exact q⟩
  | true =>
    refine .inr (src _ fun D nD => ?_)
    refine ⟨fun i m H => m = n - i ∧ i ≤ n ∧ Pv D i H, ⟨n, by simp, Nat.zero_le _, h0 D nD⟩, ?_⟩
    rintro i m H ⟨rfl, hi, p⟩
    have q := hG D i H nD hi p
    by_cases hlt : i < n
    · refine .inr ⟨w.goes i H hlt q, Pv D (i + 1), fun H' p' => ⟨n - (i + 1), by omega, rfl, hlt, p'⟩, fun x H' y => ?_⟩
      refine tgm (fun σ2 H2 => fun ⟨e, h⟩ => ⟨e, ttm (fun b H3 => ?_) h⟩) (hs D i x H H' nD hlt p (w.yields i H x H' hlt q y))
      cases b with
      | false => exact id
      | true =>
        intro h
        refine tkm (fun y H4 h => tvm (fun z H5 h => ?_) h) h
        obtain ⟨ns, f, x, hD, al, sx, nx, iv, len, q⟩ := h
        obtain ⟨k, b, e1, e2, e3, e4⟩ := DPut.t' hD (dO_new (u := z) al sx nx hD iv len)
        exact ⟨_, k, b, e1, e2, hD, e3, by rw [← e4]; exact q⟩
    · have e : i = n := by omega
      subst e
      exact .inl ⟨w.stops H q, hd D H nD p⟩
/-! ### for and comprehensions over their keys -/
def ForW (g : TG) (tb : TS) (D : Ends) (σ : L2.St) (H : Hp) (J : It) : Prop :=
  ∃ W : Nat → Nat → L2.St → Hp → Prop, (∃ m, W 0 m σ H) ∧ ∀ i m σ H, W i m σ H →
      (J.stop i H ∧ D.nx σ H) ∨ (J.go i H ∧ ∃ N : L2.St → Hp → Prop, (∀ σ' H', N σ' H' → ∃ m', m' < m ∧ W (i + 1) m' σ' H') ∧ ∀ x H', J.yld i H x H' → g x σ H' fun σ2 H2 => tb { D with nx := N, ct := N, bk := D.nx } σ2 H2)
theorem forN_it {s : Bool} {d : Addr} {o : Obj} {ns : List Nm} {f : Nm → V} (al : AllS s ns) {g : TG} {tb : TS} {D : Ends} {σ : L2.St} {H : Hp} (hd : H d = some (.frz o (dO s ns f))) (Pv : Nat → L2.St → Hp → Prop) (h0 : Pv 0 σ H) (hG : ∀ i σ H, i ≤ ns.length → Pv i σ H → H d = some (.frz o (dO s ns f)))
    (hs : ∀ i v x σ H, i < ns.length → ns[i]? = some x → Pv i σ H → IsN H v x → g v σ H fun σ2 H2 => tb { D with nx := Pv (i + 1), ct := Pv (i + 1), bk := D.nx } σ2 H2) (he : ∀ σ H, Pv ns.length σ H → D.nx σ H) :
    ∃ d' o', V.ref d = .ref d' ∧ ((∃ kvs, H d' = some (.frz o' (.dK kvs)) ∧ ForW g tb D σ H (Itk d' o' kvs)) ∨ ∃ kvs, H d' = some (.frz o' (.dT kvs)) ∧ ForW g tb D σ H (Itkt d' o' kvs)) :=
  keys_nm (R := fun J _ => ForW g tb D σ H J) hd (for_it (walk_nm al) Pv h0 hG (fun i v σ H H' hi p y => by
    obtain ⟨rfl, x, hx, ix⟩ := y
    exact hs i v x σ H' hi hx p ix) he)
def LcW (g : TG) (tt : TT) (te : TE) (vs : List Nat) (σ : L2.St) (Q : Addr → Hp → Prop) (H1 : Hp) (J : It) : Prop :=
  ∀ D, H1 D = none → ∃ W : Nat → Nat → Hp → Prop, (∃ m, W 0 m (upd H1 D (.lst []))) ∧ ∀ i m H, W i m H →
      (J.stop i H ∧ Q D H) ∨ (J.go i H ∧ ∃ Nx : Hp → Prop, (∀ H', Nx H' → ∃ m', m' < m ∧ W (i + 1) m' H') ∧ ∀ x H', J.yld i H x H' → g x (wipe σ vs) H' fun σ2 H2 => wipe σ2 vs = wipe σ vs ∧ tt σ2 H2 fun b H3 =>
        if b = true then te σ2 H3 fun y H4 => ∃ acc, H4 D = some (.lst acc) ∧ acc.length < sizeLine ∧ Nx (upd H4 D (.lst (acc ++ [y]))) else Nx H3)
theorem lcN_it {s : Bool} {d : Addr} {o : Obj} {ns : List Nm} {f : Nm → V} (al : AllS s ns) {g : TG} {tt : TT} {te : TE} {vs : List Nat} {σ : L2.St} {Q : Addr → Hp → Prop} {H1 : Hp} (hd : H1 d = some (.frz o (dO s ns f))) (Pv : Addr → Nat → Hp → Prop) (h0 : ∀ D, H1 D = none → Pv D 0 (upd H1 D (.lst []))) (hG : ∀ D i H, H1 D = none → i ≤ ns.length → Pv D i H → H d = some (.frz o (dO s ns f)))
    (hs : ∀ D i v x H, H1 D = none → i < ns.length → ns[i]? = some x → Pv D i H → IsN H v x → g v (wipe σ vs) H fun σ2 H2 => wipe σ2 vs = wipe σ vs ∧ tt σ2 H2 fun b H3 =>
      if b = true then te σ2 H3 fun y H4 => ∃ acc, H4 D = some (.lst acc) ∧ acc.length < sizeLine ∧ Pv D (i + 1) (upd H4 D (.lst (acc ++ [y]))) else Pv D (i + 1) H3) (he : ∀ D H, H1 D = none → Pv D ns.length H → Q D H) :
    ∃ d' o', V.ref d = .ref d' ∧ ((∃ kvs, H1 d' = some (.frz o' (.dK kvs)) ∧ LcW g tt te vs σ Q H1 (Itk d' o' kvs)) ∨ ∃ kvs, H1 d' = some (.frz o' (.dT kvs)) ∧ LcW g tt te vs σ Q H1 (Itkt d' o' kvs)) :=
  keys_nm (R := fun J _ => LcW g tt te vs σ Q H1 J) hd fun D nD => lc_it (walk_nm al) (Pv D) (h0 D nD) (fun i H => hG D i H nD) (fun i v H H' hi p y => by
    obtain ⟨rfl, x, hx, ix⟩ := y
    exact hs D i v x H' nD hi hx p ix) fun H p => he D H nD p
theorem u2 {k : Nat} {A : Around} (h : Room k A) : A.units + 2 < cLine := by
  have := h.un
  omega

theorem op_catAK {X : Cx} {K : PySem.W.Frag} (hK : X.K = K) : OpR X (binaryOp .Add) (rCatA K) := by
  subst hK
  exact op_catA

end My
namespace My
open PySem PySem.Spec PyProof.Rows L2
/-! ### names in order -/
def keyD : Key → PyData
  | .inl i => .int i
  | .inr x => .str x
def encN : Nm → PyData
  | .i n => .int n
  | .m k => .tuple (k.map keyD)
def mkP (a : Int) : Nm := .m [.inr "point", .inl a]
def mkO (a b : Int) : Nm := .m [.inr "over", .inl a, .inl b]
/-- a name that may be: an int, or a mark -/
def MarkN : Nm → Prop
  | .i n => n.natAbs < 2 ^ 29
  | .m k => (∃ a : Int, (0 ≤ a ∧ a < 2 ^ 60) ∧ k = [.inr "point", .inl a]) ∨ ∃ a b : Int, (0 ≤ a ∧ a < 2 ^ 60) ∧ (0 ≤ b ∧ b < 2 ^ 60) ∧ k = [.inr "over", .inl a, .inl b]
def AllG (s : Bool) (ns : List Nm) : Prop := ∀ x ∈ ns, sdN x = s ∧ MarkN x
theorem AllG.s {s : Bool} {ns : List Nm} (h : AllG s ns) : AllS s ns := fun x m => (h x m).1
theorem AllG.sub {s : Bool} {ns ms : List Nm} (h : AllG s ns) (k : ∀ x ∈ ms, x ∈ ns) : AllG s ms := fun x m => h x (k x m)
inductive Gn : Bool → Nm → Prop
  | i (n : Int) : Gn false (.i n)
  | p (a : Int) : Gn true (mkP a)
  | o (a b : Int) : Gn true (mkO a b)
theorem AllG.gn {s : Bool} {ns : List Nm} (h : AllG s ns) {x : Nm} (m : x ∈ ns) : Gn s x := by
  obtain ⟨e, k⟩ := h x m
  cases x with
  | i n =>
    subst e
    exact .i n
  | m k' =>
    subst e
    rcases k with ⟨a, _, rfl⟩ | ⟨a, b, _, _, rfl⟩
    · exact .p a
    · exact .o a b
theorem Gn.sd {s : Bool} {x : Nm} (h : Gn s x) : sdN x = s := by cases h <;> rfl
theorem Gn.alike {s : Bool} {x y : Nm} (h : Gn s x) (k : Gn s y) : PySem.W.alike (encN x) (encN y) = true := by
  cases h <;> cases k <;> simp [encN, mkP, mkO, keyD, PySem.W.alike, PySem.W.alikeAll]
def leB : Nm → Nm → Bool := PySem.W.dataLe false encN
theorem leB_def {x y : Nm} : leB x y = !(PyProof.Rows.lexLt PyProof.Rows.itemOrd (PySem.W.keyToks (encN y)) (PySem.W.keyToks (encN x))) := rfl
theorem leB_trans (a b c : Nm) (h : leB a b = true) (k : leB b c = true) : leB a c = true := by
  rw [leB_def, Bool.not_eq_true'] at h k ⊢
  cases e : PyProof.Rows.lexLt PyProof.Rows.itemOrd (PySem.W.keyToks (encN c)) (PySem.W.keyToks (encN a)) with
  | false => rfl
  | true =>
    rcases PyProof.Rows.lex_negTrans _ (PySem.W.keyToks (encN b)) _ e with z | z
    · rw [k] at z
      exact nomatch z
    · rw [h] at z
      exact nomatch z
theorem leB_total (a b : Nm) : (leB a b || leB b a) = true := by
  rw [leB_def, leB_def]
  cases e : PyProof.Rows.lexLt PyProof.Rows.itemOrd (PySem.W.keyToks (encN b)) (PySem.W.keyToks (encN a)) with
  | false => rfl
  | true =>
    cases e2 : PyProof.Rows.lexLt PyProof.Rows.itemOrd (PySem.W.keyToks (encN a)) (PySem.W.keyToks (encN b)) with
    | false => rfl
    | true =>
      have z := PyProof.Rows.lex_trans _ _ _ e e2
      rw [PyProof.Rows.lex_irrefl] at z
      exact nomatch z
theorem toks_inj {s : Bool} {x y : Nm} (h : Gn s x) (k : Gn s y) (e : PySem.W.keyToks (encN x) = PySem.W.keyToks (encN y)) : x = y := by
  cases h <;> cases k
  · simp [encN, PySem.W.keyToks] at e
    rw [e]
  · simp [encN, mkP, mkO, keyD, PySem.W.keyToks, PySem.W.keyToksAll] at e
    rw [e]
  · simp [encN, mkP, mkO, keyD, PySem.W.keyToks, PySem.W.keyToksAll] at e
  · simp [encN, mkP, mkO, keyD, PySem.W.keyToks, PySem.W.keyToksAll] at e
  · simp [encN, mkP, mkO, keyD, PySem.W.keyToks, PySem.W.keyToksAll] at e
    rw [e.1, e.2]
theorem leB_anti {s : Bool} {x y : Nm} (h : Gn s x) (k : Gn s y) (a : leB x y = true) (b : leB y x = true) : x = y := by
  rw [leB_def, Bool.not_eq_true'] at a b
  exact toks_inj h k (PyProof.Rows.lex_total _ _ b a)
def sortN (ns : List Nm) : List Nm := ns.mergeSort leB
theorem sortN_perm {ns : List Nm} : (sortN ns).Perm ns := List.mergeSort_perm _ _
theorem sortN_srt {ns : List Nm} : (sortN ns).Pairwise fun a b => leB a b = true := List.pairwise_mergeSort leB_trans leB_total ns
theorem sort_det {s : Bool} {xs ys : List Nm} (al : AllG s ys) (pm : xs.Perm ys) (sx : xs.Pairwise fun a b => leB a b = true) (sy : ys.Pairwise fun a b => leB a b = true) : xs = ys :=
  List.Perm.eq_of_pairwise (fun a b ma mb h1 h2 => leB_anti (al.gn (pm.mem_iff.mp ma)) (al.gn mb) h1 h2) sx sy pm
theorem sortN_of {s : Bool} {xs ys : List Nm} (al : AllG s ys) (pm : xs.Perm ys) : sortN xs = sortN ys :=
  sort_det (s := s) (al.sub fun x m => sortN_perm.mem_iff.mp m) ((sortN_perm.trans pm).trans sortN_perm.symm) sortN_srt sortN_srt
theorem sortN_id {s : Bool} {xs : List Nm} (al : AllG s xs) (sx : xs.Pairwise fun a b => leB a b = true) : sortN xs = xs := sort_det (s := s) al sortN_perm sortN_srt sx
theorem sortN_len {ns : List Nm} : (sortN ns).length = ns.length := sortN_perm.length_eq
theorem sortN_mem {ns : List Nm} {x : Nm} : x ∈ sortN ns ↔ x ∈ ns := sortN_perm.mem_iff
theorem leB_int {x y : Int} : leB (.i x) (.i y) = decide (x ≤ y) := by
  rw [leB_def]
  show (!PySem.W.dataLt (.int y) (.int x)) = _
  rw [PySem.W.dataLt_int, PySem.W.not_lt_int]
/-- names of things of the heap -/
abbrev Nms (H : Hp) : List V → List Nm → Prop := Paired (IsN H)
theorem Nms.up {H H' : Hp} (k : TupK H H') {vs : List V} {ns : List Nm} (h : Nms H vs ns) : Nms H' vs ns := L2.Paired.mapP h fun _ _ z => IsN.up k z
theorem paired_at {α β : Type} {F : α → β → Prop} {xs : List α} {ys : List β} (p : Paired F xs ys) : ∀ {i : Nat} {x : α}, xs[i]? = some x → ∃ y, ys[i]? = some y ∧ F x y := by
  induction p with
  | nil => intro i x e; simp at e
  | cons f _ ih =>
    intro i x e
    cases i with
    | zero =>
      simp at e
      subst e
      exact ⟨_, rfl, f⟩
    | succ i => exact ih (by simpa using e)
theorem paired_ta {α β : Type} {F : α → β → Prop} {xs : List α} {ys : List β} (p : Paired F xs ys) : ∀ {i : Nat} {y : β}, ys[i]? = some y → ∃ x, xs[i]? = some x ∧ F x y := by
  induction p with
  | nil => intro i x e; simp at e
  | cons f _ ih =>
    intro i x e
    cases i with
    | zero =>
      simp at e
      subst e
      exact ⟨_, rfl, f⟩
    | succ i => exact ih (by simpa using e)
/-! ### sorted of a dict, of a list -/
def IsNv (H : Hp) (u : Value) (x : Nm) : Prop := ∃ v, RelV v u ∧ IsN H v x
theorem nms_each {H : Hp} : ∀ {vs : List V} {ns : List Nm} {us : List Value}, Nms H vs ns → Vals vs us → PySem.W.EachIs (IsNv H) us ns
  | _, _, _, .nil, .nil => .nil
  | _, _, _, .cons h k, .cons r s => .cons ⟨_, r, h⟩ (nms_each k s)
theorem each_nms {H : Hp} : ∀ {us : List Value} {ns : List Nm}, PySem.W.EachIs (IsNv H) us ns → ∃ vs, Vals vs us ∧ Nms H vs ns
  | _, _, .nil => ⟨[], .nil, .nil⟩
  | _, _, .cons ⟨v, r, h⟩ k => by
    obtain ⟨vs, h1, h2⟩ := each_nms k
    exact ⟨v :: vs, .cons r h1, .cons h h2⟩
theorem dp_keys {K : PySem.W.Frag} {H : Hp} : ∀ k : List Key, DpAll K H (k.map kV) (k.map keyD)
  | [] => .nil
  | .inl i :: k => .cons (.int i) (dp_keys k)
  | .inr x :: k => .cons (.str x) (dp_keys k)
theorem IsN.dp {K : PySem.W.Frag} {H : Hp} {v : V} : ∀ {x : Nm}, IsN H v x → Dp K H v (encN x)
  | .i n, h => by
    rw [show v = _ from h]
    exact .int n
  | .m k, ⟨a, e, h⟩ => by
    rw [e]
    exact .tup (SqT.of h) (dp_keys k)
theorem Gn.dep {s : Bool} {x : Nm} (h : Gn s x) : (encN x).depth ≤ 1 := by
  cases h
  · exact Nat.zero_le _
  · exact Nat.le_refl _
  · exact Nat.le_refl _
theorem AllG.alike {s : Bool} {ns : List Nm} (al : AllG s ns) : PySem.W.AllAlike (ns.map encN) := by
  intro d hd d' hd'
  obtain ⟨b, mb, rfl⟩ := List.mem_map.mp hd
  obtain ⟨b', mb', rfl⟩ := List.mem_map.mp hd'
  exact (al.gn mb).alike (al.gn mb')
theorem AllG.able {s : Bool} {ns : List Nm} (al : AllG s ns) : PySem.W.Sortable (ns.map encN) := by
  cases s with
  | true =>
    refine .inl fun d hd => ?_
    obtain ⟨b, mb, rfl⟩ := List.mem_map.mp hd
    have g := al.gn mb
    generalize hs : true = s at g
    cases g with
    | i n => exact nomatch hs
    | p a => exact ⟨_, _, rfl⟩
    | o a b => exact ⟨_, _, rfl⟩
  | false =>
    refine .inr fun d hd => ?_
    obtain ⟨b, mb, rfl⟩ := List.mem_map.mp hd
    have g := al.gn mb
    generalize hs : false = s at g
    cases g with
    | i n => exact ⟨(fun e => nomatch e), (fun xs e => nomatch e)⟩
    | p a => exact nomatch hs
    | o a b => exact nomatch hs
section
variable {X : Cx} {pins : List (Addr × Obj)} {σ : L2.St} {H : Hp} {z : Shared}
theorem IsNv.reads (I : Inv X pins σ H z) {u : Value} {x : Nm} (h : IsNv H u x) : ∃ as, Reads z.heap u (encN x) as := by
  obtain ⟨v, r, h⟩ := h
  exact Dp.reads I (encN x) v u (IsN.dp h) r
def rSortL (K : PySem.W.Frag) : List V → Hp → VK → Prop := fun vs H Q => ∃ (a : Addr) (xs : List V) (s : Bool) (ns : List Nm), vs = [V.ref a] ∧ SqL K H a xs ∧ Nms H xs ns ∧ AllG s ns ∧
  ∀ (ys : List V) (p : Addr), Nms H ys (sortN ns) → H p = none → Q (.ref p) (upd H p (.lst ys))
theorem cr_sortL (hu : X.A.units + 65 < cLine) : CallR X (.builtin "sorted") (rSortL X.K) := by
  intro pins z σ H vs us Q I r h
  obtain ⟨a, xs, s, ns, rfl, hs, qa, al, q⟩ := h
  obtain ⟨its, rv, hl, hz⟩ := I.list hs
  rw [Vals.ref1 r]
  have each := nms_each qa rv
  refine PySem.W.sorted_data hl.isList each (each.mono fun v b h => h.reads I) al.alike al.able (by rw [← qa.length]; exact hz) (fun b mb => by have := (al.gn mb).dep; omega) fun out ho ho2 => ?_
  obtain ⟨ys, v1, q1⟩ := each_nms ho2
  obtain ⟨n, hn⟩ := PyProof.Rows.sortedAll_at z.heap its out.toArray
  have kp : ∀ b o, z.heap.get? b = some o → (PyProof.Rows.sortedAll z.heap its out.toArray).get? b = some o := fun b o e => PyProof.Rows.sortedAll_old e
  refine ⟨.ref (z.heap.objs.size + 1), upd H (z.heap.objs.size + 1) (.lst ys), I.laid (t' := z.toks) kp (Nat.le_succ _) ⟨?_, out, n, v1, hn⟩, rfl, q ys _ q1 (I.hok.fresh (Nat.le_succ _))⟩
  rw [q1.length, List.length_mergeSort, ← qa.length]
  exact hz
def rSortDT : List V → Hp → VK → Prop := fun vs H Q => ∃ (d : Addr) (ns : List Nm) (f : Nm → V), vs = [V.ref d] ∧ Rd H d (dO true ns f) ∧ AllG true ns ∧
  ∀ (ys : List V) (p : Addr), Nms H ys (sortN ns) → H p = none → Q (.ref p) (upd H p (.lst ys))
theorem cr_sortDT (calm : X.calm = true) (hu : X.A.units + 65 < cLine) : CallR X (.builtin "sorted") rSortDT := by
  intro pins z σ H vs us Q I r h
  obtain ⟨d, ns, f, rfl, hd, al, q⟩ := h
  obtain ⟨u, rfl, rx⟩ := vals1 r
  cases rx
  obtain ⟨zl, hs, ks, pr, o, es, ep, ho, hx, hdt, he, hn⟩ := (show ObjOk X.prog X.w H z.heap d (.dT (ns.map fun x => (tk x, f x))) from hd.ok I.hok)
  have l1 : es.size = ks.length := size_of_entries he
  have l2 : ns.length = ks.length := by
    have := Paired.length pr
    rw [List.length_map] at this
    exact this
  rw [List.length_map] at zl
  refine Calls.call_function_entry PyProof.Rows.kind_sorted PyProof.Rows.plain_sorted PyProof.Rows.entry_sorted (PyProof.Rows.args_sorted1 _) ?_
  unfold Builtin.«sorted»
  refine wpAny_bind (m := checkCount "sorted" 1 1 _) (wpAny_pure ?_)
  refine wpAny_bind (PySem.W.kdu_collect (A := X.A.in1) (kdl_raw hs hx hdt) (I.ok.hd calm) ho (by omega) fun h' tk' acc hk hacc => ?_)
  have hal : acc.toList.length = ns.length := by rw [Array.length_toList, hacc.1, l1, l2]
  have each : ∀ (j : Nat) (u : Value), acc.toList[j]? = some u → ∃ x, ns[j]? = some x ∧ IsNv H u x := fun j u e => by
    obtain ⟨en, hen, hv⟩ := hacc.2 j u (by rw [← Array.getElem?_toList]; exact e)
    have qe := entry_at he j
    rw [hen] at qe
    have hj : j < ns.length := hal ▸ (List.getElem?_eq_some_iff.mp e).1
    have hk2 : (ns.map fun x => (tk x, f x))[j]? = some (tk ns[j], f ns[j]) := by rw [List.getElem?_map, List.getElem?_eq_getElem hj]; rfl
    obtain ⟨b, hb, e1, e2, _⟩ := L2.paired_get pr hk2
    rw [hb] at qe
    have e3 : en = entryOfKey (tupleKind (mixKind X.prog X.w)) b := Option.some.inj qe
    refine ⟨ns[j], List.getElem?_eq_getElem hj, .ref b.2.1, ?_, ?_⟩
    · rw [hv, e3]
      rfl
    · have g := al.s ns[j] (List.getElem_mem _)
      have e2' : H b.2.1 = some (.tup ((tk ns[j]).map kV)) := e2
      generalize ns[j] = x at g e2'
      cases x with
      | i n => exact nomatch g
      | m k => exact ⟨_, rfl, e2'⟩
  have eachI : ∀ {us : List Value} {ms : List Nm}, us.length = ms.length → (∀ (j : Nat) (u : Value), us[j]? = some u → ∃ x, ms[j]? = some x ∧ IsNv H u x) → PySem.W.EachIs (IsNv H) us ms := by
    intro us
    induction us with
    | nil => intro ms e _; cases ms with
      | nil => exact .nil
      | cons _ _ => exact nomatch e
    | cons u us ih => intro ms e h; cases ms with
      | nil => exact nomatch e
      | cons x ms =>
        obtain ⟨y, e1, h1⟩ := h 0 u rfl
        cases Option.some.inj e1
        exact .cons h1 (ih (Nat.succ.inj e) fun j u hj => h (j + 1) u hj)
  have ev := eachI hal each
  have I1 : Inv X pins σ H { z with heap := h', toks := tk' } := I.kept hk
  refine wpAny_bind (wpAny_newList ?_ (by rw [hal]; omega))
  have hoL : (h'.push (seqObj "list" acc.toList.toArray 0)).get? h'.objs.size = some (seqObj "list" acc.toList.toArray 0) := Heap.get?_push_size _ rfl
  show wpAny _ _ _ _ _ { z with heap := h'.push (seqObj "list" acc.toList.toArray 0), toks := tk' }
  have er : PySem.W.EachIs (fun v b => ∃ as, Reads (PySem.W.sortingHeap (h'.push (seqObj "list" acc.toList.toArray 0)) h'.objs.size acc.toList) v (encN b) as) acc.toList ns := ev.mono fun v b hb => by
    obtain ⟨as, r⟩ := hb.reads I1
    exact ⟨as, PyProof.Rows.Reads.keeps (fun b o e => PySem.W.sortingHeap_old (Nat.ne_of_lt (Heap.lt_size e)) (Heap.get?_push_of_some _ e)) r⟩
  have sa := PySem.W.SortsAt.data (prog := X.prog) (w := X.w) (A := X.A.in1.in1) (s := { z with heap := PySem.W.sortingHeap (h'.push (seqObj "list" acc.toList.toArray 0)) h'.objs.size acc.toList, toks := tk' }) (PySem.W.each_map (R := fun v d => ∃ as, Reads (PySem.W.sortingHeap (h'.push (seqObj "list" acc.toList.toArray 0)) h'.objs.size acc.toList) v d as) encN er) al.alike al.able (fun d hd => by
    obtain ⟨b, mb, rfl⟩ := List.mem_map.mp hd
    have := (al.gn mb).dep
    show X.A.units + 1 + 1 + _ < _
    omega)
  refine wpAny_bind (wpAny_holding (wpAny_call_entry PyProof.Rows.slot_list_sort ⟨_, hoL, rfl⟩ PyProof.Rows.entry_list_sort
    (PySem.W.list_sort_vals (s := { z with heap := h'.push (seqObj "list" acc.toList.toArray 0), toks := tk' }) hoL sa (by rw [hal]; omega) ⟨_, rfl, ?_⟩) (PyProof.Rows.args_list_sort _)))
  have ho2 := PySem.W.sortVals_data false ev er al.alike
  generalize hso : PySem.W.sortVals _ false acc.toList acc.toList = out at ho2 ⊢
  obtain ⟨ys, v1, q1⟩ := each_nms ho2
  obtain ⟨n, hn2⟩ := PyProof.Rows.sortedHeap_at (vs := acc.toList) (out := out.toArray) hoL
  refine wpAny_pure ⟨_, rfl, .ref h'.objs.size, upd H h'.objs.size (.lst ys), I1.laid (t' := tk') (fun b u e => ?_) (Nat.le_refl _) ⟨?_, out, n, v1, hn2⟩, rfl, q ys _ q1 (I1.hok.fresh (Nat.le_refl _))⟩
  · have hb : b < h'.objs.size := Heap.lt_size e
    rw [PyProof.Rows.sortedHeap_old (Nat.ne_of_lt hb) (by rw [size_push']; exact Nat.lt_succ_of_lt hb)]
    exact Heap.get?_push_of_some _ e
  · rw [q1.length, List.length_mergeSort]
    exact zl
end
/-- sorted(d), d a dict of names -/
theorem srtD_nm {s : Bool} {d : Addr} {ns : List Nm} {f : Nm → V} {H : Hp} {Q : VK} (hd : Rd H d (dO s ns f)) (al : AllG s ns) (ln : ns.length ≤ 100000)
    (q : ∀ (ys : List V) (p : Addr), Nms H ys (sortN ns) → H p = none → Q (.ref p) (upd H p (.lst ys))) :
    orC (fun xs H Q => ∃ (a : Addr) (kvs : List (Key × V)) (ks : List Int), xs = [V.ref a] ∧ Rd H a (.dK kvs) ∧ kvs.map (·.1) = ks.map Sum.inl ∧ ks.length ≤ 100000 ∧ ∀ (ys : List Int) (p : Addr), ys.Perm ks → ys.Pairwise (· ≤ ·) → H p = none → Q (.ref p) (upd H p (.lst (ys.map V.int)))) rSortDT [V.ref d] H Q := by
  cases s with
  | true => exact .inr ⟨d, ns, f, rfl, hd, al, q⟩
  | false =>
    have e : (ns.map ik).map Nm.i = ns := by
      rw [List.map_map]
      have : ∀ x ∈ ns, (Nm.i ∘ ik) x = id x := fun x m => by
        have g := al.s x m
        cases x with
        | i n => rfl
        | m k => exact nomatch g
      rw [List.map_congr_left this, List.map_id]
    refine .inl ⟨d, _, ns.map ik, rfl, hd, by rw [List.map_map, List.map_map]; rfl, by rw [List.length_map]; exact ln, fun ys p pm sr np => q _ p ?_ np⟩
    have e2 : ys.map Nm.i = sortN ns := by
      refine sort_det (s := false) (al.sub fun x m => sortN_mem.mp m) ?_ ?_ sortN_srt
      · have := pm.map Nm.i
        rw [e] at this
        exact this.trans sortN_perm.symm
      · refine List.pairwise_map.mpr (sr.imp fun {a b} h => ?_)
        rw [leB_int]
        exact decide_eq_true h
    rw [← e2]
    clear e2 pm sr
    induction ys with
    | nil => exact .nil
    | cons y ys ih => exact .cons rfl ih

end My
namespace My
open PySem PySem.Spec PyProof.Rows L2
/-! ### dicts with tuple keys compared, all alike -/
section
variable {X : Cx} {pins : List (Addr × Obj)} {σ : L2.St} {H : Hp} {z : Shared} {F : Value → Shared → Prop}
theorem same_pairsT (I : Inv X pins σ H z) {A : Around} (hu : A.units < cLine) {nm : String} {a b : Addr} {ks ls : List (List Key × V)} (ea : H a = some (.dT ks)) (eb : H b = some (.dT ls)) (len : ks.length = ls.length)
    (al : ∀ p ∈ ks, valV ls p.1 = some p.2 ∧ flatB p.2 = true) {Q : Bool → Shared → Prop} (q : Q true z) : wpAny (model X.prog X.w) A (Builtin.Dict.samePairs nm a b) Q F z := by
  obtain ⟨_, na, xa, ra, oa, esa, epa, ga, _, da, enta, _⟩ := (show ObjOk X.prog X.w H z.heap a (.dT ks) from I.hok a _ ea)
  obtain ⟨_, nb, xb, rb, ob, esb, epb, gb, _, db, entb, ndb⟩ := (show ObjOk X.prog X.w H z.heap b (.dT ls) from I.hok b _ eb)
  have la : esa.size = xa.length := size_of_entries enta
  have lb : esb.size = xb.length := size_of_entries entb
  have ra1 : ks.length = xa.length := Paired.length ra
  have rb1 : ls.length = xb.length := Paired.length rb
  have szz : esa.size = esb.size := by omega
  unfold Builtin.Dict.samePairs Builtin.Dict.showsAll
  have na' : ¬ (a == sysModules) = true := by rw [na]; exact Bool.false_ne_true
  have nb' : ¬ (b == sysModules) = true := by rw [nb]; exact Bool.false_ne_true
  rw [if_neg na', if_neg nb']
  refine wpAny_bind (wpAny_pure (wpAny_bind (wpAny_pure ?_)))
  refine wpAny_bind (wpAny_dictEntries ga da (wpAny_bind (wpAny_dictEntries gb db ?_)))
  have nn : ¬ (esa.size != esb.size) = true := by rw [szz]; simp
  rw [if_neg nn]
  refine wpAny_bind (wpAny_dictEpoch ga da (wpAny_bind ?_))
  rw [Std.Legacy.Range.forIn_eq_forIn_range']
  simp only [Std.Legacy.Range.size, Nat.sub_zero, Nat.add_sub_cancel, Nat.div_one]
  refine wpAny_forIn_list _ (fun rest r z' => z' = z ∧ r = (none, ()) ∧ ∃ i, rest = List.range' i (esa.size - i) ∧ i ≤ esa.size) _ ?_ ?_ _ _ ⟨rfl, rfl, 0, by simp, Nat.zero_le _⟩
  · rintro j rest r z' ⟨rfl, rfl, i, hr, hi⟩
    have lt : i < esa.size := by
      rcases Nat.lt_or_ge i esa.size with h | h
      · exact h
      · rw [Nat.sub_eq_zero_of_le h] at hr; simp at hr
    obtain ⟨rfl, hrest⟩ : j = i ∧ rest = List.range' (i + 1) (esa.size - (i + 1)) := by
      have e : esa.size - i = (esa.size - (i + 1)) + 1 := by omega
      rw [e, List.range'_succ] at hr
      injection hr with h1 h2
      exact ⟨h1, h2⟩
    have lk : j < ks.length := by omega
    have hk : ks[j]? = some ks[j] := List.getElem?_eq_getElem lk
    obtain ⟨x, hx, e1, e2, rv⟩ := L2.paired_get ra hk
    have qe := entry_at enta j
    rw [hx] at qe
    have qe : esa[j]? = some (entryOfKey (tupleKind (mixKind X.prog X.w)) x) := qe
    obtain ⟨h1, h2⟩ := al ks[j] (List.getElem_mem _)
    refine wpAny_bind (wpAny_dictEntries ga da ?_)
    rw [qe]
    show wpAny _ _ (holding [(entryOfKey (tupleKind (mixKind X.prog X.w)) x).key, (entryOfKey (tupleKind (mixKind X.prog X.w)) x).val] _ >>= _) _ _ _
    have kx : (tupleKind (mixKind X.prog X.w)).is z'.heap x.1 x.2.1 := key_of I.hok (by rw [← e1]; exact e2)
    have all : ∀ {l : List (List Key × V)} {m : List (List Key × Addr × Value)}, KT H l m → ∀ y ∈ m, (tupleKind (mixKind X.prog X.w)).is z'.heap y.1 y.2.1 := by
      intro l m w
      induction w with
      | nil => intro y hy; exact nomatch hy
      | cons h _ ih =>
        intro y hy
        rcases List.mem_cons.mp hy with e | hy
        · subst e
          exact key_of I.hok (by rw [← h.1]; exact h.2.1)
        · exact ih y hy
    refine wpAny_bind (wpAny_holding (wpAny_bind (wpAny_dictFind_heap (knd := tupleKind (mixKind X.prog X.w)) (k := x.1) (xs := xb) hu kx gb db entb (all rb) ndb (fun no => ?_) fun j2 p2 hj2 => ?_)))
    · exfalso
      have v1 := KT.val rb ks[j].1
      rw [h1, e1] at v1
      rw [atKey_none_of_get no] at v1
      exact v1
    · have qb := entry_at entb j2
      rw [hj2] at qb
      have qb : esb[j2]? = some (entryOfKey (tupleKind (mixKind X.prog X.w)) (x.1, p2)) := qb
      refine wpAny_bind (wpAny_dictEntries gb db ?_)
      rw [qb]
      have v1 := KT.val rb ks[j].1
      rw [h1, e1, atKey_of_get ndb hj2] at v1
      have v1 : RelV ks[j].2 p2.2 := v1
      refine wpAny_holding ((eqAt_same (A := A) (s := z') rv v1 h2) X.prog X.w _ _ ?_)
      show wpAny _ _ (if (!true) = true then _ else _) _ _ _
      rw [if_neg (by decide)]
      refine wpAny_bind (wpAny_dictEpoch ga da ?_)
      rw [if_neg (by simp)]
      exact wpAny_pure ⟨rfl, rfl, j + 1, hrest, lt⟩
  · rintro r z' ⟨rfl, rfl, i, hr, hi⟩
    have e : i = esa.size := by
      rcases Nat.lt_or_ge i esa.size with h | h
      · have e : esa.size - i = (esa.size - (i + 1)) + 1 := by omega
        rw [e, List.range'_succ] at hr
        exact nomatch hr
      · exact Nat.le_antisymm hi h
    exact wpAny_pure q
def rEqDT (k : Bool) : R2 := fun x y H Q => ∃ a b ks ls, x = .ref a ∧ y = .ref b ∧ H a = some (.dT ks) ∧ H b = some (.dT ls) ∧ ks.length = ls.length ∧ (∀ p ∈ ks, valV ls p.1 = some p.2 ∧ flatB p.2 = true) ∧ Q (.bl k) H
theorem op_ne_dictT (hu : X.A.units + 1 < cLine) : OpR X (compareOp .NotEq) (rEqDT false) := by
  intro pins z σ H x y v u Q I rx ry h
  obtain ⟨a, b, ks, ls, rfl, rfl, ea, eb, len, hp, q⟩ := h
  obtain rfl : v = Value.ref a := rx
  obtain rfl : u = Value.ref b := ry
  obtain ⟨_, _, _, _, da⟩ := dt_of I.hok ea
  obtain ⟨_, _, _, _, db⟩ := dt_of I.hok eb
  refine wpAny_richCompare_same_room (op := .NotEq) da.typeIs db.typeIs PySem.F.slot_dict_ne (wpAny_call_entry PySem.F.slot_dict_ne da.typeIs PySem.F.entry_dict_ne ?_ (PySem.F.args_dict_ne_2 _ _)) (by omega)
  show wpAny _ _ (Builtin.Dict.dictSlotArgs "__ne__" ⟨[.ref a, .ref b], []⟩ >>= _) _ _ z
  refine wpAny_bind ?_
  unfold Builtin.Dict.dictSlotArgs
  refine wpAny_bind (wpAny_notOrdered_dict da.typeIs ?_)
  show wpAny _ _ (pure (Value.ref a, Value.ref b)) _ _ z
  refine wpAny_pure (wpAny_bind (wpAny_isInstance (T := "dict") db.typeIs PySem.F.sub_dict_dict ?_))
  simp only [Bool.not_true, Bool.false_eq_true, if_false]
  refine wpAny_bind (wpAny_pure (wpAny_bind (wpAny_pure (wpAny_bind (same_pairsT I (A := X.A.in1) (by show X.A.units + 1 < _; omega) ea eb len hp (wpAny_pure ⟨_, rfl, (fun e => nomatch e), ?_⟩))))))
  exact fin_bl I q rfl
theorem op_eq_dictT (hu : X.A.units + 1 < cLine) : OpR X (compareOp .Eq) (rEqDT true) := by
  intro pins z σ H x y v u Q I rx ry h
  obtain ⟨a, b, ks, ls, rfl, rfl, ea, eb, len, hp, q⟩ := h
  obtain rfl : v = Value.ref a := rx
  obtain rfl : u = Value.ref b := ry
  obtain ⟨_, _, _, _, da⟩ := dt_of I.hok ea
  obtain ⟨_, _, _, _, db⟩ := dt_of I.hok eb
  refine wpAny_richCompare_same_room (op := .Eq) da.typeIs db.typeIs PySem.F.slot_dict_eq (wpAny_call_entry PySem.F.slot_dict_eq da.typeIs PySem.F.entry_dict_eq ?_ (PySem.F.args_dict_eq_2 _ _)) (by omega)
  show wpAny _ _ (Builtin.Dict.dictSlotArgs "__eq__" ⟨[.ref a, .ref b], []⟩ >>= _) _ _ z
  refine wpAny_bind ?_
  unfold Builtin.Dict.dictSlotArgs
  refine wpAny_bind (wpAny_notOrdered_dict da.typeIs ?_)
  show wpAny _ _ (pure (Value.ref a, Value.ref b)) _ _ z
  refine wpAny_pure (wpAny_bind (wpAny_isInstance (T := "dict") db.typeIs PySem.F.sub_dict_dict ?_))
  simp only [Bool.not_true, Bool.false_eq_true, if_false]
  refine wpAny_bind (wpAny_pure (wpAny_bind (wpAny_pure (wpAny_bind (same_pairsT I (A := X.A.in1) (by show X.A.units + 1 < _; omega) ea eb len hp (wpAny_pure ⟨_, rfl, (fun e => nomatch e), ?_⟩))))))
  exact fin_bl I q rfl
end
def orR (a b : R2) : R2 := fun x y H Q => a x y H Q ∨ b x y H Q
theorem op_or2 {X : Cx} {f : Value → Value → Sem Value} {a b : R2} (x : OpR X f a) (y : OpR X f b) : OpR X f (orR a b) := fun pins z σ H v w u t Q I r1 r2 h => h.elim (x pins z σ H v w u t Q I r1 r2) (y pins z σ H v w u t Q I r1 r2)
/-- two dicts of the same names with the same flat worths -/
theorem ne_nm {s : Bool} {a b : Addr} {ns ms : List Nm} {f g : Nm → V} {H : Hp} {Q : VK} (ha : H a = some (dO s ns f)) (hb : H b = some (dO s ms g)) (als : AllS s ns) (alm : AllS s ms) (len : ns.length = ms.length) (fl : ∀ x ∈ ns, x ∈ ms ∧ f x = g x ∧ flatB (f x) = true) (q : Q (.bl false) H) : orR rNeDA (rEqDT false) (.ref a) (.ref b) H Q := by
  cases s with
  | false =>
    refine .inl ⟨a, b, _, _, rfl, rfl, ha, hb, by rw [List.length_map, List.length_map]; exact len, fun p mp => ?_, q⟩
    obtain ⟨x, mx, rfl⟩ := List.mem_map.mp mp
    obtain ⟨h1, h2, h3⟩ := fl x mx
    refine ⟨?_, h3⟩
    have := aN_get (f := g) (g := fun y => (Sum.inl (ik y) : Key)) (P := fun y => sdN y = false) (x := x) (fun x y hx hy e => ik_inj hx hy (Sum.inl.inj e)) (als x mx) alm
    rw [if_pos h1, ← h2] at this
    exact this
  | true =>
    refine .inr ⟨a, b, _, _, rfl, rfl, ha, hb, by rw [List.length_map, List.length_map]; exact len, fun p mp => ?_, q⟩
    obtain ⟨x, mx, rfl⟩ := List.mem_map.mp mp
    obtain ⟨h1, h2, h3⟩ := fl x mx
    refine ⟨?_, h3⟩
    have := aN_get (f := g) (g := tk) (P := fun y => sdN y = true) (x := x) (fun x y hx hy e => tk_inj hx hy e) (als x mx) alm
    rw [if_pos h1, ← h2] at this
    exact this

end My
namespace My
open PySem PySem.Spec PyProof.Rows L2
/-! ### dict(xs) of a list of pairs, the keys names that differ -/
section
variable {κ : Type} [DecidableEq κ]
theorem stored_nodup : ∀ {ps xs : List (κ × Addr × Value)}, ((xs ++ ps).map (·.1)).Nodup → storedAllH xs ps = xs ++ ps
  | [], xs, _ => by rw [List.append_nil]; rfl
  | p :: ps, xs, nd => by
    have nx : atKey xs p.1 = none := by
      refine atKey_none_of_get fun j q e => ?_
      rw [List.map_append, List.map_cons] at nd
      obtain ⟨_, _, h⟩ := List.nodup_append.mp nd
      exact h p.1 (List.mem_map.mpr ⟨_, List.mem_of_getElem? e, rfl⟩) p.1 List.mem_cons_self rfl
    show storedAllH (storedH xs p.1 p.2.1 p.2.2) ps = _
    rw [storedH_new nx, stored_nodup (by rw [List.append_assoc]; exact nd), List.append_assoc]
    rfl
end
section
variable {X : Cx}
def PairAt (H : Hp) (f : Nm → V) (p : Addr) (x : Nm) : Prop := ∃ v, H p = some (.tup [v, f x]) ∧ IsN H v x
theorem mk3 {pins : List (Addr × Obj)} {σ : L2.St} {H : Hp} {z : Shared} {f : Nm → V} (I : Inv X pins σ H z) : ∀ {ps : List Addr} {ns : List Nm}, Paired (PairAt H f) ps ns → AllS true ns →
    ∃ t3 : List (List Key × Addr × Value), t3.length = ps.length ∧ t3.map (·.1) = ns.map tk ∧ Paired (fun (p : List Key × V) (q : List Key × Addr × Value) => p.1 = q.1 ∧ H q.2.1 = some (.tup (p.1.map kV)) ∧ RelV p.2 q.2.2) (ns.map fun x => (tk x, f x)) t3 ∧
      ∀ (j : Nat) (p : Addr) (q : List Key × Addr × Value), ps[j]? = some p → t3[j]? = some q → IsTup z.heap p #[.ref q.2.1, q.2.2]
  | _, _, .nil, _ => ⟨[], rfl, rfl, .nil, fun j p q e => by simp at e⟩
  | _, _, .cons (a := p) (b := x) h k, al => by
    obtain ⟨t3, e1, e2, e3, e4⟩ := mk3 I k fun y m => al y (List.mem_cons_of_mem _ m)
    obtain ⟨v, hp, iv⟩ := h
    have sx := al x List.mem_cons_self
    cases x with
    | i n => exact nomatch sx
    | m kk =>
      obtain ⟨b, rfl, hb⟩ := iv
      obtain ⟨_, us2, rv2, tp⟩ := (show ObjOk X.prog X.w H z.heap p (.tup [.ref b, f (.m kk)]) from I.hok p _ hp)
      obtain ⟨u1, u2, e5, r1, r2⟩ := vals2 rv2
      subst e5
      cases r1
      refine ⟨(kk, b, u2) :: t3, congrArg (· + 1) e1, by rw [List.map_cons, List.map_cons, e2]; rfl, .cons ⟨rfl, hb, r2⟩ e3, fun j p' q' h1 h2 => ?_⟩
      cases j with
      | zero =>
        simp at h1 h2
        subst h1 h2
        exact tp
      | succ j => exact e4 j p' q' (by simpa using h1) (by simpa using h2)
theorem call_dictNT (calm : X.calm = true) (hu : X.A.units + 2 < cLine) : CallR X (.type "dict") (fun xs H Q => ∃ (a : Addr) (ps : List Addr) (ns : List Nm) (f : Nm → V), xs = [.ref a] ∧ H a = some (.lst (ps.map V.ref)) ∧ AllS true ns ∧ ns.Nodup ∧ Paired (PairAt H f) ps ns ∧
    ∀ p, H p = none → Q (.ref p) (upd H p (dO true ns f))) := by
  intro pins z σ H xs us Q I r q
  obtain ⟨a, ps, ns, f, rfl, ha, al, nd, pd, q⟩ := q
  obtain ⟨u, rfl, rx⟩ := vals1 r
  cases rx
  obtain ⟨z0, its, n0, rv, g0⟩ := (show ObjOk X.prog X.w H z.heap a (.lst (ps.map V.ref)) from I.hok a _ ha)
  have ei := refs_at rv
  subst ei
  rw [List.length_map] at z0
  obtain ⟨t3, l3, k3, p3, tups⟩ := mk3 I pd al
  have nd3 : (t3.map (·.1)).Nodup := by
    rw [k3]
    refine List.nodup_iff_pairwise_ne.mpr (List.pairwise_map.mpr ((List.nodup_iff_pairwise_ne.mp nd).imp_of_mem fun {x y} mx my ne e => ne (tk_inj (al x mx) (al y my) e)))
  have hm3 : ∀ x ∈ t3, H x.2.1 = some (.tup (x.1.map kV)) := by
    have : ∀ {l : List (List Key × V)} {m : List (List Key × Addr × Value)}, Paired (fun (p : List Key × V) (q : List Key × Addr × Value) => p.1 = q.1 ∧ H q.2.1 = some (.tup (p.1.map kV)) ∧ RelV p.2 q.2.2) l m → ∀ x ∈ m, H x.2.1 = some (.tup (x.1.map kV)) := by
      intro l m w
      induction w with
      | nil => intro x hx; exact nomatch hx
      | cons h _ ih =>
        intro x hx
        rcases List.mem_cons.mp hx with e | hx
        · subst e
          rw [← h.1]
          exact h.2.1
        · exact ih x hx
    exact this p3
  let vps : List (Value × Value) := t3.map fun x => (.ref x.2.1, x.2.2)
  have vl : vps.length = ps.length := by simp [vps, l3]
  have va : ∀ (j : Nat) (k v : Value), vps[j]? = some (k, v) → ∃ x, t3[j]? = some x ∧ k = .ref x.2.1 ∧ v = x.2.2 := fun j k v e => by
    obtain ⟨x, hx, e2⟩ := Option.map_eq_some_iff.mp ((List.getElem?_map ..).symm.trans e)
    cases e2
    exact ⟨x, hx, rfl, rfl⟩
  have ok : PlainSeq "list" z.heap a (ps.map Value.ref).toArray ∧ PairItems z.heap (ps.map Value.ref).toArray (fun j => ps.getD j 0) vps := by
    refine ⟨⟨_, n0, g0, rfl, rfl, rfl⟩, by simp [vl], fun j k v e => ?_⟩
    obtain ⟨x, hx, rfl, rfl⟩ := va j k v e
    have hj : j < ps.length := by
      have := (List.getElem?_eq_some_iff.mp hx).1
      omega
    have h1 : ps[j]? = some ps[j] := List.getElem?_eq_getElem hj
    have ep : ps.getD j 0 = ps[j] := by rw [List.getD_eq_getElem?_getD, h1]; rfl
    dsimp only
    rw [ep]
    exact ⟨by simp [h1], .inl (tups j _ x h1 hx)⟩
  have lt : ∀ x ∈ t3, x.2.1 < z.heap.objs.size := fun x hx => by
    obtain ⟨_, _, _, o, ho, _⟩ := (show ObjOk X.prog X.w H z.heap x.2.1 (.tup (x.1.map kV)) from I.hok _ _ (hm3 x hx))
    exact Heap.lt_size ho
  refine call_dict_pairsH (knd := tupleKind (mixKind X.prog X.w)) (ps := t3) (PairArg.list a (ps.map Value.ref).toArray (fun j => ps.getD j 0) vps) (I.ok.hd calm) (tupleKind_room_in1 (A := X.A.in1) (show X.A.units + 1 + 1 < cLine from hu)) ok ⟨by rw [l3, vl], fun i key v e => ?_⟩ (fun h' hk x hx => ?_) (by rw [vl]; exact z0) fun h' tk' hd' hk => ?_
  · obtain ⟨x, hx, rfl, rfl⟩ := va i key v e
    exact ⟨_, _, hx, rfl⟩
  · obtain ⟨o, its, n, h1, h2, h3, h4⟩ := key_of (P := X.prog) (w := X.w) I.hok (hm3 x hx)
    exact ⟨o, its, n, hk _ _ (Nat.ne_of_lt (lt x hx)) (fun e => nomatch e) h1, h2, h3, h4⟩
  · have hm : (z.heap.objs.size == sysModules) = false := beq_eq_false_iff_ne.mpr (Nat.ne_of_gt I.big)
    have fresh : H z.heap.objs.size = none := I.hok.fresh (Nat.le_refl _)
    rw [stored_nodup (xs := []) (by simpa using nd3), List.nil_append] at hd'
    obtain ⟨o, es, ep, d1, d2, d3, d4, _, d6⟩ := hd'
    refine ⟨.ref z.heap.objs.size, upd H z.heap.objs.size (dO true ns f), I.laid (t' := tk') (fun b o e => hk b o (fun e => nomatch e) e) (Nat.le_refl _) ?_, rfl, q _ fresh⟩
    have ln : (ns.map fun x => (tk x, f x)).length = t3.length := Paired.length p3
    refine ⟨by rw [ln, l3]; exact z0, hm, t3, L2.Paired.mapP p3 fun p q hh => ⟨hh.1, ?_, hh.2.2⟩, o, es, ep, d1, d2, d3, d4, d6⟩
    rw [upd_ne (ne_of_none hh.2.1 fresh)]
    exact hh.2.1
end
theorem merge_ik {f : Nm → V} : ∀ {ms ns : List Nm}, AllS false (ns ++ ms) → (ns ++ ms).Nodup → mergeK (ns.map fun x => ((Sum.inl (ik x) : Key), f x)) (ms.map fun x => (Sum.inl (ik x), f x)) = (ns ++ ms).map fun x => (Sum.inl (ik x), f x)
  | [], ns, _, _ => by
    rw [List.append_nil]
    rfl
  | x :: ms, ns, al, nd => by
    have e : ns ++ x :: ms = (ns ++ [x]) ++ ms := by rw [List.append_assoc]; rfl
    have nx : x ∉ ns := fun m => by
      obtain ⟨_, _, h⟩ := List.nodup_append.mp nd
      exact h x m x List.mem_cons_self rfl
    have ih := merge_ik (f := f) (ms := ms) (ns := ns ++ [x]) (by rw [← e]; exact al) (by rw [← e]; exact nd)
    rw [e, ← ih]
    show mergeK (putK (ns.map fun x => ((Sum.inl (ik x) : Key), f x)) (Sum.inl (ik x)) (f x)) _ = _
    congr 1
    have h := aN_new (f := f) (g := fun y => (Sum.inl (ik y) : Key)) (P := fun y => sdN y = false) (x := x) (v := f x) (fun x y hx hy e => ik_inj hx hy (Sum.inl.inj e)) (al x (List.mem_append_right _ List.mem_cons_self)) (fun y m => al y (List.mem_append_left _ m)) nx
    rw [h]
    refine List.map_congr_left fun y _ => ?_
    by_cases c : y = x
    · rw [c, up1_same]
    · rw [up1_ne c]
theorem dict_nm {K : PySem.W.Frag} {s : Bool} {a : Addr} {ps : List Addr} {ns : List Nm} {f : Nm → V} {H : Hp} {Q : VK} (ha : H a = some (.lst (ps.map V.ref))) (al : AllS s ns) (nd : ns.Nodup) (pd : Paired (PairAt H f) ps ns) (q : ∀ p, H p = none → Q (.ref p) (upd H p (dO s ns f))) :
    orC (fun xs H Q => ∃ (l : Addr) (ps : List Addr) (kvs : List (Key × V)), xs = [V.ref l] ∧ SqL K H l (ps.map V.ref) ∧ Paired (fun p (kv : Key × V) => SqT K H p [kV kv.1, kv.2]) ps kvs ∧ ∀ d, H d = none → Q (.ref d) (upd H d (.dK (mergeK [] kvs))))
      (fun xs H Q => ∃ (a : Addr) (ps : List Addr) (ns : List Nm) (f : Nm → V), xs = [V.ref a] ∧ H a = some (.lst (ps.map V.ref)) ∧ AllS true ns ∧ ns.Nodup ∧ Paired (PairAt H f) ps ns ∧ ∀ p, H p = none → Q (.ref p) (upd H p (dO true ns f))) [V.ref a] H Q := by
  cases s with
  | true => exact .inr ⟨a, ps, ns, f, rfl, ha, al, nd, pd, q⟩
  | false =>
    refine .inl ⟨a, ps, ns.map fun x => (Sum.inl (ik x), f x), rfl, SqL.of ha, ?_, fun d nd' => ?_⟩
    · clear q ha nd
      induction pd with
      | nil => exact .nil
      | @cons p x ps ns h _ ih =>
        obtain ⟨v, hp, iv⟩ := h
        have sx := al x List.mem_cons_self
        refine .cons ?_ (ih fun y m => al y (List.mem_cons_of_mem _ m))
        cases x with
        | m k => exact nomatch sx
        | i n =>
          rw [show v = _ from iv] at hp
          exact SqT.of hp
    · have := merge_ik (f := f) (ns := []) (ms := ns) (by simpa using al) (by simpa using nd)
      rw [show mergeK [] (ns.map fun x => ((Sum.inl (ik x) : Key), f x)) = ns.map fun x => (Sum.inl (ik x), f x) from this]
      exact q d nd'

end My
namespace My
open PySem PySem.Spec PyProof.Rows L2
/-! ### lists of names as data; list(d) -/
theorem Gn.lay {s : Bool} {x : Nm} (h : Gn s x) : PyData.canLay0 (encN x) = true := by
  cases h
  · rfl
  · exact (show PyData.canLay0 (.str "point") && true = true by decide +kernel)
  · exact (show PyData.canLay0 (.str "over") && true = true by decide +kernel)
theorem lay_nms {s : Bool} : ∀ {ns : List Nm}, AllG s ns → PyData.canLayAll0 (ns.map encN) = true ∧ PyData.depthAll (ns.map encN) ≤ 1
  | [], _ => ⟨rfl, Nat.zero_le _⟩
  | x :: r, al => by
    have ih := lay_nms (ns := r) (al.sub fun z m => List.mem_cons_of_mem _ m)
    have g := al.gn List.mem_cons_self
    refine ⟨?_, ?_⟩
    · show (PyData.canLay0 (encN x) && PyData.canLayAll0 (r.map encN)) = true
      rw [ih.1, g.lay]
      rfl
    · show max (PyData.depth (encN x)) (PyData.depthAll (r.map encN)) ≤ 1
      exact Nat.max_le.mpr ⟨g.dep, ih.2⟩
theorem shp_nms {s : Bool} {ns : List Nm} (al : AllG s ns) : SeqAt.shaped (.list (ns.map encN)) = true := by
  have h := lay_nms al
  unfold SeqAt.shaped
  rw [show PyData.canLay0 (.list (ns.map encN)) = true from h.1, decide_eq_true (show PyData.depth (.list (ns.map encN)) ≤ 64 by show PyData.depthAll _ + 1 ≤ 64; omega)]
  rfl
theorem shp_nm {s : Bool} {x : Nm} (g : Gn s x) : SeqAt.shaped (encN x) = true := by
  have h := g.dep
  unfold SeqAt.shaped
  rw [g.lay, decide_eq_true (show PyData.depth (encN x) ≤ 64 by omega)]
  rfl
theorem nil_nms : ∀ ns : List Nm, PyData.eqv (.list (ns.map encN)) (.list []) = ns.isEmpty
  | [] => by decide +kernel
  | x :: l => by
    show PyData.eqv (.list (encN x :: l.map encN)) (.list []) = false
    simp [PyData.eqv, PyData.eqvAll]
theorem dp_nms {K : PySem.W.Frag} {H : Hp} {vs : List V} {ns : List Nm} (h : Nms H vs ns) : DpAll K H vs (ns.map encN) := by
  induction h with
  | nil => exact .nil
  | cons h _ ih => exact .cons (IsN.dp h) ih
theorem listD_nm {s : Bool} {d : Addr} {ns : List Nm} {f : Nm → V} {H : Hp} {Q : VK} (hd : Rd H d (dO s ns f)) (al : AllS s ns) (q : ∀ (vs : List V) (p : Addr), Nms H vs ns → H p = none → Q (.ref p) (upd H p (.lst vs))) :
    orC (fun xs H Q => ∃ (a : Addr) (kvs : List (Key × V)), xs = [V.ref a] ∧ Rd H a (.dK kvs) ∧ ∀ p, H p = none → Q (.ref p) (upd H p (.lst (kvs.map fun kv => kV kv.1))))
      (fun xs H Q => ∃ d kvs, xs = [V.ref d] ∧ Rd H d (.dT kvs) ∧ ∀ p bs, H p = none → IsKeys H kvs bs → Q (.ref p) (upd H p (.lst (bs.map V.ref)))) [V.ref d] H Q := by
  cases s with
  | false =>
    refine .inl ⟨d, _, rfl, hd, fun p np => q _ p ?_ np⟩
    rw [List.map_map]
    clear q hd
    induction ns with
    | nil => exact .nil
    | cons x ns ih =>
      have sx := al x List.mem_cons_self
      cases x with
      | m k => exact nomatch sx
      | i n => exact .cons rfl (ih fun y m => al y (List.mem_cons_of_mem _ m))
  | true =>
    refine .inr ⟨d, _, rfl, hd, fun p bs np ik => q _ p ?_ np⟩
    clear q hd
    unfold IsKeys at ik
    induction ns generalizing bs with
    | nil =>
      cases ik
      exact .nil
    | cons x ns ih =>
      have sx := al x List.mem_cons_self
      cases ik with
      | cons h k =>
        cases x with
        | i n => exact nomatch sx
        | m kk => exact .cons ⟨_, rfl, h⟩ (ih (fun y m => al y (List.mem_cons_of_mem _ m)) _ k)
theorem nms_erase {H : Hp} {vs : List V} {ns : List Nm} (h : Nms H vs ns) : ∀ i, Nms H (vs.eraseIdx i) (ns.eraseIdx i) := by
  induction h with
  | nil => intro i; exact .nil
  | cons f t ih =>
    intro i
    cases i with
    | zero => exact t
    | succ i => exact .cons f (ih i)

end My
namespace My
open PySem PySem.Spec PyProof.Rows L2
/-! ### a whole number asked of a dict whose keys are tuples, however many -/
section
variable {prog : Program} {w : World} {A : Around} {E : Value → Shared → Prop} {s : Shared}
theorem items_readN {h : Heap} : ∀ {ks : List Key} {vs : List Value}, ItemsAre (mixKind prog w) ks vs → ReadsAll h vs (ks.map keyD) []
  | _, _, .nil => .nil
  | k :: _, v :: _, .cons e r => by
    rcases keyIs_shape (show keyIs k v = true from e) with ⟨i, t, rfl, rfl⟩ | ⟨x, t, rfl, rfl⟩
    · exact ReadsAll.cons (as := []) (bs := []) (.int i t) (items_readN r)
    · exact ReadsAll.cons (as := []) (bs := []) (.str x t) (items_readN r)
theorem mayTell_int {i : Int} {t : Tok} {stored : List Value} {Q : Bool → Shared → Prop} (hst : ∀ v ∈ stored, ∃ k' b, v = .ref b ∧ (tupleKind (mixKind prog w)).is s.heap k' b) (h : Q false s) : wpAny (model prog w) A (tableMayTell (.int i t) stored) Q E s := by
  unfold tableMayTell
  split
  · exact wpAny_pure h
  · refine wpAny_bind (m := eqIsQuiet 8 (.int i t)) (wpAny_pure ?_)
    simp only [Bool.not_true, Bool.false_eq_true, if_false]
    refine wpAny_bind ?_
    refine wpAny_forIn_list _ (fun rest r s' => s' = s ∧ r = (none, ()) ∧ ∀ v ∈ rest, ∃ k' b, v = .ref b ∧ (tupleKind (mixKind prog w)).is s.heap k' b) _ ?_ ?_ _ _ ⟨rfl, rfl, hst⟩
    · rintro x rest r s' ⟨rfl, rfl, hr⟩
      obtain ⟨k', b, rfl, hb⟩ := hr x List.mem_cons_self
      refine wpAny_bind ((tupleKind (mixKind prog w)).quiet hb ?_)
      simp only [Bool.not_true, Bool.false_eq_true, if_false]
      exact wpAny_pure ⟨rfl, rfl, fun v hv => hr v (List.mem_cons_of_mem _ hv)⟩
    · rintro r s' ⟨rfl, rfl, _⟩
      exact wpAny_pure h
theorem find_otherN {d : Addr} {xs : List (List Key × Addr × Value)} {i : Int} {t : Tok} {h : Int} {Q : Option Nat → Shared → Prop} (hm : s.heap.DictOfH (tupleKind (mixKind prog w)) d xs) (lay : ∀ x ∈ xs, PyData.canLayAll0 (x.1.map keyD) = true) (hu : A.units < cLine) (k : Q none s) :
    wpAny (model prog w) A (dictFind d (.int i t) h) Q E s := by
  obtain ⟨o, es, ep, ho, hc, hd, he, his, hn⟩ := hm
  have hmem : ∀ e ∈ es, ∃ x ∈ xs, e = entryOfKey (tupleKind (mixKind prog w)) x := by
    intro e hin
    have : e ∈ xs.map (entryOfKey (tupleKind (mixKind prog w))) := he ▸ Array.mem_toList_iff.mpr hin
    obtain ⟨x, hx, rfl⟩ := List.mem_map.mp this
    exact ⟨x, hx, rfl⟩
  have hst : ∀ v ∈ (placesWithHash es.size (fun i => es[i]?.map (·.hash)) h).filterMap (fun i => es[i]?.map (·.key)), ∃ k' b, v = .ref b ∧ (tupleKind (mixKind prog w)).is s.heap k' b := by
    intro v hv
    obtain ⟨i, _, hi⟩ := List.mem_filterMap.mp hv
    cases hei : es[i]? with
    | none => rw [hei] at hi; cases hi
    | some e =>
      rw [hei] at hi
      obtain rfl : e.key = v := by simpa using hi
      obtain ⟨x, hx, rfl⟩ := hmem e (Array.mem_of_getElem? hei)
      exact ⟨x.1, x.2.1, rfl, his x hx⟩
  unfold dictFind
  refine wpAny_holding (wpAny_bind (wpAny_dictEntries ho hd ?_))
  dsimp only
  generalize hp : placesWithHash es.size (fun i => es[i]?.map (·.hash)) h = places at hst ⊢
  by_cases hall : ((Value.int i t :: places.filterMap fun i => es[i]?.map (·.key)).all carriedByValue) = true
  · rw [if_pos hall]
    have e0 : places.filterMap (fun i => es[i]?.map (·.key)) = [] := by
      cases e : places.filterMap (fun i => es[i]?.map (·.key)) with
      | nil => rfl
      | cons v r =>
        obtain ⟨k', b, rfl, _⟩ := hst v (by rw [e]; exact List.mem_cons_self)
        rw [e] at hall
        simp [carriedByValue] at hall
    have e1 : places = [] := by
      cases places with
      | nil => rfl
      | cons j r =>
        exfalso
        have mj : j ∈ placesWithHash es.size (fun i => es[i]?.map (·.hash)) h := by rw [hp]; exact List.mem_cons_self
        unfold placesWithHash at mj
        have lj := List.mem_range.mp (List.mem_filter.mp mj).1
        rw [List.filterMap_cons, Array.getElem?_eq_getElem lj] at e0
        exact nomatch e0
    rw [e1]
    exact wpAny_pure k
  · rw [if_neg hall]
    have neq : ¬ (List.filterMap (fun i => Option.map (fun x => x.key) es[i]?) places == [Value.int i t]) = true := fun z => by
      have z := beq_iff_eq.mp z
      obtain ⟨k', b, e, _⟩ := hst (.int i t) (by rw [z]; exact List.mem_cons_self)
      exact nomatch e
    rw [if_neg neq]
    refine wpAny_bind (mayTell_int hst ?_)
    rw [if_neg (by simp)]
    refine wpAny_bind ?_
    refine wpAny_forIn_list _ (fun rest b s' => s' = s ∧ b = (none, none)) _ ?_ ?_ _ _ ⟨rfl, rfl⟩
    · rintro x rest b s' ⟨rfl, rfl⟩
      cases hex : es[x]? with
      | none => exact wpAny_pure ⟨rfl, rfl⟩
      | some e =>
        obtain ⟨y, hy, rfl⟩ := hmem e (Array.mem_of_getElem? hex)
        have isy := his y hy
        have layy := lay y hy
        dsimp only
        split
        · obtain ⟨ob, its, nb, b1, b2, b3, b4⟩ := isy
          have rd : Reads s'.heap (.ref y.2.1) (.tuple (y.1.map keyD)) [] := .tuple b1 b2 b3 (items_readN b4)
          refine wpAny_bind (wpAny_dictEpoch ho hd (wpAny_bind (SeqAt.eqBoolOverData prog w A _ s' (.ref y.2.1) (.int i t) _ _ [] [] _ rd (.int i t) layy rfl (by show A.units + min _ 0 < cLine; omega) (wpAny_bind (wpAny_dictEpoch ho hd ?_)))))
          rw [if_neg (by simp), if_neg (by show ¬ (false = true); decide)]
          refine wpAny_bind (wpAny_rule ?_)
          rw [if_neg (by simp)]
          exact wpAny_pure ⟨rfl, rfl⟩
        · exact wpAny_pure ⟨rfl, rfl⟩
    · rintro b s' ⟨rfl, rfl⟩
      exact wpAny_pure k
theorem in_otherN {d : Addr} {xs : List (List Key × Addr × Value)} {i : Int} {t : Tok} {Q : Value → Shared → Prop} (hm : s.heap.DictOfH (tupleKind (mixKind prog w)) d xs) (lay : ∀ x ∈ xs, PyData.canLayAll0 (x.1.map keyD) = true) (hu : A.units + 1 < cLine) (nd : (d == sysModules) = false)
    (k : ∀ tk, Q (.bool false) { s with toks := tk }) : wpAny (model prog w) A (compareOp .In (.int i t) (.ref d)) Q E s := by
  refine wpAny_bind (m := contains (.ref d) (.int i t)) ?_
  unfold contains
  refine wpAny_holding (wpAny_bind (wpAny_specialOf hm.typeIs PySem.F.slot_dict_contains.lookup ?_))
  show wpAny _ _ (if (some (Value.builtin "dict.__contains__") == some Value.none) = true then _ else _) _ E s
  rw [if_neg (fun z => by rw [beq_builtin_none] at z; cases z)]
  refine wpAny_bind (wpAny_callSpecialUnlessNone?_slot (name := Str.ofString "__contains__") hm.typeIs PySem.F.slot_dict_contains (wpAny_call_entry PySem.F.slot_dict_contains hm.typeIs PySem.F.entry_dict_contains ?_ (args_dict_contains _ _)))
  refine wpAny_bind (m := dictGet d (.int i t)) ?_
  unfold dictGet
  refine wpAny_holding (wpAny_bind ((intKind prog w).pyHash (k := i) (intKind_is _ _ _ _) (wpAny_bind (find_otherN (s := { s with toks := s.toks + 1 }) hm lay (by show A.units + 1 < cLine; exact hu) (wpAny_pure ?_)))))
  rw [if_neg (by decide)]
  exact wpAny_bind (wpAny_pendingKey_int (wpAny_pure ⟨_, rfl, wpAny_truthy_bool (wpAny_pure (k _))⟩))
end
def tDInN (ty td : TE) : TE := fun σ H Q => ty σ H fun y H1 => td σ H1 fun x H2 => ∃ a, x = .ref a ∧ ((∃ o, DGet H2 a y o ∧ Q (.bl o.isSome) H2) ∨ ∃ i kvs, y = .int i ∧ Rd H2 a (.dT kvs) ∧ (∀ kv ∈ kvs, PyData.canLayAll0 (kv.1.map keyD) = true) ∧ Q (.bl false) H2)
theorem pc_dinN {X : Cx} {i o : Expr} {ty td : TE} (hu : X.A.units + 1 < cLine) (hi : PE X i ty) (ho : PE X o td) : PC X .In i o (tDInN ty td) := by
  refine ⟨fun pins z σ H Q I h => thn (hi.run pins z σ H _ I h) fun iv z1 ⟨y, H1, I1, ry, q1⟩ => thn (ho.run pins z1 σ H1 _ I1 q1) fun u z2 ⟨x, H2, I2, rx, a, ex, q2⟩ => ?_⟩
  subst ex
  cases (show u = Value.ref a from rx)
  rcases q2 with ⟨ov, g, q2⟩ | ⟨n, kvs, rfl, rd, lay, q2⟩
  · exact d_in hu I2 g ry fun z3 I3 => ⟨.bl ov.isSome, H2, I3, rfl, q2⟩
  · obtain ⟨t, rfl⟩ := ry
    obtain ⟨_, nm, xs, rel, dd⟩ := dt_rd I2.hok rd
    have keys : ∀ {l : List (List Key × V)} {m : List (List Key × Addr × Value)}, KT H2 l m → ∀ x ∈ m, ∃ kv ∈ l, kv.1 = x.1 := by
      intro l m r
      induction r with
      | nil => intro x hx; exact nomatch hx
      | @cons p q ps qs hq r ih =>
        intro x hx
        rcases List.mem_cons.mp hx with rfl | hx
        · exact ⟨p, List.mem_cons_self, hq.1⟩
        · obtain ⟨kv, m, e⟩ := ih x hx
          exact ⟨kv, List.mem_cons_of_mem _ m, e⟩
    refine in_otherN dd (fun x hx => ?_) hu nm fun tk => ⟨.bl false, H2, I2.tok _, rfl, q2⟩
    obtain ⟨kv, m, e⟩ := keys rel x hx
    rw [← e]
    exact lay kv m
/-- `x in d`: a name asked of a dict of names; an int may be asked of marks -/
theorem in_nm {s : Bool} {d : Addr} {ns : List Nm} {f : Nm → V} {H : Hp} {v : V} {x : Nm} {Q : VK} (al : AllG s ns) (hd : Rd H d (dO s ns f)) (iv : IsN H v x) (sx : sdN x = s ∨ s = true) (q : Q (.bl (decide (x ∈ ns))) H) :
    ∃ a, V.ref d = .ref a ∧ ((∃ o, DGet H a v o ∧ Q (.bl o.isSome) H) ∨ ∃ i kvs, v = .int i ∧ Rd H a (.dT kvs) ∧ (∀ kv ∈ kvs, PyData.canLayAll0 (kv.1.map keyD) = true) ∧ Q (.bl false) H) := by
  by_cases c : sdN x = s
  · refine ⟨d, rfl, .inl ⟨_, dO_get al.s c hd iv, ?_⟩⟩
    by_cases m : x ∈ ns
    · rw [if_pos m]
      rw [decide_eq_true m] at q
      exact q
    · rw [if_neg m]
      rw [decide_eq_false m] at q
      exact q
  · have st := sx.resolve_left c
    subst st
    cases x with
    | m k => exact absurd rfl c
    | i n =>
      refine ⟨d, rfl, .inr ⟨n, _, iv, hd, fun kv mk => ?_, ?_⟩⟩
      · obtain ⟨y, my, rfl⟩ := List.mem_map.mp mk
        have g := al.gn my
        have sy := al.s y my
        have l := g.lay
        cases y with
        | i n => exact nomatch sy
        | m k => exact l
      · have nm : (Nm.i n) ∉ ns := fun m => nomatch al.s _ m
        rw [decide_eq_false nm] at q
        exact q

end My
namespace My
open PySem L2
/-! ### trees of names as the law draws them -/
structure Dr (s : Bool) (S : Lk Nm) : Prop where
  nd : S.ns.Nodup
  al : AllG s S.ns
  wf : Wf S
  od : ∀ (i : Nat) (x u : Nm), S.ns[i]? = some x → S.a x = some u → u ∈ S.ns.take i
theorem Dr.nil {s : Bool} {l r a : Nm → Option Nm} {t : Nm → Bool} {k : Nat} : Dr s ⟨[], l, r, a, t, k⟩ :=
  ⟨.nil, (fun x m => nomatch m), ⟨(fun x m => nomatch m), (fun x m => nomatch m), (fun x m => nomatch m), (fun x m => nomatch m), fun _ => 0, fun x m => nomatch m⟩, fun i x u e => by simp at e⟩
def rkO (d : Nm → Int) : Option Nm → Int
  | none => 0
  | some u => d u + 1
theorem Dr.ext {s : Bool} {S : Lk Nm} (h : Dr s S) {x : Nm} (nx : x ∉ S.ns) (g : sdN x = s ∧ MarkN x) {ou : Option Nm} (hu : ∀ u, ou = some u → u ∈ S.ns) {l' r' : Nm → Option Nm}
    (hl : ∀ y, y ≠ x → l' y = S.l y ∨ (ou = some y ∧ l' y = some x ∧ r' y = S.r y)) (hr : ∀ y, y ≠ x → r' y = S.r y ∨ (ou = some y ∧ r' y = some x ∧ l' y = S.l y)) (lx : l' x = none) (rx : r' x = none) :
    Dr s { S with ns := S.ns ++ [x], l := l', r := r', a := up1 S.a x ou } := by
  have ne : ∀ {y}, y ∈ S.ns → y ≠ x := fun {y} m e => nx (e ▸ m)
  have old : ∀ {y : Nm}, y ∈ S.ns ++ [x] → y ≠ x → y ∈ S.ns := fun {y} m n => (List.mem_append.mp m).resolve_right fun z => n (List.mem_singleton.mp z)
  have mx : x ∈ S.ns ++ [x] := List.mem_append_right _ List.mem_cons_self
  have up : ∀ {y : Nm}, y ∈ S.ns → y ∈ S.ns ++ [x] := fun {y} m => List.mem_append_left _ m
  have ax : ∀ {y : Nm}, y ∈ S.ns → up1 S.a x ou y = S.a y := fun {y} m => up1_ne (ne m)
  obtain ⟨d, hd⟩ := h.wf.rk
  refine ⟨?_, fun y m => ?_, ⟨fun y m => ?_, fun y m z e => ?_, fun y m z e => ?_, fun y m z e e2 => ?_, up1 d x (rkO d ou), fun y m u e => ?_⟩, fun i y u e e2 => ?_⟩
  · exact List.nodup_append.mpr ⟨h.nd, List.nodup_cons.mpr ⟨List.not_mem_nil, .nil⟩, fun a ma b mb e => nx (by rw [← List.mem_singleton.mp mb, ← e]; exact ma)⟩
  · by_cases c : y = x
    · rw [c]
      exact g
    · exact h.al y (old m c)
  · by_cases c : y = x
    · subst c
      refine ⟨fun z e => ?_, fun z e => ?_, fun z e => ?_⟩
      · have e : l' y = some z := e
        rw [lx] at e
        exact nomatch e
      · have e : r' y = some z := e
        rw [rx] at e
        exact nomatch e
      · have e : up1 S.a y ou y = some z := e
        rw [up1_same] at e
        exact up (hu z e)
    · have my := old m c
      obtain ⟨c1, c2, c3⟩ := h.wf.cl y my
      refine ⟨fun z e => ?_, fun z e => ?_, fun z e => ?_⟩
      · have e : l' y = some z := e
        rcases hl y c with q | ⟨_, q, _⟩
        · exact up (c1 z (q ▸ e))
        · rw [q] at e
          cases e
          exact mx
      · have e : r' y = some z := e
        rcases hr y c with q | ⟨_, q, _⟩
        · exact up (c2 z (q ▸ e))
        · rw [q] at e
          cases e
          exact mx
      · have e : up1 S.a x ou y = some z := e
        rw [ax my] at e
        exact up (c3 z e)
  · have e : l' y = some z := e
    show up1 S.a x ou z = some y
    by_cases c : y = x
    · rw [c, lx] at e
      exact nomatch e
    · have my := old m c
      rcases hl y c with q | ⟨q1, q, _⟩
      · rw [q] at e
        rw [ax ((h.wf.cl y my).1 z e)]
        exact h.wf.dl y my z e
      · rw [q] at e
        cases e
        rw [up1_same, q1]
  · have e : r' y = some z := e
    show up1 S.a x ou z = some y
    by_cases c : y = x
    · rw [c, rx] at e
      exact nomatch e
    · have my := old m c
      rcases hr y c with q | ⟨q1, q, _⟩
      · rw [q] at e
        rw [ax ((h.wf.cl y my).2.1 z e)]
        exact h.wf.dr y my z e
      · rw [q] at e
        cases e
        rw [up1_same, q1]
  · have e : l' y = some z := e
    have e2 : r' y = some z := e2
    by_cases c : y = x
    · rw [c, lx] at e
      exact nomatch e
    · have my := old m c
      rcases hl y c with q | ⟨_, q, q2⟩
      · rw [q] at e
        rcases hr y c with p | ⟨_, p, _⟩
        · rw [p] at e2
          exact h.wf.lr y my z e e2
        · rw [p] at e2
          cases e2
          exact nx ((h.wf.cl y my).1 _ e)
      · rw [q] at e
        rw [q2] at e2
        cases e
        exact nx ((h.wf.cl y my).2.1 _ e2)
  · have e : up1 S.a x ou y = some u := e
    by_cases c : y = x
    · subst c
      rw [up1_same] at e
      rw [up1_same, up1_ne (ne (hu u e)), e]
      show d u < d u + 1
      omega
    · have my := old m c
      rw [ax my] at e
      rw [up1_ne c, up1_ne (ne ((h.wf.cl y my).2.2 u e))]
      exact hd y my u e
  · have e : (S.ns ++ [x])[i]? = some y := e
    have e2 : up1 S.a x ou y = some u := e2
    show u ∈ (S.ns ++ [x]).take i
    by_cases lt : i < S.ns.length
    · rw [List.getElem?_append_left lt] at e
      have my := List.mem_of_getElem? e
      rw [ax my] at e2
      rw [List.take_append_of_le_length (Nat.le_of_lt lt)]
      exact h.od i y u e e2
    · have li : i < (S.ns ++ [x]).length := (List.getElem?_eq_some_iff.mp e).1
      rw [List.length_append] at li
      have ei : i = S.ns.length := by
        have : i < S.ns.length + 1 := li
        omega
      subst ei
      rw [List.getElem?_append_right (Nat.le_refl _), Nat.sub_self] at e
      cases (show some x = some y from e)
      rw [up1_same] at e2
      rw [List.take_append_of_le_length (Nat.le_refl _), List.take_length]
      exact hu u e2
/-- the walks up come to their ends -/
theorem Dr.ups {s : Bool} {S : Lk Nm} (h : Dr s S) : ∀ (i : Nat) (x : Nm), S.ns[i]? = some x → ∃ xs, S.ups (i + 1) (some x) = some xs ∧ ∀ y ∈ xs, y ∈ S.ns := by
  intro i
  induction i using Nat.strongRecOn with
  | ind i ih =>
    intro x e
    have mx := List.mem_of_getElem? e
    cases ea : S.a x with
    | none =>
      refine ⟨[x], ?_, fun y m => by rw [List.mem_singleton.mp m]; exact mx⟩
      show (S.ups i (S.a x)).map (x :: ·) = _
      rw [ea]
      cases i <;> rfl
    | some u =>
      obtain ⟨j, hj⟩ := List.mem_iff_getElem?.mp (h.od i x u e ea)
      rw [List.getElem?_take] at hj
      split at hj
      · rename_i lt
        obtain ⟨xs, h1, h2⟩ := ih j lt u hj
        refine ⟨x :: xs, ?_, fun y m => ?_⟩
        · show (S.ups i (S.a x)).map (x :: ·) = _
          rw [ea, Lk.ups_le h1 (by omega)]
          rfl
        · rcases List.mem_cons.mp m with rfl | m
          · exact mx
          · exact h2 y m
      · exact nomatch hj
/-! ### in the heap: a dict of lists -/
def fldN (S : Lk Nm) (c : Nat) (x : Nm) : Option Nm := match c with
  | 0 => S.l x
  | 1 => S.r x
  | _ => S.a x
def setN (S : Lk Nm) (c : Nat) (x : Nm) (y : Option Nm) : Lk Nm := match c with
  | 0 => { S with l := up1 S.l x y }
  | 1 => { S with r := up1 S.r x y }
  | _ => { S with a := up1 S.a x y }
theorem setN_ns {S : Lk Nm} {c : Nat} {x : Nm} {y : Option Nm} : (setN S c x y).ns = S.ns := by
  unfold setN
  split <;> rfl
theorem setN_ne {S : Lk Nm} {c c' : Nat} {x z : Nm} {y : Option Nm} (h : z ≠ x) : fldN (setN S c x y) c' z = fldN S c' z := by
  unfold setN fldN
  split <;> split <;> first | rfl | exact up1_ne h
theorem setN_at {S : Lk Nm} {c c' : Nat} {x : Nm} {y : Option Nm} (hc : c < 3) (hc' : c' < 3) : fldN (setN S c x y) c' x = if c' = c then y else fldN S c' x := by
  have e : c = 0 ∨ c = 1 ∨ c = 2 := by omega
  have e' : c' = 0 ∨ c' = 1 ∨ c' = 2 := by omega
  rcases e with rfl | rfl | rfl <;> rcases e' with rfl | rfl | rfl <;> first | rfl | exact up1_same
def ls3 (w : Nat → V) : List V := [w 0, w 1, w 2]
theorem ls3_at {w : Nat → V} {c : Nat} (h : c < 3) : atI (ls3 w) (c : Int) = some (w c) := by
  have e : c = 0 ∨ c = 1 ∨ c = 2 := by omega
  rcases e with rfl | rfl | rfl <;> rfl
theorem ls3_set {w : Nat → V} {c : Nat} {v : V} (h : c < 3) : (ls3 w).set c v = ls3 (up1 w c v) := by
  have e : c = 0 ∨ c = 1 ∨ c = 2 := by omega
  rcases e with rfl | rfl | rfl <;> rfl
structure TreeN (H : Hp) (s : Bool) (d : Addr) (ls : Nm → Addr) (S : Lk Nm) : Prop where
  hd : H d = some (dO s S.ns fun x => .ref (ls x))
  at' : ∀ x ∈ S.ns, ∃ w : Nat → V, H (ls x) = some (.lst (ls3 w)) ∧ ∀ c, c < 3 → IsO H (w c) (fldN S c x)
  inj : ∀ x ∈ S.ns, ∀ y ∈ S.ns, ls x = ls y → x = y
  al : AllS s S.ns
section
variable {H H' : Hp} {s : Bool} {d : Addr} {ls : Nm → Addr} {S : Lk Nm}
theorem TreeN.keep (A : TreeN H s d ls S) (t : TupK H H') (k : ∀ b o, H b = some o → (b = d ∨ ∃ x ∈ S.ns, b = ls x) → H' b = some o) : TreeN H' s d ls S :=
  ⟨k _ _ A.hd (.inl rfl), fun x m => by
    obtain ⟨w, h1, h2⟩ := A.at' x m
    exact ⟨w, k _ _ h1 (.inr ⟨x, m, rfl⟩), fun c hc => (h2 c hc).up t⟩, A.inj, A.al⟩
theorem TreeN.same (A : TreeN H s d ls S) (k : Same H H') : TreeN H' s d ls S := A.keep (Same.tupk k) fun b o e _ => k b o e
theorem TreeN.ne (A : TreeN H s d ls S) {x : Nm} (m : x ∈ S.ns) : d ≠ ls x := by
  obtain ⟨w, h, _⟩ := A.at' x m
  exact ne_of A.hd h (dO_nlst _)
theorem TreeN.get (A : TreeN H s d ls S) {x : Nm} {v : V} (m : x ∈ S.ns) (iv : IsN H v x) : DGet H d v (some (.ref (ls x))) := dO_in A.al m (.inl A.hd) iv
theorem TreeN.set (A : TreeN H s d ls S) {x : Nm} (m : x ∈ S.ns) {c : Nat} (hc : c < 3) {w : Nat → V} (hw : H (ls x) = some (.lst (ls3 w))) {v : V} {y : Option Nm} (iv : IsO H v y) :
    TreeN (upd H (ls x) (.lst ((ls3 w).set c v))) s d ls (setN S c x y) := by
  have t : TupK H (upd H (ls x) (.lst ((ls3 w).set c v))) := TupK.refl.put hw (by intro xs e; cases e)
  refine ⟨?_, fun z mz => ?_, fun z mz y' my => A.inj z (setN_ns ▸ mz) y' (setN_ns ▸ my), fun z mz => A.al z (setN_ns ▸ mz)⟩
  · rw [upd_ne (A.ne m), setN_ns]
    exact A.hd
  · rw [setN_ns] at mz
    by_cases e : z = x
    · subst e
      refine ⟨up1 w c v, by rw [upd_same, ls3_set hc], fun c' hc' => ?_⟩
      rw [setN_at hc hc']
      by_cases e : c' = c
      · rw [if_pos e, e, up1_same]
        exact iv.up t
      · rw [if_neg e, up1_ne e]
        obtain ⟨w', h1, h2⟩ := A.at' z mz
        rw [hw] at h1
        have ew : ls3 w = ls3 w' := by
          injection h1 with h1
          injection h1
        have e2 : w c' = w' c' := by
          have a1 := ls3_at (w := w) hc'
          rw [ew, ls3_at hc'] at a1
          exact (Option.some.inj a1).symm
        rw [e2]
        exact (h2 c' hc').up t
    · obtain ⟨w', h1, h2⟩ := A.at' z mz
      refine ⟨w', by rw [upd_ne fun q => e (A.inj z mz x m q)]; exact h1, fun c' hc' => ?_⟩
      rw [setN_ne e]
      exact (h2 c' hc').up t
end

/-! ### rows of names -/
structure NRow where
  x : Nm
  l : Option Nm
  r : Option Nm
  a : Option Nm
  t : Bool
def RowAt (H : Hp) (v : V) (w : NRow) : Prop := ∃ (p : Addr) (vx vl vr va : V), v = .ref p ∧ H p = some (.tup [vx, vl, vr, va, .bl w.t]) ∧ IsN H vx w.x ∧ IsO H vl w.l ∧ IsO H vr w.r ∧ IsO H va w.a
theorem RowAt.up {H H' : Hp} (k : TupK H H') {v : V} {w : NRow} (h : RowAt H v w) : RowAt H' v w := by
  obtain ⟨p, vx, vl, vr, va, h1, h2, h3, h4, h5, h6⟩ := h
  exact ⟨p, vx, vl, vr, va, h1, k _ _ h2, h3.up k, h4.up k, h5.up k, h6.up k⟩
abbrev NRs (H : Hp) : List V → List NRow → Prop := Paired (RowAt H)
theorem NRs.up {H H' : Hp} (k : TupK H H') {vs : List V} {ws : List NRow} (h : NRs H vs ws) : NRs H' vs ws := L2.Paired.mapP h fun _ _ z => z.up k
def rowT (S : Lk Nm) (f : Nm → Bool) (x : Nm) : NRow := ⟨x, S.l x, S.r x, S.a x, f x⟩

/-! ### rows as data, their texts -/
def encO : Option Nm → PyData
  | none => .none
  | some x => encN x
def encR (r : NRow) : PyData := .tuple [encN r.x, encO r.l, encO r.r, encO r.a, .bool r.t]
theorem IsO.dp {K : PySem.W.Frag} {H : Hp} {v : V} : ∀ {x : Option Nm}, IsO H v x → Dp K H v (encO x)
  | none, h => by
    rw [show v = _ from h]
    exact .non
  | some x, h => IsN.dp (show IsN H v x from h)
theorem RowAt.dp {K : PySem.W.Frag} {H : Hp} {v : V} {r : NRow} (h : RowAt H v r) : Dp K H v (encR r) := by
  obtain ⟨p, vx, vl, vr, va, rfl, hp, h3, h4, h5, h6⟩ := h
  exact .tup (SqT.of hp) (.cons h3.dp (.cons h4.dp (.cons h5.dp (.cons h6.dp (.cons (.bl _) .nil)))))
theorem NRs.dp {K : PySem.W.Frag} {H : Hp} {vs : List V} {rs : List NRow} (h : NRs H vs rs) : DpAll K H vs (rs.map encR) := by
  induction h with
  | nil => exact .nil
  | cons h _ ih => exact .cons h.dp ih
/-- data that can be shown and compared -/
structure Fine (k p : Nat) (d : PyData) : Prop where
  ls : PyData.leavesShort 30 d = true
  sh : PyData.showable d = true
  nd : PyData.hasDict d = false
  wt : PyData.weight d ≤ k
  ly : PyData.canLay0 d = true
  dp : PyData.depth d ≤ p
theorem Fine.le {k p k' p' : Nat} {d : PyData} (h : Fine k p d) (a : k ≤ k') (b : p ≤ p') : Fine k' p' d := ⟨h.ls, h.sh, h.nd, Nat.le_trans h.wt a, h.ly, Nat.le_trans h.dp b⟩
theorem fine_non : Fine 0 0 .none := ⟨rfl, rfl, rfl, Nat.le_refl _, rfl, Nat.le_refl _⟩
theorem fine_bl (b : Bool) : Fine 0 0 (.bool b) := ⟨rfl, rfl, rfl, Nat.le_refl _, rfl, Nat.le_refl _⟩
theorem fine_int {i : Int} (h : i.natAbs < 2 ^ 90) : Fine 90 0 (.int i) := by
  have z : (toString i).length ≤ 28 + 1 := int_text_length_le10 (k := 28) (by decide) (Nat.lt_trans h (by decide))
  have lg : i.natAbs.log2 < 90 := by
    by_cases e : i.natAbs = 0
    · rw [e]
      decide
    · exact (Nat.log2_lt e).mpr h
  refine ⟨?_, ?_, rfl, ?_, rfl, Nat.le_refl _⟩
  · show decide ((Str.ofString (toString i)).length ≤ 30) = true
    rw [ofString_length, decide_eq_true (by omega)]
  · show decide (i.natAbs.log2 < 1920) = true
    rw [decide_eq_true (by omega)]
  · show (if (i == 0) = true then 0 else i.natAbs.log2 + 1) ≤ 90
    split <;> omega
theorem fine_all {k p : Nat} : ∀ {ds : List PyData}, (∀ d ∈ ds, Fine k p d) → PyData.leavesShortAll 30 ds = true ∧ PyData.showableAll ds = true ∧ PyData.hasDictAll ds = false ∧ PyData.weightAll ds ≤ (k + 1) * ds.length ∧ PyData.canLayAll0 ds = true ∧ PyData.depthAll ds ≤ p
  | [], _ => ⟨rfl, rfl, rfl, Nat.zero_le _, rfl, Nat.zero_le _⟩
  | d :: ds, h => by
    have f := h d List.mem_cons_self
    obtain ⟨b1, b2, b3, b4, b5, b6⟩ := fine_all (ds := ds) fun z m => h z (List.mem_cons_of_mem _ m)
    refine ⟨?_, ?_, ?_, ?_, ?_, ?_⟩
    · show (PyData.leavesShort 30 d && PyData.leavesShortAll 30 ds) = true
      rw [f.ls, b1]
      rfl
    · show (PyData.showable d && PyData.showableAll ds) = true
      rw [f.sh, b2]
      rfl
    · show (PyData.hasDict d || PyData.hasDictAll ds) = false
      rw [f.nd, b3]
      rfl
    · show PyData.weight d + 1 + PyData.weightAll ds ≤ (k + 1) * (ds.length + 1)
      have := f.wt
      rw [Nat.mul_add]
      omega
    · show (PyData.canLay0 d && PyData.canLayAll0 ds) = true
      rw [f.ly, b5]
      rfl
    · show max (PyData.depth d) (PyData.depthAll ds) ≤ p
      exact Nat.max_le.mpr ⟨f.dp, b6⟩
theorem fine_tup {k p n : Nat} {ds : List PyData} (h : ∀ d ∈ ds, Fine k p d) (l : ds.length ≤ n) : Fine ((k + 1) * n) (p + 1) (.tuple ds) := by
  obtain ⟨b1, b2, b3, b4, b5, b6⟩ := fine_all h
  exact ⟨b1, b2, b3, Nat.le_trans b4 (Nat.mul_le_mul_left _ l), b5, Nat.succ_le_succ b6⟩
theorem Fine.shp {k p : Nat} {d : PyData} (h : Fine k p d) (l : p ≤ 64) : SeqAt.shaped d = true := by
  unfold SeqAt.shaped
  rw [h.ly, decide_eq_true (show PyData.depth d ≤ 64 from Nat.le_trans h.dp l)]
  rfl
theorem Fine.len {k p : Nat} {d : PyData} (h : Fine k p d) (l : k ≤ 400000) : d.shown.length ≤ sizeLine := by
  have z := PyData.shown_le 30 (by decide) d h.ls
  have w := h.wt
  have e : sizeLine = 16777216 := by decide
  rw [e]
  omega
theorem MarkN.fine : ∀ {x : Nm}, MarkN x → Fine 273 1 (encN x)
  | .i n, h => (fine_int (Nat.lt_trans (show n.natAbs < 2 ^ 29 from h) (by decide))).le (by decide) (by decide)
  | .m k, h => by
    have st : ∀ w : Str, (w = "point" ∨ w = "over") → Fine 90 0 (.str w) := fun w hw => by
      rcases hw with rfl | rfl
      · exact ⟨by decide +kernel, rfl, rfl, by decide +kernel, by decide +kernel, Nat.zero_le _⟩
      · exact ⟨by decide +kernel, rfl, rfl, by decide +kernel, by decide +kernel, Nat.zero_le _⟩
    have ii : ∀ a : Int, 0 ≤ a → a < 2 ^ 60 → Fine 90 0 (.int a) := fun a h0 h1 => fine_int (Nat.lt_trans (show a.natAbs < 2 ^ 60 by omega) (by decide))
    rcases h with ⟨a, ⟨a0, a1⟩, rfl⟩ | ⟨a, b, ⟨a0, a1⟩, ⟨b0, b1⟩, rfl⟩
    · refine (fine_tup (k := 90) (p := 0) (n := 3) (ds := [.str "point", .int a]) (fun d m => ?_) (by show 2 ≤ 3; decide)).le (by decide) (by decide)
      rcases List.mem_cons.mp m with rfl | m
      · exact st _ (.inl rfl)
      · rw [List.mem_singleton.mp m]
        exact ii a a0 a1
    · refine (fine_tup (k := 90) (p := 0) (n := 3) (ds := [.str "over", .int a, .int b]) (fun d m => ?_) (Nat.le_refl 3)).le (by decide) (by decide)
      rcases List.mem_cons.mp m with rfl | m
      · exact st _ (.inr rfl)
      · rcases List.mem_cons.mp m with rfl | m
        · exact ii a a0 a1
        · rw [List.mem_singleton.mp m]
          exact ii b b0 b1
def okR (r : NRow) : Prop := MarkN r.x ∧ (∀ y, r.l = some y → MarkN y) ∧ (∀ y, r.r = some y → MarkN y) ∧ ∀ y, r.a = some y → MarkN y
theorem fine_row {r : NRow} (h : okR r) : Fine 1370 2 (encR r) := by
  obtain ⟨h1, h2, h3, h4⟩ := h
  have o : ∀ x : Option Nm, (∀ y, x = some y → MarkN y) → Fine 273 1 (encO x) := fun x h => by
    cases x with
    | none => exact fine_non.le (by decide) (by decide)
    | some y => exact (h y rfl).fine
  refine (fine_tup (k := 273) (p := 1) (n := 5) (ds := [encN r.x, encO r.l, encO r.r, encO r.a, .bool r.t]) (fun d m => ?_) (Nat.le_refl 5)).le (by decide) (by decide)
  simp only [List.mem_cons, List.not_mem_nil, or_false] at m
  rcases m with rfl | rfl | rfl | rfl | rfl
  · exact h1.fine
  · exact o _ h2
  · exact o _ h3
  · exact o _ h4
  · exact (fine_bl _).le (by decide) (by decide)
theorem fine_rows {rs : List NRow} (h : ∀ r ∈ rs, okR r) (l : rs.length ≤ 100) : Fine 137100 3 (.tuple (rs.map encR)) := by
  refine (fine_tup (k := 1370) (p := 2) (n := 100) (fun d m => ?_) (by rw [List.length_map]; exact l)).le (by decide) (by decide)
  obtain ⟨r, mr, rfl⟩ := List.mem_map.mp m
  exact fine_row (h r mr)
theorem Dr.okR {s : Bool} {S : Lk Nm} (h : Dr s S) (f : Nm → Bool) : ∀ r ∈ (sortN S.ns).map (rowT S f), okR r := fun r m => by
  obtain ⟨x, mx, rfl⟩ := List.mem_map.mp m
  have mx := sortN_mem.mp mx
  obtain ⟨c1, c2, c3⟩ := h.wf.cl x mx
  exact ⟨(h.al x mx).2, fun y e => (h.al y (c1 y e)).2, fun y e => (h.al y (c2 y e)).2, fun y e => (h.al y (c3 y e)).2⟩

end My
namespace My
open PySem L2
theorem iteNN {c A B : Prop} [Decidable c] (hc : ¬ c) (h : A) : if (!decide c) = true then A else B := by
  rw [decide_eq_false hc]
  exact iteT h
theorem Same.none {H H' : Hp} {d : Addr} (s : Same H H') (n : H' d = none) : H d = none := by
  cases e : H d with
  | none => rfl
  | some o =>
    rw [s _ _ e] at n
    cases n
theorem same_put {H H1 : Hp} {d : Addr} {o : HO} (s : Same H H1) (n : H d = none) : Same H (upd H1 d o) := fun b u z => by
  rw [upd_ne (ne_of_none z n)]
  exact s b u z

/-! ### links of names in the heap -/
theorem tk_insN {α : Type} {ns : List α} {i : Nat} {x : α} (h : ns[i]? = some x) : ns.take (i + 1) = ns.take i ++ [x] := by rw [List.take_succ, h]; rfl
theorem notin_takeN {α : Type} {ms : List α} (nd : ms.Nodup) {i : Nat} {x : α} (h : ms[i]? = some x) : x ∉ ms.take i := fun m => by
  obtain ⟨j, hj⟩ := List.mem_iff_getElem?.mp m
  rw [List.getElem?_take] at hj
  split at hj
  · rename_i lt
    have := (List.getElem?_inj (List.getElem?_eq_some_iff.mp hj).1 nd).mp (hj.trans h.symm)
    omega
  · exact nomatch hj
theorem paired_snocN {α β : Type} {F : α → β → Prop} {xs : List α} {ys : List β} {x : α} {y : β} (p : Paired F xs ys) (h : F x y) : Paired F (xs ++ [x]) (ys ++ [y]) := by
  induction p with
  | nil => exact .cons h .nil
  | cons e _ ih => exact .cons e ih
inductive Fd | L | R | A | T
  deriving DecidableEq
def Fd.nm : Fd → Str
  | .L => "left" | .R => "right" | .A => "above" | .T => "turned"
structure SA where
  h : Addr
  d : Fd → Addr
def SA.has (A : SA) (p : Addr) : Prop := p = A.h ∨ ∃ f, p = A.d f
theorem SA.hh (A : SA) : A.has A.h := .inl rfl
theorem SA.hd (A : SA) (f : Fd) : A.has (A.d f) := .inr ⟨f, rfl⟩
/-- names that are no field -/
def mOk (m : Str) : Bool := !decide (m = "left") && !decide (m = "right") && !decide (m = "above") && !decide (m = "turned") && !decide (m = "looked")
structure FlOk (A : SA) (k : Int) (fs : List (Str × V)) : Prop where
  at_ : ∀ f : Fd, fs.lookup f.nm = some (.ref (A.d f))
  lk : fs.lookup ("looked" : Str) = some (.int k)
  no : ∀ m : Str, mOk m = true → fs.lookup m = none
  len : fs.length < 900
theorem nm_lk : ∀ f : Fd, ¬ f.nm = ("looked" : Str)
  | .L => by decide +kernel
  | .R => by decide +kernel
  | .A => by decide +kernel
  | .T => by decide +kernel
theorem mOk_lk {m : Str} (h : mOk m = true) : ¬ m = ("looked" : Str) := fun e => by
  unfold mOk at h
  rw [e, decide_eq_true rfl] at h
  simp at h
theorem putF_same {f : Str} {u v : V} : ∀ {fs : List (Str × V)}, fs.lookup f = some u → (putF f v fs).length = fs.length
  | [], h => nomatch h
  | (g, x) :: r, h => by
    show (if g = f then (g, v) :: r else (g, x) :: putF f v r).length = r.length + 1
    by_cases e : g = f
    · rw [if_pos e]
      rfl
    · rw [if_neg e]
      rw [List.lookup_cons] at h
      have ne : (f == g) = false := by
        rw [beq_eq_false_iff_ne]
        exact fun z => e z.symm
      rw [ne] at h
      show (putF f v r).length + 1 = _
      rw [putF_same h]
theorem putF_le (f : Str) (v : V) : ∀ fs : List (Str × V), (putF f v fs).length ≤ fs.length + 1
  | [] => Nat.le_refl _
  | (g, x) :: r => by
    have ih := putF_le f v r
    show (if g = f then (g, v) :: r else (g, x) :: putF f v r).length ≤ r.length + 1 + 1
    split
    · rw [List.length_cons]
      omega
    · rw [List.length_cons]
      omega
theorem FlOk.put {A : SA} {k m : Int} {fs : List (Str × V)} (h : FlOk A k fs) : FlOk A m (putF "looked" (.int m) fs) :=
  ⟨fun f => by rw [lookup_putF, if_neg (nm_lk f)]; exact h.at_ f, by rw [lookup_putF, if_pos rfl], fun g e => by rw [lookup_putF, if_neg (mOk_lk e)]; exact h.no g e, by rw [putF_same h.lk]; exact h.len⟩
/-- all but the links as it was -/
def ButS (A : SA) (H H' : Hp) : Prop := ∀ b o, H b = some o → ¬ A.has b → H' b = some o
theorem ButS.refl {A : SA} {H : Hp} : ButS A H H := fun _ _ e _ => e
theorem ButS.trans {A : SA} {H H1 H2 : Hp} (x : ButS A H H1) (y : ButS A H1 H2) : ButS A H H2 := fun b o e n => y b o (x b o e n) n
theorem ButS.of {A : SA} {H H1 : Hp} (s : Same H H1) : ButS A H H1 := fun b o e _ => s b o e
theorem ButS.same {A : SA} {H H1 H2 : Hp} (x : ButS A H H1) (s : Same H1 H2) : ButS A H H2 := x.trans (.of s)
theorem ButS.put {A : SA} {H H1 : Hp} {p : Addr} {o : HO} (x : ButS A H H1) (m : A.has p) : ButS A H (upd H1 p o) := fun b u e n => by
  rw [upd_ne fun (z : b = p) => n (z ▸ m)]
  exact x b u e n
theorem ButS.none {A : SA} {H H1 : Hp} {p : Addr} (x : ButS A H H1) (n : ¬ A.has p) (e : H1 p = none) : H p = none := by
  cases q : H p with
  | none => rfl
  | some o =>
    rw [x p o q n] at e
    exact nomatch e
/-- what stands at a name in a field -/
def FV (H : Hp) (S : Lk Nm) : Fd → Nm → V → Prop
  | .L, x, v => IsO H v (S.l x)
  | .R, x, v => IsO H v (S.r x)
  | .A, x, v => IsO H v (S.a x)
  | .T, x, v => v = .bl (S.t x)
theorem FV.up {H H' : Hp} {S : Lk Nm} (k : TupK H H') : ∀ {f : Fd} {x : Nm} {v : V}, FV H S f x v → FV H' S f x v
  | .L, _, _, h => IsO.up k h
  | .R, _, _, h => IsO.up k h
  | .A, _, _, h => IsO.up k h
  | .T, _, _, h => h
structure StN (C : Addr) (H : Hp) (s : Bool) (A : SA) (S : Lk Nm) : Prop where
  ob : ∃ dx fs, H A.h = some (.ins C dx fs) ∧ FlOk A (S.lk : Int) fs
  ex : ∃ g : Fd → Nm → V, (∀ f, H (A.d f) = some (dO s S.ns (g f))) ∧ ∀ f, ∀ x ∈ S.ns, FV H S f x (g f x)
  inj : ∀ f e, A.d f = A.d e → f = e
  nn : S.ns.Nodup
  al : AllG s S.ns
  sz : S.ns.length ≤ 1000
theorem dO_nins {s : Bool} {ns : List Nm} {f : Nm → V} : ∀ C dx fs, dO s ns f ≠ .ins C dx fs := by cases s <;> (intro C dx fs e; exact nomatch e)
section
variable {C : Addr} {H H' : Hp} {s : Bool} {A : SA} {S S' : Lk Nm}
theorem StN.hne (L : StN C H s A S) (f : Fd) : A.h ≠ A.d f := by
  obtain ⟨dx, fs, e, _⟩ := L.ob
  obtain ⟨g, h, _⟩ := L.ex
  exact ne_of e (h f) fun z => dO_nins _ _ _ z.symm
theorem StN.has (L : StN C H s A S) {p : Addr} (m : A.has p) : ∃ o, H p = some o ∧ ((∃ dx fs, o = .ins C dx fs) ∨ ∃ f, o = dO s S.ns f) := by
  rcases m with rfl | ⟨f, rfl⟩
  · obtain ⟨dx, fs, e, _⟩ := L.ob
    exact ⟨_, e, .inl ⟨_, _, rfl⟩⟩
  · obtain ⟨g, h, _⟩ := L.ex
    exact ⟨_, h f, .inr ⟨_, rfl⟩⟩
theorem StN.nnew (L : StN C H s A S) {p : Addr} (e : H p = none) : ¬ A.has p := fun m => by
  obtain ⟨o, h, _⟩ := L.has m
  rw [e] at h
  exact nomatch h
theorem StN.ntup (L : StN C H s A S) {p : Addr} {xs : List V} (e : H p = some (.tup xs)) : ¬ A.has p := fun m => by
  obtain ⟨u, h, k⟩ := L.has m
  rw [e] at h
  cases h
  rcases k with ⟨dx, fs, k⟩ | ⟨f, k⟩
  · exact nomatch k
  · exact dO_ntup _ k.symm
theorem StN.nlst (L : StN C H s A S) {p : Addr} {xs : List V} (e : H p = some (.lst xs)) : ¬ A.has p := fun m => by
  obtain ⟨u, h, k⟩ := L.has m
  rw [e] at h
  cases h
  rcases k with ⟨dx, fs, k⟩ | ⟨f, k⟩
  · exact nomatch k
  · exact dO_nlst _ k.symm
theorem StN.tk (L : StN C H s A S) (k : ButS A H H') : TupK H H' := fun a xs e => k a _ e (L.ntup e)
/-- nothing of it written -/
theorem StN.keep (L : StN C H s A S) (k : ∀ b o, H b = some o → A.has b → H' b = some o) (t : TupK H H') : StN C H' s A S := by
  obtain ⟨dx, fs, e, h⟩ := L.ob
  obtain ⟨g, h1, h2⟩ := L.ex
  exact ⟨⟨dx, fs, k _ _ e A.hh, h⟩, ⟨g, fun f => k _ _ (h1 f) (A.hd f), fun f x m => (h2 f x m).up t⟩, L.inj, L.nn, L.al, L.sz⟩
theorem StN.same (L : StN C H s A S) (k : Same H H') : StN C H' s A S := L.keep (fun b o e _ => k b o e) (Same.tupk k)
theorem StN.get (L : StN C H s A S) (f : Fd) {x : Nm} {w : V} (m : x ∈ S.ns) (iw : IsN H w x) : ∃ v, DGet H (A.d f) w (some v) ∧ FV H S f x v := by
  obtain ⟨g, h1, h2⟩ := L.ex
  exact ⟨g f x, dO_in L.al.s m (.inl (h1 f)) iw, h2 f x m⟩
/-- one entry written -/
theorem StN.put (L : StN C H s A S) (f : Fd) {x : Nm} {w v : V} (m : x ∈ S.ns) (iw : IsN H w x) (ens : S'.ns = S.ns) (elk : S'.lk = S.lk) (oth : ∀ e y u, (e ≠ f ∨ y ≠ x) → FV H S e y u → FV H S' e y u) (hv : FV H S' f x v) :
    ∃ H', DPut H (A.d f) w v H' ∧ ButS A H H' ∧ TupK H H' ∧ StN C H' s A S' := by
  obtain ⟨dx, fs, eh, hfl⟩ := L.ob
  obtain ⟨g, h1, h2⟩ := L.ex
  have k : ButS A H (upd H (A.d f) (dO s S.ns (up1 (g f) x v))) := ButS.refl.put (A.hd f)
  have t := L.tk k
  refine ⟨upd H (A.d f) (dO s S.ns (up1 (g f) x v)), dO_put L.al.s m (h1 f) iw (szl (by have := L.sz; omega)), k, t, ⟨⟨dx, fs, by rw [upd_ne (L.hne f)]; exact eh, by rw [elk]; exact hfl⟩, ⟨fun e => if e = f then up1 (g f) x v else g e, fun e => ?_, fun e y my => ?_⟩, L.inj, by rw [ens]; exact L.nn, by rw [ens]; exact L.al, by rw [ens]; exact L.sz⟩⟩
  · rw [ens]
    by_cases c : e = f
    · subst c
      rw [upd_same]
      dsimp only
      rw [if_pos rfl]
    · rw [upd_ne fun z => c (L.inj _ _ z)]
      dsimp only
      rw [if_neg c]
      exact h1 e
  · rw [ens] at my
    refine FV.up t ?_
    by_cases c : e = f
    · subst c
      show FV H S' e y ((if e = e then up1 (g e) x v else g e) y)
      rw [if_pos rfl]
      by_cases c2 : y = x
      · subst c2
        rw [up1_same]
        exact hv
      · rw [up1_ne c2]
        exact oth e y _ (.inr c2) (h2 e y my)
    · show FV H S' e y ((if e = f then up1 (g f) x v else g e) y)
      rw [if_neg c]
      exact oth e y _ (.inl c) (h2 e y my)
/-- looked, one more -/
theorem StN.lkd (L : StN C H s A S) {dx : Addr} {fs : List (Str × V)} (e : H A.h = some (.ins C dx fs)) (k : Nat) : StN C (upd H A.h (.ins C dx (putF "looked" (.int (k : Int)) fs))) s A { S with lk := k } := by
  obtain ⟨dx', fs', e', hfl⟩ := L.ob
  rw [e] at e'
  cases e'
  obtain ⟨g, h1, h2⟩ := L.ex
  have kk : ButS A H (upd H A.h (.ins C dx (putF "looked" (.int (k : Int)) fs))) := ButS.refl.put A.hh
  refine ⟨⟨dx, _, upd_same, hfl.put⟩, ⟨g, fun f => by rw [upd_ne (L.hne f).symm]; exact h1 f, fun f x m => FV.up (L.tk kk) ?_⟩, L.inj, L.nn, L.al, L.sz⟩
  have z := h2 f x m
  cases f <;> exact z
theorem othL {x : Nm} {y : Option Nm} : ∀ e z w, (e ≠ Fd.L ∨ z ≠ x) → FV H S e z w → FV H { S with l := up1 S.l x y } e z w := by
  intro e z w h k
  by_cases c : e = Fd.L
  · subst c
    show IsO H w (up1 S.l x y z)
    rw [up1_ne (h.resolve_left fun q => q rfl)]
    exact k
  · cases e <;> first | exact k | exact absurd rfl c
theorem othR {x : Nm} {y : Option Nm} : ∀ e z w, (e ≠ Fd.R ∨ z ≠ x) → FV H S e z w → FV H { S with r := up1 S.r x y } e z w := by
  intro e z w h k
  by_cases c : e = Fd.R
  · subst c
    show IsO H w (up1 S.r x y z)
    rw [up1_ne (h.resolve_left fun q => q rfl)]
    exact k
  · cases e <;> first | exact k | exact absurd rfl c
theorem othA {x : Nm} {y : Option Nm} : ∀ e z w, (e ≠ Fd.A ∨ z ≠ x) → FV H S e z w → FV H { S with a := up1 S.a x y } e z w := by
  intro e z w h k
  by_cases c : e = Fd.A
  · subst c
    show IsO H w (up1 S.a x y z)
    rw [up1_ne (h.resolve_left fun q => q rfl)]
    exact k
  · cases e <;> first | exact k | exact absurd rfl c
theorem othT {x : Nm} {y : Bool} : ∀ e z w, (e ≠ Fd.T ∨ z ≠ x) → FV H S e z w → FV H { S with t := up1 S.t x y } e z w := by
  intro e z w h k
  by_cases c : e = Fd.T
  · subst c
    show w = .bl (up1 S.t x y z)
    rw [up1_ne (h.resolve_left fun q => q rfl)]
    exact k
  · cases e <;> first | exact k | exact absurd rfl c
end
/-! ### names compared as data -/
theorem eq_nmN {s : Bool} {x y : Nm} (hx : Gn s x) (hy : Gn s y) : PyData.eqv (encN x) (encN y) = decide (x = y) := by
  by_cases e : x = y
  · subst e
    rw [decide_eq_true rfl]
    exact SeqAt.eqv_refl _ hx.lay
  · rw [decide_eq_false e, Bool.eq_false_iff]
    intro h
    apply e
    cases hx <;> cases hy
    · simp [encN, PyData.eqv] at h
      rw [h]
    · simp [encN, mkP, mkO, keyD, PyData.eqv, PyData.eqvAll] at h
      rw [h]
    · simp [encN, mkP, mkO, keyD, PyData.eqv, PyData.eqvAll] at h
    · simp [encN, mkP, mkO, keyD, PyData.eqv, PyData.eqvAll] at h
    · simp [encN, mkP, mkO, keyD, PyData.eqv, PyData.eqvAll] at h
      rw [h.1, h.2]
theorem Gn.nn {s : Bool} {x : Nm} (h : Gn s x) : PyData.eqv .none (encN x) = false ∧ PyData.eqv (encN x) .none = false := by
  cases h <;> exact ⟨rfl, rfl⟩
def GnO (s : Bool) (x : Option Nm) : Prop := ∀ y, x = some y → Gn s y
theorem eq_nmO {s : Bool} {x y : Option Nm} (hx : GnO s x) (hy : GnO s y) : PyData.eqv (encO x) (encO y) = decide (x = y) := by
  cases x with
  | none =>
    cases y with
    | none => rfl
    | some y => exact (hy y rfl).nn.1
  | some x =>
    cases y with
    | none => exact (hx x rfl).nn.2
    | some y =>
      have := eq_nmN (hx x rfl) (hy y rfl)
      show PyData.eqv (encN x) (encN y) = _
      rw [this]
      by_cases e : x = y
      · rw [decide_eq_true e, decide_eq_true (congrArg some e)]
      · rw [decide_eq_false e, decide_eq_false fun z => e (Option.some.inj z)]
theorem shp_nmO {s : Bool} {x : Option Nm} (h : GnO s x) : SeqAt.shaped (encO x) = true := by
  cases x with
  | none => rfl
  | some x => exact shp_nm (h x rfl)
theorem Cl.gl {S : Lk Nm} {s : Bool} (h : Cl S) (al : AllG s S.ns) {x : Nm} (m : x ∈ S.ns) : GnO s (S.l x) ∧ GnO s (S.r x) ∧ GnO s (S.a x) :=
  ⟨fun y e => al.gn ((h x m).1 y e), fun y e => al.gn ((h x m).2.1 y e), fun y e => al.gn ((h x m).2.2 y e)⟩
theorem paired_appN {α β : Type} {F : α → β → Prop} {xs xs' : List α} {ys ys' : List β} (p : Paired F xs ys) (q : Paired F xs' ys') : Paired F (xs ++ xs') (ys ++ ys') := by
  induction p with
  | nil => exact q
  | cons e _ ih => exact .cons e ih
theorem rEq_nm {s : Bool} {K : PySem.W.Frag} {H : Hp} {Q : VK} {v w : V} {y : Option Nm} {x : Nm} (iv : IsO H v y) (iw : IsN H w x) (gy : GnO s y) (gx : Gn s x) (q : Q (.bl (decide (y = some x))) H) : rEqD K v w H Q :=
  ⟨encO y, encN x, iv.dp, iw.dp, shp_nmO gy, shp_nm gx, by
    have e : PyData.eqv (encO y) (encN x) = decide (y = some x) := eq_nmO (y := some x) gy fun z e => by cases e; exact gx
    rw [e]
    exact q⟩

end My
namespace My
open PySem L2
/-! ### data compared -/
def rLtD (K : PySem.W.Frag) : R2 := fun x y H Q => ∃ da db, Dp K H x da ∧ Dp K H y db ∧ PySem.W.alike da db = true ∧ da ≠ .none ∧ da.depth ≤ 64 ∧ Q (.bl (PySem.W.dataLt da db)) H
section
variable {X : Cx}
theorem op_ltD (hu : X.A.units + 65 < cLine) : OpR X (compareOp .Lt) (rLtD X.K) := by
  intro pins s σ H x y v u Q I rx ry h
  obtain ⟨da, db, dx, dy, al, nn, dep, q⟩ := h
  obtain ⟨as, ra⟩ := Dp.reads I da x v dx rx
  obtain ⟨bs, rb⟩ := Dp.reads I db y u dy ry
  exact PySem.W.lt_data ra rb al nn (by show X.A.units + min _ _ < cLine; omega) ⟨.bl _, H, I, rfl, q⟩
theorem op_ltDK {K : PySem.W.Frag} (hK : X.K = K) (hu : X.A.units + 65 < cLine) : OpR X (compareOp .Lt) (rLtD K) := by
  subst hK
  exact op_ltD hu
/-! ### `x not in d`: a name asked of a dict of names; an int may be asked of marks -/
def tDNotInM (ty td : TE) : TE := fun σ H Q => ty σ H fun y H1 => td σ H1 fun x H2 => ∃ a, x = .ref a ∧ ((∃ o, DGet H2 a y o ∧ Q (.bl (!o.isSome)) H2) ∨ ∃ i kvs, y = .int i ∧ Rd H2 a (.dT kvs) ∧ (∀ kv ∈ kvs, PyData.canLayAll0 (kv.1.map keyD) = true) ∧ Q (.bl true) H2)
end
section
variable {prog : Program} {w : World} {A : Around} {E : Value → Shared → Prop} {s : Shared}
theorem notin_otherN {d : Addr} {xs : List (List Key × Addr × Value)} {i : Int} {t : Tok} {Q : Value → Shared → Prop} (hm : s.heap.DictOfH (tupleKind (mixKind prog w)) d xs) (lay : ∀ x ∈ xs, PyData.canLayAll0 (x.1.map keyD) = true) (hu : A.units + 1 < cLine) (nd : (d == sysModules) = false)
    (k : ∀ tk, Q (.bool true) { s with toks := tk }) : wpAny (model prog w) A (compareOp .NotIn (.int i t) (.ref d)) Q E s := by
  refine wpAny_bind (m := contains (.ref d) (.int i t)) ?_
  unfold contains
  refine wpAny_holding (wpAny_bind (wpAny_specialOf hm.typeIs PySem.F.slot_dict_contains.lookup ?_))
  show wpAny _ _ (if (some (Value.builtin "dict.__contains__") == some Value.none) = true then _ else _) _ E s
  rw [if_neg (fun z => by rw [beq_builtin_none] at z; cases z)]
  refine wpAny_bind (wpAny_callSpecialUnlessNone?_slot (name := Str.ofString "__contains__") hm.typeIs PySem.F.slot_dict_contains (wpAny_call_entry PySem.F.slot_dict_contains hm.typeIs PySem.F.entry_dict_contains ?_ (args_dict_contains _ _)))
  refine wpAny_bind (m := dictGet d (.int i t)) ?_
  unfold dictGet
  refine wpAny_holding (wpAny_bind ((intKind prog w).pyHash (k := i) (intKind_is _ _ _ _) (wpAny_bind (find_otherN (s := { s with toks := s.toks + 1 }) hm lay (by show A.units + 1 < cLine; exact hu) (wpAny_pure ?_)))))
  rw [if_neg (by decide)]
  exact wpAny_bind (wpAny_pendingKey_int (wpAny_pure ⟨_, rfl, wpAny_truthy_bool (wpAny_pure (k _))⟩))
end
section
theorem pc_dnotinM {X : Cx} {i o : Expr} {ty td : TE} (hu : X.A.units + 1 < cLine) (hi : PE X i ty) (ho : PE X o td) : PC X .NotIn i o (tDNotInM ty td) := by
  refine ⟨fun pins z σ H Q I h => thn (hi.run pins z σ H _ I h) fun iv z1 ⟨y, H1, I1, ry, q1⟩ => thn (ho.run pins z1 σ H1 _ I1 q1) fun u z2 ⟨x, H2, I2, rx, a, ex, q2⟩ => ?_⟩
  subst ex
  cases (show u = Value.ref a from rx)
  rcases q2 with ⟨ov, g, q2⟩ | ⟨n, kvs, rfl, rd, lay, q2⟩
  · exact d_notIn hu I2 g ry fun z3 I3 => ⟨.bl (!ov.isSome), H2, I3, rfl, q2⟩
  · obtain ⟨t, rfl⟩ := ry
    obtain ⟨_, nm, xs, rel, dd⟩ := dt_rd I2.hok rd
    have keys : ∀ {l : List (List Key × V)} {m : List (List Key × Addr × Value)}, KT H2 l m → ∀ x ∈ m, ∃ kv ∈ l, kv.1 = x.1 := by
      intro l m r
      induction r with
      | nil => intro x hx; exact nomatch hx
      | @cons p q ps qs hq r ih =>
        intro x hx
        rcases List.mem_cons.mp hx with rfl | hx
        · exact ⟨p, List.mem_cons_self, hq.1⟩
        · obtain ⟨kv, m, e⟩ := ih x hx
          exact ⟨kv, List.mem_cons_of_mem _ m, e⟩
    refine notin_otherN dd (fun x hx => ?_) hu nm fun tk => ⟨.bl true, H2, I2.tok _, rfl, q2⟩
    obtain ⟨kv, m, e⟩ := keys rel x hx
    rw [← e]
    exact lay kv m
end
theorem notin_nm {s : Bool} {d : Addr} {ns : List Nm} {f : Nm → V} {H : Hp} {v : V} {x : Nm} {Q : VK} (al : AllG s ns) (hd : Rd H d (dO s ns f)) (iv : IsN H v x) (sx : sdN x = s ∨ s = true) (q : Q (.bl (!decide (x ∈ ns))) H) :
    ∃ a, V.ref d = .ref a ∧ ((∃ o, DGet H a v o ∧ Q (.bl (!o.isSome)) H) ∨ ∃ i kvs, v = .int i ∧ Rd H a (.dT kvs) ∧ (∀ kv ∈ kvs, PyData.canLayAll0 (kv.1.map keyD) = true) ∧ Q (.bl true) H) := by
  have z := in_nm (Q := fun w G => Q (match w with | .bl b => .bl (!b) | w => w) G) al hd iv sx q
  exact z


/-! ### the text by places -/
def topS (i : Nat) : Stmt := PySem.Challenge.pw_tiedcut_k23_shapes_or_not.main.body.getD i (.Pass ⟨0, 0, 0, 0⟩)
abbrev s_iswhole : Stmt := topS 1
abbrev s_isrising : Stmt := topS 2
abbrev s_ismark : Stmt := topS 4
abbrev s_isname : Stmt := topS 5
abbrev s_isshape : Stmt := topS 7
abbrev s_isshaperow : Stmt := topS 8
abbrev s_arelinked : Stmt := topS 9
abbrev s_isbelow : Stmt := topS 10
abbrev s_hasringabove : Stmt := topS 11
abbrev s_Lmixed : Stmt := topS 13
abbrev s_Lpot : Stmt := topS 14
abbrev s_Ltake : Stmt := topS 15
abbrev s_Lrows : Stmt := topS 16
abbrev s_Lnames : Stmt := topS 17
abbrev s_Ltree : Stmt := topS 18
abbrev s_Lshape : Stmt := topS 19
abbrev s_Lput : Stmt := topS 20
abbrev s_Lwrong : Stmt := topS 21
abbrev s_Lcrossed : Stmt := topS 22
abbrev s_law : Stmt := topS 23
theorem sc_iswhole : FnScope ["thing"] ["thing"] (defScope s_iswhole) := ⟨rfl, rfl, rfl, by decide +kernel, rfl, by decide +kernel, by decide +kernel⟩
theorem sc_isrising : FnScope ["row", "low", "high"] ["row"] (defScope s_isrising) := ⟨rfl, rfl, rfl, by decide +kernel, rfl, by decide +kernel, by decide +kernel⟩
theorem sc_ismark : FnScope ["thing", "number"] ["thing"] (defScope s_ismark) := ⟨rfl, rfl, rfl, by decide +kernel, rfl, by decide +kernel, by decide +kernel⟩
theorem sc_isname : FnScope ["thing"] ["thing"] (defScope s_isname) := ⟨rfl, rfl, rfl, by decide +kernel, rfl, by decide +kernel, by decide +kernel⟩
theorem sc_isshape : FnScope ["thing", "row", "names", "name"] ["thing"] (defScope s_isshape) := ⟨rfl, rfl, rfl, by decide +kernel, rfl, by decide +kernel, by decide +kernel⟩
theorem sc_isshaperow : FnScope ["thing", "name", "left", "right", "above", "turned", "other"] ["thing"] (defScope s_isshaperow) := ⟨rfl, rfl, rfl, by decide +kernel, rfl, by decide +kernel, by decide +kernel⟩
theorem sc_arelinked : FnScope ["rows", "above", "row", "name", "left", "right", "over", "turned", "child"] ["rows"] (defScope s_arelinked) := ⟨rfl, rfl, rfl, by decide +kernel, rfl, by decide +kernel, by decide +kernel⟩
theorem sc_isbelow : FnScope ["above", "child", "name"] ["above", "child", "name"] (defScope s_isbelow) := ⟨rfl, rfl, rfl, by decide +kernel, rfl, by decide +kernel, by decide +kernel⟩
theorem sc_hasringabove : FnScope ["above", "begun", "start", "name"] ["above"] (defScope s_hasringabove) := ⟨rfl, rfl, rfl, by decide +kernel, rfl, by decide +kernel, by decide +kernel⟩
theorem sc_Lmixed : FnScope ["_law_cell", "_law_k", "_law_number", "_law_other"] ["_law_cell", "_law_k"] (defScope s_Lmixed) := ⟨rfl, rfl, rfl, by decide +kernel, rfl, by decide +kernel, by decide +kernel⟩
theorem sc_Lpot : FnScope ["_law_script", "_law_total", "_law_k", "_law_cell"] ["_law_script"] (defScope s_Lpot) := ⟨rfl, rfl, rfl, by decide +kernel, rfl, by decide +kernel, by decide +kernel⟩
theorem sc_Ltake : FnScope ["_law_pot_here", "_law_many", "_law_digit"] ["_law_pot_here", "_law_many"] (defScope s_Ltake) := ⟨rfl, rfl, rfl, by decide +kernel, rfl, by decide +kernel, by decide +kernel⟩
theorem sc_Lrows : FnScope ["_law_tree_here", "_law_name"] ["_law_tree_here"] (defScope s_Lrows) := ⟨rfl, rfl, rfl, by decide +kernel, rfl, by decide +kernel, by decide +kernel⟩
theorem sc_Lnames : FnScope ["_law_pot_here", "_law_many", "_law_way", "_law_k", "_law_some", "_law_three"] ["_law_pot_here", "_law_many"] (defScope s_Lnames) := ⟨rfl, rfl, rfl, by decide +kernel, rfl, by decide +kernel, by decide +kernel⟩
theorem sc_Ltree : FnScope ["_law_pot_here", "_law_many", "_law_names_here", "_law_tree_here", "_law_name", "_law_some", "_law_above", "_law_side"] ["_law_pot_here", "_law_many"] (defScope s_Ltree) := ⟨rfl, rfl, rfl, by decide +kernel, rfl, by decide +kernel, by decide +kernel⟩
theorem sc_Lshape : FnScope ["_law_pot_here", "_law_tree_here", "_law_row"] ["_law_pot_here", "_law_tree_here"] (defScope s_Lshape) := ⟨rfl, rfl, rfl, by decide +kernel, rfl, by decide +kernel, by decide +kernel⟩
theorem sc_Lput : FnScope ["_law_row", "_law_at", "_law_thing"] ["_law_row", "_law_at", "_law_thing"] (defScope s_Lput) := ⟨rfl, rfl, rfl, by decide +kernel, rfl, by decide +kernel, by decide +kernel⟩
theorem sc_Lwrong : FnScope ["_law_pot_here", "_law_shape_here", "_law_at", "_law_row", "_law_name", "_law_odd", "_law_far", "_law_some", "_law_wrong_here", "_law_other", "_law_named"] ["_law_pot_here", "_law_shape_here"] (defScope s_Lwrong) := ⟨rfl, rfl, rfl, by decide +kernel, rfl, by decide +kernel, by decide +kernel⟩
theorem sc_Lcrossed : FnScope ["_law_shape_here", "_law_at", "_law_row", "_law_other", "_law_rows_here"] ["_law_shape_here", "_law_at"] (defScope s_Lcrossed) := ⟨rfl, rfl, rfl, by decide +kernel, rfl, by decide +kernel, by decide +kernel⟩
theorem sc_law : FnScope ["_law_script", "_law_pot_here", "_law_turn", "_law_many", "_law_shape_here", "_law_again"] ["_law_script"] (defScope s_law) := ⟨rfl, rfl, rfl, by decide +kernel, rfl, by decide +kernel, by decide +kernel⟩
/-- what the top has left -/
structure Top (K : PySem.W.Frag) (mg : Str → Option Value) where
  a_iswhole : Addr
  d_iswhole : FuncData
  F_iswhole : Fun K "is_whole" "is_whole" s_iswhole a_iswhole d_iswhole
  b_iswhole : Binds K d_iswhole ["thing"] []
  g_iswhole : mg "is_whole" = some (.ref a_iswhole)
  a_isrising : Addr
  d_isrising : FuncData
  F_isrising : Fun K "is_rising" "is_rising" s_isrising a_isrising d_isrising
  b_isrising : Binds K d_isrising ["row"] []
  g_isrising : mg "is_rising" = some (.ref a_isrising)
  a_ismark : Addr
  d_ismark : FuncData
  F_ismark : Fun K "is_mark" "is_mark" s_ismark a_ismark d_ismark
  b_ismark : Binds K d_ismark ["thing"] []
  g_ismark : mg "is_mark" = some (.ref a_ismark)
  a_isname : Addr
  d_isname : FuncData
  F_isname : Fun K "is_name" "is_name" s_isname a_isname d_isname
  b_isname : Binds K d_isname ["thing"] []
  g_isname : mg "is_name" = some (.ref a_isname)
  a_isshape : Addr
  d_isshape : FuncData
  F_isshape : Fun K "is_shape" "is_shape" s_isshape a_isshape d_isshape
  b_isshape : Binds K d_isshape ["thing"] []
  g_isshape : mg "is_shape" = some (.ref a_isshape)
  a_isshaperow : Addr
  d_isshaperow : FuncData
  F_isshaperow : Fun K "is_shape_row" "is_shape_row" s_isshaperow a_isshaperow d_isshaperow
  b_isshaperow : Binds K d_isshaperow ["thing"] []
  g_isshaperow : mg "is_shape_row" = some (.ref a_isshaperow)
  a_arelinked : Addr
  d_arelinked : FuncData
  F_arelinked : Fun K "are_linked" "are_linked" s_arelinked a_arelinked d_arelinked
  b_arelinked : Binds K d_arelinked ["rows"] []
  g_arelinked : mg "are_linked" = some (.ref a_arelinked)
  a_isbelow : Addr
  d_isbelow : FuncData
  F_isbelow : Fun K "is_below" "is_below" s_isbelow a_isbelow d_isbelow
  b_isbelow : Binds K d_isbelow ["above", "child", "name"] []
  g_isbelow : mg "is_below" = some (.ref a_isbelow)
  a_hasringabove : Addr
  d_hasringabove : FuncData
  F_hasringabove : Fun K "has_ring_above" "has_ring_above" s_hasringabove a_hasringabove d_hasringabove
  b_hasringabove : Binds K d_hasringabove ["above"] []
  g_hasringabove : mg "has_ring_above" = some (.ref a_hasringabove)
  a_Lmixed : Addr
  d_Lmixed : FuncData
  F_Lmixed : Fun K "_law_mixed" "_law_mixed" s_Lmixed a_Lmixed d_Lmixed
  b_Lmixed : Binds K d_Lmixed ["_law_cell", "_law_k"] []
  g_Lmixed : mg "_law_mixed" = some (.ref a_Lmixed)
  a_Lpot : Addr
  d_Lpot : FuncData
  F_Lpot : Fun K "_law_pot" "_law_pot" s_Lpot a_Lpot d_Lpot
  b_Lpot : Binds K d_Lpot ["_law_script"] []
  g_Lpot : mg "_law_pot" = some (.ref a_Lpot)
  a_Ltake : Addr
  d_Ltake : FuncData
  F_Ltake : Fun K "_law_take" "_law_take" s_Ltake a_Ltake d_Ltake
  b_Ltake : Binds K d_Ltake ["_law_pot_here", "_law_many"] []
  g_Ltake : mg "_law_take" = some (.ref a_Ltake)
  a_Lrows : Addr
  d_Lrows : FuncData
  F_Lrows : Fun K "_law_rows" "_law_rows" s_Lrows a_Lrows d_Lrows
  b_Lrows : Binds K d_Lrows ["_law_tree_here"] []
  g_Lrows : mg "_law_rows" = some (.ref a_Lrows)
  a_Lnames : Addr
  d_Lnames : FuncData
  F_Lnames : Fun K "_law_names" "_law_names" s_Lnames a_Lnames d_Lnames
  b_Lnames : Binds K d_Lnames ["_law_pot_here", "_law_many"] []
  g_Lnames : mg "_law_names" = some (.ref a_Lnames)
  a_Ltree : Addr
  d_Ltree : FuncData
  F_Ltree : Fun K "_law_tree" "_law_tree" s_Ltree a_Ltree d_Ltree
  b_Ltree : Binds K d_Ltree ["_law_pot_here", "_law_many"] []
  g_Ltree : mg "_law_tree" = some (.ref a_Ltree)
  a_Lshape : Addr
  d_Lshape : FuncData
  F_Lshape : Fun K "_law_shape" "_law_shape" s_Lshape a_Lshape d_Lshape
  b_Lshape : Binds K d_Lshape ["_law_pot_here", "_law_tree_here"] []
  g_Lshape : mg "_law_shape" = some (.ref a_Lshape)
  a_Lput : Addr
  d_Lput : FuncData
  F_Lput : Fun K "_law_put" "_law_put" s_Lput a_Lput d_Lput
  b_Lput : Binds K d_Lput ["_law_row", "_law_at", "_law_thing"] []
  g_Lput : mg "_law_put" = some (.ref a_Lput)
  a_Lwrong : Addr
  d_Lwrong : FuncData
  F_Lwrong : Fun K "_law_wrong" "_law_wrong" s_Lwrong a_Lwrong d_Lwrong
  b_Lwrong : Binds K d_Lwrong ["_law_pot_here", "_law_shape_here"] []
  g_Lwrong : mg "_law_wrong" = some (.ref a_Lwrong)
  a_Lcrossed : Addr
  d_Lcrossed : FuncData
  F_Lcrossed : Fun K "_law_crossed" "_law_crossed" s_Lcrossed a_Lcrossed d_Lcrossed
  b_Lcrossed : Binds K d_Lcrossed ["_law_shape_here", "_law_at"] []
  g_Lcrossed : mg "_law_crossed" = some (.ref a_Lcrossed)
  a_law : Addr
  d_law : FuncData
  F_law : Fun K "law" "law" s_law a_law d_law
  b_law : Binds K d_law ["_law_script"] []
  g_law : mg "law" = some (.ref a_law)
  m_abs : mg "abs" = none
  m_all : mg "all" = none
  m_bool : mg "bool" = none
  m_enumerate : mg "enumerate" = none
  m_int : mg "int" = none
  m_isinstance : mg "isinstance" = none
  m_len : mg "len" = none
  m_list : mg "list" = none
  m_range : mg "range" = none
  m_sorted : mg "sorted" = none
  m_str : mg "str" = none
  m_tuple : mg "tuple" = none
  m_zip : mg "zip" = none
  cM : Addr
  PM : Addr
  hcM : d_ismark.code = .ref cM
  cS : Addr
  PS : Addr
  hcS : d_isshaperow.code = .ref cS
  cR : Addr
  PR : Addr
  hcR : d_isrising.code = .ref cR
  cH : Addr
  PH : Addr
  hcH : d_isshape.code = .ref cH
  cK : Addr
  PK : Addr
  hcK : d_arelinked.code = .ref cK
  neP : ([PM, PS, PR, PH, PK] : List Addr).Nodup
theorem ifF {c : Bool} {A B : Prop} (h : c = false) (b : B) : if c = true then A else B := by
  rw [h, if_neg (by decide)]
  exact b
theorem ifT {c : Bool} {A B : Prop} (h : c = true) (a : A) : if c = true then A else B := by
  rw [h, if_pos rfl]
  exact a

end My
namespace My
open PySem L2
/-! ### the pot of draws -/
theorem emod_small {x m j : Int} (h : 0 < m) (h2 : m < 2 ^ 64) : CMul (x % m) j := .inl ⟨by have := Int.emod_nonneg x (show m ≠ 0 by omega); omega, by have := Int.emod_lt_of_pos x h; omega⟩
theorem lay_ints : ∀ l : List Int, PyData.canLayAll0 (l.map .int) = true ∧ PyData.depthAll (l.map .int) ≤ 1
  | [] => ⟨rfl, Nat.zero_le _⟩
  | x :: r => by
    have ih := lay_ints r
    refine ⟨?_, ?_⟩
    · show (PyData.canLay0 (.int x) && PyData.canLayAll0 (r.map .int)) = true
      rw [ih.1, Bool.and_true]
      rfl
    · show max (PyData.depth (.int x)) (PyData.depthAll (r.map .int)) ≤ 1
      exact Nat.max_le.mpr ⟨Nat.zero_le _, ih.2⟩
theorem dp_intsL {K : PySem.W.Frag} {H : Hp} : ∀ l : List Int, DpAll K H (l.map V.int) (l.map PyData.int)
  | [] => .nil
  | x :: l => .cons (.int x) (dp_intsL l)
theorem shp_ints (l : List Int) : SeqAt.shaped (.list (l.map .int)) = true := by
  have h := lay_ints l
  unfold SeqAt.shaped
  rw [show PyData.canLay0 (.list (l.map .int)) = true from h.1, decide_eq_true (show PyData.depth (.list (l.map .int)) ≤ 64 by show PyData.depthAll _ + 1 ≤ 64; omega)]
  rfl
theorem eq_nilL : ∀ l : List Int, PyData.eqv (.list (l.map .int)) (.list []) = l.isEmpty
  | [] => by decide +kernel
  | x :: l => by
    show PyData.eqv (.list (.int x :: l.map .int)) (.list []) = false
    simp [PyData.eqv, PyData.eqvAll]
theorem ix0 (n : Nat) : ixN (n + 1) 0 = some 0 := by
  unfold ixN
  simp
  try omega
/-- all but b and L as it was -/
def But2 (b L : Addr) (H H' : Hp) : Prop := ∀ a o, H a = some o → a ≠ b → a ≠ L → H' a = some o
theorem But2.refl {b L : Addr} {H : Hp} : But2 b L H H := fun _ _ e _ _ => e
theorem But2.same {b L : Addr} {H H1 H2 : Hp} (k : But2 b L H H1) (s : Same H1 H2) : But2 b L H H2 := fun a o e n1 n2 => s _ _ (k a o e n1 n2)
theorem But2.trans {b L : Addr} {H H1 H2 : Hp} (k : But2 b L H H1) (g : But2 b L H1 H2) : But2 b L H H2 := fun a o e n1 n2 => g a o (k a o e n1 n2) n1 n2
theorem But2.putL {b L : Addr} {H H1 : Hp} {o : HO} (k : But2 b L H H1) : But2 b L H (upd H1 L o) := fun a x e n1 n2 => by
  rw [upd_ne n2]
  exact k a x e n1 n2
theorem But2.putB {b L : Addr} {H H1 : Hp} {o : HO} (k : But2 b L H H1) : But2 b L H (upd H1 b o) := fun a x e n1 n2 => by
  rw [upd_ne n1]
  exact k a x e n1 n2
/-- the pot: at most m times stirred -/
structure Pot (H : Hp) (b L : Addr) (ns : List Int) (tot n : Int) : Prop where
  hb : H b = some (.lst [.ref L, .int tot, .int n])
  hL : H L = some (.lst (ns.map V.int))
  ne : L ≠ b
def PotAt (H : Hp) (b L : Addr) (m : Int) : Prop := ∃ ns tot n, Pot H b L ns tot n ∧ 0 ≤ n ∧ n ≤ m
theorem Pot.same {H H' : Hp} {b L : Addr} {ns : List Int} {tot n : Int} (h : Pot H b L ns tot n) (s : Same H H') : Pot H' b L ns tot n := ⟨s _ _ h.hb, s _ _ h.hL, h.ne⟩
theorem PotAt.same {H H' : Hp} {b L : Addr} {m : Int} (h : PotAt H b L m) (s : Same H H') : PotAt H' b L m := by
  obtain ⟨ns, tot, n, h1, h2⟩ := h
  exact ⟨ns, tot, n, h1.same s, h2⟩
section
variable {P : Program} {w : World} {K : PySem.W.Frag} {mg : Str → Option Value} {base : Heap}
def spMixed : Sp := fun vs H Q _ => ∃ (c k : Int), vs = [.int c, .int k] ∧ 0 ≤ k ∧ k < 2 ^ 60 ∧ ∀ v : Int, Q (.int v) H
theorem ok_mixed (T : Top K mg) : FnOk P w K mg base CX0 1 T.a_Lmixed T.d_Lmixed ["_law_cell", "_law_k"] spMixed := by
  refine T.F_Lmixed.ok sc_Lmixed (fun vs H Q E h => ?_) (fun cdv A outer s H vs Q E hr h => ?_)
  · obtain ⟨c, k, rfl, _⟩ := h
    rfl
  · obtain ⟨c, k, rfl, k0, k1, q⟩ := h
    refine ⟨_, (pss_cons (ps_set (i := 2) sc_Lmixed.nd rfl (.inl rfl) (pe_op op_mod (pe_op op_add (pe_op op_add (pe_op op_mul (pe_op op_mod (pv 0) pe_int) (pe_op op_add pe_int (pe_op op_mul (pe_op op_mul pe_int (pv 1)) (pv 1)))) (pe_op op_mul pe_int (pv 1))) pe_int) pe_int))
      (pss_cons (ps_set (i := 2) sc_Lmixed.nd rfl (.inl rfl) (pe_op op_fdivW (pe_op op_mod (pe_op op_mul (pv 2) (pv 2)) pe_int) pe_int))
      (pss_cons (ps_set (i := 3) sc_Lmixed.nd rfl (.inl rfl) (pe_op op_mod (pe_op op_add (pe_op op_add (pe_op op_mul (pv 2) pe_int) (pe_op op_mul pe_int (pv 1))) pe_int) pe_int))
      (pss_one (ps_ret (pe_op op_fdivW (pe_op op_mod (pe_op op_mul (pv 3) (pe_op op_add (pe_op op_mod (pv 2) pe_int) pe_int)) pe_int) pe_int)))))), ?_⟩
    refine ⟨_, rfl, _, _, rfl, rfl, (by show (0 : Int) < 2147483647; decide), ?_⟩
    refine ⟨_, rfl, _, _, rfl, rfl, .inl ⟨by decide, by decide⟩, _, rfl, _, _, rfl, rfl, .inr ⟨by omega, by omega⟩, ?_⟩
    refine ⟨_, _, rfl, rfl, ?_⟩
    refine ⟨_, _, rfl, rfl, emod_small (m := 2147483647) (by decide) (by decide), ?_⟩
    refine ⟨_, rfl, _, _, rfl, rfl, .inl ⟨by decide, by decide⟩, ?_⟩
    refine ⟨_, _, rfl, rfl, ?_⟩
    refine ⟨_, _, rfl, rfl, ?_⟩
    refine ⟨_, _, rfl, rfl, (by show (0 : Int) < 2147483629; decide), ?_⟩
    refine ⟨_, rfl, _, rfl, _, _, rfl, rfl, emod_small (m := 2147483629) (by decide) (by decide), _, _, rfl, rfl, (by show (0 : Int) < 2147483587; decide), _, _, rfl, rfl, wide_ok (by decide) (by decide), ?_⟩
    refine ⟨_, rfl, _, _, rfl, rfl, .inr ⟨by decide, by decide⟩, ?_⟩
    refine ⟨_, rfl, _, _, rfl, rfl, .inl ⟨by decide, by decide⟩, ?_⟩
    refine ⟨_, _, rfl, rfl, ?_⟩
    refine ⟨_, _, rfl, rfl, ?_⟩
    refine ⟨_, _, rfl, rfl, (by show (0 : Int) < 2147483579; decide), ?_⟩
    refine ⟨_, rfl, _, rfl, ?_⟩
    refine ⟨_, _, rfl, rfl, (by show (0 : Int) < 65521; decide), ?_⟩
    refine ⟨_, _, rfl, rfl, ?_⟩
    refine ⟨_, _, rfl, rfl, emod_small (m := 2147483579) (by decide) (by decide), ?_⟩
    refine ⟨_, _, rfl, rfl, (by show (0 : Int) < 2147483563; decide), ?_⟩
    exact ⟨_, _, rfl, rfl, wide_ok (by decide) (by decide), q _⟩
def spTake : Sp := fun vs H Q _ => ∃ (b L : Addr) (m many : Int), vs = [.ref b, .int many] ∧ PotAt H b L m ∧ m < 2 ^ 50 ∧ 0 < many ∧ many < 2 ^ 90 ∧ ∀ (x : Int) (H' : Hp), 0 ≤ x → x < many → PotAt H' b L (m + 1) → But2 b L H H' → Q (.int x) H'
theorem ok_take (T : Top K mg) : FnOk P w K mg base CX0 2 T.a_Ltake T.d_Ltake ["_law_pot_here", "_law_many"] spTake := by
  have G_Lmixed : FnOk P w K mg base CX0 1 _ _ _ _ := ok_mixed T
  refine T.F_Ltake.ok sc_Ltake (fun vs H Q E h => ?_) (fun cdv A outer s H vs Q E hr h => ?_)
  · obtain ⟨b, L, m, many, rfl, _⟩ := h
    rfl
  · obtain ⟨b, L, m, many, rfl, ⟨ns, tot, n, pt, n0, nm⟩, hm, m0, m1, q⟩ := h
    refine ⟨_, (pss_cons (ps_while PassesOwn.never (PW.pt (pw_and (pt_cmpR (op_neD hr.units) (pe_ix ix_list (pv 0) pe_int (fun _ _ => rfl)) (pe_lst pa_nil) (nomark _)) (pw_and1 (pt_cmpR op_eq (pe_ix ix_list (pe_ix ix_list (pv 0) pe_int (fun _ _ => rfl)) pe_int (fun _ _ => rfl)) pe_int (nomark _))))) (pss_one (ps_expr (pe_bm PySem.F.plainAttrs_list PySem.F.slot_list_pop PySem.F.type_list_pop mt_popAt (pe_ix ix_list (pv 0) pe_int (fun _ _ => rfl)) (pa_cons pe_int pa_nil)))))
      (pss_cons (ps_if (pt_cmpR (op_neD hr.units) (pe_ix ix_list (pv 0) pe_int (fun _ _ => rfl)) (pe_lst pa_nil) (nomark _)) (pss_cons (ps_set (i := 2) sc_Ltake.nd rfl (.inl rfl) (pe_op op_mod (pe_ix ix_list (pe_ix ix_list (pv 0) pe_int (fun _ _ => rfl)) pe_int (fun _ _ => rfl)) (pv 1)))
      (pss_cons (ps_asg (pe_op op_fdivW (pe_ix ix_list (pe_ix ix_list (pv 0) pe_int (fun _ _ => rfl)) pe_int (fun _ _ => rfl)) (pv 1)) (pg_sub (pe_ix ix_list (pv 0) pe_int (fun _ _ => rfl)) pe_int set_list))
      (pss_one (ps_ret (pv 2))))) pss_nil)
      (pss_cons (ps_augS (pv 0) pe_int get_list pe_int ip_add set_list)
      (pss_one (ps_ret (pe_op op_mod (pe_call G_Lmixed hr (by rfl) T.g_Lmixed T.F_Lmixed.kp T.b_Lmixed .nil pass0 (pa_cons (pe_op op_add (pe_ix ix_list (pv 0) pe_int (fun _ _ => rfl)) (pe_op op_mul pe_int (pe_ix ix_list (pv 0) pe_int (fun _ _ => rfl)))) (pa_cons (pe_ix ix_list (pv 0) pe_int (fun _ _ => rfl)) pa_nil))) (pv 1))))))), ?_⟩
    have fin : ∀ (x : Int) (H' : Hp) (ns' : List Int) (n' : Int), Pot H' b L ns' tot n' → 0 ≤ n' → n' ≤ m + 1 → But2 b L H H' → Q (.int (x % many)) H' := fun x H' ns' n' p' h1 h2 k => q _ _ (Int.emod_nonneg x (by omega)) (Int.emod_lt_of_pos x m0) ⟨ns', tot, n', p', h1, h2⟩ k
    refine ⟨fun k σ H2 => ∃ ns, k = ns.length ∧ σ = [some (.ref b), some (.int many), none] ∧ Pot H2 b L ns tot n ∧ But2 b L H H2, ⟨ns.length, ns, rfl, rfl, pt, .refl⟩, ?_⟩
    rintro k σ H2 ⟨ns, rfl, rfl, p2, k2⟩
    refine ⟨_, rfl, b, _, _, _, rfl, rfl, SqL.of p2.hb, atI_nat (j := 0) rfl, Nat.zero_le _, fun e ne => ?_⟩
    have se := same_new (o := .lst []) ne
    have he : upd H2 e (.lst []) e = some (.lst []) := upd_same
    generalize upd H2 e (.lst []) = H3 at se he ⊢
    have p3 := p2.same se
    have k3 := k2.same se
    refine ⟨_, _, .lst (SqL.of p3.hL) (dp_intsL ns), .lst (SqL.of he) .nil, shp_ints ns, rfl, ?_⟩
    rw [eq_nilL]
    cases ns with
    | nil =>
      refine ⟨_, rfl, iteF ?_⟩
      refine iteF ?_
      refine ⟨_, rfl, b, _, _, _, rfl, rfl, SqL.of p3.hb, atI_nat (j := 0) rfl, Nat.zero_le _, fun e2 ne2 => ?_⟩
      have se2 := same_new (o := .lst []) ne2
      have he2 : upd H3 e2 (.lst []) e2 = some (.lst []) := upd_same
      generalize upd H3 e2 (.lst []) = H4 at se2 he2 ⊢
      have p4 := p3.same se2
      have k4 := k3.same se2
      refine ⟨.list [], .list [], .lst (SqL.of p4.hL) .nil, .lst (SqL.of he2) .nil, rfl, rfl, ?_⟩
      rw [show PyData.eqv (.list []) (.list []) = true by decide +kernel]
      refine ⟨_, rfl, iteF ?_⟩
      refine ⟨_, rfl, b, _, _, _, rfl, rfl, SqL.of p4.hb, atI_nat (j := 2) rfl, _, _, rfl, rfl, b, _, _, 2, rfl, rfl, p4.hb, rfl, ?_⟩
      have p5 : Pot (upd H4 b (.lst ([V.ref L, V.int tot, V.int n].set 2 (.int (n + 1))))) b L [] tot (n + 1) := ⟨upd_same, by rw [upd_ne p4.ne]; exact p4.hL, p4.ne⟩
      have k5 : But2 b L H (upd H4 b (.lst ([V.ref L, V.int tot, V.int n].set 2 (.int (n + 1))))) := k4.putB
      generalize upd H4 b (.lst ([V.ref L, V.int tot, V.int n].set 2 (.int (n + 1)))) = H5 at p5 k5 ⊢
      refine ⟨_, rfl, b, _, _, _, rfl, rfl, SqL.of p5.hb, atI_nat (j := 1) rfl, ?_⟩
      refine ⟨_, rfl, b, _, _, _, rfl, rfl, SqL.of p5.hb, atI_nat (j := 2) rfl, _, _, rfl, rfl, .inl ⟨by decide, by decide⟩, ?_⟩
      refine ⟨_, _, rfl, rfl, ?_⟩
      refine ⟨_, rfl, b, _, _, _, rfl, rfl, SqL.of p5.hb, atI_nat (j := 2) rfl, ?_⟩
      refine ⟨_, _, rfl, by omega, by omega, fun v => ?_⟩
      exact ⟨_, rfl, _, _, rfl, rfl, m0, fin _ _ _ _ p5 (by omega) (by omega) k5⟩
    | cons x r =>
      refine ⟨_, rfl, iteT ?_⟩
      refine ⟨_, rfl, b, _, _, _, rfl, rfl, SqL.of p3.hb, atI_nat (j := 0) rfl, L, _, _, _, rfl, rfl, SqL.of p3.hL, atI_nat (j := 0) rfl, rfl, _, rfl, ite2 (fun _ => ?_) (fun _ => ?_)⟩
      · refine ⟨fun σ' H' => σ' = [some (.ref b), some (.int many), none] ∧ Pot H' b L r tot n ∧ But2 b L H H', fun σ' H' z => ⟨r.length, by rw [List.length_cons]; omega, r, rfl, z.1, z.2.1, z.2.2⟩, ?_⟩
        refine ⟨_, rfl, b, _, _, _, rfl, rfl, SqL.of p3.hb, atI_nat (j := 0) rfl, .inl ⟨rfl, _, SqL.of p3.hL⟩, L, _, 0, 0, _, rfl, rfl, p3.hL, by decide, by decide, ?_, rfl, rfl, ⟨?_, upd_same, p3.ne⟩, k3.putL⟩
        · simp [seqIndex?]
        · rw [upd_ne p3.ne.symm]
          exact p3.hb
      · refine ⟨_, rfl, b, _, _, _, rfl, rfl, SqL.of p3.hb, atI_nat (j := 0) rfl, Nat.zero_le _, fun e2 ne2 => ?_⟩
        have se2 := same_new (o := .lst []) ne2
        have he2 : upd H3 e2 (.lst []) e2 = some (.lst []) := upd_same
        generalize upd H3 e2 (.lst []) = H4 at se2 he2 ⊢
        have p4 := p3.same se2
        have k4 := k3.same se2
        refine ⟨_, _, .lst (SqL.of p4.hL) (dp_intsL (x :: r)), .lst (SqL.of he2) .nil, shp_ints (x :: r), rfl, ?_⟩
        rw [eq_nilL]
        refine ⟨_, rfl, iteT ?_⟩
        refine ⟨_, rfl, b, _, _, _, rfl, rfl, SqL.of p4.hb, atI_nat (j := 0) rfl, L, _, _, _, rfl, rfl, SqL.of p4.hL, atI_nat (j := 0) rfl, _, rfl, _, _, rfl, rfl, m0, ?_⟩
        refine ⟨_, rfl, b, _, _, _, rfl, rfl, SqL.of p4.hb, atI_nat (j := 0) rfl, L, _, _, _, rfl, rfl, SqL.of p4.hL, atI_nat (j := 0) rfl, _, rfl, _, _, rfl, rfl, wide_ok m0 (by omega), ?_⟩
        refine ⟨_, rfl, b, _, _, _, rfl, rfl, SqL.of p4.hb, atI_nat (j := 0) rfl, L, _, 0, 0, rfl, rfl, p4.hL, (by rw [List.length_map, List.length_cons]; exact ix0 _), ?_⟩
        exact ⟨_, rfl, fin x _ ((x / many) :: r) n ⟨by rw [upd_ne p4.ne.symm]; exact p4.hb, upd_same, p4.ne⟩ n0 (by omega) k4.putL⟩
def spPot (K : PySem.W.Frag) : Sp := fun vs H Q _ => ∃ (a : Addr) (ns : List Int), vs = [.ref a] ∧ SqL K H a (ns.map V.int) ∧ ∀ (b L : Addr) (H' : Hp), Same H H' → H b = none → H L = none → PotAt H' b L 0 → Q (.ref b) H'
theorem ok_pot (T : Top K mg) : FnOk P w K mg base CX0 1 T.a_Lpot T.d_Lpot ["_law_script"] (spPot K) := by
  refine T.F_Lpot.ok sc_Lpot (fun vs H Q E h => ?_) (fun cdv A outer s H vs Q E hr h => ?_)
  · obtain ⟨a, ns, rfl, _⟩ := h
    rfl
  · obtain ⟨a, ns, rfl, hS, q⟩ := h
    refine ⟨_, (pss_cons (ps_set (i := 1) sc_Lpot.nd rfl (.inl rfl) pe_int)
      (pss_cons (ps_for PassesOwn.never rfl (pi_enum (by rfl) T.m_enumerate (pa_cons (pe_slice sl_list (pv 0) po_none (po_some pe_int)) pa_nil)) (pg_tup rfl (pgs_cons (pg_name (i := 2) sc_Lpot.nd rfl (.inl rfl)) (pgs_cons (pg_name (i := 3) sc_Lpot.nd rfl (.inl rfl)) pgs_nil))) (pss_one (ps_set (i := 1) sc_Lpot.nd rfl (.inl rfl) (pe_op op_mod (pe_op op_add (pe_op op_add (pe_op op_add (pe_op op_mul (pv 1) pe_int) (pv 3)) (pe_op op_mul pe_int (pv 2))) pe_int) (pe_op op_add (pe_op op_pow pe_int pe_int) pe_int)))))
      (pss_one (ps_ret (pe_lst (pa_cons (pe_lc (own := [("_law_cell", 3)]) (g := gName 3) (by rfl) sc_Lpot.nd (pi_list (pe_slice sl_list (pv 0) po_none (po_some pe_int))) (blkOk_by (own := [("_law_cell", 3)]) (N := ["_law_script", "_law_total", "_law_k", "_law_cell"]) (sc := defScope s_Lpot) (by decide +kernel)) (fun _ _ _ _ _ => (pg_name (i := 3) sc_Lpot.nd rfl (.inl rfl))) (fun _ _ _ _ _ => (pts_one (pt_cmpR op_ge (pe_callB call_abs (by rfl) T.m_abs (by decide +kernel) (pa_cons (pv 3) pa_nil)) (pe_op op_pow pe_int pe_int) (nomark _)))) (fun _ _ _ _ _ => (pe_callB call_abs (by rfl) T.m_abs (by decide +kernel) (pa_cons (pv 3) pa_nil)))) (pa_cons (pv 1) (pa_cons pe_int pa_nil)))))))), ?_⟩
    have hints : ∀ v ∈ cutV (ns.map V.int) none (some 63), ∃ c, v = .int c := fun v m => by
      have m : v ∈ ns.map V.int := by
        unfold cutV at m
        exact List.mem_of_mem_drop (List.mem_of_mem_take m)
      obtain ⟨c, _, rfl⟩ := List.mem_map.mp m
      exact ⟨c, rfl⟩
    have cl : (cutV (ns.map V.int) none (some 63)).length ≤ 63 := by
      unfold cutV
      rw [List.length_take]
      have : HT.sIx (ns.map V.int).length (ns.map V.int).length (some 63) ≤ 63 := by
        rw [show (63 : Int) = ((63 : Nat) : Int) from rfl, HT.sIx_nat]
        omega
      omega
    refine ⟨_, rfl, 63, rfl, a, _, rfl, hS, fun p np => ?_⟩
    have sp := same_new (o := .lst (cutV (ns.map V.int) none (some 63))) np
    have hp : upd H p (.lst (cutV (ns.map V.int) none (some 63))) p = some (.lst (cutV (ns.map V.int) none (some 63))) := upd_same
    generalize upd H p (.lst (cutV (ns.map V.int) none (some 63))) = H1 at sp hp ⊢
    refine ⟨p, _, rfl, SqL.of hp, for_it walk_enum (fun i σ H2 => ∃ (t : Int) (y2 y3 : Option V), σ = [some (.ref a), some (.int t), y2, y3] ∧ Same H1 H2) ⟨0, none, none, rfl, fun _ _ e => e⟩ (fun i σ H2 _ z => by obtain ⟨_, _, _, _, z⟩ := z; exact SqL.of (z _ _ hp)) ?_ ?_⟩
    · rintro i v σ H2 H3 hi ⟨t, y2, y3, rfl, s2⟩ ⟨T0, x, y, rfl, nT, rfl, hx, hy⟩
      dsimp only at hx hy
      obtain ⟨c, rfl⟩ := hints y (List.mem_of_getElem? hy)
      obtain rfl : V.int (i : Int) = x := Option.some.inj hx
      have sT := same_new (o := .tup [V.int (i : Int), V.int c]) nT
      refine ⟨T0, _, rfl, SqT.of upd_same, rfl, _, _, rfl, _, _, rfl, rfl, ?_⟩
      refine ⟨_, rfl, _, _, rfl, rfl, .inr ⟨by decide, by decide⟩, ?_⟩
      refine ⟨_, rfl, _, _, rfl, rfl, ?_⟩
      refine ⟨_, rfl, _, _, rfl, rfl, .inl ⟨by decide, by decide⟩, ?_⟩
      refine ⟨_, _, rfl, rfl, ?_⟩
      refine ⟨_, _, rfl, rfl, ?_⟩
      refine ⟨_, _, rfl, rfl, ⟨by decide, by decide, by decide⟩, ?_⟩
      refine ⟨_, _, rfl, rfl, ?_⟩
      exact ⟨_, _, rfl, rfl, (by show (0 : Int) < 10 ^ (18 : Int).toNat + 9; decide +kernel), _, _, _, rfl, s2.trans sT⟩
    · rintro σ H2 ⟨t, y2, y3, rfl, s2⟩
      refine ⟨_, rfl, 63, rfl, a, _, rfl, (sp.trans s2).seq hS, fun p2 np2 => ?_⟩
      have sp2 := same_new (o := .lst (cutV (ns.map V.int) none (some 63))) np2
      have hp2 : upd H2 p2 (.lst (cutV (ns.map V.int) none (some 63))) p2 = some (.lst (cutV (ns.map V.int) none (some 63))) := upd_same
      generalize upd H2 p2 (.lst (cutV (ns.map V.int) none (some 63))) = H3 at sp2 hp2 ⊢
      have s03 : Same H H3 := (sp.trans s2).trans sp2
      refine ⟨p2, rfl, ⟨_, SqL.of hp2⟩, fun D nD => ?_⟩
      refine lc_list (xs := cutV (ns.map V.int) none (some 63)) (fun i H4 => Same H3 H4 ∧ ∃ ms : List Int, H4 D = some (.lst (ms.map V.int)) ∧ ms.length ≤ i) ⟨same_new nD, [], upd_same, Nat.le_refl _⟩ (fun i H4 _ z => SqL.of (z.1 _ _ hp2)) ?_ ?_
      · rintro i v H4 hv ⟨s4, ms, hD, lm⟩
        obtain ⟨c, rfl⟩ := hints v (List.mem_of_getElem? hv)
        have hi := (List.getElem?_eq_some_iff.mp hv).1
        refine ⟨rfl, _, rfl, _, rfl, ?_⟩
        refine ⟨_, _, rfl, rfl, ⟨by decide, by decide, by decide⟩, ?_⟩
        refine ⟨_, _, rfl, rfl, _, rfl, ite2 (fun _ => ?_) (fun _ => ⟨s4, ms, hD, by omega⟩)⟩
        refine ⟨_, rfl, _, rfl, _, hD, szl (by rw [List.length_map]; omega), ?_, ms ++ [if c < 0 then -c else c], ?_, by rw [List.length_append]; show ms.length + 1 ≤ i + 1; omega⟩
        · intro b o e
          rw [upd_ne (ne_of_none e nD)]
          exact s4 _ _ e
        · rw [upd_same, List.map_append]
          rfl
      · rintro H4 ⟨s4, ms, hD, lm⟩
        refine ⟨_, rfl, (by show 3 ≤ sizeLine; decide), fun b nb => ?_⟩
        have sb := same_new (o := .lst [.ref D, .int t, .int 0]) nb
        have s0 : Same H (upd H4 b (.lst [.ref D, .int t, .int 0])) := s03.trans (s4.trans sb)
        have none_of : ∀ {X : Hp} {c : Addr}, Same H X → X c = none → H c = none := fun {X c} sx n => by
          cases e : H c with
          | none => rfl
          | some o =>
            rw [sx _ _ e] at n
            cases n
        refine q b D _ s0 (none_of (s03.trans s4) nb) (none_of s03 nD) ⟨ms, t, 0, ⟨upd_same, sb _ _ hD, ?_⟩, Int.le_refl _, Int.le_refl _⟩
        intro e
        rw [← e, hD] at nb
        cases nb
end

/-! ### what keeps the pot -/
theorem pick2 {u v x : Int} (h0 : 0 ≤ x) (h1 : x < 4) : ∃ w, atI [V.int u, V.int v] (x / 3) = some (.int w) ∧ (w = u ∨ w = v) := by
  have hc : x / 3 = 0 ∨ x / 3 = 1 := by omega
  rcases hc with e | e
  · rw [e]
    exact ⟨u, rfl, .inl rfl⟩
  · rw [e]
    exact ⟨v, rfl, .inr rfl⟩
section
variable {H H' : Hp} {b L p : Addr} {m : Int}
theorem PotAt.le {m' : Int} (h : PotAt H b L m) (l : m ≤ m') : PotAt H b L m' := by
  obtain ⟨ns, tot, n, p, h1, h2⟩ := h
  exact ⟨ns, tot, n, p, h1, by omega⟩
theorem PotAt.ne (h : PotAt H b L m) (n : H p = none) : p ≠ b ∧ p ≠ L := by
  obtain ⟨ns, tot, k, q, _⟩ := h
  exact ⟨(ne_of_none q.hb n).symm, (ne_of_none q.hL n).symm⟩
theorem PotAt.put {o : HO} (h : PotAt H b L m) (n1 : p ≠ b) (n2 : p ≠ L) : PotAt (upd H p o) b L m := by
  obtain ⟨ns, tot, n, q, hn⟩ := h
  exact ⟨ns, tot, n, ⟨by rw [upd_ne n1.symm]; exact q.hb, by rw [upd_ne n2.symm]; exact q.hL, q.ne⟩, hn⟩
/-- lists stay: the pot does -/
theorem PotAt.lists (h : PotAt H b L m) (k : ∀ (a : Addr) (xs : List V), (a = b ∨ a = L) → H a = some (.lst xs) → H' a = some (.lst xs)) : PotAt H' b L m := by
  obtain ⟨ns, tot, n, q, hn⟩ := h
  exact ⟨ns, tot, n, ⟨k _ _ (.inl rfl) q.hb, k _ _ (.inr rfl) q.hL, q.ne⟩, hn⟩
theorem But2.tup (k : But2 b L H H') (P : PotAt H b L m) {xs : List V} (h : H p = some (.tup xs)) : H' p = some (.tup xs) := by
  obtain ⟨ns, tot, n, q, _⟩ := P
  exact k _ _ h (ne_of h q.hb (by intro z; cases z)) (ne_of h q.hL (by intro z; cases z))
/-- what is no list stays -/
theorem But2.oth (k : But2 b L H H') (P : PotAt H b L m) {o : HO} (h : H p = some o) (n : ∀ xs, o ≠ .lst xs) : H' p = some o := by
  obtain ⟨ns, tot, nn, q, _⟩ := P
  exact k _ _ h (fun e => by rw [e, q.hb] at h; exact n _ (Option.some.inj h).symm) (fun e => by rw [e, q.hL] at h; exact n _ (Option.some.inj h).symm)
theorem But2.of_same (s : Same H H') : But2 b L H H' := fun a o e _ _ => s a o e
theorem But2.put {H1 : Hp} {D : Addr} {o : HO} (k : But2 b L H H1) (n : H D = none) : But2 b L H (upd H1 D o) := fun a x e n1 n2 => by
  rw [upd_ne (ne_of_none e n)]
  exact k a x e n1 n2
end

end My
namespace My
open PySem L2
/-! ### the names that the law draws -/
theorem TupK.but2 {b L : Addr} {m : Int} {H H' : Hp} (k : But2 b L H H') (P : PotAt H b L m) : TupK H H' := fun a xs h => k.tup P h
theorem nd_of_map {α β : Type} {f : α → β} {l : List α} (h : (l.map f).Nodup) : l.Nodup := by
  rw [List.nodup_iff_pairwise_ne] at h ⊢
  exact (List.pairwise_map.mp h).imp fun {a b} hh e => hh (by rw [e])
def rgZ (n : Nat) : List Int := (List.range n).map fun (k : Nat) => (k : Int)
theorem rgZ_nd (n : Nat) : (rgZ n).Nodup := by
  unfold rgZ
  rw [List.nodup_iff_pairwise_ne, List.pairwise_map]
  exact (List.nodup_iff_pairwise_ne.mp List.nodup_range).imp fun {a b} h e => h (by omega)
theorem rgZ_succ (n : Nat) : rgZ (n + 1) = rgZ n ++ [(n : Int)] := by
  unfold rgZ
  rw [List.range_succ, List.map_append]
  rfl
/-- the number of a drawn name -/
def cod (n : Nat) : Nm → Int
  | .i v => (v + 50000) / 100000
  | .m [_, .inl a] => a
  | .m [_, .inl a, .inl b] => if a < b then a else b
  | .m _ => 0
theorem paired_snoc {α β : Type} {F : α → β → Prop} {xs : List α} {ys : List β} {x : α} {y : β} (p : Paired F xs ys) (h : F x y) : Paired F (xs ++ [x]) (ys ++ [y]) := by
  induction p with
  | nil => exact .cons h .nil
  | cons f _ ih => exact .cons f ih
theorem mul_within {a c : Int} (h1 : -60 ≤ a) (h2 : a ≤ 60) (h3 : 1 ≤ c) (h4 : c ≤ 135) : -8100 ≤ a * c ∧ a * c ≤ 8100 := by
  constructor
  · have h := Int.mul_le_mul_of_nonneg_right h1 (show 0 ≤ c by omega)
    omega
  · have h := Int.mul_le_mul_of_nonneg_right h2 (show 0 ≤ c by omega)
    omega
/-- three marks to choose from -/
def Three (H : Hp) (b L : Addr) (n : Nat) (v : V) (k : Int) : Prop := ∃ l p q r : Addr, v = .ref l ∧ l ≠ b ∧ l ≠ L ∧ H l = some (.lst [.ref p, .ref q, .ref r]) ∧ H p = some (.tup [.str "point", .int k]) ∧ H q = some (.tup [.str "over", .int k, .int ((n : Int) + k)]) ∧ H r = some (.tup [.str "over", .int ((n : Int) + 1 + k), .int k])
theorem Three.same {H H' : Hp} {b L : Addr} {n : Nat} {v : V} {k : Int} (s : Same H H') (h : Three H b L n v k) : Three H' b L n v k := by
  obtain ⟨l, p, q, r, h1, h2, h3, h4, h5, h6, h7⟩ := h
  exact ⟨l, p, q, r, h1, h2, h3, s _ _ h4, s _ _ h5, s _ _ h6, s _ _ h7⟩
theorem Three.but2 {H H' : Hp} {b L : Addr} {n : Nat} {v : V} {k m : Int} (P : PotAt H b L m) (s : But2 b L H H') (h : Three H b L n v k) : Three H' b L n v k := by
  obtain ⟨l, p, q, r, h1, h2, h3, h4, h5, h6, h7⟩ := h
  exact ⟨l, p, q, r, h1, h2, h3, s _ _ h4 h2 h3, s.tup P h5, s.tup P h6, s.tup P h7⟩
section
variable {P : Program} {w : World} {K : PySem.W.Frag} {mg : Str → Option Value} {base : Heap}
def spLNames : Sp := fun vs H Q _ => ∃ (b L : Addr) (m : Int) (n : Nat), vs = [.ref b, .int (n : Int)] ∧ PotAt H b L m ∧ m < 2 ^ 40 ∧ 1 ≤ n ∧ n ≤ 60 ∧
  ∀ (D : Addr) (vs : List V) (s : Bool) (ns : List Nm) (H' : Hp), Nms H' vs ns → ns.Nodup → ns.length = n → AllG s ns → PotAt H' b L (m + 1 + n) → But2 b L H H' → H D = none → H' D = some (.lst vs) → Q (.ref D) H'
theorem none_but2 {b L : Addr} {m : Int} {H H' : Hp} {D : Addr} (k : But2 b L H H') (P : PotAt H' b L m) (n : H' D = none) : H D = none := by
  cases e : H D with
  | none => rfl
  | some o =>
    obtain ⟨e1, e2⟩ := P.ne n
    rw [k _ _ e e1 e2] at n
    exact nomatch n
theorem ok_lnames (T : Top K mg) : FnOk P w K mg base CX0 3 T.a_Lnames T.d_Lnames ["_law_pot_here", "_law_many"] spLNames := by
  have G_Ltake : FnOk P w K mg base CX0 2 _ _ _ _ := ok_take T
  refine T.F_Lnames.ok sc_Lnames (fun vs H Q E h => ?_) (fun cdv A outer s H vs Q E hr h => ?_)
  · obtain ⟨b, L, m, n, rfl, _⟩ := h
    rfl
  · obtain ⟨b, L, m, n, rfl, P0, mm, n1, n60, q⟩ := h
    refine ⟨_, (pss_cons (ps_set (i := 2) sc_Lnames.nd rfl (.inl rfl) (pe_call G_Ltake hr (by rfl) T.g_Ltake T.F_Ltake.kp T.b_Ltake .nil pass0 (pa_cons (pv 0) (pa_cons pe_int pa_nil))))
      (pss_cons (ps_if (pt_cmpR op_eq (pv 2) pe_int (nomark _)) (pss_one (ps_ret (pe_listRg rfl (by rfl) T.m_list (prg_1 (by rfl) T.m_range (pv 1))))) pss_nil)
      (pss_cons (ps_if (pt_cmpR op_eq (pv 2) pe_int (nomark _)) (pss_one (ps_ret (pe_lc (own := [("_law_k", 3)]) (g := gName 3) (tt := tYes) (by rfl) sc_Lnames.nd (pi_range1 (by rfl) T.m_range (pa_cons (pv 1) pa_nil)) (blkOk_by (own := [("_law_k", 3)]) (N := ["_law_pot_here", "_law_many", "_law_way", "_law_k", "_law_some", "_law_three"]) (sc := defScope s_Lnames) (by decide +kernel)) (fun _ _ _ _ _ => (pg_name (i := 3) sc_Lnames.nd rfl (.inl rfl))) (fun _ _ _ _ _ => pts_nil) (fun _ _ _ _ _ => (pe_op op_add (pe_op op_mul (pe_op op_sub (pv 3) (pe_op op_fdivW (pv 1) pe_int)) (pe_op op_add pe_int (pe_op op_mul (pe_call G_Ltake hr (by rfl) T.g_Ltake T.F_Ltake.kp T.b_Ltake .nil pass0 (pa_cons (pv 0) (pa_cons pe_int pa_nil))) (pe_op op_add (pv 1) pe_int)))) (pe_op op_mul (pv 3) pe_int)))))) pss_nil)
      (pss_cons (ps_setLc (i := 4) (own := [("_law_k", 3)]) (g := gName 3) (tt := tYes) (by rfl) sc_Lnames.nd rfl rfl (sw_true rfl rfl rfl (by decide +kernel)) (pi_range1 (by rfl) T.m_range (pa_cons (pv 1) pa_nil)) (blkOk_by (own := [("_law_k", 3)]) (N := ["_law_pot_here", "_law_many", "_law_way", "_law_k", "_law_some", "_law_three"]) (sc := defScope s_Lnames) (by decide +kernel)) (fun _ _ _ _ _ => (pg_name (i := 3) sc_Lnames.nd rfl (.inl rfl))) (fun _ _ _ _ _ => pts_nil) (fun _ _ _ _ _ => (pe_lst (pa_cons (pe_tup (pa_cons pe_str (pa_cons (pv 3) pa_nil))) (pa_cons (pe_tup (pa_cons pe_str (pa_cons (pv 3) (pa_cons (pe_op op_add (pv 1) (pv 3)) pa_nil)))) (pa_cons (pe_tup (pa_cons pe_str (pa_cons (pe_op op_add (pe_op op_add (pv 1) pe_int) (pv 3)) (pa_cons (pv 3) pa_nil)))) pa_nil))))))
      (pss_one (ps_ret (pe_lc (own := [("_law_three", 5)]) (g := gName 5) (tt := tYes) (by rfl) sc_Lnames.nd (pi_list (pv 4)) (blkOk_by (own := [("_law_three", 5)]) (N := ["_law_pot_here", "_law_many", "_law_way", "_law_k", "_law_some", "_law_three"]) (sc := defScope s_Lnames) (by decide +kernel)) (fun _ _ _ _ _ => (pg_name (i := 5) sc_Lnames.nd rfl (.inl rfl))) (fun _ _ _ _ _ => pts_nil) (fun _ _ _ _ _ => (pe_ix (ix_listK (K := K) rfl) (pv 5) (pe_call G_Ltake hr (by rfl) T.g_Ltake T.F_Ltake.kp T.b_Ltake .nil pass0 (pa_cons (pv 0) (pa_cons pe_int pa_nil))) (fun _ _ => rfl)))))))))), ?_⟩
    refine ⟨_, rfl, b, L, m, 3, rfl, P0, by omega, by decide, by decide, fun way H1 a1 c1 P1 k1 => ?_⟩
    refine ⟨_, rfl, rfl, _, rfl, ?_⟩
    by_cases w0 : way = 0
    · refine ifT (decide_eq_true (congrArg V.int w0)) ?_
      refine ⟨_, rfl, _, rfl, RgOk.of_le (by omega) (by omega) (by omega) (by omega), fun D nD => ?_⟩
      obtain ⟨e1, e2⟩ := P1.ne nD
      have e0 : rgV 0 (n : Int) = (rgZ n).map V.int := by
        unfold rgV rgZ
        rw [List.map_map, Int.sub_zero, Int.toNat_natCast]
        exact List.map_congr_left fun k _ => by rw [Int.zero_add]; rfl
      refine q D _ false ((rgZ n).map Nm.i) _ ?_ ?_ ?_ ?_ ((P1.put e1 e2).le (by omega)) (k1.put (none_but2 k1 P1 nD)) (none_but2 k1 P1 nD) upd_same
      · rw [e0]
        generalize upd H1 D _ = H2
        generalize rgZ n = ks
        induction ks with
        | nil => exact .nil
        | cons k ks ih => exact .cons rfl ih
      · rw [List.nodup_iff_pairwise_ne, List.pairwise_map]
        exact (List.nodup_iff_pairwise_ne.mp (rgZ_nd n)).imp fun {a b} h e => h (Nm.i.inj e)
      · unfold rgZ
        rw [List.length_map, List.length_map, List.length_range]
      · intro x mx
        obtain ⟨k, mk, rfl⟩ := List.mem_map.mp mx
        refine ⟨rfl, ?_⟩
        obtain ⟨j, mj, rfl⟩ := List.mem_map.mp mk
        have := List.mem_range.mp mj
        show (j : Int).natAbs < 2 ^ 29
        omega
    refine ifF (decide_eq_false fun e => w0 (V.int.inj e)) ⟨_, rfl, rfl, _, rfl, ?_⟩
    by_cases w1 : way = 1
    · refine ifT (decide_eq_true (congrArg V.int w1)) ?_
      refine ⟨_, rfl, n, rfl, by omega, by omega, fun D nD => ?_⟩
      obtain ⟨eD1, eD2⟩ := P1.ne nD
      refine lc_range (lo := 0) (n := n) (fun i G => But2 b L H1 G ∧ PotAt G b L (m + 1 + (i : Int)) ∧ ∃ xs : List Int, xs.map (fun v => (v + 50000) / 100000) = rgZ i ∧ (∀ v ∈ xs, v.natAbs < 2 ^ 29) ∧ G D = some (.lst (xs.map V.int))) ⟨(But2.refl).put nD, (P1.put eD1 eD2).le (by omega), [], rfl, (fun v m => nomatch m), upd_same⟩ ?_ ?_
      · rintro i G hi ⟨k, Pg, xs, h1, hb, hD⟩
        have len : xs.length = i := by
          have := congrArg List.length h1
          unfold rgZ at this
          rw [List.length_map, List.length_map, List.length_range] at this
          exact this
        refine ⟨rfl, yes_ite ⟨_, rfl, _, rfl, _, _, rfl, rfl, wide_ok (by decide) (by decide), _, _, rfl, rfl, _, rfl, b, L, _, 3, rfl, Pg, by omega, by decide, by decide, fun t G2 t0 t3 P2 k2 => ?_⟩⟩
        refine ⟨_, rfl, _, _, rfl, rfl, _, _, rfl, rfl, .inl ⟨by omega, by omega⟩, _, _, rfl, rfl, _, _, rfl, rfl, .inl ⟨by omega, by omega⟩, ?_⟩
        refine ⟨_, rfl, _, _, rfl, rfl, .inl ⟨by omega, by omega⟩, _, _, rfl, rfl, ?_⟩
        have bd : 1 ≤ 1 + t * ((n : Int) + 7) ∧ 1 + t * ((n : Int) + 7) ≤ 135 := by
          have e : t = 0 ∨ t = 1 ∨ t = 2 := by omega
          rcases e with rfl | rfl | rfl <;> omega
        have mw := mul_within (a := 0 + (i : Int) - (n : Int) / 2) (c := 1 + t * ((n : Int) + 7)) (by omega) (by omega) bd.1 bd.2
        refine ⟨_, k2 _ _ hD eD1 eD2, by rw [List.length_map, len]; exact szl (by omega), (k.trans k2).put nD, (P2.put eD1 eD2).le (by omega), xs ++ [(0 + (i : Int) - (n : Int) / 2) * (1 + t * ((n : Int) + 7)) + (0 + (i : Int)) * 100000], ?_, fun v mv => ?_, by rw [upd_same, List.map_append]; rfl⟩
        rotate_left
        · rcases List.mem_append.mp mv with mv | mv
          · exact hb v mv
          · rw [List.mem_singleton.mp mv]
            generalize (0 + (i : Int) - (n : Int) / 2) * (1 + t * ((n : Int) + 7)) = p at mw ⊢
            omega
        rw [List.map_append, h1, rgZ_succ, List.map_singleton]
        congr 2
        generalize (0 + (i : Int) - (n : Int) / 2) * (1 + t * ((n : Int) + 7)) = p at mw ⊢
        omega
      · rintro G ⟨k, Pg, xs, h1, hb, hD⟩
        have len : xs.length = n := by
          have := congrArg List.length h1
          unfold rgZ at this
          rw [List.length_map, List.length_map, List.length_range] at this
          exact this
        refine q D _ false (xs.map Nm.i) G ?_ ?_ (by rw [List.length_map, len]) ?_ (Pg.le (by omega)) (k1.trans k) (none_but2 k1 P1 nD) hD
        · clear h1 hD len hb
          induction xs with
          | nil => exact .nil
          | cons k ks ih => exact .cons rfl ih
        · have nd : xs.Nodup := nd_of_map (f := fun v => (v + 50000) / 100000) (by rw [h1]; exact rgZ_nd n)
          rw [List.nodup_iff_pairwise_ne, List.pairwise_map]
          exact (List.nodup_iff_pairwise_ne.mp nd).imp fun {a b} h e => h (Nm.i.inj e)
        · intro x mx
          obtain ⟨k, mk, rfl⟩ := List.mem_map.mp mx
          exact ⟨rfl, hb k mk⟩
    refine ifF (decide_eq_false fun e => w1 (V.int.inj e)) ?_
    refine ⟨_, rfl, n, rfl, by omega, by omega, fun C nC => ?_⟩
    obtain ⟨eC1, eC2⟩ := P1.ne nC
    refine lc_range (lo := 0) (n := n) (fun i G => Same H1 G ∧ ∃ vs : List V, G C = some (.lst vs) ∧ Paired (Three G b L n) vs (rgZ i)) ⟨same_new nC, [], upd_same, .nil⟩ ?_ ?_
    · rintro i G hi ⟨s2, vs, hC, pr⟩
      have P2 := P1.same s2
      refine ⟨rfl, yes_ite ⟨_, rfl, (by show 2 ≤ sizeLine; decide), fun p np => ?_⟩⟩
      have u1 := same_new (o := .tup [.str "point", .int (0 + (i : Int))]) np
      have g1 : upd G p (.tup [.str "point", .int (0 + (i : Int))]) p = some (.tup [.str "point", .int (0 + (i : Int))]) := upd_same
      generalize upd G p (.tup [.str "point", .int (0 + (i : Int))]) = G1 at u1 g1 ⊢
      refine ⟨_, rfl, _, rfl, _, rfl, _, _, rfl, rfl, (by show 3 ≤ sizeLine; decide), fun p2 np2 => ?_⟩
      have u2 := same_new (o := .tup [.str "over", .int (0 + (i : Int)), .int ((n : Int) + (0 + (i : Int)))]) np2
      have g2 : upd G1 p2 (.tup [.str "over", .int (0 + (i : Int)), .int ((n : Int) + (0 + (i : Int)))]) p2 = some (.tup [.str "over", .int (0 + (i : Int)), .int ((n : Int) + (0 + (i : Int)))]) := upd_same
      generalize upd G1 p2 (.tup [.str "over", .int (0 + (i : Int)), .int ((n : Int) + (0 + (i : Int)))]) = G2 at u2 g2 ⊢
      refine ⟨_, rfl, _, _, rfl, rfl, _, rfl, _, _, rfl, rfl, _, rfl, (by show 3 ≤ sizeLine; decide), fun p3 np3 => ?_⟩
      have u3 := same_new (o := .tup [.str "over", .int ((n : Int) + 1 + (0 + (i : Int))), .int (0 + (i : Int))]) np3
      have g3 : upd G2 p3 (.tup [.str "over", .int ((n : Int) + 1 + (0 + (i : Int))), .int (0 + (i : Int))]) p3 = some (.tup [.str "over", .int ((n : Int) + 1 + (0 + (i : Int))), .int (0 + (i : Int))]) := upd_same
      generalize upd G2 p3 (.tup [.str "over", .int ((n : Int) + 1 + (0 + (i : Int))), .int (0 + (i : Int))]) = G3 at u3 g3 ⊢
      refine ⟨(by show 3 ≤ sizeLine; decide), fun l nl => ?_⟩
      have u4 := same_new (o := .lst [.ref p, .ref p2, .ref p3]) nl
      have g4 : upd G3 l (.lst [.ref p, .ref p2, .ref p3]) l = some (.lst [.ref p, .ref p2, .ref p3]) := upd_same
      have s14 := u1.trans (u2.trans (u3.trans u4))
      have P3 := P2.same (u1.trans (u2.trans u3))
      obtain ⟨el1, el2⟩ := P3.ne nl
      have hp1 := u4 _ _ (u3 _ _ (u2 _ _ g1))
      have hp2 := u4 _ _ (u3 _ _ g2)
      have hp3 := u4 _ _ g3
      generalize upd G3 l (.lst [.ref p, .ref p2, .ref p3]) = G4 at s14 g4 hp1 hp2 hp3 ⊢
      have hC4 := s14 _ _ hC
      have lC : l ≠ C := fun e => by
        rw [e] at nl
        rw [(u1.trans (u2.trans u3)) _ _ hC] at nl
        exact nomatch nl
      have ln : vs.length = i := by
        rw [pr.length]
        unfold rgZ
        rw [List.length_map, List.length_range]
      rw [Int.zero_add] at hp1 hp2 hp3
      have keepC : ∀ {v : V} {k : Int}, v ≠ .ref C → Three G4 b L n v k → Three (upd G4 C (.lst (vs ++ [.ref l]))) b L n v k := fun {v k} nv h => by
        obtain ⟨l', p', q', r', h1, h2, h3, h4, h5, h6, h7⟩ := h
        have kt : ∀ {a : Addr} {xs : List V}, G4 a = some (.tup xs) → upd G4 C (.lst (vs ++ [.ref l])) a = some (.tup xs) := fun {a xs} e => by
          rw [upd_ne (ne_of e hC4 (by intro z; cases z))]
          exact e
        refine ⟨l', p', q', r', h1, h2, h3, ?_, kt h5, kt h6, kt h7⟩
        rw [upd_ne fun e => nv (by rw [h1, e])]
        exact h4
      refine ⟨_, hC4, by rw [ln]; exact szl (by omega), same_put (s2.trans s14) nC, vs ++ [.ref l], upd_same, ?_⟩
      rw [rgZ_succ]
      refine paired_snoc ?_ (keepC (fun e => lC (by cases e; rfl)) ⟨l, p, p2, p3, rfl, el1, el2, g4, hp1, hp2, hp3⟩)
      have nvs : ∀ v ∈ vs, v ≠ .ref C := by
        intro v mv e
        obtain ⟨j, hj⟩ := List.mem_iff_getElem?.mp mv
        obtain ⟨k, _, l', p', q', r', h1, _, _, h4, _⟩ := paired_at pr hj
        rw [e] at h1
        cases h1
        rw [hC] at h4
        injection h4 with h4
        injection h4 with h4
        have l3 : 3 = vs.length := by rw [h4]; rfl
        have m1 : V.ref p' ∈ vs := by rw [h4]; exact List.mem_cons_self
        obtain ⟨j2, hj2⟩ := List.mem_iff_getElem?.mp m1
        obtain ⟨_, _, l2, _, _, _, k1, _, _, k4, _⟩ := paired_at pr hj2
        obtain ⟨_, _, l0, p0, q0, r0, z1, _, _, z4, z5, _⟩ := paired_at pr hj
        rw [e] at z1
        cases z1
        rw [hC] at z4
        injection z4 with z4
        injection z4 with z4
        rw [h4] at z4
        injection z4 with z4
        cases z4
        cases k1
        rw [z5] at k4
        exact nomatch k4
      clear ln hC hC4
      generalize rgZ i = ks at pr
      clear q
      revert nvs keepC
      generalize hX : vs ++ [V.ref l] = X
      intro keepC nvs
      clear hX
      induction pr with
      | nil => exact .nil
      | cons h _ ih => exact .cons (keepC (nvs _ List.mem_cons_self) (h.same s14)) (ih fun v m => nvs v (List.mem_cons_of_mem _ m))
    · rintro G ⟨s2, vs, hC, pr⟩
      have P2 := P1.same s2
      have ln : vs.length = n := by
        rw [pr.length]
        unfold rgZ
        rw [List.length_map, List.length_range]
      refine ⟨_, rfl, C, rfl, ⟨_, SqL.of hC⟩, fun D nD => ?_⟩
      obtain ⟨eD1, eD2⟩ := P2.ne nD
      have CD : C ≠ D := ne_of_none hC nD
      refine lc_list (K := K) (a := C) (xs := vs) (fun i G2 => But2 b L G G2 ∧ PotAt G2 b L (m + 1 + (i : Int)) ∧ G2 C = some (.lst vs) ∧ ∃ (us : List V) (ns : List Nm), G2 D = some (.lst us) ∧ Nms G2 us ns ∧ AllG true ns ∧ ns.map (cod n) = rgZ i) ⟨(But2.refl).put nD, (P2.put eD1 eD2).le (by omega), by rw [upd_ne CD]; exact hC, [], [], upd_same, .nil, (fun x m => nomatch m), rfl⟩ (fun i G2 _ z => SqL.of z.2.2.1) ?_ ?_
      · rintro i v G2 hv ⟨k, Pg, hC2, us, ns, hD, nm, al, ec⟩
        obtain ⟨kk, hk, th⟩ := paired_at pr hv
        have li := (List.getElem?_eq_some_iff.mp hv).1
        have ek : kk = (i : Int) := by
          unfold rgZ at hk
          rw [List.getElem?_map, List.getElem?_range (by omega)] at hk
          exact (Option.some.inj hk).symm
        subst ek
        refine ⟨rfl, yes_ite ⟨_, rfl, _, rfl, b, L, _, 3, rfl, Pg, by omega, by decide, by decide, fun t G3 t0 t3 P3 k3 => ?_⟩⟩
        have th3 := (th.but2 P2 (k.trans k3))
        obtain ⟨l, p, q', r, rfl, l1, l2, hl, hp, hq, hr'⟩ := th3
        have hD3 := k3 _ _ hD eD1 eD2
        have hC3 := k3 _ _ hC2 eC1 eC2
        have nm3 := nm.up (TupK.but2 k3 Pg)
        have lu : us.length = i := by
          have := congrArg List.length ec
          unfold rgZ at this
          rw [List.length_map, List.length_map, List.length_range] at this
          rw [nm.length, this]
        have fin : ∀ (a : Addr) (x : Nm), IsN G3 (.ref a) x → (sdN x = true ∧ MarkN x) → cod n x = (i : Int) → ∃ acc, G3 D = some (.lst acc) ∧ acc.length < sizeLine ∧ (But2 b L G (upd G3 D (.lst (acc ++ [V.ref a]))) ∧ PotAt (upd G3 D (.lst (acc ++ [V.ref a]))) b L (m + 1 + ((i + 1 : Nat) : Int)) ∧ upd G3 D (.lst (acc ++ [V.ref a])) C = some (.lst vs) ∧ ∃ (us : List V) (ns : List Nm), upd G3 D (.lst (acc ++ [V.ref a])) D = some (.lst us) ∧ Nms (upd G3 D (.lst (acc ++ [V.ref a]))) us ns ∧ AllG true ns ∧ ns.map (cod n) = rgZ (i + 1)) := fun a x ix gx cx => by
          have tk : TupK G3 (upd G3 D (.lst (us ++ [V.ref a]))) := TupK.refl.put hD3 (by intro xs e; cases e)
          refine ⟨us, hD3, by rw [lu]; exact szl (by omega), (k.trans k3).put nD, (P3.put eD1 eD2).le (by omega), by rw [upd_ne CD]; exact hC3, us ++ [.ref a], ns ++ [x], upd_same, paired_snoc (nm3.up tk) (ix.up tk), fun z mz => ?_, by rw [List.map_append, ec, rgZ_succ, List.map_singleton, cx]⟩
          rcases List.mem_append.mp mz with mz | mz
          · exact al z mz
          · rw [List.mem_singleton.mp mz]
            exact gx
        have e3 : t = 0 ∨ t = 1 ∨ t = 2 := by omega
        rcases e3 with rfl | rfl | rfl
        · refine ⟨l, _, 0, _, rfl, rfl, SqL.of hl, rfl, ?_⟩
          exact fin p (mkP i) ⟨p, rfl, hp⟩ ⟨rfl, .inl ⟨_, ⟨by omega, by omega⟩, rfl⟩⟩ rfl
        · refine ⟨l, _, 1, _, rfl, rfl, SqL.of hl, rfl, ?_⟩
          refine fin q' (mkO i ((n : Int) + i)) ⟨q', rfl, hq⟩ ⟨rfl, .inr ⟨_, _, ⟨by omega, by omega⟩, ⟨by omega, by omega⟩, rfl⟩⟩ ?_
          show (if (i : Int) < (n : Int) + i then (i : Int) else (n : Int) + i) = i
          rw [if_pos (by omega)]
        · refine ⟨l, _, 2, _, rfl, rfl, SqL.of hl, rfl, ?_⟩
          refine fin r (mkO ((n : Int) + 1 + i) i) ⟨r, rfl, hr'⟩ ⟨rfl, .inr ⟨_, _, ⟨by omega, by omega⟩, ⟨by omega, by omega⟩, rfl⟩⟩ ?_
          show (if (n : Int) + 1 + i < (i : Int) then (n : Int) + 1 + i else (i : Int)) = i
          rw [if_neg (by omega)]
      · rintro G2 ⟨k, Pg, hC2, us, ns, hD, nm, al, ec⟩
        rw [ln] at ec Pg
        have len := congrArg List.length ec
        unfold rgZ at len
        rw [List.length_map, List.length_map, List.length_range] at len
        have k01 : But2 b L H1 G2 := (But2.of_same s2).trans k
        exact q D us true ns G2 nm (nd_of_map (f := cod n) (by rw [ec]; exact rgZ_nd n)) len al (Pg.le (by omega)) (k1.trans k01) (none_but2 k1 P1 (Same.none s2 nD)) hD
end

end My
namespace My
open PySem L2
/-! ### the tree that the law draws -/
theorem erase_perm {α : Type} {l : List α} {i : Nat} {x : α} (h : l[i]? = some x) : l.Perm (x :: l.eraseIdx i) := by
  induction l generalizing i with
  | nil => exact nomatch h
  | cons y l ih =>
    cases i with
    | zero =>
      simp at h
      subst h
      exact .refl _
    | succ i => exact ((ih (by simpa using h)).cons y).trans (.swap _ _ _)
section
variable {P : Program} {w : World} {K : PySem.W.Frag} {mg : Str → Option Value} {base : Heap}
/-- the tree under way: the list of what is left at D -/
structure Gro (H0 G : Hp) (b L D d : Addr) (s : Bool) (ls : Nm → Addr) (S : Lk Nm) (us : List V) (rest : List Nm) (n : Nat) (m : Int) : Prop where
  hD : G D = some (.lst us)
  nm : Nms G us rest
  tr : TreeN G s d ls S
  pt : PotAt G b L (m - 4 * (us.length : Int))
  bt : But2 b L H0 G
  nd : (rest ++ S.ns).Nodup
  al : AllG s rest
  ln : us.length + S.ns.length = n
  fr : ∀ x ∈ S.ns, H0 (ls x) = none ∧ ls x ≠ b ∧ ls x ≠ L ∧ ls x ≠ D
  D0 : H0 D = none ∧ D ≠ b ∧ D ≠ L
  d0 : H0 d = none ∧ d ≠ b ∧ d ≠ L ∧ d ≠ D
theorem Gro.keep {H0 G G2 : Hp} {b L D d : Addr} {s : Bool} {ls : Nm → Addr} {S : Lk Nm} {us : List V} {rest : List Nm} {n : Nat} {m m2 : Int} (g : Gro H0 G b L D d s ls S us rest n m) (k : But2 b L G G2) (p : PotAt G2 b L (m2 - 4 * (us.length : Int))) : Gro H0 G2 b L D d s ls S us rest n m2 :=
  ⟨k _ _ g.hD g.D0.2.1 g.D0.2.2, g.nm.up (TupK.but2 k g.pt), g.tr.keep (TupK.but2 k g.pt) fun c o e h => k c o e (by
    rcases h with rfl | ⟨x, mx, rfl⟩
    · exact g.d0.2.1
    · exact (g.fr x mx).2.1) (by
    rcases h with rfl | ⟨x, mx, rfl⟩
    · exact g.d0.2.2.1
    · exact (g.fr x mx).2.2.1), p, g.bt.trans k, g.nd, g.al, g.ln, g.fr, g.D0, g.d0⟩
theorem Gro.same {H0 G G2 : Hp} {b L D d : Addr} {s : Bool} {ls : Nm → Addr} {S : Lk Nm} {us : List V} {rest : List Nm} {n : Nat} {m : Int} (g : Gro H0 G b L D d s ls S us rest n m) (k : Same G G2) : Gro H0 G2 b L D d s ls S us rest n m := g.keep (But2.of_same k) (g.pt.same k)
theorem Gro.setT {H0 G : Hp} {b L D d : Addr} {s : Bool} {ls : Nm → Addr} {S : Lk Nm} {us : List V} {rest : List Nm} {n : Nat} {m : Int} (g : Gro H0 G b L D d s ls S us rest n m) {x : Nm} (mx : x ∈ S.ns) {c : Nat} (hc : c < 3) {w : Nat → V} (hw : G (ls x) = some (.lst (ls3 w))) {v : V} {y : Option Nm} (iv : IsO G v y) :
    Gro H0 (upd G (ls x) (.lst ((ls3 w).set c v))) b L D d s ls (setN S c x y) us rest n m := by
  obtain ⟨f1, f2, f3, f4⟩ := g.fr x mx
  have tk : TupK G (upd G (ls x) (.lst ((ls3 w).set c v))) := TupK.refl.put hw (by intro xs e; cases e)
  refine ⟨by rw [upd_ne f4.symm]; exact g.hD, g.nm.up tk, g.tr.set mx hc hw iv, g.pt.put f2 f3, g.bt.put f1, by rw [setN_ns]; exact g.nd, g.al, by rw [setN_ns]; exact g.ln, fun z mz => g.fr z (setN_ns ▸ mz), g.D0, g.d0⟩
theorem TreeN.new {H : Hp} {s : Bool} {d l : Addr} {ls : Nm → Addr} {S : Lk Nm} (A : TreeN H s d ls S) {x : Nm} (nx : x ∉ S.ns) (sx : sdN x = s) (hl : H l = some (.lst (ls3 fun _ => V.non))) (ll : ∀ y ∈ S.ns, ls y ≠ l) (ld : l ≠ d) :
    TreeN (upd H d (dO s (S.ns ++ [x]) (up1 (fun x => V.ref (ls x)) x (.ref l)))) s d (up1 ls x l) { S with ns := S.ns ++ [x], l := up1 S.l x none, r := up1 S.r x none, a := up1 S.a x none } := by
  have ne : ∀ {y}, y ∈ S.ns → y ≠ x := fun {y} m e => nx (e ▸ m)
  have tk : TupK H (upd H d (dO s (S.ns ++ [x]) (up1 (fun x => V.ref (ls x)) x (.ref l)))) := TupK.refl.put A.hd dO_ntup
  refine ⟨?_, fun y my => ?_, fun y my z mz e => ?_, A.al.snoc sx⟩
  · rw [upd_same]
    refine congrArg some (dO_congr fun y my => ?_)
    by_cases c : y = x
    · rw [c, up1_same, up1_same]
    · rw [up1_ne c, up1_ne c]
  · by_cases c : y = x
    · subst c
      refine ⟨fun _ => V.non, by rw [up1_same, upd_ne ld]; exact hl, fun c hc => ?_⟩
      have e : c = 0 ∨ c = 1 ∨ c = 2 := by omega
      rcases e with rfl | rfl | rfl
      · show IsO _ V.non (up1 S.l y none y)
        rw [up1_same]
        exact rfl
      · show IsO _ V.non (up1 S.r y none y)
        rw [up1_same]
        exact rfl
      · show IsO _ V.non (up1 S.a y none y)
        rw [up1_same]
        exact rfl
    · have my : y ∈ S.ns := (List.mem_append.mp my).resolve_right fun z => c (List.mem_singleton.mp z)
      obtain ⟨w, h1, h2⟩ := A.at' y my
      have ned : ls y ≠ d := fun e => by
        rw [e, A.hd] at h1
        exact dO_nlst _ (Option.some.inj h1)
      refine ⟨w, by rw [up1_ne c, upd_ne ned]; exact h1, fun c' hc => ?_⟩
      have h3 := (h2 c' hc).up tk
      have e : c' = 0 ∨ c' = 1 ∨ c' = 2 := by omega
      rcases e with rfl | rfl | rfl
      · show IsO _ _ (up1 S.l x none y)
        rw [up1_ne c]
        exact h3
      · show IsO _ _ (up1 S.r x none y)
        rw [up1_ne c]
        exact h3
      · show IsO _ _ (up1 S.a x none y)
        rw [up1_ne c]
        exact h3
  · by_cases c : y = x <;> by_cases c2 : z = x
    · rw [c, c2]
    · have mz : z ∈ S.ns := (List.mem_append.mp mz).resolve_right fun q => c2 (List.mem_singleton.mp q)
      rw [c, up1_same, up1_ne c2] at e
      exact absurd e.symm (ll z mz)
    · have my : y ∈ S.ns := (List.mem_append.mp my).resolve_right fun q => c (List.mem_singleton.mp q)
      rw [c2, up1_same, up1_ne c] at e
      exact absurd e (ll y my)
    · have my : y ∈ S.ns := (List.mem_append.mp my).resolve_right fun q => c (List.mem_singleton.mp q)
      have mz : z ∈ S.ns := (List.mem_append.mp mz).resolve_right fun q => c2 (List.mem_singleton.mp q)
      rw [up1_ne c, up1_ne c2] at e
      exact A.inj y my z mz e
def spLTree : Sp := fun vs H Q _ => ∃ (b L : Addr) (m : Int) (n : Nat), vs = [.ref b, .int (n : Int)] ∧ PotAt H b L m ∧ m < 2 ^ 40 ∧ 1 ≤ n ∧ n ≤ 60 ∧
  ∀ (s : Bool) (d : Addr) (ls : Nm → Addr) (S : Lk Nm) (H' : Hp), TreeN H' s d ls S → Dr s S → S.ns.length = n → PotAt H' b L (m + 400) → But2 b L H H' → H d = none → (∀ x ∈ S.ns, H (ls x) = none ∧ ls x ≠ b ∧ ls x ≠ L) → d ≠ b ∧ d ≠ L → Q (.ref d) H'
theorem ok_ltreeN (T : Top K mg) : FnOk P w K mg base CX0 4 T.a_Ltree T.d_Ltree ["_law_pot_here", "_law_many"] spLTree := by
  have G_Ltake : FnOk P w K mg base CX0 2 _ _ _ _ := ok_take T
  have G_Lnames : FnOk P w K mg base CX0 3 _ _ _ _ := ok_lnames T
  refine T.F_Ltree.ok sc_Ltree (fun vs H Q E h => ?_) (fun cdv A outer s H vs Q E hr h => ?_)
  · obtain ⟨b, L, m, n, rfl, _⟩ := h
    rfl
  · obtain ⟨b, L, m, n, rfl, P0, mm, n1, n60, q⟩ := h
    refine ⟨_, (pss_cons (ps_set (i := 2) sc_Ltree.nd rfl (.inl rfl) (pe_call G_Lnames hr (by rfl) T.g_Lnames T.F_Lnames.kp T.b_Lnames .nil pass0 (pa_cons (pv 0) (pa_cons (pv 1) pa_nil))))
      (pss_cons (ps_set (i := 3) sc_Ltree.nd rfl (.inl rfl) (pe_or2 pe_dnewK pe_dnewT))
      (pss_cons (ps_while PassesOwn.never (pt_cmpR (op_neD hr.units) (pv 2) (pe_lst pa_nil) (nomark _)) (pss_cons (ps_set (i := 4) sc_Ltree.nd rfl (.inl rfl) (pe_bm PySem.F.plainAttrs_list PySem.F.slot_list_pop PySem.F.type_list_pop mt_popAt (pv 2) (pa_cons (pe_call G_Ltake (hr.mono (by decide)) (by rfl) T.g_Ltake T.F_Ltake.kp T.b_Ltake .nil pass0 (pa_cons (pv 0) (pa_cons (pe_callB call_len_seq (by rfl) T.m_len PySem.boot_len (pa_cons (pv 2) pa_nil)) pa_nil))) pa_nil)))
      (pss_cons (ps_set (i := 5) sc_Ltree.nd rfl (.inl rfl) (pe_callTy (cr_or2 (call_listD rfl) (call_list_dT rfl)) (by rfl) T.m_list (by decide +kernel) (pa_cons (pv 3) pa_nil)))
      (pss_cons (ps_dput (u1 hr) (pv 3) (pv 4) (pe_lst (pa_cons pe_non (pa_cons pe_non (pa_cons pe_non pa_nil)))) rfl)
      (pss_one (ps_if (PW.pt (pw_and (pt_cmpR (op_neD hr.units) (pv 5) (pe_lst pa_nil) (nomark _)) (pw_and1 (pt_cmpR op_gt (pe_call G_Ltake (hr.mono (by decide)) (by rfl) T.g_Ltake T.F_Ltake.kp T.b_Ltake .nil pass0 (pa_cons (pv 0) (pa_cons pe_int pa_nil))) pe_int (nomark _))))) (pss_cons (ps_set (i := 6) sc_Ltree.nd rfl (.inl rfl) (pe_ix ix_list (pv 5) (pe_call G_Ltake (hr.mono (by decide)) (by rfl) T.g_Ltake T.F_Ltake.kp T.b_Ltake .nil pass0 (pa_cons (pv 0) (pa_cons (pe_callB call_len_seq (by rfl) T.m_len PySem.boot_len (pa_cons (pv 5) pa_nil)) pa_nil))) (fun _ _ => rfl)))
      (pss_cons (ps_set (i := 7) sc_Ltree.nd rfl (.inl rfl) (pe_call G_Ltake (hr.mono (by decide)) (by rfl) T.g_Ltake T.F_Ltake.kp T.b_Ltake .nil pass0 (pa_cons (pv 0) (pa_cons pe_int pa_nil))))
      (pss_one (ps_if (pt_cmpR op_eq (pv 7) pe_int (nomark _)) (pss_one (ps_asg (pv 6) (pg_sub (pe_dget (u1 hr) (pv 3) (pv 4) (fun _ _ => rfl)) pe_int set_list))) (pss_one (ps_if (pt_cmpR op_isN (pe_ix ix_list (pe_dget (u1 hr) (pv 3) (pv 6) (fun _ _ => rfl)) (pv 7) (fun _ _ => rfl)) pe_non (nomark _)) (pss_one (ps_asg (pe_tup (pa_cons (pv 4) (pa_cons (pv 6) pa_nil))) (pg_tup rfl (pgs_cons (pg_sub (pe_dget (u1 hr) (pv 3) (pv 6) (fun _ _ => rfl)) (pv 7) set_list) (pgs_cons (pg_sub (pe_dget (u1 hr) (pv 3) (pv 4) (fun _ _ => rfl)) pe_int set_list) pgs_nil))))) pss_nil)))))) pss_nil))))))
      (pss_one (ps_ret (pv 3)))))), ?_⟩
    refine ⟨_, rfl, _, rfl, b, L, m, n, rfl, P0, mm, n1, n60, fun D vs s ns H1 nm nd len al P1 k1 nD hD => ?_⟩
    refine dnew_nm (s := s) (f := fun _ => V.non) fun d nd0 => ?_
    have sd := same_new (o := dO s [] fun _ => V.non) nd0
    have hd : upd H1 d (dO s [] fun _ => V.non) d = some (dO s [] fun _ => V.non) := upd_same
    obtain ⟨ed1, ed2⟩ := P1.ne nd0
    have eD : D ≠ b ∧ D ≠ L := P0.ne nD
    have dD : d ≠ D := fun e => by rw [e, hD] at nd0; exact nomatch nd0
    have P1' := P1.same sd
    generalize upd H1 d (dO s [] fun _ => V.non) = H2 at sd hd P1' ⊢
    have g0 : Gro H H2 b L D d s (fun _ => d) ⟨[], fun _ => none, fun _ => none, fun _ => none, fun _ => false, 0⟩ vs ns n (m + 1 + n + 4 * n) := by
      have lv : vs.length = n := by rw [nm.length, len]
      refine ⟨sd _ _ hD, nm.up (Same.tupk sd), ⟨by rw [hd]; exact congrArg some (dO_congr fun x m => nomatch m), (fun x m => nomatch m), (fun x m => nomatch m), fun x m => nomatch m⟩, P1'.le (by omega), k1.same sd, ?_, al, ?_, (fun x m => nomatch m), ⟨nD, eD⟩, ⟨none_but2 k1 P1 nd0, ed1, ed2, dD⟩⟩
      · rw [List.append_nil]
        exact nd
      · show vs.length + 0 = n
        omega
    refine ⟨fun j σ G => ∃ (us : List V) (rest : List Nm) (ls : Nm → Addr) (S : Lk Nm) (y4 y5 y6 y7 : Option V), j = us.length ∧ σ = [some (.ref b), some (.int (n : Int)), some (.ref D), some (.ref d), y4, y5, y6, y7] ∧ Gro H G b L D d s ls S us rest n (m + 1 + n + 4 * n) ∧ Dr s S, ⟨vs.length, vs, ns, _, _, none, none, none, none, rfl, rfl, g0, Dr.nil⟩, ?_⟩
    rintro j σ G ⟨us, rest, ls, S, y4, y5, y6, y7, rfl, rfl, g, dr⟩
    refine ⟨_, rfl, Nat.zero_le _, fun e ne => ?_⟩
    have se := same_new (o := .lst []) ne
    have he : upd G e (.lst []) e = some (.lst []) := upd_same
    generalize upd G e (.lst []) = G1 at se he ⊢
    have g1 := g.same se
    refine ⟨_, _, .lst (SqL.of g1.hD) (dp_nms g1.nm), .lst (SqL.of he) .nil, shp_nms g1.al, rfl, _, rfl, ?_⟩
    rw [nil_nms]
    have lnr := g1.nm.length
    cases rest with
    | nil =>
      refine ifF rfl ⟨_, rfl, ?_⟩
      have hu : us.length = 0 := lnr
      have hl := g1.ln
      exact q s d ls S G1 g1.tr dr (by omega) (g1.pt.le (by omega)) g1.bt g1.d0.1 (fun x mx => ⟨(g1.fr x mx).1, (g1.fr x mx).2.1, (g1.fr x mx).2.2.1⟩) ⟨g1.d0.2.1, g1.d0.2.2.1⟩
    | cons x0 r0 =>
      have hu : us.length = r0.length + 1 := lnr
      refine ifT rfl ?_
      generalize hrest : x0 :: r0 = rest at g g1 lnr
      refine ⟨fun σ' G' => ∃ m', m' < us.length ∧ ∃ (us : List V) (rest : List Nm) (ls : Nm → Addr) (S : Lk Nm) (y4 y5 y6 y7 : Option V), m' = us.length ∧ σ' = [some (.ref b), some (.int (n : Int)), some (.ref D), some (.ref d), y4, y5, y6, y7] ∧ Gro H G' b L D d s ls S us rest n (m + 1 + n + 4 * n) ∧ Dr s S, fun σ' G' h => h, ?_⟩
      refine ⟨_, rfl, .inl ⟨rfl, _, SqL.of g1.hD⟩, _, rfl, _, rfl, D, _, rfl, .inl (SqL.of g1.hD), b, L, _, (us.length : Int), rfl, g1.pt, by omega, by omega, by have := g1.ln; omega, fun t G2 t0 t1 P2 k2 => ?_⟩
      have g2 : Gro H G2 b L D d s ls S us rest n (m + 2 + n + 4 * n) := g1.keep k2 (P2.le (by omega))
      obtain ⟨i, rfl⟩ : ∃ i : Nat, t = (i : Int) := ⟨t.toNat, by omega⟩
      have hi : i < us.length := by omega
      obtain ⟨x, hx, ix⟩ := paired_at g2.nm (List.getElem?_eq_getElem hi)
      have hv : us[i]? = some us[i] := List.getElem?_eq_getElem hi
      refine ⟨D, _, (i : Int), i, _, rfl, rfl, g2.hD, by omega, by have := g1.ln; omega, ?_, hv, ?_⟩
      · rw [PySem.seqIndex_of (by omega) (by omega), Int.toNat_natCast]
      -- what is left, without it
      have pm := erase_perm hx
      generalize us[i] = v at hv ix ⊢
      have mx : x ∈ rest := List.mem_of_getElem? hx
      have nx : x ∉ S.ns := fun m2 => by
        obtain ⟨_, _, h3⟩ := List.nodup_append.mp g2.nd
        exact h3 x mx x m2 rfl
      have gx : sdN x = s ∧ MarkN x := g2.al x mx
      have tk3 : TupK G2 (upd G2 D (.lst (us.eraseIdx i))) := TupK.refl.put g2.hD (by intro xs e; cases e)
      have lu : (us.eraseIdx i).length + 1 = us.length := by rw [List.length_eraseIdx_of_lt hi]; omega
      have tr3 : TreeN (upd G2 D (.lst (us.eraseIdx i))) s d ls S := g2.tr.keep tk3 fun c o e h => by
        rw [upd_ne fun z => ?_]
        · exact e
        · rcases h with rfl | ⟨y, my, rfl⟩
          · exact g2.d0.2.2.2 z
          · exact (g2.fr y my).2.2.2 z
      have nm3 : Nms (upd G2 D (.lst (us.eraseIdx i))) (us.eraseIdx i) (rest.eraseIdx i) := (nms_erase g2.nm i).up tk3
      have ix3 := ix.up tk3
      have hD3 : upd G2 D (.lst (us.eraseIdx i)) D = some (.lst (us.eraseIdx i)) := upd_same
      have P3 := g2.pt.put g2.D0.2.1 g2.D0.2.2 (o := .lst (us.eraseIdx i))
      have k3 : But2 b L H (upd G2 D (.lst (us.eraseIdx i))) := g2.bt.put g2.D0.1
      have al3 : AllG s (rest.eraseIdx i) := g2.al.sub fun z m => List.mem_of_mem_eraseIdx m
      have nd3 : (rest.eraseIdx i ++ (S.ns ++ [x])).Nodup := by
        refine (List.Perm.nodup_iff ?_).mp g2.nd
        refine (pm.append_right S.ns).trans ?_
        rw [← List.append_assoc]
        refine (List.perm_append_comm (l₁ := [x]) (l₂ := rest.eraseIdx i ++ S.ns)).trans (.refl _) |> fun h => ?_
        exact h
      clear tk3
      generalize upd G2 D (.lst (us.eraseIdx i)) = G3 at tr3 nm3 ix3 hD3 P3 k3 ⊢
      -- the names so far
      refine ⟨_, rfl, ?_⟩
      dsimp only [tNil]
      refine listD_nm (.inl tr3.hd) tr3.al fun ws E nw nE => ?_
      have s4 := same_new (o := .lst ws) nE
      have hE : upd G3 E (.lst ws) E = some (.lst ws) := upd_same
      obtain ⟨eE1, eE2⟩ := P3.ne nE
      have ED : E ≠ D := fun e => by rw [e, hD3] at nE; exact nomatch nE
      have nw4 := nw.up (Same.tupk s4)
      have tr4 := tr3.same s4
      have nm4 := nm3.up (Same.tupk s4)
      have ix4 := ix3.up (Same.tupk s4)
      have hD4 := s4 _ _ hD3
      have P4 := P3.same s4
      have k4 := k3.same s4
      have fE : ∀ y ∈ S.ns, E ≠ ls y := fun y my e => by
        obtain ⟨w', hw, _⟩ := tr3.at' y my
        rw [e, hw] at nE
        exact nomatch nE
      generalize upd G3 E (.lst ws) = G4 at s4 hE nw4 tr4 nm4 ix4 hD4 P4 k4 ⊢
      -- its list
      refine ⟨(by show 3 ≤ sizeLine; decide), fun l nl => ?_⟩
      have s5 := same_new (o := .lst [V.non, V.non, V.non]) nl
      have hl : upd G4 l (.lst [V.non, V.non, V.non]) l = some (.lst (ls3 fun _ => V.non)) := upd_same
      obtain ⟨el1, el2⟩ := P4.ne nl
      have lD : l ≠ D := fun e => by rw [e, hD4] at nl; exact nomatch nl
      have lE : l ≠ E := fun e => by rw [e, hE] at nl; exact nomatch nl
      have ld : l ≠ d := fun e => by rw [e, tr4.hd] at nl; exact nomatch nl
      have ll : ∀ y ∈ S.ns, ls y ≠ l := fun y my e => by
        obtain ⟨w', hw, _⟩ := tr4.at' y my
        rw [e, nl] at hw
        exact nomatch hw
      have l0 : H l = none := none_but2 k4 P4 nl
      have hE5 := s5 _ _ hE
      have nw5 := nw4.up (Same.tupk s5)
      have tr5 := tr4.same s5
      have nm5 := nm4.up (Same.tupk s5)
      have ix5 := ix4.up (Same.tupk s5)
      have hD5 := s5 _ _ hD4
      have P5 := P4.same s5
      have k5 := k4.same s5
      have lu2 := g2.ln
      generalize upd G4 l (.lst [V.non, V.non, V.non]) = G5 at hl hE5 nw5 tr5 nm5 ix5 hD5 P5 k5 ⊢
      refine ⟨_, rfl, _, rfl, d, _, rfl, dO_new (u := .ref l) tr5.al gx.1 nx tr5.hd ix5 (szl (by omega)), ?_⟩
      have tr6 := tr5.new nx gx.1 hl ll ld
      have tk6 : TupK G5 (upd G5 d (dO s (S.ns ++ [x]) (up1 (fun x => V.ref (ls x)) x (.ref l)))) := TupK.refl.put tr5.hd dO_ntup
      have hE6 : upd G5 d (dO s (S.ns ++ [x]) (up1 (fun x => V.ref (ls x)) x (.ref l))) E = some (.lst ws) := by
        rw [upd_ne fun e => ?_]
        · exact hE5
        · rw [e, tr5.hd] at hE5
          exact dO_nlst _ (Option.some.inj hE5)
      have g6 : Gro H (upd G5 d (dO s (S.ns ++ [x]) (up1 (fun x => V.ref (ls x)) x (.ref l)))) b L D d s (up1 ls x l) { S with ns := S.ns ++ [x], l := up1 S.l x none, r := up1 S.r x none, a := up1 S.a x none } (us.eraseIdx i) (rest.eraseIdx i) n (m - 2 + n + 4 * n) := by
        refine ⟨by rw [upd_ne g2.d0.2.2.2.symm]; exact hD5, nm5.up tk6, tr6, (P5.put g2.d0.2.1 g2.d0.2.2.1).le (by omega), k5.put g2.d0.1, nd3, al3, ?_, fun y my => ?_, g2.D0, g2.d0⟩
        · show (us.eraseIdx i).length + (S.ns ++ [x]).length = n
          rw [List.length_append]
          show (us.eraseIdx i).length + (S.ns.length + 1) = n
          omega
        · by_cases c : y = x
          · rw [c, up1_same]
            exact ⟨l0, el1, el2, lD⟩
          · have my : y ∈ S.ns := (List.mem_append.mp my).resolve_right fun z => c (List.mem_singleton.mp z)
            rw [up1_ne c]
            exact g2.fr y my
      have ix6 := ix5.up tk6
      have nw6 := nw5.up tk6
      clear tk6 tr6 tr5 nm5 ix5 hD5 P5 k5 hE5 nw5 hl
      generalize upd G5 d (dO s (S.ns ++ [x]) (up1 (fun x => V.ref (ls x)) x (.ref l))) = G6 at hE6 g6 ix6 nw6 ⊢
      have fin : ∀ (G' : Hp) (S' : Lk Nm) (y5 y6 y7 : Option V), Gro H G' b L D d s (up1 ls x l) S' (us.eraseIdx i) (rest.eraseIdx i) n (m + 1 + n + 4 * n) → Dr s S' → ∃ m', m' < us.length ∧ ∃ (us : List V) (rest : List Nm) (ls : Nm → Addr) (S : Lk Nm) (y4' y5' y6' y7' : Option V), m' = us.length ∧ [some (.ref b), some (.int (n : Int)), some (.ref D), some (.ref d), some v, y5, y6, y7] = [some (.ref b), some (.int (n : Int)), some (.ref D), some (.ref d), y4', y5', y6', y7'] ∧ Gro H G' b L D d s ls S us rest n (m + 1 + n + 4 * n) ∧ Dr s S := fun G' S' y5 y6 y7 g dr => ⟨_, by omega, _, _, _, S', _, _, _, _, rfl, rfl, g, dr⟩
      have up : ∀ {y : Nm}, y ∈ S.ns → y ∈ S.ns ++ [x] := fun {y} m => List.mem_append_left _ m
      have mxx : x ∈ S.ns ++ [x] := List.mem_append_right _ List.mem_cons_self
      have ne : ∀ {y}, y ∈ S.ns → y ≠ x := fun {y} m e => nx (e ▸ m)
      have alone : Dr s { S with ns := S.ns ++ [x], l := up1 S.l x none, r := up1 S.r x none, a := up1 S.a x none } := dr.ext nx gx (ou := none) (fun u e => nomatch e) (fun y c => .inl (up1_ne c)) (fun y c => .inl (up1_ne c)) up1_same up1_same
      have eE : E ≠ b ∧ E ≠ L := ⟨eE1, eE2⟩
      refine ⟨_, rfl, Nat.zero_le _, fun e2 ne2 => ?_⟩
      have se2 := same_new (o := .lst []) ne2
      have he2 : upd G6 e2 (.lst []) e2 = some (.lst []) := upd_same
      have g7 := g6.same se2
      have hE7 := se2 _ _ hE6
      have ix7 := ix6.up (Same.tupk se2)
      have nw7 := nw6.up (Same.tupk se2)
      generalize upd G6 e2 (.lst []) = G7 at he2 g7 hE7 ix7 nw7 ⊢
      refine ⟨_, _, .lst (SqL.of hE7) (dp_nms nw7), .lst (SqL.of he2) .nil, shp_nms dr.al, rfl, _, rfl, ?_⟩
      rw [nil_nms]
      have lws := nw7.length
      by_cases c0 : S.ns = []
      · rw [c0]
        exact ifF rfl (fin G7 _ _ _ _ ⟨g7.hD, g7.nm, g7.tr, g7.pt.le (by omega), g7.bt, g7.nd, g7.al, g7.ln, g7.fr, g7.D0, g7.d0⟩ alone)
      have cpos : 0 < S.ns.length := List.length_pos_iff.mpr c0
      refine ifT (by rw [Bool.not_eq_true']; exact List.isEmpty_eq_false_iff.mpr c0) ?_
      refine ⟨_, rfl, b, L, _, 8, rfl, g7.pt, by omega, by decide, by decide, fun a8 G8 a80 a88 P8 k8 => ?_⟩
      have g8 : Gro H G8 b L D d s (up1 ls x l) _ (us.eraseIdx i) (rest.eraseIdx i) n (m - 1 + n + 4 * n) := g7.keep k8 (P8.le (by omega))
      have hE8 := k8 _ _ hE7 eE.1 eE.2
      have ix8 := ix7.up (TupK.but2 k8 g7.pt)
      have nw8 := nw7.up (TupK.but2 k8 g7.pt)
      refine ⟨_, _, rfl, rfl, _, rfl, ite2 (fun _ => ?_) (fun _ => fin G8 _ _ _ _ ⟨g8.hD, g8.nm, g8.tr, g8.pt.le (by omega), g8.bt, g8.nd, g8.al, g8.ln, g8.fr, g8.D0, g8.d0⟩ alone)⟩
      -- above
      refine ⟨_, rfl, _, rfl, _, rfl, E, _, rfl, .inl (SqL.of hE8), b, L, _, (ws.length : Int), rfl, g8.pt, by omega, by omega, by omega, fun t9 G9 t90 t91 P9 k9 => ?_⟩
      have g9 : Gro H G9 b L D d s (up1 ls x l) _ (us.eraseIdx i) (rest.eraseIdx i) n (m + n + 4 * n) := g8.keep k9 (P9.le (by omega))
      have hE9 := k9 _ _ hE8 eE.1 eE.2
      have ix9 := ix8.up (TupK.but2 k9 g8.pt)
      have nw9 := nw8.up (TupK.but2 k9 g8.pt)
      obtain ⟨j9, rfl⟩ : ∃ j : Nat, t9 = (j : Int) := ⟨t9.toNat, by omega⟩
      have hj : j9 < ws.length := by omega
      have hvu : ws[j9]? = some ws[j9] := List.getElem?_eq_getElem hj
      obtain ⟨u, hu9, iu9⟩ := paired_at nw9 hvu
      have mu : u ∈ S.ns := List.mem_of_getElem? hu9
      refine ⟨E, _, (j9 : Int), _, rfl, rfl, SqL.of hE9, atI_nat hvu, ?_⟩
      generalize ws[j9] = vu at iu9 ⊢
      -- the side
      refine ⟨_, rfl, b, L, _, 3, rfl, g9.pt, by omega, by decide, by decide, fun sd0 G10 s0 s3 P10 k10 => ?_⟩
      have g10 : Gro H G10 b L D d s (up1 ls x l) _ (us.eraseIdx i) (rest.eraseIdx i) n (m + 1 + n + 4 * n) := g9.keep k10 (P10.le (by omega))
      have ix10 := ix9.up (TupK.but2 k10 g9.pt)
      have iu10 := iu9.up (TupK.but2 k10 g9.pt)
      clear k10 k9 k8 g9 g8 g7 nw9 nw8 nw7 ix9 ix8 ix7 iu9 hE9 hE8 hE7 P9 P8
      obtain ⟨wx, hwx, _⟩ := g10.tr.at' x mxx
      obtain ⟨wu, hwu, iwu⟩ := g10.tr.at' u (up mu)
      refine ⟨_, rfl, rfl, _, rfl, ?_⟩
      by_cases c2 : sd0 = 2
      · refine ifT (decide_eq_true (congrArg V.int c2)) ?_
        refine ⟨_, rfl, _, rfl, _, rfl, d, _, rfl, g10.tr.get mxx ix10, _, _, 2, 2, rfl, rfl, hwx, rfl, ?_⟩
        refine fin _ _ _ _ _ (g10.setT (c := 2) (y := some u) mxx (by decide) hwx iu10) ?_
        have := dr.ext nx gx (ou := some u) (fun z e => by cases e; exact mu) (l' := up1 S.l x none) (r' := up1 S.r x none) (fun y c => .inl (up1_ne c)) (fun y c => .inl (up1_ne c)) up1_same up1_same
        have ea : up1 (up1 S.a x none) x (some u) = up1 S.a x (some u) := by
          funext y
          by_cases c : y = x
          · rw [c, up1_same, up1_same]
          · rw [up1_ne c, up1_ne c, up1_ne c]
        show Dr s { S with ns := S.ns ++ [x], l := up1 S.l x none, r := up1 S.r x none, a := up1 (up1 S.a x none) x (some u) }
        rw [ea]
        exact this
      · refine ifF (decide_eq_false fun e => c2 (V.int.inj e)) ?_
        obtain ⟨c, rfl⟩ : ∃ c : Nat, sd0 = (c : Int) := ⟨sd0.toNat, by omega⟩
        have hc : c < 2 := by omega
        refine ⟨_, rfl, _, rfl, d, _, rfl, g10.tr.get (up mu) iu10, _, rfl, _, _, _, _, rfl, rfl, SqL.of hwu, ls3_at (by omega), rfl, _, rfl, ?_⟩
        rw [(iwu c (by omega)).non]
        by_cases hn : fldN { S with ns := S.ns ++ [x], l := up1 S.l x none, r := up1 S.r x none, a := up1 S.a x none } c u = none
        · refine ifT (decide_eq_true hn) ?_
          refine ⟨_, rfl, _, rfl, (by show 2 ≤ sizeLine; decide), fun T0 nT => ?_⟩
          have sT := same_new (o := .tup [v, vu]) nT
          have hT : upd G10 T0 (.tup [v, vu]) T0 = some (.tup [v, vu]) := upd_same
          have g11 := g10.same sT
          have ix11 := ix10.up (Same.tupk sT)
          have iu11 := iu10.up (Same.tupk sT)
          have hwx11 := sT _ _ hwx
          have hwu11 := sT _ _ hwu
          generalize upd G10 T0 (.tup [v, vu]) = G11 at hT g11 ix11 iu11 hwx11 hwu11 ⊢
          have ic : ixN (ls3 wu).length (c : Int) = some c := by
            have e : c = 0 ∨ c = 1 := by omega
            rcases e with rfl | rfl <;> rfl
          refine ⟨T0, _, rfl, SqT.of hT, rfl, _, _, rfl, _, rfl, _, rfl, d, _, rfl, g11.tr.get (up mu) iu11, _, rfl, _, _, _, _, rfl, rfl, hwu11, ic, ?_⟩
          have g12 := g11.setT (c := c) (y := some x) (up mu) (by omega) hwu11 ix11
          have tk : TupK G11 (upd G11 (up1 ls x l u) (.lst ((ls3 wu).set c v))) := TupK.refl.put hwu11 (by intro xs e; cases e)
          have ix12 := ix11.up tk
          have iu12 := iu11.up tk
          have hwx12 : upd G11 (up1 ls x l u) (.lst ((ls3 wu).set c v)) (up1 ls x l x) = some (.lst (ls3 wx)) := by
            rw [upd_ne fun e => ne mu (g11.tr.inj x mxx u (up mu) e).symm]
            exact hwx11
          clear tk
          generalize upd G11 (up1 ls x l u) (.lst ((ls3 wu).set c v)) = G12 at g12 ix12 iu12 hwx12 ⊢
          have mx2 : x ∈ (setN { S with ns := S.ns ++ [x], l := up1 S.l x none, r := up1 S.r x none, a := up1 S.a x none } c u (some x)).ns := by rw [setN_ns]; exact mxx
          refine ⟨_, _, rfl, _, rfl, _, rfl, d, _, rfl, g12.tr.get mx2 ix12, _, _, 2, 2, rfl, rfl, hwx12, rfl, rfl, ?_⟩
          refine fin _ _ _ _ _ (g12.setT (c := 2) (y := some u) mx2 (by decide) hwx12 iu12) ?_
          have ea : up1 (up1 S.a x none) x (some u) = up1 S.a x (some u) := by
            funext y
            by_cases c : y = x
            · rw [c, up1_same, up1_same]
            · rw [up1_ne c, up1_ne c, up1_ne c]
          have e01 : c = 0 ∨ c = 1 := by omega
          have nu := ne mu
          rcases e01 with rfl | rfl
          · have hn : up1 S.l x none u = none := hn
            show Dr s { S with ns := S.ns ++ [x], l := up1 (up1 S.l x none) u (some x), r := up1 S.r x none, a := up1 (up1 S.a x none) x (some u) }
            rw [ea]
            refine dr.ext nx gx (ou := some u) (fun z e => by cases e; exact mu) (fun y c => ?_) (fun y c => .inl (up1_ne c)) (by rw [up1_ne nu.symm, up1_same]) up1_same
            by_cases c2 : y = u
            · subst c2
              exact .inr ⟨rfl, up1_same, up1_ne c⟩
            · exact .inl (by rw [up1_ne c2, up1_ne c])
          · have hn : up1 S.r x none u = none := hn
            show Dr s { S with ns := S.ns ++ [x], l := up1 S.l x none, r := up1 (up1 S.r x none) u (some x), a := up1 (up1 S.a x none) x (some u) }
            rw [ea]
            refine dr.ext nx gx (ou := some u) (fun z e => by cases e; exact mu) (fun y c => .inl (up1_ne c)) (fun y c => ?_) up1_same (by rw [up1_ne nu.symm, up1_same])
            by_cases c2 : y = u
            · subst c2
              exact .inr ⟨rfl, up1_same, up1_ne c⟩
            · exact .inl (by rw [up1_ne c2, up1_ne c])
        · exact ifF (decide_eq_false hn) (fin G10 _ _ _ _ ⟨g10.hD, g10.nm, g10.tr, g10.pt.le (by omega), g10.bt, g10.nd, g10.al, g10.ln, g10.fr, g10.D0, g10.d0⟩ alone)
end

end My
namespace My
open PySem L2
/-! ### the law's rows of its tree -/
theorem tk_ins {α : Type} {ns : List α} {i : Nat} {x : α} (h : ns[i]? = some x) : ns.take (i + 1) = ns.take i ++ [x] := by rw [List.take_succ, h]; rfl
theorem notin_take {α : Type} {ms : List α} (nd : ms.Nodup) {i : Nat} {x : α} (h : ms[i]? = some x) : x ∉ ms.take i := fun m => by
  obtain ⟨j, hj⟩ := List.mem_iff_getElem?.mp m
  rw [List.getElem?_take] at hj
  split at hj
  · rename_i lt
    have := (List.getElem?_inj (List.getElem?_eq_some_iff.mp hj).1 nd).mp (hj.trans h.symm)
    omega
  · exact nomatch hj
section
variable {P : Program} {w : World} {K : PySem.W.Frag} {mg : Str → Option Value} {base : Heap}
def spLRows : Sp := fun vs H Q _ => ∃ (d : Addr) (s : Bool) (ls : Nm → Addr) (S : Lk Nm), vs = [.ref d] ∧ TreeN H s d ls S ∧ AllG s S.ns ∧ S.ns.length ≤ 1000 ∧
  ∀ (t : Addr) (xs : List V) (H' : Hp), Same H H' → H t = none → H' t = some (.tup xs) → NRs H' xs ((sortN S.ns).map (rowT S fun _ => false)) → Q (.ref t) H'
theorem ok_lrowsN (T : Top K mg) : FnOk P w K mg base CX0 1 T.a_Lrows T.d_Lrows ["_law_tree_here"] spLRows := by
  refine T.F_Lrows.ok sc_Lrows (fun vs H Q E h => ?_) (fun cdv A outer s H vs Q E hr h => ?_)
  · obtain ⟨d, s, ls, S, rfl, _⟩ := h
    rfl
  · obtain ⟨d, s, ls, S, rfl, tr, al, ln, q⟩ := h
    refine ⟨_, (pss_one (ps_ret (pe_callTy call_tuple_of (by rfl) T.m_tuple (by decide +kernel) (pa_cons (pe_lc (own := [("_law_name", 1)]) (g := gName 1) (tt := tYes) (by rfl) sc_Lrows.nd (pi_list (pe_callB (cr_or2 (call_sortedDX rfl) (cr_sortDT rfl (u65 hr))) (by rfl) T.m_sorted (by decide +kernel) (pa_cons (pv 0) pa_nil))) (blkOk_by (own := [("_law_name", 1)]) (N := ["_law_tree_here", "_law_name"]) (sc := defScope s_Lrows) (by decide +kernel)) (fun _ _ _ _ _ => (pg_name (i := 1) sc_Lrows.nd rfl (.inl rfl))) (fun _ _ _ _ _ => pts_nil) (fun _ _ _ _ _ => (pe_tup (pa_cons (pv 1) (pa_cons (pe_ix (ix_listK (K := K) rfl) (pe_dget (u1 hr) (pv 0) (pv 1) (fun _ _ => rfl)) pe_int (fun _ _ => rfl)) (pa_cons (pe_ix (ix_listK (K := K) rfl) (pe_dget (u1 hr) (pv 0) (pv 1) (fun _ _ => rfl)) pe_int (fun _ _ => rfl)) (pa_cons (pe_ix (ix_listK (K := K) rfl) (pe_dget (u1 hr) (pv 0) (pv 1) (fun _ _ => rfl)) pe_int (fun _ _ => rfl)) (pa_cons pe_bl pa_nil)))))))) pa_nil)))), ?_⟩
    refine ⟨_, rfl, ?_⟩
    dsimp only [tNil]
    refine srtD_nm (.inl tr.hd) al (by omega) fun ys p ny np => ?_
    have s1 := same_new (o := .lst ys) np
    have hp : upd H p (.lst ys) p = some (.lst ys) := upd_same
    have tr1 := tr.same s1
    have ny1 := ny.up (Same.tupk s1)
    generalize upd H p (.lst ys) = H1 at s1 hp tr1 ny1 ⊢
    have ly : ys.length = S.ns.length := by rw [ny.length, sortN_len]
    refine ⟨p, rfl, ⟨_, SqL.of hp⟩, fun M nM => ?_⟩
    refine lc_list (K := K) (a := p) (xs := ys) (fun i G => Same H1 G ∧ ∃ ws : List V, G M = some (.lst ws) ∧ NRs G ws (((sortN S.ns).take i).map (rowT S fun _ => false))) ⟨same_new nM, [], upd_same, .nil⟩ (fun i G _ z => SqL.of (z.1 _ _ hp)) ?_ ?_
    · rintro i v G hv ⟨s2, ws, hM, nr⟩
      obtain ⟨x, hx, ix⟩ := paired_at ny1 hv
      have mx : x ∈ S.ns := sortN_mem.mp (List.mem_of_getElem? hx)
      have tr2 := tr1.same s2
      have ix2 := ix.up (Same.tupk s2)
      obtain ⟨w, hw, iw⟩ := tr2.at' x mx
      have li := (List.getElem?_eq_some_iff.mp hv).1
      have lw := nr.length
      rw [List.length_map, List.length_take, sortN_len] at lw
      have g := tr2.get mx ix2
      refine ⟨rfl, yes_ite ⟨_, rfl, _, rfl, _, rfl, d, _, rfl, g, _, _, 0, _, rfl, rfl, SqL.of hw, ls3_at (c := 0) (by decide), _, rfl, _, rfl, d, _, rfl, g, _, _, 1, _, rfl, rfl, SqL.of hw, ls3_at (c := 1) (by decide), _, rfl, _, rfl, d, _, rfl, g, _, _, 2, _, rfl, rfl, SqL.of hw, ls3_at (c := 2) (by decide), (by show 5 ≤ sizeLine; decide), fun c nc => ?_⟩⟩
      have s3 := same_new (o := .tup [v, w 0, w 1, w 2, .bl false]) nc
      have hc : upd G c (.tup [v, w 0, w 1, w 2, .bl false]) c = some (.tup [v, w 0, w 1, w 2, .bl false]) := upd_same
      have hM3 := s3 _ _ hM
      have ra : RowAt (upd G c (.tup [v, w 0, w 1, w 2, .bl false])) (.ref c) (rowT S (fun _ => false) x) := ⟨c, v, w 0, w 1, w 2, rfl, hc, ix2.up (Same.tupk s3), (iw 0 (by decide)).up (Same.tupk s3), (iw 1 (by decide)).up (Same.tupk s3), (iw 2 (by decide)).up (Same.tupk s3)⟩
      have nr3 := nr.up (Same.tupk s3)
      show ∃ acc, _
      generalize upd G c (.tup [v, w 0, w 1, w 2, .bl false]) = G3 at s3 hc hM3 ra nr3 ⊢
      have tk : TupK G3 (upd G3 M (.lst (ws ++ [V.ref c]))) := TupK.refl.put hM3 (by intro xs e; cases e)
      refine ⟨_, hM3, szl (by omega), same_put (s2.trans s3) nM, ws ++ [.ref c], upd_same, ?_⟩
      rw [tk_ins hx, List.map_append]
      exact paired_snoc (nr3.up tk) (ra.up tk)
    · rintro G ⟨s2, ws, hM, nr⟩
      rw [ly, ← sortN_len, List.take_length] at nr
      refine ⟨M, _, rfl, .inl ⟨SqL.of hM, fun t nt => ?_⟩⟩
      have s3 := same_new (o := .tup ws) nt
      exact q t ws _ (s1.trans (s2.trans s3)) (Same.none (s1.trans s2) nt) upd_same (nr.up (Same.tupk s3))
end

section
variable {P : Program} {w : World} {K : PySem.W.Frag} {mg : Str → Option Value} {base : Heap}
/-- the rows, some of them turned -/
def spLShape : Sp := fun vs H Q _ => ∃ (b L d : Addr) (m : Int) (s : Bool) (ls : Nm → Addr) (S : Lk Nm), vs = [.ref b, .ref d] ∧ PotAt H b L m ∧ m < 2 ^ 40 ∧ TreeN H s d ls S ∧ AllG s S.ns ∧ S.ns.Nodup ∧ S.ns.length ≤ 1000 ∧
  ∀ (t : Addr) (xs : List V) (f : Nm → Bool) (H' : Hp), But2 b L H H' → PotAt H' b L (m + S.ns.length) → H t = none → H' t = some (.tup xs) → NRs H' xs ((sortN S.ns).map (rowT S f)) → Q (.ref t) H'
theorem ok_lshapeN (T : Top K mg) : FnOk P w K mg base CX0 3 T.a_Lshape T.d_Lshape ["_law_pot_here", "_law_tree_here"] spLShape := by
  have G_Ltake : FnOk P w K mg base CX0 2 _ _ _ _ := ok_take T
  have G_Lrows : FnOk P w K mg base CX0 1 _ _ _ _ := ok_lrowsN T
  refine T.F_Lshape.ok sc_Lshape (fun vs H Q E h => ?_) (fun cdv A outer s H vs Q E hr h => ?_)
  · obtain ⟨b, L, d, m, s, ls, S, rfl, _⟩ := h
    rfl
  · obtain ⟨b, L, d, m, s, ls, S, rfl, P0, mm, tr, al, nd, ln, q⟩ := h
    have nds : (sortN S.ns).Nodup := sortN_perm.nodup_iff.mpr nd
    refine ⟨_, (pss_one (ps_ret (pe_callTy call_tuple_of (by rfl) T.m_tuple (by decide +kernel) (pa_cons (pe_lc (own := [("_law_row", 2)]) (g := gName 2) (tt := tYes) (by rfl) sc_Lshape.nd (pi_tup (pe_call G_Lrows (hr.mono (by decide)) (by rfl) T.g_Lrows T.F_Lrows.kp T.b_Lrows .nil pass0 (pa_cons (pv 1) pa_nil))) (blkOk_by (own := [("_law_row", 2)]) (N := ["_law_pot_here", "_law_tree_here", "_law_row"]) (sc := defScope s_Lshape) (by decide +kernel)) (fun _ _ _ _ _ => (pg_name (i := 2) sc_Lshape.nd rfl (.inl rfl))) (fun _ _ _ _ _ => pts_nil) (fun _ _ _ _ _ => (pe_op (op_catAK (K := K) rfl) (pe_slice (sl_tupK (K := K) rfl) (pv 2) po_none (po_some pe_int)) (pe_tup (pa_cons (pe_cmpR op_eq (pe_call G_Ltake hr (by rfl) T.g_Ltake T.F_Ltake.kp T.b_Ltake .nil pass0 (pa_cons (pv 0) (pa_cons pe_int pa_nil))) pe_int (nomark _)) pa_nil))))) pa_nil)))), ?_⟩
    refine ⟨_, rfl, d, s, ls, S, rfl, tr, al, ln, fun r xs H1 s1 nr hr1 rs => ?_⟩
    have P1 := P0.same s1
    have lx : xs.length = S.ns.length := by rw [rs.length, List.length_map, sortN_len]
    refine ⟨r, rfl, ⟨_, SqT.of hr1⟩, fun M nM => ?_⟩
    obtain ⟨eM1, eM2⟩ := P1.ne nM
    refine lc_tup (K := K) (a := r) (xs := xs) (fun i G => But2 b L H1 G ∧ PotAt G b L (m + (i : Int)) ∧ ∃ (ws : List V) (f : Nm → Bool), G M = some (.lst ws) ∧ NRs G ws (((sortN S.ns).take i).map (rowT S f))) ⟨(But2.refl).put nM, (P1.put eM1 eM2).le (by omega), [], fun _ => false, upd_same, .nil⟩ (fun i G _ z => SqT.of (z.1.tup P1 hr1)) ?_ ?_
    · rintro i v G hv ⟨k2, P2, ws, f, hM, nw⟩
      obtain ⟨w0, hw0, ra⟩ := paired_at rs hv
      rw [List.getElem?_map] at hw0
      obtain ⟨x, hx, rfl⟩ := Option.map_eq_some_iff.mp hw0
      obtain ⟨p, vx, vl, vr, va, rfl, hp, i1, i2, i3, i4⟩ := ra.up (TupK.but2 k2 P1)
      have li := (List.getElem?_eq_some_iff.mp hv).1
      have lw := nw.length
      rw [List.length_map, List.length_take, sortN_len] at lw
      refine ⟨rfl, yes_ite ⟨_, rfl, 4, rfl, p, _, rfl, SqT.of hp, (by show ¬ (HT.sIx 5 0 none = 0 ∧ HT.sIx 5 5 (some 4) = 5); decide), fun c nc => ?_⟩⟩
      have ec : cutV [vx, vl, vr, va, V.bl (rowT S (fun _ => false) x).t] none (some 4) = [vx, vl, vr, va] := rfl
      rw [ec]
      have s3 := same_new (o := .tup [vx, vl, vr, va]) nc
      have hc : upd G c (.tup [vx, vl, vr, va]) c = some (.tup [vx, vl, vr, va]) := upd_same
      have P3 := P2.same s3
      have hM3 := s3 _ _ hM
      generalize upd G c (.tup [vx, vl, vr, va]) = G3 at s3 hc P3 hM3 ⊢
      refine ⟨_, rfl, b, L, _, 2, rfl, P3, by omega, by decide, by decide, fun t G4 t0 t1 P4 k4 => ⟨rfl, (by show 1 ≤ sizeLine; decide), fun e ne => ?_⟩⟩
      have s5 := same_new (o := .tup [V.bl (decide (V.int t = V.int 0))]) ne
      have he : upd G4 e (.tup [V.bl (decide (V.int t = V.int 0))]) e = some (.tup [V.bl (decide (V.int t = V.int 0))]) := upd_same
      have hc5 := s5 _ _ (k4.tup P3 hc)
      have hM5 := s5 _ _ (k4 _ _ hM3 eM1 eM2)
      have P5 := P4.same s5
      have k5 : But2 b L G (upd G4 e (.tup [V.bl (decide (V.int t = V.int 0))])) := ((But2.of_same s3).trans k4).same s5
      generalize upd G4 e (.tup [V.bl (decide (V.int t = V.int 0))]) = G5 at he hc5 hM5 P5 k5 ⊢
      refine ⟨c, e, _, _, rfl, rfl, SqT.of hc5, SqT.of he, (by show 5 ≤ sizeLine; decide), (fun z => nomatch z), (fun _ z => nomatch z), fun _ _ g ng => ?_⟩
      have s6 := same_new (o := .tup ([vx, vl, vr, va] ++ [V.bl (decide (V.int t = V.int 0))])) ng
      have hg : upd G5 g (.tup ([vx, vl, vr, va] ++ [V.bl (decide (V.int t = V.int 0))])) g = some (.tup [vx, vl, vr, va, V.bl (decide (V.int t = V.int 0))]) := upd_same
      have hM6 := s6 _ _ hM5
      have P6 := P5.same s6
      have k6 := k5.same s6
      show ∃ acc, _
      generalize upd G5 g (.tup ([vx, vl, vr, va] ++ [V.bl (decide (V.int t = V.int 0))])) = G6 at hg hM6 P6 k6 ⊢
      have tk : TupK G (upd G6 M (.lst (ws ++ [V.ref g]))) := (TupK.but2 k6 P2).put hM6 (by intro xs e; cases e)
      have hg7 : upd G6 M (.lst (ws ++ [V.ref g])) g = some (.tup [vx, vl, vr, va, V.bl (decide (V.int t = V.int 0))]) := by
        rw [upd_ne (ne_of hg hM6 (by intro z; cases z))]
        exact hg
      refine ⟨_, hM6, szl (by omega), (k2.trans k6).put nM, (P6.put eM1 eM2).le (by omega), ws ++ [.ref g], up1 f x (decide (V.int t = V.int 0)), upd_same, ?_⟩
      rw [tk_ins hx, List.map_append]
      have ef : ((sortN S.ns).take i).map (rowT S (up1 f x (decide (V.int t = V.int 0)))) = ((sortN S.ns).take i).map (rowT S f) := List.map_congr_left fun z mz => by
        unfold rowT
        have nz : z ≠ x := fun e => notin_take nds hx (by rw [← e]; exact mz)
        rw [up1_ne nz]
      rw [ef]
      refine paired_snoc (nw.up tk) ⟨g, vx, vl, vr, va, rfl, ?_, i1.up tk, i2.up tk, i3.up tk, i4.up tk⟩
      show _ = some (HO.tup [vx, vl, vr, va, V.bl (up1 f x (decide (V.int t = V.int 0)) x)])
      rw [up1_same]
      exact hg7
    · rintro G ⟨k2, P2, ws, f, hM, nw⟩
      rw [lx, ← sortN_len, List.take_length] at nw
      rw [lx] at P2
      refine ⟨M, _, rfl, .inl ⟨SqL.of hM, fun t nt => ?_⟩⟩
      have s3 := same_new (o := .tup ws) nt
      have k0 : But2 b L H G := (But2.of_same s1).trans k2
      exact q t ws f _ (k0.same s3) (P2.same s3) (none_but2 k0 P2 nt) upd_same (nw.up (Same.tupk s3))
end

end My
namespace My
open PySem L2
/-! ### in, not in: a tuple of data -/
section
variable {X : Cx}
def rInT (K : PySem.W.Frag) (neg : Bool) : R2 := fun x y H Q => ∃ d ds, Dp K H x d ∧ Dp K H y (.tuple ds) ∧ SeqAt.shaped d = true ∧ SeqAt.shaped (.tuple ds) = true ∧ Q (.bl (if neg then !ds.any (fun z => PyData.eqv z d) else ds.any fun z => PyData.eqv z d)) H
theorem op_inT (hu : X.A.units + 65 < cLine) : OpR X (compareOp .In) (rInT X.K false) := by
  intro pins s σ H x y v u Q I rx ry h
  obtain ⟨d, ds, hd, he, sd, se, q⟩ := h
  obtain ⟨as, z1⟩ := Dp.reads I d x v hd rx
  obtain ⟨bs, z2⟩ := Dp.reads I (.tuple ds) y u he ry
  exact SeqAt.in_tuple_reads z2 z1 (SeqAt.canLay_of_shaped se) (SeqAt.canLay_of_shaped sd) (PyProof.Rows.room_in_shaped sd hu) ⟨.bl _, H, I, rfl, q⟩
theorem op_notInT (hu : X.A.units + 65 < cLine) : OpR X (compareOp .NotIn) (rInT X.K true) := by
  intro pins s σ H x y v u Q I rx ry h
  obtain ⟨d, ds, hd, he, sd, se, q⟩ := h
  obtain ⟨as, z1⟩ := Dp.reads I d x v hd rx
  obtain ⟨bs, z2⟩ := Dp.reads I (.tuple ds) y u he ry
  exact SeqAt.notIn_tuple_reads z2 z1 (SeqAt.canLay_of_shaped se) (SeqAt.canLay_of_shaped sd) (PyProof.Rows.room_in_shaped sd hu) ⟨.bl _, H, I, rfl, q⟩
end

end My
namespace My
open PySem L2
theorem tabg_same {H H' : Hp} {P : Addr} (s : Same H H') (g : GxR.TabG H P) : GxR.TabG H' P := by
  obtain ⟨ps, h, t⟩ := g
  exact ⟨ps, s _ _ h, t⟩
/-! ### the tables of code made on the way: what is no table stays -/
theorem But.of_same {P : Addr} {H H' : Hp} (s : Same H H') : But P H H' := fun a o e _ => s a o e
theorem But.of_tab {P : Addr} {H H' : Hp} (t : GxR.Tabbed P H H') : But P H H' := fun a o e n => (t.2 a n).trans e
theorem Kp.of_but {P : Addr} {H H' : Hp} (g : GxR.TabG H P) (k : But P H H') : Kp H H' := fun a o e n => by
  refine k a o e fun h => ?_
  subst h
  obtain ⟨ps, hp, _⟩ := g
  rw [hp] at e
  exact n ps (Option.some.inj e).symm
theorem TabG.ne {P a : Addr} {H : Hp} {o : HO} (g : GxR.TabG H P) (e : H a = some o) (n : ∀ ps, o ≠ .tbl ps) : a ≠ P := fun h => by
  subst h
  obtain ⟨ps, hp, _⟩ := g
  rw [hp] at e
  exact n ps (Option.some.inj e).symm
/-! ### tables kept -/
theorem tabs_same {H H' : Hp} {P : Addr} {q : Str} (s : Same H H') (g : LamX.TabS H P q) : LamX.TabS H' P q := g.ext s
/-- the other table's writing -/
theorem tabs_other {H H' : Hp} {P R : Addr} {q : Str} (n : P ≠ R) (gR : GxR.TabG H R) (k : But R H H') (g : LamX.TabS H P q) : LamX.TabS H' P q := by
  obtain ⟨ps, hp, t, e⟩ := g
  refine ⟨ps, k _ _ hp n, t, fun pos cv hc => ?_⟩
  obtain ⟨c, e1, e2⟩ := e pos cv hc
  exact ⟨c, e1, k _ _ e2 (TabG.ne gR e2 LamX.codeO_ne)⟩
theorem tabg_other {H H' : Hp} {P R : Addr} (n : R ≠ P) (k : But P H H') (g : GxR.TabG H R) : GxR.TabG H' R := by
  obtain ⟨ps, hp, t⟩ := g
  exact ⟨ps, k _ _ hp n, t⟩
theorem TabS.g {H : Hp} {P : Addr} {q : Str} (g : LamX.TabS H P q) : GxR.TabG H P := by
  obtain ⟨ps, hp, t, _⟩ := g
  exact ⟨ps, hp, t⟩
theorem Tups.of_tab {K : PySem.W.Frag} {H H' : Hp} {P : Addr} (g : GxR.TabG H P) (k : But P H H') : Tups K H H' := fun a xs h => by
  rcases h with h | h
  · rcases h with h | ⟨o, h⟩
    · exact .inl (.inl (k _ _ h (TabG.ne g h (by intro ps z; cases z))))
    · exact .inl (.inr ⟨o, k _ _ h (TabG.ne g h (by intro ps z; cases z))⟩)
  · exact .inr h

theorem Tups.of_kp {K : PySem.W.Frag} {H H' : Hp} (k : Kp H H') : Tups K H H' := fun a xs h => by
  rcases h with h | h
  · rcases h with h | ⟨o, h⟩
    · exact .inl (.inl (k _ _ h (by intro ps z; cases z)))
    · exact .inl (.inr ⟨o, k _ _ h (by intro ps z; cases z)⟩)
  · exact .inr h
theorem Kp.same {H H1 H2 : Hp} (k : Kp H H1) (s : Same H1 H2) : Kp H H2 := k.trans (Kp.of_same s)
/-- each table as it has to be: of generators (none), of lambdas that stand in one def (its name) -/
def Tb (ts : List (Addr × Option Str)) (H : Hp) : Prop := ∀ t ∈ ts, match t.2 with | none => GxR.TabG H t.1 | some q => LamX.TabS H t.1 q
section
variable {ts : List (Addr × Option Str)} {H H' : Hp}
theorem Tb.g {P : Addr} (h : Tb ts H) (m : (P, none) ∈ ts) : GxR.TabG H P := h _ m
theorem Tb.s {P : Addr} {q : Str} (h : Tb ts H) (m : (P, some q) ∈ ts) : LamX.TabS H P q := h _ m
theorem Tb.mk (h : ∀ P, (P, none) ∈ ts → GxR.TabG H P) (k : ∀ P q, (P, some q) ∈ ts → LamX.TabS H P q) : Tb ts H := fun t m => by
  obtain ⟨P, o⟩ := t
  cases o with
  | none => exact h P m
  | some q => exact k P q m
theorem Tb.same (h : Tb ts H) (s : Same H H') : Tb ts H' := .mk (fun P m => tabg_same s (h.g m)) (fun P q m => tabs_same s (h.s m))
theorem nd_fst : ∀ {ts : List (Addr × Option Str)}, (ts.map (·.1)).Nodup → ∀ {x y : Addr × Option Str}, x ∈ ts → y ∈ ts → x.1 = y.1 → x = y
  | [], _, _, _, hx, _, _ => nomatch hx
  | t :: r, nd, x, y, hx, hy, e => by
    rw [List.map_cons, List.nodup_cons] at nd
    rcases List.mem_cons.mp hx with e1 | h1
    · rcases List.mem_cons.mp hy with e2 | h2
      · rw [e1, e2]
      · exact absurd (List.mem_map.mpr ⟨y, h2, by rw [← e, e1]⟩) nd.1
    · rcases List.mem_cons.mp hy with e2 | h2
      · exact absurd (List.mem_map.mpr ⟨x, h1, by rw [e, e2]⟩) nd.1
      · exact nd_fst nd.2 h1 h2 e
/-- one of generators was written -/
theorem Tb.tab {P : Addr} (h : Tb ts H) (nd : (ts.map (·.1)).Nodup) (m : (P, none) ∈ ts) (k : But P H H') (g : GxR.TabG H' P) : Tb ts H' := by
  refine .mk (fun R mR => ?_) (fun R q mR => ?_)
  · by_cases e : R = P
    · subst e
      exact g
    · exact tabg_other e k (h.g mR)
  · refine tabs_other (fun e => ?_) (h.g m) k (h.s mR)
    subst e
    cases nd_fst nd m mR rfl
/-- one of lambdas was written -/
theorem Tb.lam {P : Addr} {q : Str} (h : Tb ts H) (nd : (ts.map (·.1)).Nodup) (m : (P, some q) ∈ ts) (k : But P H H') (g : LamX.TabS H' P q) : Tb ts H' := by
  refine .mk (fun R mR => ?_) (fun R q2 mR => ?_)
  · refine tabg_other (fun e => ?_) k (h.g mR)
    subst e
    cases nd_fst nd m mR rfl
  · by_cases e : R = P
    · subst e
      cases nd_fst nd m mR rfl
      exact g
    · exact tabs_other e (TabS.g (h.s m)) k (h.s mR)
end

section
variable {K : PySem.W.Frag} {mg : Str → Option Value}
def Top.tbs (T : Top K mg) : List (Addr × Option Str) := [(T.PM, none), (T.PS, none), (T.PR, none), (T.PH, none), (T.PK, none)]
theorem Top.mM (T : Top K mg) : (T.PM, none) ∈ T.tbs := List.mem_cons_self
theorem Top.mS (T : Top K mg) : (T.PS, none) ∈ T.tbs := (List.mem_cons_of_mem _ List.mem_cons_self)
theorem Top.mR (T : Top K mg) : (T.PR, none) ∈ T.tbs := (List.mem_cons_of_mem _ (List.mem_cons_of_mem _ List.mem_cons_self))
theorem Top.mH (T : Top K mg) : (T.PH, none) ∈ T.tbs := (List.mem_cons_of_mem _ (List.mem_cons_of_mem _ (List.mem_cons_of_mem _ List.mem_cons_self)))
theorem Top.mK (T : Top K mg) : (T.PK, none) ∈ T.tbs := (List.mem_cons_of_mem _ (List.mem_cons_of_mem _ (List.mem_cons_of_mem _ (List.mem_cons_of_mem _ List.mem_cons_self))))
theorem Top.nd (T : Top K mg) : (T.tbs.map (·.1)).Nodup := T.neP
structure TBs (T : Top K mg) (base : Heap) : Prop where
  M : GxR.TabB base mg T.cM T.PM
  S : GxR.TabB base mg T.cS T.PS
  R : GxR.TabB base mg T.cR T.PR
  H : GxR.TabB base mg T.cH T.PH
  K : GxR.TabB base mg T.cK T.PK
theorem tbs0 (T : Top K mg) {H : Hp} (hM : H T.PM = some (.tbl #[])) (hS : H T.PS = some (.tbl #[])) (hR : H T.PR = some (.tbl #[])) (hH : H T.PH = some (.tbl #[])) (hK : H T.PK = some (.tbl #[])) : Tb T.tbs H := by
  intro t m
  rcases List.mem_cons.mp m with rfl | m
  · exact ⟨#[], hM, True.intro⟩
  rcases List.mem_cons.mp m with rfl | m
  · exact ⟨#[], hS, True.intro⟩
  rcases List.mem_cons.mp m with rfl | m
  · exact ⟨#[], hR, True.intro⟩
  rcases List.mem_cons.mp m with rfl | m
  · exact ⟨#[], hH, True.intro⟩
  rw [List.mem_singleton.mp m]
  exact ⟨#[], hK, True.intro⟩
end
theorem mem1 {α : Type} {p a : α} (h : p ∈ [a]) : p = a := List.mem_singleton.mp h
theorem mem2 {α : Type} {p a0 a1 : α} (h : p ∈ [a0, a1]) : p = a0 ∨ p = a1 := (List.mem_cons.mp h).imp id mem1
theorem mem3 {α : Type} {p a0 a1 a2 : α} (h : p ∈ [a0, a1, a2]) : p = a0 ∨ p = a1 ∨ p = a2 := (List.mem_cons.mp h).imp id mem2
theorem mem4 {α : Type} {p a0 a1 a2 a3 : α} (h : p ∈ [a0, a1, a2, a3]) : p = a0 ∨ p = a1 ∨ p = a2 ∨ p = a3 := (List.mem_cons.mp h).imp id mem3
theorem mem5 {α : Type} {p a0 a1 a2 a3 a4 : α} (h : p ∈ [a0, a1, a2, a3, a4]) : p = a0 ∨ p = a1 ∨ p = a2 ∨ p = a3 ∨ p = a4 := (List.mem_cons.mp h).imp id mem4
end My
namespace My
open PySem L2
/-! ### marks and names -/
/-- anything but a tuple -/
inductive NoTup (H : Hp) : V → Prop
  | non : NoTup H .non
  | bl (b : Bool) : NoTup H (.bl b)
  | int (i : Int) : NoTup H (.int i)
  | str (x : Str) : NoTup H (.str x)
  | lst {a : Addr} {xs : List V} (h : H a = some (.lst xs)) : NoTup H (.ref a)
  | dK {a : Addr} {kvs : List (Key × V)} (h : H a = some (.dK kvs)) : NoTup H (.ref a)
theorem NoTup.kp {H H' : Hp} (k : Kp H H') {v : V} (h : NoTup H v) : NoTup H' v := by
  cases h with
  | non => exact .non
  | bl b => exact .bl b
  | int i => exact .int i
  | str x => exact .str x
  | lst h => exact .lst (k _ _ h (by intro ps z; cases z))
  | dK h => exact .dK (k _ _ h (by intro ps z; cases z))
theorem notup_ok {K : PySem.W.Frag} {H : Hp} {v : V} (h : NoTup H v) : ∃ t, TyX K H v t ∧ PySem.W.kitOne K t (.type "tuple") = some false := by
  cases h with
  | non => exact ⟨_, .base .non, kit_ty (show kitB _ _ = some false by decide +kernel)⟩
  | bl b => exact ⟨_, .base (.bl b), kit_ty (show kitB _ _ = some false by decide +kernel)⟩
  | int i => exact ⟨_, .base (.int i), kit_ty (show kitB _ _ = some false by decide +kernel)⟩
  | str x => exact ⟨_, .base (.str x), kit_ty (show kitB _ _ = some false by decide +kernel)⟩
  | lst h => exact ⟨_, .base (.lst h), kit_ty (show kitB _ _ = some false by decide +kernel)⟩
  | dK h => exact ⟨_, .base (.dK h), kit_ty (show kitB _ _ = some false by decide +kernel)⟩
theorem not_whole {x : V} {ps : List V} : ¬ (HT.sIx (x :: ps).length 0 (some 1) = 0 ∧ HT.sIx (x :: ps).length (x :: ps).length none = (x :: ps).length) := by
  rintro ⟨z1, _⟩
  have e1 : HT.sIx (x :: ps).length 0 (some 1) = 1 := by
    rw [show (1 : Int) = ((1 : Nat) : Int) from rfl, HT.sIx_nat, List.length_cons]
    omega
  rw [e1] at z1
  exact nomatch z1
theorem Kp.of_tabd {P : Addr} {H H' : Hp} (g : GxR.TabG H P) (t : GxR.Tabbed P H H') : Kp H H' := Kp.of_but g (But.of_tab t)
theorem Kp.tup {H H' : Hp} (k : Kp H H') {t : Addr} {xs : List V} (e : H t = some (.tup xs)) : H' t = some (.tup xs) := k _ _ e (by intro ps z; cases z)
def natV : V → Bool
  | .int i => decide (0 ≤ i)
  | _ => false
def markB : List V → Bool
  | .str z :: r => r.all natV && (decide (z = "point" ∧ r.length = 1) || decide (z = "over" ∧ r.length = 2))
  | _ => false
/-- a thing, and whether it is a mark -/
def MkV (H : Hp) (v : V) (b : Bool) : Prop := (∃ (a : Addr) (xs : List V), v = .ref a ∧ xs.length ≤ 1000 ∧ H a = some (.tup xs) ∧ (∀ x ∈ xs, AnyV H x) ∧ (∀ z r, xs = .str z :: r → SeqAt.shaped (.str z) = true) ∧ b = markB xs) ∨ (NoTup H v ∧ b = false)
section
variable {P : Program} {w : World} {K : PySem.W.Frag} {mg : Str → Option Value} {base : Heap}
def spWhole : Sp := fun vs H Q _ => ∃ v, vs = [v] ∧ AnyV H v ∧ Q (.bl (wholeB v)) H
theorem ok_whole (T : Top K mg) : FnOk P w K mg base CX0 1 T.a_iswhole T.d_iswhole ["thing"] spWhole := by
  refine T.F_iswhole.ok sc_iswhole (fun vs H Q E h => ?_) (fun cdv A outer s H vs Q E hr h => ?_)
  · obtain ⟨v, rfl, _⟩ := h
    rfl
  · obtain ⟨v, rfl, hv, q⟩ := h
    refine ⟨_, (pss_one (ps_ret (pe_and (pe_callB call_isi (by rfl) T.m_isinstance (by decide +kernel) (pa_cons (pv 0) (pa_cons (pe_bltn (v := .ty "int") (by rfl) T.m_int (by decide +kernel) rfl) pa_nil))) (pe_one (pe_not (pe_callB call_isi (by rfl) T.m_isinstance (by decide +kernel) (pa_cons (pv 0) (pa_cons (pe_bltn (v := .ty "bool") (by rfl) T.m_bool (by decide +kernel) rfl) pa_nil)))))))), ?_⟩
    obtain ⟨t, ty, kt⟩ := int_ok (K := K) hv
    refine ⟨_, rfl, _, _, _, _, _, rfl, ClsV.ty _, ty, kt, _, rfl, ?_⟩
    obtain ⟨t2, ty2, kt2⟩ := bool_ok (K := K) hv
    have fin : isIntV v = true → ∀ b, b = isBoolV v → Q (.bl (!b)) H := fun e b eb => by
      have z : (!b) = wholeB v := by
        subst eb
        cases v <;> first | rfl | exact nomatch e
      rw [z]
      exact q
    refine ite2 (fun e => ?_) (fun e => ?_)
    · exact ⟨_, rfl, _, _, _, _, _, rfl, ClsV.ty _, ty2, kt2, _, rfl, fin e _ rfl⟩
    · have z : wholeB v = false := by
        cases v <;> first | rfl | exact absurd rfl e
      rw [z] at q
      exact q
def spMark (T : Top K mg) : Sp := fun vs H Q _ => ∃ (v : V) (b : Bool), vs = [v] ∧ Tb T.tbs H ∧ MkV H v b ∧ ∀ H', Kp H H' → Tb T.tbs H' → Q (.bl b) H'
theorem mark_in (z : Str) (n : Nat) : ([PyData.tuple [.str "point", .int 2], .tuple [.str "over", .int 3]].any fun y => PyData.eqv y (.tuple [.str z, .int ((n + 1 : Nat) : Int)])) = (decide (z = "point" ∧ n = 1) || decide (z = "over" ∧ n = 2)) := by
  have e : ∀ (y : Str) (m : Int), PyData.eqv (.tuple [.str y, .int m]) (.tuple [.str z, .int ((n + 1 : Nat) : Int)]) = (y == z && (m == ((n + 1 : Nat) : Int) && true)) := fun y m => rfl
  simp only [List.any_cons, List.any_nil, e, Bool.or_false, Bool.and_true]
  rw [Bool.eq_iff_iff]
  simp only [Bool.or_eq_true, Bool.and_eq_true, beq_iff_eq, decide_eq_true_eq]
  constructor
  · rintro (⟨h1, h2⟩ | ⟨h1, h2⟩)
    · exact .inl ⟨h1.symm, by omega⟩
    · exact .inr ⟨h1.symm, by omega⟩
  · rintro (⟨h1, h2⟩ | ⟨h1, h2⟩)
    · exact .inl ⟨h1.symm, by omega⟩
    · exact .inr ⟨h1.symm, by omega⟩
theorem ok_mark (T : Top K mg) (TB : GxR.TabB base mg T.cM T.PM) : FnOk P w K mg base CX0 3 T.a_ismark T.d_ismark ["thing"] (spMark T) := by
  have G_iswhole : FnOk P w K mg base CX0 1 _ _ _ _ := ok_whole T
  refine okC T.F_ismark T.hcM sc_ismark (fun vs H Q E h => ?_) (fun A outer s H vs Q E hr h => ?_)
  · obtain ⟨v, b, rfl, _⟩ := h
    rfl
  · obtain ⟨v, b, rfl, tb, hx, q⟩ := h
    refine ⟨_, (pss_cons (ps_if (PW.pt (pw_or (pt_not (pt_val (pe_callB call_isi (by rfl) T.m_isinstance (by decide +kernel) (pa_cons (pv 0) (pa_cons (pe_bltn (v := .ty "tuple") (by rfl) T.m_tuple (by decide +kernel) rfl) pa_nil))))) (pw_or (pt_cmpR op_eq (pe_callB call_len_seq (by rfl) T.m_len PySem.boot_len (pa_cons (pv 0) pa_nil)) pe_int (nomark _)) (pw_or1 (pt_not (pt_val (pe_callB call_isi (by rfl) T.m_isinstance (by decide +kernel) (pa_cons (pe_ix ix_tup (pv 0) pe_int (fun _ _ => rfl)) (pa_cons (pe_bltn (v := .ty "str") (by rfl) T.m_str (by decide +kernel) rfl) pa_nil))))))))) (pss_one (ps_ret pe_bl)) pss_nil)
      (pss_cons (ps_if (pt_not (pt_val (pe_allG (own := [("number", 1)]) hr rfl sc_ismark.nd (by rfl) T.m_all (by decide +kernel) TB rfl (blkOk_by (own := [("number", 1)]) (N := ["thing", "number"]) (sc := defScope s_ismark) (by decide +kernel)) (by rfl) (by decide +kernel) (by rfl) (pi_tup (pe_slice sl_tup (pv 0) (po_some pe_int) po_none)) (fun _ _ _ _ _ _ _ => (pg_name (i := 1) sc_ismark.nd rfl (.inl rfl) (hf := Or.inr rfl))) (fun _ _ _ _ _ _ _ hr' => (pe_and (pe_call G_iswhole hr' (by rfl) T.g_iswhole T.F_iswhole.kp T.b_iswhole .nil pass0 (pa_cons (pv 1) pa_nil)) (pe_one (pe_cmpR op_ge (pv 1) pe_int (nomark _)))))))) (pss_one (ps_ret pe_bl)) pss_nil)
      (pss_one (ps_ret (pe_cmpR (op_inT (u65 hr)) (pe_tup (pa_cons (pe_ix ix_tup (pv 0) pe_int (fun _ _ => rfl)) (pa_cons (pe_callB call_len_seq (by rfl) T.m_len PySem.boot_len (pa_cons (pv 0) pa_nil)) pa_nil))) (pe_tup (pa_cons (pe_tup (pa_cons pe_str (pa_cons pe_int pa_nil))) (pa_cons (pe_tup (pa_cons pe_str (pa_cons pe_int pa_nil))) pa_nil))) (by rfl)))))), ?_⟩
    rcases hx with ⟨a, xs, rfl, hlen, ha, hany, hsh, rfl⟩ | ⟨nt, rfl⟩
    · refine ⟨_, rfl, _, _, _, _, true, rfl, ClsV.ty _, .base (.tup ha), kit_ty (by decide +kernel), _, rfl, iteF ?_⟩
      cases xs with
      | nil =>
        refine ⟨_, rfl, a, _, rfl, .inr (SqT.of ha), rfl, _, rfl, iteT ?_⟩
        exact iteT (q H (Kp.refl H) tb)
      | cons x ps =>
        refine ⟨_, rfl, a, _, rfl, .inr (SqT.of ha), rfl, _, rfl, ?_⟩
        refine ite2 (fun e => ?_) (fun _ => ?_)
        · have z : ((x :: ps).length : Int) = 0 := V.int.inj (of_decide_eq_true e)
          rw [List.length_cons] at z
          omega
        · obtain ⟨t, ty, kt⟩ := str_ok (K := K) (hany x List.mem_cons_self)
          refine ⟨_, rfl, a, _, _, _, rfl, rfl, SqT.of ha, atI_nat (j := 0) rfl, _, _, _, _, _, rfl, ClsV.ty _, ty, kt, _, rfl, ?_⟩
          cases x with
          | str z =>
            refine iteF ?_
            refine ⟨_, rfl, 1, rfl, a, _, rfl, SqT.of ha, not_whole, fun pp np => ?_⟩
            have ec : cutV (V.str z :: ps) (some 1) none = ps := cut_tail _ _
            rw [ec]
            have s1 := same_new (o := .tup ps) np
            have hp1 : upd H pp (.tup ps) pp = some (.tup ps) := upd_same
            generalize upd H pp (.tup ps) = H1 at s1 hp1 ⊢
            have tb1 := tb.same s1
            refine ⟨pp, rfl, ⟨_, SqT.of hp1⟩, tb1.g T.mM, fun H2 tab => ?_⟩
            have k2 : Kp H H2 := (Kp.of_same s1).trans (Kp.of_tabd (tb1.g T.mM) tab)
            have k12 : Kp H1 H2 := Kp.of_tabd (tb1.g T.mM) tab
            have tb2 := tb1.tab T.nd T.mM (But.of_tab tab) tab.1
            refine gturns_it (walk_tup (xs := ps)) (fun i H3 => Kp H H3 ∧ Kp H1 H3 ∧ Tb T.tbs H3 ∧ (ps.take i).all natV = true) ⟨k2, k12, tb2, rfl⟩ (fun i H3 _ z => SqT.of (z.2.1.tup hp1)) ?_ (fun H3 z => ?_)
            · rintro i x H3 H4 N hi ⟨k3, k13, tb3, al⟩ ⟨rfl, hx⟩ nx
              have ax := (hany x (List.mem_cons_of_mem _ (List.mem_of_getElem? hx))).kp k3
              have no : natV x = false → Q (.bl false) H4 := fun e => by
                have z1 : markB (.str z :: ps) = false := by
                  show (ps.all natV && _) = false
                  have : ps.all natV = false := by
                    rw [List.all_eq_false]
                    exact ⟨x, List.mem_of_getElem? hx, by rw [e]; exact Bool.false_ne_true⟩
                  rw [this]
                  rfl
                have := q H4 k3 tb3
                rw [z1] at this
                exact this
              have yes : natV x = true → N H4 := fun e => nx H4 ⟨k3, k13, tb3, by rw [List.take_succ, hx, List.all_append, al]; show (true && (natV x && true)) = true; rw [e]; rfl⟩
              refine ⟨rfl, _, rfl, x, rfl, ax, _, rfl, ?_⟩
              cases x with
              | int n =>
                refine iteT ?_
                refine ⟨_, rfl, _, _, rfl, rfl, ?_⟩
                by_cases h0 : 0 ≤ n
                · exact ⟨true, congrArg V.bl (decide_eq_true h0), iteT (yes (decide_eq_true h0))⟩
                · exact ⟨false, congrArg V.bl (decide_eq_false h0), iteF ⟨_, rfl, iteT (no (decide_eq_false h0))⟩⟩
              | _ => exact iteF ⟨false, rfl, iteF ⟨_, rfl, iteT (no rfl)⟩⟩
            · obtain ⟨k3, k13, tb3, al⟩ := z
              rw [List.take_of_length_le (Nat.le_refl _)] at al
              have ha3 := k3.tup ha
              refine ⟨_, rfl, iteF ?_⟩
              refine ⟨_, rfl, a, _, _, _, rfl, rfl, SqT.of ha3, atI_nat (j := 0) rfl, _, rfl, a, _, rfl, .inr (SqT.of ha3), (by show 2 ≤ sizeLine; decide), fun p1 n1 => ?_⟩
              have u1 := same_new (o := .tup [.str z, .int ((V.str z :: ps).length : Int)]) n1
              have g1 : upd H3 p1 (.tup [.str z, .int ((V.str z :: ps).length : Int)]) p1 = some (.tup [.str z, .int ((V.str z :: ps).length : Int)]) := upd_same
              generalize upd H3 p1 (.tup [.str z, .int ((V.str z :: ps).length : Int)]) = H4 at u1 g1 ⊢
              refine ⟨(by show 2 ≤ sizeLine; decide), fun p2 n2 => ?_⟩
              have u2 := same_new (o := .tup [.str "point", .int 2]) n2
              have g2 : upd H4 p2 (.tup [.str "point", .int 2]) p2 = some (.tup [.str "point", .int 2]) := upd_same
              generalize upd H4 p2 (.tup [.str "point", .int 2]) = H5 at u2 g2 ⊢
              refine ⟨(by show 2 ≤ sizeLine; decide), fun p3 n3 => ?_⟩
              have u3 := same_new (o := .tup [.str "over", .int 3]) n3
              have g3 : upd H5 p3 (.tup [.str "over", .int 3]) p3 = some (.tup [.str "over", .int 3]) := upd_same
              generalize upd H5 p3 (.tup [.str "over", .int 3]) = H6 at u3 g3 ⊢
              refine ⟨(by show 2 ≤ sizeLine; decide), fun p4 n4 => ?_⟩
              have u4 := same_new (o := .tup [.ref p2, .ref p3]) n4
              have s36 := (u1.trans u2).trans (u3.trans u4)
              have sz := hsh z ps rfl
              have sd : SeqAt.shaped (.tuple [.str z, .int ((ps.length + 1 : Nat) : Int)]) = true := by
                have c := SeqAt.canLay_of_shaped sz
                unfold SeqAt.shaped
                rw [show PyData.canLay0 (.tuple [.str z, .int ((ps.length + 1 : Nat) : Int)]) = true by show (PyData.canLay0 (.str z) && true) = true; rw [c]; rfl]
                rfl
              refine ⟨.tuple [.str z, .int ((ps.length + 1 : Nat) : Int)], [.tuple [.str "point", .int 2], .tuple [.str "over", .int 3]], .tup (SqT.of (u4 _ _ (u3 _ _ (u2 _ _ g1)))) (.cons (.str z) (.cons (.int _) .nil)), .tup (SqT.of upd_same) (.cons (.tup (SqT.of (u4 _ _ (u3 _ _ g2))) (.cons (.str _) (.cons (.int _) .nil))) (.cons (.tup (SqT.of (u4 _ _ g3)) (.cons (.str _) (.cons (.int _) .nil))) .nil)), sd, by decide +kernel, ?_⟩
              have fin := q _ (k3.same s36) (tb3.same s36)
              have z1 : markB (.str z :: ps) = (decide (z = "point" ∧ ps.length = 1) || decide (z = "over" ∧ ps.length = 2)) := by
                show (ps.all natV && _) = _
                rw [al, Bool.true_and]
              rw [z1, ← mark_in] at fin
              exact fin
          | _ => exact iteT (q H (Kp.refl H) tb)
    · obtain ⟨t, ty, kt⟩ := notup_ok (K := K) nt
      refine ⟨_, rfl, _, _, _, _, false, rfl, ClsV.ty _, ty, kt, _, rfl, iteT ?_⟩
      exact iteT (q H (Kp.refl H) tb)
def spName (T : Top K mg) : Sp := fun vs H Q _ => ∃ (v : V) (b : Bool), vs = [v] ∧ Tb T.tbs H ∧ AnyV H v ∧ MkV H v b ∧ ∀ H', Kp H H' → Tb T.tbs H' → Q (.bl (wholeB v || b)) H'
theorem ok_name (T : Top K mg) (TB : GxR.TabB base mg T.cM T.PM) : FnOk P w K mg base CX0 4 T.a_isname T.d_isname ["thing"] (spName T) := by
  have G_iswhole : FnOk P w K mg base CX0 1 _ _ _ _ := ok_whole T
  have G_ismark : FnOk P w K mg base CX0 3 _ _ _ _ := ok_mark T TB
  refine T.F_isname.ok sc_isname (fun vs H Q E h => ?_) (fun cdv A outer s H vs Q E hr h => ?_)
  · obtain ⟨v, b, rfl, _⟩ := h
    rfl
  · obtain ⟨v, b, rfl, tb, av, mk, q⟩ := h
    refine ⟨_, (pss_one (ps_ret (pe_or (pe_call G_iswhole (hr.mono (by decide)) (by rfl) T.g_iswhole T.F_iswhole.kp T.b_iswhole .nil pass0 (pa_cons (pv 0) pa_nil)) (pe_one (pe_call G_ismark hr (by rfl) T.g_ismark T.F_ismark.kp T.b_ismark .nil pass0 (pa_cons (pv 0) pa_nil)))))), ?_⟩
    refine ⟨_, rfl, v, rfl, av, _, rfl, ?_⟩
    cases hw : wholeB v with
    | true =>
      refine iteT ?_
      have := q H (Kp.refl H) tb
      rw [hw] at this
      exact this
    | false =>
      refine iteF ?_
      refine ⟨_, rfl, v, b, rfl, tb, mk, fun H1 k1 tb1 => ?_⟩
      have := q H1 k1 tb1
      rw [hw] at this
      exact this
end

/-! ### names asked about: ints, marks, in any mixture -/
theorem Kp.tupk {H H' : Hp} (k : Kp H H') : TupK H H' := fun a xs e => k a _ e (by intro ps z; cases z)
theorem Gn.any {H : Hp} {v : V} : ∀ {x : Nm}, IsN H v x → AnyV H v
  | .i n, h => by
    rw [show v = _ from h]
    exact .int n
  | .m k, ⟨a, e, h⟩ => by
    rw [e]
    exact .tup h
/-- an int, or a mark -/
def MarkQ : Nm → Prop
  | .i _ => True
  | .m k => MarkN (.m k)
theorem MarkN.q : ∀ {x : Nm}, MarkN x → MarkQ x
  | .i _, _ => trivial
  | .m _, h => h
theorem mk_name {H : Hp} {v : V} {x : Nm} (g : MarkQ x) (iv : IsN H v x) : ∃ b, MkV H v b ∧ (wholeB v || b) = true := by
  cases x with
  | i n =>
    rw [show v = _ from iv]
    exact ⟨false, .inr ⟨.int n, rfl⟩, rfl⟩
  | m k =>
    obtain ⟨a, rfl, h⟩ := iv
    rcases g with ⟨p, ⟨p0, p1⟩, rfl⟩ | ⟨p, q, ⟨p0, p1⟩, ⟨q0, q1⟩, rfl⟩
    · refine ⟨true, .inl ⟨a, _, rfl, (by show 2 ≤ 1000; decide), h, fun x m => ?_, fun z r e => ?_, ?_⟩, rfl⟩
      · rcases List.mem_cons.mp m with rfl | m
        · exact .str _
        · rw [List.mem_singleton.mp m]
          exact .int _
      · cases e
        decide +kernel
      · show true = ((decide (0 ≤ p) && true) && (decide _ || decide _))
        rw [decide_eq_true p0, decide_eq_true ⟨rfl, rfl⟩]
        rfl
    · refine ⟨true, .inl ⟨a, _, rfl, (by show 3 ≤ 1000; decide), h, fun x m => ?_, fun z r e => ?_, ?_⟩, rfl⟩
      · rcases List.mem_cons.mp m with rfl | m
        · exact .str _
        · rcases List.mem_cons.mp m with rfl | m
          · exact .int _
          · rw [List.mem_singleton.mp m]
            exact .int _
      · cases e
        decide +kernel
      · show true = ((decide (0 ≤ p) && (decide (0 ≤ q) && true)) && (decide _ || decide _))
        rw [decide_eq_true p0, decide_eq_true q0, Bool.or_comm, decide_eq_true ⟨rfl, rfl⟩]
        rfl
theorem MkV.kpN {H H' : Hp} (k : Kp H H') {v : V} {b : Bool} (h : MkV H v b) : MkV H' v b := by
  rcases h with ⟨a, xs, e, hl, ha, hany, hs, hb⟩ | ⟨nt, hb⟩
  · exact .inl ⟨a, xs, e, hl, k _ _ ha (by intro ps z; cases z), fun x m => (hany x m).kp k, hs, hb⟩
  · exact .inr ⟨nt.kp k, hb⟩
/-- a thing named: a name that may be asked of links of sort s, or no name at all -/
def NmT (H : Hp) (s : Bool) (v : V) : Option Nm → Prop
  | some x => IsN H v x ∧ MarkQ x ∧ (sdN x = s ∨ s = true)
  | none => AnyV H v ∧ MkV H v false ∧ wholeB v = false
theorem NmT.kp {H H' : Hp} {s : Bool} {v : V} (k : Kp H H') : ∀ {o : Option Nm}, NmT H s v o → NmT H' s v o
  | some _, ⟨h, g, c⟩ => ⟨h.up k.tupk, g, c⟩
  | none, ⟨h, g, c⟩ => ⟨h.kp k, MkV.kpN k g, c⟩
/-- an int or a mark, as data -/
theorem MarkQ.gn : ∀ {x : Nm}, MarkQ x → ∃ s, Gn s x
  | .i n, _ => ⟨false, .i n⟩
  | .m k, h => by
    rcases h with ⟨a, _, rfl⟩ | ⟨a, b, _, _, rfl⟩
    · exact ⟨true, .p a⟩
    · exact ⟨true, .o a b⟩
theorem eq_nmG {s s' : Bool} {x y : Nm} (hx : Gn s x) (hy : Gn s' y) : PyData.eqv (encN x) (encN y) = decide (x = y) := by
  by_cases e : x = y
  · subst e
    rw [decide_eq_true rfl]
    exact SeqAt.eqv_refl _ hx.lay
  · rw [decide_eq_false e, Bool.eq_false_iff]
    intro h
    apply e
    cases hx <;> cases hy
    · simp [encN, PyData.eqv] at h
      rw [h]
    · simp [encN, mkP, mkO, keyD, PyData.eqv, PyData.eqvAll] at h
    · simp [encN, mkP, mkO, keyD, PyData.eqv, PyData.eqvAll] at h
    · simp [encN, mkP, mkO, keyD, PyData.eqv, PyData.eqvAll] at h
    · simp [encN, mkP, mkO, keyD, PyData.eqv, PyData.eqvAll] at h
      rw [h]
    · simp [encN, mkP, mkO, keyD, PyData.eqv, PyData.eqvAll] at h
    · simp [encN, mkP, mkO, keyD, PyData.eqv, PyData.eqvAll] at h
    · simp [encN, mkP, mkO, keyD, PyData.eqv, PyData.eqvAll] at h
    · simp [encN, mkP, mkO, keyD, PyData.eqv, PyData.eqvAll] at h
      rw [h.1, h.2]
def QO (x : Option Nm) : Prop := ∀ y, x = some y → MarkQ y
theorem eq_nmQ {x y : Option Nm} (hx : QO x) (hy : QO y) : PyData.eqv (encO x) (encO y) = decide (x = y) := by
  cases x with
  | none =>
    cases y with
    | none => rfl
    | some y =>
      obtain ⟨s, g⟩ := (hy y rfl).gn
      exact g.nn.1
  | some x =>
    obtain ⟨s, gx⟩ := (hx x rfl).gn
    cases y with
    | none => exact gx.nn.2
    | some y =>
      obtain ⟨s', gy⟩ := (hy y rfl).gn
      have := eq_nmG gx gy
      show PyData.eqv (encN x) (encN y) = _
      rw [this]
      by_cases e : x = y
      · rw [decide_eq_true e, decide_eq_true (congrArg some e)]
      · rw [decide_eq_false e, decide_eq_false fun z => e (Option.some.inj z)]
theorem shp_nmQ {x : Option Nm} (h : QO x) : SeqAt.shaped (encO x) = true := by
  cases x with
  | none => rfl
  | some x =>
    obtain ⟨s, g⟩ := (h x rfl).gn
    exact shp_nm g
theorem rEq_nmQ {K : PySem.W.Frag} {H : Hp} {Q : VK} {v w : V} {y z : Option Nm} (iv : IsO H v y) (iw : IsO H w z) (gy : QO y) (gz : QO z) (q : Q (.bl (decide (y = z))) H) : rEqD K v w H Q :=
  ⟨encO y, encO z, iv.dp, iw.dp, shp_nmQ gy, shp_nmQ gz, by
    rw [eq_nmQ gy gz]
    exact q⟩

end My
namespace My
open PySem L2
/-! ### rows of shapes -/
def nmB (v : V) (m : Bool) : Bool := wholeB v || m
def orB (v : V) (m : Bool) : Bool := decide (v = .non) || nmB v m
def shB : List V → List Bool → Bool
  | [n, l, r, a, t], [mn, ml, mr, ma, _] => nmB n mn && (isBoolV t && (orB l ml && (orB r mr && orB a ma)))
  | _, _ => false
theorem shB_len {xs : List V} {ms : List Bool} (h : xs.length ≠ 5) : shB xs ms = false := by
  unfold shB
  split
  · exact absurd rfl h
  · rfl
inductive Mks (H : Hp) : List V → List Bool → Prop
  | nil : Mks H [] []
  | cons {v : V} {m : Bool} {vs : List V} {ms : List Bool} : AnyV H v → MkV H v m → Mks H vs ms → Mks H (v :: vs) (m :: ms)
def ShV (H : Hp) (v : V) (b : Bool) : Prop := (∃ (a : Addr) (xs : List V) (ms : List Bool), v = .ref a ∧ xs.length ≤ 1000 ∧ H a = some (.tup xs) ∧ Mks H xs ms ∧ b = shB xs ms) ∨ (NoTup H v ∧ b = false)
theorem MkV.kp {H H' : Hp} (k : Kp H H') {v : V} {b : Bool} (h : MkV H v b) : MkV H' v b := by
  rcases h with ⟨a, xs, e, hl, ha, hany, hs, hb⟩ | ⟨nt, hb⟩
  · exact .inl ⟨a, xs, e, hl, k _ _ ha (by intro ps z; cases z), fun x m => (hany x m).kp k, hs, hb⟩
  · exact .inr ⟨nt.kp k, hb⟩
section
variable {P : Program} {w : World} {K : PySem.W.Frag} {mg : Str → Option Value} {base : Heap}
def spShRow (T : Top K mg) : Sp := fun vs H Q _ => ∃ (v : V) (b : Bool), vs = [v] ∧ Tb T.tbs H ∧ ShV H v b ∧ ∀ H', Kp H H' → Tb T.tbs H' → Q (.bl b) H'
theorem ok_shrow (T : Top K mg) (TM : GxR.TabB base mg T.cM T.PM) (TB : GxR.TabB base mg T.cS T.PS) : FnOk P w K mg base CX0 6 T.a_isshaperow T.d_isshaperow ["thing"] (spShRow T) := by
  have G_isname : FnOk P w K mg base CX0 4 _ _ _ _ := ok_name T TM
  refine okC T.F_isshaperow T.hcS sc_isshaperow (fun vs H Q E h => ?_) (fun A outer s H vs Q E hr h => ?_)
  · obtain ⟨v, b, rfl, _⟩ := h
    rfl
  · obtain ⟨v, b, rfl, tb, hx, q⟩ := h
    refine ⟨_, (pss_cons (ps_if (PW.pt (pw_or (pt_not (pt_val (pe_callB call_isi (by rfl) T.m_isinstance (by decide +kernel) (pa_cons (pv 0) (pa_cons (pe_bltn (v := .ty "tuple") (by rfl) T.m_tuple (by decide +kernel) rfl) pa_nil))))) (pw_or1 (pt_cmpR op_ne (pe_callB call_len_seq (by rfl) T.m_len PySem.boot_len (pa_cons (pv 0) pa_nil)) pe_int (nomark _))))) (pss_one (ps_ret pe_bl)) pss_nil)
      (pss_cons (ps_asg (pv 0) (pg_tup rfl (pgs_cons (pg_name (i := 1) sc_isshaperow.nd rfl (.inl rfl)) (pgs_cons (pg_name (i := 2) sc_isshaperow.nd rfl (.inl rfl)) (pgs_cons (pg_name (i := 3) sc_isshaperow.nd rfl (.inl rfl)) (pgs_cons (pg_name (i := 4) sc_isshaperow.nd rfl (.inl rfl)) (pgs_cons (pg_name (i := 5) sc_isshaperow.nd rfl (.inl rfl)) pgs_nil)))))))
      (pss_cons (ps_if (PW.pt (pw_or (pt_not (pt_val (pe_call G_isname (hr.mono (by decide)) (by rfl) T.g_isname T.F_isname.kp T.b_isname .nil pass0 (pa_cons (pv 1) pa_nil)))) (pw_or1 (pt_not (pt_val (pe_callB call_isi (by rfl) T.m_isinstance (by decide +kernel) (pa_cons (pv 5) (pa_cons (pe_bltn (v := .ty "bool") (by rfl) T.m_bool (by decide +kernel) rfl) pa_nil)))))))) (pss_one (ps_ret pe_bl)) pss_nil)
      (pss_one (ps_ret (pe_allG (own := [("other", 6)]) hr rfl sc_isshaperow.nd (by rfl) T.m_all (by decide +kernel) TB rfl (blkOk_by (own := [("other", 6)]) (N := ["thing", "name", "left", "right", "above", "turned", "other"]) (sc := defScope s_isshaperow) (by decide +kernel)) (by rfl) (by decide +kernel) (by rfl) (pi_tup (pe_tup (pa_cons (pv 2) (pa_cons (pv 3) (pa_cons (pv 4) pa_nil))))) (fun _ _ _ _ _ _ _ => (pg_name (i := 6) sc_isshaperow.nd rfl (.inl rfl) (hf := Or.inr rfl))) (fun _ _ _ _ _ _ _ hr' => (pe_or (pe_cmpR op_isN (pv 6) pe_non (nomark _)) (pe_one (pe_call G_isname hr' (by rfl) T.g_isname T.F_isname.kp T.b_isname .nil pass0 (pa_cons (pv 6) pa_nil))))))))))), ?_⟩
    rcases hx with ⟨a, xs, ms, rfl, hlen, ha, mk, rfl⟩ | ⟨nt, rfl⟩
    · refine ⟨_, rfl, _, _, _, _, true, rfl, ClsV.ty _, .base (.tup ha), kit_ty (by decide +kernel), _, rfl, iteF ?_⟩
      refine ⟨_, rfl, a, _, rfl, .inr (SqT.of ha), rfl, _, rfl, ite2 (fun e => ?_) (fun e => ?_)⟩
      · have z : xs.length ≠ 5 := fun z => by
          rw [z] at e
          exact nomatch e
        have := q H (Kp.refl H) tb
        rw [shB_len z] at this
        exact this
      · have z : xs.length = 5 := by
          by_cases z : xs.length = 5
          · exact z
          · exfalso
            apply e
            have : decide (V.int (xs.length : Int) = V.int 5) = false := decide_eq_false fun y => z (by have := V.int.inj y; omega)
            show (!decide (V.int (xs.length : Int) = V.int 5)) = true
            rw [this]
            rfl
        cases mk with
        | nil => exact nomatch z
        | @cons n mn xs ms an kn mk =>
        cases mk with
        | nil => exact nomatch z
        | @cons l ml xs ms al kl mk =>
        cases mk with
        | nil => exact nomatch z
        | @cons r mr xs ms ar kr mk =>
        cases mk with
        | nil => exact nomatch z
        | @cons u mu xs ms au ku mk =>
        cases mk with
        | nil => exact nomatch z
        | @cons t mt xs ms at_ kt mk =>
        cases mk with
        | cons _ _ _ => exact absurd z (by simp [List.length_cons])
        | nil =>
          refine ⟨_, rfl, a, _, rfl, SqT.of ha, rfl, _, _, rfl, _, _, rfl, _, _, rfl, _, _, rfl, _, _, rfl, rfl, ?_⟩
          have qn : ∀ {H' : Hp}, Kp H H' → Tb T.tbs H' → shB [n, l, r, u, t] [mn, ml, mr, mu, mt] = false → Q (.bl false) H' := fun {H'} k tb' e => by
            have := q H' k tb'
            rw [e] at this
            exact this
          refine ⟨_, rfl, n, mn, rfl, tb, an, kn, fun H1 k1 tb1 => ?_⟩
          have en : shB [n, l, r, u, t] [mn, ml, mr, mu, mt] = ((wholeB n || mn) && (isBoolV t && (orB l ml && (orB r mr && orB u mu)))) := rfl
          generalize (wholeB n || mn) = bn at en ⊢
          cases bn with
          | false => exact ⟨_, rfl, iteT (iteT (qn k1 tb1 (by rw [en]; rfl)))⟩
          | true =>
            refine ⟨_, rfl, iteF ?_⟩
            obtain ⟨tt, ty, kt'⟩ := bool_ok (K := K) (at_.kp k1)
            refine ⟨_, rfl, _, _, _, _, _, rfl, ClsV.ty _, ty, kt', ?_⟩
            generalize isBoolV t = bt at en ⊢
            cases bt with
            | false => exact ⟨_, rfl, iteT (qn k1 tb1 (by rw [en]; rfl))⟩
            | true =>
              refine ⟨_, rfl, iteF ?_⟩
              refine ⟨_, rfl, _, rfl, _, rfl, (by show 3 ≤ sizeLine; decide), fun p np => ?_⟩
              have sp := same_new (o := .tup [l, r, u]) np
              have hp : upd H1 p (.tup [l, r, u]) p = some (.tup [l, r, u]) := upd_same
              generalize upd H1 p (.tup [l, r, u]) = H2 at sp hp ⊢
              have tb2 := tb1.same sp
              refine ⟨p, rfl, ⟨_, SqT.of hp⟩, tb2.g T.mS, fun H3 tab => ?_⟩
              have k23 := Kp.of_tabd (tb2.g T.mS) tab
              have tb3 := tb2.tab T.nd T.mS (But.of_tab tab) tab.1
              have k3 : Kp H H3 := (k1.same sp).trans k23
              refine gturns_it (walk_tup (xs := [l, r, u])) (fun i H4 => Kp H H4 ∧ H4 p = some (.tup [l, r, u]) ∧ Tb T.tbs H4 ∧ ([(l, ml), (r, mr), (u, mu)].take i).all (fun o => orB o.1 o.2) = true) ⟨k3, k23.tup hp, tb3, rfl⟩ (fun i H4 _ z => SqT.of z.2.1) ?_ (fun H4 z => ?_)
              · rintro i x H4 H5 N hi ⟨k4, hp4, tb4, al4⟩ ⟨rfl, hx⟩ nx
                have om : ∃ m, [(l, ml), (r, mr), (u, mu)][i]? = some (x, m) ∧ AnyV H x ∧ MkV H x m := by
                  match i, hx with
                  | 0, hx => cases Option.some.inj hx; exact ⟨ml, rfl, al, kl⟩
                  | 1, hx => cases Option.some.inj hx; exact ⟨mr, rfl, ar, kr⟩
                  | 2, hx => cases Option.some.inj hx; exact ⟨mu, rfl, au, ku⟩
                  | i + 3, hx => exact absurd hi (by show ¬ i + 3 < 3; omega)
                obtain ⟨m, hm, ax, mx⟩ := om
                have yes : orB x m = true → ∀ H6, Kp H5 H6 → Tb T.tbs H6 → N H6 := fun e H6 k6 tb6 => nx H6 ⟨k4.trans k6, k6.tup hp4, tb6, by rw [List.take_succ, hm, List.all_append, al4]; show (true && (orB x m && true)) = true; rw [e]; rfl⟩
                have no : orB x m = false → shB [n, l, r, u, t] [mn, ml, mr, mu, mt] = false := fun e => by
                  rw [en]
                  have ef : [(l, ml), (r, mr), (u, mu)].all (fun o => orB o.1 o.2) = false := by
                    rw [List.all_eq_false]
                    exact ⟨(x, m), List.mem_of_getElem? hm, by show ¬ orB x m = true; rw [e]; exact Bool.false_ne_true⟩
                  have ef : (orB l ml && (orB r mr && (orB u mu && true))) = false := ef
                  rw [Bool.and_true] at ef
                  rw [ef]
                  rfl
                refine ⟨rfl, _, rfl, rfl, _, rfl, ite2 (fun e => ?_) (fun e => ?_)⟩
                · refine ⟨true, rfl, iteT (yes ?_ _ (Kp.refl _) tb4)⟩
                  unfold orB
                  rw [e]
                  rfl
                · refine ⟨_, rfl, x, m, rfl, tb4, ax.kp k4, mx.kp k4, fun H6 k6 tb6 => ?_⟩
                  have eo : orB x m = (wholeB x || m) := by
                    unfold orB
                    rw [Bool.eq_false_iff.mpr e]
                    rfl
                  generalize (wholeB x || m) = bx at eo ⊢
                  cases bx with
                  | true => exact ⟨true, rfl, iteT (yes eo _ k6 tb6)⟩
                  | false => exact ⟨false, rfl, iteF (qn (k4.trans k6) tb6 (no eo))⟩
              · obtain ⟨k4, hp4, tb4, al4⟩ := z
                have := q H4 k4 tb4
                have ef : (orB l ml && (orB r mr && (orB u mu && true))) = true := al4
                rw [Bool.and_true] at ef
                rw [en, ef] at this
                exact this
    · obtain ⟨t, ty, kt⟩ := notup_ok (K := K) nt
      refine ⟨_, rfl, _, _, _, _, false, rfl, ClsV.ty _, ty, kt, _, rfl, iteT ?_⟩
      exact iteT (q H (Kp.refl H) tb)
end

end My
namespace My
open PySem L2
/-! ### rings above -/
/-- a walk up that comes to its end -/
inductive EndsA (A : Nm → Option Nm) : Nm → Prop
  | nil {x : Nm} (e : A x = none) : EndsA A x
  | cons {x u : Nm} (e : A x = some u) (h : EndsA A u) : EndsA A x
/-- x stands above y -/
inductive UpA (A : Nm → Option Nm) : Nm → Nm → Prop
  | one {y x : Nm} (e : A y = some x) : UpA A y x
  | more {y x u : Nm} (h : UpA A y x) (e : A x = some u) : UpA A y u
def EndsO (A : Nm → Option Nm) : Option Nm → Prop
  | none => True
  | some x => EndsA A x
theorem UpA.split {A : Nm → Option Nm} {y x u : Nm} (h : UpA A y x) (e : A y = some u) : x = u ∨ UpA A u x := by
  induction h with
  | one e2 =>
    rw [e] at e2
    exact .inl (Option.some.inj e2).symm
  | more h e2 ih =>
    rcases ih with ih | ih
    · rw [ih] at e2
      exact .inr (.one e2)
    · exact .inr (.more ih e2)
theorem ends_ring {A : Nm → Option Nm} {x : Nm} (h : EndsA A x) : ¬ UpA A x x := by
  induction h with
  | nil e =>
    intro u
    have : ∀ {y z}, UpA A y z → A y ≠ none := fun {y z} u => by
      induction u with
      | one e2 => rw [e2]; exact fun z => nomatch z
      | more _ _ ih => exact ih
    exact this u e
  | @cons x u e h ih =>
    intro r
    rcases r.split e with z | z
    · rw [← z] at ih
      exact ih r
    · exact ih (.more z e)
theorem EndsA.of_rank {A : Nm → Option Nm} {ns : List Nm} (cl : ∀ x ∈ ns, ∀ u, A x = some u → u ∈ ns) {d : Nm → Int} (rk : ∀ x ∈ ns, ∀ u, A x = some u → d u < d x) (lo : ∃ m : Int, ∀ x ∈ ns, m ≤ d x) : ∀ x ∈ ns, EndsA A x := by
  obtain ⟨m, hm⟩ := lo
  have go : ∀ (k : Nat) (x : Nm), x ∈ ns → d x < m + k → EndsA A x := by
    intro k
    induction k with
    | zero =>
      intro x mx h
      have := hm x mx
      omega
    | succ k ih =>
      intro x mx h
      cases e : A x with
      | none => exact .nil e
      | some u =>
        have := rk x mx u e
        exact .cons e (ih u (cl x mx u e) (by omega))
  intro x mx
  have := hm x mx
  exact go (d x - m + 1).toNat x mx (by omega)
theorem low_rank (d : Nm → Int) : ∀ ns : List Nm, ∃ m : Int, ∀ x ∈ ns, m ≤ d x
  | [] => ⟨0, fun x m => nomatch m⟩
  | y :: ns => by
    obtain ⟨m, h⟩ := low_rank d ns
    refine ⟨min m (d y), fun x mx => ?_⟩
    rcases List.mem_cons.mp mx with rfl | mx
    · omega
    · have := h x mx
      omega
section
variable {P : Program} {w : World} {K : PySem.W.Frag} {mg : Str → Option Value} {base : Heap}
def spRing : Sp := fun vs H Q _ => ∃ (d : Addr) (s : Bool) (ns : List Nm) (A : Nm → Option Nm) (g : Nm → V), vs = [.ref d] ∧ H d = some (dO s ns g) ∧ (∀ x ∈ ns, IsO H (g x) (A x)) ∧ AllG s ns ∧ ns.Nodup ∧ ns.length ≤ 1000 ∧ (∀ x ∈ ns, ∀ u, A x = some u → u ∈ ns) ∧
  ∀ (b : Bool) (H' : Hp), Same H H' → (b = false → ∀ x ∈ ns, EndsA A x) → (b = true → ∃ x ∈ ns, ¬ EndsA A x) → Q (.bl b) H'
theorem ok_ringN (T : Top K mg) : FnOk P w K mg base CX0 1 T.a_hasringabove T.d_hasringabove ["above"] spRing := by
  refine T.F_hasringabove.ok sc_hasringabove (fun vs H Q E h => ?_) (fun cdv A outer s H vs Q E hr h => ?_)
  · obtain ⟨d, s, ns, A, g, rfl, _⟩ := h
    rfl
  · obtain ⟨d, sn, ms, A, g, rfl, hd, hg, al, nd, lm, cl, q⟩ := h
    refine ⟨_, (pss_cons (ps_set (i := 1) sc_hasringabove.nd rfl (.inl rfl) (pe_or2 pe_dnewK pe_dnewT))
      (pss_cons (ps_lock (ps_for PassesOwn.never rfl (pi_keys (pv 0)) (pg_name (i := 2) sc_hasringabove.nd rfl (.inl rfl)) (pss_cons (ps_set (i := 3) sc_hasringabove.nd rfl (.inl rfl) (pv 2))
      (pss_cons (ps_while PassesOwn.never (PW.pt (pw_and (pt_cmpR op_notN (pv 3) pe_non (nomark _)) (pw_and1 (pt_cmp (pc_dnotin (u1 hr) (pv 3) (pv 1)))))) (pss_cons (ps_dput (u1 hr) (pv 1) (pv 3) (pv 2) rfl)
      (pss_one (ps_set (i := 3) sc_hasringabove.nd rfl (.inl rfl) (pe_dget (u1 hr) (pv 0) (pv 3) (fun _ _ => rfl))))))
      (pss_one (ps_if (PW.pt (pw_and (pt_cmpR op_notN (pv 3) pe_non (nomark _)) (pw_and1 (pt_cmpR (op_eqD hr.units) (pe_dget (u1 hr) (pv 1) (pv 3) (fun _ _ => rfl)) (pv 2) (nomark _))))) (pss_one (ps_ret pe_bl)) pss_nil))))))
      (pss_one (ps_ret pe_bl)))), ?_⟩
    refine dnew_nm (s := sn) (f := fun _ => V.non) fun F nF => ?_
    have Fd : F ≠ d := fun e => by rw [e, hd] at nF; exact nomatch nF
    have tkF : TupK H (upd H F (dO sn [] fun _ => V.non)) := Same.tupk (same_new nF)
    refine ⟨d, dO sn ms g, (by rw [upd_ne Fd.symm]; exact hd), dO_mut, fun od => ?_⟩
    have fA : upd (upd H F (dO sn [] fun _ => V.non)) d (.frz od (dO sn ms g)) d = some (.frz od (dO sn ms g)) := upd_same
    have hF0 : upd (upd H F (dO sn [] fun _ => V.non)) d (.frz od (dO sn ms g)) F = some (dO sn [] fun _ => V.non) := by rw [upd_ne Fd, upd_same]
    have sO : ∀ c o, c ≠ d → H c = some o → upd (upd H F (dO sn [] fun _ => V.non)) d (.frz od (dO sn ms g)) c = some o := fun c o n e => by
      rw [upd_ne n, upd_ne (ne_of_none e nF)]
      exact e
    generalize upd (upd H F (dO sn [] fun _ => V.non)) d (.frz od (dO sn ms g)) = H2 at fA hF0 sO ⊢
    have tkO : ∀ {G : Hp}, (∀ c o, c ≠ d → H c = some o → G c = some o) → TupK H G := fun {G} h a xs e => h a _ (fun z => by rw [z, hd] at e; exact dO_ntup _ (Option.some.inj e)) e
    have al' := al.s
    refine ⟨_, rfl, forN_it al' fA (fun i σ G => ∃ (ks : List Nm) (f : Nm → V) (sb : Nm → Nm) (y2 y3 : Option V), σ = [some (.ref d), some (.ref F), y2, y3] ∧ (∀ c o, c ≠ d → H c = some o → G c = some o) ∧ G d = some (.frz od (dO sn ms g)) ∧ G F = some (dO sn ks f) ∧ ks.Nodup ∧ (∀ y ∈ ms.take i, y ∈ ks) ∧ ∀ y ∈ ks, y ∈ ms ∧ sb y ∈ ms.take i ∧ IsN G (f y) (sb y) ∧ EndsA A y) ⟨[], fun _ => .non, fun x => x, none, none, rfl, sO, fA, hF0, List.nodup_nil, (fun y m => nomatch m), fun y m => nomatch m⟩ (fun i σ G _ h => ?_) ?_ ?_⟩
    · obtain ⟨_, _, _, _, _, _, _, h, _⟩ := h
      exact h
    · rintro i v st σ G hi hst ⟨ks, f, sb, y2, y3, rfl, s1, hA, hF, nk, tk0, mk⟩ ist
      have mst := List.mem_of_getElem? hst
      have nst := notin_takeN nd hst
      have gst := al.gn mst
      refine ⟨_, rfl, fun j σ G => ∃ (vs : List Nm) (x : Option Nm) (vx : V) (f' : Nm → V) (sb' : Nm → Nm), σ = [some (.ref d), some (.ref F), some v, some vx] ∧ j + (ks ++ vs).length = ms.length + 1 ∧ IsO G vx x ∧ IsN G v st ∧ (∀ c o, c ≠ d → H c = some o → G c = some o) ∧ G d = some (.frz od (dO sn ms g)) ∧ G F = some (dO sn (ks ++ vs) f') ∧ (ks ++ vs).Nodup ∧ (∀ z, x = some z → z ∈ ms) ∧ (∀ y ∈ ks, sb' y = sb y) ∧ (∀ y ∈ ks, IsN G (f' y) (sb y)) ∧ (∀ y ∈ vs, y ∈ ms ∧ sb' y = st ∧ IsN G (f' y) st ∧ (∀ z, x = some z → UpA A y z) ∧ (EndsO A x → EndsA A y)) ∧ (x = some st ∨ st ∈ ks ++ vs), ⟨ms.length + 1 - ks.length, [], some st, v, f, sb, rfl, ?_, ist, ist, s1, hA, by rw [List.append_nil]; exact hF, by rw [List.append_nil]; exact nk, (fun z e => by cases e; exact mst), (fun _ _ => rfl), (fun y m => (mk y m).2.2.1), (fun y m => nomatch m), .inl rfl⟩, ?_⟩
      · rw [List.append_nil]
        have : ks.length ≤ ms.length := nk.length_le_of_subset fun y m => (mk y m).1
        omega
      rintro j σ G ⟨vs, x, vx, f', sb', rfl, ej, ivx, iv, s2, hA2, hF2, nkv, mz, e1, e2, e3, e4⟩
      have subk : ∀ y ∈ ks ++ vs, y ∈ ms := fun y my => by
        rcases List.mem_append.mp my with my | my
        · exact (mk y my).1
        · exact (e3 y my).1
      have len1 : (ks ++ vs).length ≤ ms.length := nkv.length_le_of_subset subk
      have alk : AllG sn (ks ++ vs) := al.sub subk
      have next : EndsO A x → (st ∈ ks ++ vs) → ∀ y2 y3 : Option V, ∃ (ks' : List Nm) (f : Nm → V) (sb : Nm → Nm) (y2' y3' : Option V), [some (V.ref d), some (.ref F), y2, y3] = [some (V.ref d), some (.ref F), y2', y3'] ∧ (∀ c o, c ≠ d → H c = some o → G c = some o) ∧ G d = some (.frz od (dO sn ms g)) ∧ G F = some (dO sn ks' f) ∧ ks'.Nodup ∧ (∀ y ∈ ms.take (i + 1), y ∈ ks') ∧ ∀ y ∈ ks', y ∈ ms ∧ sb y ∈ ms.take (i + 1) ∧ IsN G (f y) (sb y) ∧ EndsA A y := fun en ms' y2 y3 => by
        refine ⟨ks ++ vs, f', sb', y2, y3, rfl, s2, hA2, hF2, nkv, fun y my => ?_, fun y my => ?_⟩
        · rw [tk_insN hst] at my
          rcases List.mem_append.mp my with my | my
          · exact List.mem_append_left _ (tk0 y my)
          · rw [List.mem_singleton.mp my]
            exact ms'
        · rw [tk_insN hst]
          rcases List.mem_append.mp my with my | my
          · obtain ⟨m1, m2, m3, m4⟩ := mk y my
            refine ⟨m1, List.mem_append_left _ (by rw [e1 y my]; exact m2), by rw [e1 y my]; exact e2 y my, m4⟩
          · obtain ⟨m1, m2, m3, m4, m5⟩ := e3 y my
            exact ⟨m1, List.mem_append_right _ (by rw [m2]; exact List.mem_cons_self), by rw [m2]; exact m3, m5 en⟩
      refine ⟨_, rfl, rfl, _, rfl, ?_⟩
      rw [ivx.non]
      cases x with
      | none =>
        have ms' : st ∈ ks ++ vs := e4.resolve_left fun z => nomatch z
        refine ifF rfl (iteF ?_)
        refine ⟨_, rfl, rfl, _, rfl, ?_⟩
        rw [ivx.non]
        exact ifF rfl (iteF (next trivial ms' _ _))
      | some x =>
        have ix : IsN G vx x := ivx
        have mx := mz x rfl
        have gx := al.gn mx
        refine ifT rfl ?_
        by_cases c : x ∈ ks ++ vs
        · have gF := dO_in alk.s c (.inl hF2) ix
          refine ⟨_, rfl, _, rfl, F, _, rfl, gF, _, rfl, ifF rfl ?_⟩
          refine ⟨_, rfl, rfl, _, rfl, ?_⟩
          rw [ivx.non]
          refine ifT rfl ⟨_, rfl, _, rfl, F, _, rfl, gF, _, rfl, ?_⟩
          rcases List.mem_append.mp c with ck | cv
          · refine rEq_nm (y := some (sb x)) (x := st) (e2 x ck) iv (fun z e => by cases e; exact al.gn ((mk x ck).2.1 |> fun m => List.mem_of_mem_take m)) gst ⟨_, rfl, ?_⟩
            have ne : sb x ≠ st := fun z => nst (z ▸ (mk x ck).2.1)
            rw [decide_eq_false fun z => ne (Option.some.inj z)]
            refine ifF rfl (next (mk x ck).2.2.2 ?_ _ _)
            rcases e4 with e4 | e4
            · rw [← Option.some.inj e4]
              exact c
            · exact e4
          · obtain ⟨m1, m2, m3, m4, m5⟩ := e3 x cv
            refine rEq_nm (y := some st) (x := st) m3 iv (fun z e => by cases e; exact gst) gst ⟨_, rfl, ?_⟩
            rw [decide_eq_true rfl]
            refine ifT rfl ⟨hA2, ?_⟩
            refine q true _ (fun c o e => ?_) (fun z => nomatch z) fun _ => ⟨x, mx, fun z => ends_ring z (m4 x rfl)⟩
            by_cases n : c = d
            · rw [n, hd] at e
              rw [n, upd_same]
              exact e
            · rw [upd_ne n]
              exact s2 c o n e
        · have gF := dO_get alk.s (al.s x mx) (.inl hF2) ix
          rw [if_neg c] at gF
          refine ⟨_, rfl, _, rfl, F, _, rfl, gF, _, rfl, ifT rfl ?_⟩
          have lt : (ks ++ vs).length < ms.length := by
            have n2 : ((ks ++ vs) ++ [x]).Nodup := List.nodup_append.mpr ⟨nkv, List.nodup_cons.mpr ⟨List.not_mem_nil, List.nodup_nil⟩, fun a ma b mb e => c (by rw [← List.mem_singleton.mp mb, ← e]; exact ma)⟩
            have := n2.length_le_of_subset (l₂ := ms) fun y my => by
              rcases List.mem_append.mp my with my | my
              · exact subk y my
              · rw [List.mem_singleton.mp my]
                exact mx
            rw [List.length_append] at this
            exact this
          refine ⟨fun σ' G' => ∃ (j' : Nat), j' < j ∧ ∃ (vs : List Nm) (x : Option Nm) (vx : V) (f' : Nm → V) (sb' : Nm → Nm), σ' = [some (.ref d), some (.ref F), some v, some vx] ∧ j' + (ks ++ vs).length = ms.length + 1 ∧ IsO G' vx x ∧ IsN G' v st ∧ (∀ c o, c ≠ d → H c = some o → G' c = some o) ∧ G' d = some (.frz od (dO sn ms g)) ∧ G' F = some (dO sn (ks ++ vs) f') ∧ (ks ++ vs).Nodup ∧ (∀ z, x = some z → z ∈ ms) ∧ (∀ y ∈ ks, sb' y = sb y) ∧ (∀ y ∈ ks, IsN G' (f' y) (sb y)) ∧ (∀ y ∈ vs, y ∈ ms ∧ sb' y = st ∧ IsN G' (f' y) st ∧ (∀ z, x = some z → UpA A y z) ∧ (EndsO A x → EndsA A y)) ∧ (x = some st ∨ st ∈ ks ++ vs), fun σ' G' h => h, ?_⟩
          have pF := dO_new (u := v) alk.s (al.s x mx) c hF2 ix (szl (by omega))
          have tk : TupK G (upd G F (dO sn (ks ++ vs ++ [x]) (up1 f' x v))) := TupK.refl.put hF2 dO_ntup
          have hA3 : upd G F (dO sn (ks ++ vs ++ [x]) (up1 f' x v)) d = some (.frz od (dO sn ms g)) := by rw [upd_ne Fd.symm]; exact hA2
          have s3 : ∀ c o, c ≠ d → H c = some o → upd G F (dO sn (ks ++ vs ++ [x]) (up1 f' x v)) c = some o := fun c o n e => by
            rw [upd_ne (ne_of_none e nF)]
            exact s2 c o n e
          refine ⟨_, rfl, _, rfl, _, rfl, F, _, rfl, pF, ?_⟩
          have gA := dO_in al' mx (.inr ⟨_, hA3⟩) (ix.up tk)
          refine ⟨_, rfl, _, rfl, d, _, rfl, gA, ?_⟩
          refine ⟨j - 1, by omega, vs ++ [x], A x, g x, up1 f' x v, up1 sb' x st, rfl, ?_, (hg x mx).up (tkO s3), iv.up tk, s3, hA3, by rw [upd_same, List.append_assoc], ?_, cl x mx, fun y my => ?_, fun y my => ?_, fun y my => ?_, .inr ?_⟩
          · rw [← List.append_assoc, List.length_append]
            show j - 1 + ((ks ++ vs).length + 1) = ms.length + 1
            omega
          · rw [← List.append_assoc]
            exact List.nodup_append.mpr ⟨nkv, List.nodup_cons.mpr ⟨List.not_mem_nil, List.nodup_nil⟩, fun a ma b mb e => c (by rw [← List.mem_singleton.mp mb, ← e]; exact ma)⟩
          · rw [up1_ne fun (e : y = x) => c (e ▸ List.mem_append_left _ my)]
            exact e1 y my
          · rw [up1_ne fun (e : y = x) => c (e ▸ List.mem_append_left _ my)]
            exact (e2 y my).up tk
          · rcases List.mem_append.mp my with my | my
            · have ne : y ≠ x := fun e => c (e ▸ List.mem_append_right _ my)
              obtain ⟨m1, m2, m3, m4, m5⟩ := e3 y my
              rw [up1_ne ne, up1_ne ne]
              refine ⟨m1, m2, m3.up tk, fun z ez => .more (m4 x rfl) ez, fun en => m5 ?_⟩
              show EndsA A x
              cases e : A x with
              | none => exact .nil e
              | some u =>
                rw [e] at en
                exact .cons e en
            · rw [List.mem_singleton.mp my, up1_same, up1_same]
              refine ⟨mx, rfl, iv.up tk, fun z ez => .one ez, fun en => ?_⟩
              cases e : A x with
              | none => exact .nil e
              | some u =>
                rw [e] at en
                exact .cons e en
          · rw [← List.append_assoc]
            rcases e4 with e4 | e4
            · rw [Option.some.inj e4]
              exact List.mem_append_right _ List.mem_cons_self
            · exact List.mem_append_left _ e4
    · rintro σ G ⟨ks, f, sb, y2, y3, rfl, s1, hA, hF, nk, tk0, mk⟩
      rw [List.take_length] at tk0
      refine ⟨hA, q false _ (fun c o e => ?_) (fun _ x mx => (mk x (tk0 x mx)).2.2.2) fun z => nomatch z⟩
      by_cases n : c = d
      · rw [n, hd] at e
        rw [n, upd_same]
        exact e
      · rw [upd_ne n]
        exact s1 c o n e
end

end My
namespace My
open PySem L2
/-! ### rows linked -/
theorem cutR {B R G : Prop} (f : (B → R) → G) (r : B → R) : G := f r
/-- a name that rows of sort s may have beside their own -/
def OkF (s : Bool) (o : Option Nm) : Prop := ∀ y, o = some y → MarkQ y ∧ (sdN y = s ∨ s = true)
theorem OkF.q {s : Bool} {o : Option Nm} (h : OkF s o) : QO o := fun y e => (h y e).1
def RowsQ (s : Bool) (rs : List NRow) : Prop := ∀ r ∈ rs, (sdN r.x = s ∧ MarkN r.x) ∧ OkF s r.l ∧ OkF s r.r ∧ OkF s r.a
def aboveF (rs : List NRow) (x : Nm) : Option Nm := match rs.find? (fun r => decide (r.x = x)) with | some r => r.a | none => none
theorem above_at : ∀ {rs : List NRow}, (rs.map (·.x)).Nodup → ∀ r ∈ rs, aboveF rs r.x = r.a
  | q :: rs, nd, r, m => by
    obtain ⟨n1, n2⟩ := List.nodup_cons.mp nd
    unfold aboveF
    by_cases e : q.x = r.x
    · rw [List.find?_cons_of_pos (by simpa using e)]
      rcases List.mem_cons.mp m with rfl | m
      · rfl
      · have n1 : q.x ∉ rs.map (·.x) := n1
        rw [e] at n1
        exact absurd (List.mem_map.mpr ⟨r, m, rfl⟩) n1
    · rw [List.find?_cons_of_neg (by simpa using e)]
      rcases List.mem_cons.mp m with rfl | m
      · exact absurd rfl e
      · exact above_at n2 r m
/-- what each row has to keep -/
def LinkR (rs : List NRow) (r : NRow) : Prop := (r.l ≠ none → r.l ≠ r.r) ∧ (∀ u, r.a = some u → u ∈ rs.map (·.x)) ∧ (∀ c, r.l = some c → c ∈ rs.map (·.x) ∧ aboveF rs c = some r.x) ∧ ∀ c, r.r = some c → c ∈ rs.map (·.x) ∧ aboveF rs c = some r.x
def LinkOk (rs : List NRow) : Prop := (∀ r ∈ rs, LinkR rs r) ∧ ∀ r ∈ rs, EndsA (aboveF rs) r.x
/-- a name that is not there: of this sort, or an int asked of marks -/
theorem absent_nm {s : Bool} {d : Addr} {ns : List Nm} {f : Nm → V} {H : Hp} {v : V} {x : Nm} (al : AllG s ns) (hd : Rd H d (dO s ns f)) (iv : IsN H v x) (sx : sdN x = s ∨ s = true) (n : x ∉ ns) :
    DGet H d v none ∨ ∃ i kvs, v = .int i ∧ Rd H d (.dT kvs) ∧ ∀ kv ∈ kvs, PyData.canLayAll0 (kv.1.map keyD) = true := by
  obtain ⟨a, e, h⟩ := in_nm (Q := fun v _ => v = .bl (decide (x ∈ ns))) al hd iv sx rfl
  cases e
  rcases h with ⟨o, g, e⟩ | ⟨i, kvs, h1, h2, h3, _⟩
  · rw [decide_eq_false n] at e
    injection e with e
    cases o with
    | none => exact .inl g
    | some _ => exact nomatch e
  · exact .inr ⟨i, kvs, h1, h2, h3⟩
section
variable {P : Program} {w : World} {K : PySem.W.Frag} {mg : Str → Option Value} {base : Heap}
def spBelow : Sp := fun vs H Q _ => ∃ (d : Addr) (s : Bool) (ns : List Nm) (A : Nm → Option Nm) (g : Nm → V) (c n : Nm) (vc vn : V), vs = [.ref d, vc, vn] ∧ H d = some (dO s ns g) ∧ (∀ x ∈ ns, IsO H (g x) (A x) ∧ QO (A x)) ∧ AllG s ns ∧ IsN H vc c ∧ (sdN c = s ∨ s = true) ∧ IsN H vn n ∧ MarkQ n ∧ Q (.bl (decide (c ∈ ns ∧ A c = some n))) H
theorem ok_below (T : Top K mg) : FnOk P w K mg base CX0 1 T.a_isbelow T.d_isbelow ["above", "child", "name"] spBelow := by
  refine T.F_isbelow.ok sc_isbelow (fun vs H Q E h => ?_) (fun cdv A outer s H vs Q E hr h => ?_)
  · obtain ⟨d, s, ns, A, g, c, n, vc, vn, rfl, _⟩ := h
    rfl
  · obtain ⟨d, sn, ns, A, g, c, n, vc, vn, rfl, hd, hg, al, ic, sc, inn, gn, q⟩ := h
    refine ⟨_, (pss_one (ps_ret (pe_and (pe_cmp (pc_dinN (u1 hr) (pv 1) (pv 0))) (pe_one (pe_cmpR (op_eqD hr.units) (pe_dget (u1 hr) (pv 0) (pv 1) (fun _ _ => rfl)) (pv 2) (nomark _)))))), ?_⟩
    by_cases m : c ∈ ns
    · have gt := dO_in al.s m (.inl hd) ic
      refine ⟨_, rfl, _, rfl, d, rfl, .inl ⟨_, gt, _, rfl, iteT ⟨_, rfl, _, rfl, d, _, rfl, gt, _, rfl, rEq_nmQ (y := A c) (z := some n) (hg c m).1 inn (hg c m).2 (fun z e => by cases e; exact gn) ?_⟩⟩⟩
      by_cases e : A c = some n
      · rw [decide_eq_true e]
        rw [decide_eq_true ⟨m, e⟩] at q
        exact q
      · rw [decide_eq_false e]
        rw [decide_eq_false fun z => e z.2] at q
        exact q
    · rw [decide_eq_false fun z => m z.1] at q
      refine ⟨_, rfl, _, rfl, d, rfl, ?_⟩
      rcases absent_nm al (.inl hd) ic sc m with g | ⟨i, kvs, h1, h2, h3⟩
      · exact .inl ⟨_, g, _, rfl, iteF q⟩
      · exact .inr ⟨i, kvs, h1, h2, h3, _, rfl, iteF q⟩
def spLink (T : Top K mg) : Sp := fun vs H Q _ => ∃ (t : Addr) (xs : List V) (s : Bool) (rs : List NRow), vs = [.ref t] ∧ Tb T.tbs H ∧ H t = some (.tup xs) ∧ NRs H xs rs ∧ (rs.map (·.x)).Nodup ∧ RowsQ s rs ∧ rs.length ≤ 1000 ∧
  ∀ (b : Bool) (H' : Hp), Kp H H' → Tb T.tbs H' → (b = true → LinkOk rs) → (b = false → ¬ LinkOk rs) → Q (.bl b) H'
theorem ok_linkN (T : Top K mg) (TB : GxR.TabB base mg T.cK T.PK) : FnOk P w K mg base CX0 3 T.a_arelinked T.d_arelinked ["rows"] (spLink T) := by
  have G_isbelow : FnOk P w K mg base CX0 1 _ _ _ _ := ok_below T
  have G_hasringabove : FnOk P w K mg base CX0 1 _ _ _ _ := ok_ringN T
  refine okC T.F_arelinked T.hcK sc_arelinked (fun vs H Q E h => ?_) (fun A outer s H vs Q E hr h => ?_)
  · obtain ⟨t, xs, s, rs, rfl, _⟩ := h
    rfl
  · obtain ⟨t, xs, sn, rs, rfl, tb, ht, ta, nd, rq, lm, q⟩ := h
    have lx := ta.length
    have alx : AllG sn (rs.map (·.x)) := fun x m => by
      obtain ⟨r, mr, rfl⟩ := List.mem_map.mp m
      exact (rq r mr).1
    have nx0 : ∀ {i : Nat} {r : NRow}, rs[i]? = some r → r.x ∉ (rs.map (·.x)).take i := fun {i r} h => notin_takeN nd (by rw [List.getElem?_map, h]; rfl)
    have tkm : ∀ {i : Nat} {r : NRow}, rs[i]? = some r → (rs.map (·.x)).take (i + 1) = (rs.map (·.x)).take i ++ [r.x] := fun {i r} h => tk_insN (by rw [List.getElem?_map, h]; rfl)
    refine ⟨_, (pss_cons (ps_set (i := 1) sc_arelinked.nd rfl (.inr rfl) (pe_dcN rfl (u0 hr) sc_arelinked.nd (pi_tup (pv 0)) (blkOk_by (own := [("row", 2)]) (N := ["rows", "above", "row", "name", "left", "right", "over", "turned", "child"]) (sc := defScope s_arelinked) (by decide +kernel)) (fun _ _ _ _ _ => (pg_name (i := 2) sc_arelinked.nd rfl (.inl rfl))) (fun _ _ _ _ _ => pts_nil) (fun _ _ _ _ _ => (pe_ix (ix_tupK (K := K) rfl) (pv 2) pe_int (fun _ _ => rfl))) (fun _ _ _ _ _ => (pe_ix (ix_tupK (K := K) rfl) (pv 2) pe_int (fun _ _ => rfl)))))
      (pss_cons (ps_for PassesOwn.never rfl (pi_tup (pv 0)) (pg_tup rfl (pgs_cons (pg_name (i := 3) sc_arelinked.nd rfl (.inr rfl)) (pgs_cons (pg_name (i := 4) sc_arelinked.nd rfl (.inl rfl)) (pgs_cons (pg_name (i := 5) sc_arelinked.nd rfl (.inl rfl)) (pgs_cons (pg_name (i := 6) sc_arelinked.nd rfl (.inl rfl)) (pgs_cons (pg_name (i := 7) sc_arelinked.nd rfl (.inl rfl)) pgs_nil)))))) (pss_cons (ps_if (PW.pt (pw_and (pt_cmpR op_notN (pv 4) pe_non (nomark _)) (pw_and1 (pt_cmpR (op_eqD hr.units) (pv 4) (pv 5) (nomark _))))) (pss_one (ps_ret pe_bl)) pss_nil)
      (pss_cons (ps_if (PW.pt (pw_and (pt_cmpR op_notN (pv 6) pe_non (nomark _)) (pw_and1 (pt_cmp (pc_dnotinM (u1 hr) (pv 6) (pv 1)))))) (pss_one (ps_ret pe_bl)) pss_nil)
      (pss_one (ps_if (pt_not (pt_val (pe_allG (own := [("child", 8)]) hr rfl sc_arelinked.nd (by rfl) T.m_all (by decide +kernel) TB rfl (blkOk_by (own := [("child", 8)]) (N := ["rows", "above", "row", "name", "left", "right", "over", "turned", "child"]) (sc := defScope s_arelinked) (by decide +kernel)) (by rfl) (by decide +kernel) (by rfl) (pi_tup (pe_tup (pa_cons (pv 4) (pa_cons (pv 5) pa_nil)))) (fun _ _ _ _ _ _ _ => (pg_name (i := 8) sc_arelinked.nd rfl (.inl rfl) (hf := Or.inr rfl))) (fun _ _ _ _ _ _ _ hr' => (pe_or (pe_cmpR op_isN (pv 8) pe_non (nomark _)) (pe_one (pe_call G_isbelow hr' (by rfl) T.g_isbelow T.F_isbelow.kp T.b_isbelow .nil pass0 (pa_cons (pv 1) (pa_cons (pv 8) (pa_cons (pv 3) pa_nil)))))))))) (pss_one (ps_ret pe_bl)) pss_nil)))))
      (pss_one (ps_ret (pe_not (pe_call G_hasringabove (hr.mono (by decide)) (by rfl) T.g_hasringabove T.F_hasringabove.kp T.b_hasringabove .nil pass0 (pa_cons (pv 1) pa_nil))))))), ?_⟩
    refine dcN_it (s := sn) (f0 := fun _ => V.non) (walk_tup (K := K) (a := t) (xs := xs)) (fun A i G => Same H G ∧ ∃ f : Nm → V, G A = some (dO sn ((rs.map (·.x)).take i) f) ∧ ∀ r ∈ rs.take i, IsO G (f r.x) r.a) (fun R r => ⟨_, rfl, t, rfl, ⟨_, SqT.of ht⟩, r⟩) (fun A nA => ⟨same_new nA, _, upd_same, fun x m => nomatch m⟩) (fun A i G _ _ z => SqT.of (z.1 _ _ ht)) ?_ ?_ ?_ ?_ ?_ ?_
    · rintro A i v G G' nA hi ⟨s1, f, hA, hfx⟩ ⟨rfl, hv⟩
      obtain ⟨r, hr2, ra⟩ := paired_at ta hv
      obtain ⟨p, vx, vl, vr, va, rfl, hp, i1, _, _, i4⟩ := ra.up (Same.tupk s1)
      have mr := List.mem_of_getElem? hr2
      have li := (List.getElem?_eq_some_iff.mp hr2).1
      refine ⟨rfl, yes_ite ?_⟩
      refine ⟨_, rfl, p, _, 0, _, rfl, rfl, SqT.of hp, atI_nat (j := 0) rfl, ?_⟩
      refine ⟨_, rfl, p, _, 3, _, rfl, rfl, SqT.of hp, atI_nat (j := 3) rfl, ?_⟩
      refine ⟨_, f, r.x, hA, fun z m => alx.s z (List.mem_of_mem_take m), (rq r mr).1.1, nx0 hr2, i1, by rw [List.length_take, List.length_map]; exact szl (by omega), same_put s1 nA, up1 f r.x va, by rw [upd_same, tkm hr2], ?_⟩
      have tk : TupK G' (upd G' A (dO sn ((rs.map (·.x)).take i ++ [r.x]) (up1 f r.x va))) := TupK.refl.put hA dO_ntup
      rw [tk_insN hr2]
      intro z mz
      rcases List.mem_append.mp mz with mz | mz
      · have ne : z.x ≠ r.x := fun e => nx0 hr2 (by rw [← e, ← List.map_take]; exact List.mem_map.mpr ⟨z, mz, rfl⟩)
        rw [up1_ne ne]
        exact (hfx z mz).up tk
      · rw [List.mem_singleton.mp mz, up1_same]
        exact i4.up tk
    · rintro D H1 nD ⟨s1, f, hD, hfx⟩
      rw [lx, List.take_length] at hfx
      rw [show (rs.map (·.x)).take xs.length = rs.map (·.x) by rw [lx]; exact List.take_of_length_le (by rw [List.length_map]; exact Nat.le_refl _)] at hD
      have ht1 := s1 _ _ ht
      have ta1 := ta.up (Same.tupk s1)
      have tb1 := tb.same s1
      have k1 := Kp.of_same s1
      have hgA : ∀ {G : Hp}, TupK H1 G → ∀ x ∈ rs.map (·.x), IsO G (f x) (aboveF rs x) ∧ QO (aboveF rs x) := fun {G} tk x m => by
        obtain ⟨r, mr, rfl⟩ := List.mem_map.mp m
        rw [above_at nd r mr]
        exact ⟨(hfx r mr).up tk, (rq r mr).2.2.2.q⟩
      refine ⟨_, rfl, t, rfl, ⟨_, SqT.of ht1⟩, for_it (walk_tup (xs := xs)) (fun i σ H2 => ∃ y3 y4 y5 y6 y7 : Option V, σ = [some (.ref t), some (.ref D), none, y3, y4, y5, y6, y7, none] ∧ Kp H1 H2 ∧ Tb T.tbs H2 ∧ ∀ r ∈ rs.take i, LinkR rs r) ⟨none, none, none, none, none, rfl, Kp.refl _, tb1, fun r m => nomatch m⟩ (fun i σ H2 _ z => by obtain ⟨_, _, _, _, _, _, z, _⟩ := z; exact SqT.of (z.tup ht1)) ?_ ?_⟩
      · rintro i v σ H2 H3 hi ⟨y3, y4, y5, y6, y7, rfl, k2, tb2, ok2⟩ ⟨rfl, hxi⟩
        obtain ⟨r, hr2, ra⟩ := paired_at (ta1.up k2.tupk) hxi
        obtain ⟨p, vx, vl, vr, va, rfl, hp, ix, il, ir, ia⟩ := ra
        have mr := List.mem_of_getElem? hr2
        obtain ⟨qx, ql, qr, qa⟩ := rq r mr
        have hD3 := k2 _ _ hD (by cases sn <;> (intro ps e; exact nomatch e))
        have bad : ¬ LinkR rs r → ∀ G, Kp H3 G → Tb T.tbs G → Q (.bl false) G := fun n G kG tbG => q false G (k1.trans (k2.trans kG)) tbG (fun z => nomatch z) fun _ z => n (z.1 r mr)
        refine ⟨p, _, rfl, SqT.of hp, rfl, _, _, rfl, _, _, rfl, _, _, rfl, _, _, rfl, _, _, rfl, rfl, ?_⟩
        apply cutR (B := r.l ≠ none → r.l ≠ r.r)
        · intro rest
          refine ⟨_, rfl, rfl, _, rfl, ?_⟩
          rw [il.non]
          by_cases e : r.l = none
          · rw [decide_eq_true e]
            exact iteF (iteF (rest fun z => absurd e z))
          · rw [decide_eq_false e]
            refine iteT ⟨_, rfl, _, rfl, rEq_nmQ il ir ql.q qr.q ⟨_, rfl, ?_⟩⟩
            by_cases e2 : r.l = r.r
            · rw [decide_eq_true e2]
              exact iteT (bad (fun z => z.1 e e2) H3 (Kp.refl _) tb2)
            · rw [decide_eq_false e2]
              exact iteF (rest fun _ => e2)
        intro c1
        apply cutR (B := ∀ u, r.a = some u → u ∈ rs.map (·.x))
        · intro rest
          refine ⟨_, rfl, rfl, _, rfl, ?_⟩
          rw [ia.non]
          cases ea : r.a with
          | none => exact iteF (iteF (rest fun u e => by rw [ea] at e; exact nomatch e))
          | some u =>
            rw [ea] at ia qa
            have iu : IsN H3 va u := ia
            refine iteT ⟨_, rfl, _, rfl, D, rfl, ?_⟩
            by_cases m : u ∈ rs.map (·.x)
            · exact .inl ⟨_, dO_in alx.s m (.inl hD3) iu, _, rfl, iteF (rest fun z e => by rw [ea] at e; cases e; exact m)⟩
            · rcases absent_nm alx (.inl hD3) iu (qa u rfl).2 m with g | ⟨i, kvs, h1, h2, h3⟩
              · exact .inl ⟨_, g, _, rfl, iteT (bad (fun z => m (z.2.1 u ea)) H3 (Kp.refl _) tb2)⟩
              · exact .inr ⟨i, kvs, h1, h2, h3, _, rfl, iteT (bad (fun z => m (z.2.1 u ea)) H3 (Kp.refl _) tb2)⟩
        intro c2
        refine ⟨_, rfl, _, rfl, (by show 2 ≤ sizeLine; decide), fun p' np => ?_⟩
        have sp := same_new (o := .tup [vl, vr]) np
        have hp' : upd H3 p' (.tup [vl, vr]) p' = some (.tup [vl, vr]) := upd_same
        generalize upd H3 p' (.tup [vl, vr]) = H4 at sp hp' ⊢
        have tb4 := tb2.same sp
        refine ⟨p', rfl, ⟨_, SqT.of hp'⟩, tb4.g T.mK, fun H5 tab => ?_⟩
        have k45 := Kp.of_tabd (tb4.g T.mK) tab
        have tb5 := tb4.tab T.nd T.mK (But.of_tab tab) tab.1
        have k35 : Kp H3 H5 := (Kp.of_same sp).trans k45
        refine gturns_it (walk_tup (xs := [vl, vr])) (fun j H6 => Kp H3 H6 ∧ H6 p' = some (.tup [vl, vr]) ∧ Tb T.tbs H6 ∧ (0 < j → ∀ c, r.l = some c → c ∈ rs.map (·.x) ∧ aboveF rs c = some r.x) ∧ (1 < j → ∀ c, r.r = some c → c ∈ rs.map (·.x) ∧ aboveF rs c = some r.x)) ⟨k35, k45.tup hp', tb5, (fun z => absurd z (by omega)), fun z => absurd z (by omega)⟩ (fun j H6 _ z => SqT.of z.2.1) ?_ (fun H6 z => ?_)
        · rintro j v H6 H7 N hj ⟨k6, hp6, tb6, o1, o2⟩ ⟨rfl, hxj⟩ nx
          obtain ⟨c, ic, qc, no, yes⟩ : ∃ c : Option Nm, IsO H3 v c ∧ OkF sn c ∧ (∀ y, c = some y → ¬ (y ∈ rs.map (·.x) ∧ aboveF rs y = some r.x) → ¬ LinkR rs r) ∧ ((∀ y, c = some y → y ∈ rs.map (·.x) ∧ aboveF rs y = some r.x) → (0 < j + 1 → ∀ c, r.l = some c → c ∈ rs.map (·.x) ∧ aboveF rs c = some r.x) ∧ (1 < j + 1 → ∀ c, r.r = some c → c ∈ rs.map (·.x) ∧ aboveF rs c = some r.x)) := by
            match j, hxj with
            | 0, hx =>
              cases Option.some.inj hx
              exact ⟨r.l, il, ql, fun y e n z => n (z.2.2.1 y e), fun h => ⟨fun _ => h, fun z => absurd z (by omega)⟩⟩
            | 1, hx =>
              cases Option.some.inj hx
              exact ⟨r.r, ir, qr, fun y e n z => n (z.2.2.2 y e), fun h => ⟨fun _ => o1 (by omega), fun _ => h⟩⟩
            | j + 2, hx => exact absurd hj (by show ¬ j + 2 < 2; omega)
          have ic6 := ic.up k6.tupk
          refine ⟨rfl, _, rfl, rfl, _, rfl, ?_⟩
          rw [ic6.non]
          cases c with
          | none => exact iteT ⟨true, rfl, iteT (nx _ ⟨k6, hp6, tb6, yes fun y e => nomatch e⟩)⟩
          | some c =>
            have ic6 : IsN H7 v c := ic6
            refine iteF ?_
            refine ⟨_, rfl, _, rfl, _, rfl, D, sn, rs.map (·.x), aboveF rs, f, c, r.x, v, vx, rfl, k6 _ _ hD3 (by cases sn <;> (intro ps e; exact nomatch e)), hgA ((k2.trans k6).tupk), alx, ic6, (qc c rfl).2, ix.up k6.tupk, qx.2.q, _, rfl, ?_⟩
            by_cases e : c ∈ rs.map (·.x) ∧ aboveF rs c = some r.x
            · rw [decide_eq_true e]
              exact iteT (nx _ ⟨k6, hp6, tb6, yes fun y ey => by cases ey; exact e⟩)
            · rw [decide_eq_false e]
              exact iteF ⟨_, rfl, iteT (bad (no c rfl e) _ k6 tb6)⟩
        · obtain ⟨k6, hp6, tb6, o1, o2⟩ := z
          refine ⟨_, rfl, iteF ⟨_, _, _, _, _, rfl, k2.trans k6, tb6, fun z mz => ?_⟩⟩
          rw [tk_insN hr2] at mz
          rcases List.mem_append.mp mz with mz | mz
          · exact ok2 z mz
          · rw [List.mem_singleton.mp mz]
            exact ⟨c1, c2, o1 (by show 0 < 2; omega), o2 (by show 1 < 2; omega)⟩
      · rintro σ H2 ⟨y3, y4, y5, y6, y7, rfl, k2, tb2, ok2⟩
        rw [lx, List.take_length] at ok2
        have hD2 := k2 _ _ hD (by cases sn <;> (intro ps e; exact nomatch e))
        refine ⟨_, rfl, D, sn, rs.map (·.x), aboveF rs, f, rfl, hD2, fun x m => (hgA k2.tupk x m).1, alx, nd, by rw [List.length_map]; exact lm, fun x m u e => ?_, fun b H3 s3 hf ht' => ⟨_, rfl, ?_⟩⟩
        · obtain ⟨r, mr, rfl⟩ := List.mem_map.mp m
          rw [above_at nd r mr] at e
          exact (ok2 r mr).2.1 u e
        · refine q (!b) H3 (k1.trans (k2.same s3)) (tb2.same s3) (fun z => ⟨ok2, fun r mr => hf (by simpa using z) r.x (List.mem_map.mpr ⟨r, mr, rfl⟩)⟩) fun z k => ?_
          obtain ⟨x, m, n⟩ := ht' (by simpa using z)
          obtain ⟨r, mr, rfl⟩ := List.mem_map.mp m
          exact n (k.2 r mr)
    · exact fun h p => h _ _ p
    · exact fun h p => h _ _ p
    · exact fun h ⟨a1, a2, a3, a4, a5, a6, a7, a8, a9, a10, p⟩ => ⟨a1, a2, a3, a4, a5, a6, a7, a8, a9, a10, h _ _ p⟩
    · exact fun h ⟨a1, a2, a3, a4, a5, a6, a7, a8, a9, a10, p⟩ => ⟨a1, a2, a3, a4, a5, a6, a7, a8, a9, a10, h _ _ p⟩
end

end My
namespace My
open PySem L2
/-! ### shapes of names -/
theorem cutH {B R : Hp → Prop} {G : Prop} (f : (∀ h, B h → R h) → G) (r : ∀ h, B h → R h) : G := f r
def ltN (x y : Nm) : Bool := PySem.W.dataLt (encN x) (encN y)
def RisN (ns : List Nm) : Prop := ∀ (i : Nat) (x y : Nm), ns[i]? = some x → ns[i + 1]? = some y → ltN x y = true
theorem ltN_le {s : Bool} {x y : Nm} (gx : Gn s x) (gy : Gn s y) : ltN x y = (leB x y && !decide (x = y)) := by
  have e : leB x y = !ltN y x := leB_def
  rw [e]
  by_cases c : x = y
  · subst c
    rw [decide_eq_true rfl]
    have : ltN x x = false := PySem.W.dataLt_self _
    rw [this]
    rfl
  · rw [decide_eq_false c]
    cases h : ltN y x with
    | true =>
      cases h2 : ltN x y with
      | false => rfl
      | true =>
        have z := PyProof.Rows.lex_trans _ _ _ h h2
        rw [PyProof.Rows.lex_irrefl] at z
        exact nomatch z
    | false =>
      cases h2 : ltN x y with
      | true => rfl
      | false => exact absurd (toks_inj gx gy (PyProof.Rows.lex_total _ _ h2 h)) c
theorem ris_tail {x : Nm} {ns : List Nm} (h : RisN (x :: ns)) : RisN ns := fun i y z e1 e2 => h (i + 1) y z (by simpa using e1) (by simpa using e2)
theorem ris_lt {x : Nm} {ns : List Nm} (h : RisN (x :: ns)) : ∀ y ∈ ns, ltN x y = true := by
  induction ns generalizing x with
  | nil => intro y m; exact nomatch m
  | cons z ns ih =>
    have h1 : ltN x z = true := h 0 x z rfl rfl
    intro y m
    rcases List.mem_cons.mp m with rfl | m
    · exact h1
    · exact PyProof.Rows.lex_trans _ _ _ h1 (ih (ris_tail h) y m)
theorem ris_nd : ∀ {ns : List Nm}, RisN ns → ns.Nodup
  | [], _ => .nil
  | x :: ns, h => List.nodup_cons.mpr ⟨fun m => by
      have := ris_lt h x m
      rw [show ltN x x = false from PySem.W.dataLt_self _] at this
      exact Bool.false_ne_true this, ris_nd (ris_tail h)⟩
/-- sorted, none twice -/
theorem ris_sort {s : Bool} {ns : List Nm} (al : AllG s ns) (nd : ns.Nodup) : RisN (sortN ns) := fun i x y e1 e2 => by
  have mx := List.mem_of_getElem? e1
  have my := List.mem_of_getElem? e2
  rw [ltN_le (al.gn (sortN_mem.mp mx)) (al.gn (sortN_mem.mp my))]
  obtain ⟨l1, r1⟩ := List.getElem?_eq_some_iff.mp e1
  obtain ⟨l2, r2⟩ := List.getElem?_eq_some_iff.mp e2
  have le := List.pairwise_iff_getElem.mp (sortN_srt (ns := ns)) i (i + 1) l1 l2 (by omega)
  rw [r1, r2] at le
  have ne : x ≠ y := fun e => by
    have nds : (sortN ns).Nodup := sortN_perm.nodup_iff.mpr nd
    have := (List.getElem?_inj l1 nds).mp (e1.trans ((congrArg some e).trans e2.symm))
    omega
  rw [le, decide_eq_false ne]
  rfl
theorem MkV.kpN' {H H' : Hp} (k : Kp H H') {v : V} {b : Bool} (h : MkV H v b) : MkV H' v b := MkV.kpN k h
inductive ShAll (H : Hp) : List V → List Bool → Prop
  | nil : ShAll H [] []
  | cons {v : V} {b : Bool} {vs : List V} {bs : List Bool} : ShV H v b → ShAll H vs bs → ShAll H (v :: vs) (b :: bs)
theorem ShAll.len {H : Hp} : ∀ {vs : List V} {bs : List Bool}, ShAll H vs bs → vs.length = bs.length
  | _, _, .nil => rfl
  | _, _, .cons _ k => congrArg (· + 1) k.len
theorem ShAll.at_ {H : Hp} : ∀ {vs : List V} {bs : List Bool} {i : Nat} {x : V}, ShAll H vs bs → vs[i]? = some x → ∃ b, bs[i]? = some b ∧ ShV H x b
  | _, _, _, _, .nil, h => nomatch h
  | _, _, 0, _, .cons e _, h => by
    cases Option.some.inj h
    exact ⟨_, rfl, e⟩
  | _, _, i + 1, _, .cons _ k, h => k.at_ (i := i) h
theorem Mks.kp {H H' : Hp} (k : Kp H H') : ∀ {vs : List V} {ms : List Bool}, Mks H vs ms → Mks H' vs ms
  | _, _, .nil => .nil
  | _, _, .cons a m r => .cons (a.kp k) (m.kp k) (r.kp k)
theorem ShV.kp {H H' : Hp} (k : Kp H H') {v : V} {b : Bool} (h : ShV H v b) : ShV H' v b := by
  rcases h with ⟨a, xs, ms, e, hl, ha, mk, hb⟩ | ⟨nt, hb⟩
  · exact .inl ⟨a, xs, ms, e, hl, k.tup ha, mk.kp k, hb⟩
  · exact .inr ⟨nt.kp k, hb⟩
theorem ShAll.kp {H H' : Hp} (k : Kp H H') : ∀ {vs : List V} {bs : List Bool}, ShAll H vs bs → ShAll H' vs bs
  | _, _, .nil => .nil
  | _, _, .cons e r => .cons (e.kp k) (r.kp k)
theorem mk_opt {H : Hp} {v : V} {o : Option Nm} (q : QO o) (iv : IsO H v o) : AnyV H v ∧ ∃ b, MkV H v b ∧ orB v b = true := by
  cases o with
  | none =>
    rw [show v = _ from iv]
    exact ⟨.non, false, .inr ⟨.non, rfl⟩, rfl⟩
  | some x =>
    obtain ⟨b, m, w⟩ := mk_name (q x rfl) iv
    refine ⟨Gn.any iv, b, m, ?_⟩
    show (decide (v = V.non) || (wholeB v || b)) = true
    rw [w, Bool.or_true]
theorem row_sh {H : Hp} {v : V} {r : NRow} (ra : RowAt H v r) (qx : MarkQ r.x) (ql : QO r.l) (qr : QO r.r) (qa : QO r.a) : ShV H v true := by
  obtain ⟨p, vx, vl, vr, va, rfl, hp, ix, il, ir, ia⟩ := ra
  obtain ⟨bx, mx, wx⟩ := mk_name qx ix
  obtain ⟨al, bl, ml, wl⟩ := mk_opt ql il
  obtain ⟨ar, br, mr, wr⟩ := mk_opt qr ir
  obtain ⟨aa, ba, ma, wa⟩ := mk_opt qa ia
  refine .inl ⟨p, _, [bx, bl, br, ba, false], rfl, (by show 5 ≤ 1000; decide), hp, .cons (Gn.any ix) mx (.cons al ml (.cons ar mr (.cons aa ma (.cons (.bl _) (.inr ⟨.bl _, rfl⟩) .nil)))), ?_⟩
  show true = (nmB vx bx && (true && (orB vl bl && (orB vr br && orB va ba))))
  rw [wl, wr, wa, show nmB vx bx = true from wx]
  rfl
def ShOk (rs : List NRow) : Prop := RisN (rs.map (·.x)) ∧ LinkOk rs
section
variable {P : Program} {w : World} {K : PySem.W.Frag} {mg : Str → Option Value} {base : Heap}
def spRisN (T : Top K mg) : Sp := fun vs H Q _ => ∃ (a : Addr) (us : List V) (s : Bool) (ns : List Nm), vs = [.ref a] ∧ H a = some (.lst us) ∧ Nms H us ns ∧ AllG s ns ∧ Tb T.tbs H ∧ ∀ (b : Bool) (H' : Hp), Kp H H' → Tb T.tbs H' → (b = true → RisN ns) → (b = false → ¬ RisN ns) → Q (.bl b) H'
theorem ok_risN (T : Top K mg) (TB : GxR.TabB base mg T.cR T.PR) : FnOk P w K mg base CX0 2 T.a_isrising T.d_isrising ["row"] (spRisN T) := by
  refine okC T.F_isrising T.hcR sc_isrising (fun vs H Q E h => ?_) (fun A outer s H vs Q E hr h => ?_)
  · obtain ⟨a, us, s, ns, rfl, _⟩ := h
    rfl
  · obtain ⟨a, us, sn, ns, rfl, ha, nu, al, tb, q⟩ := h
    refine ⟨_, (pss_one (ps_ret (pe_allG (own := [("low", 1), ("high", 2)]) hr rfl sc_isrising.nd (by rfl) T.m_all (by decide +kernel) TB rfl (blkOk_by (own := [("low", 1), ("high", 2)]) (N := ["row", "low", "high"]) (sc := defScope s_isrising) (by decide +kernel)) (by rfl) (by decide +kernel) (by rfl) (pi_zip (by rfl) T.m_zip (pa_cons (pv 0) (pa_cons (pe_slice sl_list (pv 0) (po_some pe_int) po_none) pa_nil))) (fun _ _ _ _ _ _ _ => (pg_tupK (K := K) (n := 2) rfl rfl (pgs_cons (pg_name (i := 1) sc_isrising.nd rfl (.inl rfl) (hf := Or.inr rfl)) (pgs_cons (pg_name (i := 2) sc_isrising.nd rfl (.inl rfl) (hf := Or.inr rfl)) pgs_nil)) rfl)) (fun _ _ _ _ _ _ _ hr' => (pe_cmpR (op_ltDK (K := K) rfl (u65 hr')) (pv 1) (pv 2) (nomark _)))))), ?_⟩
    refine ⟨_, rfl, _, rfl, 1, rfl, a, _, rfl, SqL.of ha, fun p np => ?_⟩
    have ec : cutV us (some 1) none = us.tail := by
      cases us with
      | nil => rfl
      | cons x us => exact cut_tail _ _
    rw [ec]
    have lu := nu.length
    have sp := same_new (o := .lst us.tail) np
    have hp : upd H p (.lst us.tail) p = some (.lst us.tail) := upd_same
    have ha1 := sp _ _ ha
    have tb1 := tb.same sp
    have k1 := Kp.of_same sp
    have nu1 := nu.up (Same.tupk sp)
    generalize upd H p (.lst us.tail) = H1 at sp hp ha1 tb1 k1 nu1 ⊢
    refine ⟨a, p, _, _, rfl, SqL.of ha1, SqL.of hp, tb1.g T.mR, fun H2 tab => ?_⟩
    have k2 := Kp.of_tabd (tb1.g T.mR) tab
    have tb2 := tb1.tab T.nd T.mR (But.of_tab tab) tab.1
    refine gturns_it (walk_zip (xs := us) (ys := us.tail) (n := us.length - 1) (by rw [List.length_tail]; omega)) (fun i H3 => Kp H1 H3 ∧ Tb T.tbs H3 ∧ ∀ j, j < i → ∀ x y, ns[j]? = some x → ns[j + 1]? = some y → ltN x y = true) ⟨k2, tb2, fun j h => absurd h (by omega)⟩ (fun i H3 _ z => ⟨SqL.of (z.1 _ _ ha1 (by intro ps z; cases z)), SqL.of (z.1 _ _ hp (by intro ps z; cases z))⟩) ?_ (fun H3 z => ?_)
    · rintro i v H3 H4 N hi ⟨k3, tb3, r3⟩ ⟨t, u, v, rfl, nt, rfl, hu, hv⟩ nx
      dsimp only at hu hv
      rw [List.getElem?_tail] at hv
      obtain ⟨x, hx, ix⟩ := paired_at nu1 hu
      obtain ⟨y, hy, iy⟩ := paired_at nu1 hv
      have gx := al.gn (List.mem_of_getElem? hx)
      have gy := al.gn (List.mem_of_getElem? hy)
      have st := same_new (o := .tup [u, v]) nt
      have tk := (Kp.tupk k3).trans (Same.tupk st)
      refine ⟨t, _, rfl, SqT.of upd_same, rfl, _, _, rfl, _, _, rfl, rfl, rfl, _, rfl, _, rfl, encN x, encN y, (ix.up tk).dp, (iy.up tk).dp, gx.alike gy, (fun e => by cases gx <;> exact nomatch e), (by have := gx.dep; omega), _, rfl, ?_⟩
      show if ltN x y = true then _ else _
      by_cases c : ltN x y = true
      · rw [if_pos c]
        refine nx _ ⟨k3.same st, tb3.same st, fun j hj x' y' e1 e2 => ?_⟩
        by_cases ej : j = i
        · rw [ej, hx] at e1
          rw [ej, hy] at e2
          cases e1
          cases e2
          exact c
        · exact r3 j (by omega) x' y' e1 e2
      · rw [if_neg c]
        exact q false _ (k1.trans (k3.same st)) (tb3.same st) (fun z => nomatch z) fun _ h => c (h i x y hx hy)
    · obtain ⟨k3, tb3, r3⟩ := z
      refine q true H3 (k1.trans k3) tb3 (fun _ i x y e1 e2 => r3 i ?_ x y e1 e2) fun z => nomatch z
      have := (List.getElem?_eq_some_iff.mp e2).1
      omega
def spShapeN (T : Top K mg) : Sp := fun vs H Q _ => ∃ (v : V), vs = [v] ∧ Tb T.tbs H ∧ ((NoTup H v ∧ ∀ H', Kp H H' → Tb T.tbs H' → Q (.bl false) H') ∨
  (∃ (a : Addr) (xs : List V) (bs : List Bool), v = .ref a ∧ H a = some (.tup xs) ∧ ShAll H xs bs ∧ bs.all id = false ∧ ∀ H', Kp H H' → Tb T.tbs H' → Q (.bl false) H') ∨
  ∃ (a : Addr) (xs : List V) (s : Bool) (rs : List NRow), v = .ref a ∧ H a = some (.tup xs) ∧ NRs H xs rs ∧ RowsQ s rs ∧ rs.length ≤ 1000 ∧ ∀ (b : Bool) (H' : Hp), Kp H H' → Tb T.tbs H' → (b = true → ShOk rs) → (b = false → ¬ ShOk rs) → Q (.bl b) H')
theorem ok_shapeN (T : Top K mg) (TM : GxR.TabB base mg T.cM T.PM) (TS : GxR.TabB base mg T.cS T.PS) (TR : GxR.TabB base mg T.cR T.PR) (TK : GxR.TabB base mg T.cK T.PK) (TB : GxR.TabB base mg T.cH T.PH) : FnOk P w K mg base CX0 8 T.a_isshape T.d_isshape ["thing"] (spShapeN T) := by
  have G_isshaperow : FnOk P w K mg base CX0 6 _ _ _ _ := ok_shrow T TM TS
  have G_iswhole : FnOk P w K mg base CX0 1 _ _ _ _ := ok_whole T
  have G_ismark : FnOk P w K mg base CX0 3 _ _ _ _ := ok_mark T TM
  have G_isrising : FnOk P w K mg base CX0 2 _ _ _ _ := ok_risN T TR
  have G_arelinked : FnOk P w K mg base CX0 3 _ _ _ _ := ok_linkN T TK
  refine okC T.F_isshape T.hcH sc_isshape (fun vs H Q E h => ?_) (fun A outer s H vs Q E hr h => ?_)
  · obtain ⟨v, rfl, _⟩ := h
    rfl
  · obtain ⟨v, rfl, tb, hx⟩ := h
    refine ⟨_, (pss_cons (ps_if (PW.pt (pw_or (pt_not (pt_val (pe_callB call_isi (by rfl) T.m_isinstance (by decide +kernel) (pa_cons (pv 0) (pa_cons (pe_bltn (v := .ty "tuple") (by rfl) T.m_tuple (by decide +kernel) rfl) pa_nil))))) (pw_or1 (pt_not (pt_val (pe_allG (own := [("row", 1)]) hr rfl sc_isshape.nd (by rfl) T.m_all (by decide +kernel) TB rfl (blkOk_by (own := [("row", 1)]) (N := ["thing", "row", "names", "name"]) (sc := defScope s_isshape) (by decide +kernel)) (by rfl) (by decide +kernel) (by rfl) (pi_tup (pv 0)) (fun _ _ _ _ _ _ _ => (pg_name (i := 1) sc_isshape.nd rfl (.inl rfl) (hf := Or.inr rfl))) (fun _ _ _ _ _ _ _ hr' => (pe_call G_isshaperow hr' (by rfl) T.g_isshaperow T.F_isshaperow.kp T.b_isshaperow .nil pass0 (pa_cons (pv 1) pa_nil))))))))) (pss_one (ps_ret pe_bl)) pss_nil)
      (pss_cons (ps_setLc (i := 2) (own := [("row", 1)]) (g := gName 1) (tt := tYes) (by rfl) sc_isshape.nd rfl rfl (sw_true rfl rfl rfl (by decide +kernel)) (pi_tup (pv 0)) (blkOk_by (own := [("row", 1)]) (N := ["thing", "row", "names", "name"]) (sc := defScope s_isshape) (by decide +kernel)) (fun _ _ _ _ _ => (pg_name (i := 1) sc_isshape.nd rfl (.inl rfl))) (fun _ _ _ _ _ => pts_nil) (fun _ _ _ _ _ => (pe_ix (ix_tupK (K := K) rfl) (pv 1) pe_int (fun _ _ => rfl))))
      (pss_cons (ps_if (PW.pt (pw_and (pt_not (pt_val (pe_allG (own := [("name", 3)]) hr rfl sc_isshape.nd (by rfl) T.m_all (by decide +kernel) TB rfl (blkOk_by (own := [("name", 3)]) (N := ["thing", "row", "names", "name"]) (sc := defScope s_isshape) (by decide +kernel)) (by rfl) (by decide +kernel) (by rfl) (pi_list (pv 2)) (fun _ _ _ _ _ _ _ => (pg_name (i := 3) sc_isshape.nd rfl (.inl rfl) (hf := Or.inr rfl))) (fun _ _ _ _ _ _ _ hr' => (pe_call G_iswhole (hr'.mono (by decide)) (by rfl) T.g_iswhole T.F_iswhole.kp T.b_iswhole .nil pass0 (pa_cons (pv 3) pa_nil)))))) (pw_and1 (pt_not (pt_val (pe_allG (own := [("name", 3)]) hr rfl sc_isshape.nd (by rfl) T.m_all (by decide +kernel) TB rfl (blkOk_by (own := [("name", 3)]) (N := ["thing", "row", "names", "name"]) (sc := defScope s_isshape) (by decide +kernel)) (by rfl) (by decide +kernel) (by rfl) (pi_list (pv 2)) (fun _ _ _ _ _ _ _ => (pg_name (i := 3) sc_isshape.nd rfl (.inl rfl) (hf := Or.inr rfl))) (fun _ _ _ _ _ _ _ hr' => (pe_call G_ismark (hr'.mono (by decide)) (by rfl) T.g_ismark T.F_ismark.kp T.b_ismark .nil pass0 (pa_cons (pv 3) pa_nil))))))))) (pss_one (ps_ret pe_bl)) pss_nil)
      (pss_one (ps_ret (pe_and (pe_call G_isrising (hr.mono (by decide)) (by rfl) T.g_isrising T.F_isrising.kp T.b_isrising .nil pass0 (pa_cons (pv 2) pa_nil)) (pe_one (pe_call G_arelinked (hr.mono (by decide)) (by rfl) T.g_arelinked T.F_arelinked.kp T.b_arelinked .nil pass0 (pa_cons (pv 0) pa_nil))))))))), ?_⟩
    rcases hx with ⟨nt, q⟩ | ⟨a, xs, bs, rfl, ha, sh, nall, q⟩ | ⟨a, xs, sn, rs, rfl, ha, nr, rq, lr, q⟩
    · obtain ⟨t, ty, kt⟩ := notup_ok (K := K) nt
      refine ⟨_, rfl, _, _, _, _, false, rfl, ClsV.ty _, ty, kt, _, rfl, iteT ?_⟩
      exact iteT (q H (Kp.refl H) tb)
    · refine ⟨_, rfl, _, _, _, _, true, rfl, ClsV.ty _, .base (.tup ha), kit_ty (by decide +kernel), _, rfl, iteF ?_⟩
      refine ⟨_, rfl, a, rfl, ⟨_, SqT.of ha⟩, tb.g T.mH, fun H2 tab => ?_⟩
      have k2 := Kp.of_tabd (tb.g T.mH) tab
      have tb2 := tb.tab T.nd T.mH (But.of_tab tab) tab.1
      refine gturns_it (walk_tup (xs := xs)) (fun i H3 => Kp H H3 ∧ Tb T.tbs H3 ∧ (bs.take i).all id = true) ⟨k2, tb2, rfl⟩ (fun i H3 _ z => SqT.of (z.1.tup ha)) ?_ (fun H3 z => ?_)
      · rintro i x H3 H4 N hi ⟨k3, tb3, al3⟩ ⟨rfl, hxi⟩ nx
        obtain ⟨c, hc, sx⟩ := sh.at_ hxi
        refine ⟨rfl, _, rfl, x, c, rfl, tb3, sx.kp k3, fun H5 k5 tb5 => ⟨c, rfl, ?_⟩⟩
        cases c with
        | true =>
          refine iteT (nx _ ⟨k3.trans k5, tb5, ?_⟩)
          rw [List.take_succ, hc, List.all_append, al3]
          rfl
        | false => exact iteF ⟨_, rfl, iteT (q _ (k3.trans k5) tb5)⟩
      · obtain ⟨k3, tb3, al3⟩ := z
        rw [sh.len, List.take_of_length_le (Nat.le_refl _), nall] at al3
        exact nomatch al3
    · have lx := nr.length
      refine ⟨_, rfl, _, _, _, _, true, rfl, ClsV.ty _, .base (.tup ha), kit_ty (by decide +kernel), _, rfl, iteF ?_⟩
      refine ⟨_, rfl, a, rfl, ⟨_, SqT.of ha⟩, tb.g T.mH, fun H2 tab => ?_⟩
      have k2 := Kp.of_tabd (tb.g T.mH) tab
      have tb2 := tb.tab T.nd T.mH (But.of_tab tab) tab.1
      refine gturns_it (walk_tup (xs := xs)) (fun i H3 => Kp H H3 ∧ Tb T.tbs H3) ⟨k2, tb2⟩ (fun i H3 _ z => SqT.of (z.1.tup ha)) ?_ (fun H3 z => ?_)
      · rintro i x H3 H4 N hi ⟨k3, tb3⟩ ⟨rfl, hxi⟩ nx
        obtain ⟨r, hr2, ra⟩ := paired_at (nr.up k3.tupk) hxi
        obtain ⟨qx, ql, qr, qa⟩ := rq r (List.mem_of_getElem? hr2)
        exact ⟨rfl, _, rfl, x, true, rfl, tb3, row_sh ra qx.2.q ql.q qr.q qa.q, fun H5 k5 tb5 => ⟨true, rfl, iteT (nx _ ⟨k3.trans k5, tb5⟩)⟩⟩
      obtain ⟨k3, tb3⟩ := z
      refine ⟨_, rfl, iteF ?_⟩
      have ha3 := k3.tup ha
      have nr3 := nr.up k3.tupk
      have aln : AllG sn (rs.map (·.x)) := fun x m => by
        obtain ⟨r, mr, rfl⟩ := List.mem_map.mp m
        exact (rq r mr).1
      refine ⟨_, rfl, a, rfl, ⟨_, SqT.of ha3⟩, fun D nD => ?_⟩
      refine lc_tup (xs := xs) (fun i H4 => Same H3 H4 ∧ ∃ us, H4 D = some (.lst us) ∧ Nms H4 us ((rs.map (·.x)).take i)) ⟨same_new nD, [], upd_same, .nil⟩ (fun i H4 _ z => SqT.of (z.1 _ _ ha3)) ?_ ?_
      · rintro i x H4 hxi ⟨s4, us, hD, nu⟩
        obtain ⟨r, hr2, ra⟩ := paired_at (nr3.up (Same.tupk s4)) hxi
        obtain ⟨p, vx, vl, vr, va, rfl, hp, ix, _, _, _⟩ := ra
        have lus := nu.length
        rw [List.length_take, List.length_map] at lus
        have li := (List.getElem?_eq_some_iff.mp hr2).1
        have tk : TupK H4 (upd H4 D (.lst (us ++ [vx]))) := TupK.refl.put hD (by intro xs e; cases e)
        refine ⟨rfl, _, rfl, p, _, _, _, rfl, rfl, SqT.of hp, atI_nat (j := 0) rfl, us, hD, szl (by omega), same_put s4 nD, us ++ [vx], upd_same, ?_⟩
        rw [tk_insN (show (rs.map (·.x))[i]? = some r.x by rw [List.getElem?_map, hr2]; rfl)]
        exact paired_snocN (nu.up tk) (ix.up tk)
      rintro H4 ⟨s4, us, hD, nu⟩
      rw [lx, show (rs.map (·.x)).take rs.length = rs.map (·.x) from List.take_of_length_le (by rw [List.length_map]; exact Nat.le_refl _)] at nu
      have tb4 := tb3.same s4
      have k4 : Kp H H4 := k3.same s4
      have hDk : ∀ {G : Hp}, Kp H4 G → G D = some (.lst us) := fun k => k _ _ hD (by intro ps z; cases z)
      apply cutH (B := fun h => Kp H4 h ∧ Tb T.tbs h)
      · intro rest
        refine ⟨_, rfl, D, rfl, ⟨_, SqL.of hD⟩, tb4.g T.mH, fun H5 tab5 => ?_⟩
        have k5 := Kp.of_tabd (tb4.g T.mH) tab5
        have tb5 := tb4.tab T.nd T.mH (But.of_tab tab5) tab5.1
        refine gturns_it (walk_list (xs := us)) (fun i H6 => Kp H4 H6 ∧ Tb T.tbs H6) ⟨k5, tb5⟩ (fun i H6 _ z => SqL.of (hDk z.1)) ?_ (fun H6 z => ?_)
        · rintro i x H6 H7 N hi ⟨k6, tb6⟩ ⟨rfl, hxi⟩ nx
          obtain ⟨y, hy, iy⟩ := paired_at (nu.up k6.tupk) hxi
          have gy := aln y (List.mem_of_getElem? hy)
          obtain ⟨b, mb, wb⟩ := mk_name gy.2.q iy
          refine ⟨rfl, _, rfl, x, rfl, Gn.any iy, wholeB x, rfl, ?_⟩
          cases e : wholeB x with
          | true => exact iteT (nx _ ⟨k6, tb6⟩)
          | false =>
            refine iteF ⟨_, rfl, iteT ?_⟩
            have st : sn = true := by
              cases y with
              | i n =>
                rw [show x = _ from iy] at e
                exact nomatch e
              | m k => exact gy.1.symm
            refine ⟨_, rfl, D, rfl, ⟨_, SqL.of (hDk k6)⟩, tb6.g T.mH, fun H8 tab8 => ?_⟩
            have k8 : Kp H4 H8 := k6.trans (Kp.of_tabd (tb6.g T.mH) tab8)
            have tb8 := tb6.tab T.nd T.mH (But.of_tab tab8) tab8.1
            refine gturns_it (walk_list (xs := us)) (fun i H6 => Kp H4 H6 ∧ Tb T.tbs H6) ⟨k8, tb8⟩ (fun i H6 _ z => SqL.of (hDk z.1)) ?_ (fun H9 z => ?_)
            · rintro j z H9 H10 N2 hj ⟨k9, tb9⟩ ⟨rfl, hzj⟩ nx2
              obtain ⟨y2, hy2, iy2⟩ := paired_at (nu.up k9.tupk) hzj
              have gy2 := aln y2 (List.mem_of_getElem? hy2)
              obtain ⟨b2, mb2, wb2⟩ := mk_name gy2.2.q iy2
              have eb : b2 = true := by
                cases y2 with
                | i n =>
                  have := gy2.1
                  rw [st] at this
                  exact nomatch this
                | m k =>
                  obtain ⟨a2, ez, _⟩ := iy2
                  rw [ez] at wb2
                  exact wb2
              subst eb
              exact ⟨rfl, _, rfl, z, true, rfl, tb9, mb2, fun H11 k11 tb11 => ⟨true, rfl, iteT (nx2 _ ⟨k9.trans k11, tb11⟩)⟩⟩
            · exact ⟨_, rfl, iteF (rest H9 z)⟩
        · exact ⟨_, rfl, iteF (iteF (rest H6 z))⟩
      rintro H6 ⟨k6, tb6⟩
      refine ⟨_, rfl, D, us, sn, rs.map (·.x), rfl, hDk k6, nu.up k6.tupk, aln, tb6, fun b H7 k7 tb7 hb1 hb2 => ?_⟩
      have k07 := k4.trans (k6.trans k7)
      cases b with
      | false => exact ⟨_, rfl, iteF (q false H7 k07 tb7 (fun z => nomatch z) fun _ z => hb2 rfl z.1)⟩
      | true =>
        refine ⟨_, rfl, iteT ⟨_, rfl, a, xs, sn, rs, rfl, tb7, k07.tup ha, nr.up k07.tupk, ris_nd (hb1 rfl), rq, lr, fun b8 H8 k8 tb8 h1 h2 => ?_⟩⟩
        exact q b8 H8 (k07.trans k8) tb8 (fun z => ⟨hb1 rfl, h1 z⟩) fun z k => h2 z k.2
end

end My
namespace My
open PySem L2
theorem op_inTK {X : Cx} {K : PySem.W.Frag} (hK : X.K = K) (hu : X.A.units + 65 < cLine) : OpR X (compareOp .In) (rInT K false) := by
  subst hK
  exact op_inT hu
theorem op_notInTK {X : Cx} {K : PySem.W.Frag} (hK : X.K = K) (hu : X.A.units + 65 < cLine) : OpR X (compareOp .NotIn) (rInT K true) := by
  subst hK
  exact op_notInT hu

/-! ### slices and sums of tuples, one going on -/
theorem cutV_whole {xs : List V} {lo hi : Option Int} (h : HT.sIx xs.length 0 lo = 0 ∧ HT.sIx xs.length xs.length hi = xs.length) : cutV xs lo hi = xs := by
  unfold cutV
  rw [h.1, h.2, List.drop_zero, Nat.sub_zero, List.take_length]
theorem slA {K : PySem.W.Frag} {x : V} {lo hi : Option Int} {H : Hp} {Q : VK} {t : Addr} {xs : List V} (ex : x = .ref t) (h : H t = some (.tup xs)) (k : ∀ (p : Addr) (H' : Hp), Same H H' → H' p = some (.tup (cutV xs lo hi)) → Q (.ref p) H') : rSlA K x lo hi H Q :=
  ⟨t, xs, ex, SqT.of h, fun wh => k t H (fun _ _ e => e) (by rw [cutV_whole wh]; exact h), fun _ p np => k p _ (same_new np) upd_same⟩
theorem catA {K : PySem.W.Frag} {x y : V} {H : Hp} {Q : VK} {a b : Addr} {xs ys : List V} (ex : x = .ref a) (ey : y = .ref b) (h1 : H a = some (.tup xs)) (h2 : H b = some (.tup ys)) (l : xs.length + ys.length ≤ sizeLine) (k : ∀ (p : Addr) (H' : Hp), Same H H' → H' p = some (.tup (xs ++ ys)) → Q (.ref p) H') : rCatA K x y H Q :=
  ⟨a, b, xs, ys, ex, ey, SqT.of h1, SqT.of h2, l, fun e => k b H (fun _ _ e => e) (by rw [e]; exact h2), fun _ e => k a H (fun _ _ e => e) (by rw [e, List.append_nil]; exact h1), fun _ _ p np => k p _ (same_new np) upd_same⟩
theorem cut_fromV (xs : List V) {k : Nat} (h : k ≤ xs.length) : cutV xs (some (k : Int)) none = xs.drop k := by
  unfold cutV
  rw [HT.sIx_nat, HT.sIx_none, Nat.min_eq_left h, List.take_of_length_le]
  rw [List.length_drop]
  omega
theorem cut_toV (xs : List V) (k : Nat) : cutV xs none (some (k : Int)) = xs.take k := cut_nat (α := V) xs k
theorem set_cut {xs : List V} {k : Nat} {v : V} (h : k < xs.length) : (xs.take k ++ [v]) ++ xs.drop (k + 1) = xs.set k v := by
  rw [List.set_eq_take_append_cons_drop, if_pos h, List.append_assoc]
  rfl
theorem sl_tupAK {X : Cx} {K : PySem.W.Frag} (hK : X.K = K) : SlR X (rSlA K) := by
  subst hK
  exact sl_tupA

/-! ### what makes no shape -/
theorem bad_mem {ys : List NRow} {r : NRow} {y : Nm} (m : r ∈ ys) (n : y ∉ ys.map (·.x)) (e : r.l = some y ∨ r.r = some y ∨ r.a = some y) : ¬ ShOk ys := fun h => by
  obtain ⟨h1, h2, h3, h4⟩ := h.2.1 r m
  rcases e with e | e | e
  · exact n (h3 y e).1
  · exact n (h4 y e).1
  · exact n (h2 y e)
theorem bad_loop {ys : List NRow} {r : NRow} (m : r ∈ ys) (e : r.a = some r.x) : ¬ ShOk ys := fun h => by
  have z := h.2.2 r m
  refine ends_ring z (.one ?_)
  rw [above_at (ris_nd h.1) r m]
  exact e
theorem bad_lr {ys : List NRow} {r : NRow} (m : r ∈ ys) (n : r.l ≠ none) (e : r.l = r.r) : ¬ ShOk ys := fun h => (h.2.1 r m).1 n e
theorem bad_cross {ys : List NRow} {r q : NRow} (m : r ∈ ys) (m' : q ∈ ys) (e : r.a = some q.x) (e' : q.a = some r.x) : ¬ ShOk ys := fun h => by
  have z := h.2.2 r m
  have a1 := above_at (ris_nd h.1) r m
  have a2 := above_at (ris_nd h.1) q m'
  exact ends_ring z (.more (.one (a1.trans e)) (a2.trans e'))
theorem bad_ris {ys : List NRow} {i : Nat} {x y : Nm} (e1 : (ys.map (·.x))[i]? = some x) (e2 : (ys.map (·.x))[i + 1]? = some y) (n : ltN x y = false) : ¬ ShOk ys := fun h => by
  have := h.1 i x y e1 e2
  rw [n] at this
  exact nomatch this
/-- a thing that is no name, nor None -/
def NNo (H : Hp) (o : V) : Prop := AnyV H o ∧ MkV H o false ∧ wholeB o = false ∧ o ≠ .non
def RowQ (s : Bool) (r : NRow) : Prop := (sdN r.x = s ∧ MarkN r.x) ∧ OkF s r.l ∧ OkF s r.r ∧ OkF s r.a
/-- a row that makes no shape where row k stood -/
def BadR (s : Bool) (rs : List NRow) (k : Nat) (H : Hp) (v : V) : Prop := ShV H v false ∨ ∃ r', RowAt H v r' ∧ RowQ s r' ∧ ¬ ShOk (rs.set k r')
/-- what is no shape -/
def BadS (H : Hp) (v : V) : Prop := NoTup H v ∨ (∃ (a : Addr) (xs : List V) (bs : List Bool), v = .ref a ∧ H a = some (.tup xs) ∧ ShAll H xs bs ∧ bs.all id = false) ∨
  ∃ (a : Addr) (xs : List V) (s : Bool) (rs : List NRow), v = .ref a ∧ H a = some (.tup xs) ∧ NRs H xs rs ∧ RowsQ s rs ∧ rs.length ≤ 1000 ∧ ¬ ShOk rs
section
variable {H : Hp} {s : Bool} {rs : List NRow} {k : Nat} {r : NRow} {v vx vl vr va : V} {p o : Addr}
theorem sh_bad {vals : List V} {ms : List Bool} (hp : H o = some (.tup vals)) (mk : Mks H vals ms) (l : vals.length ≤ 1000) (e : shB vals ms = false) : ShV H (.ref o) false := .inl ⟨o, vals, ms, rfl, l, hp, mk, e.symm⟩
theorem vals_mk (q : RowQ s r) (ix : IsN H vx r.x) (il : IsO H vl r.l) (ir : IsO H vr r.r) (ia : IsO H va r.a) : ∃ bx bl br ba, (AnyV H vx ∧ MkV H vx bx) ∧ (AnyV H vl ∧ MkV H vl bl) ∧ (AnyV H vr ∧ MkV H vr br) ∧ AnyV H va ∧ MkV H va ba := by
  obtain ⟨qx, ql, qr, qa⟩ := q
  obtain ⟨bx, mx, wx⟩ := mk_name qx.2.q ix
  obtain ⟨al, bl, ml, wl⟩ := mk_opt ql.q il
  obtain ⟨ar, br, mr, wr⟩ := mk_opt qr.q ir
  obtain ⟨aa, ba, ma, wa⟩ := mk_opt qa.q ia
  exact ⟨bx, bl, br, ba, ⟨Gn.any ix, mx⟩, ⟨al, ml⟩, ⟨ar, mr⟩, aa, ma⟩
theorem orB_no {u : V} (h : NNo H u) : orB u false = false ∧ nmB u false = false := by
  obtain ⟨_, _, w, n⟩ := h
  refine ⟨?_, ?_⟩
  · show (decide (u = V.non) || (wholeB u || false)) = false
    rw [decide_eq_false n, w]
    rfl
  · show (wholeB u || false) = false
    rw [w]
    rfl
theorem br_put {j : Nat} {u : V} (q : RowQ s r) (ix : IsN H vx r.x) (il : IsO H vl r.l) (ir : IsO H vr r.r) (ia : IsO H va r.a) (hj : j < 4) (h : NNo H u) (ho : H o = some (.tup ([vx, vl, vr, va, V.bl r.t].set j u))) : BadR s rs k H (.ref o) := by
  obtain ⟨bx, bl, br, ba, ⟨a1, m1⟩, ⟨a2, m2⟩, ⟨a3, m3⟩, a4, m4⟩ := vals_mk q ix il ir ia
  have mb : MkV H (V.bl r.t) false := .inr ⟨.bl _, rfl⟩
  obtain ⟨h1, h2⟩ := orB_no h
  refine .inl ?_
  have e : j = 0 ∨ j = 1 ∨ j = 2 ∨ j = 3 := by omega
  rcases e with rfl | rfl | rfl | rfl
  · refine sh_bad ho (.cons h.1 h.2.1 (.cons a2 m2 (.cons a3 m3 (.cons a4 m4 (.cons (.bl _) mb .nil))))) (by show 5 ≤ 1000; decide) ?_
    show (nmB u false && _) = false
    rw [h2]
    rfl
  · refine sh_bad ho (.cons a1 m1 (.cons h.1 h.2.1 (.cons a3 m3 (.cons a4 m4 (.cons (.bl _) mb .nil))))) (by show 5 ≤ 1000; decide) ?_
    show (nmB vx bx && (true && (orB u false && (orB vr br && orB va ba)))) = false
    rw [h1, Bool.false_and, Bool.and_false, Bool.and_false]
  · refine sh_bad ho (.cons a1 m1 (.cons a2 m2 (.cons h.1 h.2.1 (.cons a4 m4 (.cons (.bl _) mb .nil))))) (by show 5 ≤ 1000; decide) ?_
    show (nmB vx bx && (true && (orB vl bl && (orB u false && orB va ba)))) = false
    rw [h1, Bool.false_and, Bool.and_false, Bool.and_false, Bool.and_false]
  · refine sh_bad ho (.cons a1 m1 (.cons a2 m2 (.cons a3 m3 (.cons h.1 h.2.1 (.cons (.bl _) mb .nil))))) (by show 5 ≤ 1000; decide) ?_
    show (nmB vx bx && (true && (orB vl bl && (orB vr br && orB u false)))) = false
    rw [h1, Bool.and_false, Bool.and_false, Bool.and_false, Bool.and_false]
theorem br_put4 {u : V} (q : RowQ s r) (ix : IsN H vx r.x) (il : IsO H vl r.l) (ir : IsO H vr r.r) (ia : IsO H va r.a) (au : AnyV H u) (nu : NoTup H u) (nb : isBoolV u = false) (ho : H o = some (.tup ([vx, vl, vr, va, V.bl r.t].set 4 u))) : BadR s rs k H (.ref o) := by
  obtain ⟨bx, bl, br, ba, ⟨a1, m1⟩, ⟨a2, m2⟩, ⟨a3, m3⟩, a4, m4⟩ := vals_mk q ix il ir ia
  refine .inl (sh_bad ho (.cons a1 m1 (.cons a2 m2 (.cons a3 m3 (.cons a4 m4 (.cons au (.inr ⟨nu, rfl⟩) .nil))))) (by show 5 ≤ 1000; decide) ?_)
  show (nmB vx bx && (isBoolV u && _)) = false
  rw [nb, Bool.false_and, Bool.and_false]
theorem br_four (q : RowQ s r) (ix : IsN H vx r.x) (il : IsO H vl r.l) (ir : IsO H vr r.r) (ia : IsO H va r.a) (ho : H o = some (.tup [vx, vl, vr, va])) : BadR s rs k H (.ref o) := by
  obtain ⟨bx, bl, br, ba, ⟨a1, m1⟩, ⟨a2, m2⟩, ⟨a3, m3⟩, a4, m4⟩ := vals_mk q ix il ir ia
  exact .inl (sh_bad ho (.cons a1 m1 (.cons a2 m2 (.cons a3 m3 (.cons a4 m4 .nil)))) (by show 4 ≤ 1000; decide) rfl)
theorem br_six (q : RowQ s r) (ix : IsN H vx r.x) (il : IsO H vl r.l) (ir : IsO H vr r.r) (ia : IsO H va r.a) (ho : H o = some (.tup [vx, vl, vr, va, V.bl r.t, V.bl false])) : BadR s rs k H (.ref o) := by
  obtain ⟨bx, bl, br, ba, ⟨a1, m1⟩, ⟨a2, m2⟩, ⟨a3, m3⟩, a4, m4⟩ := vals_mk q ix il ir ia
  exact .inl (sh_bad ho (.cons a1 m1 (.cons a2 m2 (.cons a3 m3 (.cons a4 m4 (.cons (.bl _) (.inr ⟨.bl _, rfl⟩) (.cons (.bl _) (.inr ⟨.bl _, rfl⟩) .nil)))))) (by show 6 ≤ 1000; decide) rfl)
theorem br_list {xs : List V} (ho : H o = some (.lst xs)) : BadR s rs k H (.ref o) := .inl (.inr ⟨.lst ho, rfl⟩)
theorem okF_none : OkF s none := fun y e => nomatch e
theorem okF_own (q : RowQ s r) : OkF s (some r.x) := fun y e => by
  cases e
  exact ⟨q.1.2.q, .inl q.1.1⟩
theorem br_loop (q : RowQ s r) (ix : IsN H vx r.x) (hk : k < rs.length) (ho : H o = some (.tup [vx, vx, .non, vx, V.bl false]) ∨ H o = some (.tup [vx, .non, .non, vx, V.bl false])) : BadR s rs k H (.ref o) := by
  rcases ho with ho | ho
  · exact .inr ⟨⟨r.x, some r.x, none, some r.x, false⟩, ⟨o, vx, vx, .non, vx, rfl, ho, ix, ix, rfl, ix⟩, ⟨q.1, okF_own q, okF_none, okF_own q⟩, bad_loop (List.mem_set hk _) rfl⟩
  · exact .inr ⟨⟨r.x, none, none, some r.x, false⟩, ⟨o, vx, .non, .non, vx, rfl, ho, ix, rfl, rfl, ix⟩, ⟨q.1, okF_none, okF_none, okF_own q⟩, bad_loop (List.mem_set hk _) rfl⟩
theorem br_both (q : RowQ s r) (ix : IsN H vx r.x) (ia : IsO H va r.a) (hk : k < rs.length) (ho : H o = some (.tup [vx, vx, vx, va, V.bl r.t])) : BadR s rs k H (.ref o) :=
  .inr ⟨⟨r.x, some r.x, some r.x, r.a, r.t⟩, ⟨o, vx, vx, vx, va, rfl, ho, ix, ix, ix, ia⟩, ⟨q.1, okF_own q, okF_own q, q.2.2.2⟩, bad_lr (List.mem_set hk _) (fun e => nomatch e) rfl⟩
theorem br_far {j : Nat} {z : Nm} {u : V} (q : RowQ s r) (ix : IsN H vx r.x) (il : IsO H vl r.l) (ir : IsO H vr r.r) (ia : IsO H va r.a) (hk : k < rs.length) (h1 : 1 ≤ j) (hj : j < 4) (iu : IsN H u z) (qz : OkF s (some z)) (nz : z ∉ rs.map (·.x)) (ne : z ≠ r.x) (ho : H o = some (.tup ([vx, vl, vr, va, V.bl r.t].set j u))) : BadR s rs k H (.ref o) := by
  have nin : ∀ r' : NRow, r'.x = r.x → z ∉ (rs.set k r').map (·.x) := fun r' e m => by
    obtain ⟨y, my, ey⟩ := List.mem_map.mp m
    rcases List.mem_or_eq_of_mem_set my with my | my
    · exact nz (List.mem_map.mpr ⟨y, my, ey⟩)
    · rw [my, e] at ey
      exact ne ey.symm
  have e : j = 1 ∨ j = 2 ∨ j = 3 := by omega
  rcases e with rfl | rfl | rfl
  · exact .inr ⟨⟨r.x, some z, r.r, r.a, r.t⟩, ⟨o, vx, u, vr, va, rfl, ho, ix, iu, ir, ia⟩, ⟨q.1, qz, q.2.2.1, q.2.2.2⟩, bad_mem (List.mem_set hk _) (nin _ rfl) (.inl rfl)⟩
  · exact .inr ⟨⟨r.x, r.l, some z, r.a, r.t⟩, ⟨o, vx, vl, u, va, rfl, ho, ix, il, iu, ia⟩, ⟨q.1, q.2.1, qz, q.2.2.2⟩, bad_mem (List.mem_set hk _) (nin _ rfl) (.inr (.inl rfl))⟩
  · exact .inr ⟨⟨r.x, r.l, r.r, some z, r.t⟩, ⟨o, vx, vl, vr, u, rfl, ho, ix, il, ir, iu⟩, ⟨q.1, q.2.1, q.2.2.1, qz⟩, bad_mem (List.mem_set hk _) (nin _ rfl) (.inr (.inr rfl))⟩
end
section
variable {H : Hp} {s : Bool} {rs : List NRow} {k : Nat} {xs : List V} {g t : Addr} {v : V}
theorem paired_set {α β : Type} {F : α → β → Prop} {xs : List α} {ys : List β} (p : Paired F xs ys) {x : α} {y : β} (h : F x y) : ∀ k, Paired F (xs.set k x) (ys.set k y) := by
  induction p with
  | nil => intro k; exact .nil
  | cons f t ih =>
    intro k
    cases k with
    | zero => exact .cons h t
    | succ k => exact .cons f (ih k)
theorem rows_sh (rq : RowsQ s rs) (nr : NRs H xs rs) : ∃ bs, ShAll H xs bs ∧ bs.length = xs.length ∧ ∀ b ∈ bs, b = true := by
  induction nr with
  | nil => exact ⟨[], .nil, rfl, fun b m => nomatch m⟩
  | @cons v r vs rs f _ ih =>
    obtain ⟨bs, h1, h2, h3⟩ := ih fun q m => rq q (List.mem_cons_of_mem _ m)
    obtain ⟨qx, ql, qr, qa⟩ := rq r List.mem_cons_self
    refine ⟨true :: bs, .cons (row_sh f qx.2.q ql.q qr.q qa.q) h1, congrArg (· + 1) h2, fun b m => ?_⟩
    rcases List.mem_cons.mp m with rfl | m
    · rfl
    · exact h3 b m
theorem shall_set {bs : List Bool} {b : Bool} (p : ShAll H xs bs) (h : ShV H v b) : ∀ k, ShAll H (xs.set k v) (bs.set k b) := by
  induction p with
  | nil => intro k; exact .nil
  | cons f t ih =>
    intro k
    cases k with
    | zero => exact .cons h t
    | succ k => exact .cons f (ih k)
theorem shall_app {xs' : List V} {bs bs' : List Bool} (p : ShAll H xs bs) (q : ShAll H xs' bs') : ShAll H (xs ++ xs') (bs ++ bs') := by
  induction p with
  | nil => exact q
  | cons f _ ih => exact .cons f ih
theorem bs_set (rq : RowsQ s rs) (nr : NRs H xs rs) (hk : k < rs.length) (lr : rs.length ≤ 1000) (h : BadR s rs k H v) (hg : H g = some (.tup (xs.set k v))) : BadS H (.ref g) := by
  have lx := nr.length
  rcases h with h | ⟨r', ra, q, n⟩
  · obtain ⟨bs, h1, h2, _⟩ := rows_sh rq nr
    refine .inr (.inl ⟨g, _, bs.set k false, rfl, hg, shall_set h1 h k, ?_⟩)
    rw [List.all_eq_false]
    exact ⟨false, List.mem_set (by omega) _, by decide⟩
  · refine .inr (.inr ⟨g, _, s, rs.set k r', rfl, hg, paired_set nr ra k, fun y m => ?_, by rw [List.length_set]; exact lr, n⟩)
    rcases List.mem_or_eq_of_mem_set m with m | rfl
    · exact rq y m
    · exact q
theorem bs_app (rq : RowsQ s rs) (nr : NRs H xs rs) (h : ShV H v false) (hg : H g = some (.tup (xs ++ [v]))) : BadS H (.ref g) := by
  obtain ⟨bs, h1, h2, _⟩ := rows_sh rq nr
  refine .inr (.inl ⟨g, _, bs ++ [false], rfl, hg, shall_app h1 (.cons h .nil), ?_⟩)
  rw [List.all_append]
  exact Bool.and_false _
theorem row_mk {v : V} {r : NRow} (ra : RowAt H v r) (q : RowQ s r) : AnyV H v ∧ MkV H v false ∧ wholeB v = false := by
  obtain ⟨p, vx, vl, vr, va, rfl, hp, ix, il, ir, ia⟩ := ra
  obtain ⟨bx, bl, br, ba, ⟨a1, m1⟩, ⟨a2, m2⟩, ⟨a3, m3⟩, a4, m4⟩ := vals_mk (vx := vx) (vl := vl) (vr := vr) (va := va) q ix il ir ia
  refine ⟨.tup hp, .inl ⟨p, _, rfl, (by show 5 ≤ 1000; decide), hp, fun x m => ?_, fun z w e => ?_, ?_⟩, rfl⟩
  · simp only [List.mem_cons, List.not_mem_nil, or_false] at m
    rcases m with rfl | rfl | rfl | rfl | rfl
    · exact a1
    · exact a2
    · exact a3
    · exact a4
    · exact .bl _
  · injection e with e _
    rw [e] at ix
    cases h : r.x with
    | i n =>
      rw [h] at ix
      exact nomatch ix
    | m kk =>
      rw [h] at ix
      obtain ⟨a, e2, _⟩ := ix
      exact nomatch e2
  · cases h : r.x with
    | i n =>
      rw [h] at ix
      rw [show vx = _ from ix]
      rfl
    | m kk =>
      rw [h] at ix
      obtain ⟨a, e2, _⟩ := ix
      rw [e2]
      rfl
theorem rows_mks (rq : RowsQ s rs) (nr : NRs H xs rs) : ∃ ms, Mks H xs ms ∧ (∀ b ∈ ms, b = false) ∧ ∀ v ∈ xs, wholeB v = false := by
  induction nr with
  | nil => exact ⟨[], .nil, (fun b m => nomatch m), fun v m => nomatch m⟩
  | @cons v r vs rs f _ ih =>
    obtain ⟨ms, h1, h2, h3⟩ := ih fun q m => rq q (List.mem_cons_of_mem _ m)
    obtain ⟨a, m, w⟩ := row_mk f (rq r List.mem_cons_self)
    refine ⟨false :: ms, .cons a m h1, fun b mb => ?_, fun u mu => ?_⟩
    · rcases List.mem_cons.mp mb with rfl | mb
      · rfl
      · exact h2 b mb
    · rcases List.mem_cons.mp mu with rfl | mu
      · exact w
      · exact h3 u mu
theorem bs_one (rq : RowsQ s rs) (nr : NRs H xs rs) (lr : rs.length ≤ 1000) (ht : H t = some (.tup xs)) (hg : H g = some (.tup [.ref t])) : BadS H (.ref g) := by
  obtain ⟨ms, h1, h2, h3⟩ := rows_mks rq nr
  have lx := nr.length
  refine .inr (.inl ⟨g, _, [false], rfl, hg, .cons (sh_bad ht h1 (by omega) ?_) .nil, rfl⟩)
  unfold shB
  split
  · rename_i n l r a t mn ml mr ma mt
    have e1 : wholeB n = false := h3 n List.mem_cons_self
    have e2 : mn = false := h2 mn List.mem_cons_self
    show ((wholeB n || mn) && _) = false
    rw [e1, e2]
    rfl
  · rfl
theorem bs_rows {ys : List V} {qs : List NRow} (hg : H g = some (.tup ys)) (nr : NRs H ys qs) (rq : RowsQ s qs) (lr : qs.length ≤ 1000) (n : ¬ ShOk qs) : BadS H (.ref g) := .inr (.inr ⟨g, ys, s, qs, rfl, hg, nr, rq, lr, n⟩)
end

end My
namespace My
open PySem L2
/-! ### all but the pot stays -/
def Kp2 (b L : Addr) (H H' : Hp) : Prop := ∀ a o, H a = some o → a ≠ b → a ≠ L → H' a = some o
section
variable {b L : Addr} {H H' H2 : Hp}
theorem Kp2.refl : Kp2 b L H H := fun _ _ e _ _ => e
theorem Kp2.trans (k : Kp2 b L H H') (k2 : Kp2 b L H' H2) : Kp2 b L H H2 := fun a o e n1 n2 => k2 a o (k a o e n1 n2) n1 n2
theorem Kp2.of_same (k : Same H H') : Kp2 b L H H' := fun a o e _ _ => k a o e
theorem Kp2.of_but (k : But2 b L H H') : Kp2 b L H H' := k
theorem Kp2.but (k : Kp2 b L H H') : But2 b L H H' := k
theorem Kp2.tupk {m : Int} (k : Kp2 b L H H') (p : PotAt H b L m) : TupK H H' := fun a xs e => by
  obtain ⟨ns, tot, n, p, _⟩ := p
  exact k a _ e (fun z => by rw [z, p.hb] at e; exact nomatch e) (fun z => by rw [z, p.hL] at e; exact nomatch e)
/-- so as long as all but the pot stays -/
def St2 (b L : Addr) (φ : Hp → Prop) (G : Hp) : Prop := ∀ X, Kp2 b L G X → φ X
theorem St2.up {φ : Hp → Prop} (h : St2 b L φ H) (k : Kp2 b L H H') : St2 b L φ H' := fun X k' => h X (k.trans k')
theorem St2.now {φ : Hp → Prop} (h : St2 b L φ H) : φ H := h H Kp2.refl
theorem st2_tup {m : Int} {a : Addr} {xs : List V} (p : PotAt H b L m) (e : H a = some (.tup xs)) : St2 b L (fun X => X a = some (.tup xs)) H := fun X k => k.tupk p a xs e
theorem st2_lst {a : Addr} {xs : List V} (e : H a = some (.lst xs)) (n1 : a ≠ b) (n2 : a ≠ L) : St2 b L (fun X => X a = some (.lst xs)) H := fun X k => k a _ e n1 n2
end
/-- but for one more -/
def Kp3 (b L e : Addr) (H H' : Hp) : Prop := ∀ a o, H a = some o → a ≠ b → a ≠ L → a ≠ e → H' a = some o
def St3 (b L e : Addr) (φ : Hp → Prop) (G : Hp) : Prop := ∀ X, Kp3 b L e G X → φ X
section
variable {b L e e' : Addr} {H H' H2 : Hp} {φ : Hp → Prop}
theorem Kp3.of2 (k : Kp2 b L H H') : Kp3 b L e H H' := fun a o h n1 n2 _ => k a o h n1 n2
theorem Kp3.trans (k : Kp3 b L e H H') (k2 : Kp3 b L e H' H2) : Kp3 b L e H H2 := fun a o h n1 n2 n3 => k2 a o (k a o h n1 n2 n3) n1 n2 n3
theorem Kp3.put {o : HO} : Kp3 b L e H (upd H e o) := fun a x h _ _ n3 => by rw [upd_ne n3]; exact h
theorem St3.up (h : St3 b L e φ H) (k : Kp3 b L e H H') : St3 b L e φ H' := fun X k' => h X (k.trans k')
theorem St3.to2 (h : St3 b L e φ H) : St2 b L φ H := fun X k => h X (.of2 k)
/-- what stood before e was -/
theorem St2.to3 (h : St2 b L φ H) (k : Kp2 b L H H') (n : H e = none) : St3 b L e φ H' := fun X k' => h X fun a o ea n1 n2 => k' a o (k a o ea n1 n2) n1 n2 (ne_of_none ea n)
theorem Kp2.putN {o : HO} (k : Kp2 b L H H') (k2 : Kp2 b L H H2) (n : H' e = none) : Kp2 b L H (upd H2 e o) := fun a x h n1 n2 => by
  rw [upd_ne (ne_of_none (k a x h n1 n2) n)]
  exact k2 a x h n1 n2
end

/-! ### wrong shapes made by the law -/
section
variable {P : Program} {w : World} {K : PySem.W.Frag} {mg : Str → Option Value} {base : Heap}
def spLPut : Sp := fun vs H Q _ => ∃ (p : Addr) (xs : List V) (i : Int) (k : Nat) (v : V), vs = [.ref p, .int i, v] ∧ i = (k : Int) ∧ H p = some (.tup xs) ∧ k < xs.length ∧ xs.length ≤ 1000 ∧ ∀ (g : Addr) (H' : Hp), Same H H' → H' g = some (.tup (xs.set k v)) → Q (.ref g) H'
theorem ok_lput (T : Top K mg) : FnOk P w K mg base CX0 1 T.a_Lput T.d_Lput ["_law_row", "_law_at", "_law_thing"] spLPut := by
  refine T.F_Lput.ok sc_Lput (fun vs H Q E h => ?_) (fun cdv A outer s H vs Q E hr h => ?_)
  · obtain ⟨p, xs, i, k, v, rfl, _⟩ := h
    rfl
  · obtain ⟨p, xs, i, k, v, rfl, rfl, hp, hk, l, q⟩ := h
    refine ⟨_, (pss_one (ps_ret (pe_op op_catA (pe_op op_catA (pe_slice sl_tupA (pv 0) po_none (po_some (pv 1))) (pe_tup (pa_cons (pv 2) pa_nil))) (pe_slice sl_tupA (pv 0) (po_some (pe_op op_add (pv 1) pe_int)) po_none)))), ?_⟩
    refine ⟨_, rfl, _, rfl, (k : Int), rfl, slA rfl hp fun p1 H1 s1 h1 => ⟨_, rfl, (by show 1 ≤ sizeLine; decide), fun p2 np2 => ?_⟩⟩
    rw [cut_toV] at h1
    have s2 := same_new (o := .tup [v]) np2
    have h2 : upd H1 p2 (.tup [v]) p2 = some (.tup [v]) := upd_same
    have h1' := s2 _ _ h1
    generalize upd H1 p2 (.tup [v]) = H2 at s2 h2 h1' ⊢
    refine catA rfl rfl h1' h2 (Nat.le_trans (show _ ≤ 2000 by rw [List.length_take]; show min k xs.length + 1 ≤ 2000; omega) (by decide)) fun p3 H3 s3 h3 => ?_
    have s13 := s1.trans (s2.trans s3)
    refine ⟨_, rfl, _, rfl, _, _, rfl, rfl, _, rfl, ?_⟩
    dsimp only [tNoPart]
    refine slA rfl (s13 _ _ hp) fun p4 H4 s4 h4 => ?_
    have e1 : (k : Int) + 1 = ((k + 1 : Nat) : Int) := by omega
    rw [e1, cut_fromV xs (by omega)] at h4
    refine catA rfl rfl (s4 _ _ h3) h4 (Nat.le_trans (show _ ≤ 3000 by rw [List.length_append, List.length_take, List.length_drop]; show min k xs.length + 1 + (xs.length - (k + 1)) ≤ 3000; omega) (by decide)) fun p5 H5 s5 h5 => ?_
    rw [set_cut hk] at h5
    exact q p5 H5 (s13.trans (s4.trans s5)) h5
def prevI (k n : Nat) : Nat := if k = 0 then n - 1 else k - 1
theorem prev_lt {k n : Nat} (h : k < n) : prevI k n < n := by
  unfold prevI
  split <;> omega
theorem prev_ne {k n : Nat} (h : k < n) (h2 : 2 ≤ n) : prevI k n ≠ k := by
  unfold prevI
  split <;> omega
theorem prev_ix {k n : Nat} (h : k < n) : ixN n ((k : Int) - 1) = some (prevI k n) := by
  unfold ixN prevI
  by_cases c : k = 0
  · subst c
    rw [if_neg (by omega), if_pos rfl]
    rw [if_pos (by omega)]
    congr 1
    omega
  · rw [if_pos (by omega), if_pos (by omega), if_neg c]
    congr 1
    omega
theorem prev_at {α : Type} {xs : List V} {k : Nat} (h : k < xs.length) : atI xs ((k : Int) - 1) = xs[prevI k xs.length]? := by
  unfold atI
  rw [prev_ix h]
  rfl
def spLCrossed : Sp := fun vs H Q _ => ∃ (t : Addr) (xs : List V) (rs : List NRow) (k : Nat), vs = [.ref t, .int (k : Int)] ∧ H t = some (.tup xs) ∧ NRs H xs rs ∧ k < rs.length ∧ 2 ≤ rs.length ∧ rs.length ≤ 1000 ∧
  ∀ (g : Addr) (ys : List V) (r q : NRow) (H' : Hp), Same H H' → H' g = some (.tup ys) → rs[k]? = some r → rs[prevI k rs.length]? = some q → NRs H' ys ((rs.set k ⟨r.x, none, none, some q.x, false⟩).set (prevI k rs.length) ⟨q.x, none, none, some r.x, true⟩) → Q (.ref g) H'
theorem ok_lcrossed (T : Top K mg) : FnOk P w K mg base CX0 1 T.a_Lcrossed T.d_Lcrossed ["_law_shape_here", "_law_at"] spLCrossed := by
  refine T.F_Lcrossed.ok sc_Lcrossed (fun vs H Q E h => ?_) (fun cdv A outer s H vs Q E hr h => ?_)
  · obtain ⟨t, xs, rs, k, rfl, _⟩ := h
    rfl
  · obtain ⟨t, xs, rs, k, rfl, ht, nr, hk, h2, l, q⟩ := h
    have lx := nr.length
    have hv : xs[k]? = some xs[k] := List.getElem?_eq_getElem (by omega)
    have hu : xs[prevI k xs.length]? = some (xs[prevI k xs.length]'(prev_lt (by omega))) := List.getElem?_eq_getElem (prev_lt (by omega))
    obtain ⟨r, hr2, ra⟩ := paired_at nr hv
    obtain ⟨r2, hr3, ra2⟩ := paired_at nr hu
    rw [lx] at hr3
    refine ⟨_, (pss_cons (ps_par (i := 2) (j := 3) (by rfl) sc_Lcrossed.nd rfl rfl (by decide) rfl rfl (pa_cons (pe_ix ix_tup (pv 0) (pv 1) (fun _ _ => rfl)) (pa_cons (pe_ix ix_tup (pv 0) (pe_op op_sub (pv 1) pe_int) (fun _ _ => rfl)) pa_nil)) (by rfl))
      (pss_cons (ps_set (i := 4) sc_Lcrossed.nd rfl (.inl rfl) (pe_callTy call_list_of (by rfl) T.m_list (by decide +kernel) (pa_cons (pv 0) pa_nil)))
      (pss_cons (ps_asg (pe_tup (pa_cons (pe_ix ix_tup (pv 2) pe_int (fun _ _ => rfl)) (pa_cons pe_non (pa_cons pe_non (pa_cons (pe_ix ix_tup (pv 3) pe_int (fun _ _ => rfl)) (pa_cons pe_bl pa_nil)))))) (pg_sub (pv 4) (pv 1) set_list))
      (pss_cons (ps_asg (pe_tup (pa_cons (pe_ix ix_tup (pv 3) pe_int (fun _ _ => rfl)) (pa_cons pe_non (pa_cons pe_non (pa_cons (pe_ix ix_tup (pv 2) pe_int (fun _ _ => rfl)) (pa_cons pe_bl pa_nil)))))) (pg_sub (pv 4) (pe_op op_sub (pv 1) pe_int) set_list))
      (pss_one (ps_ret (pe_callTy call_tuple_of (by rfl) T.m_tuple (by decide +kernel) (pa_cons (pv 4) pa_nil)))))))), ?_⟩
    refine ⟨_, rfl, _, rfl, t, xs, (k : Int), _, rfl, rfl, SqT.of ht, atI_nat hv, _, rfl, _, rfl, _, _, rfl, rfl, t, xs, (k : Int) - 1, _, rfl, rfl, SqT.of ht, (prev_at (α := Unit) (by omega)).trans hu, ?_⟩
    obtain ⟨p, vx, vl, vr, va, e1, hp, ix, il, ir, ia⟩ := ra
    obtain ⟨p2, vx2, vl2, vr2, va2, e2, hp2, ix2, il2, ir2, ia2⟩ := ra2
    rw [e1, e2]
    refine ⟨_, _, rfl, _, rfl, t, _, rfl, .inr (SqT.of ht), fun l nl => ?_⟩
    have s1 := same_new (o := .lst xs) nl
    have hl : upd H l (.lst xs) l = some (.lst xs) := upd_same
    have nr1 := nr.up (Same.tupk s1)
    have hp1 := s1 _ _ hp
    have hp21 := s1 _ _ hp2
    have ix1 := ix.up (Same.tupk s1)
    have ix21 := ix2.up (Same.tupk s1)
    generalize upd H l (.lst xs) = H1 at s1 hl nr1 hp1 hp21 ix1 ix21 ⊢
    refine ⟨_, rfl, p, _, 0, _, rfl, rfl, SqT.of hp1, atI_nat (j := 0) rfl, _, rfl, p2, _, 0, _, rfl, rfl, SqT.of hp21, atI_nat (j := 0) rfl, (by show 5 ≤ sizeLine; decide), fun c nc => ?_⟩
    have s2 := same_new (o := .tup [vx, .non, .non, vx2, V.bl false]) nc
    have hc : upd H1 c (.tup [vx, .non, .non, vx2, V.bl false]) c = some (.tup [vx, .non, .non, vx2, V.bl false]) := upd_same
    have nr2 := nr1.up (Same.tupk s2)
    have hl2 := s2 _ _ hl
    have hp12 := s2 _ _ hp1
    have hp22 := s2 _ _ hp21
    have ix12 := ix1.up (Same.tupk s2)
    have ix22 := ix21.up (Same.tupk s2)
    have s02 := s1.trans s2
    generalize upd H1 c (.tup [vx, .non, .non, vx2, V.bl false]) = H2 at s2 hc nr2 hl2 hp12 hp22 ix12 ix22 s02 ⊢
    have ixk : ixN xs.length (k : Int) = some k := by
      unfold ixN
      rw [if_pos (by omega), if_pos (by omega)]
      congr 1
    refine ⟨_, rfl, _, rfl, l, _, (k : Int), k, rfl, rfl, hl2, ixk, ?_⟩
    have s3 : Same H (upd H2 l (.lst (xs.set k (.ref c)))) := same_put s02 nl
    have tk3 : TupK H2 (upd H2 l (.lst (xs.set k (.ref c)))) := TupK.refl.put hl2 (by intro xs e; cases e)
    have hl3 : upd H2 l (.lst (xs.set k (.ref c))) l = some (.lst (xs.set k (.ref c))) := upd_same
    have hc3 := tk3 _ _ hc
    have nr3 := nr2.up tk3
    have hp13 := tk3 _ _ hp12
    have hp23 := tk3 _ _ hp22
    have ix13 := ix12.up tk3
    have ix23 := ix22.up tk3
    generalize upd H2 l (.lst (xs.set k (.ref c))) = H3 at s3 hl3 hc3 nr3 hp13 hp23 ix13 ix23 ⊢
    refine ⟨_, rfl, p2, _, 0, _, rfl, rfl, SqT.of hp23, atI_nat (j := 0) rfl, _, rfl, p, _, 0, _, rfl, rfl, SqT.of hp13, atI_nat (j := 0) rfl, (by show 5 ≤ sizeLine; decide), fun c2 nc2 => ?_⟩
    have s4 := same_new (o := .tup [vx2, .non, .non, vx, V.bl true]) nc2
    have hc2 : upd H3 c2 (.tup [vx2, .non, .non, vx, V.bl true]) c2 = some (.tup [vx2, .non, .non, vx, V.bl true]) := upd_same
    have nr4 := nr3.up (Same.tupk s4)
    have hl4 := s4 _ _ hl3
    have hc4 := s4 _ _ hc3
    have ix14 := ix13.up (Same.tupk s4)
    have ix24 := ix23.up (Same.tupk s4)
    have s04 := s3.trans s4
    generalize upd H3 c2 (.tup [vx2, .non, .non, vx, V.bl true]) = H4 at s4 hc2 nr4 hl4 hc4 ix14 ix24 s04 ⊢
    refine ⟨_, rfl, _, rfl, _, _, rfl, rfl, l, _, (k : Int) - 1, prevI k xs.length, rfl, rfl, hl4, by rw [List.length_set]; exact prev_ix (by omega), ?_⟩
    have s5 : Same H (upd H4 l (.lst ((xs.set k (.ref c)).set (prevI k xs.length) (.ref c2)))) := same_put s04 nl
    have tk5 : TupK H4 (upd H4 l (.lst ((xs.set k (.ref c)).set (prevI k xs.length) (.ref c2)))) := TupK.refl.put hl4 (by intro xs e; cases e)
    have hl5 : upd H4 l (.lst ((xs.set k (.ref c)).set (prevI k xs.length) (.ref c2))) l = some (.lst ((xs.set k (.ref c)).set (prevI k xs.length) (.ref c2))) := upd_same
    have hc5 := tk5 _ _ hc4
    have hc25 := tk5 _ _ hc2
    have nr5 := nr4.up tk5
    have ix15 := ix14.up tk5
    have ix25 := ix24.up tk5
    generalize upd H4 l (.lst ((xs.set k (.ref c)).set (prevI k xs.length) (.ref c2))) = H5 at s5 hl5 hc5 hc25 nr5 ix15 ix25 ⊢
    refine ⟨_, rfl, l, _, rfl, .inl ⟨SqL.of hl5, fun g ng => ?_⟩⟩
    have s6 := same_new (o := .tup ((xs.set k (.ref c)).set (prevI k xs.length) (.ref c2))) ng
    refine q g _ r r2 _ (s5.trans s6) upd_same hr2 hr3 (NRs.up (Same.tupk s6) ?_)
    rw [lx]
    have r1 : RowAt H5 (.ref c) ⟨r.x, none, none, some r2.x, false⟩ := ⟨c, vx, .non, .non, vx2, rfl, hc5, ix15, rfl, rfl, ix25⟩
    have r3 : RowAt H5 (.ref c2) ⟨r2.x, none, none, some r.x, true⟩ := ⟨c2, vx2, .non, .non, vx, rfl, hc25, ix25, rfl, rfl, ix15⟩
    exact paired_set (paired_set nr5 r1 k) r3 _
end

end My
namespace My
open PySem L2
theorem paired_dropN {α β : Type} {F : α → β → Prop} {xs : List α} {ys : List β} (p : Paired F xs ys) : ∀ n, Paired F (xs.drop n) (ys.drop n) := by
  induction p with
  | nil => intro n; rw [List.drop_nil, List.drop_nil]; exact .nil
  | cons f t ih =>
    intro n
    cases n with
    | zero => exact .cons f t
    | succ n => exact ih n
theorem paired_takeN {α β : Type} {F : α → β → Prop} {xs : List α} {ys : List β} (p : Paired F xs ys) : ∀ n, Paired F (xs.take n) (ys.take n) := by
  induction p with
  | nil => intro n; rw [List.take_nil, List.take_nil]; exact .nil
  | cons f t ih =>
    intro n
    cases n with
    | zero => exact .nil
    | succ n => exact .cons f (ih n)
theorem bad_turn {rs : List NRow} (h : ShOk rs) (two : 2 ≤ rs.length) : ¬ ShOk (rs.drop 1 ++ rs.take 1) := by
  cases rs with
  | nil => exact absurd two (by show ¬ 2 ≤ 0; decide)
  | cons y0 rest =>
    have l1 : 1 ≤ rest.length := by
      have : 2 ≤ rest.length + 1 := two
      omega
    have hn : rest[rest.length - 1]? = some rest[rest.length - 1] := List.getElem?_eq_getElem (by omega)
    have ris : RisN (y0.x :: rest.map (·.x)) := h.1
    have lt : ltN y0.x rest[rest.length - 1].x = true := ris_lt ris _ (List.mem_map.mpr ⟨_, List.mem_of_getElem? hn, rfl⟩)
    show ¬ ShOk (rest ++ [y0])
    refine bad_ris (i := rest.length - 1) (x := rest[rest.length - 1].x) (y := y0.x) ?_ ?_ ?_
    · rw [List.getElem?_map, List.getElem?_append_left (by omega), hn]
      rfl
    · rw [List.getElem?_map, List.getElem?_append_right (by omega), show rest.length - 1 + 1 - rest.length = 0 by omega]
      rfl
    · cases z : ltN rest[rest.length - 1].x y0.x with
      | false => rfl
      | true =>
        have y := PyProof.Rows.lex_trans _ _ _ lt z
        rw [PyProof.Rows.lex_irrefl] at y
        exact nomatch y
theorem lay_optQ {o : Option Nm} (h : QO o) : PyData.canLay0 (encO o) = true ∧ PyData.depth (encO o) ≤ 1 := by
  cases o with
  | none => exact ⟨rfl, Nat.zero_le _⟩
  | some x =>
    obtain ⟨s, g⟩ := (h x rfl).gn
    exact ⟨g.lay, g.dep⟩
theorem lay_rowQ {s : Bool} {r : NRow} (q : RowQ s r) : PyData.canLay0 (encR r) = true ∧ PyData.depth (encR r) ≤ 2 := by
  obtain ⟨x1, x2⟩ := lay_optQ (o := some r.x) fun y e => by cases e; exact q.1.2.q
  obtain ⟨l1, l2⟩ := lay_optQ q.2.1.q
  obtain ⟨r1, r2⟩ := lay_optQ q.2.2.1.q
  obtain ⟨a1, a2⟩ := lay_optQ q.2.2.2.q
  refine ⟨?_, ?_⟩
  · show (PyData.canLay0 (encO (some r.x)) && (PyData.canLay0 _ && (PyData.canLay0 _ && (PyData.canLay0 _ && (PyData.canLay0 _ && true))))) = true
    rw [x1, l1, r1, a1]
    rfl
  · show max (encO (some r.x)).depth (max (encO r.l).depth (max (encO r.r).depth (max (encO r.a).depth (max 0 0)))) + 1 ≤ 2
    omega
theorem shp_rowsQ {s : Bool} {qs : List NRow} (h : ∀ q ∈ qs, RowQ s q) : SeqAt.shaped (.list (qs.map encR)) = true := by
  have all : PyData.canLayAll0 (qs.map encR) = true ∧ PyData.depthAll (qs.map encR) ≤ 2 := by
    induction qs with
    | nil => exact ⟨rfl, Nat.zero_le _⟩
    | cons q qs ih =>
      obtain ⟨a1, a2⟩ := lay_rowQ (h q List.mem_cons_self)
      obtain ⟨b1, b2⟩ := ih fun y m => h y (List.mem_cons_of_mem _ m)
      refine ⟨?_, ?_⟩
      · show (PyData.canLay0 _ && PyData.canLayAll0 _) = true
        rw [a1, b1]
        rfl
      · show max _ (PyData.depthAll _) ≤ 2
        exact Nat.max_le.mpr ⟨a2, b2⟩
  unfold SeqAt.shaped
  rw [show PyData.canLay0 (.list (qs.map encR)) = true from all.1, decide_eq_true (show PyData.depth (.list (qs.map encR)) ≤ 64 by show PyData.depthAll _ + 1 ≤ 64; have := all.2; omega)]
  rfl
theorem nil_rows : ∀ qs : List NRow, PyData.eqv (.list (qs.map encR)) (.list []) = qs.isEmpty
  | [] => by decide +kernel
  | x :: l => by
    show PyData.eqv (.list (encR x :: l.map encR)) (.list []) = false
    simp [PyData.eqv, PyData.eqvAll]
theorem shp_three {s : Bool} {r : NRow} (q : RowQ s r) : SeqAt.shaped (.tuple [encO r.l, encO r.r, encO r.a]) = true := by
  obtain ⟨l1, l2⟩ := lay_optQ q.2.1.q
  obtain ⟨r1, r2⟩ := lay_optQ q.2.2.1.q
  obtain ⟨a1, a2⟩ := lay_optQ q.2.2.2.q
  unfold SeqAt.shaped
  rw [show PyData.canLay0 (.tuple [encO r.l, encO r.r, encO r.a]) = true by show (PyData.canLay0 _ && (PyData.canLay0 _ && (PyData.canLay0 _ && true))) = true; rw [l1, r1, a1]; rfl, decide_eq_true (show PyData.depth (.tuple [encO r.l, encO r.r, encO r.a]) ≤ 64 by show max _ (max _ (max _ 0)) + 1 ≤ 64; omega)]
  rfl
theorem any_three {s : Bool} {r : NRow} {x : Nm} (q : RowQ s r) (qx : MarkQ x) : ([encO r.l, encO r.r, encO r.a].any fun e => PyData.eqv e (encN x)) = (decide (r.l = some x) || (decide (r.r = some x) || decide (r.a = some x))) := by
  have e : ∀ {o : Option Nm}, QO o → PyData.eqv (encO o) (encN x) = decide (o = some x) := fun h => eq_nmQ (y := some x) h fun y e => by cases e; exact qx
  show (PyData.eqv (encO r.l) (encN x) || (PyData.eqv (encO r.r) (encN x) || (PyData.eqv (encO r.a) (encN x) || false))) = _
  rw [e q.2.1.q, e q.2.2.1.q, e q.2.2.2.q, Bool.or_false]
section
variable {P : Program} {w : World} {K : PySem.W.Frag} {mg : Str → Option Value} {base : Heap}
theorem nno_nt {H : Hp} {o : V} (h : NoTup H o) (a : AnyV H o) (w : wholeB o = false) (n : o ≠ .non) : NNo H o := ⟨a, .inr ⟨h, rfl⟩, w, n⟩
theorem nno_tup {H : Hp} {a : Addr} {z : Str} {xs : List V} (h : H a = some (.tup (.str z :: xs))) (any : ∀ x ∈ xs, AnyV H x) (l : xs.length ≤ 900) (sh : SeqAt.shaped (.str z) = true) (e : markB (.str z :: xs) = false) : NNo H (.ref a) := by
  refine ⟨.tup h, .inl ⟨a, _, rfl, by rw [List.length_cons]; omega, h, fun x m => ?_, fun y w e2 => ?_, e.symm⟩, rfl, fun z => nomatch z⟩
  · rcases List.mem_cons.mp m with rfl | m
    · exact .str _
    · exact any x m
  · injection e2 with e3 _
    injection e3 with e3
    rw [← e3]
    exact sh
def spLWrong : Sp := fun vs H Q _ => ∃ (b L t : Addr) (m : Int) (xs : List V) (s : Bool) (rs : List NRow), vs = [.ref b, .ref t] ∧ PotAt H b L m ∧ m < 2 ^ 40 ∧ H t = some (.tup xs) ∧ NRs H xs rs ∧ RowsQ s rs ∧ 1 ≤ rs.length ∧ rs.length ≤ 60 ∧ ShOk rs ∧ (∀ r ∈ rs, ∀ y, (r.l = some y ∨ r.r = some y ∨ r.a = some y) → y ≠ r.x) ∧
  ∀ (v : V) (H' : Hp), BadS H' v → PotAt H' b L (m + 10) → But2 b L H H' → Q v H'
theorem ok_lwrong (T : Top K mg) : FnOk P w K mg base CX0 3 T.a_Lwrong T.d_Lwrong ["_law_pot_here", "_law_shape_here"] spLWrong := by
  have G_Ltake : FnOk P w K mg base CX0 2 _ _ _ _ := ok_take T
  have G_Lput : FnOk P w K mg base CX0 1 _ _ _ _ := ok_lput T
  have G_Lcrossed : FnOk P w K mg base CX0 1 _ _ _ _ := ok_lcrossed T
  refine T.F_Lwrong.ok sc_Lwrong (fun vs H Q E h => ?_) (fun cdv A outer s H vs Q E hr h => ?_)
  · obtain ⟨b, L, t, m, xs, s, rs, rfl, _⟩ := h
    rfl
  · obtain ⟨b, L, t, m, xs, sn, rs, rfl, P0, mm, ht, nr, rq, l1, l60, sok, own, q⟩ := h
    have lx := nr.length
    refine ⟨_, (pss_cons (ps_set (i := 2) sc_Lwrong.nd rfl (.inr rfl) (pe_call G_Ltake hr (by rfl) T.g_Ltake T.F_Ltake.kp T.b_Ltake .nil pass0 (pa_cons (pv 0) (pa_cons (pe_callB call_len_seq (by rfl) T.m_len PySem.boot_len (pa_cons (pv 1) pa_nil)) pa_nil))))
      (pss_cons (ps_set (i := 3) sc_Lwrong.nd rfl (.inl rfl) (pe_ix ix_tup (pv 1) (pv 2) (fun _ _ => rfl)))
      (pss_cons (ps_set (i := 4) sc_Lwrong.nd rfl (.inr rfl) (pe_ix ix_tup (pv 3) pe_int (fun _ _ => rfl)))
      (pss_cons (ps_set (i := 5) sc_Lwrong.nd rfl (.inl rfl) (pe_lst (pa_cons (pe_tup (pa_cons pe_str (pa_cons pe_bl pa_nil))) (pa_cons pe_str (pa_cons pe_bl (pa_cons pe_bl (pa_cons (pe_tup (pa_cons pe_str pa_nil)) (pa_cons (pe_tup (pa_cons pe_str (pa_cons pe_int pa_nil))) (pa_cons (pe_lst (pa_cons pe_int pa_nil)) (pa_cons (pe_tup (pa_cons pe_str (pa_cons pe_int pa_nil))) (pa_cons (pe_tup (pa_cons pe_str (pa_cons pe_str pa_nil))) (pa_cons (pe_op op_pow pe_int pe_int) pa_nil))))))))))))
      (pss_cons (ps_set (i := 6) sc_Lwrong.nd rfl (.inl rfl) (pe_ix ix_list (pv 5) (pe_call G_Ltake hr (by rfl) T.g_Ltake T.F_Ltake.kp T.b_Ltake .nil pass0 (pa_cons (pv 0) (pa_cons pe_int pa_nil))) (fun _ _ => rfl)))
      (pss_cons (ps_set (i := 7) sc_Lwrong.nd rfl (.inl rfl) (pe_lst (pa_cons (pe_call G_Lput (hr.mono (by decide)) (by rfl) T.g_Lput T.F_Lput.kp T.b_Lput .nil pass0 (pa_cons (pv 3) (pa_cons (pe_op op_add pe_int (pe_call G_Ltake hr (by rfl) T.g_Ltake T.F_Ltake.kp T.b_Ltake .nil pass0 (pa_cons (pv 0) (pa_cons pe_int pa_nil)))) (pa_cons (pv 6) pa_nil)))) (pa_cons (pe_call G_Lput (hr.mono (by decide)) (by rfl) T.g_Lput T.F_Lput.kp T.b_Lput .nil pass0 (pa_cons (pv 3) (pa_cons pe_int (pa_cons (pe_callTy call_int1 (by rfl) T.m_int (by decide +kernel) (pa_cons (pe_ix ix_tup (pv 3) pe_int (fun _ _ => rfl)) pa_nil)) pa_nil)))) (pa_cons (pe_call G_Lput (hr.mono (by decide)) (by rfl) T.g_Lput T.F_Lput.kp T.b_Lput .nil pass0 (pa_cons (pv 3) (pa_cons pe_int (pa_cons pe_non pa_nil)))) pa_nil)))))
      (pss_cons (ps_set (i := 7) sc_Lwrong.nd rfl (.inl rfl) (pe_op op_cat (pv 7) (pe_lst (pa_cons (pe_slice (sl_tupAK (K := K) rfl) (pv 3) po_none (po_some pe_int)) (pa_cons (pe_op op_catA (pv 3) (pe_tup (pa_cons pe_bl pa_nil))) (pa_cons (pe_callTy call_list_of (by rfl) T.m_list (by decide +kernel) (pa_cons (pv 3) pa_nil)) (pa_cons (pe_call G_Lput (hr.mono (by decide)) (by rfl) T.g_Lput T.F_Lput.kp T.b_Lput .nil pass0 (pa_cons (pv 3) (pa_cons pe_int (pa_cons (pe_ix ix_list (pv 5) (pe_call G_Ltake hr (by rfl) T.g_Ltake T.F_Ltake.kp T.b_Ltake .nil pass0 (pa_cons (pv 0) (pa_cons pe_int pa_nil))) (fun _ _ => rfl)) pa_nil)))) pa_nil)))))))
      (pss_cons (ps_expr (pe_bm PySem.F.plainAttrs_list PySem.F.slot_list_append PySem.F.type_list_append mt_append (pv 7) (pa_cons (pe_tup (pa_cons (pv 4) (pa_cons (pv 4) (pa_cons pe_non (pa_cons (pv 4) (pa_cons pe_bl pa_nil)))))) pa_nil)))
      (pss_cons (ps_set (i := 7) sc_Lwrong.nd rfl (.inl rfl) (pe_op op_cat (pv 7) (pe_lst (pa_cons (pe_tup (pa_cons (pv 4) (pa_cons pe_non (pa_cons pe_non (pa_cons (pv 4) (pa_cons pe_bl pa_nil)))))) (pa_cons (pe_call G_Lput (hr.mono (by decide)) (by rfl) T.g_Lput T.F_Lput.kp T.b_Lput .nil pass0 (pa_cons (pe_call G_Lput (hr.mono (by decide)) (by rfl) T.g_Lput T.F_Lput.kp T.b_Lput .nil pass0 (pa_cons (pv 3) (pa_cons pe_int (pa_cons (pv 4) pa_nil)))) (pa_cons pe_int (pa_cons (pv 4) pa_nil)))) pa_nil)))))
      (pss_cons (ps_setLc (i := 8) (own := [("_law_other", 9)]) (g := gName 9) (tt := tYes) (by rfl) sc_Lwrong.nd rfl rfl (sw_true rfl rfl rfl (by decide +kernel)) (pi_list (pv 7)) (blkOk_by (own := [("_law_other", 9)]) (N := ["_law_pot_here", "_law_shape_here", "_law_at", "_law_row", "_law_name", "_law_odd", "_law_far", "_law_some", "_law_wrong_here", "_law_other", "_law_named"]) (sc := defScope s_Lwrong) (by decide +kernel)) (fun _ _ _ _ _ => (pg_name (i := 9) sc_Lwrong.nd rfl (.inl rfl))) (fun _ _ _ _ _ => pts_nil) (fun _ _ _ _ _ => (pe_op (op_catAK (K := K) rfl) (pe_op (op_catAK (K := K) rfl) (pe_slice (sl_tupAK (K := K) rfl) (pv 1) po_none (po_some (pv 2))) (pe_tup (pa_cons (pv 9) pa_nil))) (pe_slice (sl_tupAK (K := K) rfl) (pv 1) (po_some (pe_op op_add (pv 2) pe_int)) po_none))))
      (pss_cons (ps_set (i := 8) sc_Lwrong.nd rfl (.inl rfl) (pe_op op_cat (pv 8) (pe_lst (pa_cons (pe_op op_catA (pe_slice (sl_tupAK (K := K) rfl) (pv 1) po_none (po_some (pe_op op_add (pv 2) pe_int))) (pe_slice (sl_tupAK (K := K) rfl) (pv 1) (po_some (pv 2)) po_none)) (pa_cons (pe_callTy call_list_of (by rfl) T.m_list (by decide +kernel) (pa_cons (pv 1) pa_nil)) (pa_cons (pe_op op_catA (pv 1) (pe_tup (pa_cons pe_non pa_nil))) (pa_cons (pe_tup (pa_cons (pv 1) pa_nil)) (pa_cons (pe_op op_catA (pv 1) (pe_tup (pa_cons (pe_tup pa_nil) pa_nil))) pa_nil))))))))
      (pss_cons (ps_mid (ps_if (pt_cmpR op_gt (pe_callB call_len_seq (by rfl) T.m_len PySem.boot_len (pa_cons (pv 1) pa_nil)) pe_int (nomark _)) (pss_one (ps_set (i := 8) sc_Lwrong.nd rfl (.inl rfl) (pe_op op_cat (pv 8) (pe_lst (pa_cons (pe_op op_catA (pe_slice (sl_tupAK (K := K) rfl) (pv 1) (po_some pe_int) po_none) (pe_slice (sl_tupAK (K := K) rfl) (pv 1) po_none (po_some pe_int))) (pa_cons (pe_call G_Lcrossed (hr.mono (by decide)) (by rfl) T.g_Lcrossed T.F_Lcrossed.kp T.b_Lcrossed .nil pass0 (pa_cons (pv 1) (pa_cons (pv 2) pa_nil))) pa_nil)))))) pss_nil))
      (pss_cons (ps_setLc (i := 10) (own := [("_law_other", 9)]) (g := gName 9) (by rfl) sc_Lwrong.nd rfl rfl (sw_true rfl rfl rfl (by decide +kernel)) (pi_tup (pv 1)) (blkOk_by (own := [("_law_other", 9)]) (N := ["_law_pot_here", "_law_shape_here", "_law_at", "_law_row", "_law_name", "_law_odd", "_law_far", "_law_some", "_law_wrong_here", "_law_other", "_law_named"]) (sc := defScope s_Lwrong) (by decide +kernel)) (fun _ _ _ _ _ => (pg_name (i := 9) sc_Lwrong.nd rfl (.inl rfl))) (fun _ _ _ _ _ => (pts_one (pt_cmpR (op_inTK (K := K) rfl (u65 hr)) (pv 4) (pe_slice (sl_tupAK (K := K) rfl) (pv 9) (po_some pe_int) (po_some pe_int)) (by rfl)))) (fun _ _ _ _ _ => (pv 9)))
      (pss_cons (ps_mid (ps_if (pt_cmpR (op_neD hr.units) (pv 10) (pe_lst pa_nil) (nomark _)) (pss_one (ps_expr (pe_bm PySem.F.plainAttrs_list PySem.F.slot_list_append PySem.F.type_list_append mt_append (pv 8) (pa_cons (pe_op op_catA (pe_slice (sl_tupAK (K := K) rfl) (pv 1) po_none (po_some (pv 2))) (pe_slice (sl_tupAK (K := K) rfl) (pv 1) (po_some (pe_op op_add (pv 2) pe_int)) po_none)) pa_nil)))) pss_nil))
      (pss_one (ps_ret (pe_ix ix_list (pv 8) (pe_call G_Ltake hr (by rfl) T.g_Ltake T.F_Ltake.kp T.b_Ltake .nil pass0 (pa_cons (pv 0) (pa_cons (pe_callB call_len_seq (by rfl) T.m_len PySem.boot_len (pa_cons (pv 8) pa_nil)) pa_nil))) (fun _ _ => rfl)))))))))))))))))), ?_⟩
    refine ⟨_, rfl, _, rfl, t, _, rfl, .inr (SqT.of ht), b, L, m, (xs.length : Int), rfl, P0, by omega, by omega, by omega, fun a1 H1 a10 a11 P1 k1 => ?_⟩
    obtain ⟨k, rfl⟩ : ∃ k : Nat, a1 = (k : Int) := ⟨a1.toNat, by omega⟩
    have hk : k < rs.length := by omega
    have tk1 := TupK.but2 k1 P0
    have ht1 := tk1 _ _ ht
    have nr1 := nr.up tk1
    have hv : xs[k]? = some xs[k] := List.getElem?_eq_getElem (by omega)
    obtain ⟨r, hr2, ra⟩ := paired_at nr1 hv
    obtain ⟨p, vx, vl, vr, va, e1, hp, ix, il, ir, ia⟩ := ra
    have mr := List.mem_of_getElem? hr2
    have qr : RowQ sn r := rq r mr
    refine ⟨_, rfl, _, rfl, t, xs, (k : Int), _, rfl, rfl, SqT.of ht1, atI_nat hv, ?_⟩
    rw [e1]
    refine ⟨_, rfl, p, _, 0, _, rfl, rfl, SqT.of hp, atI_nat (j := 0) rfl, ?_⟩
    have rowX : ∀ {X : Hp}, Kp2 b L H1 X → (X p = some (.tup [vx, vl, vr, va, V.bl r.t]) ∧ IsN X vx r.x ∧ IsO X vl r.l ∧ IsO X vr r.r ∧ IsO X va r.a) ∧ X t = some (.tup xs) ∧ NRs X xs rs := fun k => by
      have tk := k.tupk P1
      exact ⟨⟨tk _ _ hp, ix.up tk, il.up tk, ir.up tk, ia.up tk⟩, tk _ _ ht1, nr1.up tk⟩
    -- odd things
    refine ⟨(by show 2 ≤ sizeLine; decide), fun o1 n1 => ⟨(by show 1 ≤ sizeLine; decide), fun o2 n2 => ⟨(by show 2 ≤ sizeLine; decide), fun o3 n3 => ⟨(by show 1 ≤ sizeLine; decide), fun o4 n4 => ⟨(by show 2 ≤ sizeLine; decide), fun o5 n5 => ⟨(by show 2 ≤ sizeLine; decide), fun o6 n6 => ⟨_, _, rfl, rfl, ⟨by decide, by decide, by decide⟩, (by show 10 ≤ sizeLine; decide), fun lo nlo => ?_⟩⟩⟩⟩⟩⟩⟩
    dsimp only
    have e9 : (10 : Int) ^ (9 : Int).toNat = 10 ^ 9 := rfl
    rw [e9]
    have u1 := same_new (o := .tup [.str "point", .bl true]) n1
    have g1 : upd H1 o1 (.tup [.str "point", .bl true]) o1 = some (.tup [.str "point", .bl true]) := upd_same
    generalize upd H1 o1 (.tup [.str "point", .bl true]) = G1 at n2 n3 n4 n5 n6 nlo u1 g1 ⊢
    have u2 := same_new (o := .tup [.str "point"]) n2
    have g2 : upd G1 o2 (.tup [.str "point"]) o2 = some (.tup [.str "point"]) := upd_same
    generalize upd G1 o2 (.tup [.str "point"]) = G2 at n3 n4 n5 n6 nlo u2 g2 ⊢
    have u3 := same_new (o := .tup [.str "over", .int 1]) n3
    have g3 : upd G2 o3 (.tup [.str "over", .int 1]) o3 = some (.tup [.str "over", .int 1]) := upd_same
    generalize upd G2 o3 (.tup [.str "over", .int 1]) = G3 at n4 n5 n6 nlo u3 g3 ⊢
    have P3 := ((P1.same u1).same u2).same u3
    obtain ⟨x4, y4⟩ := P3.ne n4
    have u4 := same_new (o := .lst [.int 0]) n4
    have g4 : upd G3 o4 (.lst [.int 0]) o4 = some (.lst [.int 0]) := upd_same
    generalize upd G3 o4 (.lst [.int 0]) = G4 at n5 n6 nlo u4 g4 ⊢
    have u5 := same_new (o := .tup [.str "way", .int 1]) n5
    have g5 : upd G4 o5 (.tup [.str "way", .int 1]) o5 = some (.tup [.str "way", .int 1]) := upd_same
    generalize upd G4 o5 (.tup [.str "way", .int 1]) = G5 at n6 nlo u5 g5 ⊢
    have u6 := same_new (o := .tup [.str "point", .str "0"]) n6
    have g6 : upd G5 o6 (.tup [.str "point", .str "0"]) o6 = some (.tup [.str "point", .str "0"]) := upd_same
    generalize upd G5 o6 (.tup [.str "point", .str "0"]) = G6 at nlo u6 g6 ⊢
    have s16 := ((u1.trans u2).trans u3).trans ((u4.trans u5).trans u6)
    have P6 := P1.same s16
    obtain ⟨xlo, ylo⟩ := P6.ne nlo
    have u7 := same_new (o := .lst [.ref o1, .str "0", .bl true, .bl false, .ref o2, .ref o3, .ref o4, .ref o5, .ref o6, .int (10 ^ 9)]) nlo
    have hlo : upd G6 lo (.lst [.ref o1, .str "0", .bl true, .bl false, .ref o2, .ref o3, .ref o4, .ref o5, .ref o6, .int (10 ^ 9)]) lo = some (.lst [.ref o1, .str "0", .bl true, .bl false, .ref o2, .ref o3, .ref o4, .ref o5, .ref o6, .int (10 ^ 9)]) := upd_same
    generalize upd G6 lo (.lst [.ref o1, .str "0", .bl true, .bl false, .ref o2, .ref o3, .ref o4, .ref o5, .ref o6, .int (10 ^ 9)]) = G7 at u7 hlo ⊢
    have P7 := P6.same u7
    have k7 : Kp2 b L H1 G7 := .of_same (s16.trans u7)
    have stlo := st2_lst hlo xlo ylo
    have odd : ∀ j : Nat, j < 9 → ∃ o, [V.ref o1, .str "0", .bl true, .bl false, .ref o2, .ref o3, .ref o4, .ref o5, .ref o6, .int (10 ^ 9)][j]? = some o ∧ St2 b L (fun X => NNo X o) G7 := by
      have f1 := st2_tup P7 (u7 _ _ (u6 _ _ (u5 _ _ (u4 _ _ (u3 _ _ (u2 _ _ g1))))))
      have f2 := st2_tup P7 (u7 _ _ (u6 _ _ (u5 _ _ (u4 _ _ (u3 _ _ g2)))))
      have f3 := st2_tup P7 (u7 _ _ (u6 _ _ (u5 _ _ (u4 _ _ g3))))
      have f4 := st2_lst (u7 _ _ (u6 _ _ (u5 _ _ g4))) x4 y4
      have f5 := st2_tup P7 (u7 _ _ (u6 _ _ g5))
      have f6 := st2_tup P7 (u7 _ _ g6)
      intro j hj
      have pt : SeqAt.shaped (.str "point") = true := by decide +kernel
      match j, hj with
      | 0, _ => exact ⟨_, rfl, fun X kX => nno_tup (f1 X kX) (fun x m => by rw [List.mem_singleton.mp m]; exact .bl _) (by show 1 ≤ 900; decide) pt (by decide +kernel)⟩
      | 1, _ => exact ⟨_, rfl, fun X kX => nno_nt (.str _) (.str _) rfl (fun z => nomatch z)⟩
      | 2, _ => exact ⟨_, rfl, fun X kX => nno_nt (.bl _) (.bl _) rfl (fun z => nomatch z)⟩
      | 3, _ => exact ⟨_, rfl, fun X kX => nno_nt (.bl _) (.bl _) rfl (fun z => nomatch z)⟩
      | 4, _ => exact ⟨_, rfl, fun X kX => nno_tup (f2 X kX) (fun x m => nomatch m) (by show 0 ≤ 900; decide) pt (by decide +kernel)⟩
      | 5, _ => exact ⟨_, rfl, fun X kX => nno_tup (f3 X kX) (fun x m => by rw [List.mem_singleton.mp m]; exact .int _) (by show 1 ≤ 900; decide) (by decide +kernel) (by decide +kernel)⟩
      | 6, _ => exact ⟨_, rfl, fun X kX => nno_nt (.lst (f4 X kX)) (.lst (f4 X kX)) rfl (fun z => nomatch z)⟩
      | 7, _ => exact ⟨_, rfl, fun X kX => nno_tup (f5 X kX) (fun x m => by rw [List.mem_singleton.mp m]; exact .int _) (by show 1 ≤ 900; decide) (by decide +kernel) (by decide +kernel)⟩
      | 8, _ => exact ⟨_, rfl, fun X kX => nno_tup (f6 X kX) (fun x m => by rw [List.mem_singleton.mp m]; exact .str _) (by show 1 ≤ 900; decide) pt (by decide +kernel)⟩
      | j + 9, h => exact absurd h (by omega)
    have odd9 : [V.ref o1, .str "0", .bl true, .bl false, .ref o2, .ref o3, .ref o4, .ref o5, .ref o6, .int (10 ^ 9)][9]? = some (.int (10 ^ 9)) := rfl
    have llo : [V.ref o1, .str "0", .bl true, .bl false, .ref o2, .ref o3, .ref o4, .ref o5, .ref o6, .int (10 ^ 9)].length = 10 := rfl
    clear u1 u2 u3 u4 u5 u6 u7 g1 g2 g3 g4 g5 g6 n1 n2 n3 n4 n5 n6 nlo P3 P6 s16 e9
    generalize [V.ref o1, .str "0", .bl true, .bl false, .ref o2, .ref o3, .ref o4, .ref o5, .ref o6, .int (10 ^ 9)] = odds at hlo stlo odd odd9 llo ⊢
    -- far
    refine ⟨_, rfl, _, rfl, b, L, _, 10, rfl, P7, by omega, by decide, by decide, fun a2 G8 a20 a21 P8 k8 => ?_⟩
    obtain ⟨j2, rfl⟩ : ∃ j : Nat, a2 = (j : Int) := ⟨a2.toNat, by omega⟩
    have k18 := k7.trans (.of_but k8)
    have stlo8 := stlo.up (.of_but k8)
    obtain ⟨far, hfar, qfar⟩ : ∃ far, odds[j2]? = some far ∧ (far = .int (10 ^ 9) ∨ St2 b L (fun X => NNo X far) G8) := by
      by_cases c : j2 < 9
      · obtain ⟨o, h1, h2⟩ := odd j2 c
        exact ⟨o, h1, .inr (h2.up (.of_but k8))⟩
      · have e : j2 = 9 := by omega
        subst e
        exact ⟨_, odd9, .inl rfl⟩
    refine ⟨lo, _, (j2 : Int), _, rfl, rfl, SqL.of stlo8.now, atI_nat hfar, ?_⟩
    have odd8 : ∀ j : Nat, j < 9 → ∃ o, odds[j]? = some o ∧ St2 b L (fun X => NNo X o) G8 := fun j hj => by
      obtain ⟨o, h1, h2⟩ := odd j hj
      exact ⟨o, h1, h2.up (.of_but k8)⟩
    clear odd stlo hlo P7 k7 k8
    have nz : Nm.i (10 ^ 9) ∉ rs.map (·.x) := fun m => by
      obtain ⟨y, my, e⟩ := List.mem_map.mp m
      have h := (rq y my).1.2
      rw [e] at h
      have h : ((10 : Int) ^ 9).natAbs < 2 ^ 29 := h
      exact absurd h (by decide)
    have okz : OkF sn (some (Nm.i (10 ^ 9))) := fun y e => by
      cases e
      refine ⟨trivial, ?_⟩
      cases sn
      · exact .inl rfl
      · exact .inr rfl
    have nez : Nm.i (10 ^ 9) ≠ r.x := fun e => nz (List.mem_map.mpr ⟨r, mr, e.symm⟩)
    have l5 : [vx, vl, vr, va, V.bl r.t].length = 5 := rfl
    -- three rows otherwise
    refine ⟨_, rfl, _, rfl, b, L, _, 3, rfl, P8, by omega, by decide, by decide, fun a3 G9 a30 a31 P9 k9 => ⟨_, _, rfl, rfl, _, rfl, ?_⟩⟩
    obtain ⟨j3, rfl⟩ : ∃ j : Nat, a3 = (j : Int) := ⟨a3.toNat, by omega⟩
    have k19 := k18.trans (.of_but k9)
    refine ⟨p, _, _, 1 + j3, far, rfl, by omega, (rowX k19).1.1, by rw [l5]; omega, by show 5 ≤ 1000; decide, fun c1 G10 s10 h10 => ?_⟩
    have k110 := k19.trans (.of_same s10)
    refine ⟨_, rfl, _, rfl, p, _, 4, _, rfl, rfl, SqT.of (rowX k110).1.1, atI_nat (j := 4) rfl, .inr ⟨_, rfl, p, _, _, 4, _, rfl, rfl, (rowX k110).1.1, by show 4 < 5; decide, by show 5 ≤ 1000; decide, fun c2 G11 s11 h11 => ?_⟩⟩
    have k111 := k110.trans (.of_same s11)
    refine ⟨_, rfl, p, _, _, 4, .non, rfl, rfl, (rowX k111).1.1, by show 4 < 5; decide, by show 5 ≤ 1000; decide, fun c3 G12 s12 h12 => ⟨(by show 3 ≤ sizeLine; decide), fun lA nlA => ?_⟩⟩
    have P12 := ((P9.same s10).same s11).same s12
    obtain ⟨xA, yA⟩ := P12.ne nlA
    have u13 := same_new (o := .lst [.ref c1, .ref c2, .ref c3]) nlA
    have hA : upd G12 lA (.lst [.ref c1, .ref c2, .ref c3]) lA = some (.lst [.ref c1, .ref c2, .ref c3]) := upd_same
    have B5 : ∀ v ∈ [V.ref c1, .ref c2, .ref c3], St2 b L (fun X => BadR sn rs k X v) G12 := by
      intro v m
      simp only [List.mem_cons, List.not_mem_nil, or_false] at m
      have f1 := st2_tup P12 (s12 _ _ (s11 _ _ h10))
      have f2 := st2_tup P12 (s12 _ _ h11)
      have f3 := st2_tup P12 h12
      have kk : ∀ {X : Hp}, Kp2 b L G12 X → Kp2 b L H1 X := fun kX => (k111.trans (.of_same s12)).trans kX
      rcases m with rfl | rfl | rfl
      · intro X kX
        obtain ⟨⟨hpX, ixX, ilX, irX, iaX⟩, _⟩ := rowX (kk kX)
        rcases qfar with e | qf
        · exact br_far (j := 1 + j3) (u := far) qr ixX ilX irX iaX hk (by omega) (by omega) (show IsN X far (.i (10 ^ 9)) from e) okz nz nez (f1 X kX)
        · exact br_put (j := 1 + j3) qr ixX ilX irX iaX (by omega) (qf X (((Kp2.of_but k9).trans (.of_same ((s10.trans s11).trans s12))).trans kX)) (f1 X kX)
      · intro X kX
        obtain ⟨⟨hpX, ixX, ilX, irX, iaX⟩, _⟩ := rowX (kk kX)
        exact br_put4 qr ixX ilX irX iaX (.int _) (.int _) rfl (f2 X kX)
      · intro X kX
        obtain ⟨⟨hpX, ixX, ilX, irX, iaX⟩, _⟩ := rowX (kk kX)
        exact br_put4 qr ixX ilX irX iaX .non .non rfl (f3 X kX)
    have k113 : Kp2 b L H1 (upd G12 lA (.lst [.ref c1, .ref c2, .ref c3])) := (k111.trans (.of_same s12)).trans (.of_same u13)
    have stlo13 : St2 b L (fun X => X lo = some (.lst odds)) (upd G12 lA (.lst [.ref c1, .ref c2, .ref c3])) := stlo8.up ((Kp2.of_but k9).trans (.of_same (((s10.trans s11).trans s12).trans u13)))
    have odd13 : ∀ j : Nat, j < 9 → ∃ o, odds[j]? = some o ∧ St2 b L (fun X => NNo X o) (upd G12 lA (.lst [.ref c1, .ref c2, .ref c3])) := fun j hj => by
      obtain ⟨o, h1, h2⟩ := odd8 j hj
      exact ⟨o, h1, h2.up ((Kp2.of_but k9).trans (.of_same (((s10.trans s11).trans s12).trans u13)))⟩
    have B5 : ∀ v ∈ [V.ref c1, .ref c2, .ref c3], St2 b L (fun X => BadR sn rs k X v) (upd G12 lA (.lst [.ref c1, .ref c2, .ref c3])) := fun v m => (B5 v m).up (.of_same u13)
    have P13 := P12.same u13
    generalize upd G12 lA (.lst [.ref c1, .ref c2, .ref c3]) = G13 at hA B5 k113 stlo13 odd13 P13 ⊢
    clear u13 s10 s11 s12 h10 h11 h12 k110 k111 k19 k18 k9 P8 P9 P12 qfar stlo8 odd8 hfar
    have lAn : [V.ref c1, .ref c2, .ref c3].length = 3 := rfl
    generalize [V.ref c1, .ref c2, .ref c3] = sA at hA B5 lAn ⊢
    -- four more
    refine ⟨_, rfl, _, rfl, 4, rfl, slA rfl (rowX k113).1.1 fun c4 G14 s14 h14 => ⟨_, rfl, (by show 1 ≤ sizeLine; decide), fun q5 nq5 => ?_⟩⟩
    have h14 : G14 c4 = some (.tup [vx, vl, vr, va]) := h14
    have u15 := same_new (o := .tup [V.bl false]) nq5
    have h15 : upd G14 q5 (.tup [V.bl false]) q5 = some (.tup [V.bl false]) := upd_same
    generalize upd G14 q5 (.tup [V.bl false]) = G15 at u15 h15 ⊢
    have k115 := k113.trans (.of_same (s14.trans u15))
    refine catA rfl rfl (rowX k115).1.1 h15 (by show 5 + 1 ≤ sizeLine; decide) fun c5 G16 s16 h16 => ⟨_, rfl, p, _, rfl, .inr (SqT.of (rowX (k115.trans (.of_same s16))).1.1), fun c6 nc6 => ?_⟩
    have h16 : G16 c5 = some (.tup [vx, vl, vr, va, V.bl r.t, V.bl false]) := h16
    have s1316 := (s14.trans u15).trans s16
    have P16 := P13.same s1316
    obtain ⟨x6, y6⟩ := P16.ne nc6
    have u17 := same_new (o := .lst [vx, vl, vr, va, V.bl r.t]) nc6
    have h17 : upd G16 c6 (.lst [vx, vl, vr, va, V.bl r.t]) c6 = some (.lst [vx, vl, vr, va, V.bl r.t]) := upd_same
    generalize upd G16 c6 (.lst [vx, vl, vr, va, V.bl r.t]) = G17 at u17 h17 ⊢
    have s1317 := s1316.trans u17
    have P17 := P16.same u17
    refine ⟨_, rfl, _, rfl, _, rfl, b, L, _, 9, rfl, P17, by omega, by decide, by decide, fun a7 G18 a70 a71 P18 k18 => ?_⟩
    obtain ⟨j7, rfl⟩ : ∃ j : Nat, a7 = (j : Int) := ⟨a7.toNat, by omega⟩
    have k1318 : Kp2 b L G13 G18 := (Kp2.of_same s1317).trans (.of_but k18)
    obtain ⟨o7, ho7, qo7⟩ := odd13 j7 (by omega)
    refine ⟨lo, _, (j7 : Int), _, rfl, rfl, SqL.of (stlo13.up k1318).now, atI_nat ho7, p, _, _, 0, _, rfl, rfl, (rowX (k113.trans k1318)).1.1, by show 0 < 5; decide, by show 5 ≤ 1000; decide, fun c7 G19 s19 h19 => ⟨(by show 4 ≤ sizeLine; decide), fun lB nlB => ?_⟩⟩
    have k1319 := k1318.trans (.of_same s19)
    have P19 := P18.same s19
    obtain ⟨xB, yB⟩ := P19.ne nlB
    have B6 : ∀ v ∈ [V.ref c4, .ref c5, .ref c6, .ref c7], St2 b L (fun X => BadR sn rs k X v) G19 := by
      intro v m
      simp only [List.mem_cons, List.not_mem_nil, or_false] at m
      have kt : TupK G17 G19 := (TupK.but2 k18 P17).trans (Same.tupk s19)
      have f1 := st2_tup P19 (kt _ _ (u17 _ _ (s16 _ _ (u15 _ _ h14))))
      have f2 := st2_tup P19 (kt _ _ (u17 _ _ h16))
      have f3 := (st2_lst h17 x6 y6).up ((Kp2.of_but k18).trans (.of_same s19))
      have f4 := st2_tup P19 h19
      have kk : ∀ {X : Hp}, Kp2 b L G19 X → Kp2 b L H1 X := fun kX => (k113.trans k1319).trans kX
      rcases m with rfl | rfl | rfl | rfl
      · intro X kX
        obtain ⟨⟨hpX, ixX, ilX, irX, iaX⟩, _⟩ := rowX (kk kX)
        exact br_four qr ixX ilX irX iaX (f1 X kX)
      · intro X kX
        obtain ⟨⟨hpX, ixX, ilX, irX, iaX⟩, _⟩ := rowX (kk kX)
        exact br_six qr ixX ilX irX iaX (f2 X kX)
      · intro X kX
        exact br_list (f3 X kX)
      · intro X kX
        obtain ⟨⟨hpX, ixX, ilX, irX, iaX⟩, _⟩ := rowX (kk kX)
        exact br_put (j := 0) qr ixX ilX irX iaX (by omega) (qo7 X (k1319.trans kX)) (f4 X kX)
    have u20 := same_new (o := .lst [.ref c4, .ref c5, .ref c6, .ref c7]) nlB
    have hB : upd G19 lB (.lst [.ref c4, .ref c5, .ref c6, .ref c7]) lB = some (.lst [.ref c4, .ref c5, .ref c6, .ref c7]) := upd_same
    have k1320 : Kp2 b L G13 (upd G19 lB (.lst [.ref c4, .ref c5, .ref c6, .ref c7])) := k1319.trans (.of_same u20)
    have P20 := P19.same u20
    have B6 : ∀ v ∈ sA ++ [V.ref c4, .ref c5, .ref c6, .ref c7], St2 b L (fun X => BadR sn rs k X v) (upd G19 lB (.lst [.ref c4, .ref c5, .ref c6, .ref c7])) := fun v m => by
      rcases List.mem_append.mp m with m | m
      · exact (B5 v m).up k1320
      · exact (B6 v m).up (.of_same u20)
    have hA20 := (st2_lst hA xA yA).up k1320
    generalize upd G19 lB (.lst [.ref c4, .ref c5, .ref c6, .ref c7]) = G20 at hB k1320 P20 B6 hA20 ⊢
    refine ⟨lA, lB, _, _, rfl, rfl, hA20.now, hB, Nat.le_trans (show _ ≤ 7 by rw [lAn]; exact Nat.le_refl _) (by decide), fun lC nlC => ?_⟩
    obtain ⟨xC, yC⟩ := P20.ne nlC
    have u21 := same_new (o := .lst (sA ++ [V.ref c4, .ref c5, .ref c6, .ref c7])) nlC
    have hC : upd G20 lC (.lst (sA ++ [V.ref c4, .ref c5, .ref c6, .ref c7])) lC = some (.lst (sA ++ [V.ref c4, .ref c5, .ref c6, .ref c7])) := upd_same
    have P21 := P20.same u21
    have k120 : Kp2 b L H1 G20 := k113.trans k1320
    have lCn : (sA ++ [V.ref c4, .ref c5, .ref c6, .ref c7]).length = 7 := by rw [List.length_append, lAn]; rfl
    have hnC := nlC
    generalize upd G20 lC (.lst (sA ++ [V.ref c4, .ref c5, .ref c6, .ref c7])) = G21 at u21 hC P21 ⊢
    generalize sA ++ [V.ref c4, .ref c5, .ref c6, .ref c7] = sC at hC B6 lCn
    clear B5 hA hA20 hB k1320 k1319 k1318 P19 P18 P17 P16 P13 u20 u17 u15 s14 s16 s1316 s1317 s19 h14 h15 h16 h17 h19 stlo13 odd13 k113 k115 k18 ho7 qo7
    -- above itself
    refine ⟨_, rfl, .inl ⟨rfl, _, SqL.of hC⟩, _, rfl, _, rfl, _, rfl, (by show 5 ≤ sizeLine; decide), fun c8 nc8 => ⟨lC, _, _, rfl, rfl, same_new nc8 _ _ hC, szl (by omega), ?_⟩⟩
    have u22 := same_new (o := .tup [vx, vx, .non, vx, V.bl false]) nc8
    have h22 : upd G21 c8 (.tup [vx, vx, .non, vx, V.bl false]) c8 = some (.tup [vx, vx, .non, vx, V.bl false]) := upd_same
    have hC22 := u22 _ _ hC
    have P22 := P21.same u22
    have s2022 := u21.trans u22
    generalize upd G21 c8 (.tup [vx, vx, .non, vx, V.bl false]) = G22 at h22 hC22 P22 s2022 ⊢
    have k2023 : Kp2 b L G20 (upd G22 lC (.lst (sC ++ [.ref c8]))) := Kp2.putN Kp2.refl (.of_same s2022) hnC
    have P23 := P22.put (o := .lst (sC ++ [.ref c8])) xC yC
    have h23 : upd G22 lC (.lst (sC ++ [.ref c8])) c8 = some (.tup [vx, vx, .non, vx, V.bl false]) := by
      rw [upd_ne (ne_of h22 hC22 (by intro z; cases z))]
      exact h22
    have hC23 : upd G22 lC (.lst (sC ++ [.ref c8])) lC = some (.lst (sC ++ [.ref c8])) := upd_same
    have st8 : St2 b L (fun X => BadR sn rs k X (.ref c8)) (upd G22 lC (.lst (sC ++ [.ref c8]))) := fun X kX => by
      obtain ⟨⟨hpX, ixX, ilX, irX, iaX⟩, _⟩ := rowX (k120.trans (k2023.trans kX))
      exact br_loop qr ixX hk (.inl (st2_tup P23 h23 X kX))
    generalize upd G22 lC (.lst (sC ++ [.ref c8])) = G23 at k2023 P23 hC23 st8 ⊢
    have B8 : ∀ v ∈ sC ++ [V.ref c8], St2 b L (fun X => BadR sn rs k X v) G23 := fun v m => by
      rcases List.mem_append.mp m with m | m
      · exact (B6 v m).up k2023
      · rw [List.mem_singleton.mp m]
        exact st8
    have k123 := k120.trans k2023
    clear B6 st8 h22 hC22 P22 s2022 h23 u22 u21 hC P21 P20 k2023 hnC nlC k120
    have lDn : (sC ++ [V.ref c8]).length = 8 := by rw [List.length_append, lCn]; rfl
    generalize sC ++ [V.ref c8] = sD at hC23 B8 lDn ⊢
    -- two more
    refine ⟨_, rfl, _, rfl, _, rfl, (by show 5 ≤ sizeLine; decide), fun c9 nc9 => ⟨_, rfl, _, rfl, p, _, _, 1, _, rfl, rfl, (rowX (k123.trans (.of_same (same_new nc9)))).1.1, by show 1 < 5; decide, by show 5 ≤ 1000; decide, fun cX G25 s25 h25 => ?_⟩⟩
    have u24 := same_new (o := .tup [vx, .non, .non, vx, V.bl false]) nc9
    have h24 : upd G23 c9 (.tup [vx, .non, .non, vx, V.bl false]) c9 = some (.tup [vx, .non, .non, vx, V.bl false]) := upd_same
    generalize upd G23 c9 (.tup [vx, .non, .non, vx, V.bl false]) = G24 at u24 h24 s25
    refine ⟨_, rfl, cX, _, _, 2, _, rfl, rfl, h25, by show 2 < 5; decide, by show 5 ≤ 1000; decide, fun cY G26 s26 h26 => ⟨(by show 2 ≤ sizeLine; decide), fun lE nlE => ?_⟩⟩
    have h26 : G26 cY = some (.tup [vx, vx, vx, va, V.bl r.t]) := h26
    have s2326 := (u24.trans s25).trans s26
    have P26 := P23.same s2326
    have h2426 := s26 _ _ (s25 _ _ h24)
    have u27 := same_new (o := .lst [.ref c9, .ref cY]) nlE
    have hE : upd G26 lE (.lst [.ref c9, .ref cY]) lE = some (.lst [.ref c9, .ref cY]) := upd_same
    have B9 : ∀ v ∈ sD ++ [V.ref c9, .ref cY], St2 b L (fun X => BadR sn rs k X v) (upd G26 lE (.lst [.ref c9, .ref cY])) := by
      intro v m
      have kk : ∀ {X : Hp}, Kp2 b L (upd G26 lE (.lst [.ref c9, .ref cY])) X → Kp2 b L H1 X := fun kX => k123.trans ((Kp2.of_same (s2326.trans u27)).trans kX)
      rcases List.mem_append.mp m with m | m
      · exact (B8 v m).up (.of_same (s2326.trans u27))
      · simp only [List.mem_cons, List.not_mem_nil, or_false] at m
        rcases m with rfl | rfl
        · intro X kX
          obtain ⟨⟨hpX, ixX, ilX, irX, iaX⟩, _⟩ := rowX (kk kX)
          exact br_loop qr ixX hk (.inr (st2_tup (P26.same u27) (u27 _ _ h2426) X kX))
        · intro X kX
          obtain ⟨⟨hpX, ixX, ilX, irX, iaX⟩, _⟩ := rowX (kk kX)
          exact br_both qr ixX iaX hk (st2_tup (P26.same u27) (u27 _ _ h26) X kX)
    have P27 := P26.same u27
    have k127 : Kp2 b L H1 (upd G26 lE (.lst [.ref c9, .ref cY])) := k123.trans (.of_same (s2326.trans u27))
    have hC27 := u27 _ _ (s2326 _ _ hC23)
    generalize upd G26 lE (.lst [.ref c9, .ref cY]) = G27 at hE B9 P27 k127 hC27 ⊢
    refine ⟨lC, lE, _, _, rfl, rfl, hC27, hE, Nat.le_trans (show _ ≤ 10 by rw [lDn]; exact Nat.le_refl _) (by decide), fun lF nlF => ?_⟩
    obtain ⟨xF, yF⟩ := P27.ne nlF
    have u28 := same_new (o := .lst (sD ++ [V.ref c9, .ref cY])) nlF
    have hF : upd G27 lF (.lst (sD ++ [V.ref c9, .ref cY])) lF = some (.lst (sD ++ [V.ref c9, .ref cY])) := upd_same
    have B10 : ∀ v ∈ sD ++ [V.ref c9, .ref cY], St2 b L (fun X => BadR sn rs k X v) (upd G27 lF (.lst (sD ++ [V.ref c9, .ref cY]))) := fun v m => (B9 v m).up (.of_same u28)
    have P28 := P27.same u28
    have k128 : Kp2 b L H1 (upd G27 lF (.lst (sD ++ [V.ref c9, .ref cY]))) := k127.trans (.of_same u28)
    have lFn : (sD ++ [V.ref c9, .ref cY]).length = 10 := by rw [List.length_append, lDn]; rfl
    generalize upd G27 lF (.lst (sD ++ [V.ref c9, .ref cY])) = G28 at hF B10 P28 k128 ⊢
    generalize sD ++ [V.ref c9, .ref cY] = sF at hF B10 lFn
    clear B8 B9 hC23 hE hC27 u24 u27 u28 s25 s26 s2326 h24 h25 h26 h2426 P26 P27 P23 k123 k127
    -- each of them in its place
    refine ⟨_, rfl, lF, rfl, ⟨_, SqL.of hF⟩, fun M nM => ?_⟩
    refine lc_list (K := K) (a := lF) (xs := sF) (fun i Y => Same G28 Y ∧ ∃ ws, Y M = some (.lst ws) ∧ ws.length = i ∧ ∀ v ∈ ws, St3 b L M (fun X => BadS X v) Y) ⟨same_new nM, [], upd_same, rfl, fun v m => nomatch m⟩ (fun i Y _ z => SqL.of (z.1 _ _ hF)) ?_ ?_
    · rintro i v Y hv2 ⟨s29, ws, hM, lw, hws⟩
      have kY : Kp2 b L H1 Y := k128.trans (.of_same s29)
      have PY := P28.same s29
      have li := (List.getElem?_eq_some_iff.mp hv2).1
      refine ⟨rfl, yes_ite ⟨_, rfl, _, rfl, (k : Int), rfl, slA rfl (rowX kY).2.1 fun g1 Y1 w1 j1 => ⟨_, rfl, (by show 1 ≤ sizeLine; decide), fun g2 ng2 => ?_⟩⟩⟩
      rw [cut_toV] at j1
      have w2 := same_new (o := .tup [v]) ng2
      have j2 : upd Y1 g2 (.tup [v]) g2 = some (.tup [v]) := upd_same
      have j12 := w2 _ _ j1
      generalize upd Y1 g2 (.tup [v]) = Y2 at w2 j2 j12 ⊢
      refine catA rfl rfl j12 j2 (Nat.le_trans (show _ ≤ 2000 by rw [List.length_take]; show min k xs.length + 1 ≤ 2000; omega) (by decide)) fun g3 Y3 w3 j3 => ?_
      have w13 := (w1.trans w2).trans w3
      refine ⟨_, rfl, _, rfl, _, _, rfl, rfl, _, rfl, ?_⟩
      dsimp only [tNoPart]
      refine slA rfl (w13 _ _ (rowX kY).2.1) fun g4 Y4 w4 j4 => ?_
      have e1 : (k : Int) + 1 = ((k + 1 : Nat) : Int) := by omega
      rw [e1, cut_fromV xs (by omega)] at j4
      refine catA rfl rfl (w4 _ _ j3) j4 (Nat.le_trans (show _ ≤ 3000 by rw [List.length_append, List.length_take, List.length_drop]; show min k xs.length + 1 + (xs.length - (k + 1)) ≤ 3000; omega) (by decide)) fun g5 Y5 w5 j5 => ?_
      rw [set_cut (by omega)] at j5
      have w15 := w13.trans (w4.trans w5)
      have hM5 := w15 _ _ hM
      show ∃ acc, _
      have g5M : g5 ≠ M := ne_of j5 hM5 (by intro z; cases z)
      have P5 := PY.same w15
      refine ⟨ws, hM5, szl (by omega), same_put (s29.trans w15) nM, ws ++ [.ref g5], upd_same, by rw [List.length_append, lw]; rfl, fun u mu => ?_⟩
      rcases List.mem_append.mp mu with mu | mu
      · exact (hws u mu).up ((Kp3.of2 (.of_same w15)).trans .put)
      · rw [List.mem_singleton.mp mu]
        intro X kX
        have k28X : Kp2 b L G28 X := fun c o h n1 n2 => by
          have cM := ne_of_none h nM
          refine kX c o ?_ n1 n2 cM
          rw [upd_ne cM]
          exact w15 _ _ (s29 _ _ h)
        have gX : X g5 = some (.tup (xs.set k v)) := by
          obtain ⟨cs, tot, c, hp5, _⟩ := P5
          refine kX g5 _ ?_ (ne_of j5 hp5.hb (by intro z; cases z)) (ne_of j5 hp5.hL (by intro z; cases z)) g5M
          rw [upd_ne g5M]
          exact j5
        exact bs_set rq (rowX (k128.trans k28X)).2.2 hk (by omega) (B10 v (List.mem_of_getElem? hv2) X k28X) gX
    rintro G29 ⟨s29, wsM, hM, lwM, hwM⟩
    rw [lFn] at lwM
    have k129 : Kp2 b L H1 G29 := k128.trans (.of_same s29)
    have P29 := P28.same s29
    obtain ⟨xM, yM⟩ := P28.ne nM
    have stM := st2_lst hM xM yM
    clear B10 hF s29 P28 k128 nM
    -- five more
    refine ⟨_, rfl, _, rfl, _, rfl, _, _, rfl, rfl, _, rfl, slA rfl (rowX k129).2.1 fun d1 D1 w1 j1 => ?_⟩
    have e1 : (k : Int) + 1 = ((k + 1 : Nat) : Int) := by omega
    rw [e1, cut_toV] at j1
    refine ⟨_, rfl, _, rfl, _, rfl, ?_⟩
    dsimp only [tNoPart]
    refine slA rfl (w1 _ _ (rowX k129).2.1) fun d2 D2 w2 j2 => ?_
    rw [cut_fromV xs (by omega)] at j2
    refine catA rfl rfl (w2 _ _ j1) j2 (Nat.le_trans (show _ ≤ 3000 by rw [List.length_take, List.length_drop]; omega) (by decide)) fun d3 D3 w3 j3 => ?_
    have w13 := (w1.trans w2).trans w3
    refine ⟨_, rfl, t, _, rfl, .inr (SqT.of (w13 _ _ (rowX k129).2.1)), fun d4 nd4 => ⟨_, rfl, (by show 1 ≤ sizeLine; decide), fun d5 nd5 => ?_⟩⟩
    have P3 := P29.same w13
    obtain ⟨x4, y4⟩ := P3.ne nd4
    have w4 := same_new (o := .lst xs) nd4
    have j4 : upd D3 d4 (.lst xs) d4 = some (.lst xs) := upd_same
    generalize upd D3 d4 (.lst xs) = D4 at nd5 w4 j4 ⊢
    have w5 := same_new (o := .tup [V.non]) nd5
    have j5 : upd D4 d5 (.tup [V.non]) d5 = some (.tup [V.non]) := upd_same
    generalize upd D4 d5 (.tup [V.non]) = D5 at w5 j5 ⊢
    have w15 := w13.trans (w4.trans w5)
    refine catA rfl rfl (w15 _ _ (rowX k129).2.1) j5 (Nat.le_trans (show _ ≤ 3000 by show xs.length + 1 ≤ 3000; omega) (by decide)) fun d6 D6 w6 j6 => ⟨_, rfl, (by show 1 ≤ sizeLine; decide), fun d7 nd7 => ⟨_, rfl, Nat.zero_le _, fun d8 nd8 => ⟨(by show 1 ≤ sizeLine; decide), fun d9 nd9 => ?_⟩⟩⟩
    have w7 := same_new (o := .tup [V.ref t]) nd7
    have j7 : upd D6 d7 (.tup [V.ref t]) d7 = some (.tup [V.ref t]) := upd_same
    generalize upd D6 d7 (.tup [V.ref t]) = D7 at nd8 nd9 w7 j7 ⊢
    have w8 := same_new (o := .tup []) nd8
    have j8 : upd D7 d8 (.tup []) d8 = some (.tup []) := upd_same
    generalize upd D7 d8 (.tup []) = D8 at nd9 w8 j8 ⊢
    have w9 := same_new (o := .tup [V.ref d8]) nd9
    have j9 : upd D8 d9 (.tup [V.ref d8]) d9 = some (.tup [V.ref d8]) := upd_same
    generalize upd D8 d9 (.tup [V.ref d8]) = D9 at w9 j9 ⊢
    have w69 := w6.trans ((w7.trans w8).trans w9)
    have w19 := w15.trans w69
    refine catA rfl rfl (w19 _ _ (rowX k129).2.1) j9 (Nat.le_trans (show _ ≤ 3000 by show xs.length + 1 ≤ 3000; omega) (by decide)) fun dX DX wX jX => ⟨(by show 5 ≤ sizeLine; decide), fun lG nlG => ?_⟩
    have w1X := w19.trans wX
    have PX := P29.same w1X
    have f3 := st2_tup PX (wX _ _ (w69 _ _ (w5 _ _ (w4 _ _ j3))))
    have f4 := (st2_lst j4 x4 y4).up (.of_same ((w5.trans w69).trans wX))
    have f6 := st2_tup PX (wX _ _ (w9 _ _ (w8 _ _ (w7 _ _ j6))))
    have f7 := st2_tup PX (wX _ _ (w9 _ _ (w8 _ _ j7)))
    have f8 := st2_tup PX (wX _ _ (w9 _ _ j8))
    have fX := st2_tup PX jX
    have five : ∀ v ∈ [V.ref d3, .ref d4, .ref d6, .ref d7, .ref dX], St2 b L (fun X => BadS X v) DX := by
      intro v m
      simp only [List.mem_cons, List.not_mem_nil, or_false] at m
      have kk : ∀ {X : Hp}, Kp2 b L DX X → X t = some (.tup xs) ∧ NRs X xs rs := fun kX => (rowX ((k129.trans (.of_same w1X)).trans kX)).2
      have l6 : rs.length ≤ 1000 := by omega
      rcases m with rfl | rfl | rfl | rfl | rfl
      · intro X kX
        obtain ⟨_, nrX⟩ := kk kX
        refine bs_rows (s := sn) (f3 X kX) (paired_appN (paired_takeN nrX (k + 1)) (paired_dropN nrX k)) (fun y my => ?_) (by rw [List.length_append, List.length_take, List.length_drop]; omega) ?_
        · rcases List.mem_append.mp my with my | my
          · exact rq y (List.mem_of_mem_take my)
          · exact rq y (List.mem_of_mem_drop my)
        · refine bad_ris (i := k) (x := r.x) (y := r.x) ?_ ?_ (PySem.W.dataLt_self _)
          · rw [List.getElem?_map, List.getElem?_append_left (by rw [List.length_take]; omega), List.getElem?_take, if_pos (by omega), hr2]
            rfl
          · rw [List.getElem?_map, List.getElem?_append_right (by rw [List.length_take]; omega), List.length_take, List.getElem?_drop, show k + (k + 1 - min (k + 1) rs.length) = k by omega, hr2]
            rfl
      · intro X kX
        exact .inl (.lst (f4 X kX))
      · intro X kX
        exact bs_app rq (kk kX).2 (.inr ⟨.non, rfl⟩) (f6 X kX)
      · intro X kX
        exact bs_one rq (kk kX).2 l6 (kk kX).1 (f7 X kX)
      · intro X kX
        exact bs_app rq (kk kX).2 (sh_bad (f8 X kX) .nil (Nat.zero_le _) rfl) (fX X kX)
    have wG := same_new (o := .lst [V.ref d3, .ref d4, .ref d6, .ref d7, .ref dX]) nlG
    have jG : upd DX lG (.lst [V.ref d3, .ref d4, .ref d6, .ref d7, .ref dX]) lG = some (.lst [V.ref d3, .ref d4, .ref d6, .ref d7, .ref dX]) := upd_same
    have k29G : Kp2 b L G29 (upd DX lG (.lst [V.ref d3, .ref d4, .ref d6, .ref d7, .ref dX])) := .of_same (w1X.trans wG)
    have all15 : ∀ v ∈ wsM ++ [V.ref d3, .ref d4, .ref d6, .ref d7, .ref dX], St2 b L (fun X => BadS X v) (upd DX lG (.lst [V.ref d3, .ref d4, .ref d6, .ref d7, .ref dX])) := fun v m => by
      rcases List.mem_append.mp m with m | m
      · exact (hwM v m).to2.up k29G
      · exact (five v m).up (.of_same wG)
    have PG := P29.same (w1X.trans wG)
    generalize upd DX lG (.lst [V.ref d3, .ref d4, .ref d6, .ref d7, .ref dX]) = G30 at jG k29G all15 PG ⊢
    have k130 := k129.trans k29G
    refine ⟨M, lG, _, _, rfl, rfl, (stM.up k29G).now, jG, Nat.le_trans (show _ ≤ 15 by rw [lwM]; exact Nat.le_refl _) (by decide), fun lW nlW => ?_⟩
    obtain ⟨xW, yW⟩ := PG.ne nlW
    have hW1 : H1 lW = none := by
      cases e : H1 lW with
      | none => rfl
      | some o =>
        rw [k130 lW o e xW yW] at nlW
        exact nomatch nlW
    have wW := same_new (o := .lst (wsM ++ [V.ref d3, .ref d4, .ref d6, .ref d7, .ref dX])) nlW
    have hW : upd G30 lW (.lst (wsM ++ [V.ref d3, .ref d4, .ref d6, .ref d7, .ref dX])) lW = some (.lst (wsM ++ [V.ref d3, .ref d4, .ref d6, .ref d7, .ref dX])) := upd_same
    have allW : ∀ v ∈ wsM ++ [V.ref d3, .ref d4, .ref d6, .ref d7, .ref dX], St3 b L lW (fun X => BadS X v) (upd G30 lW (.lst (wsM ++ [V.ref d3, .ref d4, .ref d6, .ref d7, .ref dX]))) := fun v m => (all15 v m).to3 (.of_same wW) nlW
    have PW := PG.same wW
    have k131 := k130.trans (.of_same wW)
    have lWn : (wsM ++ [V.ref d3, .ref d4, .ref d6, .ref d7, .ref dX]).length = 15 := by rw [List.length_append, lwM]; rfl
    generalize upd G30 lW (.lst (wsM ++ [V.ref d3, .ref d4, .ref d6, .ref d7, .ref dX])) = G31 at hW allW PW k131 ⊢
    generalize wsM ++ [V.ref d3, .ref d4, .ref d6, .ref d7, .ref dX] = ws at hW allW lWn
    clear all15 five f3 f4 f6 f7 f8 fX jG k29G PG k130 wW nlW w1 w2 w3 w13 w4 w5 w15 w6 w7 w8 w9 w69 w19 wX w1X PX wG j1 j2 j3 j4 j5 j6 j7 j8 j9 jX nlG nd4 nd5 nd7 nd8 nd9 P3 stM hM hwM P29 k129
    -- turned about, crossed
    have none1 : ∀ {c : Addr} {G : Hp}, Kp2 b L H1 G → G c = none → c ≠ b → c ≠ L → H1 c = none := fun {c G} kG n c1 c2 => by
      cases e : H1 c with
      | none => rfl
      | some o =>
        rw [kG c o e c1 c2] at n
        exact nomatch n
    have lW1 : H1 lW = none := hW1
    refine ⟨fun σ Z => ∃ (lV : Addr) (vs : List V) (y9 y10 : Option V), σ = [some (.ref b), some (.ref t), some (.int (k : Int)), some (.ref p), some vx, some (.ref lo), some far, some (.ref lF), some (.ref lV), y9, y10] ∧ Kp2 b L H1 Z ∧ PotAt Z b L (m + 6) ∧ Z lV = some (.lst vs) ∧ lV ≠ b ∧ lV ≠ L ∧ H1 lV = none ∧ 1 ≤ vs.length ∧ vs.length ≤ 17 ∧ ∀ v ∈ vs, St3 b L lV (fun X => BadS X v) Z, ?_, ?_⟩
    · refine ⟨_, rfl, t, _, rfl, .inr (SqT.of (rowX k131).2.1), _, _, rfl, rfl, _, rfl, ite2 (fun e => ?_) (fun e => ⟨lW, ws, _, _, rfl, k131, PW.le (by omega), hW, xW, yW, lW1, by omega, by omega, allW⟩)⟩
      have two : 2 ≤ rs.length := by
        have := of_decide_eq_true e
        omega
      refine ⟨_, rfl, _, rfl, 1, rfl, ?_⟩
      dsimp only [tNoPart]
      refine slA rfl (rowX k131).2.1 fun d1 D1 w1 j1 => ⟨_, rfl, 1, rfl, slA rfl (w1 _ _ (rowX k131).2.1) fun d2 D2 w2 j2 => ?_⟩
      rw [show (1 : Int) = ((1 : Nat) : Int) from rfl, cut_fromV xs (by omega)] at j1
      rw [show (1 : Int) = ((1 : Nat) : Int) from rfl, cut_toV] at j2
      refine catA rfl rfl (w2 _ _ j1) j2 (Nat.le_trans (show _ ≤ 3000 by rw [List.length_take, List.length_drop]; omega) (by decide)) fun d3 D3 w3 j3 => ?_
      have w13 := (w1.trans w2).trans w3
      have k13 := k131.trans (.of_same w13)
      refine ⟨_, rfl, _, rfl, t, xs, rs, k, rfl, (rowX k13).2.1, (rowX k13).2.2, hk, two, by omega, fun d4 ys r1 q1 D4 w4 j4 er eq nr4 => ⟨(by show 2 ≤ sizeLine; decide), fun lH nlH => ?_⟩⟩
      have w14 := w13.trans w4
      have P4 := PW.same w14
      have f3 := st2_tup P4 (w4 _ _ j3)
      have f4 := st2_tup P4 j4
      have wH := same_new (o := .lst [V.ref d3, .ref d4]) nlH
      have jH : upd D4 lH (.lst [V.ref d3, .ref d4]) lH = some (.lst [V.ref d3, .ref d4]) := upd_same
      have both : ∀ v ∈ [V.ref d3, .ref d4], St2 b L (fun X => BadS X v) (upd D4 lH (.lst [V.ref d3, .ref d4])) := by
        intro v m
        simp only [List.mem_cons, List.not_mem_nil, or_false] at m
        rcases m with rfl | rfl
        · intro X kX
          have k4X : Kp2 b L D4 X := (Kp2.of_same wH).trans kX
          have nrX := (rowX ((k131.trans (.of_same w14)).trans k4X)).2.2
          refine bs_rows (s := sn) (f3 X k4X) (paired_appN (paired_dropN nrX 1) (paired_takeN nrX 1)) (fun y my => ?_) (by rw [List.length_append, List.length_take, List.length_drop]; omega) ?_
          · rcases List.mem_append.mp my with my | my
            · exact rq y (List.mem_of_mem_drop my)
            · exact rq y (List.mem_of_mem_take my)
          · exact bad_turn sok two
        · intro X kX
          have k4X : Kp2 b L D4 X := (Kp2.of_same wH).trans kX
          have er2 : r1 = r := by
            rw [hr2] at er
            exact (Option.some.inj er).symm
          subst er2
          have mq := List.mem_of_getElem? eq
          refine bs_rows (s := sn) (f4 X k4X) (nr4.up (k4X.tupk P4)) (fun y my => ?_) (by rw [List.length_set, List.length_set]; omega) ?_
          · rcases List.mem_or_eq_of_mem_set my with my | rfl
            · rcases List.mem_or_eq_of_mem_set my with my | rfl
              · exact rq y my
              · exact ⟨qr.1, okF_none, okF_none, okF_own (rq q1 mq)⟩
            · exact ⟨(rq q1 mq).1, okF_none, okF_none, okF_own qr⟩
          · refine bad_cross (r := ⟨r1.x, none, none, some q1.x, false⟩) (q := ⟨q1.x, none, none, some r1.x, true⟩) ?_ (List.mem_set (by rw [List.length_set]; exact prev_lt hk) _) rfl rfl
            refine List.mem_of_getElem? (i := k) ?_
            rw [List.getElem?_set_ne (prev_ne hk two), List.getElem?_set_self hk]
      have k3H : Kp2 b L G31 (upd D4 lH (.lst [V.ref d3, .ref d4])) := .of_same (w14.trans wH)
      have hW2 := (st2_lst hW xW yW).up k3H
      have PH := P4.same wH
      generalize upd D4 lH (.lst [V.ref d3, .ref d4]) = D5 at jH both k3H hW2 PH ⊢
      refine ⟨lW, lH, _, _, rfl, rfl, hW2.now, jH, Nat.le_trans (show _ ≤ 17 by rw [lWn]; exact Nat.le_refl _) (by decide), fun lV nlV => ?_⟩
      obtain ⟨xV, yV⟩ := PH.ne nlV
      have wV := same_new (o := .lst (ws ++ [V.ref d3, .ref d4])) nlV
      have kV := (k131.trans k3H)
      refine ⟨lV, _, _, _, rfl, kV.trans (.of_same wV), (PH.same wV).le (by omega), upd_same, xV, yV, none1 kV nlV xV yV, by rw [List.length_append, lWn]; exact (show 1 ≤ 15 + 2 by decide), by rw [List.length_append, lWn]; exact (show 15 + 2 ≤ 17 by decide), fun v m => ?_⟩
      rcases List.mem_append.mp m with m | m
      · exact ((allW v m).to2.up k3H).to3 (.of_same wV) nlV
      · exact (both v m).to3 (.of_same wV) nlV
    · rintro σ Z ⟨lV, vs, y9, y10, rfl, kZ, PZ, hV, xV, yV, nV, lv1, lv17, allV⟩
      clear allW hW PW k131 lWn
      -- named by others
      refine ⟨_, rfl, t, rfl, ⟨_, SqT.of (rowX kZ).2.1⟩, fun M2 nM2 => ?_⟩
      refine lc_tup (xs := xs) (fun i Y => Same Z Y ∧ ∃ us qs, Y M2 = some (.lst us) ∧ NRs Y us qs ∧ us.length ≤ i ∧ ∀ q ∈ qs, q ∈ rs ∧ (q.l = some r.x ∨ q.r = some r.x ∨ q.a = some r.x)) ⟨same_new nM2, [], [], upd_same, .nil, Nat.le_refl _, fun q m => nomatch m⟩ (fun i Y _ z => SqT.of (z.1 _ _ (rowX kZ).2.1)) ?_ ?_
      · rintro i v Y hv2 ⟨w1, us, qs, hM, nq, lu, hq⟩
        have kY := kZ.trans (.of_same w1)
        obtain ⟨⟨hpY, ixY, _⟩, htY, nrY⟩ := rowX kY
        obtain ⟨y, hy, ray⟩ := paired_at nrY hv2
        have my := List.mem_of_getElem? hy
        obtain ⟨p', ux, ul, ur, ua, rfl, hp', jx, jl, jr, ja⟩ := ray
        have li := (List.getElem?_eq_some_iff.mp hv2).1
        refine ⟨rfl, _, rfl, _, rfl, 1, rfl, 4, rfl, slA rfl hp' fun g Y1 w2 j2 => ?_⟩
        have j2 : Y1 g = some (.tup [ul, ur, ua]) := j2
        have tk2 := Same.tupk w2
        refine ⟨encN r.x, [encO y.l, encO y.r, encO y.a], (ixY.up tk2).dp, .tup (SqT.of j2) (.cons (jl.up tk2).dp (.cons (jr.up tk2).dp (.cons (ja.up tk2).dp .nil))), ?_, shp_three (rq y my), _, rfl, ?_⟩
        · obtain ⟨s', g'⟩ := qr.1.2.q.gn
          exact shp_nm g'
        · show if ([encO y.l, encO y.r, encO y.a].any fun e => PyData.eqv e (encN r.x)) = true then _ else _
          rw [any_three (rq y my) qr.1.2.q]
          by_cases c : y.l = some r.x ∨ y.r = some r.x ∨ y.a = some r.x
          · have e : (decide (y.l = some r.x) || (decide (y.r = some r.x) || decide (y.a = some r.x))) = true := by
              simp only [Bool.or_eq_true, decide_eq_true_eq]
              exact c
            rw [if_pos e]
            have hM2 := w2 _ _ hM
            have tk : TupK Y (upd Y1 M2 (.lst (us ++ [V.ref p']))) := tk2.put hM2 (by intro xs e; cases e)
            refine ⟨_, rfl, us, hM2, szl (by omega), same_put (w1.trans w2) nM2, us ++ [.ref p'], qs ++ [y], upd_same, ?_, by rw [List.length_append]; exact Nat.succ_le_succ lu, fun q mq => ?_⟩
            · have ry : RowAt Y (.ref p') y := ⟨p', ux, ul, ur, ua, rfl, hp', jx, jl, jr, ja⟩
              exact paired_snocN (nq.up tk) (ry.up tk)
            · rcases List.mem_append.mp mq with mq | mq
              · exact hq q mq
              · rw [List.mem_singleton.mp mq]
                exact ⟨my, c⟩
          · have e : ¬ (decide (y.l = some r.x) || (decide (y.r = some r.x) || decide (y.a = some r.x))) = true := by
              simp only [Bool.or_eq_true, decide_eq_true_eq]
              exact c
            rw [if_neg e]
            exact ⟨w1.trans w2, us, qs, w2 _ _ hM, nq.up tk2, by omega, hq⟩
      rintro Z2 ⟨w1, us, qs, hM, nq, _, hq⟩
      have kZ2 := kZ.trans (.of_same w1)
      have PZ2 := PZ.same w1
      have hV2 := w1 _ _ hV
      have allV2 : ∀ v ∈ vs, St3 b L lV (fun X => BadS X v) Z2 := fun v m => (allV v m).up (.of2 (.of_same w1))
      clear allV hV PZ nM2 w1
      -- without it
      refine ⟨fun σ Z => ∃ (vs : List V) (y9 y10 : Option V), σ = [some (.ref b), some (.ref t), some (.int (k : Int)), some (.ref p), some vx, some (.ref lo), some far, some (.ref lF), some (.ref lV), y9, y10] ∧ Kp2 b L H1 Z ∧ PotAt Z b L (m + 6) ∧ Z lV = some (.lst vs) ∧ 1 ≤ vs.length ∧ vs.length ≤ 18 ∧ ∀ v ∈ vs, St3 b L lV (fun X => BadS X v) Z, ?_, ?_⟩
      · refine ⟨_, rfl, Nat.zero_le _, fun e ne => ?_⟩
        have we := same_new (o := .lst []) ne
        have he : upd Z2 e (.lst []) e = some (.lst []) := upd_same
        have hM3 := we _ _ hM
        have nq3 := nq.up (Same.tupk we)
        have k3 := kZ2.trans (.of_same we)
        have P3 := PZ2.same we
        have hV3 := we _ _ hV2
        have allV3 : ∀ v ∈ vs, St3 b L lV (fun X => BadS X v) (upd Z2 e (.lst [])) := fun v m => (allV2 v m).up (.of2 (.of_same we))
        generalize upd Z2 e (.lst []) = Z3 at he hM3 nq3 k3 P3 hV3 allV3 ⊢
        refine ⟨_, _, .lst (SqL.of hM3) nq3.dp, .lst (SqL.of he) .nil, shp_rowsQ fun q m => rq q (hq q m).1, rfl, _, rfl, ?_⟩
        rw [nil_rows]
        by_cases c : qs = []
        · rw [c]
          exact ifF rfl ⟨vs, _, _, rfl, k3, P3, hV3, lv1, by omega, allV3⟩
        obtain ⟨q1, mq1⟩ := List.exists_mem_of_ne_nil qs c
        obtain ⟨m1, c1⟩ := hq q1 mq1
        refine ifT (by rw [Bool.not_eq_true']; exact List.isEmpty_eq_false_iff.mpr c) ?_
        refine ⟨_, rfl, .inl ⟨rfl, _, SqL.of hV3⟩, _, rfl, _, rfl, (k : Int), rfl, slA rfl (rowX k3).2.1 fun d1 D1 w1 j1 => ⟨_, rfl, _, rfl, _, _, rfl, rfl, _, rfl, ?_⟩⟩
        dsimp only [tNoPart]
        rw [cut_toV] at j1
        refine slA rfl (w1 _ _ (rowX k3).2.1) fun d2 D2 w2 j2 => ?_
        have e1 : (k : Int) + 1 = ((k + 1 : Nat) : Int) := by omega
        rw [e1, cut_fromV xs (by omega)] at j2
        refine catA rfl rfl (w2 _ _ j1) j2 (Nat.le_trans (show _ ≤ 3000 by rw [List.length_take, List.length_drop]; omega) (by decide)) fun d3 D3 w3 j3 => ?_
        have w13 := (w1.trans w2).trans w3
        have hV4 := w13 _ _ hV3
        have k4 := k3.trans (.of_same w13)
        have P4 := P3.same w13
        refine ⟨lV, _, _, rfl, rfl, hV4, szl (by omega), ?_⟩
        have d3V : d3 ≠ lV := ne_of j3 hV4 (by intro z; cases z)
        refine ⟨vs ++ [.ref d3], _, _, rfl, fun c o h n1 n2 => ?_, P4.put xV yV, upd_same, by rw [List.length_append]; omega, by rw [List.length_append]; exact Nat.succ_le_succ lv17, fun v mv => ?_⟩
        · rw [upd_ne (ne_of_none h nV)]
          exact k4 c o h n1 n2
        · rcases List.mem_append.mp mv with mv | mv
          · exact (allV3 v mv).up ((Kp3.of2 (.of_same w13)).trans .put)
          · rw [List.mem_singleton.mp mv]
            intro X kX
            have k1X : Kp2 b L H1 X := fun c o h n1 n2 => by
              have cV := ne_of_none h nV
              refine kX c o ?_ n1 n2 cV
              rw [upd_ne cV]
              exact k4 c o h n1 n2
            have gX : X d3 = some (.tup (xs.take k ++ xs.drop (k + 1))) := by
              obtain ⟨cs, tot, c, hp5, _⟩ := P4
              refine kX d3 _ ?_ (ne_of j3 hp5.hb (by intro z; cases z)) (ne_of j3 hp5.hL (by intro z; cases z)) d3V
              rw [upd_ne d3V]
              exact j3
            have nrX := (rowX k1X).2.2
            refine bs_rows (s := sn) gX (paired_appN (paired_takeN nrX k) (paired_dropN nrX (k + 1))) (fun y my => ?_) (by rw [List.length_append, List.length_take, List.length_drop]; omega) ?_
            · rcases List.mem_append.mp my with my | my
              · exact rq y (List.mem_of_mem_take my)
              · exact rq y (List.mem_of_mem_drop my)
            · have ndn : (rs.map (·.x)).Nodup := ris_nd sok.1
              have other : ∀ y ∈ rs.take k ++ rs.drop (k + 1), y.x ≠ r.x := fun y my e => by
                have hkr : (rs.map (·.x))[k]? = some r.x := by rw [List.getElem?_map, hr2]; rfl
                rcases List.mem_append.mp my with my | my
                · obtain ⟨i, hi⟩ := List.mem_iff_getElem?.mp my
                  rw [List.getElem?_take] at hi
                  split at hi
                  · rename_i lt
                    have hir : (rs.map (·.x))[i]? = some r.x := by rw [List.getElem?_map, hi, ← e]; rfl
                    have := (List.getElem?_inj (List.getElem?_eq_some_iff.mp hir).1 ndn).mp (hir.trans hkr.symm)
                    omega
                  · exact nomatch hi
                · obtain ⟨i, hi⟩ := List.mem_iff_getElem?.mp my
                  rw [List.getElem?_drop] at hi
                  have hir : (rs.map (·.x))[k + 1 + i]? = some r.x := by rw [List.getElem?_map, hi, ← e]; rfl
                  have := (List.getElem?_inj (List.getElem?_eq_some_iff.mp hir).1 ndn).mp (hir.trans hkr.symm)
                  omega
              refine bad_mem (r := q1) (y := r.x) ?_ (fun m => ?_) c1
              · obtain ⟨i, hi⟩ := List.mem_iff_getElem?.mp m1
                by_cases lt : i < k
                · exact List.mem_append_left _ (List.mem_of_getElem? (i := i) (by rw [List.getElem?_take, if_pos lt]; exact hi))
                · by_cases ei : i = k
                  · subst ei
                    rw [hr2] at hi
                    cases hi
                    exact absurd rfl (own r mr r.x c1)
                  · refine List.mem_append_right _ (List.mem_of_getElem? (i := i - (k + 1)) ?_)
                    rw [List.getElem?_drop, show k + 1 + (i - (k + 1)) = i by omega]
                    exact hi
              · obtain ⟨y, my, e⟩ := List.mem_map.mp m
                exact other y my e
      · rintro σ Z ⟨vs, y9, y10, rfl, kF, PF, hVF, lf1, lf18, allF⟩
        refine ⟨_, rfl, _, rfl, _, rfl, lV, _, rfl, .inl (SqL.of hVF), b, L, _, (vs.length : Int), rfl, PF, by omega, by omega, by omega, fun aL ZL aL0 aL1 PL kL => ?_⟩
        obtain ⟨jL, rfl⟩ : ∃ j : Nat, aL = (j : Int) := ⟨aL.toNat, by omega⟩
        have hvL : vs[jL]? = some vs[jL] := List.getElem?_eq_getElem (by omega)
        refine ⟨lV, _, (jL : Int), _, rfl, rfl, SqL.of (kL _ _ hVF xV yV), atI_nat hvL, ?_⟩
        exact q _ ZL ((allF _ (List.mem_of_getElem? hvL)).up (.of2 (.of_but kL))).to2.now (PL.le (by omega)) (k1.trans (kF.but.trans kL))
end

end My
namespace My
open PySem PySem.Spec PyProof.Rows L2
/-! ### the law k23 -/
section
variable {K : PySem.W.Frag} {mg : Str → Option Value} {H H' : Hp}
theorem tb_none (T : Top K mg) (h : Tb T.tbs H) (g : ∀ P, GxR.TabG H P → GxR.TabG H' P) : Tb T.tbs H' := .mk (fun P m => g P (h.g m)) (fun P q m => by simp [Top.tbs] at m)
theorem tb_but2 (T : Top K mg) {b L : Addr} {m : Int} (h : Tb T.tbs H) (p : PotAt H b L m) (k : But2 b L H H') : Tb T.tbs H' := by
  obtain ⟨ns, tot, n, p, _⟩ := p
  refine tb_none T h fun P g => ?_
  obtain ⟨ps, e, t⟩ := g
  refine ⟨ps, k _ _ e (fun z => ?_) (fun z => ?_), t⟩
  · rw [z, p.hb] at e
    cases e
  · rw [z, p.hL] at e
    cases e
end
theorem PotAt.kpq {H H' : Hp} {b L : Addr} {m : Int} (p : PotAt H b L m) (k : Kp H H') : PotAt H' b L m := by
  obtain ⟨ns, tot, n, p, h⟩ := p
  exact ⟨ns, tot, n, ⟨k _ _ p.hb (by intro ps z; cases z), k _ _ p.hL (by intro ps z; cases z), p.ne⟩, h⟩
section
variable {s : Bool} {S : Lk Nm} {f : Nm → Bool}
theorem drawn_rows (d : Dr s S) : RowsQ s ((sortN S.ns).map (rowT S f)) ∧ ShOk ((sortN S.ns).map (rowT S f)) ∧ ∀ r ∈ (sortN S.ns).map (rowT S f), ∀ y, (r.l = some y ∨ r.r = some y ∨ r.a = some y) → y ≠ r.x := by
  have en : ((sortN S.ns).map (rowT S f)).map (·.x) = sortN S.ns := by
    rw [List.map_map]
    exact List.map_id' _
  have mm : ∀ {x}, x ∈ ((sortN S.ns).map (rowT S f)).map (·.x) ↔ x ∈ S.ns := fun {x} => by rw [en]; exact sortN_mem
  have nd : (((sortN S.ns).map (rowT S f)).map (·.x)).Nodup := by
    rw [en]
    exact sortN_perm.nodup_iff.mpr d.nd
  have ab : ∀ x ∈ S.ns, aboveF ((sortN S.ns).map (rowT S f)) x = S.a x := fun x m => above_at nd (rowT S f x) (List.mem_map.mpr ⟨x, sortN_mem.mpr m, rfl⟩)
  have ok : ∀ {o : Option Nm}, (∀ y, o = some y → y ∈ S.ns) → OkF s o := fun h y e => by
    have g := d.al y (h y e)
    exact ⟨g.2.q, .inl g.1⟩
  obtain ⟨dd, hd⟩ := d.wf.rk
  refine ⟨fun r m => ?_, ⟨?_, fun r m => ?_, fun r m => ?_⟩, fun r m y e => ?_⟩
  · obtain ⟨x, mx, rfl⟩ := List.mem_map.mp m
    have mx := sortN_mem.mp mx
    obtain ⟨c1, c2, c3⟩ := d.wf.cl x mx
    exact ⟨d.al x mx, ok c1, ok c2, ok c3⟩
  · rw [en]
    exact ris_sort d.al d.nd
  · obtain ⟨x, mx, rfl⟩ := List.mem_map.mp m
    have mx := sortN_mem.mp mx
    obtain ⟨c1, c2, c3⟩ := d.wf.cl x mx
    refine ⟨fun n e => ?_, fun u e => mm.mpr (c3 u e), fun c e => ⟨mm.mpr (c1 c e), ?_⟩, fun c e => ⟨mm.mpr (c2 c e), ?_⟩⟩
    · have n : S.l x ≠ none := n
      have e : S.l x = S.r x := e
      cases h : S.l x with
      | none => exact n h
      | some y =>
        rw [h] at e
        exact d.wf.lr x mx y h e.symm
    · rw [ab c (c1 c e)]
      exact d.wf.dl x mx c e
    · rw [ab c (c2 c e)]
      exact d.wf.dr x mx c e
  · obtain ⟨x, mx, rfl⟩ := List.mem_map.mp m
    have mx := sortN_mem.mp mx
    refine EndsA.of_rank (ns := S.ns) (A := aboveF ((sortN S.ns).map (rowT S f))) (fun y my u e => ?_) (d := dd) (fun y my u e => ?_) (low_rank dd S.ns) x mx
    · rw [ab y my] at e
      exact (d.wf.cl y my).2.2 u e
    · rw [ab y my] at e
      exact hd y my u e
  · obtain ⟨x, mx, rfl⟩ := List.mem_map.mp m
    have mx := sortN_mem.mp mx
    intro ey
    have ey : y = x := ey
    subst ey
    rcases e with e | e | e
    · have := hd y mx y (d.wf.dl y mx y e)
      omega
    · have := hd y mx y (d.wf.dr y mx y e)
      omega
    · have := hd y mx y e
      omega
end
section
variable {P : Program} {w : World} {K : PySem.W.Frag} {mg : Str → Option Value} {base : Heap}
theorem run_law (T : Top K mg) {s : Shared} {H : Hp} {a : Addr} {ns : List Int} (TM : GxR.TabB base mg T.cM T.PM) (TS : GxR.TabB base mg T.cS T.PS) (TR : GxR.TabB base mg T.cR T.PR) (TH : GxR.TabB base mg T.cH T.PH) (TK : GxR.TabB base mg T.cK T.PK) (e0 : Env0 P w K mg base callerA [] s H) (hM : H T.PM = some (.tbl #[])) (hZ : H T.PS = some (.tbl #[])) (hR : H T.PR = some (.tbl #[])) (hH : H T.PH = some (.tbl #[])) (hK : H T.PK = some (.tbl #[])) (hS : SqL K H a (ns.map V.int)) (hlen : ns.length ≤ 63) (room : Room 9 callerA) (bind : ∀ (s : Shared) (u : Value), BindsTo s T.d_law ⟨[u], []⟩ [("_law_script", u)]) :
    codeAny (model P w) callerA (.call (.ref T.a_law) ⟨[.ref a], []⟩) (CR CX0 [] P w H s (fun v _ => v = .bl true) E0) s := by
  have G_Lpot : FnOk P w K mg base CX0 1 _ _ _ _ := ok_pot T
  have G_Ltake : FnOk P w K mg base CX0 2 _ _ _ _ := ok_take T
  have G_Ltree : FnOk P w K mg base CX0 4 _ _ _ _ := ok_ltreeN T
  have G_Lshape : FnOk P w K mg base CX0 3 _ _ _ _ := ok_lshapeN T
  have G_Lwrong : FnOk P w K mg base CX0 3 _ _ _ _ := ok_lwrong T
  have G_isshape : FnOk P w K mg base CX0 8 _ _ _ _ := ok_shapeN T TM TS TR TK TH
  have tb0 := tbs0 T hM hZ hR hH hK
  obtain ⟨oc, od, kV', doc, pm, an, cdv, ct, osl, ed, lk, hcd⟩ := T.F_law.ex
  rw [ed] at lk
  refine LamX.run_ofS (k := 8) (N := ["_law_script", "_law_pot_here", "_law_turn", "_law_many", "_law_shape_here", "_law_again"]) (ps := ["_law_script"]) (us := [.ref a]) (vs := [.ref a]) lk hcd sc_law room e0 (by rw [← ed]; exact bind s _) (.cons rfl .nil) rfl fun hr => ?_
  refine ⟨_, PSs.nox (pss_cons (ps_set (i := 1) sc_law.nd rfl (.inl rfl) (pe_call G_Lpot (hr.mono (by decide)) (by rfl) T.g_Lpot T.F_Lpot.kp T.b_Lpot .nil pass0 (pa_cons (pv 0) pa_nil)))
      (pss_cons (ps_for PassesOwn.never rfl (pi_range1 (by rfl) T.m_range (pa_cons pe_int pa_nil)) (pg_name (i := 2) sc_law.nd rfl (.inl rfl)) (pss_cons (ps_set (i := 3) sc_law.nd rfl (.inl rfl) (pe_ix ix_list (pe_lst (pa_cons (pe_op op_add pe_int (pe_call G_Ltake (hr.mono (by decide)) (by rfl) T.g_Ltake T.F_Ltake.kp T.b_Ltake .nil pass0 (pa_cons (pv 1) (pa_cons pe_int pa_nil)))) (pa_cons (pe_op op_add pe_int (pe_call G_Ltake (hr.mono (by decide)) (by rfl) T.g_Ltake T.F_Ltake.kp T.b_Ltake .nil pass0 (pa_cons (pv 1) (pa_cons pe_int pa_nil)))) pa_nil))) (pe_op op_fdivW (pe_call G_Ltake (hr.mono (by decide)) (by rfl) T.g_Ltake T.F_Ltake.kp T.b_Ltake .nil pass0 (pa_cons (pv 1) (pa_cons pe_int pa_nil))) pe_int) (fun _ _ => rfl)))
      (pss_cons (ps_set (i := 4) sc_law.nd rfl (.inl rfl) (pe_call G_Lshape (hr.mono (by decide)) (by rfl) T.g_Lshape T.F_Lshape.kp T.b_Lshape .nil pass0 (pa_cons (pv 1) (pa_cons (pe_call G_Ltree (hr.mono (by decide)) (by rfl) T.g_Ltree T.F_Ltree.kp T.b_Ltree .nil pass0 (pa_cons (pv 1) (pa_cons (pv 3) pa_nil))) pa_nil))))
      (pss_cons (ps_if (PW.pt (pw_or (pt_cmpR op_isnot_bl (pe_call G_isshape hr (by rfl) T.g_isshape T.F_isshape.kp T.b_isshape .nil pass0 (pa_cons (pv 4) pa_nil)) pe_bl (nomark _)) (pw_or1 (pt_cmpR op_isnot_bl (pe_call G_isshape hr (by rfl) T.g_isshape T.F_isshape.kp T.b_isshape .nil pass0 (pa_cons (pe_tup pa_nil) pa_nil)) pe_bl (nomark _))))) (pss_one (ps_ret pe_bl)) pss_nil)
      (pss_one (ps_for PassesOwn.never rfl (pi_range1 (by rfl) T.m_range (pa_cons pe_int pa_nil)) (pg_name (i := 5) sc_law.nd rfl (.inl rfl)) (pss_one (ps_if (pt_cmpR op_isnot_bl (pe_call G_isshape hr (by rfl) T.g_isshape T.F_isshape.kp T.b_isshape .nil pass0 (pa_cons (pe_call G_Lwrong (hr.mono (by decide)) (by rfl) T.g_Lwrong T.F_Lwrong.kp T.b_Lwrong .nil pass0 (pa_cons (pv 1) (pa_cons (pv 4) pa_nil))) pa_nil)) pe_bl (nomark _)) (pss_one (ps_ret pe_bl)) pss_nil))))))))
      (pss_one (ps_ret pe_bl)))), ?_⟩
  refine ⟨_, rfl, a, ns, rfl, hS, fun b L H1 s1 nb nL P1 => ?_⟩
  refine ⟨3, rfl, by decide, by decide, for_range (lo := 0) (n := 3) (fun i σ H2 => ∃ y2 y3 y4 y5 : Option V, σ = [some (.ref a), some (.ref b), y2, y3, y4, y5] ∧ PotAt H2 b L (1000 * (i : Int)) ∧ Tb T.tbs H2) ⟨_, _, _, _, rfl, P1.le (by omega), tb0.same s1⟩ ?_ ?_⟩
  · rintro i σ H2 hi ⟨y2, y3, y4, y5, rfl, P2, tb2⟩
    refine ⟨_, rfl, b, L, _, 12, rfl, P2, by omega, by decide, by decide, fun x1 A1 a1 c1 Q1 k1 => ⟨_, _, rfl, rfl, ?_⟩⟩
    refine ⟨_, rfl, b, L, _, 60, rfl, Q1, by omega, by decide, by decide, fun x2 A2 a2 c2 Q2 k2 => ⟨_, _, rfl, rfl, (by show 2 ≤ sizeLine; decide), fun p np => ?_⟩⟩
    have sp := same_new (o := .lst [V.int (1 + x1), V.int (1 + x2)]) np
    have hp : upd A2 p (.lst [V.int (1 + x1), V.int (1 + x2)]) p = some (.lst [V.int (1 + x1), V.int (1 + x2)]) := upd_same
    obtain ⟨e1, e2⟩ := Q2.ne np
    have Q2' := Q2.same sp
    have tbA := (tb_but2 T (tb_but2 T tb2 P2 k1) Q1 k2).same sp
    generalize upd A2 p (.lst [V.int (1 + x1), V.int (1 + x2)]) = A3 at sp hp Q2' tbA ⊢
    refine ⟨_, rfl, b, L, _, 4, rfl, Q2', by omega, by decide, by decide, fun x3 A4 a3 c3 Q3 k3 => ⟨_, _, rfl, rfl, wide_ok (by decide) (by decide), ?_⟩⟩
    have tbB := tb_but2 T tbA Q2' k3
    obtain ⟨n, hn, hn2⟩ := pick2 (u := 1 + x1) (v := 1 + x2) a3 c3
    have n1 : 1 ≤ n := by rcases hn2 with e | e <;> omega
    have n60 : n ≤ 60 := by rcases hn2 with e | e <;> omega
    refine ⟨p, _, _, _, rfl, rfl, SqL.of (k3 _ _ hp e1 e2), hn, ?_⟩
    obtain ⟨n, rfl⟩ : ∃ j : Nat, n = (j : Int) := ⟨n.toNat, by omega⟩
    -- the shape
    refine ⟨_, rfl, _, rfl, _, rfl, b, L, _, n, rfl, Q3, by omega, by omega, by omega, fun sn d ls S H4 tr dr len P4 k4 nd nls db => ?_⟩
    refine ⟨b, L, d, _, sn, ls, S, rfl, P4, by omega, tr, dr.al, dr.nd, by omega, fun t xs f H5 k5 P5 nt ht nr => ?_⟩
    have tb5 := tb_but2 T (tb_but2 T tbB Q3 k4) P4 k5
    obtain ⟨rq, sok, own⟩ := drawn_rows (f := f) dr
    have lrs : ((sortN S.ns).map (rowT S f)).length = n := by rw [List.length_map, sortN_len, len]
    generalize (sortN S.ns).map (rowT S f) = rs at nr rq sok own lrs
    refine ⟨_, rfl, .ref t, rfl, tb5, .inr (.inr ⟨t, xs, sn, rs, rfl, ht, nr, rq, by omega, fun b6 H6 k6 tb6 h1 h2 => ?_⟩)⟩
    cases b6 with
    | false => exact absurd sok (h2 rfl)
    | true =>
    refine ⟨true, true, rfl, rfl, _, rfl, iteF ?_⟩
    refine ⟨Nat.zero_le _, fun e ne => ⟨.ref e, rfl, tb6.same (same_new ne), .inr (.inr ⟨e, [], false, [], rfl, upd_same, .nil, (fun r m => nomatch m), Nat.zero_le _, fun b7 H7 k7 tb7 h3 h4 => ?_⟩)⟩⟩
    cases b7 with
    | false => exact absurd (show ShOk [] from ⟨(fun i x y e1 => by simp at e1), (fun r m => nomatch m), fun r m => nomatch m⟩) (h4 rfl)
    | true =>
    refine ⟨true, true, rfl, rfl, _, rfl, iteF ?_⟩
    have k57 : Kp H5 H7 := (k6.trans (Kp.of_same (same_new ne))).trans k7
    refine ⟨6, rfl, by decide, by decide, for_range (lo := 0) (n := 6) (fun j σ G => ∃ y5 : Option V, σ = [some (.ref a), some (.ref b), some (.int (0 + (i : Int))), some (.int (n : Int)), some (.ref t), y5] ∧ PotAt G b L (1000 * (i : Int) + 500 + 10 * (j : Int)) ∧ Tb T.tbs G ∧ G t = some (.tup xs) ∧ NRs G xs rs) ⟨_, rfl, (P5.kpq k57).le (by rw [len]; omega), tb7, k57.tup ht, nr.up k57.tupk⟩ ?_ ?_⟩
    · rintro j σ G hj ⟨y5, rfl, PG, tbG, htG, nrG⟩
      refine ⟨_, rfl, _, rfl, b, L, t, _, xs, sn, rs, rfl, PG, by omega, htG, nrG, rq, by omega, by omega, sok, own, fun v G2 bad PG2 k2 => ?_⟩
      have tbG2 := tb_but2 T tbG PG k2
      have tk2 := TupK.but2 k2 PG
      have fin : ∀ G3, Kp G2 G3 → Tb T.tbs G3 → ∃ y5' : Option V, [some (V.ref a), some (.ref b), some (.int (0 + (i : Int))), some (.int (n : Int)), some (.ref t), some (.int (0 + (j : Int)))] = [some (V.ref a), some (.ref b), some (.int (0 + (i : Int))), some (.int (n : Int)), some (.ref t), y5'] ∧ PotAt G3 b L (1000 * (i : Int) + 500 + 10 * ((j + 1 : Nat) : Int)) ∧ Tb T.tbs G3 ∧ G3 t = some (.tup xs) ∧ NRs G3 xs rs := fun G3 k3 tb3 => ⟨_, rfl, (PG2.kpq k3).le (by omega), tb3, k3.tup (tk2 _ _ htG), (nrG.up tk2).up k3.tupk⟩
      refine ⟨v, rfl, tbG2, ?_⟩
      rcases bad with nt | ⟨a', zs, bs, rfl, ha, sh, nall⟩ | ⟨a', zs, s', qs, rfl, ha, nq, rq', lq, nok⟩
      · exact .inl ⟨nt, fun G3 k3 tb3 => ⟨false, false, rfl, rfl, _, rfl, iteF (fin G3 k3 tb3)⟩⟩
      · exact .inr (.inl ⟨a', zs, bs, rfl, ha, sh, nall, fun G3 k3 tb3 => ⟨false, false, rfl, rfl, _, rfl, iteF (fin G3 k3 tb3)⟩⟩)
      · refine .inr (.inr ⟨a', zs, s', qs, rfl, ha, nq, rq', lq, fun b8 G3 k3 tb3 h5 h6 => ?_⟩)
        cases b8 with
        | true => exact absurd (h5 rfl) nok
        | false => exact ⟨false, false, rfl, rfl, _, rfl, iteF (fin G3 k3 tb3)⟩
    · rintro σ G ⟨y5, rfl, PG, tbG, htG, nrG⟩
      exact ⟨_, _, _, _, rfl, PG.le (by omega), tbG⟩
  · rintro σ H2 ⟨y2, y3, y4, y5, rfl, P2, tb2⟩
    rfl
end

end My
namespace My
open PySem L2
theorem all_mk {l : PySem.W.OpenLaw} {w : World} {K : PySem.W.Frag} {h : Heap} {mg : Str → Option Value} {fa f0 f1 f2 f3 f4 f5 f6 f7 f8 f9 f10 f11 f12 f13 f14 f15 f16 f17 f18 f19 : Addr} {cM PM : Addr} {eM : Value} {ddM : Option Addr} {vsM : Array Value} {sloM : Array (Option Value)} {cS PS : Addr} {eS : Value} {ddS : Option Addr} {vsS : Array Value} {sloS : Array (Option Value)} {cR PR : Addr} {eR : Value} {ddR : Option Addr} {vsR : Array Value} {sloR : Array (Option Value)} {cH PH : Addr} {eH : Value} {ddH : Option Addr} {vsH : Array Value} {sloH : Array (Option Value)} {cK PK : Addr} {eK : Value} {ddK : Option Addr} {vsK : Array Value} {sloK : Array (Option Value)} (X : K.In h) (G : h.Ns mainGlobals mg) (hfa : mg "law" = some (.ref fa))
    {od0 an0 od1 an1 od2 an2 od3 an3 od4 an4 od5 an5 od6 an6 od7 an7 od8 an8 od9 an9 od10 an10 od11 an11 od12 an12 od13 an13 od14 an14 od15 an15 od16 an16 od17 an17 od18 an18 od19 an19 : Option Addr} {sl0 sl1 sl2 sl3 sl4 sl5 sl6 sl7 sl8 sl9 sl10 sl11 sl12 sl13 sl14 sl15 sl16 sl17 sl18 sl19 : Array (Option Value)} {oc0 kV0 dc0 pm0 cd0 ct0 oc1 kV1 dc1 pm1 cd1 ct1 oc2 kV2 dc2 pm2 cd2 ct2 oc3 kV3 dc3 pm3 cd3 ct3 oc4 kV4 dc4 pm4 cd4 ct4 oc5 kV5 dc5 pm5 cd5 ct5 oc6 kV6 dc6 pm6 cd6 ct6 oc7 kV7 dc7 pm7 cd7 ct7 oc8 kV8 dc8 pm8 cd8 ct8 oc9 kV9 dc9 pm9 cd9 ct9 oc10 kV10 dc10 pm10 cd10 ct10 oc11 kV11 dc11 pm11 cd11 ct11 oc12 kV12 dc12 pm12 cd12 ct12 oc13 kV13 dc13 pm13 cd13 ct13 oc14 kV14 dc14 pm14 cd14 ct14 oc15 kV15 dc15 pm15 cd15 ct15 oc16 kV16 dc16 pm16 cd16 ct16 oc17 kV17 dc17 pm17 cd17 ct17 oc18 kV18 dc18 pm18 cd18 ct18 oc19 kV19 dc19 pm19 cd19 ct19 : Value}
    (a0 : PySem.W.nsIn K mainGlobals "is_whole" = some (some (.ref f0))) (l0 : K.lookup f0 = some ⟨oc0, od0, .func (PySem.W.fnOf "is_whole" "is_whole" (defArgs s_iswhole) (defBody s_iswhole) (defScope s_iswhole) .none kV0 dc0 pm0 an0 cd0 ct0), sl0⟩) (c0 : PySem.W.codeIn K cd0 "is_whole" = true) (k0 : PySem.W.keepIn K (.ref f0) = true)
    (a1 : PySem.W.nsIn K mainGlobals "is_rising" = some (some (.ref f1))) (l1 : K.lookup f1 = some ⟨oc1, od1, .func (PySem.W.fnOf "is_rising" "is_rising" (defArgs s_isrising) (defBody s_isrising) (defScope s_isrising) .none kV1 dc1 pm1 an1 cd1 ct1), sl1⟩) (c1 : PySem.W.codeIn K cd1 "is_rising" = true) (k1 : PySem.W.keepIn K (.ref f1) = true)
    (a2 : PySem.W.nsIn K mainGlobals "is_mark" = some (some (.ref f2))) (l2 : K.lookup f2 = some ⟨oc2, od2, .func (PySem.W.fnOf "is_mark" "is_mark" (defArgs s_ismark) (defBody s_ismark) (defScope s_ismark) .none kV2 dc2 pm2 an2 cd2 ct2), sl2⟩) (c2 : PySem.W.codeIn K cd2 "is_mark" = true) (k2 : PySem.W.keepIn K (.ref f2) = true)
    (a3 : PySem.W.nsIn K mainGlobals "is_name" = some (some (.ref f3))) (l3 : K.lookup f3 = some ⟨oc3, od3, .func (PySem.W.fnOf "is_name" "is_name" (defArgs s_isname) (defBody s_isname) (defScope s_isname) .none kV3 dc3 pm3 an3 cd3 ct3), sl3⟩) (c3 : PySem.W.codeIn K cd3 "is_name" = true) (k3 : PySem.W.keepIn K (.ref f3) = true)
    (a4 : PySem.W.nsIn K mainGlobals "is_shape" = some (some (.ref f4))) (l4 : K.lookup f4 = some ⟨oc4, od4, .func (PySem.W.fnOf "is_shape" "is_shape" (defArgs s_isshape) (defBody s_isshape) (defScope s_isshape) .none kV4 dc4 pm4 an4 cd4 ct4), sl4⟩) (c4 : PySem.W.codeIn K cd4 "is_shape" = true) (k4 : PySem.W.keepIn K (.ref f4) = true)
    (a5 : PySem.W.nsIn K mainGlobals "is_shape_row" = some (some (.ref f5))) (l5 : K.lookup f5 = some ⟨oc5, od5, .func (PySem.W.fnOf "is_shape_row" "is_shape_row" (defArgs s_isshaperow) (defBody s_isshaperow) (defScope s_isshaperow) .none kV5 dc5 pm5 an5 cd5 ct5), sl5⟩) (c5 : PySem.W.codeIn K cd5 "is_shape_row" = true) (k5 : PySem.W.keepIn K (.ref f5) = true)
    (a6 : PySem.W.nsIn K mainGlobals "are_linked" = some (some (.ref f6))) (l6 : K.lookup f6 = some ⟨oc6, od6, .func (PySem.W.fnOf "are_linked" "are_linked" (defArgs s_arelinked) (defBody s_arelinked) (defScope s_arelinked) .none kV6 dc6 pm6 an6 cd6 ct6), sl6⟩) (c6 : PySem.W.codeIn K cd6 "are_linked" = true) (k6 : PySem.W.keepIn K (.ref f6) = true)
    (a7 : PySem.W.nsIn K mainGlobals "is_below" = some (some (.ref f7))) (l7 : K.lookup f7 = some ⟨oc7, od7, .func (PySem.W.fnOf "is_below" "is_below" (defArgs s_isbelow) (defBody s_isbelow) (defScope s_isbelow) .none kV7 dc7 pm7 an7 cd7 ct7), sl7⟩) (c7 : PySem.W.codeIn K cd7 "is_below" = true) (k7 : PySem.W.keepIn K (.ref f7) = true)
    (a8 : PySem.W.nsIn K mainGlobals "has_ring_above" = some (some (.ref f8))) (l8 : K.lookup f8 = some ⟨oc8, od8, .func (PySem.W.fnOf "has_ring_above" "has_ring_above" (defArgs s_hasringabove) (defBody s_hasringabove) (defScope s_hasringabove) .none kV8 dc8 pm8 an8 cd8 ct8), sl8⟩) (c8 : PySem.W.codeIn K cd8 "has_ring_above" = true) (k8 : PySem.W.keepIn K (.ref f8) = true)
    (a9 : PySem.W.nsIn K mainGlobals "_law_mixed" = some (some (.ref f9))) (l9 : K.lookup f9 = some ⟨oc9, od9, .func (PySem.W.fnOf "_law_mixed" "_law_mixed" (defArgs s_Lmixed) (defBody s_Lmixed) (defScope s_Lmixed) .none kV9 dc9 pm9 an9 cd9 ct9), sl9⟩) (c9 : PySem.W.codeIn K cd9 "_law_mixed" = true) (k9 : PySem.W.keepIn K (.ref f9) = true)
    (a10 : PySem.W.nsIn K mainGlobals "_law_pot" = some (some (.ref f10))) (l10 : K.lookup f10 = some ⟨oc10, od10, .func (PySem.W.fnOf "_law_pot" "_law_pot" (defArgs s_Lpot) (defBody s_Lpot) (defScope s_Lpot) .none kV10 dc10 pm10 an10 cd10 ct10), sl10⟩) (c10 : PySem.W.codeIn K cd10 "_law_pot" = true) (k10 : PySem.W.keepIn K (.ref f10) = true)
    (a11 : PySem.W.nsIn K mainGlobals "_law_take" = some (some (.ref f11))) (l11 : K.lookup f11 = some ⟨oc11, od11, .func (PySem.W.fnOf "_law_take" "_law_take" (defArgs s_Ltake) (defBody s_Ltake) (defScope s_Ltake) .none kV11 dc11 pm11 an11 cd11 ct11), sl11⟩) (c11 : PySem.W.codeIn K cd11 "_law_take" = true) (k11 : PySem.W.keepIn K (.ref f11) = true)
    (a12 : PySem.W.nsIn K mainGlobals "_law_rows" = some (some (.ref f12))) (l12 : K.lookup f12 = some ⟨oc12, od12, .func (PySem.W.fnOf "_law_rows" "_law_rows" (defArgs s_Lrows) (defBody s_Lrows) (defScope s_Lrows) .none kV12 dc12 pm12 an12 cd12 ct12), sl12⟩) (c12 : PySem.W.codeIn K cd12 "_law_rows" = true) (k12 : PySem.W.keepIn K (.ref f12) = true)
    (a13 : PySem.W.nsIn K mainGlobals "_law_names" = some (some (.ref f13))) (l13 : K.lookup f13 = some ⟨oc13, od13, .func (PySem.W.fnOf "_law_names" "_law_names" (defArgs s_Lnames) (defBody s_Lnames) (defScope s_Lnames) .none kV13 dc13 pm13 an13 cd13 ct13), sl13⟩) (c13 : PySem.W.codeIn K cd13 "_law_names" = true) (k13 : PySem.W.keepIn K (.ref f13) = true)
    (a14 : PySem.W.nsIn K mainGlobals "_law_tree" = some (some (.ref f14))) (l14 : K.lookup f14 = some ⟨oc14, od14, .func (PySem.W.fnOf "_law_tree" "_law_tree" (defArgs s_Ltree) (defBody s_Ltree) (defScope s_Ltree) .none kV14 dc14 pm14 an14 cd14 ct14), sl14⟩) (c14 : PySem.W.codeIn K cd14 "_law_tree" = true) (k14 : PySem.W.keepIn K (.ref f14) = true)
    (a15 : PySem.W.nsIn K mainGlobals "_law_shape" = some (some (.ref f15))) (l15 : K.lookup f15 = some ⟨oc15, od15, .func (PySem.W.fnOf "_law_shape" "_law_shape" (defArgs s_Lshape) (defBody s_Lshape) (defScope s_Lshape) .none kV15 dc15 pm15 an15 cd15 ct15), sl15⟩) (c15 : PySem.W.codeIn K cd15 "_law_shape" = true) (k15 : PySem.W.keepIn K (.ref f15) = true)
    (a16 : PySem.W.nsIn K mainGlobals "_law_put" = some (some (.ref f16))) (l16 : K.lookup f16 = some ⟨oc16, od16, .func (PySem.W.fnOf "_law_put" "_law_put" (defArgs s_Lput) (defBody s_Lput) (defScope s_Lput) .none kV16 dc16 pm16 an16 cd16 ct16), sl16⟩) (c16 : PySem.W.codeIn K cd16 "_law_put" = true) (k16 : PySem.W.keepIn K (.ref f16) = true)
    (a17 : PySem.W.nsIn K mainGlobals "_law_wrong" = some (some (.ref f17))) (l17 : K.lookup f17 = some ⟨oc17, od17, .func (PySem.W.fnOf "_law_wrong" "_law_wrong" (defArgs s_Lwrong) (defBody s_Lwrong) (defScope s_Lwrong) .none kV17 dc17 pm17 an17 cd17 ct17), sl17⟩) (c17 : PySem.W.codeIn K cd17 "_law_wrong" = true) (k17 : PySem.W.keepIn K (.ref f17) = true)
    (a18 : PySem.W.nsIn K mainGlobals "_law_crossed" = some (some (.ref f18))) (l18 : K.lookup f18 = some ⟨oc18, od18, .func (PySem.W.fnOf "_law_crossed" "_law_crossed" (defArgs s_Lcrossed) (defBody s_Lcrossed) (defScope s_Lcrossed) .none kV18 dc18 pm18 an18 cd18 ct18), sl18⟩) (c18 : PySem.W.codeIn K cd18 "_law_crossed" = true) (k18 : PySem.W.keepIn K (.ref f18) = true)
    (a19 : PySem.W.nsIn K mainGlobals "law" = some (some (.ref f19))) (l19 : K.lookup f19 = some ⟨oc19, od19, .func (PySem.W.fnOf "law" "law" (defArgs s_law) (defBody s_law) (defScope s_law) .none kV19 dc19 pm19 an19 cd19 ct19), sl19⟩) (c19 : PySem.W.codeIn K cd19 "law" = true) (k19 : PySem.W.keepIn K (.ref f19) = true)
    (z0 : PySem.W.nsIn K mainGlobals "abs" = some none)
    (z1 : PySem.W.nsIn K mainGlobals "all" = some none)
    (z2 : PySem.W.nsIn K mainGlobals "bool" = some none)
    (z3 : PySem.W.nsIn K mainGlobals "enumerate" = some none)
    (z4 : PySem.W.nsIn K mainGlobals "int" = some none)
    (z5 : PySem.W.nsIn K mainGlobals "isinstance" = some none)
    (z6 : PySem.W.nsIn K mainGlobals "len" = some none)
    (z7 : PySem.W.nsIn K mainGlobals "list" = some none)
    (z8 : PySem.W.nsIn K mainGlobals "range" = some none)
    (z9 : PySem.W.nsIn K mainGlobals "sorted" = some none)
    (z10 : PySem.W.nsIn K mainGlobals "str" = some none)
    (z11 : PySem.W.nsIn K mainGlobals "tuple" = some none)
    (z12 : PySem.W.nsIn K mainGlobals "zip" = some none)
    (hcM : cd2 = .ref cM)
    (lcM : K.lookup cM = some ⟨eM, ddM, .fields vsM, sloM⟩)
    (v11M : vsM[11]? = some (.ref PM))
    (nPM : K.lookup PM = none)
    (hdM : PySem.W.codeHdIn K cM PM = true)
    (hcS : cd5 = .ref cS)
    (lcS : K.lookup cS = some ⟨eS, ddS, .fields vsS, sloS⟩)
    (v11S : vsS[11]? = some (.ref PS))
    (nPS : K.lookup PS = none)
    (hdS : PySem.W.codeHdIn K cS PS = true)
    (hcR : cd1 = .ref cR)
    (lcR : K.lookup cR = some ⟨eR, ddR, .fields vsR, sloR⟩)
    (v11R : vsR[11]? = some (.ref PR))
    (nPR : K.lookup PR = none)
    (hdR : PySem.W.codeHdIn K cR PR = true)
    (hcH : cd4 = .ref cH)
    (lcH : K.lookup cH = some ⟨eH, ddH, .fields vsH, sloH⟩)
    (v11H : vsH[11]? = some (.ref PH))
    (nPH : K.lookup PH = none)
    (hdH : PySem.W.codeHdIn K cH PH = true)
    (hcK : cd6 = .ref cK)
    (lcK : K.lookup cK = some ⟨eK, ddK, .fields vsK, sloK⟩)
    (v11K : vsK[11]? = some (.ref PK))
    (nPK : K.lookup PK = none)
    (hdK : PySem.W.codeHdIn K cK PK = true)
    (hneP : ([PM, PS, PR, PH, PK] : List Addr).Nodup)
    (tabs : ∀ nm ∈ (["is_mark", "is_shape_row", "is_rising", "is_shape", "are_linked"] : List Str), TabAt mg h nm) : ∃ cs : List (Addr × Addr), (∀ p ∈ cs, h.get? p.2 = some { cls := .none, data := .fields #[] }) ∧ (∀ p ∈ cs, K.lookup p.2 = none) ∧ (∀ p ∈ cs, PySem.W.CodeHd h p.1 p.2) ∧
      ∀ (s : Shared) (H : Hp) (base : Heap) (a : Addr) (ns : List Int), ns.length ≤ 63 → (∀ z ∈ ns, Builtin.Int.intBits z ≤ 1048576) → (∀ p ∈ cs, LamX.TabB base mg p.1 p.2) → Env0 l.prog w K mg base callerA [] s H → (∀ p ∈ cs, H p.2 = some (.tbl #[])) → SqL K H a (ns.map V.int) →
        codeAny (model l.prog w) callerA (.call (.ref fa) ⟨[.ref a], []⟩) (CR CX0 [] l.prog w H s (fun v _ => v = .bl true) E0) s := by
  have e := hfa.symm.trans (PySem.W.mg_of X G a19)
  cases e
  have F0 := fun_mk (st := s_iswhole) l0 c0 k0
  have b0 := F0.binds (ps := ["thing"]) fun _ _ _ _ _ _ us hl => match us, hl with | [_], _ => rfl
  have F1 := fun_mk (st := s_isrising) l1 c1 k1
  have b1 := F1.binds (ps := ["row"]) fun _ _ _ _ _ _ us hl => match us, hl with | [_], _ => rfl
  have F2 := fun_mk (st := s_ismark) l2 c2 k2
  have b2 := F2.binds (ps := ["thing"]) fun _ _ _ _ _ _ us hl => match us, hl with | [_], _ => rfl
  have F3 := fun_mk (st := s_isname) l3 c3 k3
  have b3 := F3.binds (ps := ["thing"]) fun _ _ _ _ _ _ us hl => match us, hl with | [_], _ => rfl
  have F4 := fun_mk (st := s_isshape) l4 c4 k4
  have b4 := F4.binds (ps := ["thing"]) fun _ _ _ _ _ _ us hl => match us, hl with | [_], _ => rfl
  have F5 := fun_mk (st := s_isshaperow) l5 c5 k5
  have b5 := F5.binds (ps := ["thing"]) fun _ _ _ _ _ _ us hl => match us, hl with | [_], _ => rfl
  have F6 := fun_mk (st := s_arelinked) l6 c6 k6
  have b6 := F6.binds (ps := ["rows"]) fun _ _ _ _ _ _ us hl => match us, hl with | [_], _ => rfl
  have F7 := fun_mk (st := s_isbelow) l7 c7 k7
  have b7 := F7.binds (ps := ["above", "child", "name"]) fun _ _ _ _ _ _ us hl => match us, hl with | [_, _, _], _ => rfl
  have F8 := fun_mk (st := s_hasringabove) l8 c8 k8
  have b8 := F8.binds (ps := ["above"]) fun _ _ _ _ _ _ us hl => match us, hl with | [_], _ => rfl
  have F9 := fun_mk (st := s_Lmixed) l9 c9 k9
  have b9 := F9.binds (ps := ["_law_cell", "_law_k"]) fun _ _ _ _ _ _ us hl => match us, hl with | [_, _], _ => rfl
  have F10 := fun_mk (st := s_Lpot) l10 c10 k10
  have b10 := F10.binds (ps := ["_law_script"]) fun _ _ _ _ _ _ us hl => match us, hl with | [_], _ => rfl
  have F11 := fun_mk (st := s_Ltake) l11 c11 k11
  have b11 := F11.binds (ps := ["_law_pot_here", "_law_many"]) fun _ _ _ _ _ _ us hl => match us, hl with | [_, _], _ => rfl
  have F12 := fun_mk (st := s_Lrows) l12 c12 k12
  have b12 := F12.binds (ps := ["_law_tree_here"]) fun _ _ _ _ _ _ us hl => match us, hl with | [_], _ => rfl
  have F13 := fun_mk (st := s_Lnames) l13 c13 k13
  have b13 := F13.binds (ps := ["_law_pot_here", "_law_many"]) fun _ _ _ _ _ _ us hl => match us, hl with | [_, _], _ => rfl
  have F14 := fun_mk (st := s_Ltree) l14 c14 k14
  have b14 := F14.binds (ps := ["_law_pot_here", "_law_many"]) fun _ _ _ _ _ _ us hl => match us, hl with | [_, _], _ => rfl
  have F15 := fun_mk (st := s_Lshape) l15 c15 k15
  have b15 := F15.binds (ps := ["_law_pot_here", "_law_tree_here"]) fun _ _ _ _ _ _ us hl => match us, hl with | [_, _], _ => rfl
  have F16 := fun_mk (st := s_Lput) l16 c16 k16
  have b16 := F16.binds (ps := ["_law_row", "_law_at", "_law_thing"]) fun _ _ _ _ _ _ us hl => match us, hl with | [_, _, _], _ => rfl
  have F17 := fun_mk (st := s_Lwrong) l17 c17 k17
  have b17 := F17.binds (ps := ["_law_pot_here", "_law_shape_here"]) fun _ _ _ _ _ _ us hl => match us, hl with | [_, _], _ => rfl
  have F18 := fun_mk (st := s_Lcrossed) l18 c18 k18
  have b18 := F18.binds (ps := ["_law_shape_here", "_law_at"]) fun _ _ _ _ _ _ us hl => match us, hl with | [_, _], _ => rfl
  have F19 := fun_mk (st := s_law) l19 c19 k19
  have b19 := F19.binds (ps := ["_law_script"]) fun _ _ _ _ _ _ us hl => match us, hl with | [_], _ => rfl
  let T : Top K mg := ⟨_, _, F0, b0, PySem.W.mg_of X G a0, _, _, F1, b1, PySem.W.mg_of X G a1, _, _, F2, b2, PySem.W.mg_of X G a2, _, _, F3, b3, PySem.W.mg_of X G a3, _, _, F4, b4, PySem.W.mg_of X G a4, _, _, F5, b5, PySem.W.mg_of X G a5, _, _, F6, b6, PySem.W.mg_of X G a6, _, _, F7, b7, PySem.W.mg_of X G a7, _, _, F8, b8, PySem.W.mg_of X G a8, _, _, F9, b9, PySem.W.mg_of X G a9, _, _, F10, b10, PySem.W.mg_of X G a10, _, _, F11, b11, PySem.W.mg_of X G a11, _, _, F12, b12, PySem.W.mg_of X G a12, _, _, F13, b13, PySem.W.mg_of X G a13, _, _, F14, b14, PySem.W.mg_of X G a14, _, _, F15, b15, PySem.W.mg_of X G a15, _, _, F16, b16, PySem.W.mg_of X G a16, _, _, F17, b17, PySem.W.mg_of X G a17, _, _, F18, b18, PySem.W.mg_of X G a18, _, _, F19, b19, PySem.W.mg_of X G a19, PySem.W.mg_none_of X G z0, PySem.W.mg_none_of X G z1, PySem.W.mg_none_of X G z2, PySem.W.mg_none_of X G z3, PySem.W.mg_none_of X G z4, PySem.W.mg_none_of X G z5, PySem.W.mg_none_of X G z6, PySem.W.mg_none_of X G z7, PySem.W.mg_none_of X G z8, PySem.W.mg_none_of X G z9, PySem.W.mg_none_of X G z10, PySem.W.mg_none_of X G z11, PySem.W.mg_none_of X G z12, cM, PM, hcM, cS, PS, hcS, cR, PR, hcR, cH, PH, hcH, cK, PK, hcK, hneP⟩
  refine ⟨[(cM, PM), (cS, PS), (cR, PR), (cH, PH), (cK, PK)], ?_, ?_, ?_, fun s H base a ns hlen hbits tb e0 th sq => ?_⟩
  · intro p hp
    rcases mem5 hp with rfl | rfl | rfl | rfl | rfl
    · exact tab_empty (tabs _ List.mem_cons_self) X (PySem.W.mg_of X G a2) l2 rfl hcM lcM v11M
    · exact tab_empty (tabs _ (List.mem_cons_of_mem _ List.mem_cons_self)) X (PySem.W.mg_of X G a5) l5 rfl hcS lcS v11S
    · exact tab_empty (tabs _ (List.mem_cons_of_mem _ (List.mem_cons_of_mem _ List.mem_cons_self))) X (PySem.W.mg_of X G a1) l1 rfl hcR lcR v11R
    · exact tab_empty (tabs _ (List.mem_cons_of_mem _ (List.mem_cons_of_mem _ (List.mem_cons_of_mem _ List.mem_cons_self)))) X (PySem.W.mg_of X G a4) l4 rfl hcH lcH v11H
    · exact tab_empty (tabs _ (List.mem_cons_of_mem _ (List.mem_cons_of_mem _ (List.mem_cons_of_mem _ (List.mem_cons_of_mem _ List.mem_cons_self))))) X (PySem.W.mg_of X G a6) l6 rfl hcK lcK v11K
  · intro p hp
    rcases mem5 hp with rfl | rfl | rfl | rfl | rfl
    · exact nPM
    · exact nPS
    · exact nPR
    · exact nPH
    · exact nPK
  · intro p hp
    rcases mem5 hp with rfl | rfl | rfl | rfl | rfl
    · exact PySem.W.codeHd_of_K X hdM
    · exact PySem.W.codeHd_of_K X hdS
    · exact PySem.W.codeHd_of_K X hdR
    · exact PySem.W.codeHd_of_K X hdH
    · exact PySem.W.codeHd_of_K X hdK
  · exact run_law T ⟨(tb _ List.mem_cons_self).code, (tb _ List.mem_cons_self).bm, (tb _ List.mem_cons_self).gP⟩ ⟨(tb _ (List.mem_cons_of_mem _ List.mem_cons_self)).code, (tb _ (List.mem_cons_of_mem _ List.mem_cons_self)).bm, (tb _ (List.mem_cons_of_mem _ List.mem_cons_self)).gP⟩ ⟨(tb _ (List.mem_cons_of_mem _ (List.mem_cons_of_mem _ List.mem_cons_self))).code, (tb _ (List.mem_cons_of_mem _ (List.mem_cons_of_mem _ List.mem_cons_self))).bm, (tb _ (List.mem_cons_of_mem _ (List.mem_cons_of_mem _ List.mem_cons_self))).gP⟩ ⟨(tb _ (List.mem_cons_of_mem _ (List.mem_cons_of_mem _ (List.mem_cons_of_mem _ List.mem_cons_self)))).code, (tb _ (List.mem_cons_of_mem _ (List.mem_cons_of_mem _ (List.mem_cons_of_mem _ List.mem_cons_self)))).bm, (tb _ (List.mem_cons_of_mem _ (List.mem_cons_of_mem _ (List.mem_cons_of_mem _ List.mem_cons_self)))).gP⟩ ⟨(tb _ (List.mem_cons_of_mem _ (List.mem_cons_of_mem _ (List.mem_cons_of_mem _ (List.mem_cons_of_mem _ List.mem_cons_self))))).code, (tb _ (List.mem_cons_of_mem _ (List.mem_cons_of_mem _ (List.mem_cons_of_mem _ (List.mem_cons_of_mem _ List.mem_cons_self))))).bm, (tb _ (List.mem_cons_of_mem _ (List.mem_cons_of_mem _ (List.mem_cons_of_mem _ (List.mem_cons_of_mem _ List.mem_cons_self))))).gP⟩ e0 (th _ List.mem_cons_self) (th _ (List.mem_cons_of_mem _ List.mem_cons_self)) (th _ (List.mem_cons_of_mem _ (List.mem_cons_of_mem _ List.mem_cons_self))) (th _ (List.mem_cons_of_mem _ (List.mem_cons_of_mem _ (List.mem_cons_of_mem _ List.mem_cons_self)))) (th _ (List.mem_cons_of_mem _ (List.mem_cons_of_mem _ (List.mem_cons_of_mem _ (List.mem_cons_of_mem _ List.mem_cons_self))))) sq hlen ⟨rfl, by decide, by decide⟩ (fun s u => .of_eq rfl)
end My
open PySem PySem.W PyProof.Rows
set_option maxRecDepth 100000 in
set_option maxHeartbeats 0 in
theorem PySem.Challenge.cw_tiedcut_k23_shapes_or_not_holds : PySem.Challenge.rw_tiedcut_k23_shapes_or_not.Holds := by
  w_on; o_law; k_head; (case hw => w_witness2)
  k_fill
  refine My.walk_law0 (l := PySem.Challenge.rw_tiedcut_k23_shapes_or_not) (most := 63) ["is_mark", "is_shape_row", "is_rising", "is_shape", "are_linked"] rfl (by decide) rfl (by decide +kernel) (fun w h Y => by first | exact PySem.W.kIn_of Y | exact PySem.W.km_in_of Y) ?F
  case F =>
    intro w mg fa h KX G hmg tabs
    refine' My.all_mk KX G hmg ?a0 ?l0 ?c0 ?k0 ?a1 ?l1 ?c1 ?k1 ?a2 ?l2 ?c2 ?k2 ?a3 ?l3 ?c3 ?k3 ?a4 ?l4 ?c4 ?k4 ?a5 ?l5 ?c5 ?k5 ?a6 ?l6 ?c6 ?k6 ?a7 ?l7 ?c7 ?k7 ?a8 ?l8 ?c8 ?k8 ?a9 ?l9 ?c9 ?k9 ?a10 ?l10 ?c10 ?k10 ?a11 ?l11 ?c11 ?k11 ?a12 ?l12 ?c12 ?k12 ?a13 ?l13 ?c13 ?k13 ?a14 ?l14 ?c14 ?k14 ?a15 ?l15 ?c15 ?k15 ?a16 ?l16 ?c16 ?k16 ?a17 ?l17 ?c17 ?k17 ?a18 ?l18 ?c18 ?k18 ?a19 ?l19 ?c19 ?k19 ?z0 ?z1 ?z2 ?z3 ?z4 ?z5 ?z6 ?z7 ?z8 ?z9 ?z10 ?z11 ?z12 ?hcM ?lcM ?v11M ?nPM ?hdM ?hcS ?lcS ?v11S ?nPS ?hdS ?hcR ?lcR ?v11R ?nPR ?hdR ?hcH ?lcH ?v11H ?nPH ?hdH ?hcK ?lcK ?v11K ?nPK ?hdK ?hneP tabs
    (case a0 => k_is)
    (case l0 => k_is)
    (case c0 => k_is)
    (case k0 => k_is)
    (case a1 => k_is)
    (case l1 => k_is)
    (case c1 => k_is)
    (case k1 => k_is)
    (case a2 => k_is)
    (case l2 => k_is)
    (case c2 => k_is)
    (case k2 => k_is)
    (case a3 => k_is)
    (case l3 => k_is)
    (case c3 => k_is)
    (case k3 => k_is)
    (case a4 => k_is)
    (case l4 => k_is)
    (case c4 => k_is)
    (case k4 => k_is)
    (case a5 => k_is)
    (case l5 => k_is)
    (case c5 => k_is)
    (case k5 => k_is)
    (case a6 => k_is)
    (case l6 => k_is)
    (case c6 => k_is)
    (case k6 => k_is)
    (case a7 => k_is)
    (case l7 => k_is)
    (case c7 => k_is)
    (case k7 => k_is)
    (case a8 => k_is)
    (case l8 => k_is)
    (case c8 => k_is)
    (case k8 => k_is)
    (case a9 => k_is)
    (case l9 => k_is)
    (case c9 => k_is)
    (case k9 => k_is)
    (case a10 => k_is)
    (case l10 => k_is)
    (case c10 => k_is)
    (case k10 => k_is)
    (case a11 => k_is)
    (case l11 => k_is)
    (case c11 => k_is)
    (case k11 => k_is)
    (case a12 => k_is)
    (case l12 => k_is)
    (case c12 => k_is)
    (case k12 => k_is)
    (case a13 => k_is)
    (case l13 => k_is)
    (case c13 => k_is)
    (case k13 => k_is)
    (case a14 => k_is)
    (case l14 => k_is)
    (case c14 => k_is)
    (case k14 => k_is)
    (case a15 => k_is)
    (case l15 => k_is)
    (case c15 => k_is)
    (case k15 => k_is)
    (case a16 => k_is)
    (case l16 => k_is)
    (case c16 => k_is)
    (case k16 => k_is)
    (case a17 => k_is)
    (case l17 => k_is)
    (case c17 => k_is)
    (case k17 => k_is)
    (case a18 => k_is)
    (case l18 => k_is)
    (case c18 => k_is)
    (case k18 => k_is)
    (case a19 => k_is)
    (case l19 => k_is)
    (case c19 => k_is)
    (case k19 => k_is)
    (case z0 => k_is)
    (case z1 => k_is)
    (case z2 => k_is)
    (case z3 => k_is)
    (case z4 => k_is)
    (case z5 => k_is)
    (case z6 => k_is)
    (case z7 => k_is)
    (case z8 => k_is)
    (case z9 => k_is)
    (case z10 => k_is)
    (case z11 => k_is)
    (case z12 => k_is)
    (case hcM => rfl)
    (case lcM => k_is)
    (case v11M => rfl)
    (case nPM => kernel_rfl)
    (case hdM => kernel_rfl)
    (case hcS => rfl)
    (case lcS => k_is)
    (case v11S => rfl)
    (case nPS => kernel_rfl)
    (case hdS => kernel_rfl)
    (case hcR => rfl)
    (case lcR => k_is)
    (case v11R => rfl)
    (case nPR => kernel_rfl)
    (case hdR => kernel_rfl)
    (case hcH => rfl)
    (case lcH => k_is)
    (case v11H => rfl)
    (case nPH => kernel_rfl)
    (case hdH => kernel_rfl)
    (case hcK => rfl)
    (case lcK => k_is)
    (case v11K => rfl)
    (case nPK => kernel_rfl)
    (case hdK => kernel_rfl)
    (case hneP => decide +kernel)
