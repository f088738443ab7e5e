import PyProof.Rows.All
import Wide.All
import OpenK.AllK
import Wide.FinOn
import HandS.ForMost
import HandS.More
import HandS.Sort
import HandS.Wide
import HandS.WideBits
import HandS.IsInst
import HandS.EndBits
import HandS.Exc
import HandS.ExcOwn
import HandS.ExcValue
import HandS.ExcInit
import HandS.ExcField
import HandS.WordsExc
import KE.KExcIs
import HandS.HotCalls
import HandS.TupLe
import HandS.TupAny
import HandS.Zip
import HandS.Walk
import HandS.Star
import HandS.Style
import HandS.CallLocal
import HandS.Deep
import HandS.AnyAll
import HandS.GenOver
import HandS.EndTab
import HandS.Lambda
import PyProof.TupleOfGen
import PyProof.GenCompD
import PyProof.EqLayable
import HandS.SortInts
import HandS.RaiseMore
import HandS.SetFor
import HandS.Strs
import HandS.SortRule
import HandS.TryOnly
import HandS.Set
import HandS.Flow
import HandS.TupLen
import KE.KDictPairs
import KE.DataFind
import KE.GoesMore
import HandS.RevTup
import HandS.Rev
import HandS.Text
import HandS.StrMore
import HandS.Replace
import PyProof.StrLawsAffix
import PyProof.JoinWalk
import HandS.Conv
import HandS.Iter
import KE.KUnpackStar
import HandS.DictComp
import HandS.TupSets
import HandS.TupMul
import HandS.SortKw
import KE.DatumOrd
import KE.DataMinKey
import HandS.DictTup
import KE.KDictCopyH
import KE.KDictWalk
import PyProof.AutoSeq1
import PyProof.ReprRoads
import PyProof.ReprLen
import KE.SortData
import PyProof.DictMoreH
import HandS.Small
import HandS.Defaults
import KE.KDictZip
import KE.KDictItemsList
import PySem.Challenge.RW_tiedcut_k38_ties_of_drawn_shapes
set_option Elab.async false
set_option linter.all false
set_option maxRecDepth 100000
set_option maxHeartbeats 4000000
namespace My
open PySem PySem.Spec PyProof.Rows L2
/-! ### a generator expression, consumed by all: its own frame -/
def gcx (X : Cx) (s : Shared) (H : Hp) (ge : Env) (fp : List Addr) (Ag : Around) : Cx :=
  { X with A := Ag, s_0 := s, H_0 := H, env := ge, outer := X.stack, stack := ge :: X.stack, ex := fp, fn := fun _ => false, pn := [], xe := fun _ _ => False }
section
variable {X : Cx} {pins : List (Addr × Obj)} {σ : L2.St} {H : Hp} {s : Shared}
theorem clo_in {scope : Scope} {own : List (Str × Nat)} (I : Inv X pins σ H s) (ok : BlkOk X.N X.env.scope scope own) {y : Str} {c : Addr} (hm : (y, c) ∈ cloFrom X.env.cells scope.names []) : X.env.cells.lookup y = some c ∧ c < s.heap.objs.size ∧ (y, NameKind.free) ∈ scope.names := by
  rcases cloFrom_mem hm with z | ⟨h1, rfl⟩
  · cases z
  · have hc : ∃ c, X.env.cells.lookup y = some c := by
      rcases ok.free _ h1 rfl with k | k
      · exact I.ok.has _ (.inl k)
      · exact I.ok.has _ (.inr k)
    obtain ⟨c, hc⟩ := hc
    obtain ⟨v, z⟩ := I.cell _ _ hc
    rw [hc]
    exact ⟨rfl, z.lt, h1⟩
theorem gen_start {scope : Scope} {own : List (Str × Nat)} {fp : List Addr} {ge : Env} {code : Value} {Ag : Around} {s5 : Shared} {m : Str → Option Value} {ga : Addr} {go : Obj} (I : Inv X pins σ H s) (ok : BlkOk X.N X.env.scope scope own) (hN : X.N.Nodup)
    (hfp : ∀ b ∈ fp, FpOk X pins H b ∧ b < s.heap.objs.size) (hge : ge = genEnv scope (cloFrom X.env.cells scope.names []) s.heap.objs.size code builtinsNs X.env) (nocell : ∀ y ∈ scope.names, y.2 ≠ .cell)
    (hA : Ag.handled = none) (hfr : Ag.frames = some (ge :: X.stack)) (k5 : ∀ b o, s.heap.get? b = some o → s5.heap.get? b = some o) (os5 : s5.os = s.os) (bare5 : AllBare s5.gens)
    (ns5 : s5.heap.Ns s.heap.objs.size m) (hga : s5.heap.get? ga = some go) (hgt : s.heap.objs.size < ga) (hgd : ∀ v, go.data ≠ .cell v) :
    Inv (gcx X s H ge fp Ag) [(ga, go)] (wipe σ (own.map (·.2))) H s5 := by
  have hL : ge.locals = s.heap.objs.size := by
    rw [hge]
    rfl
  have hC : ge.cells = cloFrom X.env.cells scope.names [] := by
    rw [hge]
    rfl
  have hS : ge.scope = scope := by
    rw [hge]
    rfl
  have inC : ∀ {y c}, ge.cells.lookup y = some c → X.env.cells.lookup y = some c ∧ c < s.heap.objs.size := fun {y c} e => by
    rw [hC] at e
    have z := clo_in I ok (PySem.mem_of_lookup e)
    exact ⟨z.1, z.2.1⟩
  have look : ∀ {y}, scope.names.lookup y = some .free → ∃ c, ge.cells.lookup y = some c ∧ X.env.cells.lookup y = some c := fun {y} hl => by
    have hm := cloFrom_has (cells := X.env.cells) (acc := []) (PySem.mem_of_lookup hl)
    obtain ⟨c, e⟩ := mem_lookup hm
    rw [← hC] at e
    exact ⟨c, e, (inC e).1⟩
  have kindF : ∀ {y k}, scope.names.lookup y = some k → (k = .cell ∨ k = .free) → scope.names.lookup y = some .free := fun {y k} e hk => by
    rcases hk with rfl | rfl
    · exact absurd rfl (nocell _ (PySem.mem_of_lookup e))
    · exact e
  have okG : (gcx X s H ge fp Ag).Ok := by
    refine ⟨I.ok.mod, ?_, ?_, ?_, ?_, ?_, ?_, ?_, fun _ => hA, hfr, .inr ⟨rfl, ?_⟩, ?_, I.bs, Nat.le_trans I.ok.bsz I.sz, ?_, ?_, I.stack, I.stkFree⟩
    · show ge.scope.kind = .function
      rw [hS]
      exact ok.kind
    · show ge.globals = mainGlobals
      rw [hge]
      exact I.ok.glob
    · show ge.builtins = builtinsNs
      rw [hge]
      rfl
    · show s.heap.objs.size ≤ ge.locals
      rw [hL]
      exact Nat.le_refl _
    · intro y z c e1 e2
      exact I.ok.inj y z c (inC e1).1 (inC e2).1
    · intro y hy
      have e : scope.names.lookup y = some .free := by
        rcases hy with hy | hy
        · have hy2 : ge.scope.names.lookup y = some .cell := hy
          rw [hS] at hy2
          exact kindF hy2 (.inl rfl)
        · have hy2 : ge.scope.names.lookup y = some .free := hy
          rw [hS] at hy2
          exact hy2
      obtain ⟨c, e1, _⟩ := look e
      exact ⟨c, e1⟩
    · intro y c z
      cases z
    · show ge.frame = some ge.locals
      rw [hge]
      rfl
    · intro b hb
      refine ⟨?_, fun y c e z => ?_⟩
      · show b ≠ ge.locals
        rw [hL]
        exact Nat.ne_of_lt (hfp b hb).2
      · exact (hfp b hb).1.2.2.2.2.1 y c (inC e).1 z
    · intro b o e hb
      rcases (hfp b hb).1.2.2.2.1 with z | z
      · exact I.ok.noex b o e z
      · exact absurd (Nat.lt_of_lt_of_le (Heap.lt_size e) (Nat.le_trans I.ok.bsz z)) (Nat.lt_irrefl _)
    · intro b hb z
      rcases List.mem_cons.mp (I.stkSub b z) with z | z
      · exact (hfp b hb).1.2.1 z
      · exact (hfp b hb).1.2.2.1 z
  have frL : H s.heap.objs.size = none := I.hok.fresh (Nat.le_refl _)
  refine ⟨okG, os5, bare5, Un.kept k5, ⟨m, ?_, fun i y av e1 e2 e3 => ?_⟩, fun y c e => ?_, ?_, fun y c e => I.freeC y c (inC e).1, fun p hp => ?_, I.hok.kept k5, by rw [wipe_length]; exact I.len⟩
  · show s5.heap.Ns ge.locals m
    rw [hL]
    exact ns5
  · obtain ⟨e2, hne⟩ := wipe_some e2
    have e3 : Vis ge.scope y := e3
    rw [hS] at e3
    have nol : scope.names.lookup y ≠ some .local := fun z => by
      rcases ok.own _ (PySem.mem_of_lookup z) (.inl rfl) with q | q
      · obtain ⟨p, hp, hpy⟩ := List.mem_map.mp q
        have e5 := ok.ix p hp
        have e6 : p.1 = y := hpy
        rw [e6] at e5
        exact hne (List.mem_map.mpr ⟨p, hp, nodup_ix hN e5 e1⟩)
      · exact q (List.mem_of_getElem? e1)
    have hf : scope.names.lookup y = some .free := by
      rcases e3 with z | z | z
      · exact absurd z nol
      · exact kindF z (.inl rfl)
      · exact z
    obtain ⟨m0, hn, hl⟩ := I.loc
    have hvis : Vis X.env.scope y := (ok.free _ (PySem.mem_of_lookup hf) rfl).elim (fun k => .inr (.inl k)) (fun k => .inr (.inr k))
    obtain ⟨u, r, q⟩ := hl i y av e1 e2 hvis
    obtain ⟨c, g1, g2⟩ := look hf
    refine ⟨u, r, .inr ⟨.inr ?_, c, g1, ?_⟩⟩
    · show ge.scope.names.lookup y = some .free
      rw [hS]
      exact hf
    · rcases q with ⟨k, _⟩ | ⟨_, c', e', z⟩
      · have k : X.env.scope.names.lookup y = some .local := k
        rcases ok.free _ (PySem.mem_of_lookup hf) rfl with k' | k'
        · have k2 : X.env.scope.names.lookup y = some .cell := k'
          rw [k2] at k
          cases k
        · have k2 : X.env.scope.names.lookup y = some .free := k'
          rw [k2] at k
          cases k
      · rw [g2] at e'
        cases e'
        exact z.keeps k5
  · obtain ⟨v, z⟩ := I.cell y c (inC e).1
    exact ⟨v, z.keeps k5⟩
  · show H ge.locals = none
    rw [hL]
    exact frL
  · have hp2 : p ∈ ([] : List (Addr × Obj)) ++ [(ga, go)] := hp
    rw [List.nil_append] at hp2
    rcases List.mem_cons.mp hp2 with e | e
    · subst e
      refine ⟨hga, I.hok.fresh (Nat.le_of_lt hgt), ?_, fun z => ?_, hgd⟩
      · show ga ≠ ge.locals
        rw [hL]
        exact Nat.ne_of_gt hgt
      · have z2 : ga ∈ frs X.stack := z
        obtain ⟨_, o, ho, _⟩ := I.stack.mem z2
        exact absurd (Nat.lt_trans (Heap.lt_size ho) hgt) (Nat.lt_irrefl _)
    · cases e
end
section
variable {X : Cx} {pins : List (Addr × Obj)} {σ : L2.St} {H : Hp} {s : Shared}
/-- the generator's object -/
def genO (X : Cx) (s4 : Shared) : Obj := { cls := .type "generator", data := .fields #[.int s4.gens.size 0, .str "<genexpr>" (s4.toks + 1), .str (X.env.qual ++ "<genexpr>") (s4.toks + 1 + 1)] }
/-- the generator is made: its source has come, the def's table may have grown -/
theorem gen_make {c P : Addr} {elt tg iter : Expr} {gpos : Pos} {scope : Scope} {own : List (Str × Nat)} {wi : TI} {k : Nat} {Q' : Value → Shared → Prop} {R : It → Hp → Prop} (hr : Room k X.A) (TB : GxR.TabB X.base X.mg c P) (hcode : X.env.code = .ref c)
    (ok : BlkOk X.N X.env.scope scope own) (hco : scope.isCoroutine = false) (nocell : ∀ y ∈ scope.names, y.2 ≠ .cell) (hdot : scope.names.lookup (".0" : Str) = some NameKind.local) (hi : PI X tg iter wi) (hs : ∀ v, genFold iter X.env v = pure v)
    (I : Inv X pins σ H s) (h : wi σ H fun J H1 => GxR.TabG H1 P ∧ R J H1)
    (hQ : ∀ (it : Addr) (fp : List Addr) (tn : Nat → Heap → Prop) (J : It) (H1 H2 : Hp) (code : Value) (s4 : Shared) (h5 : Heap), Inv X pins σ H2 s4 → GxR.Tabbed P H1 H2 → Turn X.prog X.w X.K tg J fp it tn → tn 0 s4.heap →
      (∀ b ∈ fp, FpOk X pins H2 b ∧ b < s4.heap.objs.size) → R J H1 → h5.Ns s4.heap.objs.size (fun y => if y = ".0" then some (.ref it) else none) → Heap.SameBut s4.heap.objs.size (s4.heap.push { cls := .type "frame", data := .dict #[] }) h5 →
      Q' (.ref h5.objs.size) { s4 with gens := s4.gens.push (.fresh (.compStart (.GeneratorExp elt [⟨tg, iter, [], 0⟩] scope gpos) 0 (.ref it) .none (genEnv scope (cloFrom X.env.cells scope.names []) s4.heap.objs.size code builtinsNs X.env))), toks := s4.toks + 1 + 1 + 1, heap := h5.push (genO X s4) }) :
    wpAny (model X.prog X.w) X.A (eval (.GeneratorExp elt [⟨tg, iter, [], 0⟩] scope gpos) X.env) Q' X.xe s := by
  have hfree : ∀ y ∈ scope.names, y.2 = .free → ∃ c, X.env.cells.lookup y.1 = some c := fun y hy e => by
    rcases ok.free y hy e with z | z
    · exact I.ok.has _ (.inl z)
    · exact I.ok.has _ (.inr z)
  refine wpAny_GeneratorExp_make hco (closure_ok hfree) nocell hdot ok.kind (by have := hr.dp; omega) ?_ hs
  refine thn (hi.run pins s σ H _ I h) fun xv s1 hx => thn hx fun itv s2 h2 => ?_
  obtain ⟨it, fp, tn, J, H1, rfl, I1, T, st, f1, ⟨ps, hP, ht⟩, q1⟩ := h2
  have hPs : s2.heap.get? P = some { cls := .none, data := .fields ps } := I1.hok P _ hP
  have cd : PySem.W.CodeHd s2.heap c P := TB.code.keeps fun b u e => I1.bk b u e
  have nP : ∀ b, H1 b = none → b ≠ P := fun b e z => by
    rw [z, hP] at e
    cases e
  have fsz : ∀ b ∈ fp, b < s2.heap.objs.size := fun b hb => by
    obtain ⟨o, e, _⟩ := T.obj _ _ st b hb
    exact Heap.lt_size e
  have cont : ∀ (code : Value) (h3 : Heap) (tk : Nat) (ps' : Array Value), Heap.ExtBut P s2.heap h3 → s2.heap.objs.size ≤ h3.objs.size → h3.get? P = some { cls := .none, data := .fields ps' } → (∃ more, ps' = ps ++ more) → TriplesOk ps'.toList →
      wpAny (model X.prog X.w) X.A (builtinsFor X.env.globals X.env.builtins) (fun bi s4 => ∀ h5, h5.Ns s4.heap.objs.size (fun y => if y = ".0" then some (.ref it) else none) → Heap.SameBut s4.heap.objs.size (s4.heap.push { cls := .type "frame", data := .dict #[] }) h5 →
        Q' (.ref h5.objs.size) { s4 with gens := s4.gens.push (.fresh (.compStart (.GeneratorExp elt [⟨tg, iter, [], 0⟩] scope gpos) 0 (.ref it) .none (genEnv scope (cloFrom X.env.cells scope.names []) s4.heap.objs.size code bi X.env))), toks := s4.toks + 1 + 1 + 1, heap := h5.push (genO X s4) }) X.xe { s2 with heap := h3, toks := tk } := by
    intro code h3 tk ps' hx hsz hP3 hmore ht3
    obtain ⟨bm, ob, e1, e2, e3, e4, e5, e6, e7, e8⟩ := TB.bm
    have keep3 : ∀ b u, b ≠ P → s2.heap.get? b = some u → h3.get? b = some u := fun b u hb e => hx b u hb e
    refine wpAny_builtinsFor (m := X.mg) (by rw [I1.ok.glob]; exact (I1.mod.glob.keeps I1.bk).extBut hx TB.gP) e1 e2 (keep3 _ _ e4 (I1.bk _ _ e5)) e6 e7 e8 ?_
    intro h5 n5 b5
    obtain ⟨more, em⟩ := hmore
    have J0 := GxR.inv_tab (more := more) (h' := h3) (g' := s2.gens) (d' := s2.drawn) (t' := tk) I1 hP keep3 (by rw [← em]; exact hP3) I1.bare
    refine hQ it fp tn J H1 (upd H1 P (.tbl (ps ++ more))) code { s2 with heap := h3, toks := tk } h5 J0 ⟨⟨ps ++ more, upd_same, by rw [← em]; exact ht3⟩, fun b hb => upd_ne hb⟩ T ?_ ?_ q1 n5 b5
    · refine T.keep _ _ _ st fun b hb o e => keep3 b o (nP b (f1 b hb).1) e
    · intro b hb
      refine ⟨⟨?_, (f1 b hb).2⟩, Nat.lt_of_lt_of_le (fsz b hb) hsz⟩
      rw [upd_ne (nP b (f1 b hb).1)]
      exact (f1 b hb).1
  refine ⟨I1.nolimit, ?_⟩
  cases hf : codeAmong gpos ps.toList with
  | none =>
    refine wpAny_genexprCodeX hcode (cd.code hPs ht) (cd.tab hPs) hf fun c' h' tk hx hge hlt hco' _ htab' _ => ?_
    obtain ⟨o1, vs, f1', tf, fl, tg', inF, tx, tt, op, _, _, _, _, _, _, _, _, _, htr, _⟩ := hco'
    exact cont _ h' tk _ hx (Nat.le_trans hge (Nat.le_of_lt hlt)) htab'.2 ⟨_, rfl⟩ htr
  | some cv =>
    refine wpAny_genexprCode_hit hcode (cd.code hPs ht) hf ?_
    exact cont cv s2.heap s2.toks ps (Heap.ExtBut.refl _ _) (Nat.le_refl _) hPs ⟨#[], by simp⟩ ht
end
/-- nothing but the table of generators has changed -/
structure Woke (s s2 : Shared) : Prop where
  hp : s2.heap = s.heap
  os : s2.os = s.os
  br : AllBare s2.gens
theorem inv_woke {X : Cx} {pins : List (Addr × Obj)} {σ : L2.St} {H : Hp} {s s2 : Shared} (I : Inv X pins σ H s) (k : Woke s s2) : Inv X pins σ H s2 := by
  obtain ⟨h2, g2, d2, t2, o2⟩ := s2
  obtain ⟨h1, g1, d1, t1, o1⟩ := s
  obtain ⟨e1, e2, br⟩ := k
  dsimp only at e1 e2
  subst e1 e2
  exact ⟨I.ok, I.os, br, I.base, I.loc, I.cell, I.free, I.freeC, I.pin, I.hok, I.len⟩
/-- what a generator expression under all is asked -/
def gTurns (J : It) (g : TG) (te : TE) (σw : L2.St) (vs : List Nat) (W : Nat → Nat → Hp → Prop) (Q : Bool → Hp → Prop) : Prop :=
  ∀ i m H, W i m H → (J.stop i H ∧ Q true H) ∨ (J.go i H ∧ ∀ x H', J.yld i H x H' → g x σw H' fun σ2 H2 => wipe σ2 vs = σw ∧ te σ2 H2 fun y H3 => ∃ b, y = .bl b ∧ if b = true then ∃ m', m' < m ∧ W (i + 1) m' H3 else Q false H3)
def gFin (G : Cx) (pn : Addr × Obj) (σw : L2.St) (Q : Bool → Hp → Prop) (b : Bool) (s : Shared) : Prop := ∃ H', Inv G [pn] σw H' s ∧ Q b H'
def gY (G : Cx) (pn : Addr × Obj) (σw : L2.St) (Q : Bool → Hp → Prop) : Protocol := fun _ _ v s kap =>
  ∃ b : Bool, v = .bool b ∧ (∃ H', Inv G [pn] σw H' s) ∧ (b = true → ∀ s2, Woke s s2 → kap (.send .none) s2) ∧ (b = false → gFin G pn σw Q false s)
section
variable {G : Cx} {pn : Addr × Obj} {σw : L2.St} {Q : Bool → Hp → Prop} {A2 : Around} {elt tg iter : Expr} {scope : Scope} {gpos : Pos} {it : Addr} {fp : List Addr} {tn : Nat → Heap → Prop} {J : It} {g : TG} {te : TE} {vs : List Nat} {W : Nat → Nat → Hp → Prop}
theorem gen_loop (hA : G.A = A2.over (.compLoop (.GeneratorExp elt [⟨tg, iter, [], 0⟩] scope gpos) 0 (.ref it) .none G.env) []) (hc : G.calm = true) (hex : G.ex = fp) (hpn : G.pn = []) (hxe : G.xe = fun _ _ => False) (hco : G.env.scope.isCoroutine = false)
    (T : Turn G.prog G.w G.K tg J fp it tn) (hgp : ∀ b ∈ fp, pn.1 ≠ b) (pg : PG G tg g) (pe : PE G elt te) (hsw : ∀ σ2 : L2.St, wipe σ2 vs = σw → σ2.length = σw.length ∧ ∀ (i : Nat) v, σw[i]? = some (some v) → σ2[i]? = some (some v)) (turn : gTurns J g te σw vs W Q) :
    ∀ (m n i : Nat) (s₀ s : Shared), m < n → (∃ H', Inv G [pn] σw H' s ∧ tn i s.heap ∧ (∀ b ∈ fp, H' b = none) ∧ W i m H') →
      Seg (model G.prog G.w) A2 (fun _ _ r s1 => r = .ok .next ∧ gFin G pn σw Q true s1) (gY G pn σw Q) n s₀ (.compLoop (.GeneratorExp elt [⟨tg, iter, [], 0⟩] scope gpos) 0 (.ref it) .none G.env)
        ((model G.prog G.w).den (.compLoop (.GeneratorExp elt [⟨tg, iter, [], 0⟩] scope gpos) 0 (.ref it) .none G.env)) [] s := by
  have stat : ∀ {σ' : L2.St} {H' : Hp} {s' : Shared}, Inv G [pn] σ' H' s' → (∀ b ∈ fp, H' b = none) → ∀ b ∈ fp, FpOk G [pn] H' b := fun {σ' H' s'} I' hn b hb => by
    have hb2 : b ∈ G.ex := by
      rw [hex]
      exact hb
    refine ⟨hn b hb, (I'.ok.exf b hb2).1, I'.ok.exfs b hb2, .inl hb2, fun x c e => (I'.ok.exf b hb2).2 x c e, fun p hp => ?_⟩
    rw [hpn] at hp
    have hp2 : p ∈ [pn] := hp
    rw [List.mem_singleton.mp hp2]
    exact hgp b hb
  intro m
  induction m using Nat.strongRecOn with
  | ind m ih =>
    rintro n i s₀ s hmn ⟨H', I, st, nf, w⟩
    obtain ⟨n, rfl⟩ : ∃ n', n = n' + 1 := ⟨n - 1, by omega⟩
    show Seg _ A2 _ _ _ s₀ _ ((compTurn (.GeneratorExp elt [⟨tg, iter, [], 0⟩] scope gpos) 0 (.ref it) .none G.env).onRaise (leaving G.env)) [] s
    rw [compTurn_gen, Sem.onRaise_eq_wrap]
    refine seg_bind_wrap (wpAny_standAt ?_)
    rcases turn i m H' w with ⟨stop, qq⟩ | ⟨gox, step⟩
    · have td := T.done G rfl rfl rfl hc i [pn] s σw H' (fun _ _ => False) I (stat I nf) st stop
      rw [hA] at td
      refine seg_bind_wrap (thnF td fun r s6 z => ?_)
      obtain ⟨hr, I6⟩ := z
      subst hr
      exact seg_end (.ok .next) ⟨rfl, H', I6, qq⟩
    · have ti := T.item G rfl rfl rfl hc i [pn] s σw H' (fun _ _ => False) I (stat I nf) st gox
      rw [hA] at ti
      refine seg_bind_wrap (thnF ti fun r s6 z => ?_)
      obtain ⟨u, hr, h6⟩ := z
      subst hr
      refine seg_bind_wrap (thnF h6 fun _ s7 z => ?_)
      obtain ⟨x, H7, I7, r7, y7, st7, n7⟩ := z
      have I7' := I7.pinned (stat I7 n7) (T.obj _ _ st7)
      have pr := pg.run _ s7 _ H7 x u _ I7' r7 (step x H7 y7)
      rw [hA, hxe] at pr
      refine seg_bind_wrap (thnF pr fun _ s8 z => ?_)
      obtain ⟨σ8, H8, I8, hw8, q8⟩ := z
      have hy : ∀ v, yieldOut G.env v = yieldValue v := fun v => by simp only [yieldOut, hco, Bool.false_eq_true, if_false]
      simp only [List.forIn_nil, hy]
      refine seg_bind_wrap (wpAny_pure ?_)
      simp only [if_true]
      rw [Sem.bind_eq_wrap', Sem.bind_eq_wrap', Sem.wrap_wrap, Sem.wrap_wrap]
      have er := pe.run _ s8 σ8 H8 _ I8 q8
      rw [hA, hxe] at er
      refine seg_wrap (thnF er fun z s10 zz => ?_)
      obtain ⟨yv, H10, I10, r10, b, rfl, nx⟩ := zz
      cases r10
      have pin' : ∀ b ∈ fp, ∀ o, s7.heap.get? b = some o → s10.heap.get? b = some o ∧ H10 b = none := fun b hb o e =>
        let z := I10.pin (b, o) (List.mem_append_right _ (List.mem_append_right _ (mem_pinsAt hb e)))
        ⟨z.1, z.2.1⟩
      obtain ⟨hl8, hk8⟩ := hsw σ8 hw8
      have J10 : Inv G [pn] σw H10 s10 := (I10.unpinned (pins := [pn])).weak hl8.symm hk8
      refine seg_at (seg_yield rfl rfl rfl ⟨b, rfl, ⟨H10, J10⟩, fun hb s2 wk => ?_, fun hb => ?_⟩)
      · subst hb
        rw [if_pos rfl] at nx
        obtain ⟨m', hm', w'⟩ := nx
        refine seg_again rfl (ih m' hm' n (i + 1) s2 s2 (by omega) ⟨H10, inv_woke J10 wk, ?_, fun b hb => ?_, w'⟩)
        · rw [wk.hp]
          exact T.keep _ _ _ st7 fun b hb o e => (pin' b hb o e).1
        · obtain ⟨o, e, _⟩ := T.obj _ _ st7 b hb
          exact (pin' b hb o e).2
      · subst hb
        exact ⟨H10, J10, nx⟩
end
section
variable {M : Model} {A2 : Around} {R : GenEnd} {Y : Protocol} {n : Nat} {s₀ s : Shared} {elt tg iter : Expr} {scope : Scope} {gpos : Pos} {it : Addr} {ge : Env}
/-- the first turn -/
theorem gen_first {P : Program} {w : World} (hself : ∀ (Q : Value → Shared → Prop) (E : Value → Shared → Prop), Q (.ref it) s → wpAny (model P w) (A2.over (.compStart (.GeneratorExp elt [⟨tg, iter, [], 0⟩] scope gpos) 0 (.ref it) .none ge) []) (pyIter (.ref it)) Q E s)
    (loop : Seg (model P w) A2 R Y n s₀ (.compLoop (.GeneratorExp elt [⟨tg, iter, [], 0⟩] scope gpos) 0 (.ref it) .none ge) ((model P w).den (.compLoop (.GeneratorExp elt [⟨tg, iter, [], 0⟩] scope gpos) 0 (.ref it) .none ge)) [] s) :
    Seg (model P w) A2 R Y n s₀ (.compStart (.GeneratorExp elt [⟨tg, iter, [], 0⟩] scope gpos) 0 (.ref it) .none ge) ((model P w).den (.compStart (.GeneratorExp elt [⟨tg, iter, [], 0⟩] scope gpos) 0 (.ref it) .none ge)) [] s := by
  show Seg _ A2 _ _ _ s₀ _ ((compStart (.GeneratorExp elt [⟨tg, iter, [], 0⟩] scope gpos) 0 (.ref it) .none ge).onRaise (leaving ge)) [] s
  unfold compStart
  rw [Sem.onRaise_eq_wrap]
  show Seg _ A2 _ _ _ s₀ _ ((ask >>= _).wrap _ _ _ _) [] s
  refine seg_bind_wrap (wpAny_askSetting ?_)
  split
  · exact seg_again rfl loop
  · first
      | exact seg_bind_wrap (wpAny_rule (seg_bind_wrap (wpAny_standAt (seg_bind_wrap (hself _ _ (seg_again rfl loop))))))
      | (refine seg_bind_wrap (wpAny_rule ?_)
         show Seg _ A2 _ _ _ s₀ _ ((standAt iter.pos >>= _).wrap _ _ _ _) [] s
         exact seg_bind_wrap (wpAny_standAt (seg_bind_wrap (hself _ _ (seg_again rfl loop)))))
end
theorem bare_set {gens : Array GenState} {x : GenState} (h : AllBare gens) (hx : x.bare = true) (i : Nat) : AllBare (gens.setIfInBounds i x) := fun y hy => by
  rw [Array.mem_iff_getElem?] at hy
  obtain ⟨j, hj⟩ := hy
  by_cases e : i = j
  · subst e
    by_cases hi : i < gens.size
    · rw [Array.getElem?_setIfInBounds_self_of_lt hi] at hj
      rw [← Option.some.inj hj]
      exact hx
    · rw [Array.getElem?_eq_none (by simpa using hi)] at hj
      cases hj
  · rw [Array.getElem?_setIfInBounds_ne e] at hj
    exact h y (Array.mem_iff_getElem?.mpr ⟨j, hj⟩)
/-- all over the generator at a, number gi: its turns by the protocol -/
theorem all_gen {G : Cx} {pn : Addr × Obj} {σw : L2.St} {Q : Bool → Hp → Prop} {A : Around} {gi : Nat} {RR : Result → Shared → Prop} (hh : A.handled = none) (hroom : A.depth < recursionLimit) (hgen : ∀ h : Heap, h.get? pn.1 = some pn.2 → h.IsGen pn.1 gi)
    (hR : ∀ b s1, gFin G pn σw Q b s1 → ∀ s2 : Shared, (∀ b o, s1.heap.get? b = some o → s2.heap.get? b = some o) → s2.os = s1.os → AllBare s2.gens → RR (.ok (.ret (.bool b))) s2) :
    ∀ (n : Nat) (s : Shared), (∃ H', Inv G [pn] σw H' s) → gi < s.gens.size → (∃ gs, s.gens[gi]? = some gs ∧ ∀ s2, Woke s s2 → gs.Goes (model G.prog G.w) A.in1.in1 (fun _ _ r s1 => r = .ok .next ∧ gFin G pn σw Q true s1) (gY G pn σw Q) n (.send .none) s2) →
      codeAny (model G.prog G.w) A (.builtin "all.loop" ⟨[.ref pn.1], []⟩) RR s := by
  intro n
  induction n using Nat.strongRecOn with
  | ind n ih =>
    rintro s ⟨H', I⟩ hgi ⟨gs, hgs, hgo⟩
    have hpin := (I.pin pn (List.mem_append_right _ (List.mem_singleton.mpr rfl))).1
    have brun : AllBare (s.setGen gi .running).gens := bare_set I.bare rfl gi
    refine codeAny_builtin F.entry_all_loop ?_
    rw [Around.under_plainId F.plain_all_loop _]
    show wpAny _ A.in1 (pyNext (.ref pn.1) >>= _) _ _ s
    refine wpAny_bind (GenW.wpAny_gsz (n := s.gens.size) (Nat.le_refl _) ?_)
    refine wpAny_pyNext_genexpQ (P := fun _ _ s1 => gFin G pn σw Q true s1) hh I.nolimit hroom (hgen _ hpin) hgs (hgo _ ⟨rfl, rfl, brun⟩) (fun v s₁ gs' hb hv hsz => ?_) (fun s₁ hp h' hk hsz => ?_)
    · obtain ⟨b, rfl, ⟨H1, I1⟩, ht, hf⟩ := hv
      have b1 : AllBare (s₁.setGen gi gs').gens := bare_set I1.bare hb gi
      refine wpAny_bind (wpAny_holding (wpAny_truthy_bool ?_))
      refine wpAny_bind (wpAny_letGo ?_)
      cases b with
      | false =>
        simp only [Bool.false_eq_true, if_false]
        refine wpAny_bind (wpAny_rule (wpAny_pure ?_))
        exact hR false s₁ (hf rfl) (s₁.setGen gi gs') (fun _ _ e => e) rfl b1
      | true =>
        simp only [if_true]
        have hlt : gi < (s₁.setGen gi gs').gens.size := Nat.lt_of_lt_of_le hgi hsz
        have hlt1 : gi < s₁.gens.size := by
          have e := GenW.setGen_size s₁ gi gs'
          omega
        cases n with
        | zero => exact absurd (ht rfl s₁ ⟨rfl, rfl, I1.bare⟩) id
        | succ n =>
          refine wpAny_pure ⟨plainId_quiet F.plain_all_loop _, ih n (Nat.lt_succ_self n) (s₁.setGen gi gs') ⟨H1, inv_woke I1 ⟨rfl, rfl, b1⟩⟩ hlt ⟨gs', ?_, fun s2 wk => ht rfl s2 ⟨wk.hp, wk.os, wk.br⟩⟩⟩
          show (s₁.gens.setIfInBounds gi gs')[gi]? = some gs'
          rw [Array.getElem?_setIfInBounds_self_of_lt hlt1]
    · refine wpAny_bind (wpAny_rule (wpAny_pure ?_))
      obtain ⟨H1, I1, q1⟩ := id hp
      exact hR true s₁ hp { s₁.setGen gi .finished with heap := h' } hk rfl (bare_set I1.bare rfl gi)
def tAllG (P : Addr) (wi : TI) (g : TG) (te : TE) (vs : List Nat) : TE := fun σ H Q => wi σ H fun J H1 => GxR.TabG H1 P ∧ ∀ H2, GxR.Tabbed P H1 H2 → ∃ W : Nat → Nat → Hp → Prop, (∃ m, W 0 m H2) ∧ gTurns J g te (wipe σ vs) vs W (fun b H' => Q (.bl b) H')
theorem pe_allG {X : Cx} {c P : Addr} {elt tg iter : Expr} {p pos gpos : Pos} {scope : Scope} {own : List (Str × Nat)} {wi : TI} {g : TG} {te : TE} {k : Nat} (hr : Room (k + 1) X.A) (hc : X.calm = true) (hN : X.N.Nodup) (hg : Gl X "all") (hm : X.mg "all" = none) (hb : bootBuiltins "all" = some (.builtin "all"))
    (TB : GxR.TabB X.base X.mg c P) (hcode : X.env.code = .ref c) (ok : BlkOk X.N X.env.scope scope own) (hco : scope.isCoroutine = false) (nocell : ∀ y ∈ scope.names, y.2 ≠ .cell) (hdot : scope.names.lookup (".0" : Str) = some NameKind.local) (hi : PI X tg iter wi)
    (hgt : ∀ (s : Shared) (H : Hp) (cl : List (Str × Addr)) (C : Addr) (code : Value) (fp : List Addr) (Ag : Around), PG (gcx X s H (genEnv scope cl C code builtinsNs X.env) fp Ag) tg g)
    (hel : ∀ (s : Shared) (H : Hp) (cl : List (Str × Addr)) (C : Addr) (code : Value) (fp : List Addr) (Ag : Around), Room k Ag → PE (gcx X s H (genEnv scope cl C code builtinsNs X.env) fp Ag) elt te)
    (hs : ∀ v, genFold iter X.env v = pure v := by intro _; rfl)
    (he : starEach [.GeneratorExp elt [⟨tg, iter, [], 0⟩] scope gpos] X.env = (false, eval (.GeneratorExp elt [⟨tg, iter, [], 0⟩] scope gpos) X.env) :: starEach [] X.env := by rfl) :
    PE X (.Call (.Name "all" p) [.GeneratorExp elt [⟨tg, iter, [], 0⟩] scope gpos] [] pos) (tAllG P wi g te (own.map (·.2))) := by
  constructor
  intro pins s σ H Q I h
  refine wpAny_Call_Name_kw (ld_blt I hg hm hb ?_)
  refine PyProof.Rows.callWith_builtin1 ?_ he (by rfl)
  rw [he]
  show wpAny _ _ (spliced ((false, eval (.GeneratorExp elt [⟨tg, iter, [], 0⟩] scope gpos) X.env) :: backTo pos (starEach [] X.env))) _ _ s
  refine Calls.spliced_cons (gen_make (hr.mono (Nat.le_succ k)) TB hcode ok hco nocell hdot hi hs I h fun it fp tn J H1 H2 code s4 h5 I4 tb T st f4 hR n5 b5 => ?_)
  refine Calls.spliced_nil ?_
  obtain ⟨W, ⟨m, w0⟩, turns⟩ := hR H2 tb
  show wpAny _ _ (call (.builtin "all") [.ref h5.objs.size]) _ _ _
  have sz5 : h5.objs.size = s4.heap.objs.size + 1 := by
    rw [b5.1, Heap.size_push]
  generalize hge : genEnv scope (cloFrom X.env.cells scope.names []) s4.heap.objs.size code builtinsNs X.env = ge
  have k5 : ∀ b o, s4.heap.get? b = some o → (h5.push (genO X s4)).get? b = some o := fun b o e =>
    Heap.get?_push_of_some _ (b5.extBut b o (Nat.ne_of_lt (Heap.lt_size e)) (Heap.get?_push_of_some _ e))
  have ga5 : (h5.push (genO X s4)).get? h5.objs.size = some (genO X s4) := Heap.get?_push_size _ rfl
  have hAg : (X.A.in1.in1.over (.compLoop (.GeneratorExp elt [⟨tg, iter, [], 0⟩] scope gpos) 0 (.ref it) .none ge) []).handled = none := hr.hd
  have hFr : (X.A.in1.in1.over (.compLoop (.GeneratorExp elt [⟨tg, iter, [], 0⟩] scope gpos) 0 (.ref it) .none ge) []).frames = some (ge :: X.stack) := by
    show pushEnvs [ge] (pushEnvs [] X.A.frames) = some (ge :: X.stack)
    rw [I4.ok.frames]
    rfl
  have hRm : Room k (X.A.in1.in1.over (.compLoop (.GeneratorExp elt [⟨tg, iter, [], 0⟩] scope gpos) 0 (.ref it) .none ge) []) := by
    have e1 : (X.A.in1.in1.over (.compLoop (.GeneratorExp elt [⟨tg, iter, [], 0⟩] scope gpos) 0 (.ref it) .none ge) []).depth = X.A.depth + 1 := rfl
    have e2 : (X.A.in1.in1.over (.compLoop (.GeneratorExp elt [⟨tg, iter, [], 0⟩] scope gpos) 0 (.ref it) .none ge) []).units = X.A.units + 5 := rfl
    have d1 := hr.dp
    have d2 := hr.un
    exact ⟨hr.hd, by rw [e1]; omega, by rw [e2]; omega⟩
  have I5 := gen_start (s5 := { s4 with gens := s4.gens.push (.fresh (.compStart (.GeneratorExp elt [⟨tg, iter, [], 0⟩] scope gpos) 0 (.ref it) .none ge)), toks := s4.toks + 1 + 1 + 1, heap := h5.push (genO X s4) }) I4 ok hN f4 hge.symm nocell hAg hFr k5 rfl (I4.bare.push rfl) (n5.keeps fun b o e => Heap.get?_push_of_some _ e) ga5 (by omega) (fun v z => by cases z)
  have st5 : tn 0 (h5.push (genO X s4)) := T.keep _ _ _ st fun b _ o e => k5 b o e
  refine call_function_tree F.kind_all F.plain_all F.entry_all (F.args_all1 _) ?_
  unfold Builtin.«all»
  refine wpAny_bind (m := oneArg "all" _) (wpAny_pure ?_)
  have isg : ∀ hh : Heap, hh.get? h5.objs.size = some (genO X s4) → hh.IsGen h5.objs.size s4.gens.size := fun hh e => ⟨_, _, _, e, rfl, rfl, rfl⟩
  refine wpAny_bind (wpAny_pyIter_gen (isg _ ga5) ?_)
  refine wpAny_pure ⟨plainId_quiet F.plain_all_loop _, ?_⟩
  refine all_gen (G := gcx X s4 H2 ge fp (X.A.in1.in1.over (.compLoop (.GeneratorExp elt [⟨tg, iter, [], 0⟩] scope gpos) 0 (.ref it) .none ge) [])) (pn := (h5.objs.size, genO X s4)) (σw := wipe σ (own.map (·.2))) (Q := fun b H' => Q (.bl b) H') (gi := s4.gens.size)
    hr.hd (by have := hr.dp; omega) isg (fun b s1 hf s2 hk ho hbr => ?_) (m + 1) _ ⟨H2, I5⟩ (by show s4.gens.size < (s4.gens.push _).size; rw [Array.size_push]; omega) ⟨.fresh (.compStart (.GeneratorExp elt [⟨tg, iter, [], 0⟩] scope gpos) 0 (.ref it) .none ge), by show (s4.gens.push _)[s4.gens.size]? = some _; rw [Array.getElem?_push_size], fun s2 wk => ⟨rfl, ?_⟩⟩
  · obtain ⟨H', I', q'⟩ := hf
    have un : Un (frs X.stack) fp H2 H' s4.heap s2.heap := Un.trans I'.base (Un.kept hk)
    have J' : Inv X pins σ H' s2 := I4.call' (ch := fp) (ho.trans I'.os) un (I'.hok.kept hk) hbr fun b hb => ⟨(f4 b hb).1.2.2.2.1, (f4 b hb).1.2.1, (f4 b hb).1.2.2.2.2.1, (f4 b hb).1.2.2.2.2.2⟩
    exact ⟨.bl b, H', J', rfl, q'⟩
  · have nfp : ∀ b ∈ fp, H2 b = none := fun b hb => (f4 b hb).1.1
    refine gen_first (fun Q1 E1 q1 => T.self _ 0 s2 Q1 E1 (by rw [wk.hp]; exact st5) q1) ?_
    refine gen_loop (G := gcx X s4 H2 ge fp (X.A.in1.in1.over (.compLoop (.GeneratorExp elt [⟨tg, iter, [], 0⟩] scope gpos) 0 (.ref it) .none ge) [])) (tn := tn) (vs := own.map (·.2)) (W := W) rfl hc rfl rfl rfl ?_ T (fun b hb => ?_) ?_ ?_ ?_ turns m (m + 1) 0 s2 s2 (Nat.lt_succ_self m) ⟨H2, inv_woke I5 wk, by rw [wk.hp]; exact st5, nfp, w0⟩
    · show ge.scope.isCoroutine = false
      rw [← hge]
      exact hco
    · have hb4 : b < s4.heap.objs.size := (f4 b hb).2
      intro z
      have z2 : h5.objs.size = b := z
      rw [← z2, sz5] at hb4
      exact absurd hb4 (Nat.not_lt.mpr (Nat.le_succ _))
    · rw [← hge]
      exact hgt _ _ _ _ _ _ _
    · subst hge
      exact hel _ _ _ _ _ _ _ hRm
    · intro σ2 e2
      refine ⟨?_, fun i v e3 => ?_⟩
      · rw [← wipe_length σ2 (own.map (·.2)), e2]
      · rw [← e2] at e3
        exact (wipe_some e3).1

/-- all over zip of two tuples of one length -/
theorem gturns_zipT {K : PySem.W.Frag} {a b : Addr} {xs ys : List V} {g : TG} {te : TE} {σw : L2.St} {vs : List Nat} {Q : Bool → Hp → Prop} {H : Hp} (hl : xs.length = ys.length) (Pv : Nat → Hp → Prop) (h0 : Pv 0 H) (hq : ∀ i H, Pv i H → SqT K H a xs ∧ SqT K H b ys)
    (hs : ∀ (i : Nat) (x y : V) (T : Addr) (H : Hp) (N : Hp → Prop), xs[i]? = some x → ys[i]? = some y → Pv i H → H T = none → (∀ H3, Pv (i + 1) H3 → N H3) → g (.ref T) σw (upd H T (.tup [x, y])) fun σ2 H2 => wipe σ2 vs = σw ∧ te σ2 H2 fun v H3 => ∃ b, v = .bl b ∧ if b = true then N H3 else Q false H3)
    (hd : ∀ H, Pv xs.length H → Q true H) : ∃ W : Nat → Nat → Hp → Prop, (∃ m, W 0 m H) ∧ gTurns (RZ.ItzT K a b) g te σw vs W Q := by
  refine ⟨fun i m H => m = xs.length - i ∧ i ≤ xs.length ∧ Pv i H, ⟨xs.length, rfl, Nat.zero_le _, h0⟩, fun i m H st => ?_⟩
  obtain ⟨em, le, pv⟩ := st
  have two := hq i H pv
  rcases Nat.lt_or_eq_of_le le with lt | eq
  · refine .inr ⟨⟨xs, ys, xs[i], ys[i], two.1, two.2, List.getElem?_eq_getElem lt, List.getElem?_eq_getElem (hl ▸ lt)⟩, fun v H' y => ?_⟩
    obtain ⟨tp, a1, a2, rfl, free, rfl, w1, w2⟩ := y
    exact hs i a1 a2 tp H _ (w1 xs two.1) (w2 ys two.2) pv free fun H3 p' => ⟨xs.length - (i + 1), by omega, rfl, lt, p'⟩
  · subst eq
    exact .inl ⟨⟨xs, ys, two.1, two.2, Or.inl (Nat.le_refl _)⟩, hd H pv⟩

/-! ### zip of a text and a tuple -/
def ItzS (K : PySem.W.Frag) (x : Str) (b : Addr) : It :=
  ⟨fun i H => ∃ (ys : List V) (c : Nat) (y : V), SqT K H b ys ∧ x.cps[i]? = some c ∧ ys[i]? = some y,
    fun i H v H' => ∃ (T : Addr) (c : Nat) (y : V), v = .ref T ∧ H T = none ∧ H' = upd H T (.tup [.str ⟨#[c]⟩, y]) ∧ x.cps[i]? = some c ∧ ∀ ys, SqT K H b ys → ys[i]? = some y,
    fun i H => ∃ ys : List V, SqT K H b ys ∧ i ≤ x.cps.size ∧ i ≤ ys.length ∧ (i = x.cps.size ∨ i = ys.length)⟩
theorem zip_sep {z TI TO i1 i2 b : Addr} (D : ZipApart z TI TO i1 i2 b b) : ZipSep2 z TI TO i1 i2 [i1] [i2, b] where
  TIz := D.TIz
  TOz := D.TOz
  TITO := D.TITO
  TIi1 := D.TIi1
  mem1 := List.mem_singleton.mpr rfl
  zf1 := fun h => D.i1z (List.mem_singleton.mp h).symm
  Tf1 := fun h => D.TOi1 (List.mem_singleton.mp h)
  TIi2 := D.TIi2
  mem2 := List.mem_cons_self
  zf2 := fun h => by
    rcases List.mem_cons.mp h with e | e
    · exact D.i2z e.symm
    · exact D.l1z (List.mem_singleton.mp e).symm
  Tf2 := fun h => by
    rcases List.mem_cons.mp h with e | e
    · exact D.TOi2 e
    · exact D.l1TO (List.mem_singleton.mp e).symm
  sep1_2 := fun h => by
    rcases List.mem_cons.mp h with e | e
    · exact D.i12 e
    · exact D.l1i1 (List.mem_singleton.mp e).symm
  sep2_1 := fun h => D.i12 (List.mem_singleton.mp h).symm
/-- the five cells of a running zip of the text x and the tuple at b, i turns done -/
structure ZipGo (x : Str) (t : Tok) (z TI TO i1 i2 b : Addr) (i : Nat) (h : Heap) : Prop where
  zp : IsZip h z TI TO .none
  ins : IsPair h TI (.ref i1) (.ref i2)
  out : ∃ p : Value × Value, IsPair h TO p.1 p.2
  txt : h.IsStrIter i1 (strIterType x) x t i
  tup : h.IsTupleIter i2 b i
theorem five {z TI TO i1 i2 c : Addr} {Pr : Addr → Prop} (h : c ∈ [z, TI, TO, i1, i2]) (pz : Pr z) (pI : Pr TI) (pO : Pr TO) (p1 : Pr i1) (p2 : Pr i2) : Pr c := by
  simp only [List.mem_cons, List.not_mem_nil, or_false] at h
  rcases h with rfl | rfl | rfl | rfl | rfl
  all_goals assumption
theorem apart5 {z TI TO i1 i2 c : Addr} (h : c ∉ [z, TI, TO, i1, i2]) : c ≠ z ∧ c ≠ TO ∧ c ≠ i1 ∧ c ≠ i2 := by
  simp only [List.mem_cons, List.not_mem_nil, or_false, not_or] at h
  exact ⟨h.1, h.2.2.1, h.2.2.2.1, h.2.2.2.2⟩
section
variable {x : Str} {t : Tok} {z TI TO i1 i2 b : Addr} {i : Nat} {h h' : Heap}
theorem ZipGo.obj (g : ZipGo x t z TI TO i1 i2 b i h) {c : Addr} (hc : c ∈ [z, TI, TO, i1, i2]) : ∃ o, h.get? c = some o ∧ ∀ v, o.data ≠ .cell v := by
  obtain ⟨p, hp⟩ := g.out
  obtain ⟨oa, ea, _, da⟩ := g.txt
  obtain ⟨ob, eb, _, db⟩ := g.tup
  refine five (Pr := fun c => ∃ o, h.get? c = some o ∧ ∀ v, o.data ≠ .cell v) hc ⟨_, g.zp, ?_⟩ ⟨_, g.ins, ?_⟩ ⟨_, hp, ?_⟩ ⟨oa, ea, ?_⟩ ⟨ob, eb, ?_⟩
  · intro v e; cases e
  · intro v e; cases e
  · intro v e; cases e
  · intro v e; rw [da] at e; cases e
  · intro v e; rw [db] at e; cases e
theorem ZipGo.lt (g : ZipGo x t z TI TO i1 i2 b i h) {c : Addr} (hc : c ∈ [z, TI, TO, i1, i2]) : c < h.objs.size := by
  obtain ⟨o, e, _⟩ := g.obj hc
  exact Heap.lt_size e
theorem ZipGo.on (g : ZipGo x t z TI TO i1 i2 b i h) (k : ∀ c ∈ [z, TI, TO, i1, i2], ∀ o, h.get? c = some o → h'.get? c = some o) : ZipGo x t z TI TO i1 i2 b i h' := by
  obtain ⟨p, hp⟩ := g.out
  obtain ⟨oa, ea, ra⟩ := g.txt
  exact ⟨k z (by simp) _ g.zp, k TI (by simp) _ g.ins, ⟨p, k TO (by simp) _ hp⟩, ⟨oa, k i1 (by simp) _ ea, ra⟩, g.tup.at (k i2 (by simp))⟩
end
theorem turn_zipS {P : Program} {w : World} {K : PySem.W.Frag} {elts : List Expr} {kk : Nat} {tpos : Pos} {x : Str} {t : Tok} {b z TI TO i1 i2 : Addr} (D : ZipApart z TI TO i1 i2 b b) :
    Turn P w K (.Tuple elts kk tpos) (ItzS K x b) [z, TI, TO, i1, i2] z (ZipGo x t z TI TO i1 i2 b) where
  mem := List.mem_cons_self
  obj := fun _ _ g _ hc => g.obj hc
  keep := fun _ _ _ g k => g.on k
  item := by
    intro X eP ew eK calm n pins s σ H E I fps g go
    subst eP ew eK
    obtain ⟨ys, c, y, tys, ec, ey⟩ := go
    obtain ⟨vs, rel, tupAt, _⟩ := I.tuple tys
    obtain ⟨u, eu, ru⟩ := rel.get ey
    obtain ⟨p, hp⟩ := g.out
    have zlt := g.lt (c := z) (by simp)
    have n1 : n < x.cps.size := Nat.lt_of_not_le fun le => by
      rw [Array.getElem?_eq_none le] at ec
      cases ec
    have n2 : n < vs.toArray.size := by simpa using (List.getElem?_eq_some_iff.mp eu).1
    have calmA : X.A.in1.handled = none := I.ok.hd calm
    refine wpAny_pyNext_zipD2_item (zip_sep D) (Draws.text calmA i1 x t) (Draws.tuple calmA i2 b D.l1i2 vs.toArray) g.zp g.ins hp g.txt ⟨g.tup, tupAt⟩ n1 n2 fun v1 v2 h1 tk P1 P2 zp1 out1 txt1 tup1 new1 _ kept1 => ?_
    obtain ⟨c', k, ec', rfl⟩ := P1
    obtain rfl : c = c' := Option.some.inj (ec.symm.trans ec')
    obtain rfl : u = v2 := Option.some.inj (eu.symm.trans (by simpa using P2))
    refine ⟨_, rfl, wpAny_letOwnedTupleGo_zip (s := { s with heap := h1, toks := tk }) zp1 fun h2 zp2 sb => ?_⟩
    have up : ∀ d, d ≠ z → h2.get? d = h1.get? d := fun d nd => sb.2 d nd
    have kept2 : ∀ d o, d ∉ [z, TI, TO, i1, i2] → s.heap.get? d = some o → h2.get? d = some o := fun d o nd e => by
      obtain ⟨a1, a2, a3, a4⟩ := apart5 nd
      rw [up d a1]
      exact kept1 d o a1 a2 a3 a4 e
    have new2 : h2.get? s.heap.objs.size = some { cls := .type "tuple", data := .seq #[.str ⟨#[c]⟩ k, u] } := (up _ (Nat.ne_of_gt zlt)).trans new1
    have I2 := I.turnedNew (t' := tk) (ch := [z, TI, TO, i1, i2]) (ob := .tup [.str ⟨#[c]⟩, y]) kept2 fps (Nat.le_refl _) ⟨show 2 ≤ sizeLine by decide, [.str ⟨#[c]⟩ k, u], .cons ⟨k, rfl⟩ (.cons ru .nil), ⟨_, new2, rfl, _, rfl⟩⟩
    refine ⟨.ref s.heap.objs.size, _, I2, rfl, ⟨_, c, y, rfl, I.hok.fresh (Nat.le_refl _), rfl, ec, fun l tl => (I.tuple_inj tl tys) ▸ ey⟩, ⟨zp2, ?_, ⟨(_, _), (up _ D.TOz).trans out1⟩, ?_, tup1.1.at fun o e => (up _ D.i2z).trans e⟩, fun d hd => ?_⟩
    · exact (up _ D.TIz).trans (kept1 TI _ D.TIz D.TITO D.TIi1 D.TIi2 g.ins)
    · obtain ⟨o, e, r⟩ := txt1
      exact ⟨o, (up _ D.i1z).trans e, r⟩
    · rw [upd_ne (Nat.ne_of_lt (g.lt hd))]
      exact (fps d hd).1
  done := by
    intro X eP ew eK calm n pins s σ H E I fps g stop
    subst eP ew eK
    obtain ⟨ys, tys, le1, le2, last⟩ := stop
    obtain ⟨vs, rel, tupAt, _⟩ := I.tuple tys
    obtain ⟨p, hp⟩ := g.out
    have lv : vs.toArray.size = ys.length := by simpa using rel.length.symm
    have calmA : X.A.in1.handled = none := I.ok.hd calm
    refine wpAny_pyNext_zipD2_end (zip_sep D) (Draws.text calmA i1 x t) (Draws.tuple calmA i2 b D.l1i2 vs.toArray) g.zp g.ins hp g.txt ⟨g.tup, tupAt⟩ le1 (by omega) (by omega) fun h1 tk kept1 => ⟨rfl, ?_⟩
    refine I.turnedL (t' := tk) (ch := [z, TI, TO, i1, i2]) (fun d o nd e => ?_) fps
    obtain ⟨a1, a2, a3, a4⟩ := apart5 nd
    exact kept1 d o a1 a2 a3 a4 e
  self := fun _ _ _ _ _ g q => wpAny_pyIter_zip g.zp q
def iZipS (K : PySem.W.Frag) (ta : TA) : TI := fun σ H R => ta σ H fun vs H1 => ∃ x b ys, vs = [.str x, .ref b] ∧ SqT K H1 b ys ∧ R (ItzS K x b) H1
theorem pi_zipS {X : Cx} {ea eb : Expr} {ta : TA} {p pos tpos : Pos} {elts : List Expr} {kk : Nat} (gl : Gl X "zip") (own : X.mg "zip" = none) (args : PA X [ea, eb] ta)
    (star : starEach [ea, eb] X.env = (false, eval ea X.env) :: starEach [eb] X.env := by rfl) (plain : (backTo pos (starEach [eb] X.env)).any (·.1) = false := by rfl) :
    PI X (.Tuple elts kk tpos) (.Call (.Name "zip" p) [ea, eb] [] pos) (iZipS X.K ta) := by
  constructor
  intro pins s σ H R I q
  refine Call_ (ld_blt I gl own PyProof.Rows.boot_zip (PyProof.Rows.callWith_type1 ?_ star plain))
  refine thn (args.run pos pins s σ H _ I q) fun us s1 ans => ?_
  obtain ⟨vs, H1, J, rel, x, b, ys, rfl, tys, go⟩ := ans
  obtain ⟨u1, u2, rfl, r1, r2⟩ := vals2 rel
  obtain ⟨t, rfl⟩ := r1
  obtain rfl : u2 = Value.ref b := r2
  obtain ⟨its, _, tupAt, _⟩ := J.tuple tys
  have blt : b < s1.heap.objs.size := by
    obtain ⟨_, e, _⟩ := id tupAt
    exact Heap.lt_size e
  have fresh : ∀ c, s1.heap.objs.size ≤ c → FpOk X pins H1 c := fun c le => J.fpOk le (J.hok.fresh le)
  refine zip_begins2 (begins_text x t) (begins_tuple b its.toArray) trivial tupAt fun h2 zp ins out o1 o2 _ kept => wpAny_pyIter_zip zp ?_
  refine ⟨_, [s1.heap.objs.size + 4, s1.heap.objs.size + 2, s1.heap.objs.size + 3, s1.heap.objs.size, s1.heap.objs.size + 1], _, _, H1, rfl, J.kept (t' := s1.toks) kept, turn_zipS (t := t) (PySem.W.ktu_apart s1.heap.objs.size b b blt blt), ?_, fun c hc => ?_, go⟩
  · exact ⟨zp, ins, ⟨(_, _), out⟩, ⟨_, o1, rfl, rfl⟩, ⟨_, o2, rfl, rfl⟩⟩
  · exact five (Pr := FpOk X pins H1) hc (fresh _ (by omega)) (fresh _ (by omega)) (fresh _ (by omega)) (fresh _ (by omega)) (fresh _ (by omega))
/-- a loop over zip of a text and a tuple of one length -/
theorem for_zipS {K : PySem.W.Frag} {x : Str} {b : Addr} {ys : List V} {g : TG} {tb : TS} {D : Ends} {σ : L2.St} {H : Hp} (hl : x.cps.size = ys.length) (Pv : Nat → L2.St → Hp → Prop) (h0 : Pv 0 σ H) (hq : ∀ i σ H, Pv i σ H → SqT K H b ys)
    (hs : ∀ (i c : Nat) (y : V) (T : Addr) (σ : L2.St) (H : Hp), x.cps[i]? = some c → ys[i]? = some y → Pv i σ H → H T = none → g (.ref T) σ (upd H T (.tup [.str ⟨#[c]⟩, y])) fun σ2 H2 => tb { D with nx := Pv (i + 1), ct := Pv (i + 1), bk := D.nx } σ2 H2) (hd : ∀ σ H, Pv ys.length σ H → D.nx σ H) :
    ∃ W : Nat → Nat → L2.St → Hp → Prop, (∃ m, W 0 m σ H) ∧ ∀ i m σ H, W i m σ H →
      ((ItzS K x b).stop i H ∧ D.nx σ H) ∨ ((ItzS K x b).go i H ∧ ∃ N : L2.St → Hp → Prop, (∀ σ' H', N σ' H' → ∃ m', m' < m ∧ W (i + 1) m' σ' H') ∧ ∀ v H', (ItzS K x b).yld i H v H' → g v σ H' fun σ2 H2 => tb { D with nx := N, ct := N, bk := D.nx } σ2 H2) := by
  refine ⟨fun i m σ H => m = ys.length - i ∧ i ≤ ys.length ∧ Pv i σ H, ⟨ys.length, rfl, Nat.zero_le _, h0⟩, fun i m σ H st => ?_⟩
  obtain ⟨em, le, pv⟩ := st
  have tys := hq i σ H pv
  rcases Nat.lt_or_eq_of_le le with lt | eq
  · refine .inr ⟨⟨ys, x.cps[i], ys[i], tys, Array.getElem?_eq_getElem (hl.symm ▸ lt), List.getElem?_eq_getElem lt⟩, Pv (i + 1), fun σ' H' p' => ⟨ys.length - (i + 1), by omega, rfl, lt, p'⟩, fun v H' y => ?_⟩
    obtain ⟨tp, c, a2, rfl, free, rfl, w1, w2⟩ := y
    exact hs i c a2 tp σ H w1 (w2 ys tys) pv free
  · subst eq
    exact .inl ⟨⟨ys, tys, Nat.le_of_eq hl.symm, Nat.le_refl _, .inr rfl⟩, hd σ H pv⟩
/-! ### d.update(e) -/
def tDUpd (td ty : TE) : TE := fun σ H Q => td σ H fun x H1 => ∃ a, x = .ref a ∧ IsD H1 a ∧ ty σ H1 fun y H2 => ∃ b kvs more, y = .ref b ∧ H2 a = some (.dK kvs) ∧ H2 b = some (.dK more) ∧ a ≠ b ∧ kvs.length + more.length ≤ sizeLine ∧ Q .non (upd H2 a (.dK (mergeK kvs more)))
theorem pe_dupd {X : Cx} {o e : Expr} {apos cpos : Pos} {td ty : TE} (ho : PE X o td) (he : PE X e ty) (m : M1 X o "update" apos e cpos) : PE X (.Call (.Attribute o "update" apos) [e] [] cpos) (tDUpd td ty) := by
  refine ⟨fun pins s σ H Q I h => ?_⟩
  refine wpAny_Call_method m.base m.few m.line PySem.F.plainAttrs_dict PySem.F.slot_dict_update PySem.F.type_dict_update (thn (ho.run pins s σ H _ I h) fun u s1 ⟨x, H1, I1, rx, a, ex, d, q1⟩ => ?_)
  subst ex
  obtain rfl : u = Value.ref a := rx
  obtain ⟨t1, t2, _⟩ := isD_at I1 d
  refine ⟨t1, t2, ?_⟩
  rw [m.trees]
  refine Calls.callWith_builtin rfl (Calls.evalArgs_plain (Calls.spliced_cons (thn (he.run pins s1 σ H1 _ I1 q1) fun iv s2 ⟨y, H2, I2, ry, b, kvs, more, ey, ea, eb, ne, hz, q2⟩ => Calls.spliced_nil ?_)))
  subst ey
  obtain rfl : iv = Value.ref b := ry
  obtain ⟨za, hda, vs, ra, dda⟩ := dk_of I2.hok ea
  obtain ⟨zb, hdb, ws, rb, ddb⟩ := dk_of I2.hok eb
  refine call_meetsIn PySem.F.slot_dict_update dda.typeIs PySem.F.entry_dict_update (PySem.F.args_dict_update_2 _ _) (meets_dict_update (mixKind X.prog X.w) a b ne hdb) ⟨vs, ws, dda, ddb, (by rw [← ra.length, ← rb.length]; exact hz), fun h' hmm _ hs => ?_⟩
  have he' : ∃ q, h'.get? a = some q := let ⟨q, _, _, hq, _⟩ := hmm; ⟨q, hq⟩
  exact ⟨.non, _, d_write I2 (by rw [ea]; exact True.intro) hs he' (dk_new (Nat.le_trans (length_mergeK more kvs) hz) hda (rb.merge ra) hmm), rfl, q2⟩
/-! ### list(text), tuple == () -/
def sgs (x : Str) : List V := x.cps.toList.map fun c => V.str ⟨#[c]⟩
theorem vals_at : ∀ {xs : List V} {us : List Value}, xs.length = us.length → (∀ (j : Nat) (v : V) (u : Value), xs[j]? = some v → us[j]? = some u → RelV v u) → Vals xs us
  | [], [], _, _ => .nil
  | [], _ :: _, h, _ => nomatch h
  | _ :: _, [], h, _ => nomatch h
  | v :: xs, u :: us, h, k => .cons (k 0 v u rfl rfl) (vals_at (Nat.succ.inj h) fun j a b ha hb => k (j + 1) a b ha hb)
theorem call_list_txt {X : Cx} (hc : X.calm = true) : CallR X (.type "list") (fun xs H Q => ∃ x : Str, xs = [.str x] ∧ x.cps.size ≤ sizeLine ∧ ∀ l, H l = none → Q (.ref l) (upd H l (.lst (sgs x)))) := by
  intro pins s σ H xs us Q I r h
  obtain ⟨x, rfl, hz, q⟩ := h
  obtain ⟨u, rfl, rx⟩ := vals1 r
  obtain ⟨t, rfl⟩ := rx
  refine call_list_str (I.ok.hd hc) x t (hn := hz) fun h' tk acc' c' hk hS' hacc => ?_
  have hl : (sgs x).length = acc'.toList.length := by
    unfold sgs
    rw [List.length_map, Array.length_toList, Array.length_toList]
    exact hacc.1.symm
  have rv : Vals (sgs x) acc'.toList := vals_at hl fun j v u hv hu => by
    obtain ⟨c, k, hc', rfl⟩ := hacc.2 j u (by simpa using hu)
    unfold sgs at hv
    rw [List.getElem?_map] at hv
    obtain ⟨c2, h2, rfl⟩ := Option.map_eq_some_iff.mp hv
    have z : x.cps.toList[j]? = some c := by simpa using hc'
    rw [z] at h2
    cases h2
    exact ⟨k, rfl⟩
  have hz2 : (sgs x).length ≤ sizeLine := by
    unfold sgs
    rw [List.length_map, Array.length_toList]
    exact hz
  exact ⟨.ref s.heap.objs.size, _, I.laid (t' := tk) hk (Nat.le_refl _) (show ObjOk X.prog X.w _ h' _ (.lst (sgs x)) from ⟨hz2, acc'.toList, c', rv, by simpa using hS'⟩), rfl, q _ (I.hok.fresh (Nat.le_refl _))⟩
def rEq0 (K : PySem.W.Frag) : R2 := fun x y H Q => ∃ a b xs, x = .ref a ∧ y = .ref b ∧ SqT K H a xs ∧ SqT K H b [] ∧ Q (.bl xs.isEmpty) H
theorem op_eq0 {X : Cx} (hu : X.A.units < cLine) : OpR X (compareOp .Eq) (rEq0 X.K) := by
  intro pins s σ H x y v u Q I rx ry h
  obtain ⟨a, b, xs, rfl, rfl, ha, hb, q⟩ := h
  cases rx
  cases ry
  obtain ⟨its, r1, p1, _⟩ := I.tuple ha
  obtain ⟨its2, r2, p2, _⟩ := I.tuple hb
  cases r2
  refine SeqAt.eq_tupleAt (e := fun _ => true) p1 p2 hu (fun j h1 h2 => by simp at h2) ?_
  have e : ((List.range (min its.toArray.size ([] : List Value).toArray.size)).all (fun _ => true) && its.toArray.size == ([] : List Value).toArray.size) = xs.isEmpty := by
    cases r1 with
    | nil => rfl
    | cons _ _ => simp
  rw [e]
  exact ⟨.bl _, H, I, rfl, q⟩

/-! ### the end of a law whose defs make generator expressions -/
/-- the def nm of the top, its code object's table empty -/
def TabAt (mg : Str → Option Value) (h : Heap) (nm : Str) : Prop := ∃ (f : Addr) (o : Obj) (fd : FuncData) (c P : Addr), mg nm = some (.ref f) ∧ h.get? f = some o ∧ o.data = .func fd ∧ fd.code = .ref c ∧ h.TableAt c P #[]
theorem tab_empty {K : PySem.W.Frag} {mg : Str → Option Value} {h : Heap} {nm : Str} {f c P : Addr} {o : Obj} {fd : FuncData} {e : Value} {dd : Option Addr} {vs : Array Value} {sl : Array (Option Value)} (t : TabAt mg h nm) (X : K.In h) (g : mg nm = some (.ref f))
    (lf : K.lookup f = some o) (df : o.data = .func fd) (cf : fd.code = .ref c) (lc : K.lookup c = some ⟨e, dd, .fields vs, sl⟩) (at11 : vs[11]? = some (.ref P)) : h.get? P = some { cls := .none, data := .fields #[] } := by
  obtain ⟨f', o', fd', c', P', m1, m2, m3, m4, ⟨oc, vc, w1, _, w3, w4⟩, tp⟩ := t
  have ef : f = f' := Value.ref.inj (Option.some.inj (g.symm.trans m1))
  subst ef
  have eo : o = o' := Option.some.inj ((X f o lf).symm.trans m2)
  subst eo
  have ed : fd = fd' := Data.func.inj (df.symm.trans m3)
  subst ed
  have ec : c = c' := Value.ref.inj (cf.symm.trans m4)
  subst ec
  have eq : (⟨e, dd, .fields vs, sl⟩ : Obj) = oc := Option.some.inj ((X c _ lc).symm.trans w1)
  subst eq
  have ev : vs = vc := Data.fields.inj w3
  subst ev
  have eP : P = P' := Value.ref.inj (Option.some.inj (at11.symm.trans w4))
  subst eP
  exact tp
theorem walk_tabs {l : PySem.W.OpenLaw} {most lv : Nat} {prog : Program} {lo : List Str} {XP : (Str → Option Value) → Heap → Prop} {YP : World → Heap → Prop} {df : DefRec} {K : Params → PySem.W.Frag} {par : Str} (names : List Str)
    (h1 : l.most = some most) (h2 : most ≤ sizeLine) (h3 : df.params.defaults = []) (room : Room lv callerA) (recs : (names.all fun nm => (recsOf prog).any fun r => r.name == nm) = true) (kin : ∀ (w : World) (h : Heap), YP w h → (K w.params).In h)
    (at_ : ∀ (w : World) (mg : Str → Option Value) (fa : Addr) (h : Heap), (K w.params).In h → h.Ns mainGlobals mg → mg df.name = some (.ref fa) → (∀ nm ∈ names, TabAt mg h nm) → LamX.LawAtS l w (K w.params) CX0 lv most par mg fa h) :
    PySem.W.WalkO prog lo XP YP l.row.toRowW df [] (fun f vs => PySem.call f vs) := by
  refine Att.attach_callB h1 h3 fun w s0 s mg mb fa o pm cd doc a vs ns Gr Y _ _ _ name ob iar len bits gens => ?_
  have tabs : ∀ nm ∈ names, TabAt mg s.heap nm := fun nm hm => by
    obtain ⟨r, hr, er⟩ := List.any_eq_true.mp (List.all_eq_true.mp recs nm hm)
    obtain ⟨x1, x2, x3, x4, x5, y1, y2, y3, y4, _, y6⟩ := Gr.T.tab r hr
    rw [beq_iff_eq.mp er] at y1
    exact ⟨x1, x2, x3, x4, x5, y1, y2, y3, y4, y6⟩
  obtain ⟨fd, cs, sp, t1, t2, t3, bind, asked, ok⟩ := at_ w mg fa _ (kin w _ Y) Gr.T.g name tabs
  exact LamX.law_callTs (kin w _ Y) Gr.T.g Gr.T.b Gr.T.builtins Gr.T.nolimit gens t1 t2 t3 Gr.T.bmain ob iar (Nat.le_trans len h2) room ok bind (fun H hH hS => asked H a ns len bits hH hS) fun _ _ _ z => z

end My
namespace My
open PySem L2
/-! ### a mid-condition behind a statement, an expression, a test -/
def sMid (t : TS) : TS := fun D σ H => ∃ M : L2.St → Hp → Prop, t { D with nx := M } σ H ∧ ∀ σ' H', M σ' H' → D.nx σ' H'
theorem ps_mid {X : Cx} {st : Stmt} {t : TS} (h : PS X st t) : PS X st (sMid t) := by
  refine ⟨fun pins s σ H D I z => ?_⟩
  obtain ⟨M, q, k⟩ := z
  refine thn (h.run pins s σ H { D with nx := M } I q) fun f s1 y => ?_
  cases f with
  | next =>
    obtain ⟨σ', H', I', y⟩ := y
    exact ⟨σ', H', I', k _ _ y⟩
  | ret v => exact y
  | brk => exact y
  | cont => exact y
def tMid (t : TT) : TT := fun σ H Q => ∃ M : Bool → Hp → Prop, t σ H M ∧ ∀ b H', M b H' → Q b H'
theorem pt_mid {X : Cx} {e : Expr} {t : TT} (h : PT X e t) : PT X e (tMid t) := by
  refine ⟨fun pins s σ H Q I z => ?_⟩
  obtain ⟨M, q, k⟩ := z
  exact thn (h.run pins s σ H M I q) fun b s1 ⟨H', I', y⟩ => ⟨H', I', k _ _ y⟩
def eMid (t : TE) : TE := fun σ H Q => ∃ M : V → Hp → Prop, t σ H M ∧ ∀ v H', M v H' → Q v H'
theorem pe_mid {X : Cx} {e : Expr} {t : TE} (h : PE X e t) : PE X e (eMid t) := by
  refine ⟨fun pins s σ H Q I z => ?_⟩
  obtain ⟨M, q, k⟩ := z
  exact thn (h.run pins s σ H M I q) fun u s1 ⟨v, H', I', r, y⟩ => ⟨v, H', I', r, k _ _ y⟩
theorem yes_ite {σ : L2.St} {H : Hp} {A B : Hp → Prop} (h : A H) : tYes σ H (fun b H3 => if b = true then A H3 else B H3) := by
  unfold tYes
  exact (show (if true = true then A H else B H) from iteT h)
/-- xs[i] op= e, the read -/
theorem get_list {X : Cx} : PGet X (rIxL X.K) := by
  intro pins s σ H x y v u Q I rx ry h
  obtain ⟨p, xs, i, z, rfl, rfl, hq, he, q⟩ := h
  cases rx
  obtain ⟨t, rfl⟩ := ry
  obtain ⟨its, r, pl, hz⟩ := I.list hq
  obtain ⟨j, h1, h2, h3, h4, h5⟩ := atI_get he
  obtain ⟨w, ew, rw'⟩ := r.get h2
  have hl := r.length
  have hn := line63
  have fin : EP X pins σ Q w s := ⟨z, H, I, rw', q⟩
  by_cases h0 : 0 ≤ i
  · have hj : i.toNat = j := by
      rw [PySem.seqIndex_of h0 h5] at h1
      exact Option.some.inj h1
    exact PySem.wpAny_getItem_list pl.isList h0 (by omega) (by rw [hj]; simpa using ew) fin
  · have hj : (i + (its.toArray.size : Int)).toNat = j := by
      rw [PySem.seqIndex_neg (by omega) h4] at h1
      rw [List.size_toArray, ← hl]
      exact Option.some.inj h1
    exact PySem.wpAny_getItem_list_neg pl.isList (by omega) (by rw [List.size_toArray] <;> omega) (by omega) (by rw [hj]; simpa using ew) fin
theorem same_new {H : Hp} {p : Addr} {o : HO} (h : H p = none) : Same H (upd H p o) := fun b u q => by rw [upd_ne (ne_of_none q h)]; exact q
/-- all but d as it was -/
def But (d : Addr) (H H' : Hp) : Prop := ∀ b o, H b = some o → b ≠ d → H' b = some o
theorem But.refl {d : Addr} {H : Hp} : But d H H := fun _ _ e _ => e
theorem But.trans {d : Addr} {H H1 H2 : Hp} (x : But d H H1) (y : But d H1 H2) : But d H H2 := fun b o e n => y b o (x b o e n) n
theorem But.put {d : Addr} {H H1 : Hp} {o : HO} (x : But d H H1) : But d H (upd H1 d o) := fun b u e n => by
  rw [upd_ne n]
  exact x b u e n
theorem But.new {d p : Addr} {H H1 : Hp} {o : HO} (x : But d H H1) (n : H1 p = none) : But d H (upd H1 p o) := fun b u e nb => by
  have q := x b u e nb
  rw [upd_ne (ne_of_none q n)]
  exact q
theorem But.same {d : Addr} {H H1 H2 : Hp} (x : But d H H1) (s : Same H1 H2) : But d H H2 := fun b u e nb => s _ _ (x b u e nb)
theorem at_map {ns : List Int} {k : Int} (h0 : 0 ≤ k) (h : k < (ns.length : Int)) : ∃ v : Int, atI (ns.map V.int) k = some (.int v) ∧ v ∈ ns := by
  have hk : k.toNat < ns.length := by omega
  have ek : k = ((k.toNat : Nat) : Int) := by omega
  have q : atI (ns.map V.int) ((k.toNat : Nat) : Int) = some (.int ns[k.toNat]) := atI_nat (by rw [List.getElem?_map, List.getElem?_eq_getElem hk] <;> rfl)
  rw [← ek] at q
  exact ⟨_, q, List.getElem_mem _⟩
theorem at_any {α : Type} {xs : List α} {k : Int} (h0 : 0 ≤ k) (h : k < (xs.length : Int)) : ∃ v : α, atI xs k = some v ∧ v ∈ xs := by
  have hk : k.toNat < xs.length := by omega
  have ek : k = ((k.toNat : Nat) : Int) := by omega
  have q : atI xs ((k.toNat : Nat) : Int) = some xs[k.toNat] := atI_nat (List.getElem?_eq_getElem hk)
  rw [← ek] at q
  exact ⟨_, q, List.getElem_mem _⟩
theorem wide_ok {i j : Int} (h : 0 < j) (h2 : j < 2 ^ 100) : CDivW i j := wide_div (b := 100) h (by
  have e : ((j.natAbs : Nat) : Int) < ((2 ^ 100 : Nat) : Int) := by
    rw [Int.natCast_pow]
    show (j.natAbs : Int) < 2 ^ 100
    omega
  exact_mod_cast e) (by decide) (by decide)
theorem cut_map (ns : List Int) (hi : Option Int) : ∃ k : Nat, cutV (ns.map V.int) none hi = (ns.take k).map V.int := by
  refine ⟨HT.sIx ns.length ns.length hi, ?_⟩
  unfold cutV
  rw [HT.sIx_none, List.drop_zero, Nat.sub_zero, List.length_map, List.map_take]
theorem cut_nat {α : Type} (xs : List V) (k : Nat) : cutV xs none (some (k : Int)) = xs.take k := by
  unfold cutV
  rw [HT.sIx_none, List.drop_zero, Nat.sub_zero, HT.sIx_nat]
  by_cases h : k ≤ xs.length
  · rw [Nat.min_eq_left h]
  · rw [Nat.min_eq_right (by omega), List.take_of_length_le (Nat.le_refl _), List.take_of_length_le (by omega)]
theorem sz {n : Nat} (h : n ≤ 100000) : n ≤ sizeLine := Nat.le_trans h (by decide)
theorem szl {n : Nat} (h : n < 100000) : n < sizeLine := Nat.lt_of_lt_of_le h (by decide)
def spLaw (K : PySem.W.Frag) : Sp := fun vs H Q _ => ∃ (a : Addr) (ns : List Int), vs = [.ref a] ∧ SqL K H a (ns.map V.int) ∧ ns.length ≤ 63 ∧ (∀ z ∈ ns, Builtin.Int.intBits z ≤ 1048576) ∧ ∀ H', Q (.bl true) H'
/-! ### data of tuples -/
mutual
inductive Td (K : PySem.W.Frag) (H : Hp) : V → PyData → Prop
  | non : Td K H .non .none
  | bl (b : Bool) : Td K H (.bl b) (.bool b)
  | int (i : Int) : Td K H (.int i) (.int i)
  | str (x : Str) : Td K H (.str x) (.str x)
  | tup {a : Addr} {xs : List V} {ds : List PyData} : SqT K H a xs → TdAll K H xs ds → Td K H (.ref a) (.tuple ds)
inductive TdAll (K : PySem.W.Frag) (H : Hp) : List V → List PyData → Prop
  | nil : TdAll K H [] []
  | cons {v : V} {vs : List V} {d : PyData} {ds : List PyData} : Td K H v d → TdAll K H vs ds → TdAll K H (v :: vs) (d :: ds)
end
/-- tuples stay -/
def Tups (K : PySem.W.Frag) (H H' : Hp) : Prop := ∀ a xs, SqT K H a xs → SqT K H' a xs
theorem Tups.of_same {K : PySem.W.Frag} {H H' : Hp} (s : Same H H') : Tups K H H' := fun a xs h => by
  rcases h with h | h
  · rcases h with h | ⟨o, h⟩
    · exact .inl (.inl (s _ _ h))
    · exact .inl (.inr ⟨o, s _ _ h⟩)
  · exact .inr h
theorem Tups.of_but {K : PySem.W.Frag} {H H' : Hp} {d : Addr} {l : List V} (s : But d H H') (e : H d = some (.lst l)) : Tups K H H' := fun a xs h => by
  rcases h with h | h
  · rcases h with h | ⟨o, h⟩
    · exact .inl (.inl (s _ _ h (ne_of h e (by intro z; cases z))))
    · exact .inl (.inr ⟨o, s _ _ h (ne_of h e (by intro z; cases z))⟩)
  · exact .inr h
theorem Tups.trans {K : PySem.W.Frag} {H H1 H2 : Hp} (a : Tups K H H1) (b : Tups K H1 H2) : Tups K H H2 := fun p xs h => b _ _ (a _ _ h)
mutual
theorem Td.mono {K : PySem.W.Frag} {H H' : Hp} (t : Tups K H H') : ∀ {v : V} {d : PyData}, Td K H v d → Td K H' v d
  | _, _, .non => .non
  | _, _, .bl b => .bl b
  | _, _, .int i => .int i
  | _, _, .str x => .str x
  | _, _, .tup h k => .tup (t _ _ h) (TdAll.mono t k)
theorem TdAll.mono {K : PySem.W.Frag} {H H' : Hp} (t : Tups K H H') : ∀ {vs : List V} {ds : List PyData}, TdAll K H vs ds → TdAll K H' vs ds
  | _, _, .nil => .nil
  | _, _, .cons h k => .cons (Td.mono t h) (TdAll.mono t k)
end
mutual
theorem Td.dp {K : PySem.W.Frag} {H : Hp} : ∀ {v : V} {d : PyData}, Td K H v d → Dp K H v d
  | _, _, .non => .non
  | _, _, .bl b => .bl b
  | _, _, .int i => .int i
  | _, _, .str x => .str x
  | _, _, .tup h k => .tup h (TdAll.dp k)
theorem TdAll.dp {K : PySem.W.Frag} {H : Hp} : ∀ {vs : List V} {ds : List PyData}, TdAll K H vs ds → DpAll K H vs ds
  | _, _, .nil => .nil
  | _, _, .cons h k => .cons (Td.dp h) (TdAll.dp k)
end
theorem TdAll.length {K : PySem.W.Frag} {H : Hp} : ∀ {vs : List V} {ds : List PyData}, TdAll K H vs ds → vs.length = ds.length
  | _, _, .nil => rfl
  | _, _, .cons _ k => congrArg (· + 1) (TdAll.length k)
theorem TdAll.append {K : PySem.W.Frag} {H : Hp} : ∀ {vs ws : List V} {ds es : List PyData}, TdAll K H vs ds → TdAll K H ws es → TdAll K H (vs ++ ws) (ds ++ es)
  | _, _, _, _, .nil, k => k
  | _, _, _, _, .cons h k, z => .cons h (TdAll.append k z)
theorem TdAll.get {K : PySem.W.Frag} {H : Hp} : ∀ {vs : List V} {ds : List PyData}, TdAll K H vs ds → ∀ {v : V}, v ∈ vs → ∃ d, d ∈ ds ∧ Td K H v d
  | _, _, .nil, _, h => nomatch h
  | _, _, .cons (d := d) h k, v, m => by
    rcases List.mem_cons.mp m with e | m
    · subst e
      exact ⟨d, List.mem_cons_self, h⟩
    · obtain ⟨d', hd, t⟩ := TdAll.get k m
      exact ⟨d', List.mem_cons_of_mem _ hd, t⟩
theorem inV_str (w : Str) : ∀ ws : List Str, inV (.str w) (ws.map V.str) = decide (w ∈ ws)
  | [] => rfl
  | x :: r => by
    have ih := inV_str w r
    unfold inV at ih ⊢
    rw [List.map_cons, List.any_cons, ih]
    by_cases e : x = w
    · subst e
      simp [eqV]
    · have e2 : ¬ w = x := fun z => e z.symm
      simp [eqV, e, e2]
theorem flat_strs : ∀ ws : List Str, (ws.map V.str).all flatV = true
  | [] => rfl
  | _ :: r => by
    rw [List.map_cons, List.all_cons, flat_strs r]
    rfl
/-- the kinds -/
def kinds : List Str := ["a", "b", "c", "d", "e", "f", "g", "h"]
/-- a tuple as a target, the table and the number as they are written -/
theorem pg_tupK {X : Cx} {K : PySem.W.Frag} {pos : Pos} {es : List Expr} {k : Nat} {t : TGs} {n : Nat} (hK : X.K = K) (hc : X.calm = true) (h : PGs X es t)
    (hn : (assignEach es X.env).length = n) (hst : (assignEach es X.env).findIdx? (·.1) = none := by rfl) : PG X (.Tuple es k pos) (gTup K n t) := by
  subst hK
  exact pg_tup hc h hn hst
theorem cut_tail (x : V) (ps : List V) : cutV (x :: ps) (some 1) none = ps := by
  unfold cutV
  rw [show (1 : Int) = ((1 : Nat) : Int) from rfl, HT.sIx_nat, HT.sIx_none, List.length_cons]
  have e : min 1 (ps.length + 1) = 1 := by omega
  rw [e, List.drop_succ_cons, List.drop_zero, Nat.add_sub_cancel, List.take_of_length_le (Nat.le_refl _)]
theorem u1 {k : Nat} {A : Around} (h : Room k A) : A.units + 1 < cLine := by
  have := h.units
  omega
theorem u0 {k : Nat} {A : Around} (h : Room k A) : A.units < cLine := by
  have := h.units
  omega
theorem u65 {k : Nat} {A : Around} (h : Room k A) : A.units + 65 < cLine := by
  have := h.un
  omega
theorem op_in_seqK {X : Cx} {K : PySem.W.Frag} (hK : X.K = K) : OpR X (compareOp .In) (rIn K false) := by
  subst hK
  exact op_in_seq
theorem op_notIn_seqK {X : Cx} {K : PySem.W.Frag} (hK : X.K = K) : OpR X (compareOp .NotIn) (rIn K true) := by
  subst hK
  exact op_notIn_seq

/-! ### own exceptions as values -/
def veB : List Value := [.type "ValueError", .type "Exception", .type "BaseException", .type "object"]
/-- an exception object of the class C, not raised, with or without fields -/
def ExAt (H : Hp) (a C : Addr) : Prop := H a = some (ExO (.ref C) a) ∨ ∃ (d : Addr) (fs : List (Str × V)), H a = some (exo a C (some d)) ∧ H d = some (exd d fs)
theorem ExAt.same {H H' : Hp} {a C : Addr} (s : Same H H') (h : ExAt H a C) : ExAt H' a C := by
  rcases h with h | ⟨d, fs, h, g⟩
  · exact .inl (s _ _ h)
  · exact .inr ⟨d, fs, s _ _ h, s _ _ g⟩
section
variable {X : Cx}
theorem ExAt.inst {pins : List (Addr × Obj)} {σ : L2.St} {H : Hp} {s : Shared} {a C : Addr} (I : Inv X pins σ H s) (h : ExAt H a C) : ∃ (oe : Obj) (od : Option Obj), PySem.W.InstAt s.heap a oe C od := by
  rcases h with h | ⟨d, fs, h, g⟩
  · obtain ⟨⟨oe, vs, ho, hz, hd, _⟩, _, _⟩ := I.hok a _ h
    refine ⟨oe, none, ho, hz.1, ?_, ?_⟩
    · unfold PySem.W.notCls
      rw [hd]
    · rw [hz.2]
      trivial
  · obtain ⟨t1, ho⟩ := exo_at I.hok h
    obtain ⟨mA, hm, _⟩ := exd_at I.hok g
    obtain ⟨od, hod, _⟩ := lookIn_ns hm
    exact ⟨_, some od, ho, rfl, rfl, hod⟩
theorem pe_exc0 {C : Addr} {x : Str} {p pos : Pos} (hc : PySem.W.excIn X.K C veB "ValueError.__new__" = true) (gC : X.mg x = some (.ref C)) (kC : PySem.W.keepIn X.K (.ref C) = true) (hg : Gl X x) (hdb : (x == ("__debug__" : Str)) = false := by decide) :
    PE X (.Call (.Name x p) [] [] pos) (fun _ H Q => ∀ a, H a = none → Q (.ref a) (upd H a (ExO (.ref C) a))) := by
  constructor
  intro pins st σ H Q I h
  refine wpAny_Call_Name_kw (ld_glob I hg gC ?_ hdb)
  refine PySem.W.callWith_K0 I.kIn kC ?_
  obtain ⟨bm, N, nm, qn, bs, hdct, sn, sub, ab, col, dd, k0, k1, k2, k3, k5, mN, hC, hN, hni, OT⟩ := exc_obj I.kIn hc
  refine wpAny_call_exc_subT PySem.F.excBase_ValueError OT hC hN hni (fun h' a hm => ?_) (Nat.zero_le _)
  have free : H a = none := I.hok.gone hm.new
  obtain ⟨t, ht, _, _⟩ := hm.there
  have ok : ObjOk X.prog X.w (upd H a (ExO (.ref C) a)) h' a (ExO (.ref C) a) := exO_ok ht ⟨rfl, rfl⟩ rfl rfl rfl (show 4 < 6 by decide)
  exact ⟨.ref a, _, I.laidN hm.keeps hm.new free ok, rfl, h a free⟩
/-- C(e, ..), C an own exception class with an own __init__, as a value -/
def tOexV (C : Addr) (sp : Sp) (ta : TA) : TE := fun σ H Q => ta σ H fun vs H1 => vs.length ≤ 1000 ∧ ∀ a, H1 a = none → sp (.ref a :: vs) (upd H1 a (exo a C none)) (fun v H2 => v = .non ∧ Q (.ref a) H2) (fun _ _ _ => False)
theorem pe_oexV {x : Str} {C fI : Addr} {k : Nat} {fd : FuncData} {ps : List Str} {sp : Sp} {e : Expr} {es : List Expr} {ta : TA} {p pos : Pos} (OC : OexC X.K C) (iC : PySem.W.findIn X.K (.ref C) "__init__" = some (some (.ref fI)))
    (tI : PySem.W.typeIn X.K (.ref fI) = some (.type "function")) (F1 : FnOk X.prog X.w X.K X.mg X.base CX0 k fI fd ps sp) (hr : Room (k + 1) X.A) (hb : Binds X.K fd ps []) (hg : Gl X x) (hm : X.mg x = some (.ref C)) (ha : PA X (e :: es) ta)
    (hdb : (x == ("__debug__" : Str)) = false := by decide) (he : starEach (e :: es) X.env = (false, eval e X.env) :: starEach es X.env := by rfl) (hpl : (backTo pos (starEach es X.env)).any (·.1) = false := by rfl) :
    PE X (.Call (.Name x p) (e :: es) [] pos) (tOexV C sp ta) := by
  constructor
  intro pins st σ H Q I h
  obtain ⟨nm, q, N, bs, bm, sn, sub, ab, col, dd, k0, k1, k2, k3, k5, hC, hbm⟩ := OC.cls
  refine wpAny_Call_Name_kw (ld_glob I hg hm ?_ hdb)
  refine PySem.W.callWith_K (h₀ := X.base) I.ok.mod.kin OC.kC (thn (ha.run pos pins st σ H _ I h) fun us s1 z => ?_) he hpl
  obtain ⟨vs, H1, I1, r1, hz, q1⟩ := z
  refine ⟨I1.kIn, ?_⟩
  obtain ⟨hp, g, dr, tk, os⟩ := s1
  have hn : H1 (hp.objs.size + 1) = none := I1.hok.fresh (Nat.le_succ _)
  have hq := q1 _ hn
  have kk : ∀ b o, hp.get? b = some o → ((hp.push (PySem.W.kdv_tup us)).push (PySem.HandSPX.excO C hp.objs.size)).get? b = some o := fun b o z =>
    Heap.get?_push_of_some _ (Heap.get?_push_of_some _ z)
  have hget : ((hp.push (PySem.W.kdv_tup us)).push (PySem.HandSPX.excO C hp.objs.size)).get? (hp.objs.size + 1) = some (PySem.HandSPX.excO C hp.objs.size) := by
    heap_get
  have I2 : Inv X pins σ (upd H1 (hp.objs.size + 1) (exo (hp.objs.size + 1) C none)) ⟨(hp.push (PySem.W.kdv_tup us)).push (PySem.HandSPX.excO C hp.objs.size), g, dr, tk, os⟩ :=
    I1.laid (t' := tk) (a := hp.objs.size + 1) (o := exo (hp.objs.size + 1) C none) (h' := (hp.push (PySem.W.kdv_tup us)).push (PySem.HandSPX.excO C hp.objs.size)) kk (Nat.le_succ _) (exo_ok hget)
  have r2 : Vals (V.ref (hp.objs.size + 1) :: vs) (Value.ref (hp.objs.size + 1) :: us) := .cons rfl r1
  have hl : (Value.ref (hp.objs.size + 1) :: us).length = ps.length := by
    rw [← r2.length]
    exact F1.len _ _ _ _ hq
  have hus : us.length ≤ sizeLine := by
    rw [← Paired.length r1, sizeLine_eq]
    omega
  have hb2 := hb ⟨(hp.push (PySem.W.kdv_tup us)).push (PySem.HandSPX.excO C hp.objs.size), g, dr, tk, os⟩ (Value.ref (hp.objs.size + 1) :: us) I2.kIn (by rw [List.append_nil]; exact hl)
  rw [List.append_nil] at hb2
  refine wpAny_call (PySem.HandSPX.call_own PySem.F.excBase_ValueError (fun Y => PySem.HandSPX.refsVE_contains Y bm hbm) (I1.kIn _ _ hC) (PySem.W.looks_findIn I1.kIn iC) (fun self => PySem.W.bind_fn I1.kIn self tI) hus
    (codeAny_mono (F1.run _ X.stack _ _ ⟨Value.ref (hp.objs.size + 1) :: us, []⟩ (Value.ref (hp.objs.size + 1) :: us) _ _ (fun _ _ _ => False) (hr.make C us []) (I2.env0.make C us []) hb2 r2 hq) fun r s' z => ?_))
  cases r with
  | error er => exact absurd z id
  | ok fl =>
    cases fl with
    | ret u =>
      obtain ⟨v, H', J, rv, ev, qq⟩ := I2.after z
      subst ev
      exact ⟨rv, .ref (hp.objs.size + 1), H', J, rfl, qq⟩
    | next => exact absurd z id
    | brk => exact absurd z id
    | cont => exact absurd z id
/-- what isinstance asks of the class of an exception -/
structure XcC (K : PySem.W.Frag) (C : Addr) : Prop where
  cl : (PySem.W.clsIn K C).isSome = true
  hg : PySem.W.findIn K (.ref C) "__getattribute__" = some (some (.builtin "BaseException.__getattribute__"))
  hk : PySem.W.findIn K (.ref C) "__getattr__" = some none
  hs : PySem.W.subIn K (.ref C) (.type "BaseException") = some true
  ha : PySem.W.findIn K (.ref C) "__class__" = some (some (.builtin "object.__class__"))
  hn : PySem.W.specialIn K (.builtin "object.__class__") "__get__" = some (some (.builtin "getset_descriptor.__get__"))
  ht : PySem.W.takesIn K (.builtin "object.__class__") = some true
  hm : PySem.W.mroIn K C (.type "object") = some true
def xcB (K : PySem.W.Frag) (C : Addr) : Bool := (PySem.W.clsIn K C).isSome && (decide (PySem.W.findIn K (.ref C) "__getattribute__" = some (some (.builtin "BaseException.__getattribute__"))) && (decide (PySem.W.findIn K (.ref C) "__getattr__" = some none) &&
  (decide (PySem.W.subIn K (.ref C) (.type "BaseException") = some true) && (decide (PySem.W.findIn K (.ref C) "__class__" = some (some (.builtin "object.__class__"))) && (decide (PySem.W.specialIn K (.builtin "object.__class__") "__get__" = some (some (.builtin "getset_descriptor.__get__"))) &&
  (decide (PySem.W.takesIn K (.builtin "object.__class__") = some true) && decide (PySem.W.mroIn K C (.type "object") = some true)))))))
theorem xcB_ok {K : PySem.W.Frag} {C : Addr} (h : xcB K C = true) : XcC K C := by
  unfold xcB at h
  simp only [Bool.and_eq_true, decide_eq_true_eq] at h
  obtain ⟨h1, h2, h3, h4, h5, h6, h7, h8⟩ := h
  exact ⟨h1, h2, h3, h4, h5, h6, h7, h8⟩
def rIsX (K : PySem.W.Frag) : List V → Hp → VK → Prop := fun xs H Q => ∃ (a C : Addr) (c : V) (cv : Value) (b : Bool), xs = [.ref a, c] ∧ ExAt H a C ∧ XcC K C ∧ ClsV c cv ∧ PySem.W.kitOne K (.ref C) cv = some b ∧ Q (.bl b) H
theorem call_isX : CallR X (.builtin "isinstance") (rIsX X.K) := by
  intro pins st σ H xs us Q I r h
  obtain ⟨a, C, c, cv, b, rfl, ex, xc, kc, e, q⟩ := h
  obtain ⟨u1, u2, rfl, r1, r2⟩ := vals2 r
  cases r1
  have e2 := kc.eq r2
  subst e2
  obtain ⟨oe, od, J⟩ := ex.inst I
  exact PySem.W.kia_one (PySem.W.kitx_exc xc.cl xc.hg xc.hk xc.hs xc.ha xc.hn xc.ht xc.hm) I.kIn J e (fun z => nomatch z) fun tk => ⟨.bl b, H, I.kept (t' := tk) fun _ _ z => z, rfl, q⟩
theorem call_isXK {K : PySem.W.Frag} (hK : X.K = K) : CallR X (.builtin "isinstance") (rIsX K) := by
  subst hK
  exact call_isX
/-- e.f of such an object -/
def tXv (K : PySem.W.Frag) (f : Str) (te : TE) : TE := fun σ H Q => te σ H fun x H1 => ∃ (a C d : Addr) (fs : List (Str × V)) (v : V), x = .ref a ∧ H1 a = some (exo a C (some d)) ∧ H1 d = some (exd d fs) ∧ XfC K C ∧ PySem.W.findIn K (.ref C) f = some none ∧ fs.lookup f = some v ∧ Q v H1
theorem pe_xv {e : Expr} {te : TE} {pos : Pos} {n : Str} (he : PE X e te) (hb : attributeBase e n X.env (eval e X.env) = eval e X.env := by rfl) : PE X (.Attribute e n pos) (tXv X.K n te) := by
  constructor
  intro pins st σ H Q I h
  refine attr_of hb (thn (he.run pins st σ H _ I h) fun u s1 z => ?_)
  obtain ⟨x, H1, I1, rx, a, C, d, fs, v, rfl, h1, h2, xf, hno, hl, q⟩ := z
  cases rx
  obtain ⟨t1, ho⟩ := exo_at I1.hok h1
  obtain ⟨mA, hns, hrel⟩ := exd_at I1.hok h2
  obtain ⟨od, hod, hlk⟩ := lookIn_ns hns
  obtain ⟨u, hu, ru⟩ := RelO.some_of (v := v) (o := mA n) (by rw [← hl]; exact hrel n)
  have J : PySem.W.InstAt s1.heap a _ C (some od) := ⟨ho, rfl, rfl, hod⟩
  exact HandSPX.exc_get I1.kIn J xf.ga xf.gg xf.exC (PySem.W.findObj_own xf.hdC hno rfl (by rw [hlk, hu])) (handed_of ru) ⟨v, H1, I1.tok _, ru, q⟩
end
/-! ### facts of the written part, by one kernel run each -/
/-- a written tuple of texts -/
def strOf : Value → Option Str
  | .str x _ => some x
  | _ => none
def tupB (K : PySem.W.Frag) (a : Addr) (ws : List Str) : Bool := match K.lookup a with
  | some o => decide (o.cls = .type "tuple") && (match o.data with
    | .seq its _ => decide (its.size ≤ 1000) && decide (its.toList.map strOf = ws.map some)
    | _ => false)
  | none => false
theorem vals_str : ∀ {us : List Value} {ws : List Str}, us.map strOf = ws.map some → Vals (ws.map V.str) us
  | [], [], _ => .nil
  | [], _ :: _, h => nomatch h
  | _ :: _, [], h => nomatch h
  | u :: us, w :: ws, h => by
    rw [List.map_cons, List.map_cons] at h
    obtain ⟨h1, h2⟩ := List.cons.inj h
    refine .cons ?_ (vals_str h2)
    cases u with
    | str x t =>
      have e : x = w := Option.some.inj h1
      subst e
      exact ⟨t, rfl⟩
    | _ => exact nomatch h1
theorem tupB_ok {K : PySem.W.Frag} {a : Addr} {ws : List Str} (h : tupB K a ws = true) (H : Hp) : SqT K H a (ws.map V.str) := by
  unfold tupB at h
  split at h
  · rename_i o ho
    rw [Bool.and_eq_true] at h
    obtain ⟨h1, h2⟩ := h
    split at h2
    · rename_i its n hd
      rw [Bool.and_eq_true] at h2
      exact .inr ⟨o, its, n, ho, of_decide_eq_true h1, hd, sz (Nat.le_trans (of_decide_eq_true h2.1) (by decide)), vals_str (of_decide_eq_true h2.2)⟩
    · cases h2
  · cases h
/-- the refusals among one another, and under the first of them -/
def kitsB (K : PySem.W.Frag) (t : Addr) (cs : List Addr) : Bool := (List.range cs.length).all fun i => decide (PySem.W.kitOne K (.ref (cs.getD i 0)) (.ref t) = some true) && (List.range cs.length).all fun j => decide (PySem.W.kitOne K (.ref (cs.getD i 0)) (.ref (cs.getD j 0)) = some (decide (i = j)))
theorem kitsB_top {K : PySem.W.Frag} {t : Addr} {cs : List Addr} (h : kitsB K t cs = true) {i : Nat} (hi : i < cs.length) : PySem.W.kitOne K (.ref (cs.getD i 0)) (.ref t) = some true := by
  unfold kitsB at h
  have z := List.all_eq_true.mp h i (List.mem_range.mpr hi)
  rw [Bool.and_eq_true] at z
  exact of_decide_eq_true z.1
theorem kitsB_two {K : PySem.W.Frag} {t : Addr} {cs : List Addr} (h : kitsB K t cs = true) {i j : Nat} (hi : i < cs.length) (hj : j < cs.length) : PySem.W.kitOne K (.ref (cs.getD i 0)) (.ref (cs.getD j 0)) = some (decide (i = j)) := by
  unfold kitsB at h
  have z := List.all_eq_true.mp h i (List.mem_range.mpr hi)
  rw [Bool.and_eq_true] at z
  exact of_decide_eq_true (List.all_eq_true.mp z.2 j (List.mem_range.mpr hj))
def dws : List Str := ["new", "put", "paint", "tie", "cut", "add", "spread"]

end My
namespace My
open PySem PySem.Spec PyProof.Rows L2
/-! ### an exception caught and kept -/
/-- at a stands an exception of the class cls that was raised -/
def ExC (cls : Value) (d : Option Addr) (a : Addr) : HO := .ext fun h => ∃ (oe : Obj) (vs : Array Value), h.get? a = some oe ∧ Zc cls d oe ∧ oe.data = .fields vs
theorem exC_ok {P : Program} {w : World} {H : Hp} {h : Heap} {a : Addr} {cls : Value} {d : Option Addr} {oe : Obj} {vs : Array Value} (e : h.get? a = some oe) (z : Zc cls d oe) (dd : oe.data = .fields vs) : ObjOk P w H h a (ExC cls d a) := by
  refine ⟨⟨oe, vs, e, z, dd⟩, ⟨oe, e⟩, ?_⟩
  rintro h1 h2 ⟨o, v, e1, z1, d1⟩ st
  exact ⟨o, v, st _ e1, z1, d1⟩
/-- what stood nowhere at sI is none of the context's own: it may be tracked -/
theorem inv_seen {X : Cx} {pins : List (Addr × Obj)} {σI σ : L2.St} {HI H : Hp} {sI s : Shared} {a : Addr} {o : HO} (J : Inv X pins σI HI sI) (new : sI.heap.get? a = none) (I : Inv X pins σ H s) (na : H a = none) (ok : ObjOk X.prog X.w (upd H a o) s.heap a o) :
    Inv X pins σ (upd H a o) s := by
  have old : ∀ {b : Addr} {ob : Obj}, sI.heap.get? b = some ob → upd H a o b = H b := fun {b ob} e => upd_ne fun z => by
    rw [z, new] at e
    cases e
  have trk : ∀ {b : Addr} {u : HO}, H b = some u → upd H a o b = some u := fun {b u} e => (upd_ne (ne_of_none e na)).trans e
  refine ⟨I.ok, I.os, I.bare, ⟨I.base.keep, I.base.slot, ?_, I.base.there, ?_, ?_, ?_⟩, I.loc, I.cell, ?_, ?_, ?_, ?_, I.len⟩
  · intro b ob e nb hx
    obtain ⟨o', e'⟩ := J.base.there b ob e hx
    rw [old e']
    exact I.base.free b ob e nb hx
  · intro b xs e
    exact trk (I.base.tups b xs e)
  · intro b ob u e
    exact trk (I.base.frzs b ob u e)
  · intro b ps e
    obtain ⟨more, q⟩ := I.base.tbls b ps e
    exact ⟨more, trk q⟩
  · obtain ⟨m, ⟨ol, _, _, el, _⟩, _⟩ := J.loc
    rw [old el]
    exact I.free
  · intro y c e
    obtain ⟨v, oc, ec, _⟩ := J.cell y c e
    rw [old ec]
    exact I.freeC y c e
  · intro p hp
    obtain ⟨p1, p2, p3⟩ := I.pin p hp
    exact ⟨p1, (old (J.pin p hp).1).trans p2, p3⟩
  · intro b u e
    by_cases hb : b = a
    · subst hb
      rw [upd_same] at e
      cases e
      exact ok
    · rw [upd_ne hb] at e
      exact (I.hok b u e).stay (fun _ _ _ q => q) (fun _ q => trk q) fun _ _ q => trk q
/-- what 'except x as n' wishes, the exception kept behind it -/
def wKeep (K : PySem.W.Frag) (c : Value) (i : Nat) (ts : Addr → TS) (D : Ends) : WX := fun cls d σ H =>
  PySem.W.exmOne K cls c = some true ∧ ∀ a, H a = none → ts a { nx := fun σ' H' => H' a = none ∧ D.nx (σ'.set i none) (upd H' a (ExC cls d a)), rt := fun _ _ => False, bk := fun _ _ => False, ct := fun _ _ => False } (σ.set i (some (.ref a))) H
theorem ps_try_keep {X : Cx} {x n : Str} {c : Value} {i : Nat} {body suite : List Stmt} {b0 : Stmt} {np pos pos' : Pos} {tb : WX → TS} {ts : Addr → TS} (stk : X.stack = X.env :: X.outer) (frm : X.env.frame = some X.env.locals) (nd : X.N.Nodup) (hi : X.N[i]? = some n) (loc : X.env.kindOf n = some .local) (nm : Names X x c)
    (hb : ∀ (W : WX) (pn : List (Addr × Obj)) (xe : Value → Shared → Prop), Takes (X.tr pn xe) W → PSs (X.tr pn xe) body (tb W))
    (hsu : ∀ (a : Addr) (pn : List (Addr × Obj)), PSs (X.suite a pn) (b0 :: suite) (ts a)) :
    PS X (.Try body [.ExceptHandler (some (.Name x np)) (some n) (b0 :: suite) pos'] [] [] pos) (fun D σ H => tb (wKeep X.K c i ts D) D σ H) := by
  constructor
  intro pins s σ H D I h
  have frs' : X.A.frames = some (X.env :: X.outer) := by rw [I.ok.frames, stk]
  refine wpAny_Try_except (wpAny_mono ((hb (wKeep X.K c i ts D) (X.pn ++ pins) _ fun u s' ex => ?_).run [] s σ H D (I.toTry _) h) (fun f s1 sp => ?_) fun e s1 q => q)
  · obtain ⟨a, B, sI, pins', σ', H', cls, d, rfl, JT, nb, up, sky, na, os, ag, hm, go⟩ := ex
    have J : Inv X pins σ' H' sI := JT.ofTry I.ok
    have sky2 : Sky B (X.env :: X.outer) a (Zc cls d) X.env.locals s'.heap := stk ▸ sky
    refine Sky.land Zc.steady frs' frm sky2 fun h3 fl3 up3 => ?_
    have J3 : Inv X pins σ' H' { s' with heap := h3 } := J.landed nb fl3.1 (up.trans up3) os ag
    have away : ∀ {hp : Heap} {o : Obj} {vs : Array Value}, hp.FunFrames B (X.env :: X.outer) → hp.get? a = some o → o.data = .fields vs → a ∉ frs (X.env :: X.outer) := fun {hp o vs} ff e dd m => by
      obtain ⟨_, o', e', nf⟩ := ff.mem m
      rw [e] at e'
      cases e'
      exact nf _ dd
    obtain ⟨oe3, vs3, he3, hz3, hd3⟩ := fl3.there
    have nfr := away fl3.2.2.1 he3 hd3
    have nl : a ≠ X.env.locals := fun z => nfr (List.mem_filterMap.mpr ⟨X.env, List.mem_cons_self, by rw [frm, z]⟩)
    have nfs : a ∉ X.fs := fun m => by
      obtain ⟨e, he, q⟩ := List.mem_filterMap.mp m
      exact nfr (List.mem_filterMap.mpr ⟨e, List.mem_cons_of_mem _ he, q⟩)
    have newI : sI.heap.get? a = none := by
      cases q : sI.heap.get? a with
      | none => rfl
      | some ob =>
        have z := nb a ob q (by rw [stk]; exact nfr)
        rw [fl3.2.1] at z
        cases z
    have S3 := J3.suite he3 hd3 na nl nfs
    refine wpAny_handleBy_cons (codeAny_handlers_test ?_) (fun z => nomatch z)
    have name : ∀ {Q' : Value → Shared → Prop} {E' : Value → Shared → Prop}, Q' c { s' with heap := h3 } → wpAny (model X.prog X.w) (X.A.mark (some (.ref a))) (eval (.Name x np) X.env) Q' E' { s' with heap := h3 } := fun {Q' E'} q => by
      obtain ⟨gl, dbg, hit | ⟨miss, bt, nn⟩⟩ := nm
      · exact ld_glob (X := X.suite a ((a, oe3) :: (X.pn ++ pins))) S3 gl hit q dbg
      · exact ld_blt (X := X.suite a ((a, oe3) :: (X.pn ++ pins))) S3 gl miss bt q nn dbg
    have looks : PySem.W.Looks (model X.prog X.w) h3 (typeOf (.ref a)) cls := fun A' Q' E' t k q => wpAny_typeOf_ref (k _ _ he3) (hz3.1.symm ▸ q)
    refine name ((PySem.W.exm_one (M := model X.prog X.w) J3.kIn looks hm).here (codeAny_handlers_suite_as (HandSPX.lands_againZ fl3 fun h4 fl4 up4 => ?_)))
    · have J4 : Inv X pins σ' H' { s' with heap := h4 } := J.landed nb fl4.1 ((up.trans up3).trans up4) os ag
      obtain ⟨oe4, vs4, he4, hz4, hd4⟩ := fl4.there
      refine store_ok (X := X.suite a ((a, oe4) :: (X.pn ++ pins))) (v := .ref a) (J4.suite he4 hd4 na nl nfs) nd hi (.inl loc) rfl (fun s5 S5 => ?_) (.inr loc)
      refine wpAny_mono ((hsu a ((a, oe4) :: (X.pn ++ pins))).run [] s5 _ H' _ S5 (go a na)) (fun f s6 sp => ?_) fun _ _ z => (show False from z).elim
      cases f with
      | next =>
        obtain ⟨σ6, H6, S6, n6, q6⟩ := sp
        refine gone_ok (X := X.suite a ((a, oe4) :: (X.pn ++ pins))) S6 nd hi loc fun s7 S7 => ?_
        have at7 := (S7.pin (a, oe4) (List.mem_append_left _ List.mem_cons_self)).1
        exact ⟨_, _, inv_seen J newI (S7.unsuite I.ok) n6 (exC_ok at7 hz4 hd4), q6⟩
      | brk =>
        obtain ⟨_, _, _, z⟩ := sp
        exact (show False from z).elim
      | cont =>
        obtain ⟨_, _, _, z⟩ := sp
        exact (show False from z).elim
      | ret u =>
        obtain ⟨_, _, _, _, _, z⟩ := sp
        exact (show False from z).elim
  · cases f with
    | next =>
      obtain ⟨σ', H', J, q⟩ := sp
      exact wpAny_execs_nil ⟨σ', H', J.ofTry I.ok, q⟩
    | brk =>
      obtain ⟨σ', H', J, q⟩ := sp
      exact ⟨σ', H', J.ofTry I.ok, q⟩
    | cont =>
      obtain ⟨σ', H', J, q⟩ := sp
      exact ⟨σ', H', J.ofTry I.ok, q⟩
    | ret u =>
      obtain ⟨v, σ', H', J, r, q⟩ := sp
      exact ⟨v, σ', H', J.ofTry I.ok, r, q⟩

/-! ### a lambda of one parameter -/
structure LamP (sc scope : Scope) (p : Str) : Prop where
  kind : scope.kind = .function
  co : scope.isCoroutine = false
  gen : scope.isGenerator = false
  par : scope.names.lookup p = some .local
  own : ∀ y ∈ scope.names, y.2 ≠ .cell ∧ (y.2 = .local → y.1 = p)
  free : ∀ y ∈ scope.names, y.2 = .free → sc.names.lookup y.1 = some .cell ∨ sc.names.lookup y.1 = some .free
def lamPB (sc scope : Scope) (p : Str) : Bool := decide (scope.kind = .function) && (!scope.isCoroutine && (!scope.isGenerator && (decide (scope.names.lookup p = some .local) && scope.names.all fun y => !decide (y.2 = .cell) && ((!decide (y.2 = .local) || decide (y.1 = p)) && (!decide (y.2 = .free) || (decide (sc.names.lookup y.1 = some .cell) || decide (sc.names.lookup y.1 = some .free)))))))
theorem lamP_by {sc scope : Scope} {p : Str} (h : lamPB sc scope p = true) : LamP sc scope p := by
  unfold lamPB at h
  simp only [Bool.and_eq_true, Bool.or_eq_true, Bool.not_eq_true', decide_eq_true_eq, decide_eq_false_iff_not, List.all_eq_true] at h
  obtain ⟨h1, h2, h3, h4, h5⟩ := h
  refine ⟨h1, h2, h3, h4, fun y hy => ⟨(h5 y hy).1, fun e => ?_⟩, fun y hy e => ?_⟩
  · rcases (h5 y hy).2.1 with z | z
    · exact absurd e z
    · exact z
  · rcases (h5 y hy).2.2 with z | z
    · exact absurd e z
    · exact z
theorem LamP.has {X : Cx} {scope : Scope} {p : Str} (L : LamP X.env.scope scope p) (ok : X.Ok) {y : Str × NameKind} (hy : y ∈ scope.names) (e : y.2 = .free) : ∃ c, X.env.cells.lookup y.1 = some c := ok.has _ (L.free y hy e)
/-- the context of its body -/
def cxP (X : Cx) (A : Around) (outer : List Env) (s : Shared) (H : Hp) (E : XK) (scope : Scope) (p : Str) (f c' : Addr) : Cx := { LamX.lamCx X A outer s H E scope f c' with N := X.N ++ [p] }
section
variable {X : Cx} {pins : List (Addr × Obj)} {σ : L2.St} {H HZ : Hp} {s s1 : Shared} {A : Around} {outer : List Env} {E : XK} {scope : Scope} {p : Str} {f c' : Addr}
theorem lamP_start {h1 : Heap} {tk : Nat} {v : V} {u : Value} (I : Inv X pins σ H s) (L : LamP X.env.scope scope p) (np : ∀ (i : Nat) (v : V), X.N[i]? = some p → σ[i]? = some (some v) → False) (e0 : Env0 X.prog X.w X.K X.mg X.base A outer s1 HZ) (calm : A.handled = none)
    (un : Un (frs X.stack) [] H HZ s.heap s1.heap) (ns : h1.Ns s1.heap.objs.size fun y => ([(p, u)] : List (Str × Value)).reverse.lookup y) (kp : ∀ b o, s1.heap.get? b = some o → h1.get? b = some o) (r : RelV v u) :
    Inv (cxP X A outer s1 HZ E scope p f c') [] (σ ++ [some v]) HZ { s1 with heap := h1, toks := tk } := by
  -- the closure's cells are the maker's
  have back : ∀ {y : Str} {c : Addr}, (cloFrom X.env.cells scope.names []).lookup y = some c → X.env.cells.lookup y = some c := fun {y c} e => by
    rcases cloFrom_mem (PySem.mem_of_lookup e) with z | ⟨z, ec⟩
    · cases z
    · obtain ⟨c1, e1⟩ := L.has I.ok z rfl
      rw [ec, e1]
      rfl
  have fwd : ∀ {y : Str}, scope.names.lookup y = some .free → ∃ c, (cloFrom X.env.cells scope.names []).lookup y = some c := fun {y} e =>
    mem_lookup (cloFrom_has (cells := X.env.cells) (acc := []) (show (y, NameKind.free) ∈ scope.names from PySem.mem_of_lookup e))
  have cellOn : ∀ {c : Addr} {x : Option Value}, H c = none → s.heap.IsCell c x → h1.IsCell c x := fun {c x} n z => by
    obtain ⟨o, ho, hd⟩ := z
    obtain ⟨sl, q⟩ := un.any ho n (fun z => nomatch z)
    exact ⟨_, kp _ _ q, hd⟩
  have noCell : ∀ {y : Str}, scope.names.lookup y ≠ some .cell := fun {y} e => (L.own _ (PySem.mem_of_lookup e)).1 rfl
  have isOwn : ∀ {y : Str}, scope.names.lookup y = some .local → y = p := fun {y} e => (L.own _ (PySem.mem_of_lookup e)).2 rfl
  have ok : (cxP X A outer s1 HZ E scope p f c').Ok :=
    { mod := e0.mod
      kind := L.kind
      glob := rfl
      blt := rfl
      above := Nat.le_refl _
      inj := fun y z c e1 e2 => I.ok.inj y z c (back e1) (back e2)
      has := fun y hy => by
        rcases hy with hy | hy
        · exact absurd hy noCell
        · exact fwd hy
      cab := fun y c z _ => absurd (show false = true from z) Bool.false_ne_true
      hd := fun _ => calm
      frames := Around.frames_deeper e0.frames
      stk := .inr ⟨rfl, rfl⟩
      exf := fun b z => absurd (show b ∈ ([] : List Addr) from z) List.not_mem_nil
      bs := e0.bs
      bsz := e0.bsz
      noex := fun b _ _ z => absurd (show b ∈ ([] : List Addr) from z) List.not_mem_nil
      exfs := fun b z => absurd (show b ∈ ([] : List Addr) from z) List.not_mem_nil
      funs := e0.funs
      frf := e0.frf }
  refine ⟨ok, rfl, e0.bare, Un.kept kp, ⟨_, ns, fun i y x e1 e2 e3 => ?_⟩, fun y c e => ?_, e0.hok.fresh (Nat.le_refl _), fun y c e => ?_, fun q hq => absurd (show q ∈ ([] : List (Addr × Obj)) ++ [] from hq) List.not_mem_nil, e0.hok.kept kp, ?_⟩
  · have e1 : (X.N ++ [p])[i]? = some y := e1
    have e3 : Vis scope y := e3
    have ll : σ.length = X.N.length := I.len
    by_cases lt : i < X.N.length
    · rw [List.getElem?_append_left lt] at e1
      rw [List.getElem?_append_left (by rw [ll]; exact lt)] at e2
      have ny : y ≠ p := fun z => np i x (z ▸ e1) e2
      rcases e3 with k | k | k
      · exact absurd (isOwn k) ny
      · exact absurd k noCell
      · obtain ⟨m, _, at_⟩ := I.loc
        have fr := L.free _ (PySem.mem_of_lookup k) rfl
        obtain ⟨u', r', q⟩ := at_ i y x e1 e2 (.inr fr)
        obtain ⟨c, ec⟩ := fwd k
        refine ⟨u', r', .inr ⟨.inr k, c, ec, ?_⟩⟩
        rcases q with ⟨k', _⟩ | ⟨_, c2, ec2, z⟩
        · have k' : X.env.scope.names.lookup y = some .local := k'
          rcases fr with k2 | k2
          · rw [k'] at k2
            cases k2
          · rw [k'] at k2
            cases k2
        · rw [back ec] at ec2
          cases ec2
          exact cellOn (I.freeC y c (back ec)) z
    · have ge : X.N.length ≤ i := Nat.le_of_not_lt lt
      rw [List.getElem?_append_right ge] at e1
      rw [List.getElem?_append_right (by rw [ll]; exact ge), ll] at e2
      cases hi : i - X.N.length with
      | zero =>
        rw [hi] at e1 e2
        have ey : p = y := Option.some.inj e1
        have ev : v = x := Option.some.inj (Option.some.inj e2)
        subst ey ev
        refine ⟨u, r, .inl ⟨L.par, ?_⟩⟩
        show ([(p, u)] : List (Str × Value)).lookup p = some u
        rw [List.lookup_cons, beq_self_eq_true]
      | succ n =>
        rw [hi] at e1
        cases e1
  · obtain ⟨x, z⟩ := I.cell y c (back e)
    exact ⟨x, cellOn (I.freeC y c (back e)) z⟩
  · obtain ⟨x, o, ho, _⟩ := I.cell y c (back e)
    exact un.free c o ho (I.freeC y c (back e)) (fun z => nomatch z)
  · show (σ ++ [some v]).length = (X.N ++ [p]).length
    rw [List.length_append, List.length_append, I.len]
    rfl
/-- the lambda at f called with one thing, at any time behind its making -/
theorem lamP_run {k : Nat} {params : Arguments} {b : Expr} {pm ctv : Value} {tb : TE} {v : V} {u : Value} {Q : VK} (I : Inv X pins σ H s) (L : LamP X.env.scope scope p) (np : ∀ (i : Nat) (v : V), X.N[i]? = some p → σ[i]? = some (some v) → False)
    (hf : s.heap.get? f = some (PySem.W.kla_obj "<lambda>" (X.env.qual ++ "<lambda>") params b scope (cloFrom X.env.cells scope.names []) pm c' ctv)) (hfn : H f = none) (hfr : f ∉ frs X.stack)
    (bind : ∀ u, bindArgs (PySem.W.kla_fn "<lambda>" (X.env.qual ++ "<lambda>") params b scope (cloFrom X.env.cells scope.names []) pm (.ref c') ctv) ⟨[u], []⟩ = pure [(p, u)]) (room : Room (k + 1) A) (e0 : Env0 X.prog X.w X.K X.mg X.base A outer s1 HZ)
    (un : Un (frs X.stack) [] H HZ s.heap s1.heap) (code : HZ c' = some (LamX.CodeO c' (X.env.qual ++ "<lambda>"))) (body : ∀ (A : Around) (outer : List Env) (s : Shared) (H : Hp), Room k (A.deeper (LamX.lamEnv X scope s.heap.objs.size f c')) → PE (cxP X A outer s H E scope p f c') b tb)
    (r : RelV v u) (t : tb (σ ++ [some v]) HZ Q) : codeAny (model X.prog X.w) A (.call (.ref f) ⟨[u], []⟩) (CR (L2.CX X.prog X.w) outer X.prog X.w HZ s1 Q E) s1 := by
  have here := un.keep f _ hf hfn hfr (fun z => nomatch z)
  obtain ⟨⟨oc, vs, tk, ho, hd, hv⟩, _, _⟩ := e0.hok c' _ code
  refine PySem.W.kla_callFunE room.depth here rfl L.co L.gen rfl ⟨c', oc, vs, tk, rfl, ho, hd, hv⟩ ?_
  rw [bind u]
  refine wpAny_pure (wpAny_newFunctionEnv (fun y hy => (L.own y hy).1) (fun y hy => ?_) (fun h1 ns sb => ⟨?_, ?_⟩) L.kind)
  · rw [List.mem_singleton.mp hy]
    exact L.par
  · have kin : s1.heap.NoLimit := e0.mod.nolimit.keeps fun b o e => (e0.bs b o e).1
    exact kin.fresh _ sb
  · have kp : ∀ b o, s1.heap.get? b = some o → h1.get? b = some o := fun b o e => sb.extBut b o (Nat.ne_of_lt (Heap.lt_size e)) (Heap.get?_push_of_some _ e)
    have J := lamP_start (E := E) (f := f) (c' := c') (tk := s1.toks + ([(p, u)] : List (Str × Value)).length) I L np e0 room.hd un ns kp r
    show codeAny _ _ (.expr b (LamX.lamEnv X scope s1.heap.objs.size f c')) _ _
    refine PySem.W.kla_codeExpr (wpAny_mono ((body _ _ s1 HZ (room.deeper _)).run [] _ _ HZ Q J t) (fun w' s' z => ?_) fun e s' z => z)
    obtain ⟨x, H', J', rx, q⟩ := z
    exact ⟨x, H', J'.os, J'.bare, J'.base, J'.hok, rx, q⟩
end
/-! ### it is called by the def that got it -/
/-- that def's context, entered at s -/
abbrev gotCx (X : Cx) (Ng : List Str) (x : Str) (sg : Scope) (g : Addr) (cdg : Value) (s : Shared) (H : Hp) : Cx := cxOf CX0 X.prog X.w X.K X.mg X.base Ng x sg g cdg X.A X.stack s H E0
/-- a(e), a's slot the i-th: e's reading, then the lambda's of e's value -/
def tAct (i : Nat) (f c' : Addr) (q : Str) (ta : TA) (W : WX) (tl : XK → V → Hp → VK → Prop) : TE := fun σ H Q => σ[i]? = some (some (.ref f)) ∧ ta σ H fun vs H1 => ∃ v, vs = [v] ∧ H1 c' = some (LamX.CodeO c' q) ∧ tl (fun cls d H' => W cls d σ H') v H1 Q
theorem pe_actP {X : Cx} {pins : List (Addr × Obj)} {σ : L2.St} {H : Hp} {s : Shared} {scope : Scope} {p x a : Str} {f c' g : Addr} {k i : Nat} {params : Arguments} {b e : Expr} {pm ctv cdg : Value} {tb : XK → TE} {ta : TA} {Ng : List Str} {sg : Scope} {pn : List (Addr × Obj)} {xe : Value → Shared → Prop} {W : WX} {p1 p2 : Pos}
    (I : Inv X pins σ H s) (L : LamP X.env.scope scope p) (np : ∀ (i : Nat) (v : V), X.N[i]? = some p → σ[i]? = some (some v) → False) (hf : s.heap.get? f = some (PySem.W.kla_obj "<lambda>" (X.env.qual ++ "<lambda>") params b scope (cloFrom X.env.cells scope.names []) pm c' ctv)) (hfn : H f = none) (hfr : f ∉ frs X.stack)
    (bind : ∀ u, bindArgs (PySem.W.kla_fn "<lambda>" (X.env.qual ++ "<lambda>") params b scope (cloFrom X.env.cells scope.names []) pm (.ref c') ctv) ⟨[u], []⟩ = pure [(p, u)])
    (tk : Takes ((gotCx X Ng x sg g cdg s H).tr pn xe) W) (room : Room (k + 1) (X.A.deeper (envOfC x sg s.heap.objs.size g cdg)))
    (body : ∀ (A : Around) (outer : List Env) (s : Shared) (H : Hp) (E : XK), Room k (A.deeper (LamX.lamEnv X scope s.heap.objs.size f c')) → PE (cxP X A outer s H E scope p f c') b (tb E))
    (at_ : Ng[i]? = some a) (vis : Vis sg a) (args : PA ((gotCx X Ng x sg g cdg s H).tr pn xe) [e] ta)
    (star : starEach [e] ((gotCx X Ng x sg g cdg s H).tr pn xe).env = (false, eval e ((gotCx X Ng x sg g cdg s H).tr pn xe).env) :: starEach [] ((gotCx X Ng x sg g cdg s H).tr pn xe).env := by rfl)
    (d1 : (a == ("__debug__" : Str)) = false := by decide) (d2 : (a == ("__classdict__" : Str)) = false := by decide) :
    PE ((gotCx X Ng x sg g cdg s H).tr pn xe) (.Call (.Name a p1) [e] [] p2) (tAct i f c' (X.env.qual ++ "<lambda>") ta W fun E v H1 Q => tb E (σ ++ [some v]) H1 Q) := by
  constructor
  intro pz sz σz Hz Q Iz h
  obtain ⟨slot, ht⟩ := h
  refine wpAny_Call_Name_kw (thn ((pe_var (pos := p1) (i := i) at_ vis d1 d2).run pz sz σz Hz (fun v H1 => v = .ref f ∧ H1 = Hz) Iz ⟨.ref f, slot, rfl, rfl⟩) fun u s1 z => ?_)
  obtain ⟨v0, H1, I1, r1, rfl, rfl⟩ := z
  obtain rfl : u = Value.ref f := r1
  have still : ∀ {σ' : L2.St} {H' : Hp} {s' : Shared}, Inv ((gotCx X Ng x sg g cdg s H).tr pn xe) pz σ' H' s' → s'.heap.get? f = some (PySem.W.kla_obj "<lambda>" (X.env.qual ++ "<lambda>") params b scope (cloFrom X.env.cells scope.names []) pm c' ctv) := fun J => J.base.keep f _ hf hfn hfr (fun z => nomatch z)
  refine PySem.W.callWith_F ⟨_, _, _, _, still I1⟩ (thn (args.run p2 pz s1 σz H1 _ I1 ht) fun us s2 z => ?_) star rfl
  obtain ⟨vs, H2, I2, rv, v, rfl, hc, tl⟩ := z
  obtain ⟨u, rfl, ru⟩ := vals1 rv
  have e2 : Env0 X.prog X.w X.K X.mg X.base (X.A.deeper (envOfC x sg s.heap.objs.size g cdg)) (envOfC x sg s.heap.objs.size g cdg :: X.stack) s2 H2 := I2.env0
  have un : Un (frs X.stack) [] H H2 s.heap s2.heap := I2.base
  have run := lamP_run (X := X) (E := fun cls d H' => W cls d σz H') (k := k) (u := u) (Q := Q) I L np hf hfn hfr bind room e2 un hc (fun A outer s H rm => body A outer s H _ rm) ru tl
  refine ⟨⟨_, _, _, _, still I2⟩, wpAny_call (codeAny_mono run fun res s3 z => ?_)⟩
  cases res with
  | error er => exact tk er s3 (XE.of_call I2 (fun _ _ _ w => w) z)
  | ok fl =>
    cases fl with
    | ret u' => exact I2.after z
    | next => exact (show False from z).elim
    | brk => exact (show False from z).elim
    | cont => exact (show False from z).elim
/-- what the def makes of the lambda's reading tl and of the thing v: TT -/
def GivesP (X : Cx) (k : Nat) (Ng : List Str) (x : Str) (sg : Scope) (g : Addr) (cdg : Value) (bg : List Stmt) (a : Str) (q : Str) (TT : V → (XK → V → Hp → VK → Prop) → Hp → VK → Prop) : Prop :=
  ∀ (f c' : Addr) (v : V) (s : Shared) (H : Hp) (Q : VK) (tl : XK → V → Hp → VK → Prop), Room k (X.A.deeper (envOfC x sg s.heap.objs.size g cdg)) →
    (∀ (W : WX) (pn : List (Addr × Obj)) (xe : Value → Shared → Prop) (p1 p2 : Pos) (e : Expr) (ta : TA), Takes ((gotCx X Ng x sg g cdg s H).tr pn xe) W → PA ((gotCx X Ng x sg g cdg s H).tr pn xe) [e] ta →
      starEach [e] ((gotCx X Ng x sg g cdg s H).tr pn xe).env = (false, eval e ((gotCx X Ng x sg g cdg s H).tr pn xe).env) :: starEach [] ((gotCx X Ng x sg g cdg s H).tr pn xe).env →
      PE ((gotCx X Ng x sg g cdg s H).tr pn xe) (.Call (.Name a p1) [e] [] p2) (tAct 0 f c' q ta W tl)) →
    H c' = some (LamX.CodeO c' q) → TT v tl H Q →
    ∃ t, PSs (gotCx X Ng x sg g cdg s H).nox bg t ∧ t { nx := fun _ H' => Q .non H', rt := Q } (L2.start Ng [.ref f, v]) H
/-- the lambda is made: all but the table at P is as it was -/
theorem lam_new {X : Cx} {pins : List (Addr × Obj)} {σ : L2.St} {H : Hp} {s : Shared} {c P : Addr} {params : Arguments} {b : Expr} {scope : Scope} {pos : Pos} {E Q : Value → Shared → Prop} (J : Inv X pins σ H s) (tab : LamX.TabB X.base X.mg c P) (own : X.env.code = .ref c)
    (t0 : LamX.TabS H P (X.env.qual ++ "<lambda>")) (nodef : defaultsOf params X.env = ([], [])) (has : ∀ y ∈ scope.names, y.2 = .free → ∃ c, X.env.cells.lookup y.1 = some c)
    (go : ∀ (f c' : Addr) (pm ctv : Value) (H1 : Hp) (s1 : Shared), Inv X pins σ H1 s1 → But P H H1 → LamX.TabS H1 P (X.env.qual ++ "<lambda>") → s1.heap.get? f = some (PySem.W.kla_obj "<lambda>" (X.env.qual ++ "<lambda>") params b scope (cloFrom X.env.cells scope.names []) pm c' ctv) →
      H1 f = none → f ∉ frs X.stack → H1 c' = some (LamX.CodeO c' (X.env.qual ++ "<lambda>")) → Q (.ref f) s1) : wpAny (model X.prog X.w) X.A (eval (.Lambda params b scope pos) X.env) Q E s := by
  have seen := t0
  obtain ⟨ps, atP, tri, each⟩ := seen
  have blt : s.heap.BuiltinsAt X.mg P := tab.bm.keeps J.bk
  have objP : s.heap.get? P = some { cls := .none, data := .fields ps } := J.hok P _ atP
  have far : ∀ f, s.heap.objs.size ≤ f → f ∉ frs X.stack := fun f le m => by
    rcases List.mem_cons.mp (J.stkSub _ m) with e | e
    · have lt := J.lt
      rw [← e] at lt
      exact absurd (Nat.lt_of_lt_of_le lt le) (Nat.lt_irrefl _)
    · exact J.nofs le e
  refine PySem.W.kla_eval nodef ?_
  cases found : codeAmong pos ps.toList with
  | some cv =>
    obtain ⟨c', rfl, here⟩ := each pos cv found
    refine PySem.W.kla_makeFunctionHit (P := P) (c := c) (mg := X.mg) (ps := ps) (closure_ok has) J.ok.glob (J.mod.glob.keeps J.bk) own (tab.code.keeps J.bk) objP tri found blt fun ctv h' tk kept le => ?_
    have J1 : Inv X pins σ H { s with heap := h'.push (PySem.W.kla_obj "<lambda>" (X.env.qual ++ "<lambda>") params b scope (cloFrom X.env.cells scope.names []) ((X.mg "__name__").getD .none) c' ctv), toks := tk } := J.kept fun _ _ e => Heap.get?_push_of_some _ (kept _ _ e)
    exact go _ c' _ ctv H _ J1 .refl t0 (Heap.get?_push_size _ rfl) (J.hok.fresh le) (far _ le) here
  | none =>
    refine PySem.W.kla_makeFunction (P := P) (c := c) (mg := X.mg) (ps := ps) (closure_ok has) J.ok.glob (J.mod.glob.keeps J.bk) own (tab.code.keeps J.bk) objP tri found tab.gP blt fun c' ctv h' tk kept ge lt rec_ grown => ?_
    obtain ⟨c2, oc, vs, tk2, e2, atC, dat, nm⟩ := rec_
    cases e2
    have le : s.heap.objs.size ≤ h'.objs.size := Nat.le_trans ge (Nat.le_of_lt lt)
    have newC : H c' = none := J.hok.fresh ge
    have J1 := LamX.inv_table (t' := tk) (more := #[rawInt pos.line, rawInt pos.col, .ref c']) (h' := h'.push (PySem.W.kla_obj "<lambda>" (X.env.qual ++ "<lambda>") params b scope (cloFrom X.env.cells scope.names []) ((X.mg "__name__").getD .none) c' ctv)) J atP
      (fun _ _ nb e => Heap.get?_push_of_some _ (kept _ _ nb e)) (Heap.get?_push_of_some _ grown) ge ⟨oc, vs, tk2, Heap.get?_push_of_some _ atC, dat, nm⟩
    have but : But P H (upd (upd H P (.tbl (ps ++ #[rawInt pos.line, rawInt pos.col, .ref c']))) c' (LamX.CodeO c' (X.env.qual ++ "<lambda>"))) := fun d o e n => by
      rw [upd_ne (ne_of_none e newC), upd_ne n]
      exact e
    have toL : (ps ++ #[rawInt pos.line, rawInt pos.col, .ref c']).toList = ps.toList ++ [rawInt pos.line, rawInt pos.col, .ref c'] := by simp
    have away : ∀ {d : Addr} {q : Str}, H d = some (LamX.CodeO d q) → d ≠ P := fun {d q} e z => by
      rw [z, atP] at e
      exact LamX.codeO_ne ps (Option.some.inj e).symm
    refine go h'.objs.size c' _ ctv _ _ J1 but ⟨ps ++ #[rawInt pos.line, rawInt pos.col, .ref c'], ?_, ?_, fun p' cv among => ?_⟩ (Heap.get?_push_size _ rfl) ?_ (far _ le) upd_same
    · rw [upd_ne (ne_of_none atP newC), upd_same]
    · rw [toL]
      exact PySem.TriplesOk_snoc _ _ _ _ tri
    · rw [toL] at among
      rcases LamX.among_app _ tri among with z | z
      · obtain ⟨c0, e1, e2⟩ := each p' cv z
        exact ⟨c0, e1, but _ _ e2 (away e2)⟩
      · exact ⟨c', z, upd_same⟩
    · rw [upd_ne (Nat.ne_of_gt lt), upd_ne (Nat.ne_of_gt (Nat.lt_of_lt_of_le (Heap.lt_size objP) le))]
      exact J.hok.fresh le
def tLamP (P : Addr) (qn : Str) (TT : V → (XK → V → Hp → VK → Prop) → Hp → VK → Prop) (t : XK → TE) (ta : TA) : TE := fun σ H Q => LamX.TabS H P qn ∧ ∀ H1, But P H H1 → LamX.TabS H1 P qn → ta σ H1 fun vs H2 => ∃ v, vs = [v] ∧ LamX.ExtN H1 H2 ∧ TT v (fun E v H' Q' => t E (σ ++ [some v]) H' Q') H2 Q
theorem pinned_one {X : Cx} {pins : List (Addr × Obj)} {σ : L2.St} {H : Hp} {s : Shared} {f : Addr} {o : Obj} {fd : FuncData} (I : Inv X pins σ H s) (hf : s.heap.get? f = some o) (hd : o.data = .func fd) (hn : H f = none) (hfr : f ∉ frs X.stack) : Inv X ((f, o) :: pins) σ H s := by
  refine ⟨I.ok, I.os, I.bare, I.base, I.loc, I.cell, I.free, I.freeC, fun q hq => ?_, I.hok, I.len⟩
  rcases List.mem_append.mp hq with z | z
  · exact I.pin q (List.mem_append_left _ z)
  · rcases List.mem_cons.mp z with e | z
    · subst e
      refine ⟨hf, hn, fun e => ?_, fun m => hfr ?_, fun v e => ?_⟩
      · obtain ⟨m, ⟨ol, es, ep, el, dl, _⟩, _⟩ := I.loc
        have e' : f = X.env.locals := e
        rw [← e', hf] at el
        cases el
        rw [hd] at dl
        cases dl
      · rcases I.ok.stk with st | ⟨st, _⟩
        · rw [st]
          exact m
        · rw [st]
          obtain ⟨e1, m1, m2⟩ := List.mem_filterMap.mp m
          exact List.mem_filterMap.mpr ⟨e1, List.mem_cons_of_mem _ m1, m2⟩
      · have e' : o.data = .cell v := e
        rw [hd] at e'
        cases e'
    · exact I.pin q (List.mem_append_right _ z)
theorem unpin_one {X : Cx} {pins : List (Addr × Obj)} {σ : L2.St} {H : Hp} {s : Shared} {q : Addr × Obj} (I : Inv X (q :: pins) σ H s) : Inv X pins σ H s := by
  refine ⟨I.ok, I.os, I.bare, I.base, I.loc, I.cell, I.free, I.freeC, fun z hz => I.pin z ?_, I.hok, I.len⟩
  rcases List.mem_append.mp hz with m | m
  · exact List.mem_append_left _ m
  · exact List.mem_append_right _ (List.mem_cons_of_mem _ m)
/-- x(lambda p: b, e) -/
theorem pe_lamP {X : Cx} {TT : V → (XK → V → Hp → VK → Prop) → Hp → VK → Prop} {x a a2 p : Str} {g c P : Addr} {k : Nat} {pg : Arguments} {bg : List Stmt} {sg : Scope} {dV kV doc pm cdv ct oc : Value} {an od : Option Addr} {osl : Array (Option Value)} {Ng : List Str} {params : Arguments} {b e : Expr} {scope : Scope} {t : XK → TE} {ta : TA} {pp lpos pos : Pos}
    (gl : Gl X x) (mg : X.mg x = some (.ref g)) (keep : PySem.W.keepIn X.K (.ref g) = true) (look : X.K.lookup g = some ⟨oc, od, .func (PySem.W.fnOf x x pg bg sg dV kV doc pm an cdv ct), osl⟩) (code : PySem.W.codeIn X.K cdv x = true)
    (binds : L2.Binds X.K (PySem.W.fnOf x x pg bg sg dV kV doc pm an cdv ct) [a, a2] []) (S : FnScope Ng [a, a2] sg) (at0 : Ng[0]? = some a) (vis : Vis sg a) (gives : GivesP X (k + 1) Ng x sg g cdv bg a (X.env.qual ++ "<lambda>") TT)
    (TB : LamX.TabB X.base X.mg c P) (own : X.env.code = .ref c) (room : Room (k + 2) X.A) (L : LamP X.env.scope scope p) (np : p ∉ X.N) (nodef : defaultsOf params X.env = ([], []))
    (bind : ∀ (q : Str) (cl : List (Str × Addr)) (pm cv ctv u : Value), bindArgs (PySem.W.kla_fn "<lambda>" q params b scope cl pm cv ctv) ⟨[u], []⟩ = pure [(p, u)])
    (body : ∀ (A : Around) (outer : List Env) (s : Shared) (H : Hp) (E : XK) (f c' : Addr), Room k (A.deeper (LamX.lamEnv X scope s.heap.objs.size f c')) → PE (cxP X A outer s H E scope p f c') b (t E)) (args : PA X [e] ta)
    (star : starEach (.Lambda params b scope lpos :: [e]) X.env = (false, eval (.Lambda params b scope lpos) X.env) :: starEach [e] X.env := by rfl) (plain : (backTo pos (starEach [e] X.env)).any (·.1) = false := by rfl)
    (d0 : (x == ("__debug__" : Str)) = false := by decide) (d1 : (a == ("__debug__" : Str)) = false := by decide) (d2 : (a == ("__classdict__" : Str)) = false := by decide) :
    PE X (.Call (.Name x pp) [.Lambda params b scope lpos, e] [] pos) (tLamP P (X.env.qual ++ "<lambda>") TT t ta) := by
  constructor
  intro pins s σ H Q I h
  obtain ⟨hT, h⟩ := h
  refine wpAny_Call_Name_kw (ld_glob I gl mg ?_ d0)
  refine PySem.W.callWith_K (h₀ := X.base) I.ok.mod.kin keep ?_ star plain
  rw [star]
  show wpAny _ _ (spliced ((false, eval (.Lambda params b scope lpos) X.env) :: backTo pos (starEach [e] X.env))) _ _ s
  refine Calls.spliced_cons (lam_new I TB own hT nodef (fun y hy z => L.has I.ok hy z) fun f c' pm' ctv H1 s1 I1 ext T1 hf hfn hfr hco => ?_)
  have Ip := pinned_one I1 hf rfl hfn hfr
  refine thn (args.run pos _ s1 σ H1 _ Ip (h H1 ext T1)) fun us s2 z => ?_
  obtain ⟨vs, H2, I2, rv, v, rfl, ext2, tt⟩ := z
  obtain ⟨u, rfl, ru⟩ := vals1 rv
  have f2 := I2.pin (f, _) (List.mem_append_right _ List.mem_cons_self)
  have co2 : H2 c' = some (LamX.CodeO c' (X.env.qual ++ "<lambda>")) := ext2 _ _ hco (LamX.codeO_ne)
  refine ⟨I2.kIn, ?_⟩
  have run : codeAny (model X.prog X.w) X.A (.call (.ref g) ⟨[.ref f, u], []⟩) (CR CX0 X.stack X.prog X.w H2 s2 Q E0) s2 := by
    refine LamX.run_ofS (N := Ng) (ps := [a, a2]) (us := [.ref f, u]) (vs := [.ref f, v]) look code S room I2.env0 (binds s2 [.ref f, u] I2.kIn rfl) (.cons rfl (.cons ru .nil)) rfl fun hr' => ?_
    obtain ⟨t', ht', q'⟩ := gives f c' v s2 H2 Q (fun E v H' Q' => t E (σ ++ [some v]) H' Q') hr' (fun W pn xe p1 p2 e ta tk args star => pe_actP (k := k) I2 L (fun i v e _ => np (List.mem_of_getElem? e)) f2.1 f2.2.1 hfr (fun u => bind _ _ _ _ _ u) tk hr' (fun A outer s H E rm => body A outer s H E f c' rm) at0 vis args star d1 d2) co2 tt
    exact ⟨t', ht'.nox, q'⟩
  refine wpAny_call (codeAny_mono run fun res s3 z => ?_)
  cases res with
  | error er => exact (show False from z).elim
  | ok fl =>
    cases fl with
    | ret u' =>
      obtain ⟨v', H', J, r', q'⟩ := I2.after z
      exact ⟨v', H', unpin_one J, r', q'⟩
    | next => exact (show False from z).elim
    | brk => exact (show False from z).elim
    | cont => exact (show False from z).elim
/-- the same by the def's own facts -/
theorem pe_lamF {X : Cx} {TT : V → (XK → V → Hp → VK → Prop) → Hp → VK → Prop} {x a a2 p : Str} {g c P : Addr} {k : Nat} {st : Stmt} {fd : FuncData} {Ng : List Str} {params : Arguments} {b e : Expr} {scope : Scope} {t : XK → TE} {ta : TA} {pp lpos pos : Pos}
    (gl : Gl X x) (mg : X.mg x = some (.ref g)) (F : Fun X.K x x st g fd) (binds : L2.Binds X.K fd [a, a2] []) (S : FnScope Ng [a, a2] (defScope st)) (at0 : Ng[0]? = some a) (vis : Vis (defScope st) a) (gives : ∀ cdg, GivesP X (k + 1) Ng x (defScope st) g cdg (defBody st) a (X.env.qual ++ "<lambda>") TT)
    (TB : LamX.TabB X.base X.mg c P) (own : X.env.code = .ref c) (room : Room (k + 2) X.A) (L : LamP X.env.scope scope p) (np : p ∉ X.N) (nodef : defaultsOf params X.env = ([], []))
    (bind : ∀ (q : Str) (cl : List (Str × Addr)) (pm cv ctv u : Value), bindArgs (PySem.W.kla_fn "<lambda>" q params b scope cl pm cv ctv) ⟨[u], []⟩ = pure [(p, u)])
    (body : ∀ (A : Around) (outer : List Env) (s : Shared) (H : Hp) (E : XK) (f c' : Addr), Room k (A.deeper (LamX.lamEnv X scope s.heap.objs.size f c')) → PE (cxP X A outer s H E scope p f c') b (t E)) (args : PA X [e] ta)
    (star : starEach (.Lambda params b scope lpos :: [e]) X.env = (false, eval (.Lambda params b scope lpos) X.env) :: starEach [e] X.env := by rfl) (plain : (backTo pos (starEach [e] X.env)).any (·.1) = false := by rfl)
    (d0 : (x == ("__debug__" : Str)) = false := by decide) (d1 : (a == ("__debug__" : Str)) = false := by decide) (d2 : (a == ("__classdict__" : Str)) = false := by decide) :
    PE X (.Call (.Name x pp) [.Lambda params b scope lpos, e] [] pos) (tLamP P (X.env.qual ++ "<lambda>") TT t ta) := by
  have keep := F.kp
  obtain ⟨oc, od, kV, doc, pm, an, cdv, ct, osl, rfl, lk, hcd⟩ := F.ex
  exact pe_lamP gl mg keep lk hcd binds S at0 vis (gives cdv) TB own room L np nodef bind body args star plain d0 d1 d2

/-! ### a lambda given as the second thing: x(e, lambda p: b) -/
/-- what the def makes of the thing v and of the lambda's reading tl: TT -/
def GivesP2 (X : Cx) (k : Nat) (Ng : List Str) (x : Str) (sg : Scope) (g : Addr) (cdg : Value) (bg : List Stmt) (a : Str) (q : Str) (TT : V → (XK → V → Hp → VK → Prop) → Hp → VK → Prop) : Prop :=
  ∀ (f c' : Addr) (v : V) (s : Shared) (H : Hp) (Q : VK) (tl : XK → V → Hp → VK → Prop), Room k (X.A.deeper (envOfC x sg s.heap.objs.size g cdg)) →
    (∀ (W : WX) (pn : List (Addr × Obj)) (xe : Value → Shared → Prop) (p1 p2 : Pos) (e : Expr) (ta : TA), Takes ((gotCx X Ng x sg g cdg s H).tr pn xe) W → PA ((gotCx X Ng x sg g cdg s H).tr pn xe) [e] ta →
      starEach [e] ((gotCx X Ng x sg g cdg s H).tr pn xe).env = (false, eval e ((gotCx X Ng x sg g cdg s H).tr pn xe).env) :: starEach [] ((gotCx X Ng x sg g cdg s H).tr pn xe).env →
      PE ((gotCx X Ng x sg g cdg s H).tr pn xe) (.Call (.Name a p1) [e] [] p2) (tAct 1 f c' q ta W tl)) →
    H c' = some (LamX.CodeO c' q) → TT v tl H Q →
    ∃ t, PSs (gotCx X Ng x sg g cdg s H).nox bg t ∧ t { nx := fun _ H' => Q .non H', rt := Q } (L2.start Ng [v, .ref f]) H
/-- nothing stands in a slot of this name -/
def NoVal (p : Str) : List Str → L2.St → Prop
  | x :: N, o :: σ => (x = p → o = none) ∧ NoVal p N σ
  | _, _ => True
theorem NoVal.at {p : Str} : ∀ {N : List Str} {σ : L2.St}, NoVal p N σ → ∀ (i : Nat) (v : V), N[i]? = some p → σ[i]? = some (some v) → False
  | [], _, _, i, v, e, _ => by cases i <;> cases e
  | _ :: _, [], _, i, v, _, e => by cases i <;> cases e
  | x :: N, o :: σ, h, 0, v, e1, e2 => by
    have e1 : x = p := Option.some.inj e1
    have e2 : o = some v := Option.some.inj e2
    rw [h.1 e1] at e2
    cases e2
  | x :: N, o :: σ, h, i + 1, v, e1, e2 => NoVal.at (N := N) (σ := σ) h.2 i v e1 e2
def tLamP2 (N : List Str) (p : Str) (P : Addr) (qn : Str) (TT : V → (XK → V → Hp → VK → Prop) → Hp → VK → Prop) (t : XK → TE) (te : TE) : TE := fun σ H Q => NoVal p N σ ∧ te σ H fun v H1 => LamX.TabS H1 P qn ∧ ∀ H2, But P H1 H2 → LamX.TabS H2 P qn → TT v (fun E v H' Q' => t E (σ ++ [some v]) H' Q') H2 Q
theorem pe_lamP2 {X : Cx} {TT : V → (XK → V → Hp → VK → Prop) → Hp → VK → Prop} {x a a1 p : Str} {g c P : Addr} {k : Nat} {pg : Arguments} {bg : List Stmt} {sg : Scope} {dV kV doc pm cdv ct oc : Value} {an od : Option Addr} {osl : Array (Option Value)} {Ng : List Str} {params : Arguments} {b e : Expr} {scope : Scope} {t : XK → TE} {te : TE} {pp lpos pos : Pos}
    (gl : Gl X x) (mg : X.mg x = some (.ref g)) (keep : PySem.W.keepIn X.K (.ref g) = true) (look : X.K.lookup g = some ⟨oc, od, .func (PySem.W.fnOf x x pg bg sg dV kV doc pm an cdv ct), osl⟩) (code : PySem.W.codeIn X.K cdv x = true)
    (binds : L2.Binds X.K (PySem.W.fnOf x x pg bg sg dV kV doc pm an cdv ct) [a1, a] []) (S : FnScope Ng [a1, a] sg) (at1 : Ng[1]? = some a) (vis : Vis sg a) (gives : GivesP2 X (k + 1) Ng x sg g cdv bg a (X.env.qual ++ "<lambda>") TT)
    (TB : LamX.TabB X.base X.mg c P) (own : X.env.code = .ref c) (room : Room (k + 2) X.A) (L : LamP X.env.scope scope p) (nodef : defaultsOf params X.env = ([], []))
    (bind : ∀ (q : Str) (cl : List (Str × Addr)) (pm cv ctv u : Value), bindArgs (PySem.W.kla_fn "<lambda>" q params b scope cl pm cv ctv) ⟨[u], []⟩ = pure [(p, u)])
    (body : ∀ (A : Around) (outer : List Env) (s : Shared) (H : Hp) (E : XK) (f c' : Addr), Room k (A.deeper (LamX.lamEnv X scope s.heap.objs.size f c')) → PE (cxP X A outer s H E scope p f c') b (t E)) (arg : PE X e te)
    (star : starEach (e :: [.Lambda params b scope lpos]) X.env = (false, eval e X.env) :: starEach [.Lambda params b scope lpos] X.env := by rfl) (star2 : starEach [.Lambda params b scope lpos] X.env = (false, eval (.Lambda params b scope lpos) X.env) :: starEach [] X.env := by rfl) (plain : (backTo pos (starEach [.Lambda params b scope lpos] X.env)).any (·.1) = false := by rfl)
    (d0 : (x == ("__debug__" : Str)) = false := by decide) (d1 : (a == ("__debug__" : Str)) = false := by decide) (d2 : (a == ("__classdict__" : Str)) = false := by decide) :
    PE X (.Call (.Name x pp) [e, .Lambda params b scope lpos] [] pos) (tLamP2 X.N p P (X.env.qual ++ "<lambda>") TT t te) := by
  constructor
  intro pins s σ H Q I h
  obtain ⟨np, h⟩ := h
  refine wpAny_Call_Name_kw (ld_glob I gl mg ?_ d0)
  refine PySem.W.callWith_K (h₀ := X.base) I.ok.mod.kin keep ?_ star plain
  rw [star]
  show wpAny _ _ (spliced ((false, eval e X.env) :: backTo pos (starEach [.Lambda params b scope lpos] X.env))) _ _ s
  refine Calls.spliced_cons (thn (arg.run pins s σ H _ I h) fun u s1 z => ?_)
  obtain ⟨v, H1, I1, ru, hT, h1⟩ := z
  rw [star2]
  show wpAny _ _ (spliced ((false, eval (.Lambda params b scope lpos) X.env) :: backTo pos (starEach [] X.env))) _ _ s1
  refine Calls.spliced_cons (lam_new I1 TB own hT nodef (fun y hy z => L.has I1.ok hy z) fun f c' pm' ctv H2 s2 I2 ext T2 hf hfn hfr hco => ?_)
  refine Calls.spliced_nil ?_
  have tt := h1 H2 ext T2
  refine ⟨I2.kIn, ?_⟩
  have run : codeAny (model X.prog X.w) X.A (.call (.ref g) ⟨[u, .ref f], []⟩) (CR CX0 X.stack X.prog X.w H2 s2 Q E0) s2 := by
    refine LamX.run_ofS (N := Ng) (ps := [a1, a]) (us := [u, .ref f]) (vs := [v, .ref f]) look code S room I2.env0 (binds s2 [u, .ref f] I2.kIn rfl) (.cons ru (.cons rfl .nil)) rfl fun hr' => ?_
    obtain ⟨t', ht', q'⟩ := gives f c' v s2 H2 Q (fun E v H' Q' => t E (σ ++ [some v]) H' Q') hr' (fun W pn xe p1 p2 e ta tk args star => pe_actP (k := k) I2 L (NoVal.at np) hf hfn hfr (fun u => bind _ _ _ _ _ u) tk hr' (fun A outer s H E rm => body A outer s H E f c' rm) at1 vis args star d1 d2) hco tt
    exact ⟨t', ht'.nox, q'⟩
  refine wpAny_call (codeAny_mono run fun res s3 z => ?_)
  cases res with
  | error er => exact (show False from z).elim
  | ok fl =>
    cases fl with
    | ret u' => exact I2.after z
    | next => exact (show False from z).elim
    | brk => exact (show False from z).elim
    | cont => exact (show False from z).elim
theorem pe_lamF2 {X : Cx} {TT : V → (XK → V → Hp → VK → Prop) → Hp → VK → Prop} {x a a1 p : Str} {g c P : Addr} {k : Nat} {st : Stmt} {fd : FuncData} {Ng : List Str} {params : Arguments} {b e : Expr} {scope : Scope} {t : XK → TE} {te : TE} {pp lpos pos : Pos}
    (gl : Gl X x) (mg : X.mg x = some (.ref g)) (F : Fun X.K x x st g fd) (binds : L2.Binds X.K fd [a1, a] []) (S : FnScope Ng [a1, a] (defScope st)) (at1 : Ng[1]? = some a) (vis : Vis (defScope st) a) (gives : ∀ cdg, GivesP2 X (k + 1) Ng x (defScope st) g cdg (defBody st) a (X.env.qual ++ "<lambda>") TT)
    (TB : LamX.TabB X.base X.mg c P) (own : X.env.code = .ref c) (room : Room (k + 2) X.A) (L : LamP X.env.scope scope p) (nodef : defaultsOf params X.env = ([], []))
    (bind : ∀ (q : Str) (cl : List (Str × Addr)) (pm cv ctv u : Value), bindArgs (PySem.W.kla_fn "<lambda>" q params b scope cl pm cv ctv) ⟨[u], []⟩ = pure [(p, u)])
    (body : ∀ (A : Around) (outer : List Env) (s : Shared) (H : Hp) (E : XK) (f c' : Addr), Room k (A.deeper (LamX.lamEnv X scope s.heap.objs.size f c')) → PE (cxP X A outer s H E scope p f c') b (t E)) (arg : PE X e te)
    (star : starEach (e :: [.Lambda params b scope lpos]) X.env = (false, eval e X.env) :: starEach [.Lambda params b scope lpos] X.env := by rfl) (star2 : starEach [.Lambda params b scope lpos] X.env = (false, eval (.Lambda params b scope lpos) X.env) :: starEach [] X.env := by rfl) (plain : (backTo pos (starEach [.Lambda params b scope lpos] X.env)).any (·.1) = false := by rfl)
    (d0 : (x == ("__debug__" : Str)) = false := by decide) (d1 : (a == ("__debug__" : Str)) = false := by decide) (d2 : (a == ("__classdict__" : Str)) = false := by decide) :
    PE X (.Call (.Name x pp) [e, .Lambda params b scope lpos] [] pos) (tLamP2 X.N p P (X.env.qual ++ "<lambda>") TT t te) := by
  have keep := F.kp
  obtain ⟨oc, od, kV, doc, pm, an, cdv, ct, osl, rfl, lk, hcd⟩ := F.ex
  exact pe_lamP2 gl mg keep lk hcd binds S at1 vis (gives cdv) TB own room L nodef bind body arg star star2 plain d0 d1 d2

/-! ### a law called from the caller itself: nothing is shown around it -/
/-- at the law's call: its tables are empty, the script is frozen (or known by K) -/
def lawH (K : PySem.W.Frag) (cs : List (Addr × Addr)) (a : Addr) (o : Obj) (ns : List Int) : Hp := fun b => if b ∈ cs.map (·.2) then some (.tbl #[]) else if b = a ∧ K.lookup a = none then some (.frz o (.lst (ns.map V.int))) else none
theorem lawH_some {K : PySem.W.Frag} {cs : List (Addr × Addr)} {a b : Addr} {o : Obj} {ns : List Int} {u : HO} (h : lawH K cs a o ns b = some u) : (b ∈ cs.map (·.2) ∧ u = .tbl #[]) ∨ (b = a ∧ K.lookup a = none ∧ u = .frz o (.lst (ns.map V.int))) := by
  unfold lawH at h
  split at h
  · rename_i m
    exact .inl ⟨m, (Option.some.inj h).symm⟩
  · split at h
    · rename_i m
      exact .inr ⟨m.1, m.2, (Option.some.inj h).symm⟩
    · cases h
theorem call_law {P : Program} {w : World} {K : PySem.W.Frag} {mg mb : Str → Option Value} {fa a : Addr} {cs : List (Addr × Addr)} {s : Shared} {vs : List Value} {ns : List Int} (kin : K.In s.heap) (gl : s.heap.Ns mainGlobals mg) (bi : s.heap.Ns builtinsNs mb)
    (boot : ∀ x : Str, x ≠ "__name__" → mb x = bootBuiltins x) (lim : s.heap.NoLimit) (gens : s.gens = #[]) (tabs : ∀ p ∈ cs, s.heap.get? p.2 = some { cls := .none, data := .fields #[] }) (away : ∀ p ∈ cs, K.lookup p.2 = none) (code : ∀ p ∈ cs, PySem.W.CodeHd s.heap p.1 p.2)
    (bm : ∃ (bm : Addr) (ob : Obj), mg "__builtins__" = some (.ref bm) ∧ bm ≠ builtinsNs ∧ s.heap.get? bm = some ob ∧ ob.cls = .type "module" ∧ ob.dict = some builtinsNs ∧ ob.data = .plain) (scr : s.heap.get? a = some { cls := .type "list", data := .seq vs.toArray }) (iar : IntsAre vs ns) (len : ns.length ≤ sizeLine)
    (run : ∀ (base : Heap) (H : Hp), (∀ p ∈ cs, LamX.TabB base mg p.1 p.2) → Env0 P w K mg base callerA [] s H → (∀ p ∈ cs, H p.2 = some (.tbl #[])) → SqL K H a (ns.map V.int) →
      codeAny (model P w) callerA (.call (.ref fa) ⟨[.ref a], []⟩) (CR CX0 [] P w H s (fun v _ => v = .bl true) E0) s) :
    codeAny (model P w) callerA (.call (.ref fa) ⟨[.ref a], []⟩) (fun r s' => r = .ok (.ret (.bool true)) ∧ OldK s.heap s'.heap ∧ s'.os = s.os ∧ AllBare s'.gens) s := by
  have rel := vals_ints iar
  have tabAt : ∀ {b : Addr}, b ∈ cs.map (·.2) → s.heap.get? b = some { cls := .none, data := .fields #[] } := fun {b} m => by
    obtain ⟨p, hp, rfl⟩ := List.mem_map.mp m
    exact tabs p hp
  have notTab : a ∉ cs.map (·.2) := fun m => by
    have z := (tabAt m).symm.trans scr
    have z2 := congrArg Obj.data (Option.some.inj z)
    cases z2
  generalize hH : lawH K cs a { cls := .type "list", data := .seq vs.toArray } ns = H
  have some_ : ∀ {b : Addr} {u : HO}, H b = some u → (b ∈ cs.map (·.2) ∧ u = .tbl #[]) ∨ (b = a ∧ K.lookup a = none ∧ u = .frz { cls := .type "list", data := .seq vs.toArray } (.lst (ns.map V.int))) := fun {b u} e => by
    rw [← hH] at e
    exact lawH_some e
  have tabH : ∀ p ∈ cs, H p.2 = some (.tbl #[]) := fun p hp => by
    rw [← hH]
    exact if_pos (List.mem_map.mpr ⟨p, hp, rfl⟩)
  -- what is neither a list nor an empty table isn't tracked
  have loose : ∀ {b : Addr} {ob : Obj}, s.heap.get? b = some ob → (∀ xs n, ob.data ≠ .seq xs n) → ob.data ≠ .fields #[] → H b = none := fun {b ob} e n1 n2 => by
    cases q : H b with
    | none => rfl
    | some u =>
      rcases some_ q with ⟨m, _⟩ | ⟨rfl, _⟩
      · rw [tabAt m] at e
        cases e
        exact absurd rfl n2
      · rw [scr] at e
        cases e
        exact absurd rfl (n1 _ _)
  have nsOn : ∀ {b : Addr} {m : Str → Option Value}, s.heap.Ns b m → (hidT s.heap H).Ns b m := fun {b m} z => by
    obtain ⟨o, es, ep, e, d, r⟩ := z
    refine ⟨o, es, ep, hidT_get e (loose e (fun _ _ q => ?_) fun q => ?_), d, r⟩
    · rw [d] at q
      cases q
    · rw [d] at q
      cases q
  have kin' : K.In (hidT s.heap H) := fun b o e => hidT_get (kin b o e) (by
    cases q : H b with
    | none => rfl
    | some u =>
      rcases some_ q with ⟨m, _⟩ | ⟨rfl, n, _⟩
      · obtain ⟨p, hp, rfl⟩ := List.mem_map.mp m
        rw [away p hp] at e
        cases e
      · rw [n] at e
        cases e)
  have hok : HOk P w H s.heap := fun b u e => by
    rcases some_ e with ⟨m, rfl⟩ | ⟨rfl, _, rfl⟩
    · exact tabAt m
    · exact ⟨scr, by rw [List.length_map]; exact len, vs, _, rel, scr⟩
  have sq : SqL K H a (ns.map V.int) := by
    cases q : K.lookup a with
    | none =>
      refine .inl (.inr ⟨{ cls := .type "list", data := .seq vs.toArray }, ?_⟩)
      rw [← hH]
      exact (if_neg notTab).trans (if_pos ⟨rfl, q⟩)
    | some o =>
      have e := kin a o q
      rw [scr] at e
      cases e
      exact .inr ⟨_, vs.toArray, _, q, rfl, rfl, rfl, by rw [List.size_toArray, iar.length]; exact len, rel⟩
  have tb : ∀ p ∈ cs, LamX.TabB (hidT s.heap H) mg p.1 p.2 := fun p hp => by
    have pt := tabs p hp
    refine ⟨?_, ?_, fun e => ?_⟩
    · obtain ⟨o, us, fl, tf, fg, tg, iF, tx, tt, g1, g2, g3, g4, g5⟩ := code p hp
      refine ⟨o, us, fl, tf, fg, tg, iF, tx, tt, hidT_get g1 (loose g1 (fun _ _ q => ?_) fun q => ?_), g2, g3, g4, g5⟩
      · rw [g3] at q
        cases q
      · rw [g3] at q
        cases q
        simp at g4
    · obtain ⟨b, ob, m1, m2, m3, m4, m5, m6⟩ := bm
      refine ⟨b, ob, m1, m2, fun e => ?_, fun e => ?_, hidT_get m3 (loose m3 (fun _ _ q => ?_) fun q => ?_), m4, m5, m6⟩
      · obtain ⟨o, es, ep, e1, d1, _⟩ := gl
        rw [e, e1] at m3
        cases m3
        rw [d1] at m6
        cases m6
      · rw [e, pt] at m3
        cases m3
        cases m6
      · rw [m6] at q
        cases q
      · rw [m6] at q
        cases q
    · obtain ⟨o, es, ep, e1, d1, _⟩ := gl
      rw [e, pt] at e1
      cases e1
      cases d1
  have limOn : (hidT s.heap H).NoLimit := by
    obtain ⟨mc, l1, l2⟩ := lim
    exact ⟨mc, nsOn l1, l2⟩
  have env : Env0 P w K mg (hidT s.heap H) callerA [] s H := ⟨rfl, ⟨kin', nsOn gl, ⟨mb, nsOn bi, boot⟩, limOn⟩, fun b o e => of_hidT e, Nat.le_of_eq (hidT_size _ _), trivial, fun b hb => absurd (show b ∈ ([] : List Addr) from hb) List.not_mem_nil, hok, .of_eq gens⟩
  refine codeAny_mono (run _ H tb env tabH sq) fun r s' z => ?_
  cases r with
  | error e => exact (show False from z).elim
  | ok fl =>
    cases fl with
    | next => exact (show False from z).elim
    | brk => exact (show False from z).elim
    | cont => exact (show False from z).elim
    | ret u =>
      obtain ⟨v, H', os, bare, un, hok', rv, ev⟩ := z
      have ev : v = .bl true := ev
      subst ev
      obtain rfl : u = Value.bool true := rv
      have grown : ∀ p ∈ cs, ∃ more : Array Value, s'.heap.get? p.2 = some { cls := .none, data := .fields more } := fun p hp => by
        obtain ⟨more, q⟩ := un.tbls p.2 #[] (tabH p hp)
        exact ⟨_, hok' p.2 _ q⟩
      have stays : ∀ b o, b ∉ cs.map (·.2) → s.heap.get? b = some o → s'.heap.get? b = some o := fun b o nb e => by
        cases q : H b with
        | none => exact un.keep b o e q (fun z => absurd (show b ∈ ([] : List Addr) from z) List.not_mem_nil) List.not_mem_nil
        | some u =>
          rcases some_ q with ⟨m, _⟩ | ⟨_, _, rfl⟩
          · exact absurd m nb
          · have e1 := (hok b _ q).1
            have e2 := (hok' b _ (un.frzs b _ _ q)).1
            rw [e] at e1
            rw [Option.some.inj e1]
            exact e2
      refine ⟨rfl, ⟨fun b o e => ?_, fun b o e => ?_⟩, os, bare⟩
      · by_cases m : b ∈ cs.map (·.2)
        · obtain ⟨p, hp, rfl⟩ := List.mem_map.mp m
          obtain ⟨more, hm⟩ := grown p hp
          rw [tabs p hp] at e
          cases e
          exact .inr (.inl ⟨((code p hp).tab (tabs p hp)).isCodeTable, rfl, #[], more, rfl, by rw [Array.empty_append]; exact hm⟩)
        · exact .inl (stays b o m e)
      · by_cases m : b ∈ cs.map (·.2)
        · obtain ⟨p, hp, rfl⟩ := List.mem_map.mp m
          obtain ⟨more, hm⟩ := grown p hp
          exact ⟨_, hm⟩
        · exact ⟨o, stays b o m e⟩
theorem walk_law0 {l : PySem.W.OpenLaw} {most : Nat} {prog : Program} {lo : List Str} {XP : (Str → Option Value) → Heap → Prop} {YP : World → Heap → Prop} {df : DefRec} {K : Params → PySem.W.Frag} (names : List Str)
    (h1 : l.most = some most) (h2 : most ≤ sizeLine) (h3 : df.params.defaults = []) (recs : (names.all fun nm => (recsOf prog).any fun r => r.name == nm) = true) (kin : ∀ (w : World) (h : Heap), YP w h → (K w.params).In h)
    (at_ : ∀ (w : World) (mg : Str → Option Value) (fa : Addr) (h : Heap), (K w.params).In h → h.Ns mainGlobals mg → mg df.name = some (.ref fa) → (∀ nm ∈ names, TabAt mg h nm) →
      ∃ cs : List (Addr × Addr), (∀ p ∈ cs, h.get? p.2 = some { cls := .none, data := .fields #[] }) ∧ (∀ p ∈ cs, (K w.params).lookup p.2 = none) ∧ (∀ p ∈ cs, PySem.W.CodeHd h p.1 p.2) ∧
        ∀ (s : Shared) (H : Hp) (base : Heap) (a : Addr) (ns : List Int), ns.length ≤ most → (∀ z ∈ ns, Builtin.Int.intBits z ≤ 1048576) → (∀ p ∈ cs, LamX.TabB base mg p.1 p.2) → Env0 l.prog w (K w.params) mg base callerA [] s H → (∀ p ∈ cs, H p.2 = some (.tbl #[])) → SqL (K w.params) H a (ns.map V.int) →
          codeAny (model l.prog w) callerA (.call (.ref fa) ⟨[.ref a], []⟩) (CR CX0 [] l.prog w H s (fun v _ => v = .bl true) E0) s) :
    PySem.W.WalkO prog lo XP YP l.row.toRowW df [] (fun f vs => PySem.call f vs) := by
  refine Att.attach_callB h1 h3 fun w s0 s mg mb fa o pm cd doc a vs ns Gr Y _ _ _ name ob iar len bits gens => ?_
  have tabs : ∀ nm ∈ names, TabAt mg s.heap nm := fun nm hm => by
    obtain ⟨r, hr, er⟩ := List.any_eq_true.mp (List.all_eq_true.mp recs nm hm)
    obtain ⟨x1, x2, x3, x4, x5, y1, y2, y3, y4, _, y6⟩ := Gr.T.tab r hr
    rw [beq_iff_eq.mp er] at y1
    exact ⟨x1, x2, x3, x4, x5, y1, y2, y3, y4, y6⟩
  obtain ⟨cs, t1, t2, t3, go⟩ := at_ w mg fa _ (kin w _ Y) Gr.T.g name tabs
  exact call_law (kin w _ Y) Gr.T.g Gr.T.b Gr.T.builtins Gr.T.nolimit gens t1 t2 t3 Gr.T.bmain ob iar (Nat.le_trans len h2) fun base H tb e0 th sq => go s H base a ns len bits tb e0 th sq

/-! ### a law whose methods make lambdas -/
theorem walk_law1 {l : PySem.W.OpenLaw} {most : Nat} {prog : Program} {lo : List Str} {XP : (Str → Option Value) → Heap → Prop} {YP : World → Heap → Prop} {df : DefRec} {K : Params → PySem.W.Frag} {ts : List Addr} (names : List Str)
    (h1 : l.most = some most) (h2 : most ≤ sizeLine) (h3 : df.params.defaults = []) (recs : (names.all fun nm => (recsOf prog).any fun r => r.name == nm) = true) (kin : ∀ (w : World) (h : Heap), YP w h → (K w.params).In h) (tsf : ∀ (w : World) (h : Heap), YP w h → ∀ P ∈ ts, h.get? P = some (PySem.W.tabObj #[]))
    (at_ : ∀ (w : World) (mg : Str → Option Value) (fa : Addr) (h : Heap), (K w.params).In h → h.Ns mainGlobals mg → mg df.name = some (.ref fa) → (∀ P ∈ ts, h.get? P = some (PySem.W.tabObj #[])) → (∀ nm ∈ names, TabAt mg h nm) →
      ∃ cs : List (Addr × Addr), (∀ p ∈ cs, h.get? p.2 = some { cls := .none, data := .fields #[] }) ∧ (∀ p ∈ cs, (K w.params).lookup p.2 = none) ∧ (∀ p ∈ cs, PySem.W.CodeHd h p.1 p.2) ∧
        ∀ (s : Shared) (H : Hp) (base : Heap) (a : Addr) (ns : List Int), ns.length ≤ most → (∀ z ∈ ns, Builtin.Int.intBits z ≤ 1048576) → (∀ p ∈ cs, LamX.TabB base mg p.1 p.2) → Env0 l.prog w (K w.params) mg base callerA [] s H → (∀ p ∈ cs, H p.2 = some (.tbl #[])) → SqL (K w.params) H a (ns.map V.int) →
          codeAny (model l.prog w) callerA (.call (.ref fa) ⟨[.ref a], []⟩) (CR CX0 [] l.prog w H s (fun v _ => v = .bl true) E0) s) :
    PySem.W.WalkO prog lo XP YP l.row.toRowW df [] (fun f vs => PySem.call f vs) := by
  refine Att.attach_callB h1 h3 fun w s0 s mg mb fa o pm cd doc a vs ns Gr Y _ _ _ name ob iar len bits gens => ?_
  have tabs : ∀ nm ∈ names, TabAt mg s.heap nm := fun nm hm => by
    obtain ⟨r, hr, er⟩ := List.any_eq_true.mp (List.all_eq_true.mp recs nm hm)
    obtain ⟨x1, x2, x3, x4, x5, y1, y2, y3, y4, _, y6⟩ := Gr.T.tab r hr
    rw [beq_iff_eq.mp er] at y1
    exact ⟨x1, x2, x3, x4, x5, y1, y2, y3, y4, y6⟩
  obtain ⟨cs, t1, t2, t3, go⟩ := at_ w mg fa _ (kin w _ Y) Gr.T.g name (tsf w _ Y) tabs
  exact call_law (kin w _ Y) Gr.T.g Gr.T.b Gr.T.builtins Gr.T.nolimit gens t1 t2 t3 Gr.T.bmain ob iar (Nat.le_trans len h2) fun base H tb e0 th sq => go s H base a ns len bits tb e0 th sq

end My
namespace My
open PySem PySem.Spec PyProof.Rows L2
/-! ### repr of what is nested; a list of truths counted; raise X() -/
def rRepr (K : PySem.W.Frag) : List V → Hp → VK → Prop := fun xs H Q => ∃ (v : V) (d : PyData), xs = [v] ∧ Dp K H v d ∧ isDisplay d = true ∧ d.showable = true ∧ d.hasDict = false ∧ d.depth ≤ 50 ∧ d.shown.length ≤ sizeLine ∧ Q (.str d.shown) H
theorem call_repr {X : Cx} (none_ : X.A.guards = some []) (room : X.A.units + 64 < cLine) : CallR X (.builtin "repr") (rRepr X.K) := by
  intro pins s σ H xs us Q I r h
  obtain ⟨v, d, rfl, dp, disp, shw, nod, dep, len, q⟩ := h
  obtain ⟨u, rfl, ru⟩ := vals1 r
  obtain ⟨as, rd⟩ := Dp.reads I d v u dp ru
  obtain ⟨a, rfl⟩ := isRef_of_reads rd disp
  exact repr_of_reads' rd shw (PyData.noDict_hsm nod) none_ (by omega) (fun _ _ e => e) (fun h' t tk hk => ⟨.str d.shown, H, I.kept (t' := tk) hk, ⟨t, rfl⟩, q⟩) len
/-- l.count(True), l a list of truths -/
def rCntB (K : PySem.W.Frag) : V → List V → Hp → VK → Prop := fun x xs H Q => ∃ (p : Addr) (bs : List Bool) (b : Bool), x = .ref p ∧ xs = [.bl b] ∧ SqL K H p (bs.map V.bl) ∧ Q (.int (bs.count b : Nat)) H
def isB (b : Bool) : Value → Bool
  | .bool c => c == b
  | _ => false
theorem bools_of {b : Bool} : ∀ {bs : List Bool} {us : List Value}, Vals (bs.map V.bl) us → (∀ y ∈ us, ∃ c, y = .bool c) ∧ us.countP (isB b) = bs.count b
  | [], _, r => by
    cases r
    exact ⟨fun y h => (nomatch h), rfl⟩
  | c :: bs, _, r => by
    rw [List.map_cons] at r
    cases r with
    | @cons a u as us ru rr =>
      obtain ⟨h1, h2⟩ := bools_of (b := b) rr
      obtain rfl : u = Value.bool c := ru
      refine ⟨fun y hy => ?_, ?_⟩
      · rcases List.mem_cons.mp hy with e | e
        · exact ⟨c, e⟩
        · exact h1 y e
      · rw [List.countP_cons, List.count_cons, h2]
        rfl
theorem mt_countB {X : Cx} : MtR X "list.count" (rCntB X.K) := by
  intro pins s σ H x xs v us Q I rx rxs h
  obtain ⟨p, bs, b, rfl, rfl, sq, q⟩ := h
  obtain rfl : v = Value.ref p := rx
  obtain ⟨u, rfl, ru⟩ := rxs.one
  obtain rfl : u = Value.bool b := ru
  obtain ⟨its, rel, ⟨ob, n, hob, cls, dct, dat⟩, _⟩ := I.list sq
  obtain ⟨oc, od, odt, osl⟩ := ob
  simp only at cls dat
  subst cls dat
  obtain ⟨all, cnt⟩ := bools_of (b := b) rel
  refine call_meets PySem.F.slot_list_count ⟨_, hob, rfl⟩ PySem.F.entry_list_count (PySem.F.args_list_count_2 _ _) (SeqAt.list_countAt p its.toArray n od osl (.bool b) (isB b)) ⟨hob, fun y hy => ?_, ?_⟩
  · obtain ⟨c, rfl⟩ := all y (by simpa using hy)
    exact SeqAt.EqAt.bool_bool c b
  · refine ⟨.int (bs.count b : Nat), H, I.tok _, ⟨s.toks, ?_⟩, q⟩
    show Value.int ((its.toArray.toList.countP (isB b) : Nat) : Int) s.toks = Value.int ((bs.count b : Nat) : Int) s.toks
    rw [← cnt]
/-- raise X() -/
theorem pmk_own0 {X : Cx} {C : Addr} {x : Str} {p pos : Pos} (ex : PySem.W.excIn X.K C veB "ValueError.__new__" = true) (gC : X.mg x = some (.ref C)) (kC : PySem.W.keepIn X.K (.ref C) = true) (rs : Raises X (.ref C)) (gl : Gl X x) (dbg : (x == ("__debug__" : Str)) = false := by decide) :
    PMk X (.Call (.Name x p) [] [] pos) (fun _ H Q => Q (.ref C) none H) := by
  intro pins st σ H Q I q
  refine wpAny_Call_Name_kw (ld_glob I gl gC ?_ dbg)
  refine PySem.W.callWith_K0 I.kIn kC ?_
  obtain ⟨bm, N, nm, qn, bs, hdct, sn, sub, ab, col, dd, k0, k1, k2, k3, k5, mN, hC, hN, hni, OT⟩ := exc_obj I.kIn ex
  exact wpAny_call_exc_subT PySem.F.excBase_ValueError OT hC hN hni (fun h' a made => mk_of I made rs q (I.hok.gone made.new)) (Nat.zero_le _)
/-- isinstance of a kept exception -/
def rIsC (K : PySem.W.Frag) : List V → Hp → VK → Prop := fun xs H Q => ∃ (a C : Addr) (c : V) (cv : Value) (b : Bool), xs = [.ref a, c] ∧ H a = some (ExC (.ref C) none a) ∧ XcC K C ∧ ClsV c cv ∧ PySem.W.kitOne K (.ref C) cv = some b ∧ Q (.bl b) H
theorem call_isC {X : Cx} : CallR X (.builtin "isinstance") (rIsC X.K) := by
  intro pins st σ H xs us Q I r h
  obtain ⟨a, C, c, cv, b, rfl, at_, xc, kc, e, q⟩ := h
  obtain ⟨u1, u2, rfl, r1, r2⟩ := vals2 r
  obtain rfl : u1 = Value.ref a := r1
  obtain rfl := kc.eq r2
  obtain ⟨⟨oe, vs, ho, hz, hd⟩, _, _⟩ := I.hok a _ at_
  have inst : PySem.W.InstAt st.heap a oe C none := by
    refine ⟨ho, hz.1, ?_, ?_⟩
    · unfold PySem.W.notCls
      rw [hd]
    · rw [hz.2]
      trivial
  exact PySem.W.kia_one (PySem.W.kitx_exc xc.cl xc.hg xc.hk xc.hs xc.ha xc.hn xc.ht xc.hm) I.kIn inst e (fun z => nomatch z) fun tk => ⟨.bl b, H, I.kept (t' := tk) fun _ _ z => z, rfl, q⟩

/-! ### len(set(t)) of a tuple of whole numbers -/
def tLenSetT (K : PySem.W.Frag) (ta : TE) : TE := fun σ H Q => ta σ H fun x H1 => ∃ (p : Addr) (ns : List Int), x = .ref p ∧ SqT K H1 p (ns.map V.int) ∧ ns.length ≤ 1000 ∧ ∀ out : List Int, out.Nodup → (∀ k, k ∈ out ↔ k ∈ ns) → Q (.int (out.length : Nat)) H1
theorem pe_lenSetT {X : Cx} {a : Expr} {ta : TE} {p p2 q pos : Pos} (hc : X.calm = true) (hg : Gl X "len") (hm : X.mg "len" = none) (hg2 : Gl X "set") (hm2 : X.mg "set" = none) (ha : PE X a ta)
    (na : starEach [a] X.env = (false, eval a X.env) :: starEach [] X.env := by rfl) : PE X (.Call (.Name "len" p) [.Call (.Name "set" p2) [a] [] q] [] pos) (tLenSetT X.K ta) := by
  refine ⟨fun pins s σ H Q I h => ?_⟩
  refine Call_ (ld_blt I hg hm boot_len ?_)
  refine PyProof.Rows.callWith_builtin1 (PyProof.Rows.args_cons ?_ rfl) rfl rfl
  refine Call_ (ld_blt I hg2 hm2 boot_set ?_)
  refine PyProof.Rows.callWith_type1 (PyProof.Rows.args_cons (thn (ha.run pins s σ H _ I h) fun v s1 ⟨x, H1, I1, r1, q1⟩ => PyProof.Rows.args_nil ?_) na) na rfl
  obtain ⟨p0, ns, rfl, hq, hl, q1⟩ := q1
  cases r1
  obtain ⟨its, rv, pt, hz⟩ := I1.tuple hq
  have hi : IntsAre its.toArray.toList ns := ints_of_vals rv
  refine call_set_tupI ns (I1.ok.hd hc) (show s1.heap.IsTuple p0 its.toArray from pt) hi (by unfold scanBound; omega) fun h' tk c R1 hcn k => ?_
  refine PyProof.Rows.args_nil ?_
  obtain ⟨o, es, ep, t, ho, hex, hdt, g, nd, hm2, hb, hf, hn, hr, hl2⟩ := R1
  have I2 : Inv X pins σ H1 { s1 with heap := h', toks := tk } := I1.kept fun b o e => k b o e
  have z := q1 (es.toList.map keyOf) nd fun j => by rw [← hm2 j, decide_eq_true_eq]
  rw [List.length_map, Array.length_toList] at z
  exact call_len_set (s := { s1 with heap := h', toks := tk }) ho hex hdt hf (by rw [hn]; omega) ⟨.int es.size, H1, I2.tok _, ⟨_, rfl⟩, z⟩
/-! ### all of a generator expression, by a walk -/
theorem gturns_it {J : It} {n : Nat} {G : Hp → Prop} {Y : Nat → Hp → V → Hp → Prop} (wk : Walk J n G Y) {g : TG} {te : TE} {σw : L2.St} {vs : List Nat} {Q : Bool → Hp → Prop} {H : Hp} (Pv : Nat → Hp → Prop) (h0 : Pv 0 H) (hG : ∀ i H, i ≤ n → Pv i H → G H)
    (hs : ∀ (i : Nat) (x : V) (H H' : Hp) (N : Hp → Prop), i < n → Pv i H → Y i H x H' → (∀ H3, Pv (i + 1) H3 → N H3) → g x σw H' fun σ2 H2 => wipe σ2 vs = σw ∧ te σ2 H2 fun v H3 => ∃ b, v = .bl b ∧ if b = true then N H3 else Q false H3)
    (hd : ∀ H, Pv n H → Q true H) : ∃ W : Nat → Nat → Hp → Prop, (∃ m, W 0 m H) ∧ gTurns J g te σw vs W Q := by
  refine ⟨fun i m H => m = n - i ∧ i ≤ n ∧ Pv i H, ⟨n, rfl, Nat.zero_le _, h0⟩, fun i m H st => ?_⟩
  obtain ⟨em, le, pv⟩ := st
  have q := hG i H le pv
  rcases Nat.lt_or_eq_of_le le with lt | eq
  · refine .inr ⟨wk.goes i H lt q, fun v H' y => ?_⟩
    exact hs i v H H' _ lt pv (wk.yields i H v H' lt q y) fun H3 p' => ⟨n - (i + 1), by omega, rfl, lt, p'⟩
  · subst eq
    exact .inl ⟨wk.stops H q, hd H pv⟩
theorem walk_zipT {K : PySem.W.Frag} {a b : Addr} {xs ys : List V} {n : Nat} (hn : n = min xs.length ys.length) : Walk (RZ.ItzT K a b) n (fun H => SqT K H a xs ∧ SqT K H b ys) (YPair (fun i => xs[i]?) (fun i => ys[i]?)) := by
  subst hn
  refine ⟨fun i _ hi q => ?_, fun _ q => ⟨xs, ys, q.1, q.2, by omega⟩, fun i H v H' _ q y => ?_⟩
  · have h1 : i < xs.length := by omega
    have h2 : i < ys.length := by omega
    exact ⟨xs, ys, xs[i], ys[i], q.1, q.2, by simp [h1], by simp [h2]⟩
  · obtain ⟨T, x, z, h1, h2, h3, h4, h5⟩ := y
    exact ⟨T, x, z, h1, h2, h3, h4 xs q.1, h5 ys q.2⟩

end My
namespace My
open PySem PySem.Spec PyProof.Rows L2
/-! ### enumerate over a tuple -/
theorem enum_tup_new (a : Addr) (its : Array Value) (n : Nat) (dc : Option Addr) (sl : Array (Option Value)) :
    Meets (Builtin.«enumerate.__new__» ⟨[.type "enumerate", .ref a], []⟩) (fun _ R s => s.heap.get? a = some { cls := .type "tuple", dict := dc, data := .seq its n, slots := sl } ∧
      R (.ok (.ret (.ref (s.heap.push { cls := .type "tuple_iterator", data := .fields #[.ref a, .int 0 0] }).objs.size))) { s with heap := (s.heap.push { cls := .type "tuple_iterator", data := .fields #[.ref a, .int 0 0] }).push { cls := .type "enumerate", data := .fields #[.none, .bool false, .ref s.heap.objs.size, rawInt 0, .none, .none] } }) :=
  .of_wp fun prog w A R s h => by
    obtain ⟨hp, g, d, tk, os⟩ := s
    obtain ⟨hl, h⟩ := h
    have hsub := sub_enumerate
    have hT : Heap.IsTuple (Shared.heap ⟨hp, g, d, tk, os⟩) a its := ⟨_, hl, rfl, n, rfl⟩
    wp_walk using AutoSeq1.wpAny_loadPart' hl
    refine wpAny_stack_any (fun stk => wpAny_pure ?_)
    split
    · rename_i cc _ _ _ _ _
      cases (cc == Value.type "enumerate")
      · wp_walk using AutoSeq1.wpAny_loadPart' hl, wpAny_pyIter_tuple hT
        exact ⟨_, rfl, h⟩
      · wp_walk using AutoSeq1.wpAny_loadPart' hl, wpAny_pyIter_tuple hT
        exact ⟨_, rfl, h⟩
    · wp_walk using AutoSeq1.wpAny_loadPart' hl, wpAny_pyIter_tuple hT
      exact ⟨_, rfl, h⟩
theorem call_enum_tup {prog : Program} {w : World} {A : Around} {E : Value → Shared → Prop} {s : Shared} {a : Addr} {its : Array Value} {Q : Value → Shared → Prop} (ht : s.heap.IsTuple a its)
    (h : ∀ h', IsEnum h' (s.heap.objs.size + 1) s.heap.objs.size 0 .none → h'.IsTupleIter s.heap.objs.size a 0 → (∀ b o, s.heap.get? b = some o → h'.get? b = some o) → Q (.ref (s.heap.objs.size + 1)) { s with heap := h' }) :
    wpAny (model prog w) A (call (.type "enumerate") [.ref a]) Q E s := by
  obtain ⟨⟨c, dc, dt, sl⟩, hl, hc, n, hd⟩ := ht
  obtain rfl : c = .type "tuple" := hc
  obtain rfl : dt = .seq its n := hd
  refine callType_new F.called_enumerate (by decide) (F.typeCall_enumerate_1 _) (F.newCall_enumerate_1 _) (fun obj => F.args_object_init_2 obj _) F.entry_enumerate_new (enum_tup_new a its n dc sl) ⟨hl, ?_⟩
  have sz : (s.heap.push { cls := .type "tuple_iterator", data := .fields #[.ref a, .int 0 0] }).objs.size = s.heap.objs.size + 1 := Heap.size_push ..
  show _ ∧ _
  rw [sz]
  have he : IsEnum ((s.heap.push { cls := .type "tuple_iterator", data := .fields #[.ref a, .int 0 0] }).push { cls := .type "enumerate", data := .fields #[.none, .bool false, .ref s.heap.objs.size, rawInt 0, .none, .none] }) (s.heap.objs.size + 1) s.heap.objs.size 0 .none := by
    have z := Heap.get?_push_size (s.heap.push { cls := .type "tuple_iterator", data := .fields #[.ref a, .int 0 0] }) (o := { cls := .type "enumerate", data := .fields #[.none, .bool false, .ref s.heap.objs.size, rawInt 0, .none, .none] }) rfl
    rw [sz] at z
    exact z
  exact ⟨⟨_, he, rfl⟩, h _ he ⟨_, Heap.get?_push_of_some _ (Heap.get?_push_size _ rfl), rfl, rfl⟩ fun b o y => Heap.get?_push_of_some _ (Heap.get?_push_of_some _ y)⟩
/-- the tuple at a, each item in a new pair with its number -/
def ItE (K : PySem.W.Frag) (a : Addr) : It :=
  ⟨fun i H => ∃ (xs : List V) (x : V), SqT K H a xs ∧ xs[i]? = some x,
    fun i H v H' => ∃ (T : Addr) (x : V), v = .ref T ∧ H T = none ∧ H' = upd H T (.tup [.int (i : Nat), x]) ∧ ∀ xs, SqT K H a xs → xs[i]? = some x,
    fun i H => ∃ xs : List V, SqT K H a xs ∧ xs.length = i⟩
theorem turn_enumT {P : Program} {w : World} {K : PySem.W.Frag} {elts : List Expr} {kk : Nat} {tpos : Pos} (a e it : Addr) :
    Turn P w K (.Tuple elts kk tpos) (ItE K a) [e, it] e (fun i h => (∃ old, IsEnum h e it ((i : Nat) : Int) old) ∧ h.IsTupleIter it a i ∧ e ≠ it) where
  mem := List.mem_cons_self
  obj := fun i h st b hb => by
    obtain ⟨⟨old, he⟩, ⟨o, ho, hc, hd⟩, _⟩ := st
    rcases List.mem_cons.mp hb with z | z
    · rw [z]
      exact ⟨_, he, fun v q => nomatch q⟩
    · rw [List.mem_singleton.mp z]
      exact ⟨o, ho, fun v q => by rw [hd] at q; cases q⟩
  keep := fun i h h' st k => by
    obtain ⟨⟨old, he⟩, hi, hne⟩ := st
    exact ⟨⟨old, k e List.mem_cons_self _ he⟩, hi.at fun o q => k it (List.mem_cons_of_mem _ List.mem_cons_self) o q, hne⟩
  item := by
    intro X hP hw hK hc i pins s σ H E I hf st hg
    subst hP hw hK
    obtain ⟨⟨old, he⟩, hit, hne⟩ := st
    obtain ⟨xs, x, hq, hx⟩ := hg
    obtain ⟨its, rv, tp, hz⟩ := I.tuple hq
    obtain ⟨u, hu, ru⟩ := rv.get hx
    have ea : e ≠ a := fun z => by
      obtain ⟨o, h1, h2, _⟩ := id tp
      have he2 : s.heap.get? e = some _ := he
      rw [z, h1] at he2
      rw [Option.some.inj he2] at h2
      injection h2 with z2
      exact absurd z2 (by decide)
    have ia : a ≠ it := fun z => by
      obtain ⟨o, h1, h2, _⟩ := id tp
      obtain ⟨o2, g1, g2, _⟩ := id hit
      rw [← z, h1] at g1
      rw [Option.some.inj g1, g2] at h2
      injection h2 with z2
      exact absurd z2 (by decide)
    have hel : e < s.heap.objs.size := Heap.lt_size he
    have hil : it < s.heap.objs.size := by
      obtain ⟨_, q, _⟩ := id hit
      exact Heap.lt_size q
    have hui : its.toArray[i]? = some u := by simpa using hu
    have hlt : i < its.toArray.size := (Array.getElem?_eq_some_iff.mp hui).1
    refine wpAny_pyNext_enum_itemD (Draws.tuple (A := X.A.in1) (I.ok.hd hc) it a ia its.toArray) he ⟨hit, tp⟩ hlt hne (fun z => ?_) fun y h' tk hy ho st' hT hsz hk => ?_
    · rcases List.mem_cons.mp z with z | z
      · exact hne z
      · exact ea (List.mem_singleton.mp z)
    · have ey : y = u := by
        have hy2 : its.toArray[i]? = some y := hy
        rw [hui] at hy2
        exact (Option.some.inj hy2).symm
      subst ey
      refine ⟨_, rfl, wpAny_letOwnedTupleGo_enum (s := { s with heap := h', toks := tk + 1 }) ho fun h'' he' sb => ?_⟩
      have hT2 : h''.get? s.heap.objs.size = some { cls := .type "tuple", data := .seq #[.int i tk, y] } := (sb.2 _ (Nat.ne_of_gt hel)).trans hT
      have new : ObjOk X.prog X.w (upd H s.heap.objs.size (.tup [.int (i : Nat), x])) h'' s.heap.objs.size (.tup [.int (i : Nat), x]) :=
        ⟨by show 2 ≤ sizeLine; decide, [.int i tk, y], .cons ⟨_, rfl⟩ (.cons ru .nil), ⟨_, hT2, rfl, _, rfl⟩⟩
      have fr : ∀ b ob, b ∉ [e, it] → s.heap.get? b = some ob → h''.get? b = some ob := fun b ob hb q => by
        have n1 : b ≠ e := fun z => hb (z ▸ List.mem_cons_self)
        have n2 : b ≠ it := fun z => hb (z ▸ List.mem_cons_of_mem _ List.mem_cons_self)
        exact (sb.2 b n1).trans (hk b ob n1 n2 q)
      have I1 : Inv X pins σ (upd H s.heap.objs.size (.tup [.int (i : Nat), x])) { s with heap := h'', toks := tk + 1 } := I.turnedNew (ch := [e, it]) fr hf (Nat.le_refl _) new
      refine ⟨.ref s.heap.objs.size, _, I1, rfl, ⟨_, x, rfl, I.hok.fresh (Nat.le_refl _), rfl, fun ys hy => by rw [I.tuple_inj hy hq]; exact hx⟩, ⟨⟨y, ?_⟩, (st'.1).at fun o q => (sb.2 it (Ne.symm hne)).trans q, hne⟩, fun b hb => ?_⟩
      · have e1 : ((i + 1 : Nat) : Int) = (i : Int) + 1 := by omega
        rw [e1]
        exact he'
      · have hb' : b < s.heap.objs.size := by
          rcases List.mem_cons.mp hb with z | z
          · rw [z]
            exact hel
          · rw [List.mem_singleton.mp z]
            exact hil
        rw [upd_ne (Nat.ne_of_lt hb')]
        exact (hf b hb).1
  done := by
    intro X hP hw hK hc i pins s σ H E I hf st hg
    subst hP hw hK
    obtain ⟨⟨old, he⟩, hit, hne⟩ := st
    obtain ⟨xs, hq, hx⟩ := hg
    obtain ⟨its, rv, tp, hz⟩ := I.tuple hq
    obtain ⟨f0, f1, f2, f3, f4, f5⟩ := hf it (List.mem_cons_of_mem _ List.mem_cons_self)
    have ia : a ≠ it := fun z => by
      obtain ⟨o, h1, h2, _⟩ := id tp
      obtain ⟨o2, g1, g2, _⟩ := id hit
      rw [← z, h1] at g1
      rw [Option.some.inj g1, g2] at h2
      injection h2 with z2
      exact absurd z2 (by decide)
    have hl : i = its.toArray.size := by
      rw [List.size_toArray, ← rv.length, hx]
    subst hl
    exact wpAny_pyNext_enum_endD (Draws.tuple (A := X.A.in1) (I.ok.hd hc) it a ia its.toArray) he ⟨hit, tp⟩ fun h' eb => ⟨rfl, I.turned (t' := s.toks) (fun b o hb q => eb b o hb q) f0 f1 f3 f4 f5⟩
  self := fun A i s Q E st h => by
    obtain ⟨⟨_, he⟩, _⟩ := st
    exact wpAny_pyIter_enum he h
def iEnumT (K : PySem.W.Frag) (ta : TA) : TI := fun σ H R => ta σ H fun vs H1 => ∃ (a : Addr) (xs : List V), vs = [.ref a] ∧ SqT K H1 a xs ∧ R (ItE K a) H1
theorem pi_enumT {X : Cx} {e : Expr} {ta : TA} {p pos tpos : Pos} {elts : List Expr} {kk : Nat} (hg : Gl X "enumerate") (hm : X.mg "enumerate" = none) (ha : PA X [e] ta) (hs : starEach [e] X.env = [(false, eval e X.env)] := by rfl) :
    PI X (.Tuple elts kk tpos) (.Call (.Name "enumerate" p) [e] [] pos) (iEnumT X.K ta) := by
  constructor
  intro pins s σ H R I h
  refine Call_ (ld_blt I hg hm boot_enumerate (PyProof.Rows.callWith_type1 (thn (ha.run pos pins s σ H _ I h) fun us s1 z => ?_) hs rfl))
  obtain ⟨vs, H1, I1, r1, a, xs, rfl, hq, q⟩ := z
  obtain ⟨u, rfl, r⟩ := vals1 r1
  obtain rfl : u = Value.ref a := r
  obtain ⟨its, rv, tp, hz⟩ := I1.tuple hq
  refine call_enum_tup tp fun h' he hit hk => wpAny_pyIter_enum he ?_
  have I2 : Inv X pins σ H1 { s1 with heap := h' } := I1.kept (t' := s1.toks) hk
  refine ⟨s1.heap.objs.size + 1, [s1.heap.objs.size + 1, s1.heap.objs.size], _, _, H1, rfl, I2, turn_enumT a (s1.heap.objs.size + 1) s1.heap.objs.size, ⟨⟨.none, he⟩, hit, Nat.succ_ne_self _⟩, fun b hb => ?_, q⟩
  have hle : s1.heap.objs.size ≤ b := by
    rcases List.mem_cons.mp hb with z | z
    · rw [z]
      exact Nat.le_succ _
    · rw [List.mem_singleton.mp z]
      exact Nat.le_refl _
  exact I1.fpOk hle (I1.hok.fresh hle)
theorem walk_enumT {K : PySem.W.Frag} {a : Addr} {xs : List V} : L2.Walk (ItE K a) xs.length (fun H => SqT K H a xs) (YPair (fun i => some (.int (i : Nat))) (fun i => xs[i]?)) := by
  refine ⟨fun i _ hi q => ⟨xs, xs[i], q, List.getElem?_eq_getElem hi⟩, fun _ q => ⟨xs, q, rfl⟩, fun i H v H' _ q y => ?_⟩
  obtain ⟨T, x, h1, h2, h3, h4⟩ := y
  exact ⟨T, .int (i : Nat), x, h1, h2, h3, rfl, h4 xs q⟩

/-! ### sorted of a dict's keys, of a tuple: ints, any number of them -/
section
variable {X : Cx}
theorem call_sortedDX (hcalm : X.calm = true) : CallR X (.builtin "sorted") (fun xs H Q => ∃ (a : Addr) (kvs : List (Key × V)) (ks : List Int), xs = [.ref a] ∧ Rd H a (.dK kvs) ∧ kvs.map (·.1) = ks.map Sum.inl ∧ ks.length ≤ 100000 ∧
    ∀ (ys : List Int) (p : Addr), ys.Perm ks → ys.Pairwise (· ≤ ·) → H p = none → Q (.ref p) (upd H p (.lst (ys.map V.int)))) := by
  intro pins s σ H xs us Q I r q
  obtain ⟨a, kvs, ks, ex, hd, hks, hz, q⟩ := q
  subst ex
  obtain ⟨u, eu, rx⟩ := vals1 r
  subst eu
  cases rx
  obtain ⟨z, lo, vs, rel, dd⟩ := dk_rd I.hok hd
  obtain ⟨ep, hat⟩ := dd.dictAt
  have hkeys : vs.map (·.1) = ks.map Sum.inl := rel.keys.symm.trans hks
  have hl : vs.length = ks.length := by
    have e := congrArg List.length hkeys
    rw [List.length_map, List.length_map] at e
    exact e
  refine Calls.call_function_entry PyProof.Rows.kind_sorted PyProof.Rows.plain_sorted PyProof.Rows.entry_sorted (PyProof.Rows.args_sorted1 _) ?_
  unfold Builtin.«sorted»
  refine wpAny_bind (m := checkCount "sorted" 1 1 _) (wpAny_pure ?_)
  refine wpAny_bind (PySem.W.kdu_collect (A := X.A.in1) (PySem.W.kdl_dict (knd := mixKind X.prog X.w) (kvs := vs) (ep := ep) lo) (I.ok.hd hcalm) hat (by rw [hl]; exact sz hz) fun h' tk acc hk hacc => ?_)
  have hal : acc.toList.length = ks.length := by rw [Array.length_toList, hacc.1, hl]
  have hS : PyProof.Rows.IntsAre acc.toList ks := ints_each hal fun j v e => by
    obtain ⟨k, x, e1, e2⟩ := hacc.2 j v (by rw [← Array.getElem?_toList]; exact e)
    have e3 : (vs.map (·.1))[j]? = some k := by rw [List.getElem?_map, e1]; rfl
    rw [hkeys, List.getElem?_map] at e3
    cases e4 : ks[j]? with
    | none => rw [e4] at e3; cases e3
    | some y =>
      rw [e4] at e3
      have e5 : Sum.inl y = k := Option.some.inj e3
      subst e5
      rcases keyIs_shape (show keyIs (Sum.inl y) v = true from e2) with ⟨i, t, ek, ev⟩ | ⟨z, t, ek, ev⟩
      · cases ek
        exact ⟨y, t, rfl, ev⟩
      · cases ek
  have I1 : Inv X pins σ H { s with heap := h', toks := tk } := I.kept hk
  refine wpAny_bind (wpAny_newList ?_ (by rw [hal]; exact sz hz))
  have hoL : (h'.push (seqObj "list" acc.toList.toArray 0)).get? h'.objs.size = some (seqObj "list" acc.toList.toArray 0) := Heap.get?_push_size _ rfl
  show wpAny _ _ _ _ _ { s with heap := h'.push (seqObj "list" acc.toList.toArray 0), toks := tk }
  refine wpAny_bind (wpAny_holding (wpAny_call_entry PyProof.Rows.slot_list_sort ⟨_, hoL, rfl⟩ PyProof.Rows.entry_list_sort
    (SrtO.list_sort_ord (s := { s with heap := h'.push (seqObj "list" acc.toList.toArray 0), toks := tk }) SrtO.swo_int hoL (by rw [hal]; exact sz hz) (fun h2 => SrtO.ints_sortable hS h2) fun out h1 h2 => ⟨_, rfl, ?_⟩) (PyProof.Rows.args_list_sort _)))
  obtain ⟨k1, k2, k3⟩ := SrtO.ints_out hS h1 h2
  obtain ⟨e', he'⟩ := PyProof.Rows.sortedHeap_at (vs := acc.toList) (out := out.toArray) hoL
  have hlen : ((out.map SrtO.iv).map V.int).length ≤ sizeLine := by
    rw [List.length_map, k2.length_eq]
    exact sz hz
  refine wpAny_pure ⟨_, rfl, .ref h'.objs.size, upd H h'.objs.size (.lst ((out.map SrtO.iv).map V.int)), I1.laid (t' := tk) (fun b u e => ?_) (Nat.le_refl _)
    (show ObjOk X.prog X.w _ _ _ (.lst ((out.map SrtO.iv).map V.int)) from ⟨hlen, out, e', vals_of_ints k1, he'⟩), rfl, q _ _ k2 k3 (I1.hok.fresh (Nat.le_refl _))⟩
  have hb : b < h'.objs.size := Heap.lt_size e
  rw [PyProof.Rows.sortedHeap_old (Nat.ne_of_lt hb) (by rw [size_push']; exact Nat.lt_succ_of_lt hb)]
  exact Heap.get?_push_of_some _ e
end

/-! ### t[::-1] of a tuple -/
theorem adjust_rev (n : Nat) : Builtin.Slice.sliceAdjust none none (-1) (n : Int) = ((n : Int) - 1, -1) := by
  first
  | rfl
  | (unfold Builtin.Slice.sliceAdjust; simp)
theorem places_rev (n : Nat) : Builtin.Slice.slicePlaces ((n : Int) - 1) (-1) (-1) = n := by
  unfold Builtin.Slice.slicePlaces
  have h1 : ¬ ((-1 : Int) > 0) := by decide
  simp only [h1, if_false]
  by_cases h : (n : Int) - 1 > -1
  · rw [if_pos (by omega)]
    have e : ((n : Int) - 1 - -1 - 1) / (- -1) = (n : Int) - 1 := by
      rw [show (- -1 : Int) = 1 by decide, Int.ediv_one]
      omega
    omega
  · rw [if_neg (by omega)]
    omega
theorem filterMap_ext {α β : Type} {f g : α → Option β} : ∀ {l : List α}, (∀ x ∈ l, f x = g x) → l.filterMap f = l.filterMap g
  | [], _ => rfl
  | x :: l, h => by
    rw [List.filterMap_cons, List.filterMap_cons, h x List.mem_cons_self, filterMap_ext fun y hy => h y (List.mem_cons_of_mem _ hy)]
theorem pick_rev (xs : Array Value) : ((List.range xs.size).filterMap fun (m : Nat) => xs[(((xs.size : Int) - 1) + (m : Int) * (-1)).toNat]?).toArray = xs.toList.reverse.toArray := by
  have e : (List.range xs.size).filterMap (fun (m : Nat) => xs[(((xs.size : Int) - 1) + (m : Int) * (-1)).toNat]?) = ((List.range xs.size).map fun k => xs.size - 1 - k).filterMap (xs[·]?) := by
    rw [List.filterMap_map]
    refine filterMap_ext fun m hm => ?_
    have := List.mem_range.mp hm
    show xs[(((xs.size : Int) - 1) + (m : Int) * (-1)).toNat]? = xs[xs.size - 1 - m]?
    have e2 : (((xs.size : Int) - 1) + (m : Int) * (-1)).toNat = xs.size - 1 - m := by omega
    rw [e2]
  rw [e, PySem.W.krv_range, List.filterMap_reverse, PySem.W.krv_all]
theorem sliceApplied_rev {prog : Program} {w : World} {A : Around} {E : Value → Shared → Prop} {s : Shared} {sl : Addr} {vl vu vs : Value} {n : Nat} {Q : Int × Int × Nat → Shared → Prop} (hs : s.heap.IsSliceOf sl vl vu vs) (pl : PySem.IsPart vl none) (pu : PySem.IsPart vu none) (ps : PySem.IsPart vs (some (-1)))
    (h : Q ((n : Int) - 1, -1, n) s) : wpAny (model prog w) A (Builtin.Slice.sliceApplied (.ref sl) (pure (n : Int))) Q E s := by
  obtain ⟨os, hos, hcs, hds⟩ := id hs
  unfold Builtin.Slice.sliceApplied Builtin.Slice.sliceFields
  refine wpAny_bind (wpAny_bind (wpAny_field hos hds (x := vl) rfl (wpAny_bind (wpAny_field hos hds (x := vu) rfl (wpAny_bind (wpAny_field hos hds (x := vs) rfl (wpAny_pure ?_)))))))
  refine wpAny_bind (HT.slicePart_ ps ?_)
  show wpAny _ _ (if ((-1 : Int) == 0) = true then _ else _) _ _ s
  rw [if_neg (by decide)]
  refine wpAny_bind (HT.slicePart_ pl (wpAny_bind (HT.slicePart_ pu (wpAny_bind (wpAny_pure ?_)))))
  show wpAny _ _ (match Builtin.Slice.sliceAdjust none none (-1) (n : Int) with | (lo, hi) => pure (lo, (-1 : Int), Builtin.Slice.slicePlaces lo hi (-1))) _ _ s
  rw [adjust_rev]
  show wpAny _ _ (pure ((n : Int) - 1, (-1 : Int), Builtin.Slice.slicePlaces ((n : Int) - 1) (-1) (-1))) _ _ s
  rw [places_rev]
  exact wpAny_pure h
theorem getItem_revT {prog : Program} {w : World} {A : Around} {E : Value → Shared → Prop} {s : Shared} {t sl : Addr} {items : Array Value} {vl vu vs : Value} {Q : Value → Shared → Prop} (ht : IsTup s.heap t items) (hs : s.heap.IsSliceOf sl vl vu vs) (pl : PySem.IsPart vl none) (pu : PySem.IsPart vu none) (ps : PySem.IsPart vs (some (-1)))
    (h : Q (.ref s.heap.objs.size) { s with heap := s.heap.push { cls := .type "tuple", data := .seq items.toList.reverse.toArray } }) (hsz : items.size ≤ sizeLine) : wpAny (model prog w) A (getItem (.ref t) (.ref sl)) Q E s := by
  obtain ⟨os, hos, hcs, hds⟩ := id hs
  have hTs : s.TypeIs (.ref sl) "slice" := ⟨os, hos, hcs⟩
  have htake : sizeOk (.seq items.toList.reverse.toArray) := by
    show items.toList.reverse.toArray.size ≤ sizeLine
    rw [List.size_toArray, List.length_reverse, Array.length_toList]
    exact hsz
  unfold getItem
  try with_reducible refine wpAny_holding ?_
  first | refine wpAny_bind (wpAny_pure ?_) | skip
  refine wpAny_bind (wpAny_sequenceKey ht.typeIs (by decide) ?_)
  refine wpAny_bind (wpAny_callSpecial?_slot (name := Str.ofString "__getitem__") ht.typeIs PyProof.Rows.slot_tuple_getitem
    (wpAny_call_entry PyProof.Rows.slot_tuple_getitem ht.typeIs PyProof.Rows.entry_tuple_getitem ?_ (PyProof.Rows.args_tuple_getitem _ _)))
  show wpAny _ _ (Builtin.Tuple.tupleItemsOf (.ref t) >>= _) _ _ s
  refine wpAny_bind (tupleItemsOf_ ht ?_)
  refine wpAny_bind (wpAny_typeOf hTs ?_)
  rw [if_pos (by decide)]
  refine wpAny_bind (sliceApplied_rev hs pl pu ps ?_)
  show wpAny _ _ (if ((((items.size : Int) - 1) == 0) && ((-1 : Int) == 1) && (items.size == items.size)) = true then _ else _) _ _ s
  rw [if_neg (by rw [show ((-1 : Int) == 1) = false from rfl, Bool.and_false, Bool.false_and]; decide), pick_rev]
  first
    | exact wpAny_bind (m := Builtin.Tuple.tupleExact _) (wpAny_newObj_type (wpAny_pure ⟨_, rfl, wpAny_pure h⟩) htake)
    | exact wpAny_bind (m := Builtin.Tuple.tupleExact _) (wpAny_newObj_type (wpAny_bind (wpAny_pure (wpAny_pure ⟨_, rfl, wpAny_pure h⟩))) htake)
    | exact wpAny_bind (wpAny_bind (m := Builtin.Tuple.tupleExact _) (wpAny_newObj_type (wpAny_pure (wpAny_pure ⟨_, rfl, wpAny_pure h⟩)) htake))
    | exact wpAny_bind (wpAny_bind (m := Builtin.Tuple.tupleExact _) (wpAny_newObj_type (wpAny_pure ⟨_, rfl, wpAny_pure h⟩) htake))
section
variable {X : Cx}
def tRevT (K : PySem.W.Frag) (te : TE) : TE := fun σ H Q => te σ H fun x H1 => ∃ a xs, x = .ref a ∧ SqT K H1 a xs ∧ ∀ p, H1 p = none → Q (.ref p) (upd H1 p (.tup xs.reverse))
theorem pe_revT {e : Expr} {te : TE} {k : Nat} {p1 p2 p3 pos : Pos} (he : PE X e te) : PE X (.Subscript e (.Slice none none (some (.UnaryOp .USub (.Constant (.int 1) k p1) p2)) p3) pos) (tRevT X.K te) := by
  refine ⟨fun pins s σ H Q I h => ?_⟩
  refine Subscript_ (thn (he.run pins s σ H _ I h) fun v s1 ⟨x, H1, I1, r1, q1⟩ => ?_)
  obtain ⟨a, xs, ex, hx, q⟩ := q1
  subst ex
  cases r1
  have hst : PO X (some (.UnaryOp .USub (.Constant (.int 1) k p1) p2)) (tPart (tUn (rU fun i => .int (-i)) (tC (.int 1)))) := po_some (pe_un un_neg pe_int)
  refine wpAny_Slice (thn (po_none.run pins s1 σ H1 (fun o H2 => o = none ∧ H2 = H1) I1 ⟨rfl, rfl⟩) fun vl s2 ⟨l, H2, I2, pl, el, e2⟩ => ?_)
  subst el e2
  refine thn (po_none.run pins s2 σ H2 (fun o H3 => o = none ∧ H3 = H2) I2 ⟨rfl, rfl⟩) fun vu s3 ⟨u, H3, I3, pu, eu, e3⟩ => ?_
  subst eu e3
  refine thn (hst.run pins s3 σ H3 (fun o H4 => o = some (-1) ∧ H4 = H3) I3 ⟨1, rfl, -1, rfl, rfl, rfl⟩) fun vs s4 ⟨o, H4, I4, ps, eo, e4⟩ => ?_
  subst eo e4
  have I5 : Inv X pins σ H4 { s4 with heap := s4.heap.push { cls := .type "slice", data := .fields #[vl, vu, vs] } } := I4.kept (t' := s4.toks) fun b ob q => Heap.get?_push_of_some _ q
  obtain ⟨its, r, ht, hz⟩ := I5.tuple hx
  have hlen := r.length
  show wpAny (model X.prog X.w) X.A (subscriptTail e (.Slice none none (some (.UnaryOp .USub (.Constant (.int 1) k p1) p2)) p3) (.ref a) (.ref s4.heap.objs.size)) (EP X pins σ Q) X.xe { s4 with heap := s4.heap.push { cls := .type "slice", data := .fields #[vl, vu, vs] } }
  refine tail_any (ops := [.ref a, .ref s4.heap.objs.size]) ht.typeIs (PyProof.Rows.slot_tuple_getitem.lookup) ?_ (by with_unfolding_all rfl)
  refine getItem_revT ht (Heap.IsSliceOf.new _ vl vu vs) pl pu ps ?_ (by rw [List.size_toArray]; omega)
  refine ⟨.ref _, _, I5.laid (t' := s4.toks) (o := .tup xs.reverse) (fun b ob q => Heap.get?_push_of_some _ q) (Nat.le_refl _) ?_, rfl, q _ (I5.hok.fresh (Nat.le_refl _))⟩
  exact ⟨by rw [List.length_reverse]; exact hz, _, r.reverse, IsTup.new _ _⟩
end

/-! ### a list's method within a block -/
theorem mt_countBK {X : Cx} {K : PySem.W.Frag} (hK : X.K = K) : MtR X "list.count" (rCntB K) := by
  subst hK
  exact mt_countB
theorem call_isiK {X : Cx} {K : PySem.W.Frag} (hK : X.K = K) : CallR X (.builtin "isinstance") (rIsi K) := by
  subst hK
  exact call_isi
theorem pe_bmK {X : Cx} {K : PySem.W.Frag} (hK : X.K = K) {o e : Expr} {es : List Expr} {to : TE} {t : TA} {name : Str} {apos cpos : Pos} {T id : String} {r : V → List V → Hp → VK → Prop} (pa : PlainAttrs T) (slot : Slot T name id) (hty : typeOf (.builtin id) = pure (.type "method_descriptor")) (hm : MtR X id r) (ho : PE X o to) (ha : PA X (e :: es) t)
    (hbase : attributeBase o name X.env (eval o X.env) = eval o X.env := by rfl)
    (hfew : ((backTo cpos (starEach (e :: es) X.env)).all (fun x => !x.1) && (backToKw cpos (keywordEach [] X.env)).all (fun x => x.1.isSome)
      && decide ((e :: es).length + ([] : List Keyword).length + (if ([] : List Keyword).isEmpty then 0 else 1) < 30)) = true := by rfl)
    (hline : (apos.endLine == cpos.line) = true := by rfl) (hs : starEach (e :: es) X.env = (false, eval e X.env) :: starEach es X.env := by rfl) (hplain : (backTo cpos (starEach es X.env)).any (·.1) = false := by rfl) :
    PE X (.Call (.Attribute o name apos) (e :: es) [] cpos) (tBM K T r to t) := by
  subst hK
  exact pe_bm pa slot hty hm ho ha hbase hfew hline hs hplain

/-! ### rules within a block, the written part by its own letter -/
theorem ix_tupK {X : Cx} {K : PySem.W.Frag} (hK : X.K = K) : IxR X (rIxT K) := by
  subst hK
  exact ix_tup
theorem ix_listK {X : Cx} {K : PySem.W.Frag} (hK : X.K = K) : IxR X (rIxL K) := by
  subst hK
  exact ix_list
theorem call_len_seqK {X : Cx} {K : PySem.W.Frag} (hK : X.K = K) : CallR X (.builtin "len") (fun xs H Q => ∃ p ys, xs = [.ref p] ∧ (SqL K H p ys ∨ SqT K H p ys) ∧ Q (.int ys.length) H) := by
  subst hK
  exact call_len_seq
theorem pe_fldK {X : Cx} {K : PySem.W.Frag} {e : Expr} {ta : TE} {f : Str} {pos : Pos} (hK : X.K = K) (he : PE X e ta) (hb : attributeBase e f X.env (eval e X.env) = eval e X.env) : PE X (.Attribute e f pos) (tFld K ta f) := by
  subst hK
  exact pe_fld he hb

/-! ### what is made on the spot, locked for good -/
def tFrz (t : TE) : TE := fun σ H Q => t σ H fun v H1 => ∃ d u, v = .ref d ∧ H1 d = some u ∧ Mut (some u) ∧ ∀ od, Q v (upd H1 d (.frz od u))
theorem pe_frz {X : Cx} {e : Expr} {t : TE} (h : PE X e t) : PE X e (tFrz t) := by
  refine ⟨fun pins s σ H Q I hw => ?_⟩
  refine thn (h.run pins s σ H _ I hw) fun v s1 ⟨x, H1, I1, r, d, u, ex, hd, mu, q⟩ => ?_
  obtain ⟨od, I2⟩ := I1.lock hd mu
  exact ⟨x, _, I2, r, q od⟩
theorem call_list_ofK {X : Cx} {K : PySem.W.Frag} (hK : X.K = K) : CallR X (.type "list") (fun xs H Q => ∃ p ys, xs = [.ref p] ∧ (SqL K H p ys ∨ SqT K H p ys) ∧ ∀ l, H l = none → Q (.ref l) (upd H l (.lst ys))) := by
  subst hK
  exact call_list_of
theorem sl_tupK {X : Cx} {K : PySem.W.Frag} (hK : X.K = K) : SlR X (rSlT K) := by
  subst hK
  exact sl_tup
/-- a dict comprehension over any walk -/
theorem dcI_it {J : It} {n : Nat} {G : Hp → Prop} {Y : Nat → Hp → V → Hp → Prop} (w : Walk J n G Y) {g : TG} {tt : TT} {tk tv : TE} {vs : List Nat} {σ : L2.St} {H1 : Hp} {D : Addr} {Qd : Hp → Prop} (Pv : Nat → Hp → Prop) (h0 : Pv 0 (upd H1 D (.dK []))) (hG : ∀ i H, i ≤ n → Pv i H → G H)
    (hs : ∀ i x H H', i < n → Pv i H → Y i H x H' → g x (wipe σ vs) H' fun σ2 H2 => wipe σ2 vs = wipe σ vs ∧ tt σ2 H2 fun b H3 =>
      if b = true then tk σ2 H3 fun y H4 => tv σ2 H4 fun z H5 => ∃ kvs k, y = kV k ∧ H5 D = some (.dK kvs) ∧ kvs.length < sizeLine ∧ Pv (i + 1) (upd H5 D (.dK (putK kvs k z))) else Pv (i + 1) H3) (hd : ∀ H, Pv n H → Qd H) :
    ∃ W : Nat → Nat → Hp → Prop, (∃ m, W 0 m (upd H1 D (.dK []))) ∧ ∀ i m H, W i m H →
      (J.stop i H ∧ Qd H) ∨ (J.go i H ∧ ∃ Nx : Hp → Prop, (∀ H', Nx H' → ∃ m', m' < m ∧ W (i + 1) m' H') ∧ ∀ x H', J.yld i H x H' → g x (wipe σ vs) H' fun σ2 H2 => wipe σ2 vs = wipe σ vs ∧ tt σ2 H2 fun b H3 =>
        if b = true then tk σ2 H3 fun y H4 => tv σ2 H4 fun z H5 => ∃ kvs k, y = kV k ∧ H5 D = some (.dK kvs) ∧ kvs.length < sizeLine ∧ Nx (upd H5 D (.dK (putK kvs k z))) else Nx H3) := by
  refine ⟨fun i m H => m = n - i ∧ i ≤ n ∧ Pv i H, ⟨n, by simp, Nat.zero_le _, h0⟩, ?_⟩
  rintro i m H ⟨rfl, hi, p⟩
  have q := hG i H hi p
  by_cases hlt : i < n
  · refine .inr ⟨w.goes i H hlt q, Pv (i + 1), fun H' p' => ⟨n - (i + 1), by omega, rfl, hlt, p'⟩, fun x H' y => hs i x H H' hlt p (w.yields i H x H' hlt q y)⟩
  · have e : i = n := by omega
    subst e
    exact .inl ⟨w.stops H q, hd H p⟩
/-- a dict comprehension bound to a name of the def -/
theorem sw_trueD {kx vx : Expr} {gens : List Comprehension} {scope : Scope} {pos np : Pos} {nm : Str} {ln : Nat} {env : Env} (fk : env.scope.kind = .function) (fy : env.scope.names.lookup nm = some .local) (fl : (np.line == pos.line) = true)
    (fa : (scope.names.any fun (n, k) => n == nm && (k == .local || k == .cell)) = false) : swapsWith (.DictComp kx vx gens scope pos) (some (.Name nm np)) ln env = pure true := by
  have e1 : env.kindOf nm = some .local := fy
  have e2 : env.blockKind = .function := by
    unfold Env.blockKind
    rw [fk]
    rfl
  unfold swapsWith
  simp only [e2, e1, fa, Expr.pos, fl]
  rfl
theorem ps_setDc {X : Cx} {j : Nat} {nm : Str} {np : Pos} {kx vx tg iter : Expr} {ifs : List Expr} {scope : Scope} {own : List (Str × Nat)} {pos stp : Pos} {wi : TI} {g : TG} {tt : TT} {tk tv : TE} (calm : X.calm = true) (nodup : X.N.Nodup) (at' : X.N[j]? = some nm) (loc : X.env.scope.names.lookup nm = some .local)
    (sw : swapsWith (.DictComp kx vx [⟨tg, iter, ifs, 0⟩] scope pos) (some (.Name nm np)) stp.line X.env = pure true) (src : PI X tg iter wi) (blk : BlkOk X.N X.env.scope scope own)
    (fg : ∀ (z : Shared) (M : Hp) (C : Addr) (cl : List (Str × Addr)) (fp : List Addr), PG (X.blk z M scope (compEnvC scope cl C X.env) fp) tg g) (ft : ∀ (z : Shared) (M : Hp) (C : Addr) (cl : List (Str × Addr)) (fp : List Addr), PTs (X.blk z M scope (compEnvC scope cl C X.env) fp) ifs tt)
    (fk : ∀ (z : Shared) (M : Hp) (C : Addr) (cl : List (Str × Addr)) (fp : List Addr), PE (X.blk z M scope (compEnvC scope cl C X.env) fp) kx tk) (fv : ∀ (z : Shared) (M : Hp) (C : Addr) (cl : List (Str × Addr)) (fp : List Addr), PE (X.blk z M scope (compEnvC scope cl C X.env) fp) vx tv)
    (fs : ∀ x, foldedSetIterable iter X.env x = pure x := by intro _; rfl) :
    PS X (.Assign [.Name nm np] (.DictComp kx vx [⟨tg, iter, ifs, 0⟩] scope pos) stp) (tAsg (tDc wi g tt tk tv (own.map (·.2))) (gName j)) := by
  refine ⟨fun pz z0 σ0 M0 D0 J0 hq => ?_⟩
  rw [exec_Assign_Name_used _ _ _ _ sw]
  refine wpAny_bind (wpAny_standAt (wpAny_bind ?_))
  show wpAny _ X.A (do let _ ← comprehension (.DictComp kx vx [⟨tg, iter, ifs, 0⟩] scope pos) scope X.env (firstIterPos [⟨tg, iter, ifs, 0⟩] pos) newDict false (eval iter X.env) (some (assign (.Name nm np) X.env))) _ _ z0
  have hq2 : tDc wi g tt tk tv (own.map (·.2)) σ0 M0 (fun x M1 => gName j x σ0 M1 D0.nx) := hq
  refine wpAny_bind (thn (dc_core (Qf := fun _ z9 => SP X pz D0 .next z9) calm nodup J0 src blk fg ft fk fv fs hq2 fun Lz Cz z8 mz M8 J8 w8 n8 p8 => ?_) fun _ z9 w9 => wpAny_pure (wpAny_pure w9))
  show wpAny _ _ (assign (.Name nm np) X.env (.ref Lz)) _ _ _
  refine wpAny_assign_Name (store_ok2 (v := V.ref Lz) J8 nodup at' (.inl loc) rfl (fun z7 J7 ⟨az, sbz, haz⟩ => ?_) (.inr loc))
  obtain ⟨p0, p1, p2, p3, p4, p5⟩ := p8
  have far : Cz ≠ az := haz.elim (fun z => by rw [z]; exact p1) fun z e => p4 nm az z e.symm
  refine ⟨mz, n8.sameBut sbz far, fun h6 sb6 => ?_⟩
  exact ⟨_, M8, J7.turned (t' := z7.toks) (fun b o hb e => (sb6.2 b hb).trans e) p0 p1 p3 p4 p5, w8⟩

/-! ### list.extend(tuple) -/
theorem list_extend_tup (l : Addr) (items : Array Value) (n : Nat) (b : Addr) (items2 : Array Value) (hs0 : ¬(!items.isEmpty && Builtin.List.listTooLong (items.size + items2.size)) = true) (hs1 : items.size ≤ sizeLine) (hs2 : items.size + items2.size ≤ sizeLine + 1) :
    Meets (Builtin.«list.extend» ⟨[.ref l, .ref b], []⟩) (fun _ R s => s.heap.get? l = some { cls := .type "list", dict := none, data := .seq items n, slots := #[] } ∧ IsTup s.heap b items2 ∧ R (.ok (.ret Value.none)) { s with heap := s.heap.update l (Obj.mapSeq fun x => x ++ items2), toks := s.toks }) :=
  .of_wp fun prog w A R s h => by
    obtain ⟨hp, g, d, tk, os⟩ := s
    obtain ⟨hl, ⟨⟨c2, d2, dt2, sl2⟩, hb, hc, n2, hd⟩, h⟩ := h
    dsimp only at hc hd
    subst hc hd
    have f1 := PySem.AutoSeq1.idx_int
    have f2 := PySem.AutoSeq1.sub_tuple_tuple
    have f3 := PySem.AutoSeq1.sub_list_list
    have f4 := PySem.AutoSeq1.sub_tuple_list
    have f5 := PySem.AutoSeq1.sub_list_tuple
    have hz' : (items ++ items2).size ≤ sizeLine + 1 := by rw [Array.size_append]; exact hs2
    wp_walk using (PySem.wpAny_updateSeq hl rfl (hz := hs1) (_hz' := hz')), PySem.AutoSeq1.wpAny_loadPart' hl, PySem.AutoSeq1.wpAny_loadPart' hb
    exact ⟨_, rfl, h⟩
def rExtendT (K : PySem.W.Frag) : V → List V → Hp → VK → Prop := fun x vs H Q => ∃ l b xs zs, x = .ref l ∧ vs = [.ref b] ∧ H l = some (.lst xs) ∧ SqT K H b zs ∧ xs.length + zs.length ≤ sizeLine ∧ Q .non (upd H l (.lst (xs ++ zs)))
theorem mt_extendT {X : Cx} : MtM X "list.extend" (rExtendT X.K) := by
  intro pins s σ H x vs v us Q I rx rv h
  obtain ⟨l, b, xs, zs, rfl, rfl, hH, hB, hz, q⟩ := h
  cases rx
  obtain ⟨u, rfl, ru⟩ := rv.one
  cases ru
  obtain ⟨z, its, n, r, hl, e⟩ := I.lstM hH
  obtain ⟨its2, r2, t2, z2⟩ := I.tuple hB
  have hl2 := r2.length
  have hsz : its.toArray.size + its2.toArray.size ≤ sizeLine := by rw [List.size_toArray, List.size_toArray]; omega
  have hlong : ¬ (!its.toArray.isEmpty && Builtin.List.listTooLong (its.toArray.size + its2.toArray.size)) = true := by
    rw [notLongL hsz, Bool.and_false]
    exact Bool.false_ne_true
  refine call_meets PySem.F.slot_list_extend ⟨_, e, rfl⟩ PySem.F.entry_list_extend (PySem.F.args_list_extend_2 _ _)
    (list_extend_tup l its.toArray n b its2.toArray hlong (by rw [List.size_toArray]; omega) (by omega)) ⟨e, t2, ?_⟩
  refine ⟨.non, _, I.lset (its' := its ++ its2) hH e (by simp) (r.append r2) ?_, rfl, q⟩
  rw [List.length_append]
  omega
theorem op_catTK {X : Cx} {K : PySem.W.Frag} (hK : X.K = K) : OpR X (binaryOp .Add) (rCatT K) := by
  subst hK
  exact op_catT
theorem call_tuple_ofK {X : Cx} {K : PySem.W.Frag} (hK : X.K = K) : CallR X (.type "tuple") (fun xs H Q => ∃ p ys, xs = [.ref p] ∧ ((SqL K H p ys ∧ ∀ l, H l = none → Q (.ref l) (upd H l (.tup ys))) ∨ (SqT K H p ys ∧ Q (.ref p) H))) := by
  subst hK
  exact call_tuple_of
/-! ### list + list, of lists that may be given -/
theorem list_add_loose (l : Addr) (items : Array Value) (b : Addr) (items2 : Array Value) (hc0 : items.size + items2.size ≤ sizeLine) :
    Meets (Builtin.«list.__add__» ⟨[.ref l, .ref b], []⟩) (fun _ R s => PlainL s.heap l items ∧ PlainL s.heap b items2 ∧ R (.ok (.ret (Value.ref s.heap.objs.size))) { s with heap := s.heap.push { cls := Value.type "list", data := Data.seq (items ++ items2) }, toks := s.toks }) :=
  .of_wp fun prog w A R s h => by
    obtain ⟨hp, g, d, tk, os⟩ := s
    obtain ⟨⟨⟨c1, d1, dt1, sl1⟩, n1, hl, hc1, hd1, hdt1⟩, ⟨⟨c2, d2, dt2, sl2⟩, n2, hb, hc2, hd2, hdt2⟩, h⟩ := h
    dsimp only at hc1 hd1 hdt1 hc2 hd2 hdt2
    subst hc1 hd1 hdt1 hc2 hd2 hdt2
    have f1 := PySem.AutoSeq1.idx_int
    have f2 := PySem.AutoSeq1.sub_tuple_tuple
    have f3 := PySem.AutoSeq1.sub_list_list
    have f4 := PySem.AutoSeq1.sub_tuple_list
    have f5 := PySem.AutoSeq1.sub_list_tuple
    wp_walk using PySem.AutoSeq1.wpAny_loadPart' hl, PySem.AutoSeq1.wpAny_loadPart' hb
    exact ⟨_, rfl, h⟩
def rCatL (K : PySem.W.Frag) : R2 := fun x y H Q => ∃ l b xs zs, x = .ref l ∧ y = .ref b ∧ SqL K H l xs ∧ SqL K H b zs ∧ xs.length + zs.length ≤ sizeLine ∧ ∀ p, H p = none → Q (.ref p) (upd H p (.lst (xs ++ zs)))
theorem op_catL {X : Cx} : OpR X (binaryOp .Add) (rCatL X.K) := by
  intro pins s σ H x y v u Q I rx ry h
  obtain ⟨l, b, xs, zs, rfl, rfl, hH, hB, hz, q⟩ := h
  cases rx
  cases ry
  obtain ⟨its, r, pl, z⟩ := I.list hH
  obtain ⟨its2, r2, pl2, z2⟩ := I.list hB
  have hl := r.length
  have hl2 := r2.length
  obtain ⟨o1, m1, e1, t1, _⟩ := id pl
  obtain ⟨o2, m2, e2, t2, _⟩ := id pl2
  refine concat_meets ⟨_, e1, t1⟩ ⟨_, e2, t2⟩ noFill_list_add seq_list_add PySem.F.slot_list_add PySem.F.entry_list_add (PySem.F.args_list_add_2 _ _) (list_add_loose l its.toArray b its2.toArray (by rw [List.size_toArray, List.size_toArray]; omega)) ⟨pl, pl2, ?_⟩
  have ea : its.toArray ++ its2.toArray = (its ++ its2).toArray := by simp
  rw [ea]
  exact ⟨.ref _, _, I.lnew (t' := s.toks) (r.append r2) (by rw [List.length_append]; omega), rfl, q _ I.fresh⟩

end My
namespace My
open PySem PySem.Spec PyProof.Rows L2
/-! ### list(zip(a, b)) of two lists -/
theorem zip_no_len : typeLookup (.type "zip") "__len__" = pure none := by rw [typeLookup_type, builtinLookup_eq_fast]; kernel_rfl
theorem zip_no_hint : typeLookup (.type "zip") "__length_hint__" = pure none := by rw [typeLookup_type, builtinLookup_eq_fast]; kernel_rfl
/-- the zip at its i-th turn: none of its tuples out yet, or one -/
def ZSt (z TI TO i1 i2 a b : Addr) (i : Nat) (h : Heap) (H : Hp) : Prop := IsPair h TI (.ref i1) (.ref i2) ∧ h.IsListIter i1 a i ∧ h.IsListIter i2 b i ∧
  ((IsZip h z TI TO .none ∧ ∃ x y, IsPair h TO x y) ∨ ∃ (T : Addr) (f : Bool) (oT : Obj) (vs : List V), PySem.IsZipHeld h z TI TO T f ∧ h.get? T = some oT ∧ (∃ o, h.get? TO = some o) ∧ H T = some (.tup vs))
/-- the pairs of the first i items -/
def Zpd (H : Hp) (xs ys : List V) (i : Nat) (ts : List V) : Prop := ts.length = i ∧ ∀ (j : Nat) (v : V), ts[j]? = some v → ∃ (t : Addr) (x y : V), v = .ref t ∧ xs[j]? = some x ∧ ys[j]? = some y ∧ H t = some (.tup [x, y])
theorem Zpd.mono {H H' : Hp} {xs ys : List V} {i : Nat} {ts : List V} (g : ∀ t us, H t = some (.tup us) → H' t = some (.tup us)) (h : Zpd H xs ys i ts) : Zpd H' xs ys i ts :=
  ⟨h.1, fun j v e => by obtain ⟨t, x, y, e1, e2, e3, e4⟩ := h.2 j v e; exact ⟨t, x, y, e1, e2, e3, g _ _ e4⟩⟩
theorem Zpd.snoc {H : Hp} {xs ys : List V} {i : Nat} {ts : List V} {T : Addr} {x y : V} (h : Zpd H xs ys i ts) (hx : xs[i]? = some x) (hy : ys[i]? = some y) (hT : H T = some (.tup [x, y])) : Zpd H xs ys (i + 1) (ts ++ [.ref T]) := by
  refine ⟨by rw [List.length_append, h.1]; rfl, fun j v e => ?_⟩
  by_cases lj : j < ts.length
  · rw [List.getElem?_append_left lj] at e
    exact h.2 j v e
  · have l2 := (List.getElem?_eq_some_iff.mp e).1
    rw [List.length_append, List.length_singleton] at l2
    have ej : j = i := by have := h.1; omega
    subst ej
    rw [List.getElem?_append_right (by omega), show j - ts.length = 0 by omega] at e
    cases Option.some.inj e
    exact ⟨T, x, y, rfl, hx, hy, hT⟩
section
variable {X : Cx} {pins : List (Addr × Obj)} {σ : L2.St}
theorem fp_upd {H : Hp} {c p : Addr} {o : HO} (h : FpOk X pins H c) (n : c ≠ p) : FpOk X pins (upd H p o) c := ⟨by rw [upd_ne n]; exact h.1, h.2⟩
theorem zip_loop {A : Around} (hh : A.in1.handled = none) {S z TI TO i1 i2 a b : Addr} (D : ZipApart z TI TO i1 i2 a b) {xs ys : List V} (hlx : xs.length < sizeLine) (res : Value) {R : Result → Shared → Prop} {H0 : Hp}
    (hR : ∀ H' ts s', Inv X pins σ H' s' → (∀ c o, c ≠ S → H0 c = some o → H' c = some o) → H' S = some (.lst ts) → Zpd H' xs ys (min xs.length ys.length) ts → R (.ok (.ret res)) s') :
    ∀ (k i : Nat) (s : Shared) (H : Hp) (ts : List V), min xs.length ys.length - i = k → i ≤ min xs.length ys.length → Inv X pins σ H s → (∀ c ∈ [z, TI, TO, i1, i2], FpOk X pins H c) → ZSt z TI TO i1 i2 a b i s.heap H → H a = some (.lst xs) → H b = some (.lst ys) → H S = some (.lst ts) → a ≠ S → b ≠ S →
      (∀ c o, c ≠ S → H0 c = some o → H c = some o) → Zpd H xs ys i ts → codeAny (model X.prog X.w) A (.builtin "list.extend.loop" ⟨[.ref S, .ref z, res], []⟩) R s := by
  intro k
  induction k with
  | zero =>
    intro i s H ts hk hi I hf st ha hb hS aS bS kp zp
    have ei : i = min xs.length ys.length := by omega
    obtain ⟨l1, its, n1, r1, _, p1⟩ := I.lstM ha
    obtain ⟨l2, its2, n2, r2, _, p2⟩ := I.lstM hb
    have q1 := r1.length
    have q2 := r2.length
    have he : its.toArray[i]? = none ∨ its2.toArray[i]? = none := by
      rcases Nat.le_total xs.length ys.length with h | h
      · exact .inl (by simp; omega)
      · exact .inr (by simp; omega)
    refine codeAny_builtin PySem.F.entry_extend_loop ?_
    rw [Around.under_plainId PySem.F.plain_extend_loop _]
    show wpAny _ A.in1 (pyNext (.ref z) >>= _) _ _ _
    have fin : ∀ h', (∀ c o, c ≠ z → c ≠ TO → c ≠ i1 → c ≠ i2 → s.heap.get? c = some o → h'.get? c = some o) → R (.ok (.ret res)) { s with heap := h' } := fun h' hk => hR H ts _
      (I.turnedL (t' := s.toks) (ch := [z, TI, TO, i1, i2]) (fun c o hb q => hk c o (fun q' => hb (by simp [q'])) (fun q' => hb (by simp [q'])) (fun q' => hb (by simp [q'])) (fun q' => hb (by simp [q'])) q) hf) kp hS (ei ▸ zp)
    obtain ⟨hTI, h1, h2, hz⟩ := st
    rcases hz with ⟨hz, x0, y0, hTO⟩ | ⟨T, f, oT, vs, hz, hT, ⟨oO, hO⟩, hTH⟩
    · exact wpAny_bind (wpAny_pyNext_zip_end hh D hz hTI hTO h1 h2 ⟨_, p1, rfl, _, rfl⟩ ⟨_, p2, rfl, _, rfl⟩ he fun h' hk => wpAny_pure (fin h' hk))
    · exact wpAny_bind (PySem.wpAny_pyNext_zip_end_held hh D hz hT hTI h1 h2 ⟨_, p1, rfl, _, rfl⟩ ⟨_, p2, rfl, _, rfl⟩ he fun h' hk => wpAny_pure (fin h' fun c o c1 _ c3 c4 => hk c o c1 c3 c4))
  | succ k ih =>
    intro i s H ts hk hi I hf st ha hb hS aS bS kp zp
    have lt : i < min xs.length ys.length := by omega
    obtain ⟨l1, its, n1, r1, _, p1⟩ := I.lstM ha
    obtain ⟨l2, its2, n2, r2, _, p2⟩ := I.lstM hb
    obtain ⟨x, hx⟩ : ∃ x, xs[i]? = some x := ⟨_, List.getElem?_eq_getElem (by omega)⟩
    obtain ⟨y, hy⟩ : ∃ y, ys[i]? = some y := ⟨_, List.getElem?_eq_getElem (by omega)⟩
    obtain ⟨u, hu, ru⟩ := r1.get hx
    obtain ⟨u2, hu2, ru2⟩ := r2.get hy
    refine codeAny_builtin PySem.F.entry_extend_loop ?_
    rw [Around.under_plainId PySem.F.plain_extend_loop _]
    show wpAny _ A.in1 (pyNext (.ref z) >>= _) _ _ _
    have mem : ∀ {c}, c ∈ [z, TI, TO, i1, i2] → H c = none := fun m => (hf _ m).1
    have zS : z ≠ S := fun e => by have := mem (c := z) (by simp); rw [e, hS] at this; cases this
    have TIS : TI ≠ S := fun e => by have := mem (c := TI) (by simp); rw [e, hS] at this; cases this
    have TOS : TO ≠ S := fun e => by have := mem (c := TO) (by simp); rw [e, hS] at this; cases this
    have i1S : i1 ≠ S := fun e => by have := mem (c := i1) (by simp); rw [e, hS] at this; cases this
    have i2S : i2 ≠ S := fun e => by have := mem (c := i2) (by simp); rw [e, hS] at this; cases this
    have nT : H s.heap.objs.size = none := I.hok.fresh (Nat.le_refl _)
    have aT : a ≠ s.heap.objs.size := fun e => by rw [e, nT] at ha; cases ha
    have bT : b ≠ s.heap.objs.size := fun e => by rw [e, nT] at hb; cases hb
    have ST : S ≠ s.heap.objs.size := fun e => by rw [e, nT] at hS; cases hS
    have go : ∀ h', (∀ c o, c ∉ [z, TI, TO, i1, i2] → s.heap.get? c = some o → h'.get? c = some o) → IsPair h' s.heap.objs.size u u2 → IsPair h' TI (.ref i1) (.ref i2) → h'.IsListIter i1 a (i + 1) → h'.IsListIter i2 b (i + 1) →
        (∃ (T : Addr) (f : Bool) (oT : Obj) (vs : List V), PySem.IsZipHeld h' z TI TO T f ∧ h'.get? T = some oT ∧ (∃ o, h'.get? TO = some o) ∧ upd H s.heap.objs.size (.tup [x, y]) T = some (.tup vs)) → s.heap.objs.size ∉ [z, TI, TO, i1, i2] →
        wpAny (model X.prog X.w) A.in1 (Builtin.List.listUpdate (.ref S) (·.push (Value.ref s.heap.objs.size)) >>= fun _ => again (.builtin "list.extend.loop" ⟨[.ref S, .ref z, res], []⟩))
          (fun fin s' => match fin with | .done f => R (.ok f) s' | .again c' => c'.quiet = true ∧ codeAny (model X.prog X.w) A c' R s') (fun e s' => R (.error e) s') { s with heap := h' } := by
      intro h' hk hT hTI h1 h2 ⟨T, f, oT, vs, hz, hT2, ⟨oO, hO⟩, hTH⟩ off
      have I1 : Inv X pins σ (upd H s.heap.objs.size (.tup [x, y])) { s with heap := h' } :=
        I.turnedNew (t' := s.toks) (ch := [z, TI, TO, i1, i2]) hk hf (Nat.le_refl _) ⟨by show 2 ≤ sizeLine; decide, [u, u2], .cons ru (.cons ru2 .nil), ⟨_, hT, rfl, _, rfl⟩⟩
      have hS1 : upd H s.heap.objs.size (.tup [x, y]) S = some (.lst ts) := by rw [upd_ne ST]; exact hS
      obtain ⟨l3, its3, n3, r3, l4, e3⟩ := I1.lstM hS1
      have zl := zp.1
      have I2 := I1.lset (t' := s.toks) (f := (·.push (Value.ref s.heap.objs.size))) (its' := its3 ++ [Value.ref s.heap.objs.size]) (ys := ts ++ [V.ref s.heap.objs.size]) hS1 e3 (by simp) (r3.append (.cons rfl .nil)) (by rw [List.length_append, List.length_singleton]; omega)
      have TS : T ≠ S := fun e => by rw [e, hS1] at hTH; cases hTH
      have keep : ∀ c o, c ≠ S → h'.get? c = some o → (h'.update S (Obj.mapSeq (·.push (Value.ref s.heap.objs.size)))).get? c = some o := fun c o n e => (Heap.get?_update_other _ _ (Ne.symm n)).trans e
      refine wpAny_bind ?_
      show wpAny _ A.in1 (updateSeq S (·.push (Value.ref s.heap.objs.size))) _ _ _
      refine wpAny_updateSeq e3 rfl (wpAny_pure ⟨plainId_quiet PySem.F.plain_extend_loop _, ih (i + 1) _ (upd (upd H s.heap.objs.size (.tup [x, y])) S (.lst (ts ++ [V.ref s.heap.objs.size]))) (ts ++ [V.ref s.heap.objs.size]) (by omega) (by omega) I2 (fun c m => fp_upd (fp_upd (hf c m) (fun e => off (e ▸ m))) (fun e => by have := (hf c m).1; rw [e, hS] at this; cases this)) ?_ ?_ ?_ upd_same aS bS (fun c o n e => ?_) ?_⟩) (by rw [List.size_toArray]; omega) (by show (its3.toArray.push _).size ≤ sizeLine + 1; rw [Array.size_push, List.size_toArray]; omega)
      · refine ⟨keep _ _ TIS hTI, h1.at fun o e => keep _ _ i1S e, h2.at fun o e => keep _ _ i2S e, .inr ⟨T, f, oT, vs, keep _ _ zS hz, keep _ _ TS hT2, ⟨_, keep _ _ TOS hO⟩, ?_⟩⟩
        rw [upd_ne TS]
        exact hTH
      · rw [upd_ne aS, upd_ne aT]
        exact ha
      · rw [upd_ne bS, upd_ne bT]
        exact hb
      · have e3 := kp c o n e
        rw [upd_ne n, upd_ne fun (e2 : c = s.heap.objs.size) => by rw [e2, nT] at e3; cases e3]
        exact e3
      · have g : ∀ t us, H t = some (.tup us) → upd (upd H s.heap.objs.size (.tup [x, y])) S (.lst (ts ++ [V.ref s.heap.objs.size])) t = some (.tup us) := fun t us e => by
          rw [upd_ne fun (z : t = S) => by (rw [z, hS] at e; cases e), upd_ne fun (z : t = s.heap.objs.size) => by (rw [z, nT] at e; cases e)]
          exact e
        refine (zp.mono g).snoc hx hy ?_
        rw [upd_ne ST.symm, upd_same]
    obtain ⟨hTI, h1, h2, hz⟩ := st
    have lto : ∀ {c o}, s.heap.get? c = some o → s.heap.objs.size ≠ c := fun e => Nat.ne_of_gt (Heap.lt_size e)
    have n1' : s.heap.objs.size ≠ i1 := let ⟨_, e, _⟩ := h1; lto e
    have n2' : s.heap.objs.size ≠ i2 := let ⟨_, e, _⟩ := h2; lto e
    rcases hz with ⟨hz, x0, y0, hTO⟩ | ⟨T, f, oT, vs, hz, hT, ⟨oO, hO⟩, hTH⟩
    · have off : s.heap.objs.size ∉ [z, TI, TO, i1, i2] := fun m => by
        simp only [List.mem_cons, List.not_mem_nil, or_false] at m
        rcases m with e | e | e | e | e
        · exact lto hz e
        · exact lto hTI e
        · exact lto hTO e
        · exact n1' e
        · exact n2' e
      refine wpAny_bind (wpAny_pyNext_zip_item D hz hTI hTO h1 h2 ⟨_, p1, rfl, _, rfl⟩ ⟨_, p2, rfl, _, rfl⟩ (x := u) (y := u2) (by simpa using hu) (by simpa using hu2) fun h' z' TO' h1' h2' hT hsz hk => ?_)
      exact go h' (fun c o hb q => hk c o (fun q' => hb (by simp [q'])) (fun q' => hb (by simp [q'])) (fun q' => hb (by simp [q'])) (fun q' => hb (by simp [q'])) q) hT (hk _ _ D.TIz D.TITO D.TIi1 D.TIi2 hTI) h1' h2' ⟨_, false, _, _, z', hT, ⟨_, TO'⟩, upd_same⟩ off
    · have offT : ∀ c ∈ [z, TI, TO, i1, i2], T ≠ c := fun c m e => by
        have := (hf c m).1
        rw [← e, hTH] at this
        cases this
      have off : s.heap.objs.size ∉ [z, TI, TO, i1, i2] := fun m => by
        simp only [List.mem_cons, List.not_mem_nil, or_false] at m
        rcases m with e | e | e | e | e
        · exact lto hz e
        · exact lto hTI e
        · exact lto hO e
        · exact n1' e
        · exact n2' e
      refine wpAny_bind (PySem.wpAny_pyNext_zip_item_held D hz hT hTI h1 h2 ⟨_, p1, rfl, _, rfl⟩ ⟨_, p2, rfl, _, rfl⟩ (x := u) (y := u2) (by simpa using hu) (by simpa using hu2) fun h' z' h1' h2' hT' hsz hk => ?_)
      refine go h' (fun c o hb q => hk c o (fun q' => hb (by simp [q'])) (fun q' => hb (by simp [q'])) (fun q' => hb (by simp [q'])) q) hT' (hk _ _ D.TIz D.TIi1 D.TIi2 hTI) h1' h2' ⟨T, true, oT, vs, z', hk _ _ (offT z (by simp)) (offT i1 (by simp)) (offT i2 (by simp)) hT, ⟨_, hk _ _ D.TOz D.TOi1 D.TOi2 hO⟩, ?_⟩ off
      rw [upd_ne fun (e : T = s.heap.objs.size) => by (rw [e, nT] at hTH; cases hTH)]
      exact hTH
end
section
variable {X : Cx} {pins : List (Addr × Obj)} {σ : L2.St} {S z TI TO i1 i2 a b : Addr} {xs ys : List V}
theorem zip_extend {A : Around} (hh : A.in1.handled = none) (D : ZipApart z TI TO i1 i2 a b) (hlx : xs.length < sizeLine) (res : Value) {R : Result → Shared → Prop} {s : Shared} {H H0 : Hp}
    (hR : ∀ H' ts s', Inv X pins σ H' s' → (∀ c o, c ≠ S → H0 c = some o → H' c = some o) → H' S = some (.lst ts) → Zpd H' xs ys (min xs.length ys.length) ts → R (.ok (.ret res)) s')
    (I : Inv X pins σ H s) (hf : ∀ c ∈ [z, TI, TO, i1, i2], FpOk X pins H c) (hz : IsZip s.heap z TI TO .none) (hTI : IsPair s.heap TI (.ref i1) (.ref i2)) {x0 y0 : Value} (hTO : IsPair s.heap TO x0 y0) (h1 : s.heap.IsListIter i1 a 0) (h2 : s.heap.IsListIter i2 b 0)
    (ha : H a = some (.lst xs)) (hb : H b = some (.lst ys)) (hS : H S = some (.lst [])) (aS : a ≠ S) (bS : b ≠ S) (kp : ∀ c o, c ≠ S → H0 c = some o → H c = some o) :
    wpAny (model X.prog X.w) A.in1 (Builtin.List.listExtendWith (.ref S) (.ref z) res)
      (fun fin s' => match fin with | .done f => R (.ok f) s' | .again c' => c'.quiet = true ∧ codeAny (model X.prog X.w) A c' R s') (fun e s' => R (.error e) s') s := by
  obtain ⟨_, its0, n0, r0, _, eS⟩ := I.lstM hS
  cases r0
  have mem : ∀ {c}, c ∈ [z, TI, TO, i1, i2] → c ≠ S := fun m e => by
    have := (hf _ m).1
    rw [e, hS] at this
    cases this
  have zS : z ≠ S := mem (by simp)
  have hTy : s.TypeIs (.ref z) "zip" := ⟨_, hz, rfl⟩
  unfold Builtin.List.listExtendWith
  refine wpAny_bind (wpAny_typeOf (T := "zip") hTy ?_)
  have q1 : Builtin.List.listSameRef (.ref S) (.ref z) = false := by simp [Builtin.List.listSameRef, zS.symm]
  have q2 : (Value.type "zip" == Value.type "list") = false := by decide
  have q3 : (Value.type "zip" == Value.type "tuple") = false := by decide
  simp only [q1, q2, q3, Bool.or_false, Bool.false_eq_true, if_false]
  refine wpAny_bind (wpAny_pyIter_zip hz ?_)
  refine wpAny_bind (wpAny_holding ?_)
  unfold Builtin.List.listLengthHint
  refine wpAny_bind (wpAny_specialOf hTy zip_no_len ?_)
  show wpAny _ A.in1 (specialOf (Value.ref z) (Str.ofString "__length_hint__") >>= _) _ _ _
  refine wpAny_bind (wpAny_specialOf hTy zip_no_hint ?_)
  refine wpAny_pure ?_
  show wpAny _ A.in1 (rule "list.extend.makes-room" >>= fun _ => Builtin.List.listTouch (.ref S) >>= fun _ =>
    again (.builtin "list.extend.loop" ⟨[.ref S, .ref z, res], []⟩)) _ _ _
  refine wpAny_bind (wpAny_rule ?_)
  refine wpAny_bind ?_
  show wpAny _ A.in1 (updateSeq S (·.push .none) >>= fun _ => updateSeq S (·.pop)) _ _ _
  refine wpAny_bind (wpAny_updateSeq eS rfl ?_)
  have I1 := I.lset (t' := s.toks) (f := (·.push Value.none)) (its' := [Value.none]) (ys := [V.non]) hS eS rfl (.cons rfl .nil) (by decide)
  have e2 := Heap.get?_update_self (Obj.mapSeq (·.push Value.none)) eS rfl
  refine wpAny_updateSeq (hz := by seq_fits) e2 rfl ?_
  have I2 := I1.lset (t' := s.toks) (f := (·.pop)) (its := [Value.none]) (its' := []) (ys := []) upd_same e2 rfl .nil (Nat.zero_le _)
  have oth : ∀ c o, c ≠ S → s.heap.get? c = some o → ((s.heap.update S (Obj.mapSeq (·.push Value.none))).update S (Obj.mapSeq (·.pop))).get? c = some o :=
    fun c o hc e => (Heap.get?_update_other _ _ (Ne.symm hc)).trans ((Heap.get?_update_other _ _ (Ne.symm hc)).trans e)
  refine wpAny_pure ⟨plainId_quiet PySem.F.plain_extend_loop _, zip_loop (xs := xs) (ys := ys) (H0 := H0) hh D hlx res hR _ 0 _ _ [] rfl (Nat.zero_le _) I2 (fun c m => fp_upd (fp_upd (hf c m) (mem m)) (mem m)) ?_ ?_ ?_ upd_same aS bS (fun c o n e => ?_) ⟨rfl, fun j v e => by simp at e⟩⟩
  · exact ⟨oth _ _ (mem (by simp)) hTI, h1.at fun o e => oth _ _ (mem (by simp)) e, h2.at fun o e => oth _ _ (mem (by simp)) e, .inl ⟨oth _ _ zS hz, x0, y0, oth _ _ (mem (by simp)) hTO⟩⟩
  · rw [upd_ne aS, upd_ne aS]
    exact ha
  · rw [upd_ne bS, upd_ne bS]
    exact hb
  · rw [upd_ne n, upd_ne n]
    exact kp c o n e
theorem call_list_zip {E : Value → Shared → Prop} (hh : X.A.in1.in1.handled = none) (D : ZipApart z TI TO i1 i2 a b) (hlx : xs.length < sizeLine) {Q : VK} {s : Shared} {H : Hp}
    (q : ∀ (S : Addr) (ts : List V) (H' : Hp), H S = none → (∀ c o, H c = some o → H' c = some o) → H' S = some (.lst ts) → Zpd H' xs ys (min xs.length ys.length) ts → Q (.ref S) H')
    (I : Inv X pins σ H s) (hf : ∀ c ∈ [z, TI, TO, i1, i2], FpOk X pins H c) (hz : IsZip s.heap z TI TO .none) (hTI : IsPair s.heap TI (.ref i1) (.ref i2)) {x0 y0 : Value} (hTO : IsPair s.heap TO x0 y0) (h1 : s.heap.IsListIter i1 a 0) (h2 : s.heap.IsListIter i2 b 0)
    (ha : H a = some (.lst xs)) (hb : H b = some (.lst ys)) :
    wpAny (model X.prog X.w) X.A (call (.type "list") [.ref z]) (EP X pins σ Q) E s := by
  refine callType_codes (Q₁ := fun obj s₁ => obj = .ref s.heap.objs.size ∧ s₁ = { s with heap := s.heap.push { cls := .type "list", data := .seq #[] } }) PySem.F.called_list (PySem.F.typeCall_list_1 _) PySem.F.entry_list_init
    (code_list_new _ ⟨rfl, rfl⟩) fun obj s₁ h₁ => ?_
  obtain ⟨rfl, rfl⟩ := h₁
  have hS : (s.heap.push { cls := .type "list", data := .seq #[] }).get? s.heap.objs.size = some { cls := .type "list", data := .seq #[] } := Heap.get?_push_size _ rfl
  have nS : H s.heap.objs.size = none := I.hok.fresh (Nat.le_refl _)
  have I1 : Inv X pins σ (upd H s.heap.objs.size (.lst [])) { s with heap := s.heap.push { cls := .type "list", data := .seq #[] } } :=
    I.laid (t' := s.toks) (fun b o e => Heap.get?_push_of_some _ e) (Nat.le_refl _) (show ObjOk X.prog X.w _ _ _ (.lst []) from ⟨Nat.zero_le _, [], 0, .nil, hS⟩)
  have lto : ∀ {c o}, s.heap.get? c = some o → c ≠ s.heap.objs.size := fun e => Nat.ne_of_lt (Heap.lt_size e)
  have aS : a ≠ s.heap.objs.size := fun e => by rw [e, nS] at ha; cases ha
  have bS : b ≠ s.heap.objs.size := fun e => by rw [e, nS] at hb; cases hb
  have neS : ∀ c ∈ [z, TI, TO, i1, i2], c ≠ s.heap.objs.size := fun c m => by
    simp only [List.mem_cons, List.not_mem_nil, or_false] at m
    rcases m with rfl | rfl | rfl | rfl | rfl
    · exact lto hz
    · exact lto hTI
    · exact lto hTO
    · obtain ⟨_, e, _⟩ := h1
      exact lto e
    · obtain ⟨_, e, _⟩ := h2
      exact lto e
  refine ⟨⟨_, hS, rfl⟩, PySem.F.args_list_init_2 _ _, ?_⟩
  show wpAny _ _ (do let old ← Builtin.List.listItems (.ref s.heap.objs.size); Builtin.List.listUpdate (.ref s.heap.objs.size) (fun _ => #[]); letGo old.toList.reverse; Builtin.List.listExtendWith (.ref s.heap.objs.size) (.ref z) .none) _ _ _
  refine wpAny_bind ?_
  unfold Builtin.List.listItems
  refine wpAny_bind (wpAny_seqItems hS rfl (wpAny_pure ?_))
  show wpAny _ _ (updateSeq s.heap.objs.size (fun _ => #[]) >>= fun _ => letGo (#[] : Array Value).toList.reverse >>= fun _ => Builtin.List.listExtendWith (.ref s.heap.objs.size) (.ref z) .none) _ _ _
  refine wpAny_bind (wpAny_updateSeq hS rfl ?_)
  have I2 := I1.lset (t' := s.toks) (f := fun _ => (#[] : Array Value)) (its := []) (its' := []) (ys := []) upd_same hS rfl .nil (Nat.zero_le _)
  have oth : ∀ c o, c ≠ s.heap.objs.size → s.heap.get? c = some o → ((s.heap.push { cls := .type "list", data := .seq #[] }).update s.heap.objs.size (Obj.mapSeq (fun _ => (#[] : Array Value)))).get? c = some o :=
    fun c o hc e => (Heap.get?_update_other _ _ (Ne.symm hc)).trans (Heap.get?_push_of_some _ e)
  refine wpAny_bind (wpAny_letGo ?_)
  refine zip_extend (xs := xs) (ys := ys) (H0 := H) hh D hlx .none (fun H' ts s' I' kp' hS' zp => ?_) I2 (fun c m => fp_upd (fp_upd (hf c m) (neS c m)) (neS c m)) (oth _ _ (neS _ (by simp)) hz) (oth _ _ (neS _ (by simp)) hTI) (oth _ _ (neS _ (by simp)) hTO) (h1.at fun o e => oth _ _ (neS _ (by simp)) e) (h2.at fun o e => oth _ _ (neS _ (by simp)) e) ?_ ?_ upd_same aS bS (fun c o n e => ?_)
  · exact ⟨rfl, .ref _, H', I', rfl, q _ ts H' nS (fun c o e => kp' c o (fun e2 => by rw [e2, nS] at e; cases e) e) hS' zp⟩
  · rw [upd_ne aS, upd_ne aS]
    exact ha
  · rw [upd_ne bS, upd_ne bS]
    exact hb
  · rw [upd_ne n, upd_ne n]
    exact e
end
def tLz (ta : TA) : TE := fun σ H Q => ta σ H fun vs H1 => ∃ (a b : Addr) (xs ys : List V), vs = [.ref a, .ref b] ∧ H1 a = some (.lst xs) ∧ H1 b = some (.lst ys) ∧ xs.length < sizeLine ∧
  ∀ (S : Addr) (ts : List V) (H' : Hp), H1 S = none → Same H1 H' → H' S = some (.lst ts) → Zpd H' xs ys (min xs.length ys.length) ts → Q (.ref S) H'
theorem pe_listZip {X : Cx} {e e2 : Expr} {ta : TA} {p pos p2 pos2 : Pos} (hc : X.calm = true) (hg : Gl X "list") (hm : X.mg "list" = none) (hg2 : Gl X "zip") (hm2 : X.mg "zip" = none) (ha : PA X [e, e2] ta)
    (hs : starEach [e, e2] X.env = (false, eval e X.env) :: starEach [e2] X.env := by rfl) (hpl : (backTo pos2 (starEach [e2] X.env)).any (·.1) = false := by rfl)
    (na : starEach [.Call (.Name "zip" p2) [e, e2] [] pos2] X.env = (false, eval (.Call (.Name "zip" p2) [e, e2] [] pos2) X.env) :: starEach [] X.env := by rfl) :
    PE X (.Call (.Name "list" p) [.Call (.Name "zip" p2) [e, e2] [] pos2] [] pos) (tLz ta) := by
  refine ⟨fun pins s σ H Q I h => ?_⟩
  have inner : wpAny (model X.prog X.w) X.A (eval (.Call (.Name "zip" p2) [e, e2] [] pos2) X.env) (fun v s2 => ∃ (z TI TO i1 i2 a b : Addr) (xs ys : List V) (x0 y0 : Value) (H1 : Hp), v = .ref z ∧ ZipApart z TI TO i1 i2 a b ∧ Inv X pins σ H1 s2 ∧ (∀ c ∈ [z, TI, TO, i1, i2], FpOk X pins H1 c) ∧ IsZip s2.heap z TI TO .none ∧ IsPair s2.heap TI (.ref i1) (.ref i2) ∧ IsPair s2.heap TO x0 y0 ∧ s2.heap.IsListIter i1 a 0 ∧ s2.heap.IsListIter i2 b 0 ∧
      H1 a = some (.lst xs) ∧ H1 b = some (.lst ys) ∧ xs.length < sizeLine ∧ ∀ (S : Addr) (ts : List V) (H' : Hp), H1 S = none → Same H1 H' → H' S = some (.lst ts) → Zpd H' xs ys (min xs.length ys.length) ts → Q (.ref S) H') X.xe s := by
    refine Call_ (ld_blt I hg2 hm2 PyProof.Rows.boot_zip (PyProof.Rows.callWith_type1 (thn (ha.run pos2 pins s σ H _ I h) fun us s1 ⟨vs, H1, I1, r1, q1⟩ => ?_) hs hpl))
    obtain ⟨a, b, xs, ys, ex, hqx, hqy, lx, q⟩ := q1
    subst ex
    cases r1 with
    | cons r rr =>
      cases rr with
      | cons r' rr =>
        cases rr
        cases r
        cases r'
        obtain ⟨_, its, n1, rv, _, p1⟩ := I1.lstM hqx
        obtain ⟨_, its2, n2, rv2, _, p2'⟩ := I1.lstM hqy
        refine call_zip_2 (xs := its.toArray) (ys := its2.toArray) ⟨_, p1, rfl, _, rfl⟩ ⟨_, p2', rfl, _, rfl⟩ fun h' hz hTI hTO h1 h2 hsz hk => ?_
        have I2 : Inv X pins σ H1 { s1 with heap := h' } := I1.kept (t' := s1.toks) hk
        refine ⟨_, _, _, _, _, a, b, xs, ys, _, _, H1, rfl, PySem.W.ktu_apart s1.heap.objs.size a b (Heap.lt_size p1) (Heap.lt_size p2'), I2, fun c hcm => ?_, hz, hTI, hTO, h1, h2, hqx, hqy, lx, q⟩
        have e' : c = s1.heap.objs.size + 4 ∨ c = s1.heap.objs.size + 2 ∨ c = s1.heap.objs.size + 3 ∨ c = s1.heap.objs.size ∨ c = s1.heap.objs.size + 1 := by simpa using hcm
        have hle : s1.heap.objs.size ≤ c := by
          rcases e' with z | z | z | z | z
          · rw [z]; exact Nat.le_add_right _ _
          · rw [z]; exact Nat.le_add_right _ _
          · rw [z]; exact Nat.le_add_right _ _
          · rw [z]; exact Nat.le_refl _
          · rw [z]; exact Nat.le_add_right _ _
        exact I1.fpOk hle (I1.hok.fresh hle)
  refine Call_ (ld_blt I hg hm boot_list (PyProof.Rows.callWith_type1 (args_cons (thn inner fun x s1 ⟨z, TI, TO, i1, i2, a, b, xs, ys, x0, y0, H1, ex, D, I1, hf, hz, hTI, hTO, h1, h2, hqx, hqy, lx, q⟩ => args_nil ?_) na) na))
  subst ex
  exact call_list_zip (I1.ok.hd hc) D lx (fun S ts H' n k e zp => q S ts H' n k e zp) I1 hf hz hTI hTO h1 h2 hqx hqy

end My
namespace My
open PySem L2
inductive PAll (H : Hp) : List V → List (Int × Int) → Prop
  | nil : PAll H [] []
  | cons {t : Addr} {x y : Int} {vs : List V} {ts : List (Int × Int)} : H t = some (.tup [.int x, .int y]) → PAll H vs ts → PAll H (.ref t :: vs) ((x, y) :: ts)
theorem PAll.mono {H H' : Hp} (s : ∀ t x y, H t = some (.tup [.int x, .int y]) → H' t = some (.tup [.int x, .int y])) : ∀ {vs : List V} {ts : List (Int × Int)}, PAll H vs ts → PAll H' vs ts
  | _, _, .nil => .nil
  | _, _, .cons h k => .cons (s _ _ _ h) (PAll.mono s k)
theorem PAll.same {H H' : Hp} (s : Same H H') {vs : List V} {ts : List (Int × Int)} (h : PAll H vs ts) : PAll H' vs ts := h.mono fun _ _ _ e => s _ _ e
theorem PAll.put {H : Hp} {l : Addr} {xs : List V} {o : HO} (e : H l = some (.lst xs)) {vs : List V} {ts : List (Int × Int)} (h : PAll H vs ts) : PAll (upd H l o) vs ts := h.mono fun t _ _ z => by
  rw [upd_ne (ne_of z e (by intro z; cases z))]
  exact z
theorem PAll.snoc {H : Hp} {t : Addr} {x y : Int} (e : H t = some (.tup [.int x, .int y])) : ∀ {vs : List V} {ts : List (Int × Int)}, PAll H vs ts → PAll H (vs ++ [.ref t]) (ts ++ [(x, y)])
  | _, _, .nil => .cons e .nil
  | _, _, .cons h k => .cons h (PAll.snoc e k)
theorem PAll.append {H : Hp} : ∀ {vs us : List V} {ts ss : List (Int × Int)}, PAll H vs ts → PAll H us ss → PAll H (vs ++ us) (ts ++ ss)
  | _, _, _, _, .nil, k => k
  | _, _, _, _, .cons h k, z => .cons h (k.append z)
theorem PAll.take {H : Hp} : ∀ {vs : List V} {ts : List (Int × Int)}, PAll H vs ts → ∀ n : Nat, PAll H (vs.take n) (ts.take n)
  | _, _, .nil, n => by
    rw [List.take_nil, List.take_nil]
    exact .nil
  | _, _, .cons h k, 0 => .nil
  | _, _, .cons h k, n + 1 => .cons h (k.take n)
theorem PAll.drop {H : Hp} : ∀ {vs : List V} {ts : List (Int × Int)}, PAll H vs ts → ∀ n : Nat, PAll H (vs.drop n) (ts.drop n)
  | _, _, .nil, n => by
    rw [List.drop_nil, List.drop_nil]
    exact .nil
  | _, _, .cons h k, 0 => .cons h k
  | _, _, .cons h k, n + 1 => k.drop n
theorem PAll.length {H : Hp} : ∀ {vs : List V} {ts : List (Int × Int)}, PAll H vs ts → vs.length = ts.length
  | _, _, .nil => rfl
  | _, _, .cons _ k => congrArg (· + 1) k.length
theorem PAll.at {H : Hp} : ∀ {vs : List V} {ts : List (Int × Int)}, PAll H vs ts → ∀ {i : Nat} {v : V}, vs[i]? = some v → ∃ t u, v = .ref t ∧ ts[i]? = some u ∧ H t = some (.tup [.int u.1, .int u.2])
  | _, _, .nil, i, v, h => by
    rw [List.getElem?_nil] at h
    cases h
  | _, _, .cons (t := t) (x := x) (y := y) e r, 0, v, h => ⟨t, (x, y), (Option.some.inj h).symm, rfl, e⟩
  | _, _, .cons e r, i + 1, v, h => PAll.at r (i := i) h
theorem PAll.get {H : Hp} : ∀ {vs : List V} {ts : List (Int × Int)}, PAll H vs ts → ∀ {i : Nat} {u : Int × Int}, ts[i]? = some u → ∃ t, vs[i]? = some (.ref t) ∧ H t = some (.tup [.int u.1, .int u.2])
  | _, _, .nil, i, u, h => by
    rw [List.getElem?_nil] at h
    cases h
  | _, _, .cons (t := t) e r, 0, u, h => by
    cases Option.some.inj h
    exact ⟨t, rfl, e⟩
  | _, _, .cons e r, i + 1, u, h => PAll.get r (i := i) h

end My
namespace My
open PySem PySem.Spec PyProof.Rows L2
/-! ### t[::-1] of a pair, sorted(tuple of ints) -/
theorem sliceApplied_rev2 {prog : Program} {w : World} {A : Around} {E : Value → Shared → Prop} {s : Shared} {sl : Addr} {vl vu vs : Value} {Q : Int × Int × Nat → Shared → Prop} (hs : s.heap.IsSliceOf sl vl vu vs) (pl : IsPart vl none) (pu : IsPart vu none) (ps : IsPart vs (some (-1)))
    (h : Q (1, -1, 2) s) : wpAny (model prog w) A (Builtin.Slice.sliceApplied (.ref sl) (pure (2 : Int))) Q E s := by
  obtain ⟨os, hos, hcs, hds⟩ := id hs
  unfold Builtin.Slice.sliceApplied Builtin.Slice.sliceFields
  refine wpAny_bind (wpAny_bind (wpAny_field hos hds (x := vl) rfl (wpAny_bind (wpAny_field hos hds (x := vu) rfl (wpAny_bind (wpAny_field hos hds (x := vs) rfl (wpAny_pure ?_)))))))
  refine wpAny_bind (HT.slicePart_ ps ?_)
  show wpAny _ _ (if ((-1 : Int) == 0) = true then _ else _) _ _ s
  rw [if_neg (by decide)]
  refine wpAny_bind (HT.slicePart_ pl (wpAny_bind (HT.slicePart_ pu (wpAny_bind (wpAny_pure ?_)))))
  exact wpAny_pure h
theorem getItem_rev2 {prog : Program} {w : World} {A : Around} {E : Value → Shared → Prop} {s : Shared} {t sl : Addr} {u v : Value} {vl vu vs : Value} {Q : Value → Shared → Prop} (ht : IsTup s.heap t #[u, v]) (hs : s.heap.IsSliceOf sl vl vu vs) (pl : IsPart vl none) (pu : IsPart vu none) (ps : IsPart vs (some (-1)))
    (h : Q (.ref s.heap.objs.size) { s with heap := s.heap.push { cls := .type "tuple", data := .seq #[v, u] } }) : wpAny (model prog w) A (getItem (.ref t) (.ref sl)) Q E s := by
  obtain ⟨os, hos, hcs, hds⟩ := id hs
  have hTs : s.TypeIs (.ref sl) "slice" := ⟨os, hos, hcs⟩
  have htake : sizeOk (.seq #[v, u]) := by
    show (#[v, u] : Array Value).size ≤ sizeLine
    exact (by show 2 ≤ sizeLine; decide)
  unfold getItem
  try with_reducible refine wpAny_holding ?_
  first | refine wpAny_bind (wpAny_pure ?_) | skip
  refine wpAny_bind (wpAny_sequenceKey ht.typeIs (by decide) ?_)
  refine wpAny_bind (wpAny_callSpecial?_slot (name := Str.ofString "__getitem__") ht.typeIs PyProof.Rows.slot_tuple_getitem
    (wpAny_call_entry PyProof.Rows.slot_tuple_getitem ht.typeIs PyProof.Rows.entry_tuple_getitem ?_ (PyProof.Rows.args_tuple_getitem _ _)))
  show wpAny _ _ (Builtin.Tuple.tupleItemsOf (.ref t) >>= _) _ _ s
  refine wpAny_bind (tupleItemsOf_ ht ?_)
  refine wpAny_bind (wpAny_typeOf hTs ?_)
  rw [if_pos (by decide)]
  refine wpAny_bind (sliceApplied_rev2 hs pl pu ps ?_)
  show wpAny _ _ (if (((1 : Int) == 0) && ((-1 : Int) == 1) && ((2 : Nat) == 2)) = true then _ else _) _ _ s
  rw [if_neg (by decide)]
  first
    | exact wpAny_bind (m := Builtin.Tuple.tupleExact _) (wpAny_newObj_type (wpAny_pure ⟨_, rfl, wpAny_pure h⟩) htake)
    | exact wpAny_bind (m := Builtin.Tuple.tupleExact _) (wpAny_newObj_type (wpAny_bind (wpAny_pure (wpAny_pure ⟨_, rfl, wpAny_pure h⟩))) htake)
    | exact wpAny_bind (wpAny_bind (m := Builtin.Tuple.tupleExact _) (wpAny_newObj_type (wpAny_pure (wpAny_pure ⟨_, rfl, wpAny_pure h⟩)) htake))
    | exact wpAny_bind (wpAny_bind (m := Builtin.Tuple.tupleExact _) (wpAny_newObj_type (wpAny_pure ⟨_, rfl, wpAny_pure h⟩) htake))
section
variable {X : Cx}
def tRev2 (K : PySem.W.Frag) (te : TE) : TE := fun σ H Q => te σ H fun x H1 => ∃ a y z, x = .ref a ∧ SqT K H1 a [y, z] ∧ ∀ p, H1 p = none → Q (.ref p) (upd H1 p (.tup [z, y]))
theorem pe_rev2 {e : Expr} {te : TE} {k : Nat} {p1 p2 p3 pos : Pos} (he : PE X e te) : PE X (.Subscript e (.Slice none none (some (.UnaryOp .USub (.Constant (.int 1) k p1) p2)) p3) pos) (tRev2 X.K te) := by
  refine ⟨fun pins s σ H Q I h => ?_⟩
  refine Subscript_ (thn (he.run pins s σ H _ I h) fun v s1 ⟨x, H1, I1, r1, q1⟩ => ?_)
  obtain ⟨a, y, z, ex, hx, q⟩ := q1
  subst ex
  cases r1
  have hst : PO X (some (.UnaryOp .USub (.Constant (.int 1) k p1) p2)) (tPart (tUn (rU fun i => .int (-i)) (tC (.int 1)))) := po_some (pe_un un_neg pe_int)
  refine wpAny_Slice (thn (po_none.run pins s1 σ H1 (fun o H2 => o = none ∧ H2 = H1) I1 ⟨rfl, rfl⟩) fun vl s2 ⟨l, H2, I2, pl, el, e2⟩ => ?_)
  subst el e2
  refine thn (po_none.run pins s2 σ H2 (fun o H3 => o = none ∧ H3 = H2) I2 ⟨rfl, rfl⟩) fun vu s3 ⟨u, H3, I3, pu, eu, e3⟩ => ?_
  subst eu e3
  refine thn (hst.run pins s3 σ H3 (fun o H4 => o = some (-1) ∧ H4 = H3) I3 ⟨1, rfl, -1, rfl, rfl, rfl⟩) fun vs s4 ⟨o, H4, I4, ps, eo, e4⟩ => ?_
  subst eo e4
  have I5 : Inv X pins σ H4 { s4 with heap := s4.heap.push { cls := .type "slice", data := .fields #[vl, vu, vs] } } := I4.kept (t' := s4.toks) fun b ob q => Heap.get?_push_of_some _ q
  obtain ⟨its, r, ht, hz⟩ := I5.tuple hx
  obtain ⟨u1, u2, rfl, ry, rz⟩ := vals2 r
  show wpAny (model X.prog X.w) X.A (subscriptTail e (.Slice none none (some (.UnaryOp .USub (.Constant (.int 1) k p1) p2)) p3) (.ref a) (.ref s4.heap.objs.size)) (EP X pins σ Q) X.xe { s4 with heap := s4.heap.push { cls := .type "slice", data := .fields #[vl, vu, vs] } }
  refine tail_any (ops := [.ref a, .ref s4.heap.objs.size]) ht.typeIs (PyProof.Rows.slot_tuple_getitem.lookup) ?_ (by with_unfolding_all rfl)
  refine getItem_rev2 ht (Heap.IsSliceOf.new _ vl vu vs) pl pu ps ?_
  refine ⟨.ref _, _, I5.laid (t' := s4.toks) (o := .tup [z, y]) (fun b ob q => Heap.get?_push_of_some _ q) (Nat.le_refl _) ?_, rfl, q _ (I5.hok.fresh (Nat.le_refl _))⟩
  exact ⟨(by show 2 ≤ sizeLine; decide), _, .cons rz (.cons ry .nil), IsTup.new _ _⟩
/-- sorted(t), ints -/
theorem cr_sortedIT : CallR X (.builtin "sorted") (fun xs H Q => ∃ (a : Addr) (ks : List Int), xs = [.ref a] ∧ SqT X.K H a (ks.map V.int) ∧
    ∀ (ys : List Int) (p : Addr), ys.Perm ks → ys.Pairwise (· ≤ ·) → H p = none → Q (.ref p) (upd H p (.lst (ys.map V.int)))) := by
  intro pins s σ H xs us Q I r q
  obtain ⟨a, ks, ex, hd, q⟩ := q
  subst ex
  obtain ⟨u, eu, rx⟩ := vals1 r
  subst eu
  cases rx
  obtain ⟨its, rv, ht, hz⟩ := I.tuple hd
  have hS : PyProof.Rows.IntsAre its ks := rv.ints
  have hal : its.length = ks.length := by
    have := rv.length
    rw [List.length_map] at this
    exact this.symm
  rw [List.length_map] at hz
  obtain ⟨o, ho, hc, n, hdt⟩ := id ht
  refine Calls.call_function_entry PyProof.Rows.kind_sorted PyProof.Rows.plain_sorted PyProof.Rows.entry_sorted (PyProof.Rows.args_sorted1 _) ?_
  unfold Builtin.«sorted»
  refine wpAny_bind (m := checkCount "sorted" 1 1 _) (wpAny_pure ?_)
  refine wpAny_bind (wpAny_collect_seq a (T := "tuple") (.inr rfl) ho hc hdt (fun h' hk => ?_) (by rw [List.size_toArray, hal]; exact hz))
  have I1 : Inv X pins σ H { s with heap := h' } := I.kept (t' := s.toks) hk
  refine wpAny_bind (wpAny_newList ?_ (by rw [List.toList_toArray, hal]; exact hz))
  have hoL : (h'.push (seqObj "list" its.toArray.toList.toArray 0)).get? h'.objs.size = some (seqObj "list" its.toArray.toList.toArray 0) := Heap.get?_push_size _ rfl
  show wpAny _ _ _ _ _ { s with heap := h'.push (seqObj "list" its.toArray.toList.toArray 0) }
  refine wpAny_bind (wpAny_holding (wpAny_call_entry PyProof.Rows.slot_list_sort ⟨_, hoL, rfl⟩ PyProof.Rows.entry_list_sort
    (SrtO.list_sort_ord (s := { s with heap := h'.push (seqObj "list" its.toArray.toList.toArray 0) }) (vs := its) SrtO.swo_int hoL (by rw [hal]; exact hz) (fun h2 => SrtO.ints_sortable hS h2) fun out h1 h2 => ⟨_, rfl, ?_⟩) (PyProof.Rows.args_list_sort _)))
  obtain ⟨k1, k2, k3⟩ := SrtO.ints_out hS h1 h2
  obtain ⟨e', he'⟩ := PyProof.Rows.sortedHeap_at (vs := its) (out := out.toArray) hoL
  have hlen : ((out.map SrtO.iv).map V.int).length ≤ sizeLine := by
    rw [List.length_map, k2.length_eq]
    exact hz
  refine wpAny_pure ⟨_, rfl, .ref h'.objs.size, upd H h'.objs.size (.lst ((out.map SrtO.iv).map V.int)), I1.laid (t' := s.toks) (fun b u e => ?_) (Nat.le_refl _)
    (show ObjOk X.prog X.w _ _ _ (.lst ((out.map SrtO.iv).map V.int)) from ⟨hlen, out, e', vals_of_ints k1, he'⟩), rfl, q _ _ k2 k3 (I1.hok.fresh (Nat.le_refl _))⟩
  have hb : b < h'.objs.size := Heap.lt_size e
  rw [PyProof.Rows.sortedHeap_old (Nat.ne_of_lt hb) (by rw [size_push']; exact Nat.lt_succ_of_lt hb)]
  exact Heap.get?_push_of_some _ e
end

def tdata (t : Int × Int) : PyData := .tuple [.int t.1, .int t.2]
theorem Td.two {K : PySem.W.Frag} {H : Hp} {x y : Int} {t : Addr} (h : H t = some (.tup [.int x, .int y])) : Td K H (.ref t) (tdata (x, y)) := .tup (SqT.of h) (.cons (.int x) (.cons (.int y) .nil))
def leT (s t : Int × Int) : Prop := s.1 < t.1 ∨ (s.1 = t.1 ∧ s.2 ≤ t.2)
theorem PAll.td {K : PySem.W.Frag} {H : Hp} : ∀ {vs : List V} {ts : List (Int × Int)}, PAll H vs ts → TdAll K H vs (ts.map tdata)
  | _, _, .nil => .nil
  | _, _, .cons h k => .cons (Td.two h) (PAll.td k)
/-! ### sorted of pairs -/
/-- the two ints of the pair at u -/
def kkOf (h : Heap) (u : Value) : Int × Int := match u with
  | .ref a => match h.get? a with
    | some o => match o.data with
      | .seq vs _ => match vs.toList with
        | [.int i _, .int j _] => (i, j)
        | _ => (0, 0)
      | _ => (0, 0)
    | none => (0, 0)
  | _ => (0, 0)
theorem kk_pair {h : Heap} {u : Value} {i j : Int} (p : Srt.IsPair h u i j) : kkOf h u = (i, j) := by
  obtain ⟨a, o, t, w, n, rfl, h1, _, h3⟩ := p
  unfold kkOf
  simp only [h1, h3]
section
variable {X : Cx} {pins : List (Addr × Obj)} {σ : L2.St} {H : Hp} {s : Shared}
theorem pair_at (I : Inv X pins σ H s) {v : V} {u : Value} {t : Int × Int} (h : Td X.K H v (tdata t)) (r : RelV v u) : Srt.IsPair s.heap u t.1 t.2 ∧ v = backV u := by
  obtain ⟨i, j⟩ := t
  cases h with
  | @tup a xs ds h1 h2 =>
    obtain rfl : u = Value.ref a := r
    obtain ⟨its, rv, ⟨o, g1, g2, n, g3⟩, _⟩ := I.tuple h1
    cases h2 with
    | cons k1 h2 =>
      cases h2 with
      | cons k2 h2 =>
        cases h2
        cases k1
        cases k2
        cases rv with
        | cons r1 rv =>
          cases rv with
          | cons r2 rv =>
            cases rv
            obtain ⟨t1, rfl⟩ := r1
            obtain ⟨t2, rfl⟩ := r2
            exact ⟨⟨a, o, t1, t2, n, rfl, g1, g2, g3⟩, rfl⟩
theorem pairs_at (I : Inv X pins σ H s) : ∀ {xs : List V} {ts : List (Int × Int)} {us : List Value}, TdAll X.K H xs (ts.map tdata) → Vals xs us → us.map (kkOf s.heap) = ts ∧ ∀ u ∈ us, Srt.IsPair s.heap u (kkOf s.heap u).1 (kkOf s.heap u).2 ∧ Td X.K H (backV u) (tdata (kkOf s.heap u))
  | [], [], _, _, .nil => ⟨rfl, fun u m => nomatch m⟩
  | [], _ :: _, _, h, _ => nomatch h
  | _ :: _, [], _, h, _ => nomatch h
  | x :: xs, t :: ts, _ :: us, .cons h1 h2, .cons r1 r2 => by
    obtain ⟨e, f⟩ := pairs_at I h2 r2
    obtain ⟨p, b⟩ := pair_at I h1 r1
    have k := kk_pair p
    refine ⟨by rw [List.map_cons, e, k], fun u m => ?_⟩
    rcases List.mem_cons.mp m with rfl | m
    · rw [k]
      exact ⟨p, by rw [← b]; exact h1⟩
    · exact f u m
theorem pairs_atH (I : Inv X pins σ H s) : ∀ {xs : List V} {ts : List (Int × Int)} {us : List Value}, PAll H xs ts → Vals xs us → us.map (kkOf s.heap) = ts ∧ ∀ u ∈ us, Srt.IsPair s.heap u (kkOf s.heap u).1 (kkOf s.heap u).2 ∧ ∃ a, u = Value.ref a ∧ H a = some (.tup [.int (kkOf s.heap u).1, .int (kkOf s.heap u).2])
  | _, _, _, .nil, .nil => ⟨rfl, fun u m => nomatch m⟩
  | _, _, _ :: us, .cons (t := t) (x := x) (y := y) e h2, .cons r1 r2 => by
    obtain ⟨e2, f⟩ := pairs_atH I h2 r2
    obtain ⟨p, b⟩ := pair_at I (Td.two (K := X.K) e) r1
    have k := kk_pair p
    refine ⟨by rw [List.map_cons, e2, k], fun u m => ?_⟩
    rcases List.mem_cons.mp m with rfl | m
    · rw [k]
      refine ⟨p, t, ?_, e⟩
      exact r1
    · exact f u m
theorem pall_back {h : Heap} {H : Hp} : ∀ {us : List Value}, (∀ u ∈ us, ∃ a, u = Value.ref a ∧ H a = some (.tup [.int (kkOf h u).1, .int (kkOf h u).2])) → PAll H (us.map backV) (us.map (kkOf h))
  | [], _ => .nil
  | u :: us, f => by
    obtain ⟨a, e, ha⟩ := f u List.mem_cons_self
    subst e
    exact .cons ha (pall_back fun y m => f y (List.mem_cons_of_mem _ m))
def rSortedPH (K : PySem.W.Frag) : List V → Hp → VK → Prop := fun vs H Q => ∃ (l : Addr) (zs : List V) (ts : List (Int × Int)), vs = [V.ref l] ∧ (SqL K H l zs ∨ SqT K H l zs) ∧ PAll H zs ts ∧
  ∀ (ys : List V) (us : List (Int × Int)) (c : Addr), PAll H ys us → us.Perm ts → us.Pairwise leT → H c = none → Q (.ref c) (upd H c (.lst ys))
theorem cr_sortedPH : CallR X (.builtin "sorted") (rSortedPH X.K) := by
  intro pins s σ H vs us Q I r hh
  obtain ⟨l, zs, ts, rfl, sq, pa, q⟩ := hh
  obtain ⟨u, rfl, ru⟩ := vals1 r
  obtain rfl : u = Value.ref l := ru
  rcases sq with sq | sq
  · obtain ⟨its, rv, hl, hz⟩ := I.list sq
    obtain ⟨e, f⟩ := pairs_atH I pa rv
    refine SrtO.sorted_pairsO (k := kkOf s.heap) hl.isList (by rw [← rv.length]; exact hz) (fun v m => (f v m).1) fun h' d out g1 g2 kp hd hn => ?_
    have back : ∀ v ∈ out, v ∈ its := fun v m => g2.perm.mem_iff.mp m
    have refs : ∀ v ∈ out, ∃ b, v = Value.ref b := fun v m => by
      obtain ⟨b, _, _, _, _, e1, _⟩ := (f v (back v m)).1
      exact ⟨b, e1⟩
    obtain ⟨n, hn⟩ := hn
    have len : (out.map backV).length ≤ sizeLine := by
      rw [List.length_map, g2.perm.length_eq, ← rv.length]
      exact hz
    refine ⟨.ref d, upd H d (.lst (out.map backV)), I.laid (t' := s.toks) kp hd ⟨len, out, n, vals_back refs, hn⟩, rfl, q _ (out.map (kkOf s.heap)) d (pall_back fun v m => (f v (back v m)).2) ?_ ?_ (I.hok.fresh hd)⟩
    · rw [← e]
      exact g2.perm.map _
    · refine List.pairwise_map.mpr (g1.imp fun {x y} z => ?_)
      have z2 := SrtO.lexB_no.mp z
      unfold leT
      omega
  · obtain ⟨its, rv, ht, hz⟩ := I.tuple sq
    obtain ⟨e, f⟩ := pairs_atH I pa rv
    have hal : its.length = zs.length := rv.length.symm
    obtain ⟨o, ho, hc, n, hdt⟩ := id ht
    refine Calls.call_function_entry PyProof.Rows.kind_sorted PyProof.Rows.plain_sorted PyProof.Rows.entry_sorted (PyProof.Rows.args_sorted1 _) ?_
    unfold Builtin.«sorted»
    refine wpAny_bind (m := checkCount "sorted" 1 1 _) (wpAny_pure ?_)
    refine wpAny_bind (wpAny_collect_seq l (T := "tuple") (.inr rfl) ho hc hdt (fun h' hk => ?_) (by rw [List.size_toArray, hal]; exact hz))
    have I1 : Inv X pins σ H { s with heap := h' } := I.kept (t' := s.toks) hk
    refine wpAny_bind (wpAny_newList ?_ (by rw [List.toList_toArray, hal]; exact hz))
    have hoL : (h'.push (seqObj "list" its.toArray.toList.toArray 0)).get? h'.objs.size = some (seqObj "list" its.toArray.toList.toArray 0) := Heap.get?_push_size _ rfl
    show wpAny _ _ _ _ _ { s with heap := h'.push (seqObj "list" its.toArray.toList.toArray 0) }
    refine wpAny_bind (wpAny_holding (wpAny_call_entry PyProof.Rows.slot_list_sort ⟨_, hoL, rfl⟩ PyProof.Rows.entry_list_sort
      (SrtO.list_sort_ord (s := { s with heap := h'.push (seqObj "list" its.toArray.toList.toArray 0) }) (vs := its) (SrtO.swo_lex (kkOf s.heap)) hoL (by rw [hal]; exact hz) (fun h2 => ?_) fun out g1 g2 => ⟨_, rfl, ?_⟩) (PyProof.Rows.args_list_sort _)))
    · refine SrtO.pairs_sortableO (s := { s with heap := h'.push (seqObj "list" its.toArray.toList.toArray 0) }) (by omega) (fun v hm => (f v hm).1.keeps fun b o e _ => Heap.get?_push_of_some _ (hk b o e)) fun o e => ?_
      have e' := e.symm.trans hoL
      cases e'
      intro c
      exact absurd (Value.type.inj c) (by decide)
    · have back : ∀ v ∈ out, v ∈ its := fun v m => g2.perm.mem_iff.mp m
      have refs : ∀ v ∈ out, ∃ b, v = Value.ref b := fun v m => by
        obtain ⟨b, _, _, _, _, e1, _⟩ := (f v (back v m)).1
        exact ⟨b, e1⟩
      obtain ⟨e', he'⟩ := PyProof.Rows.sortedHeap_at (vs := its) (out := out.toArray) hoL
      have len : (out.map backV).length ≤ sizeLine := by
        rw [List.length_map, g2.perm.length_eq, ← rv.length]
        exact hz
      refine wpAny_pure ⟨_, rfl, .ref h'.objs.size, upd H h'.objs.size (.lst (out.map backV)), I1.laid (t' := s.toks) (fun b u e => ?_) (Nat.le_refl _)
        (show ObjOk X.prog X.w _ _ _ (.lst (out.map backV)) from ⟨len, out, e', vals_back refs, he'⟩), rfl, q _ (out.map (kkOf s.heap)) _ (pall_back fun v m => (f v (back v m)).2) ?_ ?_ (I1.hok.fresh (Nat.le_refl _))⟩
      · have hb : b < h'.objs.size := Heap.lt_size e
        rw [PyProof.Rows.sortedHeap_old (Nat.ne_of_lt hb) (by rw [size_push']; exact Nat.lt_succ_of_lt hb)]
        exact Heap.get?_push_of_some _ e
      · rw [← e]
        exact g2.perm.map _
      · refine List.pairwise_map.mpr (g1.imp fun {x y} z => ?_)
        have z2 := SrtO.lexB_no.mp z
        unfold leT
        omega
/-! ### set of a tuple of pairs -/
end
theorem cr_sortedITK {X : Cx} {K : PySem.W.Frag} (hK : X.K = K) : CallR X (.builtin "sorted") (fun xs H Q => ∃ (a : Addr) (ks : List Int), xs = [.ref a] ∧ SqT K H a (ks.map V.int) ∧
    ∀ (ys : List Int) (p : Addr), ys.Perm ks → ys.Pairwise (· ≤ ·) → H p = none → Q (.ref p) (upd H p (.lst (ys.map V.int)))) := by
  subst hK
  exact cr_sortedIT

end My
namespace My
open PySem L2
/-! ### names linked in trees -/
section
variable {N : Type} [DecidableEq N]
def up1 {α : Type} (f : N → α) (x : N) (v : α) : N → α := fun y => if y = x then v else f y
theorem up1_same {α : Type} {f : N → α} {x : N} {v : α} : up1 f x v x = v := if_pos rfl
theorem up1_ne {α : Type} {f : N → α} {x y : N} {v : α} (h : y ≠ x) : up1 f x v y = f y := if_neg h
structure Lk (N : Type) where
  ns : List N
  l : N → Option N
  r : N → Option N
  a : N → Option N
  t : N → Bool
  lk : Nat
def upO {α : Type} (f : N → α) (x : Option N) (v : α) : N → α := match x with | none => f | some z => up1 f z v
theorem upO_ne {α : Type} {f : N → α} {x : Option N} {y : N} {v : α} (h : some y ≠ x) : upO f x v y = f y := by
  cases x with
  | none => rfl
  | some z => exact up1_ne fun e => h (by rw [e])
theorem upO_same {α : Type} {f : N → α} {y : N} {v : α} : upO f (some y) v y = v := up1_same
def Lk.setL (S : Lk N) (x : N) (y : Option N) : Lk N := { S with l := up1 S.l x y, a := upO S.a y (some x) }
def Lk.setR (S : Lk N) (x : N) (y : Option N) : Lk N := { S with r := up1 S.r x y, a := upO S.a y (some x) }
def Lk.isTop (S : Lk N) (x : N) : Bool := match S.a x with | none => true | some u => !(decide (S.l u = some x) || decide (S.r u = some x))
def Lk.inPlace (S : Lk N) (x u : N) : Lk N :=
  { S with a := up1 S.a x (S.a u)
           l := match S.a u with | none => S.l | some o => if S.l o = some u then up1 S.l o (some x) else S.l
           r := match S.a u with | none => S.r | some o => if S.l o = some u then S.r else if S.r o = some u then up1 S.r o (some x) else S.r }
def Lk.turn1 (S : Lk N) (x u : N) : Lk N :=
  let S1 := { S with lk := S.lk + 1 }.inPlace x u
  if S1.l u = some x then (S1.setL u (S1.r x)).setR x (some u) else (S1.setR u (S1.l x)).setL x (some u)
def Lk.turn (S : Lk N) (x : N) : Lk N := match S.a x with | none => S | some u => S.turn1 x u
/-- the same as far as l, r, a, t go -/
def Agr (S S' : Lk N) (x : N) : Prop := S'.l x = S.l x ∧ S'.r x = S.r x ∧ S'.a x = S.a x ∧ S'.t x = S.t x
theorem Agr.refl {S : Lk N} {x : N} : Agr S S x := ⟨rfl, rfl, rfl, rfl⟩
theorem Agr.trans {S S1 S2 : Lk N} {x : N} (h : Agr S S1 x) (k : Agr S1 S2 x) : Agr S S2 x := ⟨k.1.trans h.1, k.2.1.trans h.2.1, k.2.2.1.trans h.2.2.1, k.2.2.2.trans h.2.2.2⟩
inductive Tr (N : Type) where
  | nil : Tr N
  | nd (tw : Bool) (l : Tr N) (x : N) (r : Tr N) : Tr N
def Tr.root : Tr N → Option N
  | .nil => none
  | .nd _ _ x _ => some x
def Tr.nms : Tr N → List N
  | .nil => []
  | .nd _ l x r => l.nms ++ x :: r.nms
/-- the order that is meant -/
def Tr.ord : Tr N → List N
  | .nil => []
  | .nd false l x r => l.ord ++ x :: r.ord
  | .nd true l x r => (l.ord ++ x :: r.ord).reverse
def Rep (S : Lk N) : Option N → Tr N → Prop
  | _, .nil => True
  | p, .nd tw l x r => x ∈ S.ns ∧ S.t x = tw ∧ S.l x = l.root ∧ S.r x = r.root ∧ S.a x = p ∧ Rep S (some x) l ∧ Rep S (some x) r
theorem Tr.root_mem : ∀ {T : Tr N} {x : N}, T.root = some x → x ∈ T.nms
  | .nd _ l y r, x, h => by
    cases h
    exact List.mem_append_right _ List.mem_cons_self
theorem Tr.ord_mem : ∀ {T : Tr N} {x : N}, x ∈ T.ord ↔ x ∈ T.nms
  | .nil, x => Iff.rfl
  | .nd false l y r, x => by
    simp only [Tr.ord, Tr.nms, List.mem_append, List.mem_cons, l.ord_mem, r.ord_mem]
  | .nd true l y r, x => by
    simp only [Tr.ord, Tr.nms, List.mem_reverse, List.mem_append, List.mem_cons, l.ord_mem, r.ord_mem]
theorem Rep.sub {S : Lk N} : ∀ {T : Tr N} {p : Option N} {x : N}, Rep S p T → x ∈ T.nms → x ∈ S.ns
  | .nd _ l y r, p, x, h, m => by
    obtain ⟨h1, _, _, _, _, hl, hr⟩ := h
    rcases List.mem_append.mp m with m | m
    · exact hl.sub m
    · rcases List.mem_cons.mp m with rfl | m
      · exact h1
      · exact hr.sub m
/-- what isn't in it may change; the top may come to be below another one -/
theorem Rep.re {S S' : Lk N} (hn : S'.ns = S.ns) : ∀ {T : Tr N} {p p' : Option N}, Rep S p T → T.nms.Nodup → (∀ x ∈ T.nms, S'.l x = S.l x ∧ S'.r x = S.r x ∧ S'.t x = S.t x) → (∀ x ∈ T.nms, T.root ≠ some x → S'.a x = S.a x) → (∀ x, T.root = some x → S'.a x = p') → Rep S' p' T
  | .nil, _, _, _, _, _, _, _ => trivial
  | .nd tw l x r, p, p', h, nd, h1, h2, h3 => by
    obtain ⟨q1, q2, q3, q4, q5, ql, qr⟩ := h
    have nd : (l.nms ++ x :: r.nms).Nodup := nd
    obtain ⟨n1, n2, n3⟩ := List.nodup_append.mp nd
    obtain ⟨n4, n5⟩ := List.nodup_cons.mp n2
    have ml : ∀ y ∈ l.nms, y ∈ (Tr.nd tw l x r).nms := fun y m => List.mem_append_left _ m
    have mr : ∀ y ∈ r.nms, y ∈ (Tr.nd tw l x r).nms := fun y m => List.mem_append_right _ (List.mem_cons_of_mem _ m)
    have mx : x ∈ (Tr.nd tw l x r).nms := List.mem_append_right _ List.mem_cons_self
    have nl : ∀ y ∈ l.nms, y ≠ x := fun y m e => n3 y m x List.mem_cons_self e
    have nr : ∀ y ∈ r.nms, y ≠ x := fun y m e => n4 (e ▸ m)
    have al : ∀ y ∈ l.nms, S'.a y = S.a y := fun y m => h2 y (ml y m) fun e => nl y m (Option.some.inj e).symm
    have ar : ∀ y ∈ r.nms, S'.a y = S.a y := fun y m => h2 y (mr y m) fun e => nr y m (Option.some.inj e).symm
    obtain ⟨a1, a2, a3⟩ := h1 x mx
    refine ⟨hn ▸ q1, a3.trans q2, a1.trans q3, a2.trans q4, h3 x rfl, ql.re hn n1 (fun y m => h1 y (ml y m)) (fun y m _ => al y m) (fun y e => ?_), qr.re hn n5 (fun y m => h1 y (mr y m)) (fun y m _ => ar y m) (fun y e => ?_)⟩
    · rw [al y (Tr.root_mem e)]
      cases l with
      | nil => exact nomatch e
      | nd tw2 l2 y2 r2 =>
        cases e
        exact ql.2.2.2.2.1
    · rw [ar y (Tr.root_mem e)]
      cases r with
      | nil => exact nomatch e
      | nd tw2 l2 y2 r2 =>
        cases e
        exact qr.2.2.2.2.1
theorem Rep.agr {S S' : Lk N} (hn : S'.ns = S.ns) : ∀ {T : Tr N} {p : Option N}, Rep S p T → (∀ x ∈ T.nms, Agr S S' x) → Rep S' p T
  | .nil, _, _, _ => trivial
  | .nd tw l x r, p, h, h1 => by
    obtain ⟨q1, q2, q3, q4, q5, ql, qr⟩ := h
    obtain ⟨a1, a2, a3, a4⟩ := h1 x (List.mem_append_right _ List.mem_cons_self)
    exact ⟨hn ▸ q1, a4.trans q2, a1.trans q3, a2.trans q4, a3.trans q5, ql.agr hn fun y m => h1 y (List.mem_append_left _ m), qr.agr hn fun y m => h1 y (List.mem_append_right _ (List.mem_cons_of_mem _ m))⟩
theorem Rep.top {S : Lk N} {T : Tr N} {p : Option N} {x : N} (h : Rep S p T) (e : T.root = some x) : S.a x = p := by
  cases T with
  | nil => exact nomatch e
  | nd tw l y r =>
    cases e
    exact h.2.2.2.2.1
/-- two states that make the same tree agree on it -/
theorem Rep.det {S S' : Lk N} : ∀ {T : Tr N} {p : Option N}, Rep S p T → Rep S' p T → ∀ x ∈ T.nms, Agr S S' x
  | .nd tw l x r, p, h, k, y, m => by
    obtain ⟨_, q2, q3, q4, q5, ql, qr⟩ := h
    obtain ⟨_, k2, k3, k4, k5, kl, kr⟩ := k
    rcases List.mem_append.mp m with m | m
    · exact ql.det kl y m
    · rcases List.mem_cons.mp m with rfl | m
      · exact ⟨k3.trans q3.symm, k4.trans q4.symm, k5.trans q5.symm, k2.trans q2.symm⟩
      · exact qr.det kr y m
/-- what stands around a part of a tree, from within: (is the part the left one, the name, the other part); nothing is turned there -/
abbrev Cz (N : Type) := List (Bool × N × Tr N)
def plug : Tr N → Cz N → Tr N
  | t, [] => t
  | t, (true, u, s) :: c => plug (.nd false t u s) c
  | t, (false, u, s) :: c => plug (.nd false s u t) c
def ctop (p : Option N) : Cz N → Option N
  | [] => p
  | (_, u, _) :: _ => some u
def cnm : Cz N → List N
  | [] => []
  | (_, u, s) :: c => u :: s.nms ++ cnm c
def RepC (S : Lk N) (p : Option N) : Cz N → Option N → Prop
  | [], _ => True
  | (b, u, s) :: c, z => u ∈ S.ns ∧ S.t u = false ∧ (if b then S.l u = z ∧ S.r u = s.root else S.l u = s.root ∧ S.r u = z) ∧ S.a u = ctop p c ∧ Rep S (some u) s ∧ RepC S p c (some u)
theorem rep_plug {S : Lk N} {p : Option N} : ∀ {c : Cz N} {t : Tr N}, Rep S p (plug t c) ↔ Rep S (ctop p c) t ∧ RepC S p c t.root
  | [], t => ⟨fun h => ⟨h, trivial⟩, fun h => h.1⟩
  | (true, u, s) :: c, t => by
    show Rep S p (plug (.nd false t u s) c) ↔ _
    rw [rep_plug]
    constructor
    · rintro ⟨⟨h1, h2, h3, h4, h5, h6, h7⟩, h8⟩
      exact ⟨h6, h1, h2, ⟨h3, h4⟩, h5, h7, h8⟩
    · rintro ⟨h6, h1, h2, ⟨h3, h4⟩, h5, h7, h8⟩
      exact ⟨⟨h1, h2, h3, h4, h5, h6, h7⟩, h8⟩
  | (false, u, s) :: c, t => by
    show Rep S p (plug (.nd false s u t) c) ↔ _
    rw [rep_plug]
    constructor
    · rintro ⟨⟨h1, h2, h3, h4, h5, h6, h7⟩, h8⟩
      exact ⟨h7, h1, h2, ⟨h3, h4⟩, h5, h6, h8⟩
    · rintro ⟨h6, h1, h2, ⟨h3, h4⟩, h5, h7, h8⟩
      exact ⟨⟨h1, h2, h3, h4, h5, h7, h6⟩, h8⟩
theorem plug_perm : ∀ {c : Cz N} {t : Tr N}, (plug t c).nms.Perm (t.nms ++ cnm c)
  | [], t => by
    show t.nms.Perm (t.nms ++ [])
    rw [List.append_nil]
  | (true, u, s) :: c, t => by
    refine (plug_perm (c := c) (t := .nd false t u s)).trans ?_
    show ((t.nms ++ u :: s.nms) ++ cnm c).Perm (t.nms ++ (u :: s.nms ++ cnm c))
    rw [List.append_assoc]
  | (false, u, s) :: c, t => by
    refine (plug_perm (c := c) (t := .nd false s u t)).trans ?_
    show ((s.nms ++ u :: t.nms) ++ cnm c).Perm (t.nms ++ (u :: s.nms ++ cnm c))
    refine ((List.perm_append_comm (l₁ := s.nms) (l₂ := u :: t.nms)).append_right _).trans ?_
    show (u :: (t.nms ++ s.nms) ++ cnm c).Perm (t.nms ++ (u :: s.nms ++ cnm c))
    rw [List.cons_append, List.cons_append, List.append_assoc]
    exact List.perm_middle.symm
def cL : Cz N → List N
  | [] => []
  | (true, _, _) :: c => cL c
  | (false, u, s) :: c => cL c ++ (s.ord ++ [u])
def cR : Cz N → List N
  | [] => []
  | (true, u, s) :: c => u :: s.ord ++ cR c
  | (false, _, _) :: c => cR c
theorem plug_ord : ∀ {c : Cz N} {t : Tr N}, (plug t c).ord = cL c ++ (t.ord ++ cR c)
  | [], t => by
    show t.ord = [] ++ (t.ord ++ [])
    rw [List.append_nil, List.nil_append]
  | (true, u, s) :: c, t => by
    refine (plug_ord (c := c) (t := .nd false t u s)).trans ?_
    show cL c ++ ((t.ord ++ u :: s.ord) ++ cR c) = cL c ++ (t.ord ++ (u :: s.ord ++ cR c))
    rw [List.append_assoc]
  | (false, u, s) :: c, t => by
    refine (plug_ord (c := c) (t := .nd false s u t)).trans ?_
    show cL c ++ ((s.ord ++ u :: t.ord) ++ cR c) = (cL c ++ (s.ord ++ [u])) ++ (t.ord ++ cR c)
    simp only [List.append_assoc, List.cons_append, List.nil_append]
/-- the context stays where its names do; its innermost one has another part -/
theorem RepC.re {S S' : Lk N} {p : Option N} (hn : S'.ns = S.ns) : ∀ {c : Cz N} {z : Option N}, RepC S p c z → (∀ x ∈ cnm c, Agr S S' x) → RepC S' p c z
  | [], _, _, _ => trivial
  | (b, u, s) :: c, z, h, k => by
    obtain ⟨h1, h2, h3, h4, h5, h6⟩ := h
    obtain ⟨k1, k2, k3, k4⟩ := k u List.mem_cons_self
    refine ⟨hn ▸ h1, k4.trans h2, ?_, k3.trans h4, h5.agr hn fun x m => k x (List.mem_cons_of_mem _ (List.mem_append_left _ m)), h6.re hn fun x m => k x (List.mem_cons_of_mem _ (List.mem_append_right _ m))⟩
    rw [k1, k2]
    exact h3
end
section
variable {N : Type} [DecidableEq N]
/-- l and r once x stands where u was -/
structure Placed (S : Lk N) (x u : N) (c : Cz N) (l1 r1 : N → Option N) : Prop where
  fl : ∀ y, some y ≠ ctop none c → l1 y = S.l y
  fr : ∀ y, some y ≠ ctop none c → r1 y = S.r y
  gb : ∀ b g q c', c = (b, g, q) :: c' → if b then l1 g = some x ∧ r1 g = S.r g else l1 g = S.l g ∧ r1 g = some x
theorem root_ne {s : Tr N} {u : N} (h : u ∉ s.nms) : s.root ≠ some u := fun e => h (Tr.root_mem e)
theorem placed {S : Lk N} {p : Option N} {x u : N} {c : Cz N} (hc : RepC S p c (some u)) (hu : S.a u = ctop p c) (nu : u ∉ cnm c) (ho : c = [] → ∀ q, p = some q → S.l q ≠ some u ∧ S.r q ≠ some u) : Placed S x u c (S.inPlace x u).l (S.inPlace x u).r := by
  cases c with
  | nil =>
    have e1 : (S.inPlace x u).l = S.l := by
      show (match S.a u with | none => S.l | some o => if S.l o = some u then up1 S.l o (some x) else S.l) = S.l
      rw [hu]
      cases p with
      | none => rfl
      | some q => exact if_neg (ho rfl q rfl).1
    have e2 : (S.inPlace x u).r = S.r := by
      show (match S.a u with | none => S.r | some o => if S.l o = some u then S.r else if S.r o = some u then up1 S.r o (some x) else S.r) = S.r
      rw [hu]
      cases p with
      | none => rfl
      | some q =>
        show (if S.l q = some u then S.r else if S.r q = some u then up1 S.r q (some x) else S.r) = S.r
        rw [if_neg (ho rfl q rfl).1, if_neg (ho rfl q rfl).2]
    exact ⟨fun y _ => by rw [e1], fun y _ => by rw [e2], fun b g q c' e => nomatch e⟩
  | cons f c' =>
    obtain ⟨b, g, q⟩ := f
    obtain ⟨_, _, h3, _, _, _⟩ := hc
    have hu : S.a u = some g := hu
    have nq : q.root ≠ some u := root_ne fun m => nu (List.mem_cons_of_mem _ (List.mem_append_left _ m))
    cases b with
    | true =>
      have h3 : S.l g = some u ∧ S.r g = q.root := h3
      have e1 : (S.inPlace x u).l = up1 S.l g (some x) := by
        show (match S.a u with | none => S.l | some o => if S.l o = some u then up1 S.l o (some x) else S.l) = _
        rw [hu]
        exact if_pos h3.1
      have e2 : (S.inPlace x u).r = S.r := by
        show (match S.a u with | none => S.r | some o => if S.l o = some u then S.r else if S.r o = some u then up1 S.r o (some x) else S.r) = S.r
        rw [hu]
        exact if_pos h3.1
      refine ⟨fun y ny => by rw [e1, up1_ne fun e => ny (by rw [e]; rfl)], fun y _ => by rw [e2], fun b2 g2 q2 c2 e => ?_⟩
      cases e
      exact ⟨by rw [e1, up1_same], by rw [e2]⟩
    | false =>
      have h3 : S.l g = q.root ∧ S.r g = some u := h3
      have nl : ¬ S.l g = some u := fun e => nq (h3.1.symm.trans e)
      have e1 : (S.inPlace x u).l = S.l := by
        show (match S.a u with | none => S.l | some o => if S.l o = some u then up1 S.l o (some x) else S.l) = _
        rw [hu]
        exact if_neg nl
      have e2 : (S.inPlace x u).r = up1 S.r g (some x) := by
        show (match S.a u with | none => S.r | some o => if S.l o = some u then S.r else if S.r o = some u then up1 S.r o (some x) else S.r) = _
        rw [hu]
        show (if S.l g = some u then S.r else if S.r g = some u then up1 S.r g (some x) else S.r) = _
        rw [if_neg nl, if_pos h3.2]
      refine ⟨fun y _ => by rw [e1], fun y ny => by rw [e2, up1_ne fun e => ny (by rw [e]; rfl)], fun b2 g2 q2 c2 e => ?_⟩
      cases e
      exact ⟨by rw [e1], by rw [e2, up1_same]⟩
theorem ctop_mem {c : Cz N} {y : N} (h : some y = ctop none c) : y ∈ cnm c := by
  cases c with
  | nil => exact nomatch h
  | cons f c' =>
    obtain ⟨b, g, q⟩ := f
    cases h
    exact List.mem_cons_self
/-- what a turn leaves -/
structure Turned (S S' : Lk N) (T : Tr N) : Prop where
  ns : S'.ns = S.ns
  t : S'.t = S.t
  lk : S'.lk = S.lk + 1
  out : ∀ y, y ∉ T.nms → Agr S S' y
theorem repc_put {S S' : Lk N} {p : Option N} {x u : N} {c : Cz N} (hn : S'.ns = S.ns) (ht : S'.t = S.t) (hc : RepC S p c (some u)) (nd : (cnm c).Nodup)
    (ha : ∀ y ∈ cnm c, S'.a y = S.a y) (hl : ∀ y ∈ cnm c, some y ≠ ctop none c → S'.l y = S.l y) (hr : ∀ y ∈ cnm c, some y ≠ ctop none c → S'.r y = S.r y)
    (gb : ∀ b g q c', c = (b, g, q) :: c' → if b then S'.l g = some x ∧ S'.r g = S.r g else S'.l g = S.l g ∧ S'.r g = some x) : RepC S' p c (some x) := by
  cases c with
  | nil => trivial
  | cons f c' =>
    obtain ⟨b, g, q⟩ := f
    obtain ⟨h1, h2, h3, h4, h5, h6⟩ := hc
    have nd : (g :: (q.nms ++ cnm c')).Nodup := nd
    obtain ⟨n1, n2⟩ := List.nodup_cons.mp nd
    have ag : ∀ y ∈ q.nms ++ cnm c', Agr S S' y := fun y m => by
      have m' : y ∈ cnm ((b, g, q) :: c') := List.mem_cons_of_mem _ m
      have ny : some y ≠ ctop none ((b, g, q) :: c') := fun e => by
        cases e
        exact n1 m
      exact ⟨hl y m' ny, hr y m' ny, ha y m', by rw [ht]⟩
    refine ⟨hn ▸ h1, by rw [ht]; exact h2, ?_, (ha g List.mem_cons_self).trans h4, h5.agr hn fun y m => ag y (List.mem_append_left _ m), h6.re hn fun y m => ag y (List.mem_append_right _ m)⟩
    have z := gb b g q c' rfl
    cases b with
    | true => exact ⟨z.1, z.2.trans h3.2⟩
    | false => exact ⟨z.1.trans h3.1, z.2⟩
theorem turnL {S : Lk N} {p : Option N} {A B s : Tr N} {x u : N} {c : Cz N} (h : Rep S p (plug (.nd false A x B) ((true, u, s) :: c))) (nd : (plug (.nd false A x B) ((true, u, s) :: c)).nms.Nodup)
    (ho : c = [] → ∀ q, p = some q → S.l q ≠ some u ∧ S.r q ≠ some u) :
    Rep (S.turn x) p (plug (.nd false A x (.nd false B u s)) c) ∧ Turned S (S.turn x) (plug (.nd false A x B) ((true, u, s) :: c)) := by
  have nd2 := plug_perm.nodup_iff.mp nd
  rw [show (Tr.nd false A x B).nms = A.nms ++ x :: B.nms from rfl, show cnm ((true, u, s) :: c) = u :: s.nms ++ cnm c from rfl] at nd2
  obtain ⟨n1, n2, n3⟩ := List.nodup_append.mp nd2
  obtain ⟨a1, a2, a3⟩ := List.nodup_append.mp n1
  obtain ⟨b1, b2⟩ := List.nodup_cons.mp a2
  have n2 : (u :: (s.nms ++ cnm c)).Nodup := n2
  obtain ⟨u1, u2⟩ := List.nodup_cons.mp n2
  obtain ⟨s1, s2, s3⟩ := List.nodup_append.mp u2
  have nuc : u ∉ cnm c := fun m => u1 (List.mem_append_right _ m)
  have xu : x ≠ u := n3 x (List.mem_append_right _ List.mem_cons_self) u List.mem_cons_self
  have xc : x ∉ cnm c := fun m => n3 x (List.mem_append_right _ List.mem_cons_self) x (List.mem_cons_of_mem _ (List.mem_append_right _ m)) rfl
  have xs : x ∉ s.nms := fun m => n3 x (List.mem_append_right _ List.mem_cons_self) x (List.mem_cons_of_mem _ (List.mem_append_left _ m)) rfl
  have inB : ∀ y ∈ B.nms, y ≠ u ∧ y ∉ s.nms ∧ y ∉ cnm c ∧ y ≠ x ∧ y ∉ A.nms := fun y m => by
    have my : y ∈ A.nms ++ x :: B.nms := List.mem_append_right _ (List.mem_cons_of_mem _ m)
    exact ⟨n3 y my u List.mem_cons_self, fun z => n3 y my y (List.mem_cons_of_mem _ (List.mem_append_left _ z)) rfl, fun z => n3 y my y (List.mem_cons_of_mem _ (List.mem_append_right _ z)) rfl, fun e => b1 (e ▸ m), fun z => a3 y z y (List.mem_cons_of_mem _ m) rfl⟩
  have inA : ∀ y ∈ A.nms, y ≠ u ∧ y ∉ s.nms ∧ y ∉ cnm c ∧ y ≠ x ∧ y ∉ B.nms := fun y m => by
    have my : y ∈ A.nms ++ x :: B.nms := List.mem_append_left _ m
    exact ⟨n3 y my u List.mem_cons_self, fun z => n3 y my y (List.mem_cons_of_mem _ (List.mem_append_left _ z)) rfl, fun z => n3 y my y (List.mem_cons_of_mem _ (List.mem_append_right _ z)) rfl, a3 y m x List.mem_cons_self, fun z => a3 y m y (List.mem_cons_of_mem _ z) rfl⟩
  obtain ⟨⟨g1, g2, g3, g4, g5, gA, gB⟩, hu1, hu2, ⟨hu3, hu4⟩, hu5, hs, hc⟩ := rep_plug.mp h
  have pl := placed (x := x) hc hu5 nuc ho
  have g5 : S.a x = some u := g5
  have hu3 : S.l u = some x := hu3
  have el : (S.inPlace x u).l u = some x := (pl.fl u fun e => nuc (ctop_mem e)).trans hu3
  have er : (S.inPlace x u).r x = B.root := (pl.fr x fun e => xc (ctop_mem e)).trans g4
  have e0 : S.turn x = (({ S with lk := S.lk + 1 }.inPlace x u).setL u (({ S with lk := S.lk + 1 }.inPlace x u).r x)).setR x (some u) := by
    unfold Lk.turn
    rw [g5]
    exact if_pos el
  have fl : (S.turn x).l = up1 (S.inPlace x u).l u B.root := by
    rw [e0, ← er]
    rfl
  have fr : (S.turn x).r = up1 (S.inPlace x u).r x (some u) := by
    rw [e0]
    rfl
  have fa : (S.turn x).a = up1 (upO (up1 S.a x (S.a u)) B.root (some u)) u (some x) := by
    rw [e0, ← er]
    rfl
  have ft : (S.turn x).t = S.t := by
    rw [e0]
    rfl
  have fn : (S.turn x).ns = S.ns := by
    rw [e0]
    rfl
  have fk : (S.turn x).lk = S.lk + 1 := by
    rw [e0]
    rfl
  have nBu : some u ≠ B.root := fun e => (inB u (Tr.root_mem e.symm)).1 rfl
  have nBx : some x ≠ B.root := fun e => b1 (Tr.root_mem e.symm)
  have al : ∀ y, y ≠ x → y ≠ u → y ∉ cnm c → (S.turn x).l y = S.l y ∧ (S.turn x).r y = S.r y := fun y yx yu yc => by
    rw [fl, fr, up1_ne yu, up1_ne yx]
    exact ⟨pl.fl y fun e => yc (ctop_mem e), pl.fr y fun e => yc (ctop_mem e)⟩
  have aa : ∀ y, y ≠ x → y ≠ u → some y ≠ B.root → (S.turn x).a y = S.a y := fun y yx yu yB => by
    rw [fa, up1_ne yu, upO_ne yB, up1_ne yx]
  have ag : ∀ y, y ≠ x → y ≠ u → y ∉ cnm c → some y ≠ B.root → Agr S (S.turn x) y := fun y yx yu yc yB => ⟨(al y yx yu yc).1, (al y yx yu yc).2, aa y yx yu yB, by rw [ft]⟩
  refine ⟨rep_plug.mpr ⟨⟨fn ▸ g1, by rw [ft]; exact g2, ?_, ?_, ?_, ?_, ?_⟩, ?_⟩, ⟨fn, ft, fk, fun y ny => ?_⟩⟩
  · rw [fl, up1_ne xu]
    exact (pl.fl x fun e => xc (ctop_mem e)).trans g3
  · rw [fr, up1_same]
    rfl
  · rw [fa, up1_ne xu, upO_ne nBx, up1_same]
    exact hu5
  · exact gA.agr fn fun y m => ag y (inA y m).2.2.2.1 (inA y m).1 (inA y m).2.2.1 fun e => (inA y m).2.2.2.2 (Tr.root_mem e.symm)
  · refine ⟨fn ▸ hu1, by rw [ft]; exact hu2, ?_, ?_, ?_, ?_, ?_⟩
    · rw [fl, up1_same]
    · rw [fr, up1_ne xu.symm]
      exact (pl.fr u fun e => nuc (ctop_mem e)).trans hu4
    · rw [fa, up1_same]
    · refine gB.re fn b2 (fun y m => ?_) (fun y m ny => ?_) (fun y e => ?_)
      · obtain ⟨q1, q2, q3, q4, q5⟩ := inB y m
        exact ⟨(al y q4 q1 q3).1, (al y q4 q1 q3).2, by rw [ft]⟩
      · obtain ⟨q1, q2, q3, q4, q5⟩ := inB y m
        exact aa y q4 q1 ny.symm
      · obtain ⟨q1, q2, q3, q4, q5⟩ := inB y (Tr.root_mem e)
        rw [fa, up1_ne q1, e, upO_same]
    · exact hs.agr fn fun y m => ag y (fun e => xs (e ▸ m)) (fun e => u1 (e ▸ List.mem_append_left _ m)) (fun z => s3 y m y z rfl) fun e => (inB y (Tr.root_mem e.symm)).2.1 m
  · refine repc_put fn ft hc s2 (fun y m => ?_) (fun y m ny => ?_) (fun y m ny => ?_) (fun b g q c' e => ?_)
    · exact aa y (fun e => xc (e ▸ m)) (fun e => nuc (e ▸ m)) fun e => (inB y (Tr.root_mem e.symm)).2.2.1 m
    · rw [fl, up1_ne fun (e : y = u) => nuc (e ▸ m)]
      exact pl.fl y ny
    · rw [fr, up1_ne fun (e : y = x) => xc (e ▸ m)]
      exact pl.fr y ny
    · have mg : g ∈ cnm c := by
        rw [e]
        exact List.mem_cons_self
      have z := pl.gb b g q c' e
      have e1 : (S.turn x).l g = (S.inPlace x u).l g := by rw [fl, up1_ne fun (e : g = u) => nuc (e ▸ mg)]
      have e2 : (S.turn x).r g = (S.inPlace x u).r g := by rw [fr, up1_ne fun (e : g = x) => xc (e ▸ mg)]
      rw [e1, e2]
      exact z
  · have ny : y ∉ (A.nms ++ x :: B.nms) ++ (u :: s.nms ++ cnm c) := fun m => ny (plug_perm.mem_iff.mpr m)
    refine ag y (fun e => ny (e ▸ List.mem_append_left _ (List.mem_append_right _ List.mem_cons_self))) (fun e => ny (e ▸ List.mem_append_right _ List.mem_cons_self)) (fun m => ny (List.mem_append_right _ (List.mem_cons_of_mem _ (List.mem_append_right _ m)))) fun e => ny (List.mem_append_left _ (List.mem_append_right _ (List.mem_cons_of_mem _ (Tr.root_mem e.symm))))
theorem turnR {S : Lk N} {p : Option N} {A B s : Tr N} {x u : N} {c : Cz N} (h : Rep S p (plug (.nd false A x B) ((false, u, s) :: c))) (nd : (plug (.nd false A x B) ((false, u, s) :: c)).nms.Nodup)
    (ho : c = [] → ∀ q, p = some q → S.l q ≠ some u ∧ S.r q ≠ some u) :
    Rep (S.turn x) p (plug (.nd false (.nd false s u A) x B) c) ∧ Turned S (S.turn x) (plug (.nd false A x B) ((false, u, s) :: c)) := by
  have nd2 := plug_perm.nodup_iff.mp nd
  rw [show (Tr.nd false A x B).nms = A.nms ++ x :: B.nms from rfl, show cnm ((false, u, s) :: c) = u :: s.nms ++ cnm c from rfl] at nd2
  obtain ⟨n1, n2, n3⟩ := List.nodup_append.mp nd2
  obtain ⟨a1, a2, a3⟩ := List.nodup_append.mp n1
  obtain ⟨b1, b2⟩ := List.nodup_cons.mp a2
  have n2 : (u :: (s.nms ++ cnm c)).Nodup := n2
  obtain ⟨u1, u2⟩ := List.nodup_cons.mp n2
  obtain ⟨s1, s2, s3⟩ := List.nodup_append.mp u2
  have nuc : u ∉ cnm c := fun m => u1 (List.mem_append_right _ m)
  have xu : x ≠ u := n3 x (List.mem_append_right _ List.mem_cons_self) u List.mem_cons_self
  have xc : x ∉ cnm c := fun m => n3 x (List.mem_append_right _ List.mem_cons_self) x (List.mem_cons_of_mem _ (List.mem_append_right _ m)) rfl
  have xs : x ∉ s.nms := fun m => n3 x (List.mem_append_right _ List.mem_cons_self) x (List.mem_cons_of_mem _ (List.mem_append_left _ m)) rfl
  have inB : ∀ y ∈ B.nms, y ≠ u ∧ y ∉ s.nms ∧ y ∉ cnm c ∧ y ≠ x ∧ y ∉ A.nms := fun y m => by
    have my : y ∈ A.nms ++ x :: B.nms := List.mem_append_right _ (List.mem_cons_of_mem _ m)
    exact ⟨n3 y my u List.mem_cons_self, fun z => n3 y my y (List.mem_cons_of_mem _ (List.mem_append_left _ z)) rfl, fun z => n3 y my y (List.mem_cons_of_mem _ (List.mem_append_right _ z)) rfl, fun e => b1 (e ▸ m), fun z => a3 y z y (List.mem_cons_of_mem _ m) rfl⟩
  have inA : ∀ y ∈ A.nms, y ≠ u ∧ y ∉ s.nms ∧ y ∉ cnm c ∧ y ≠ x ∧ y ∉ B.nms := fun y m => by
    have my : y ∈ A.nms ++ x :: B.nms := List.mem_append_left _ m
    exact ⟨n3 y my u List.mem_cons_self, fun z => n3 y my y (List.mem_cons_of_mem _ (List.mem_append_left _ z)) rfl, fun z => n3 y my y (List.mem_cons_of_mem _ (List.mem_append_right _ z)) rfl, a3 y m x List.mem_cons_self, fun z => a3 y m y (List.mem_cons_of_mem _ z) rfl⟩
  obtain ⟨⟨g1, g2, g3, g4, g5, gA, gB⟩, hu1, hu2, ⟨hu3, hu4⟩, hu5, hs, hc⟩ := rep_plug.mp h
  have pl := placed (x := x) hc hu5 nuc ho
  have g5 : S.a x = some u := g5
  have hu4 : S.r u = some x := hu4
  have nl : ¬ (S.inPlace x u).l u = some x := fun e => by
    rw [pl.fl u fun e => nuc (ctop_mem e), hu3] at e
    exact xs (Tr.root_mem e)
  have er : (S.inPlace x u).l x = A.root := (pl.fl x fun e => xc (ctop_mem e)).trans g3
  have e0 : S.turn x = (({ S with lk := S.lk + 1 }.inPlace x u).setR u (({ S with lk := S.lk + 1 }.inPlace x u).l x)).setL x (some u) := by
    unfold Lk.turn
    rw [g5]
    exact if_neg nl
  have fr : (S.turn x).r = up1 (S.inPlace x u).r u A.root := by
    rw [e0, ← er]
    rfl
  have fl : (S.turn x).l = up1 (S.inPlace x u).l x (some u) := by
    rw [e0]
    rfl
  have fa : (S.turn x).a = up1 (upO (up1 S.a x (S.a u)) A.root (some u)) u (some x) := by
    rw [e0, ← er]
    rfl
  have ft : (S.turn x).t = S.t := by
    rw [e0]
    rfl
  have fn : (S.turn x).ns = S.ns := by
    rw [e0]
    rfl
  have fk : (S.turn x).lk = S.lk + 1 := by
    rw [e0]
    rfl
  have nBu : some u ≠ A.root := fun e => (inA u (Tr.root_mem e.symm)).1 rfl
  have nBx : some x ≠ A.root := fun e => (inA x (Tr.root_mem e.symm)).2.2.2.1 rfl
  have al : ∀ y, y ≠ x → y ≠ u → y ∉ cnm c → (S.turn x).l y = S.l y ∧ (S.turn x).r y = S.r y := fun y yx yu yc => by
    rw [fl, fr, up1_ne yu, up1_ne yx]
    exact ⟨pl.fl y fun e => yc (ctop_mem e), pl.fr y fun e => yc (ctop_mem e)⟩
  have aa : ∀ y, y ≠ x → y ≠ u → some y ≠ A.root → (S.turn x).a y = S.a y := fun y yx yu yB => by
    rw [fa, up1_ne yu, upO_ne yB, up1_ne yx]
  have ag : ∀ y, y ≠ x → y ≠ u → y ∉ cnm c → some y ≠ A.root → Agr S (S.turn x) y := fun y yx yu yc yB => ⟨(al y yx yu yc).1, (al y yx yu yc).2, aa y yx yu yB, by rw [ft]⟩
  refine ⟨rep_plug.mpr ⟨⟨fn ▸ g1, by rw [ft]; exact g2, ?_, ?_, ?_, ?_, ?_⟩, ?_⟩, ⟨fn, ft, fk, fun y ny => ?_⟩⟩
  · rw [fl, up1_same]
    rfl
  · rw [fr, up1_ne xu]
    exact (pl.fr x fun e => xc (ctop_mem e)).trans g4
  · rw [fa, up1_ne xu, upO_ne nBx, up1_same]
    exact hu5
  · refine ⟨fn ▸ hu1, by rw [ft]; exact hu2, ?_, ?_, ?_, ?_, ?_⟩
    · rw [fl, up1_ne xu.symm]
      exact (pl.fl u fun e => nuc (ctop_mem e)).trans hu3
    · rw [fr, up1_same]
    · rw [fa, up1_same]
    · exact hs.agr fn fun y m => ag y (fun e => xs (e ▸ m)) (fun e => u1 (e ▸ List.mem_append_left _ m)) (fun z => s3 y m y z rfl) fun e => (inA y (Tr.root_mem e.symm)).2.1 m
    · refine gA.re fn a1 (fun y m => ?_) (fun y m ny => ?_) (fun y e => ?_)
      · obtain ⟨q1, q2, q3, q4, q5⟩ := inA y m
        exact ⟨(al y q4 q1 q3).1, (al y q4 q1 q3).2, by rw [ft]⟩
      · obtain ⟨q1, q2, q3, q4, q5⟩ := inA y m
        exact aa y q4 q1 ny.symm
      · obtain ⟨q1, q2, q3, q4, q5⟩ := inA y (Tr.root_mem e)
        rw [fa, up1_ne q1, e, upO_same]
  · exact gB.agr fn fun y m => ag y (inB y m).2.2.2.1 (inB y m).1 (inB y m).2.2.1 fun e => (inB y m).2.2.2.2 (Tr.root_mem e.symm)
  · refine repc_put fn ft hc s2 (fun y m => ?_) (fun y m ny => ?_) (fun y m ny => ?_) (fun b g q c' e => ?_)
    · exact aa y (fun e => xc (e ▸ m)) (fun e => nuc (e ▸ m)) fun e => (inA y (Tr.root_mem e.symm)).2.2.1 m
    · rw [fl, up1_ne fun (e : y = x) => xc (e ▸ m)]
      exact pl.fl y ny
    · rw [fr, up1_ne fun (e : y = u) => nuc (e ▸ m)]
      exact pl.fr y ny
    · have mg : g ∈ cnm c := by
        rw [e]
        exact List.mem_cons_self
      have z := pl.gb b g q c' e
      have e1 : (S.turn x).l g = (S.inPlace x u).l g := by rw [fl, up1_ne fun (e : g = x) => xc (e ▸ mg)]
      have e2 : (S.turn x).r g = (S.inPlace x u).r g := by rw [fr, up1_ne fun (e : g = u) => nuc (e ▸ mg)]
      rw [e1, e2]
      exact z
  · have ny : y ∉ (A.nms ++ x :: B.nms) ++ (u :: s.nms ++ cnm c) := fun m => ny (plug_perm.mem_iff.mpr m)
    refine ag y (fun e => ny (e ▸ List.mem_append_left _ (List.mem_append_right _ List.mem_cons_self))) (fun e => ny (e ▸ List.mem_append_right _ List.mem_cons_self)) (fun m => ny (List.mem_append_right _ (List.mem_cons_of_mem _ (List.mem_append_right _ m)))) fun e => ny (List.mem_append_left _ (List.mem_append_left _ (Tr.root_mem e.symm)))
end
section
variable {N : Type} [DecidableEq N]
def Lk.next (S : Lk N) (x : N) (goal : Option N) : List N := match S.a x with
  | none => [x]
  | some u => if S.isTop u || decide (S.a u = goal) then [x] else match S.a u with
    | none => [x]
    | some o => if decide (S.l u = some x) = decide (S.l o = some u) then [u, x] else [x, x]
def Lk.turns (S : Lk N) (xs : List N) : Lk N := xs.foldl Lk.turn S
/-- turned one by one, each one below another one then -/
def Lk.turnsQ : Lk N → List N → Option (Lk N)
  | S, [] => some S
  | S, y :: ys => if (S.a y).isSome then Lk.turnsQ (S.turn y) ys else none
/-- lifted until it is on top, or below goal; at most so many rounds -/
def Lk.lift : Nat → Lk N → N → Option N → Option (Lk N × List N)
  | 0, _, _, _ => none
  | k + 1, S, x, goal => if S.isTop x || decide (S.a x = goal) then some (S, []) else
    match S.turnsQ (S.next x goal) with
    | none => none
    | some S1 => match Lk.lift k S1 x goal with
      | none => none
      | some (S', ms) => some (S', S.next x goal ++ ms)
theorem Lk.lift_more : ∀ {k : Nat} {S : Lk N} {x : N} {goal : Option N} {R : Lk N × List N}, S.lift k x goal = some R → S.lift (k + 1) x goal = some R
  | 0, _, _, _, _, h => nomatch h
  | k + 1, S, x, goal, R, h => by
    unfold Lk.lift at h ⊢
    by_cases c : (S.isTop x || decide (S.a x = goal)) = true
    · rw [if_pos c] at h ⊢
      exact h
    · rw [if_neg c] at h ⊢
      cases et : S.turnsQ (S.next x goal) with
      | none =>
        rw [et] at h
        exact nomatch h
      | some S1 =>
        rw [et] at h
        have h : (match Lk.lift k S1 x goal with | none => none | some (S', ms) => some (S', S.next x goal ++ ms)) = some R := h
        show (match Lk.lift (k + 1) S1 x goal with | none => none | some (S', ms) => some (S', S.next x goal ++ ms)) = some R
        cases e : Lk.lift k S1 x goal with
        | none =>
          rw [e] at h
          exact nomatch h
        | some R2 =>
          rw [e] at h
          rw [Lk.lift_more e]
          exact h
theorem Lk.lift_le {k m : Nat} {S : Lk N} {x : N} {goal : Option N} {R : Lk N × List N} (h : S.lift k x goal = some R) (le : k ≤ m) : S.lift m x goal = some R := by
  induction le with
  | refl => exact h
  | step _ ih => exact Lk.lift_more ih
def nf (l : Tr N) (x : N) (r : Tr N) : Tr N := .nd false l x r
def splayT : Tr N → N → Tr N → Cz N → Tr N × List N
  | A, x, B, [] => (nf A x B, [])
  | A, x, B, [(true, u, s)] => (nf A x (nf B u s), [x])
  | A, x, B, [(false, u, s)] => (nf (nf s u A) x B, [x])
  | A, x, B, (true, u, s) :: (true, g, q) :: c => ((splayT A x (nf B u (nf s g q)) c).1, u :: x :: (splayT A x (nf B u (nf s g q)) c).2)
  | A, x, B, (true, u, s) :: (false, g, q) :: c => ((splayT (nf q g A) x (nf B u s) c).1, x :: x :: (splayT (nf q g A) x (nf B u s) c).2)
  | A, x, B, (false, u, s) :: (true, g, q) :: c => ((splayT (nf s u A) x (nf B g q) c).1, x :: x :: (splayT (nf s u A) x (nf B g q) c).2)
  | A, x, B, (false, u, s) :: (false, g, q) :: c => ((splayT (nf (nf q g s) u A) x B c).1, u :: x :: (splayT (nf (nf q g s) u A) x B c).2)
/-- what lies outside of the tree has none of it as a left or right one -/
def OutT (S : Lk N) (p : Option N) (T : Tr N) : Prop := ∀ q, p = some q → ∀ y ∈ T.nms, S.l q ≠ some y ∧ S.r q ≠ some y
/-- what some turns leave -/
structure Lifted (S S' : Lk N) (T : Tr N) (k : Nat) : Prop where
  ns : S'.ns = S.ns
  t : S'.t = S.t
  lk : S'.lk = S.lk + k
  out : ∀ y, y ∉ T.nms → Agr S S' y
theorem Lifted.refl {S : Lk N} {T : Tr N} : Lifted S S T 0 := ⟨rfl, rfl, rfl, fun _ _ => .refl⟩
theorem Lifted.trans {S S1 S2 : Lk N} {T T1 : Tr N} {k m : Nat} (a : Lifted S S1 T k) (b : Lifted S1 S2 T1 m) (e : ∀ y, y ∈ T1.nms ↔ y ∈ T.nms) : Lifted S S2 T (k + m) :=
  ⟨b.ns.trans a.ns, b.t.trans a.t, by rw [b.lk, a.lk, Nat.add_assoc], fun y ny => (a.out y ny).trans (b.out y fun z => ny ((e y).mp z))⟩
theorem Turned.lifted {S S' : Lk N} {T : Tr N} (h : Turned S S' T) : Lifted S S' T 1 := ⟨h.ns, h.t, h.lk, h.out⟩
theorem OutT.lift {S S' : Lk N} {p : Option N} {T T1 : Tr N} {k : Nat} (h : OutT S p T) (a : Lifted S S' T k) (e : ∀ y, y ∈ T1.nms ↔ y ∈ T.nms) (hp : ∀ q, p = some q → q ∉ T.nms) : OutT S' p T1 := fun q eq y m => by
  obtain ⟨z1, z2, _, _⟩ := a.out q (hp q eq)
  rw [z1, z2]
  exact h q eq y ((e y).mp m)
theorem turnLL {S : Lk N} {p : Option N} {A B s : Tr N} {x u : N} {c : Cz N} (h : Rep S p (plug (nf A x B) ((true, u, s) :: c))) (nd : (plug (nf A x B) ((true, u, s) :: c)).nms.Nodup) (ho : OutT S p (plug (nf A x B) ((true, u, s) :: c))) :
    Rep (S.turn x) p (plug (nf A x (nf B u s)) c) ∧ Lifted S (S.turn x) (plug (nf A x B) ((true, u, s) :: c)) 1 := by
  obtain ⟨a, b⟩ := turnL h nd fun _ q e => ho q e u (plug_perm.mem_iff.mpr (List.mem_append_right _ List.mem_cons_self))
  exact ⟨a, b.lifted⟩
theorem turnRR {S : Lk N} {p : Option N} {A B s : Tr N} {x u : N} {c : Cz N} (h : Rep S p (plug (nf A x B) ((false, u, s) :: c))) (nd : (plug (nf A x B) ((false, u, s) :: c)).nms.Nodup) (ho : OutT S p (plug (nf A x B) ((false, u, s) :: c))) :
    Rep (S.turn x) p (plug (nf (nf s u A) x B) c) ∧ Lifted S (S.turn x) (plug (nf A x B) ((false, u, s) :: c)) 1 := by
  obtain ⟨a, b⟩ := turnR h nd fun _ q e => ho q e u (plug_perm.mem_iff.mpr (List.mem_append_right _ List.mem_cons_self))
  exact ⟨a, b.lifted⟩
theorem plug_app : ∀ {c d : Cz N} {t : Tr N}, plug t (c ++ d) = plug (plug t c) d
  | [], _, _ => rfl
  | (true, u, s) :: c, d, t => plug_app (c := c)
  | (false, u, s) :: c, d, t => plug_app (c := c)
theorem permLL {A B s : Tr N} {x u : N} : (nf A x (nf B u s)).nms.Perm (nf (nf A x B) u s).nms := by
  show (A.nms ++ x :: (B.nms ++ u :: s.nms)).Perm ((A.nms ++ x :: B.nms) ++ u :: s.nms)
  rw [List.append_assoc, List.cons_append]
theorem permP {t t' : Tr N} {c : Cz N} (h : t.nms.Perm t'.nms) : (plug t c).nms.Perm (plug t' c).nms := plug_perm.trans ((h.append_right _).trans plug_perm.symm)
theorem splay_perm : ∀ {c : Cz N} {A B : Tr N} {x : N}, (splayT A x B c).1.nms.Perm (plug (nf A x B) c).nms
  | [], A, B, x => .refl _
  | [(true, u, s)], A, B, x => permLL
  | [(false, u, s)], A, B, x => permLL.symm
  | (true, u, s) :: (true, g, q) :: c, A, B, x => by
    refine (splay_perm (c := c) (A := A) (B := nf B u (nf s g q)) (x := x)).trans (permP (c := c) (t' := nf (nf (nf A x B) u s) g q) ?_)
    show (A.nms ++ x :: (B.nms ++ u :: (s.nms ++ g :: q.nms))).Perm (((A.nms ++ x :: B.nms) ++ u :: s.nms) ++ g :: q.nms)
    simp only [List.append_assoc, List.cons_append]
    exact .refl _
  | (true, u, s) :: (false, g, q) :: c, A, B, x => by
    refine (splay_perm (c := c) (A := nf q g A) (B := nf B u s) (x := x)).trans (permP (c := c) (t' := nf q g (nf (nf A x B) u s)) ?_)
    show ((q.nms ++ g :: A.nms) ++ x :: (B.nms ++ u :: s.nms)).Perm (q.nms ++ g :: ((A.nms ++ x :: B.nms) ++ u :: s.nms))
    simp only [List.append_assoc, List.cons_append]
    exact .refl _
  | (false, u, s) :: (true, g, q) :: c, A, B, x => by
    refine (splay_perm (c := c) (A := nf s u A) (B := nf B g q) (x := x)).trans (permP (c := c) (t' := nf (nf s u (nf A x B)) g q) ?_)
    show ((s.nms ++ u :: A.nms) ++ x :: (B.nms ++ g :: q.nms)).Perm ((s.nms ++ u :: (A.nms ++ x :: B.nms)) ++ g :: q.nms)
    simp only [List.append_assoc, List.cons_append]
    exact .refl _
  | (false, u, s) :: (false, g, q) :: c, A, B, x => by
    refine (splay_perm (c := c) (A := nf (nf q g s) u A) (B := B) (x := x)).trans (permP (c := c) (t' := nf q g (nf s u (nf A x B))) ?_)
    show ((((q.nms ++ g :: s.nms) ++ u :: A.nms)) ++ x :: B.nms).Perm (q.nms ++ g :: (s.nms ++ u :: (A.nms ++ x :: B.nms)))
    simp only [List.append_assoc, List.cons_append]
    exact .refl _
theorem splay_ord : ∀ {c : Cz N} {A B : Tr N} {x : N}, (splayT A x B c).1.ord = (plug (nf A x B) c).ord
  | [], A, B, x => rfl
  | [(true, u, s)], A, B, x => by
    show A.ord ++ x :: (B.ord ++ u :: s.ord) = (A.ord ++ x :: B.ord) ++ u :: s.ord
    rw [List.append_assoc, List.cons_append]
  | [(false, u, s)], A, B, x => by
    show (s.ord ++ u :: A.ord) ++ x :: B.ord = s.ord ++ u :: (A.ord ++ x :: B.ord)
    rw [List.append_assoc, List.cons_append]
  | (true, u, s) :: (true, g, q) :: c, A, B, x => by
    show (splayT A x (nf B u (nf s g q)) c).1.ord = _
    rw [splay_ord, plug_ord, plug_ord]
    show cL c ++ ((A.ord ++ x :: (B.ord ++ u :: (s.ord ++ g :: q.ord))) ++ cR c) = cL c ++ ((A.ord ++ x :: B.ord) ++ (u :: s.ord ++ (g :: q.ord ++ cR c)))
    simp only [List.append_assoc, List.cons_append]
  | (true, u, s) :: (false, g, q) :: c, A, B, x => by
    show (splayT (nf q g A) x (nf B u s) c).1.ord = _
    rw [splay_ord, plug_ord, plug_ord]
    show cL c ++ (((q.ord ++ g :: A.ord) ++ x :: (B.ord ++ u :: s.ord)) ++ cR c) = (cL c ++ (q.ord ++ [g])) ++ ((A.ord ++ x :: B.ord) ++ (u :: s.ord ++ cR c))
    simp only [List.append_assoc, List.cons_append, List.nil_append]
  | (false, u, s) :: (true, g, q) :: c, A, B, x => by
    show (splayT (nf s u A) x (nf B g q) c).1.ord = _
    rw [splay_ord, plug_ord, plug_ord]
    show cL c ++ (((s.ord ++ u :: A.ord) ++ x :: (B.ord ++ g :: q.ord)) ++ cR c) = (cL c ++ (s.ord ++ [u])) ++ ((A.ord ++ x :: B.ord) ++ (g :: q.ord ++ cR c))
    simp only [List.append_assoc, List.cons_append, List.nil_append]
  | (false, u, s) :: (false, g, q) :: c, A, B, x => by
    show (splayT (nf (nf q g s) u A) x B c).1.ord = _
    rw [splay_ord, plug_ord, plug_ord]
    show cL c ++ (((((q.ord ++ g :: s.ord) ++ u :: A.ord)) ++ x :: B.ord) ++ cR c) = ((cL c ++ (q.ord ++ [g])) ++ (s.ord ++ [u])) ++ ((A.ord ++ x :: B.ord) ++ cR c)
    simp only [List.append_assoc, List.cons_append, List.nil_append]
theorem splay_root : ∀ {c : Cz N} {A B : Tr N} {x : N}, ∃ A' B', (splayT A x B c).1 = nf A' x B'
  | [], A, B, x => ⟨_, _, rfl⟩
  | [(true, u, s)], A, B, x => ⟨_, _, rfl⟩
  | [(false, u, s)], A, B, x => ⟨_, _, rfl⟩
  | (true, u, s) :: (true, g, q) :: c, A, B, x => splay_root (c := c)
  | (true, u, s) :: (false, g, q) :: c, A, B, x => splay_root (c := c)
  | (false, u, s) :: (true, g, q) :: c, A, B, x => splay_root (c := c)
  | (false, u, s) :: (false, g, q) :: c, A, B, x => splay_root (c := c)
/-- x has one above it in its tree -/
theorem not_top {S : Lk N} {p : Option N} {t : Tr N} {x u : N} {b : Bool} {s : Tr N} {c : Cz N} (h : Rep S p (plug t ((b, u, s) :: c))) (e : t.root = some x) : S.isTop x = false ∧ S.a x = some u ∧ S.a u = ctop p c := by
  obtain ⟨h1, _, _, h3, h4, _⟩ := rep_plug.mp h
  have ha : S.a x = some u := h1.top e
  refine ⟨?_, ha, h4⟩
  unfold Lk.isTop
  rw [ha]
  cases b with
  | true =>
    have h3 : S.l u = t.root ∧ S.r u = s.root := h3
    show (!(decide (S.l u = some x) || decide (S.r u = some x))) = false
    rw [h3.1, e]
    simp
  | false =>
    have h3 : S.l u = s.root ∧ S.r u = t.root := h3
    show (!(decide (S.l u = some x) || decide (S.r u = some x))) = false
    rw [h3.2, e]
    simp
theorem is_top {S : Lk N} {p : Option N} {T : Tr N} {x : N} (h : Rep S p T) (e : T.root = some x) (ho : OutT S p T) : S.isTop x = true := by
  have ha := h.top e
  unfold Lk.isTop
  rw [ha]
  cases p with
  | none => rfl
  | some q =>
    obtain ⟨z1, z2⟩ := ho q rfl x (Tr.root_mem e)
    show (!(decide (S.l q = some x) || decide (S.r q = some x))) = true
    simp [z1, z2]
end
section
variable {N : Type} [DecidableEq N]
theorem lift_stop {S : Lk N} {x : N} {goal : Option N} {k : Nat} (h : (S.isTop x || decide (S.a x = goal)) = true) : S.lift (k + 1) x goal = some (S, []) := by
  unfold Lk.lift
  rw [if_pos h]
theorem lift_step {S S' : Lk N} {x : N} {goal : Option N} {k : Nat} {ns ms : List N} (h1 : S.isTop x = false) (h2 : S.a x ≠ goal) (hn : S.next x goal = ns) {S1 : Lk N} (ht : S.turnsQ ns = some S1) (h : S1.lift k x goal = some (S', ms)) : S.lift (k + 1) x goal = some (S', ns ++ ms) := by
  unfold Lk.lift
  rw [if_neg (by rw [h1, decide_eq_false h2]; decide), hn, ht]
  show (match Lk.lift k S1 x goal with | none => none | some (S', ms) => some (S', ns ++ ms)) = _
  rw [h]
theorem tq1 {S : Lk N} {x u : N} (h : S.a x = some u) : S.turnsQ [x] = some (S.turn x) := by
  show (if (S.a x).isSome = true then some (S.turn x) else none) = _
  rw [h]
  rfl
theorem tq2 {S : Lk N} {x y u v : N} (h : S.a y = some u) (k : (S.turn y).a x = some v) : S.turnsQ [y, x] = some ((S.turn y).turn x) := by
  show (if (S.a y).isSome = true then (S.turn y).turnsQ [x] else none) = _
  rw [h, tq1 k]
  rfl
theorem ctop_not {c : Cz N} {u : N} (h : u ∉ cnm c) : some u ≠ ctop none c := fun e => h (ctop_mem e)
theorem ctop_pn {p : Option N} {f : Bool × N × Tr N} {c : Cz N} : ctop p (f :: c) = ctop none (f :: c) := rfl
theorem cnm_app : ∀ {c d : Cz N}, cnm (c ++ d) = cnm c ++ cnm d
  | [], _ => rfl
  | (b, u, s) :: c, d => by
    show u :: s.nms ++ cnm (c ++ d) = u :: s.nms ++ cnm c ++ cnm d
    rw [cnm_app, List.append_assoc]
/-- u, the innermost one, is no other one's name further out -/
theorem nd_ctx {t : Tr N} {b : Bool} {u : N} {s : Tr N} {c : Cz N} (nd : (plug t ((b, u, s) :: c)).nms.Nodup) : u ∉ s.nms ∧ u ∉ cnm c ∧ ∀ x ∈ t.nms, x ≠ u ∧ x ∉ s.nms ∧ x ∉ cnm c := by
  have z := plug_perm.nodup_iff.mp nd
  obtain ⟨_, z2, z3⟩ := List.nodup_append.mp z
  have z2 : (u :: (s.nms ++ cnm c)).Nodup := z2
  obtain ⟨z4, _⟩ := List.nodup_cons.mp z2
  exact ⟨fun m => z4 (List.mem_append_left _ m), fun m => z4 (List.mem_append_right _ m), fun x m => ⟨z3 x m u List.mem_cons_self, fun y => z3 x m x (List.mem_cons_of_mem _ (List.mem_append_left _ y)) rfl, fun y => z3 x m x (List.mem_cons_of_mem _ (List.mem_append_right _ y)) rfl⟩⟩
theorem nx_one {S : Lk N} {x u : N} {goal : Option N} (ha : S.a x = some u) (h : (S.isTop u || decide (S.a u = goal)) = true) : S.next x goal = [x] := by
  unfold Lk.next
  rw [ha]
  exact if_pos h
theorem nx_two {S : Lk N} {x u g : N} {goal : Option N} (ha : S.a x = some u) (hu : S.a u = some g) (h1 : S.isTop u = false) (h2 : S.a u ≠ goal) : S.next x goal = if decide (S.l u = some x) = decide (S.l g = some u) then [u, x] else [x, x] := by
  unfold Lk.next
  rw [ha]
  show (if (S.isTop u || decide (S.a u = goal)) = true then [x] else match S.a u with | none => [x] | some o => if decide (S.l u = some x) = decide (S.l o = some u) then [u, x] else [x, x]) = _
  rw [if_neg (by rw [h1, decide_eq_false h2]; decide), hu]
theorem plug_root {t t' : Tr N} (h : t.root = t'.root) : ∀ {c : Cz N}, (plug t c).root = (plug t' c).root
  | [] => h
  | (true, u, s) :: c => plug_root (t := .nd false t u s) (t' := .nd false t' u s) rfl (c := c)
  | (false, u, s) :: c => plug_root (t := .nd false s u t) (t' := .nd false s u t') rfl (c := c)
/-- stop: on top, or below goal -/
theorem at_stop {S : Lk N} {p : Option N} {T : Tr N} {x : N} {c2 : Cz N} (h : Rep S p (plug T c2)) (e : T.root = some x) (ho : OutT S p (plug T c2)) : (S.isTop x || decide (S.a x = ctop none c2)) = true := by
  cases c2 with
  | nil => rw [is_top h e ho, Bool.true_or]
  | cons f c =>
    obtain ⟨b, u, s⟩ := f
    obtain ⟨_, z, _⟩ := not_top h e
    rw [z]
    show (S.isTop x || decide (some u = some u)) = true
    rw [decide_eq_true rfl, Bool.or_true]
theorem Lifted.eqT {S S' : Lk N} {T T' : Tr N} {k : Nat} (h : Lifted S S' T k) (e : T = T') : Lifted S S' T' k := e ▸ h
theorem lift_rep : ∀ {c1 : Cz N} {S : Lk N} {A B : Tr N} {x : N} {c2 : Cz N} {p : Option N}, Rep S p (plug (nf A x B) (c1 ++ c2)) → (plug (nf A x B) (c1 ++ c2)).nms.Nodup → OutT S p (plug (nf A x B) (c1 ++ c2)) → (∀ q, p = some q → q ∉ (plug (nf A x B) (c1 ++ c2)).nms) →
    ∃ S', S.lift (c1.length + 1) x (ctop none c2) = some (S', (splayT A x B c1).2) ∧ Rep S' p (plug (splayT A x B c1).1 c2) ∧ Lifted S S' (plug (nf A x B) (c1 ++ c2)) (splayT A x B c1).2.length
  | [], S, A, B, x, c2, p, h, nd, ho, hp => ⟨S, lift_stop (at_stop h rfl ho), h, .refl⟩
  | [(true, u, s)], S, A, B, x, c2, p, h, nd, ho, hp => by
    obtain ⟨t1, t2, t3⟩ := not_top h rfl
    obtain ⟨n1, n2, n3⟩ := nd_ctx nd
    obtain ⟨r1, L1⟩ := turnLL h nd ho
    have em : ∀ y, y ∈ (plug (nf A x (nf B u s)) c2).nms ↔ y ∈ (plug (nf A x B) ((true, u, s) :: c2)).nms := fun y => (permP (c := c2) permLL).mem_iff
    have z := at_stop (T := nf (nf A x B) u s) h rfl ho
    refine ⟨_, lift_step t1 (by rw [t2]; exact ctop_not n2) (nx_one t2 z) (tq1 t2) (lift_stop (at_stop r1 rfl (ho.lift L1 em hp))), r1, L1⟩
  | [(false, u, s)], S, A, B, x, c2, p, h, nd, ho, hp => by
    obtain ⟨t1, t2, t3⟩ := not_top h rfl
    obtain ⟨n1, n2, n3⟩ := nd_ctx nd
    obtain ⟨r1, L1⟩ := turnRR h nd ho
    have em : ∀ y, y ∈ (plug (nf (nf s u A) x B) c2).nms ↔ y ∈ (plug (nf A x B) ((false, u, s) :: c2)).nms := fun y => (permP (c := c2) permLL.symm).mem_iff
    have z := at_stop (T := nf s u (nf A x B)) h rfl ho
    refine ⟨_, lift_step t1 (by rw [t2]; exact ctop_not n2) (nx_one t2 z) (tq1 t2) (lift_stop (at_stop r1 rfl (ho.lift L1 em hp))), r1, L1⟩
  | (true, u, s) :: (true, g, q) :: c, S, A, B, x, c2, p, h, nd, ho, hp => by
    obtain ⟨t1, t2, t3⟩ := not_top h rfl
    obtain ⟨n1, n2, n3⟩ := nd_ctx nd
    have t3 : S.a u = some g := t3
    have h' : Rep S p (plug (nf (nf A x B) u s) ((true, g, q) :: (c ++ c2))) := h
    have nd' : (plug (nf (nf A x B) u s) ((true, g, q) :: (c ++ c2))).nms.Nodup := nd
    obtain ⟨v1, v2, v3⟩ := not_top h' rfl
    obtain ⟨m1, m2, m3⟩ := nd_ctx nd'
    have ug : u ≠ g := (m3 u (List.mem_append_right _ List.mem_cons_self)).1
    have gc : g ∉ cnm c2 := fun z => m2 (by rw [cnm_app]; exact List.mem_append_right _ z)
    have uc : u ∉ cnm c2 := fun z => (m3 u (List.mem_append_right _ List.mem_cons_self)).2.2 (by rw [cnm_app]; exact List.mem_append_right _ z)
    have lu : S.l u = some x := (rep_plug.mp h).2.2.2.1.1
    have lg : S.l g = some u := (rep_plug.mp h').2.2.2.1.1
    have hn : S.next x (ctop none c2) = [u, x] := by
      rw [nx_two t2 t3 v1 (by rw [t3]; exact ctop_not gc), lu, lg, if_pos (by simp)]
    obtain ⟨r1, L1⟩ := turnLL (A := nf A x B) (B := s) (x := u) (s := q) h' nd' ho
    have em : ∀ y, y ∈ (plug (nf (nf A x B) u (nf s g q)) (c ++ c2)).nms ↔ y ∈ (plug (nf (nf A x B) u s) ((true, g, q) :: (c ++ c2))).nms := fun y => (permP (c := c ++ c2) permLL).mem_iff
    have nd1 : (plug (nf (nf A x B) u (nf s g q)) (c ++ c2)).nms.Nodup := (permP (c := c ++ c2) permLL).nodup_iff.mpr nd'
    have ho1 := ho.lift L1 em hp
    obtain ⟨r2, L2⟩ := turnLL (A := A) (B := B) (x := x) (u := u) (s := nf s g q) r1 nd1 ho1
    have em2 : ∀ y, y ∈ (plug (nf A x (nf B u (nf s g q))) (c ++ c2)).nms ↔ y ∈ (plug (nf A x B) ((true, u, nf s g q) :: (c ++ c2))).nms := fun y => (permP (c := c ++ c2) permLL).mem_iff
    have nd2 : (plug (nf A x (nf B u (nf s g q))) (c ++ c2)).nms.Nodup := (permP (c := c ++ c2) permLL).nodup_iff.mpr nd1
    have ho2 := ho1.lift L2 em2 fun q e z => hp q e ((em q).mp z)
    obtain ⟨S', e1, e2, e3⟩ := lift_rep (c1 := c) r2 nd2 ho2 fun q e z => hp q e ((em q).mp ((em2 q).mp z))
    have L12 := L1.trans L2 em
    refine ⟨S', lift_step t1 (by rw [t2]; exact ctop_not uc) hn (tq2 t3 (not_top (t := nf A x B) (b := true) (s := nf s g q) (c := c ++ c2) r1 rfl).2.1) (Lk.lift_more e1), e2, (L12.trans e3 fun y => (em2 y).trans (em y)).1, ?_, ?_, ?_⟩
    · exact (L12.trans e3 fun y => (em2 y).trans (em y)).t
    · rw [(L12.trans e3 fun y => (em2 y).trans (em y)).lk]
      show _ = S.lk + ((splayT A x (nf B u (nf s g q)) c).2.length + 1 + 1)
      omega
    · exact (L12.trans e3 fun y => (em2 y).trans (em y)).out
  | (true, u, s) :: (false, g, q) :: c, S, A, B, x, c2, p, h, nd, ho, hp => by
    obtain ⟨t1, t2, t3⟩ := not_top h rfl
    obtain ⟨n1, n2, n3⟩ := nd_ctx nd
    have t3 : S.a u = some g := t3
    have h' : Rep S p (plug (nf (nf A x B) u s) ((false, g, q) :: (c ++ c2))) := h
    have nd' : (plug (nf (nf A x B) u s) ((false, g, q) :: (c ++ c2))).nms.Nodup := nd
    obtain ⟨v1, v2, v3⟩ := not_top h' rfl
    obtain ⟨m1, m2, m3⟩ := nd_ctx nd'
    have mu := m3 u (List.mem_append_right _ List.mem_cons_self)
    have gc : g ∉ cnm c2 := fun z => m2 (by rw [cnm_app]; exact List.mem_append_right _ z)
    have uc : u ∉ cnm c2 := fun z => mu.2.2 (by rw [cnm_app]; exact List.mem_append_right _ z)
    have lu : S.l u = some x := (rep_plug.mp h).2.2.2.1.1
    have lg : S.l g = q.root := (rep_plug.mp h').2.2.2.1.1
    have nq : q.root ≠ some u := root_ne mu.2.1
    have hn : S.next x (ctop none c2) = [x, x] := by
      rw [nx_two t2 t3 v1 (by rw [t3]; exact ctop_not gc), lu, lg, if_neg (by simp [nq])]
    obtain ⟨r1, L1⟩ := turnLL h nd ho
    have em : ∀ y, y ∈ (plug (nf A x (nf B u s)) ((false, g, q) :: (c ++ c2))).nms ↔ y ∈ (plug (nf A x B) ((true, u, s) :: (false, g, q) :: (c ++ c2))).nms := fun y => (permP (c := (false, g, q) :: (c ++ c2)) permLL).mem_iff
    have nd1 : (plug (nf A x (nf B u s)) ((false, g, q) :: (c ++ c2))).nms.Nodup := (permP (c := (false, g, q) :: (c ++ c2)) permLL).nodup_iff.mpr nd
    have ho1 := ho.lift L1 em hp
    obtain ⟨r2, L2⟩ := turnRR (A := A) (B := nf B u s) (x := x) (u := g) (s := q) r1 nd1 ho1
    have em2 : ∀ y, y ∈ (plug (nf (nf q g A) x (nf B u s)) (c ++ c2)).nms ↔ y ∈ (plug (nf A x (nf B u s)) ((false, g, q) :: (c ++ c2))).nms := fun y => (permP (c := c ++ c2) permLL.symm).mem_iff
    have nd2 : (plug (nf (nf q g A) x (nf B u s)) (c ++ c2)).nms.Nodup := (permP (c := c ++ c2) permLL.symm).nodup_iff.mpr nd1
    have ho2 := ho1.lift L2 em2 fun q e z => hp q e ((em q).mp z)
    obtain ⟨S', e1, e2, e3⟩ := lift_rep (c1 := c) r2 nd2 ho2 fun q e z => hp q e ((em q).mp ((em2 q).mp z))
    have L12 := L1.trans L2 em
    refine ⟨S', lift_step t1 (by rw [t2]; exact ctop_not uc) hn (tq2 t2 (not_top r1 rfl).2.1) (Lk.lift_more e1), e2, (L12.trans e3 fun y => (em2 y).trans (em y)).1, ?_, ?_, ?_⟩
    · exact (L12.trans e3 fun y => (em2 y).trans (em y)).t
    · rw [(L12.trans e3 fun y => (em2 y).trans (em y)).lk]
      show _ = S.lk + ((splayT (nf q g A) x (nf B u s) c).2.length + 1 + 1)
      omega
    · exact (L12.trans e3 fun y => (em2 y).trans (em y)).out
  | (false, u, s) :: (true, g, q) :: c, S, A, B, x, c2, p, h, nd, ho, hp => by
    obtain ⟨t1, t2, t3⟩ := not_top h rfl
    obtain ⟨n1, n2, n3⟩ := nd_ctx nd
    have t3 : S.a u = some g := t3
    have h' : Rep S p (plug (nf s u (nf A x B)) ((true, g, q) :: (c ++ c2))) := h
    have nd' : (plug (nf s u (nf A x B)) ((true, g, q) :: (c ++ c2))).nms.Nodup := nd
    obtain ⟨v1, v2, v3⟩ := not_top h' rfl
    obtain ⟨m1, m2, m3⟩ := nd_ctx nd'
    have mu := m3 u (List.mem_append_right _ List.mem_cons_self)
    have gc : g ∉ cnm c2 := fun z => m2 (by rw [cnm_app]; exact List.mem_append_right _ z)
    have uc : u ∉ cnm c2 := fun z => mu.2.2 (by rw [cnm_app]; exact List.mem_append_right _ z)
    have lu : S.l u = s.root := (rep_plug.mp h).2.2.2.1.1
    have lg : S.l g = some u := (rep_plug.mp h').2.2.2.1.1
    have nx : s.root ≠ some x := root_ne (n3 x (List.mem_append_right _ List.mem_cons_self)).2.1
    have hn : S.next x (ctop none c2) = [x, x] := by
      rw [nx_two t2 t3 v1 (by rw [t3]; exact ctop_not gc), lu, lg, if_neg (by simp [nx])]
    obtain ⟨r1, L1⟩ := turnRR h nd ho
    have em : ∀ y, y ∈ (plug (nf (nf s u A) x B) ((true, g, q) :: (c ++ c2))).nms ↔ y ∈ (plug (nf A x B) ((false, u, s) :: (true, g, q) :: (c ++ c2))).nms := fun y => (permP (c := (true, g, q) :: (c ++ c2)) permLL.symm).mem_iff
    have nd1 : (plug (nf (nf s u A) x B) ((true, g, q) :: (c ++ c2))).nms.Nodup := (permP (c := (true, g, q) :: (c ++ c2)) permLL.symm).nodup_iff.mpr nd
    have ho1 := ho.lift L1 em hp
    obtain ⟨r2, L2⟩ := turnLL (A := nf s u A) (B := B) (x := x) (u := g) (s := q) r1 nd1 ho1
    have em2 : ∀ y, y ∈ (plug (nf (nf s u A) x (nf B g q)) (c ++ c2)).nms ↔ y ∈ (plug (nf (nf s u A) x B) ((true, g, q) :: (c ++ c2))).nms := fun y => (permP (c := c ++ c2) permLL).mem_iff
    have nd2 : (plug (nf (nf s u A) x (nf B g q)) (c ++ c2)).nms.Nodup := (permP (c := c ++ c2) permLL).nodup_iff.mpr nd1
    have ho2 := ho1.lift L2 em2 fun q e z => hp q e ((em q).mp z)
    obtain ⟨S', e1, e2, e3⟩ := lift_rep (c1 := c) r2 nd2 ho2 fun q e z => hp q e ((em q).mp ((em2 q).mp z))
    have L12 := L1.trans L2 em
    refine ⟨S', lift_step t1 (by rw [t2]; exact ctop_not uc) hn (tq2 t2 (not_top r1 rfl).2.1) (Lk.lift_more e1), e2, (L12.trans e3 fun y => (em2 y).trans (em y)).1, ?_, ?_, ?_⟩
    · exact (L12.trans e3 fun y => (em2 y).trans (em y)).t
    · rw [(L12.trans e3 fun y => (em2 y).trans (em y)).lk]
      show _ = S.lk + ((splayT (nf s u A) x (nf B g q) c).2.length + 1 + 1)
      omega
    · exact (L12.trans e3 fun y => (em2 y).trans (em y)).out
  | (false, u, s) :: (false, g, q) :: c, S, A, B, x, c2, p, h, nd, ho, hp => by
    obtain ⟨t1, t2, t3⟩ := not_top h rfl
    obtain ⟨n1, n2, n3⟩ := nd_ctx nd
    have t3 : S.a u = some g := t3
    have h' : Rep S p (plug (nf s u (nf A x B)) ((false, g, q) :: (c ++ c2))) := h
    have nd' : (plug (nf s u (nf A x B)) ((false, g, q) :: (c ++ c2))).nms.Nodup := nd
    obtain ⟨v1, v2, v3⟩ := not_top h' rfl
    obtain ⟨m1, m2, m3⟩ := nd_ctx nd'
    have mu := m3 u (List.mem_append_right _ List.mem_cons_self)
    have gc : g ∉ cnm c2 := fun z => m2 (by rw [cnm_app]; exact List.mem_append_right _ z)
    have uc : u ∉ cnm c2 := fun z => mu.2.2 (by rw [cnm_app]; exact List.mem_append_right _ z)
    have lu : S.l u = s.root := (rep_plug.mp h).2.2.2.1.1
    have lg : S.l g = q.root := (rep_plug.mp h').2.2.2.1.1
    have nx : s.root ≠ some x := root_ne (n3 x (List.mem_append_right _ List.mem_cons_self)).2.1
    have nq : q.root ≠ some u := root_ne mu.2.1
    have hn : S.next x (ctop none c2) = [u, x] := by
      rw [nx_two t2 t3 v1 (by rw [t3]; exact ctop_not gc), lu, lg, if_pos (by simp [nx, nq])]
    obtain ⟨r1, L1⟩ := turnRR (A := s) (B := nf A x B) (x := u) (s := q) h' nd' ho
    have em : ∀ y, y ∈ (plug (nf (nf q g s) u (nf A x B)) (c ++ c2)).nms ↔ y ∈ (plug (nf s u (nf A x B)) ((false, g, q) :: (c ++ c2))).nms := fun y => (permP (c := c ++ c2) permLL.symm).mem_iff
    have nd1 : (plug (nf (nf q g s) u (nf A x B)) (c ++ c2)).nms.Nodup := (permP (c := c ++ c2) permLL.symm).nodup_iff.mpr nd'
    have ho1 := ho.lift L1 em hp
    obtain ⟨r2, L2⟩ := turnRR (A := A) (B := B) (x := x) (u := u) (s := nf q g s) r1 nd1 ho1
    have em2 : ∀ y, y ∈ (plug (nf (nf (nf q g s) u A) x B) (c ++ c2)).nms ↔ y ∈ (plug (nf A x B) ((false, u, nf q g s) :: (c ++ c2))).nms := fun y => (permP (c := c ++ c2) permLL.symm).mem_iff
    have nd2 : (plug (nf (nf (nf q g s) u A) x B) (c ++ c2)).nms.Nodup := (permP (c := c ++ c2) permLL.symm).nodup_iff.mpr nd1
    have ho2 := ho1.lift L2 em2 fun q e z => hp q e ((em q).mp z)
    obtain ⟨S', e1, e2, e3⟩ := lift_rep (c1 := c) r2 nd2 ho2 fun q e z => hp q e ((em q).mp ((em2 q).mp z))
    have L12 := L1.trans L2 em
    refine ⟨S', lift_step t1 (by rw [t2]; exact ctop_not uc) hn (tq2 t3 (not_top (t := nf A x B) (b := false) (s := nf q g s) (c := c ++ c2) r1 rfl).2.1) (Lk.lift_more e1), e2, (L12.trans e3 fun y => (em2 y).trans (em y)).1, ?_, ?_, ?_⟩
    · exact (L12.trans e3 fun y => (em2 y).trans (em y)).t
    · rw [(L12.trans e3 fun y => (em2 y).trans (em y)).lk]
      show _ = S.lk + ((splayT (nf (nf q g s) u A) x B c).2.length + 1 + 1)
      omega
    · exact (L12.trans e3 fun y => (em2 y).trans (em y)).out
/-- each name of a tree stands in it somewhere -/
def flat : Tr N → Bool
  | .nil => true
  | .nd tw l _ r => !tw && flat l && flat r
theorem flat_find : ∀ {T : Tr N} {x : N}, flat T = true → x ∈ T.nms → ∀ c : Cz N, ∃ A B d, plug T c = plug (nf A x B) (d ++ c) ∧ d.length < T.nms.length
  | .nd tw l y r, x, f, m, c => by
    have f : (!tw && flat l && flat r) = true := f
    rw [Bool.and_eq_true, Bool.and_eq_true] at f
    obtain ⟨⟨f1, f2⟩, f3⟩ := f
    have tf : tw = false := by
      cases tw
      · rfl
      · exact absurd f1 (by decide)
    subst tf
    have e : (Tr.nd false l y r).nms.length = l.nms.length + (r.nms.length + 1) := by
      show (l.nms ++ y :: r.nms).length = _
      rw [List.length_append, List.length_cons]
    rcases List.mem_append.mp m with m | m
    · obtain ⟨A, B, d, h, k⟩ := flat_find f2 m ((true, y, r) :: c)
      exact ⟨A, B, d ++ [(true, y, r)], by rw [List.append_assoc]; exact h, by rw [List.length_append, e]; show d.length + 1 < _; omega⟩
    · rcases List.mem_cons.mp m with rfl | m
      · exact ⟨l, r, [], rfl, by rw [e]; show 0 < _; omega⟩
      · obtain ⟨A, B, d, h, k⟩ := flat_find f3 m ((false, y, l) :: c)
        exact ⟨A, B, d ++ [(false, y, l)], by rw [List.append_assoc]; exact h, by rw [List.length_append, e]; show d.length + 1 < _; omega⟩
def flatC : Cz N → Bool
  | [] => true
  | (_, _, s) :: c => flat s && flatC c
theorem flat_plug : ∀ {c : Cz N} {t : Tr N}, flat (plug t c) = (flat t && flatC c)
  | [], t => by
    show flat t = (flat t && true)
    rw [Bool.and_true]
  | (true, u, s) :: c, t => by
    refine (flat_plug (c := c) (t := .nd false t u s)).trans ?_
    show ((true && flat t && flat s) && flatC c) = (flat t && (flat s && flatC c))
    rw [Bool.true_and, Bool.and_assoc]
  | (false, u, s) :: c, t => by
    refine (flat_plug (c := c) (t := .nd false s u t)).trans ?_
    show ((true && flat s && flat t) && flatC c) = (flat t && (flat s && flatC c))
    rw [Bool.true_and]
    cases flat s <;> cases flat t <;> rfl
theorem flat_splay : ∀ {c : Cz N} {A B : Tr N} {x : N}, flat (splayT A x B c).1 = (flat A && flat B && flatC c)
  | [], A, B, x => by
    show (true && flat A && flat B) = (flat A && flat B && true)
    rw [Bool.true_and, Bool.and_true]
  | [(true, u, s)], A, B, x => by
    show (true && flat A && (true && flat B && flat s)) = (flat A && flat B && (flat s && true))
    cases flat A <;> cases flat B <;> cases flat s <;> rfl
  | [(false, u, s)], A, B, x => by
    show (true && (true && flat s && flat A) && flat B) = (flat A && flat B && (flat s && true))
    cases flat A <;> cases flat B <;> cases flat s <;> rfl
  | (true, u, s) :: (true, g, q) :: c, A, B, x => by
    refine (flat_splay (c := c) (A := A) (B := nf B u (nf s g q)) (x := x)).trans ?_
    show (flat A && (true && flat B && (true && flat s && flat q)) && flatC c) = (flat A && flat B && (flat s && (flat q && flatC c)))
    cases flat A <;> cases flat B <;> cases flat s <;> cases flat q <;> rfl
  | (true, u, s) :: (false, g, q) :: c, A, B, x => by
    refine (flat_splay (c := c) (A := nf q g A) (B := nf B u s) (x := x)).trans ?_
    show ((true && flat q && flat A) && (true && flat B && flat s) && flatC c) = (flat A && flat B && (flat s && (flat q && flatC c)))
    cases flat A <;> cases flat B <;> cases flat s <;> cases flat q <;> rfl
  | (false, u, s) :: (true, g, q) :: c, A, B, x => by
    refine (flat_splay (c := c) (A := nf s u A) (B := nf B g q) (x := x)).trans ?_
    show ((true && flat s && flat A) && (true && flat B && flat q) && flatC c) = (flat A && flat B && (flat s && (flat q && flatC c)))
    cases flat A <;> cases flat B <;> cases flat s <;> cases flat q <;> rfl
  | (false, u, s) :: (false, g, q) :: c, A, B, x => by
    refine (flat_splay (c := c) (A := nf (nf q g s) u A) (B := B) (x := x)).trans ?_
    show ((true && (true && flat q && flat s) && flat A) && flat B && flatC c) = (flat A && flat B && (flat s && (flat q && flatC c)))
    cases flat A <;> cases flat B <;> cases flat s <;> cases flat q <;> rfl
end

/-! ### what is turned, the way up, the order (pure) -/
section
variable {N : Type} [DecidableEq N]
def Lk.below (S : Lk N) (x : N) : List N := [S.l x, S.r x].filterMap id
def flips (t : N → Bool) (ys : List N) : N → Bool := ys.foldl (fun t y => up1 t y (!t y)) t
def Lk.swap (S : Lk N) (x : N) : Lk N := { S with l := up1 S.l x (S.r x), r := up1 S.r x (S.l x), t := up1 S.t x false }
def Lk.push (S : Lk N) (x : N) : Lk N := if S.t x = true then { S.swap x with t := flips (S.swap x).t ((S.swap x).below x) } else S
/-- x and those above it in its tree -/
def Lk.path : Nat → Lk N → N → Option (List N)
  | 0, _, _ => none
  | k + 1, S, x => if S.isTop x then some [x] else match S.a x with
    | none => some [x]
    | some u => (Lk.path k S u).map (x :: ·)
def Lk.pushes (S : Lk N) (xs : List N) : Lk N := xs.foldl Lk.push S
/-- the names in order: w those that wait, the last one first -/
def Lk.io : Nat → Lk N → Option N → List N → List N → Option (Lk N × List N)
  | 0, _, _, _, _ => none
  | k + 1, S, some x, w, ns => Lk.io k (S.push x) ((S.push x).l x) (x :: w) ns
  | k + 1, S, none, x :: w, ns => Lk.io k S (S.r x) w (ns ++ [x])
  | _ + 1, S, none, [], ns => some (S, ns)
theorem Lk.push_flat {S : Lk N} {x : N} (h : S.t x = false) : S.push x = S := by
  unfold Lk.push
  rw [if_neg (by rw [h]; decide)]
theorem Lk.pushes_flat {S : Lk N} : ∀ {xs : List N}, (∀ x ∈ xs, S.t x = false) → S.pushes xs = S
  | [], _ => rfl
  | x :: xs, h => by
    show (S.push x).pushes xs = S
    rw [Lk.push_flat (h x List.mem_cons_self)]
    exact Lk.pushes_flat fun y m => h y (List.mem_cons_of_mem _ m)
theorem path_rep {S : Lk N} {p : Option N} : ∀ {c : Cz N} {t : Tr N} {x : N}, Rep S p (plug t c) → t.root = some x → OutT S p (plug t c) → ∃ xs, S.path (c.length + 1) x = some xs ∧ ∀ y ∈ xs, y = x ∨ y ∈ cnm c
  | [], t, x, h, e, ho => ⟨[x], by
      unfold Lk.path
      rw [if_pos (is_top h e ho)], fun y m => .inl (List.mem_singleton.mp m)⟩
  | (b, u, s) :: c, t, x, h, e, ho => by
    obtain ⟨t1, t2, _⟩ := not_top h e
    have go : ∀ t' : Tr N, plug t ((b, u, s) :: c) = plug t' c → t'.root = some u → ∃ xs, S.path (c.length + 1) u = some xs ∧ ∀ y ∈ xs, y = u ∨ y ∈ cnm c := fun t' et er => path_rep (et ▸ h) er (et ▸ ho)
    have q : ∃ xs, S.path (c.length + 1) u = some xs ∧ ∀ y ∈ xs, y = u ∨ y ∈ cnm c := by
      cases b with
      | true => exact go (.nd false t u s) rfl rfl
      | false => exact go (.nd false s u t) rfl rfl
    obtain ⟨xs, h1, h2⟩ := q
    refine ⟨x :: xs, ?_, fun y m => ?_⟩
    · show Lk.path (c.length + 1 + 1) S x = _
      unfold Lk.path
      rw [if_neg (by rw [t1]; decide), t2]
      show (Lk.path (c.length + 1) S u).map (x :: ·) = _
      rw [h1]
      rfl
    · rcases List.mem_cons.mp m with e | m
      · exact .inl e
      · rcases h2 y m with e | m
        · exact .inr (e ▸ List.mem_cons_self)
        · exact .inr (List.mem_cons_of_mem _ (List.mem_append_right _ m))
theorem Lk.path_more : ∀ {k : Nat} {S : Lk N} {x : N} {xs : List N}, S.path k x = some xs → S.path (k + 1) x = some xs
  | 0, _, _, _, h => nomatch h
  | k + 1, S, x, xs, h => by
    unfold Lk.path at h ⊢
    by_cases c : S.isTop x = true
    · rw [if_pos c] at h ⊢
      exact h
    · rw [if_neg c] at h ⊢
      cases e : S.a x with
      | none =>
        rw [e] at h
        exact h
      | some u =>
        rw [e] at h
        have h : (Lk.path k S u).map (x :: ·) = some xs := h
        show (Lk.path (k + 1) S u).map (x :: ·) = some xs
        cases e2 : Lk.path k S u with
        | none =>
          rw [e2] at h
          exact nomatch h
        | some ys =>
          rw [Lk.path_more e2]
          rw [e2] at h
          exact h
theorem Lk.path_le {k m : Nat} {S : Lk N} {x : N} {xs : List N} (h : S.path k x = some xs) (le : k ≤ m) : S.path m x = some xs := by
  induction le with
  | refl => exact h
  | step _ ih => exact Lk.path_more ih
def Tr.cost : Tr N → Nat
  | .nil => 0
  | .nd _ l _ r => l.cost + r.cost + 2
theorem Tr.cost_eq : ∀ T : Tr N, T.cost = 2 * T.nms.length
  | .nil => rfl
  | .nd tw l x r => by
    show l.cost + r.cost + 2 = 2 * (l.nms ++ x :: r.nms).length
    rw [l.cost_eq, r.cost_eq, List.length_append, List.length_cons]
    omega
theorem io_flat {S : Lk N} : ∀ {T : Tr N} {p : Option N}, Rep S p T → flat T = true → ∀ (k : Nat) (w ns : List N), S.io (k + T.cost) T.root w ns = S.io k none w (ns ++ T.ord)
  | .nil, _, _, _, k, w, ns => by
    show S.io k none w ns = S.io k none w (ns ++ [])
    rw [List.append_nil]
  | .nd tw l x r, p, h, f, k, w, ns => by
    obtain ⟨h1, h2, h3, h4, h5, hl, hr⟩ := h
    have f : (!tw && flat l && flat r) = true := f
    rw [Bool.and_eq_true, Bool.and_eq_true] at f
    obtain ⟨⟨f1, f2⟩, f3⟩ := f
    have tf : tw = false := by
      cases tw
      · rfl
      · exact absurd f1 (by decide)
    subst tf
    have e : k + (Tr.nd false l x r).cost = (k + r.cost + 1) + l.cost + 1 := by
      show k + (l.cost + r.cost + 2) = _
      omega
    rw [e]
    show S.io ((k + r.cost + 1) + l.cost + 1) (some x) w ns = _
    rw [show S.io ((k + r.cost + 1) + l.cost + 1) (some x) w ns = (S.push x).io ((k + r.cost + 1) + l.cost) ((S.push x).l x) (x :: w) ns from rfl, Lk.push_flat h2, h3, io_flat hl f2 _ _ _]
    show S.io (k + r.cost) (S.r x) w (ns ++ l.ord ++ [x]) = _
    rw [h4, io_flat hr f3 _ _ _]
    show _ = S.io k none w (ns ++ (l.ord ++ x :: r.ord))
    simp only [List.append_assoc, List.cons_append, List.nil_append]
theorem io_all {S : Lk N} {T : Tr N} {p : Option N} (h : Rep S p T) (f : flat T = true) : S.io (T.cost + 1) T.root [] [] = some (S, T.ord) := by
  rw [Nat.add_comm, io_flat h f]
  rfl
theorem flat_t {S : Lk N} : ∀ {T : Tr N} {p : Option N}, Rep S p T → flat T = true → ∀ x ∈ T.nms, S.t x = false
  | .nd tw l x r, p, h, f, y, m => by
    obtain ⟨h1, h2, h3, h4, h5, hl, hr⟩ := h
    have f : (!tw && flat l && flat r) = true := f
    rw [Bool.and_eq_true, Bool.and_eq_true] at f
    obtain ⟨⟨f1, f2⟩, f3⟩ := f
    rcases List.mem_append.mp m with m | m
    · exact flat_t hl f2 y m
    · rcases List.mem_cons.mp m with rfl | m
      · rw [h2]
        cases tw
        · rfl
        · exact absurd f1 (by decide)
      · exact flat_t hr f3 y m
end
section
variable {N : Type} [DecidableEq N]
theorem turnsQ_at : ∀ {ys : List N} {S S1 : Lk N}, S.turnsQ ys = some S1 → ∀ {i : Nat} {y : N}, ys[i]? = some y → ∃ Si u, S.turnsQ (ys.take i) = some Si ∧ Si.a y = some u ∧ S.turnsQ (ys.take (i + 1)) = some (Si.turn y)
  | z :: ys, S, S1, h, i, y, hy => by
    have h : (if (S.a z).isSome = true then (S.turn z).turnsQ ys else none) = some S1 := h
    by_cases c : (S.a z).isSome = true
    · rw [if_pos c] at h
      cases i with
      | zero =>
        cases hy
        obtain ⟨u, hu⟩ := Option.isSome_iff_exists.mp c
        exact ⟨S, u, rfl, hu, tq1 hu⟩
      | succ i =>
        obtain ⟨Si, u, h1, h2, h3⟩ := turnsQ_at h hy
        have e : ∀ zs, S.turnsQ (z :: zs) = (S.turn z).turnsQ zs := fun zs => if_pos c
        exact ⟨Si, u, (e _).trans h1, h2, (e _).trans h3⟩
    · rw [if_neg c] at h
      exact nomatch h
end
section
variable {N : Type} [DecidableEq N]
/-- what is named is there -/
def Cl (S : Lk N) : Prop := ∀ x ∈ S.ns, (∀ y, S.l x = some y → y ∈ S.ns) ∧ (∀ y, S.r x = some y → y ∈ S.ns) ∧ (∀ y, S.a x = some y → y ∈ S.ns)
theorem cl_setL {S : Lk N} {x : N} {y : Option N} (h : Cl S) (m : x ∈ S.ns) (my : ∀ z, y = some z → z ∈ S.ns) : Cl (S.setL x y) := fun z mz => by
  have mz : z ∈ S.ns := mz
  obtain ⟨h1, h2, h3⟩ := h z mz
  refine ⟨fun v e => ?_, h2, fun v e => ?_⟩
  · have e : up1 S.l x y z = some v := e
    by_cases c : z = x
    · rw [c, up1_same] at e
      exact my v e
    · rw [up1_ne c] at e
      exact h1 v e
  · have e : upO S.a y (some x) z = some v := e
    by_cases c : some z = y
    · rw [← c, upO_same] at e
      cases e
      exact m
    · rw [upO_ne c] at e
      exact h3 v e
theorem cl_setR {S : Lk N} {x : N} {y : Option N} (h : Cl S) (m : x ∈ S.ns) (my : ∀ z, y = some z → z ∈ S.ns) : Cl (S.setR x y) := fun z mz => by
  have mz : z ∈ S.ns := mz
  obtain ⟨h1, h2, h3⟩ := h z mz
  refine ⟨h1, fun v e => ?_, fun v e => ?_⟩
  · have e : up1 S.r x y z = some v := e
    by_cases c : z = x
    · rw [c, up1_same] at e
      exact my v e
    · rw [up1_ne c] at e
      exact h2 v e
  · have e : upO S.a y (some x) z = some v := e
    by_cases c : some z = y
    · rw [← c, upO_same] at e
      cases e
      exact m
    · rw [upO_ne c] at e
      exact h3 v e
theorem up1_mem {ns : List N} {f : N → Option N} {x z v : N} {y : Option N} (hf : f z = some v → v ∈ ns) (hy : y = some v → v ∈ ns) (e : up1 f x y z = some v) : v ∈ ns := by
  by_cases c : z = x
  · rw [c, up1_same] at e
    exact hy e
  · rw [up1_ne c] at e
    exact hf e
theorem cl_inPlace {S : Lk N} {x u : N} (h : Cl S) (m : x ∈ S.ns) (mu : u ∈ S.ns) : Cl (S.inPlace x u) := fun z mz => by
  have mz : z ∈ S.ns := mz
  obtain ⟨h1, h2, h3⟩ := h z mz
  refine ⟨fun v e => ?_, fun v e => ?_, fun v e => ?_⟩
  · have e : (match S.a u with | none => S.l | some o => if S.l o = some u then up1 S.l o (some x) else S.l) z = some v := e
    cases ea : S.a u with
    | none =>
      rw [ea] at e
      exact h1 v e
    | some o =>
      rw [ea] at e
      have e : (if S.l o = some u then up1 S.l o (some x) else S.l) z = some v := e
      by_cases c : S.l o = some u
      · rw [if_pos c] at e
        exact up1_mem (h1 v) (fun q => by cases q; exact m) e
      · rw [if_neg c] at e
        exact h1 v e
  · have e : (match S.a u with | none => S.r | some o => if S.l o = some u then S.r else if S.r o = some u then up1 S.r o (some x) else S.r) z = some v := e
    cases ea : S.a u with
    | none =>
      rw [ea] at e
      exact h2 v e
    | some o =>
      rw [ea] at e
      have e : (if S.l o = some u then S.r else if S.r o = some u then up1 S.r o (some x) else S.r) z = some v := e
      by_cases c : S.l o = some u
      · rw [if_pos c] at e
        exact h2 v e
      · rw [if_neg c] at e
        by_cases c2 : S.r o = some u
        · rw [if_pos c2] at e
          exact up1_mem (h2 v) (fun q => by cases q; exact m) e
        · rw [if_neg c2] at e
          exact h2 v e
  · exact up1_mem (h3 v) (fun q => (h u mu).2.2 v q) (show up1 S.a x (S.a u) z = some v from e)
theorem cl_turn {S : Lk N} {x u : N} (h : Cl S) (m : x ∈ S.ns) (e : S.a x = some u) : Cl (S.turn x) ∧ (S.turn x).ns = S.ns := by
  have mu : u ∈ S.ns := (h x m).2.2 u e
  have c1 : Cl ({ S with lk := S.lk + 1 }.inPlace x u) := cl_inPlace (S := { S with lk := S.lk + 1 }) h m mu
  unfold Lk.turn
  rw [e]
  show Cl (S.turn1 x u) ∧ (S.turn1 x u).ns = S.ns
  unfold Lk.turn1
  dsimp only
  split
  · exact ⟨cl_setR (cl_setL c1 mu fun z q => (c1 x m).2.1 z q) m fun z q => by cases q; exact mu, rfl⟩
  · exact ⟨cl_setL (cl_setR c1 mu fun z q => (c1 x m).1 z q) m fun z q => by cases q; exact mu, rfl⟩
theorem cl_push {S : Lk N} {x : N} (h : Cl S) (m : x ∈ S.ns) : Cl (S.push x) ∧ (S.push x).ns = S.ns := by
  unfold Lk.push
  split
  · refine ⟨fun z mz => ?_, rfl⟩
    have mz : z ∈ S.ns := mz
    obtain ⟨h1, h2, h3⟩ := h z mz
    exact ⟨fun v e => up1_mem (h1 v) (fun q => (h x m).2.1 v q) e, fun v e => up1_mem (h2 v) (fun q => (h x m).1 v q) e, h3⟩
  · exact ⟨h, rfl⟩
theorem cl_pushes : ∀ {xs : List N} {S : Lk N}, Cl S → (∀ x ∈ xs, x ∈ S.ns) → Cl (S.pushes xs) ∧ (S.pushes xs).ns = S.ns
  | [], S, h, _ => ⟨h, rfl⟩
  | x :: xs, S, h, k => by
    obtain ⟨c1, c2⟩ := cl_push h (k x List.mem_cons_self)
    obtain ⟨d1, d2⟩ := cl_pushes (xs := xs) c1 fun y m => by rw [c2]; exact k y (List.mem_cons_of_mem _ m)
    exact ⟨d1, d2.trans c2⟩
theorem path_mem : ∀ {k : Nat} {S : Lk N} {x : N} {xs : List N}, S.path k x = some xs → Cl S → x ∈ S.ns → ∀ y ∈ xs, y ∈ S.ns
  | 0, _, _, _, h, _, _, _, _ => nomatch h
  | k + 1, S, x, xs, h, cl, m, y, my => by
    unfold Lk.path at h
    by_cases c : S.isTop x = true
    · rw [if_pos c] at h
      cases h
      rw [List.mem_singleton.mp my]
      exact m
    · rw [if_neg c] at h
      cases e : S.a x with
      | none =>
        rw [e] at h
        cases h
        rw [List.mem_singleton.mp my]
        exact m
      | some u =>
        rw [e] at h
        have h : (S.path k u).map (x :: ·) = some xs := h
        obtain ⟨ys, hy, rfl⟩ := Option.map_eq_some_iff.mp h
        rcases List.mem_cons.mp my with rfl | my
        · exact m
        · exact path_mem hy cl ((cl x m).2.2 u e) y my
theorem next_mem {S : Lk N} {x y : N} {goal : Option N} (cl : Cl S) (m : x ∈ S.ns) (h : y ∈ S.next x goal) : y ∈ S.ns := by
  unfold Lk.next at h
  cases e : S.a x with
  | none =>
    rw [e] at h
    rw [List.mem_singleton.mp h]
    exact m
  | some u =>
    rw [e] at h
    have h : y ∈ (if (S.isTop u || decide (S.a u = goal)) = true then [x] else match S.a u with | none => [x] | some o => if decide (S.l u = some x) = decide (S.l o = some u) then [u, x] else [x, x]) := h
    have one : ∀ {z : N}, z ∈ [u, x] → z ∈ S.ns := fun {z} mz => by
      rcases List.mem_cons.mp mz with rfl | mz
      · exact (cl x m).2.2 _ e
      · rw [List.mem_singleton.mp mz]
        exact m
    have two : ∀ {z : N}, z ∈ [x] → z ∈ S.ns := fun {z} mz => one (List.mem_cons_of_mem _ mz)
    split at h
    · exact two h
    · cases e2 : S.a u with
      | none =>
        rw [e2] at h
        exact two h
      | some o =>
        rw [e2] at h
        have h : y ∈ (if decide (S.l u = some x) = decide (S.l o = some u) then [u, x] else [x, x]) := h
        split at h
        · exact one h
        · rcases List.mem_cons.mp h with rfl | h
          · exact m
          · exact two h
end

/-! ### turned otherwise: a tree's own turns -/
section
variable {N : Type} [DecidableEq N]
/-- x stands below u, u below another one or none: no name twice -/
structure Tidy (S : Lk N) (x u : N) : Prop where
  ax : S.a x = some u
  one : S.l u = some x ∨ S.r u = some x
  not2 : ¬ (S.l u = some x ∧ S.r u = some x)
  up : ∀ g, S.a u = some g → g ≠ u ∧ g ≠ x ∧ ¬ (S.l g = some u ∧ S.r g = some u)
  lx : S.l x ≠ some u
  rx : S.r x ≠ some u
  ne : x ≠ u
def Lk.lturn1 (S : Lk N) (x u : N) (side : Bool) : Lk N :=
  { S with
    l := if side then up1 (match S.a u with | none => S.l | some g => if S.r g = some u then S.l else if S.l g = some u then up1 S.l g (some x) else S.l) x (some u)
         else up1 (match S.a u with | none => S.l | some g => if S.r g = some u then S.l else if S.l g = some u then up1 S.l g (some x) else S.l) u (S.r x)
    r := if side then up1 (match S.a u with | none => S.r | some g => if S.r g = some u then up1 S.r g (some x) else S.r) u (S.l x)
         else up1 (match S.a u with | none => S.r | some g => if S.r g = some u then up1 S.r g (some x) else S.r) x (some u)
    a := upO (up1 (up1 S.a x (S.a u)) u (some x)) (if side then S.l x else S.r x) (some u) }
def Lk.lturn (S : Lk N) (x : N) : Lk N := match S.a x with | none => S | some u => S.lturn1 x u (decide (S.r u = some x))
/-- once x stands where u was -/
def Lk.plc (S : Lk N) (x u : N) : Lk N :=
  { S with
    l := match S.a u with | none => S.l | some g => if S.r g = some u then S.l else if S.l g = some u then up1 S.l g (some x) else S.l
    r := match S.a u with | none => S.r | some g => if S.r g = some u then up1 S.r g (some x) else S.r }
theorem lturn1_plc (S : Lk N) (x u : N) (b : Bool) : S.lturn1 x u b = if b then
    { S.plc x u with l := up1 (S.plc x u).l x (some u), r := up1 (S.plc x u).r u (S.l x), a := upO (up1 (up1 S.a x (S.a u)) u (some x)) (S.l x) (some u) }
    else { S.plc x u with l := up1 (S.plc x u).l u (S.r x), r := up1 (S.plc x u).r x (some u), a := upO (up1 (up1 S.a x (S.a u)) u (some x)) (S.r x) (some u) } := by
  cases b <;> rfl
theorem up_comm {α : Type} {f : N → α} {u : N} {b : Option N} {v w : α} (h : b ≠ some u) : upO (up1 f u v) b w = up1 (upO f b w) u v := by
  funext z
  cases b with
  | none => rfl
  | some b =>
    show up1 (up1 f u v) b w z = up1 (up1 f b w) u v z
    by_cases e1 : z = b
    · subst e1
      rw [up1_same, up1_ne fun e => h (by rw [e]), up1_same]
    · rw [up1_ne e1]
      by_cases e2 : z = u
      · subst e2
        rw [up1_same, up1_same]
      · rw [up1_ne e2, up1_ne e2, up1_ne e1]
theorem lturn_eq {S : Lk N} {x u : N} (t : Tidy S x u) : (S.lturn x).l = (S.turn x).l ∧ (S.lturn x).r = (S.turn x).r ∧ (S.lturn x).a = (S.turn x).a ∧ (S.turn x).t = S.t ∧ (S.turn x).ns = S.ns ∧ (S.turn x).lk = S.lk + 1 := by
  have el : (S.inPlace x u).l = match S.a u with | none => S.l | some g => if S.r g = some u then S.l else if S.l g = some u then up1 S.l g (some x) else S.l := by
    show (match S.a u with | none => S.l | some o => if S.l o = some u then up1 S.l o (some x) else S.l) = _
    cases e : S.a u with
    | none => rfl
    | some g =>
      obtain ⟨g1, g2, g3⟩ := t.up g e
      dsimp only
      by_cases c : S.r g = some u
      · rw [if_pos c, if_neg fun z => g3 ⟨z, c⟩]
      · rw [if_neg c]
  have er : (S.inPlace x u).r = match S.a u with | none => S.r | some g => if S.r g = some u then up1 S.r g (some x) else S.r := by
    show (match S.a u with | none => S.r | some o => if S.l o = some u then S.r else if S.r o = some u then up1 S.r o (some x) else S.r) = _
    cases e : S.a u with
    | none => rfl
    | some g =>
      obtain ⟨g1, g2, g3⟩ := t.up g e
      dsimp only
      by_cases c : S.r g = some u
      · rw [if_pos c, if_neg fun z => g3 ⟨z, c⟩]
      · rw [if_neg c]
        split <;> rfl
  have elu : (S.inPlace x u).l u = S.l u := by
    rw [el]
    cases e : S.a u with
    | none => rfl
    | some g =>
      obtain ⟨g1, g2, g3⟩ := t.up g e
      dsimp only
      split
      · rfl
      · split
        · exact up1_ne g1.symm
        · rfl
  have elx : (S.inPlace x u).l x = S.l x := by
    rw [el]
    cases e : S.a u with
    | none => rfl
    | some g =>
      obtain ⟨g1, g2, g3⟩ := t.up g e
      dsimp only
      split
      · rfl
      · split
        · exact up1_ne g2.symm
        · rfl
  have erx : (S.inPlace x u).r x = S.r x := by
    rw [er]
    cases e : S.a u with
    | none => rfl
    | some g =>
      obtain ⟨g1, g2, g3⟩ := t.up g e
      dsimp only
      split
      · exact up1_ne g2.symm
      · rfl
  have d1 : S.turn x = S.turn1 x u := by
    unfold Lk.turn
    rw [t.ax]
  have d2 : S.lturn x = S.lturn1 x u (decide (S.r u = some x)) := by
    unfold Lk.lturn
    rw [t.ax]
  rw [d1, d2]
  by_cases c : S.r u = some x
  · have c2 : ¬ S.l u = some x := fun z => t.not2 ⟨z, c⟩
    have e0 : S.turn1 x u = (({ S with lk := S.lk + 1 }.inPlace x u).setR u (({ S with lk := S.lk + 1 }.inPlace x u).l x)).setL x (some u) := if_neg (show ¬ (S.inPlace x u).l u = some x by rw [elu]; exact c2)
    rw [e0, decide_eq_true c]
    refine ⟨?_, ?_, ?_, rfl, rfl, rfl⟩
    · show up1 _ x (some u) = up1 (S.inPlace x u).l x (some u)
      rw [el]
    · show up1 _ u (S.l x) = up1 (S.inPlace x u).r u ((S.inPlace x u).l x)
      rw [er, elx]
    · show upO (up1 (up1 S.a x (S.a u)) u (some x)) (S.l x) (some u) = up1 (upO (up1 S.a x (S.a u)) ((S.inPlace x u).l x) (some u)) u (some x)
      rw [elx]
      exact up_comm t.lx
  · have c2 : S.l u = some x := t.one.resolve_right c
    have e0 : S.turn1 x u = (({ S with lk := S.lk + 1 }.inPlace x u).setL u (({ S with lk := S.lk + 1 }.inPlace x u).r x)).setR x (some u) := if_pos (show (S.inPlace x u).l u = some x by rw [elu]; exact c2)
    rw [e0, decide_eq_false c]
    refine ⟨?_, ?_, ?_, rfl, rfl, rfl⟩
    · show up1 _ u (S.r x) = up1 (S.inPlace x u).l u ((S.inPlace x u).r x)
      rw [el, erx]
    · show up1 _ x (some u) = up1 (S.inPlace x u).r x (some u)
      rw [er]
    · show upO (up1 (up1 S.a x (S.a u)) u (some x)) (S.r x) (some u) = up1 (upO (up1 S.a x (S.a u)) ((S.inPlace x u).r x) (some u)) u (some x)
      rw [erx]
      exact up_comm t.rx
theorem tidy_of {S : Lk N} {p : Option N} {A B s : Tr N} {x u : N} {b : Bool} {c : Cz N} (h : Rep S p (plug (nf A x B) ((b, u, s) :: c))) (nd : (plug (nf A x B) ((b, u, s) :: c)).nms.Nodup) (ho : OutT S p (plug (nf A x B) ((b, u, s) :: c))) (hp : ∀ q, p = some q → q ∉ (plug (nf A x B) ((b, u, s) :: c)).nms) : Tidy S x u := by
  obtain ⟨n1, n2, n3⟩ := nd_ctx nd
  obtain ⟨nx1, nx2, nx3⟩ := n3 x (List.mem_append_right _ List.mem_cons_self)
  obtain ⟨⟨_, _, hl, hr, ha, _, _⟩, _, _, hu3, hu4, _, hc⟩ := rep_plug.mp h
  have mu : u ∈ (plug (nf A x B) ((b, u, s) :: c)).nms := plug_perm.mem_iff.mpr (List.mem_append_right _ List.mem_cons_self)
  have mx : x ∈ (plug (nf A x B) ((b, u, s) :: c)).nms := plug_perm.mem_iff.mpr (List.mem_append_left _ (List.mem_append_right _ List.mem_cons_self))
  have ns : s.root ≠ some x := root_ne nx2
  have nA : A.root ≠ some u := fun e => (n3 u (List.mem_append_left _ (Tr.root_mem e))).1 rfl
  have nB : B.root ≠ some u := fun e => (n3 u (List.mem_append_right _ (List.mem_cons_of_mem _ (Tr.root_mem e)))).1 rfl
  refine ⟨ha, ?_, ?_, ?_, by rw [hl]; exact nA, by rw [hr]; exact nB, nx1⟩
  · cases b with
    | true => exact .inl hu3.1
    | false => exact .inr hu3.2
  · rintro ⟨e1, e2⟩
    cases b with
    | true => exact ns (hu3.2.symm.trans e2)
    | false => exact ns (hu3.1.symm.trans e1)
  · intro g eg
    rw [hu4] at eg
    cases c with
    | nil =>
      refine ⟨fun e => hp g eg (e ▸ mu), fun e => hp g eg (e ▸ mx), fun z => (ho g eg u mu).1 z.1⟩
    | cons f c' =>
      obtain ⟨b', g', q⟩ := f
      cases eg
      have ng : g ∈ cnm ((b', g, q) :: c') := List.mem_cons_self
      have nq : q.root ≠ some u := root_ne fun m => n2 (List.mem_cons_of_mem _ (List.mem_append_left _ m))
      refine ⟨fun (e : g = u) => n2 (e ▸ ng), fun (e : g = x) => nx3 (e ▸ ng), ?_⟩
      rintro ⟨e1, e2⟩
      obtain ⟨_, _, h3, _, _, _⟩ := hc
      cases b' with
      | true => exact nq (h3.2.symm.trans e2)
      | false => exact nq (h3.1.symm.trans e1)
/-- two turns of a lift -/
theorem two_turns {S : Lk N} {p : Option N} {A B s q : Tr N} {x u g : N} {b1 b2 : Bool} {c : Cz N} (h : Rep S p (plug (nf A x B) ((b1, u, s) :: (b2, g, q) :: c))) (nd : (plug (nf A x B) ((b1, u, s) :: (b2, g, q) :: c)).nms.Nodup) (ho : OutT S p (plug (nf A x B) ((b1, u, s) :: (b2, g, q) :: c))) (hp : ∀ z, p = some z → z ∉ (plug (nf A x B) ((b1, u, s) :: (b2, g, q) :: c)).nms) :
    ∃ A' B' f u1 u2, f = (if decide (S.l u = some x) = decide (S.l g = some u) then u else x) ∧ splayT A x B ((b1, u, s) :: (b2, g, q) :: c) = ((splayT A' x B' c).1, f :: x :: (splayT A' x B' c).2) ∧ Tidy S f u1 ∧ Tidy (S.turn f) x u2 ∧ Rep ((S.turn f).turn x) p (plug (nf A' x B') c) ∧ Lifted S ((S.turn f).turn x) (plug (nf A x B) ((b1, u, s) :: (b2, g, q) :: c)) 2 ∧ (plug (nf A' x B') c).nms.Perm (plug (nf A x B) ((b1, u, s) :: (b2, g, q) :: c)).nms ∧ f ∈ (plug (nf A x B) ((b1, u, s) :: (b2, g, q) :: c)).nms := by
  obtain ⟨n1, n2, n3⟩ := nd_ctx nd
  have mu : u ∈ (plug (nf A x B) ((b1, u, s) :: (b2, g, q) :: c)).nms := plug_perm.mem_iff.mpr (List.mem_append_right _ List.mem_cons_self)
  have mx : x ∈ (plug (nf A x B) ((b1, u, s) :: (b2, g, q) :: c)).nms := plug_perm.mem_iff.mpr (List.mem_append_left _ (List.mem_append_right _ List.mem_cons_self))
  have lu : (if b1 then S.l u = some x ∧ S.r u = s.root else S.l u = s.root ∧ S.r u = some x) := (rep_plug.mp h).2.2.2.1
  have nx : s.root ≠ some x := root_ne (n3 x (List.mem_append_right _ List.mem_cons_self)).2.1
  cases b1 with
  | true =>
    have h' : Rep S p (plug (nf (nf A x B) u s) ((b2, g, q) :: c)) := h
    have nd' : (plug (nf (nf A x B) u s) ((b2, g, q) :: c)).nms.Nodup := nd
    have lg : (if b2 then S.l g = some u ∧ S.r g = q.root else S.l g = q.root ∧ S.r g = some u) := (rep_plug.mp h').2.2.2.1
    have nq : q.root ≠ some u := root_ne ((nd_ctx nd').2.2 u (List.mem_append_right _ List.mem_cons_self)).2.1
    cases b2 with
    | true =>
      obtain ⟨r1, L1⟩ := turnLL (A := nf A x B) (B := s) (x := u) (s := q) h' nd' ho
      have pm1 : (plug (nf (nf A x B) u (nf s g q)) c).nms.Perm (plug (nf (nf A x B) u s) ((true, g, q) :: c)).nms := permP (c := c) permLL
      have nd1 := pm1.nodup_iff.mpr nd'
      have ho1 := ho.lift L1 (fun y => pm1.mem_iff) hp
      have hp1 : ∀ z, p = some z → z ∉ (plug (nf (nf A x B) u (nf s g q)) c).nms := fun z e m => hp z e (pm1.mem_iff.mp m)
      obtain ⟨r2, L2⟩ := turnLL (A := A) (B := B) (x := x) (u := u) (s := nf s g q) r1 nd1 ho1
      have pm2 : (plug (nf A x (nf B u (nf s g q))) c).nms.Perm (plug (nf (nf A x B) u (nf s g q)) c).nms := permP (c := c) permLL
      refine ⟨A, nf B u (nf s g q), u, g, u, by rw [lu.1, lg.1, if_pos (by simp)], rfl, tidy_of (A := nf A x B) (B := s) (x := u) h' nd' ho hp, tidy_of (A := A) (B := B) (x := x) (b := true) (s := nf s g q) r1 nd1 ho1 hp1, r2, L1.trans L2 fun y => pm1.mem_iff, pm2.trans pm1, mu⟩
    | false =>
      obtain ⟨r1, L1⟩ := turnLL h nd ho
      have pm1 : (plug (nf A x (nf B u s)) ((false, g, q) :: c)).nms.Perm (plug (nf A x B) ((true, u, s) :: (false, g, q) :: c)).nms := permP (c := (false, g, q) :: c) permLL
      have nd1 := pm1.nodup_iff.mpr nd
      have ho1 := ho.lift L1 (fun y => pm1.mem_iff) hp
      have hp1 : ∀ z, p = some z → z ∉ (plug (nf A x (nf B u s)) ((false, g, q) :: c)).nms := fun z e m => hp z e (pm1.mem_iff.mp m)
      obtain ⟨r2, L2⟩ := turnRR (A := A) (B := nf B u s) (x := x) (u := g) (s := q) r1 nd1 ho1
      have pm2 : (plug (nf (nf q g A) x (nf B u s)) c).nms.Perm (plug (nf A x (nf B u s)) ((false, g, q) :: c)).nms := permP (c := c) permLL.symm
      refine ⟨nf q g A, nf B u s, x, u, g, by rw [lu.1, lg.1, if_neg (by simp [nq])], rfl, tidy_of h nd ho hp, tidy_of r1 nd1 ho1 hp1, r2, L1.trans L2 fun y => pm1.mem_iff, pm2.trans pm1, mx⟩
  | false =>
    have h' : Rep S p (plug (nf s u (nf A x B)) ((b2, g, q) :: c)) := h
    have nd' : (plug (nf s u (nf A x B)) ((b2, g, q) :: c)).nms.Nodup := nd
    have lg : (if b2 then S.l g = some u ∧ S.r g = q.root else S.l g = q.root ∧ S.r g = some u) := (rep_plug.mp h').2.2.2.1
    have nq : q.root ≠ some u := root_ne ((nd_ctx nd').2.2 u (List.mem_append_right _ List.mem_cons_self)).2.1
    cases b2 with
    | true =>
      obtain ⟨r1, L1⟩ := turnRR h nd ho
      have pm1 : (plug (nf (nf s u A) x B) ((true, g, q) :: c)).nms.Perm (plug (nf A x B) ((false, u, s) :: (true, g, q) :: c)).nms := permP (c := (true, g, q) :: c) permLL.symm
      have nd1 := pm1.nodup_iff.mpr nd
      have ho1 := ho.lift L1 (fun y => pm1.mem_iff) hp
      have hp1 : ∀ z, p = some z → z ∉ (plug (nf (nf s u A) x B) ((true, g, q) :: c)).nms := fun z e m => hp z e (pm1.mem_iff.mp m)
      obtain ⟨r2, L2⟩ := turnLL (A := nf s u A) (B := B) (x := x) (u := g) (s := q) r1 nd1 ho1
      have pm2 : (plug (nf (nf s u A) x (nf B g q)) c).nms.Perm (plug (nf (nf s u A) x B) ((true, g, q) :: c)).nms := permP (c := c) permLL
      refine ⟨nf s u A, nf B g q, x, u, g, by rw [lu.1, lg.1, if_neg (by simp [nx])], rfl, tidy_of h nd ho hp, tidy_of r1 nd1 ho1 hp1, r2, L1.trans L2 fun y => pm1.mem_iff, pm2.trans pm1, mx⟩
    | false =>
      obtain ⟨r1, L1⟩ := turnRR (A := s) (B := nf A x B) (x := u) (s := q) h' nd' ho
      have pm1 : (plug (nf (nf q g s) u (nf A x B)) c).nms.Perm (plug (nf s u (nf A x B)) ((false, g, q) :: c)).nms := permP (c := c) permLL.symm
      have nd1 := pm1.nodup_iff.mpr nd'
      have ho1 := ho.lift L1 (fun y => pm1.mem_iff) hp
      have hp1 : ∀ z, p = some z → z ∉ (plug (nf (nf q g s) u (nf A x B)) c).nms := fun z e m => hp z e (pm1.mem_iff.mp m)
      obtain ⟨r2, L2⟩ := turnRR (A := A) (B := B) (x := x) (u := u) (s := nf q g s) r1 nd1 ho1
      have pm2 : (plug (nf (nf (nf q g s) u A) x B) c).nms.Perm (plug (nf (nf q g s) u (nf A x B)) c).nms := permP (c := c) permLL.symm
      refine ⟨nf (nf q g s) u A, B, u, g, u, by rw [lu.1, lg.1, if_pos (by simp [nx, nq])], rfl, tidy_of (A := s) (B := nf A x B) (x := u) h' nd' ho hp, tidy_of (A := A) (B := B) (x := x) (b := false) (s := nf q g s) r1 nd1 ho1 hp1, r2, L1.trans L2 fun y => pm1.mem_iff, pm2.trans pm1, mu⟩
end
/-! ### the chain at first -/
def rgI (n : Nat) : List Int := (List.range n).map fun (k : Nat) => (k : Int)
theorem rgI_mem {n : Nat} {x : Int} : x ∈ rgI n ↔ 0 ≤ x ∧ x < n := by
  unfold rgI
  rw [List.mem_map]
  constructor
  · rintro ⟨k, mk, rfl⟩
    have := List.mem_range.mp mk
    omega
  · rintro ⟨h1, h2⟩
    exact ⟨x.toNat, List.mem_range.mpr (by omega), by omega⟩
theorem rgI_succ (n : Nat) : rgI (n + 1) = rgI n ++ [(n : Int)] := by
  unfold rgI
  rw [List.range_succ, List.map_append]
  rfl
theorem rgI_len (n : Nat) : (rgI n).length = n := by
  unfold rgI
  rw [List.length_map, List.length_range]
theorem rgI_up (n : Nat) : (rgI n).Pairwise (· < ·) := by
  unfold rgI
  rw [List.pairwise_map]
  exact List.pairwise_lt_range.imp fun h => by omega
theorem rgI_nd (n : Nat) : (rgI n).Nodup := (rgI_up n).imp fun h => by omega
def chainK (n : Nat) : Lk Int := ⟨rgI n, fun _ => none, fun x => if 0 ≤ x ∧ x + 1 < n then some (x + 1) else none, fun x => if 1 ≤ x ∧ x < n then some (x - 1) else none, fun _ => false, 0⟩
def chainT : Nat → Nat → Tr Int
  | _, 0 => .nil
  | k, m + 1 => nf .nil (k : Int) (chainT (k + 1) m)
theorem chainT_root (k m : Nat) : (chainT k m).root = if 0 < m then some (k : Int) else none := by
  cases m with
  | zero => rfl
  | succ m => rfl
theorem chain_rep {n : Nat} : ∀ {m k : Nat}, k + m = n → Rep (chainK n) (if 1 ≤ k then some ((k : Int) - 1) else none) (chainT k m)
  | 0, k, _ => trivial
  | m + 1, k, h => by
    have ih := chain_rep (n := n) (m := m) (k := k + 1) (by omega)
    rw [if_pos (by omega)] at ih
    refine ⟨rgI_mem.mpr (by omega), rfl, rfl, ?_, ?_, trivial, ?_⟩
    · rw [chainT_root]
      show (if 0 ≤ (k : Int) ∧ (k : Int) + 1 < n then some ((k : Int) + 1) else none) = _
      by_cases c : 0 < m
      · rw [if_pos (by omega), if_pos c]
        rfl
      · rw [if_neg (by omega), if_neg c]
    · show (if 1 ≤ (k : Int) ∧ (k : Int) < n then some ((k : Int) - 1) else none) = _
      by_cases c : 1 ≤ k
      · rw [if_pos (by omega), if_pos c]
      · rw [if_neg (by omega), if_neg c]
    · have e : (((k + 1 : Nat) : Int) - 1) = (k : Int) := by omega
      rw [e] at ih
      exact ih
theorem chain_nms : ∀ {m k : Nat}, (chainT k m).nms = (List.range' k m).map fun (j : Nat) => (j : Int)
  | 0, _ => rfl
  | m + 1, k => by
    show [] ++ (k : Int) :: (chainT (k + 1) m).nms = _
    rw [chain_nms, List.range'_succ]
    rfl
theorem chain_all (n : Nat) : (chainT 0 n).nms = rgI n := by
  rw [chain_nms]
  unfold rgI
  rw [List.range_eq_range']
theorem chain_flat : ∀ {m k : Nat}, flat (chainT k m) = true
  | 0, _ => rfl
  | m + 1, k => by
    show (!false && true && flat (chainT (k + 1) m)) = true
    rw [chain_flat]
    rfl
theorem ord_flat {N : Type} : ∀ {T : Tr N}, flat T = true → T.ord = T.nms
  | .nil, _ => rfl
  | .nd tw l x r, f => by
    have f : (!tw && flat l && flat r) = true := f
    rw [Bool.and_eq_true, Bool.and_eq_true] at f
    obtain ⟨⟨f1, f2⟩, f3⟩ := f
    have tf : tw = false := by
      cases tw
      · rfl
      · exact absurd f1 (by decide)
    subst tf
    show l.ord ++ x :: r.ord = l.nms ++ x :: r.nms
    rw [ord_flat f2, ord_flat f3]

/-! ### weights, and what lifting costs (pure) -/
section
variable {N : Type} [DecidableEq N]
/-- the names from one on up to the end -/
def Lk.ups (S : Lk N) : Nat → Option N → Option (List N)
  | _, none => some []
  | 0, some _ => none
  | k + 1, some x => (Lk.ups S k (S.a x)).map (x :: ·)
theorem Lk.ups_more {S : Lk N} : ∀ {k : Nat} {x : Option N} {xs : List N}, S.ups k x = some xs → S.ups (k + 1) x = some xs
  | 0, none, _, h => h
  | 0, some _, _, h => nomatch h
  | _ + 1, none, _, h => h
  | k + 1, some x, xs, h => by
    have h : (S.ups k (S.a x)).map (x :: ·) = some xs := h
    obtain ⟨ys, hy, rfl⟩ := Option.map_eq_some_iff.mp h
    show (S.ups (k + 1) (S.a x)).map (x :: ·) = _
    rw [Lk.ups_more hy]
    rfl
theorem Lk.ups_le {S : Lk N} {k m : Nat} {x : Option N} {xs : List N} (h : S.ups k x = some xs) (le : k ≤ m) : S.ups m x = some xs := by
  induction le with
  | refl => exact h
  | step _ ih => exact Lk.ups_more ih
def pth : Tr N → N → List N
  | .nil, _ => []
  | .nd _ l y r, s => if s = y then [y] else if s ∈ l.nms then pth l s ++ [y] else pth r s ++ [y]
theorem pth_ups {S : Lk N} : ∀ {T : Tr N} {p : Option N} {s : N} {k : Nat} {xs : List N}, Rep S p T → s ∈ T.nms → S.ups k p = some xs → S.ups (k + T.nms.length) (some s) = some (pth T s ++ xs)
  | .nd tw l y r, p, s, k, xs, h, m, e => by
    obtain ⟨h1, h2, h3, h4, h5, hl, hr⟩ := h
    have el : (Tr.nd tw l y r).nms.length = l.nms.length + (r.nms.length + 1) := by
      show (l.nms ++ y :: r.nms).length = _
      rw [List.length_append, List.length_cons]
    have e2 : S.ups (k + 1) (some y) = some (y :: xs) := by
      show (S.ups k (S.a y)).map (y :: ·) = _
      rw [h5, e]
      rfl
    unfold pth
    by_cases c1 : s = y
    · rw [if_pos c1, c1]
      exact Lk.ups_le e2 (by omega)
    · rw [if_neg c1]
      by_cases c2 : s ∈ l.nms
      · rw [if_pos c2, List.append_assoc]
        exact Lk.ups_le (pth_ups hl c2 e2) (by omega)
      · rw [if_neg c2, List.append_assoc]
        have m2 : s ∈ r.nms := by
          rcases List.mem_append.mp m with m | m
          · exact absurd m c2
          · exact (List.mem_cons.mp m).resolve_left c1
        exact Lk.ups_le (pth_ups hr m2 e2) (by omega)
theorem pth_mem : ∀ {T : Tr N} {s y : N}, y ∈ pth T s → y ∈ T.nms
  | .nd tw l z r, s, y, h => by
    unfold pth at h
    by_cases c1 : s = z
    · rw [if_pos c1] at h
      rw [List.mem_singleton.mp h]
      exact List.mem_append_right _ List.mem_cons_self
    · rw [if_neg c1] at h
      by_cases c2 : s ∈ l.nms
      · rw [if_pos c2] at h
        rcases List.mem_append.mp h with h | h
        · exact List.mem_append_left _ (pth_mem h)
        · rw [List.mem_singleton.mp h]
          exact List.mem_append_right _ List.mem_cons_self
      · rw [if_neg c2] at h
        rcases List.mem_append.mp h with h | h
        · exact List.mem_append_right _ (List.mem_cons_of_mem _ (pth_mem h))
        · rw [List.mem_singleton.mp h]
          exact List.mem_append_right _ List.mem_cons_self
/-- how many stand at or below it -/
def wtT : Tr N → N → Nat
  | .nil, _ => 0
  | .nd _ l z r, y => if y = z then l.nms.length + r.nms.length + 1 else wtT l y + wtT r y
theorem wtT_out : ∀ {T : Tr N} {y : N}, y ∉ T.nms → wtT T y = 0
  | .nil, _, _ => rfl
  | .nd tw l z r, y, h => by
    have h : y ∉ l.nms ++ z :: r.nms := h
    show (if y = z then l.nms.length + r.nms.length + 1 else wtT l y + wtT r y) = 0
    rw [if_neg fun (e : y = z) => h (e ▸ List.mem_append_right _ List.mem_cons_self), wtT_out fun m => h (List.mem_append_left _ m), wtT_out fun m => h (List.mem_append_right _ (List.mem_cons_of_mem _ m))]
theorem sum_const_one {α : Type} {f : α → Nat} : ∀ {xs : List α}, (∀ x ∈ xs, f x = 1) → (xs.map f).sum = xs.length
  | [], _ => rfl
  | x :: xs, h => by
    rw [List.map_cons, List.sum_cons, h x List.mem_cons_self, sum_const_one fun y m => h y (List.mem_cons_of_mem _ m), List.length_cons]
    omega
theorem sum_congr {α : Type} {f g : α → Nat} {xs : List α} (h : ∀ x ∈ xs, f x = g x) : (xs.map f).sum = (xs.map g).sum := by rw [List.map_congr_left h]
theorem sum_zero {α : Type} {f : α → Nat} : ∀ {xs : List α}, (∀ x ∈ xs, f x = 0) → (xs.map f).sum = 0
  | [], _ => rfl
  | x :: xs, h => by
    rw [List.map_cons, List.sum_cons, h x List.mem_cons_self, sum_zero fun y m => h y (List.mem_cons_of_mem _ m)]
theorem wt_count : ∀ {T : Tr N} (y : N), T.nms.Nodup → (T.nms.map fun s => (pth T s).count y).sum = wtT T y
  | .nil, _, _ => rfl
  | .nd tw l z r, y, nd => by
    have nd : (l.nms ++ z :: r.nms).Nodup := nd
    obtain ⟨n1, n2, n3⟩ := List.nodup_append.mp nd
    obtain ⟨n4, n5⟩ := List.nodup_cons.mp n2
    have nl : z ∉ l.nms := fun m => n3 z m z List.mem_cons_self rfl
    have pl : ∀ s ∈ l.nms, pth (.nd tw l z r) s = pth l s ++ [z] := fun s m => by
      show (if s = z then [z] else if s ∈ l.nms then pth l s ++ [z] else pth r s ++ [z]) = _
      rw [if_neg fun (e : s = z) => nl (e ▸ m), if_pos m]
    have pr : ∀ s ∈ r.nms, pth (.nd tw l z r) s = pth r s ++ [z] := fun s m => by
      show (if s = z then [z] else if s ∈ l.nms then pth l s ++ [z] else pth r s ++ [z]) = _
      rw [if_neg fun (e : s = z) => n4 (e ▸ m), if_neg fun q => n3 s q s (List.mem_cons_of_mem _ m) rfl]
    have pz : pth (.nd tw l z r) z = [z] := by
      show (if z = z then [z] else _) = _
      rw [if_pos rfl]
    show ((l.nms ++ z :: r.nms).map fun s => (pth (.nd tw l z r) s).count y).sum = if y = z then l.nms.length + r.nms.length + 1 else wtT l y + wtT r y
    rw [List.map_append, List.sum_append, List.map_cons, List.sum_cons, pz]
    by_cases c : y = z
    · subst c
      rw [if_pos rfl, sum_const_one fun s m => by rw [pl s m, List.count_append, List.count_eq_zero_of_not_mem fun q => nl (pth_mem q)]; simp, sum_const_one fun s m => by rw [pr s m, List.count_append, List.count_eq_zero_of_not_mem fun q => n4 (pth_mem q)]; simp]
      simp
      omega
    · have cz : [z].count y = 0 := List.count_eq_zero_of_not_mem fun m => c (List.mem_singleton.mp m)
      rw [if_neg c, cz, sum_congr (g := fun s => (pth l s).count y) fun s m => by rw [pl s m, List.count_append, cz, Nat.add_zero], sum_congr (xs := r.nms) (g := fun s => (pth r s).count y) fun s m => by rw [pr s m, List.count_append, cz, Nat.add_zero], wt_count y n1, wt_count y n5]
      omega
def phiT : Tr N → Nat
  | .nil => 0
  | .nd _ l _ r => phiT l + phiT r + (l.nms.length + r.nms.length + 1).log2
theorem phi_sum : ∀ {T : Tr N}, T.nms.Nodup → (T.nms.map fun y => (wtT T y).log2).sum = phiT T
  | .nil, _ => rfl
  | .nd tw l z r, nd => by
    have nd : (l.nms ++ z :: r.nms).Nodup := nd
    obtain ⟨n1, n2, n3⟩ := List.nodup_append.mp nd
    obtain ⟨n4, n5⟩ := List.nodup_cons.mp n2
    have nl : z ∉ l.nms := fun m => n3 z m z List.mem_cons_self rfl
    show ((l.nms ++ z :: r.nms).map fun y => (wtT (.nd tw l z r) y).log2).sum = phiT l + phiT r + _
    have wz : wtT (.nd tw l z r) z = l.nms.length + r.nms.length + 1 := if_pos rfl
    have wo : ∀ y, y ≠ z → wtT (.nd tw l z r) y = wtT l y + wtT r y := fun y c => if_neg c
    rw [List.map_append, List.sum_append, List.map_cons, List.sum_cons, wz, sum_congr (g := fun y => (wtT l y).log2) fun y m => by rw [wo y fun (e : y = z) => nl (e ▸ m), wtT_out (T := r) fun q => n3 y m y (List.mem_cons_of_mem _ q) rfl, Nat.add_zero], sum_congr (xs := r.nms) (g := fun y => (wtT r y).log2) fun y m => by rw [wo y fun (e : y = z) => n4 (e ▸ m), wtT_out (T := l) fun q => n3 y q y (List.mem_cons_of_mem _ m) rfl, Nat.zero_add], phi_sum n1, phi_sum n5]
    omega
theorem lg_mono {a b : Nat} (h : a ≤ b) (ha : 0 < a) : a.log2 ≤ b.log2 := (Nat.le_log2 (by omega)).mpr (Nat.le_trans (Nat.log2_self_le (by omega)) h)
/-- two of like ranks make more -/
theorem lg_two {a b c k : Nat} (ha : 0 < a) (hb : 0 < b) (h : a + b ≤ c) (h1 : k ≤ a.log2) (h2 : k ≤ b.log2) : k + 1 ≤ c.log2 := by
  have e1 := (Nat.le_log2 (show a ≠ 0 by omega)).mp h1
  have e2 := (Nat.le_log2 (show b ≠ 0 by omega)).mp h2
  refine (Nat.le_log2 (by omega)).mpr ?_
  rw [Nat.pow_succ]
  omega
def phiC : Nat → Cz N → Nat
  | _, [] => 0
  | k, (_, _, s) :: c => phiT s + (k + s.nms.length + 1).log2 + phiC (k + s.nms.length + 1) c
theorem nd_len {tw : Bool} {l r : Tr N} {x : N} : (Tr.nd tw l x r).nms.length = l.nms.length + r.nms.length + 1 := by
  show (l.nms ++ x :: r.nms).length = _
  rw [List.length_append, List.length_cons]
  omega
theorem phi_plug : ∀ {c : Cz N} {t : Tr N}, phiT (plug t c) = phiT t + phiC t.nms.length c
  | [], t => rfl
  | (true, u, s) :: c, t => by
    show phiT (plug (.nd false t u s) c) = _
    rw [phi_plug, nd_len]
    show phiT t + phiT s + (t.nms.length + s.nms.length + 1).log2 + _ = phiT t + (phiT s + (t.nms.length + s.nms.length + 1).log2 + _)
    omega
  | (false, u, s) :: c, t => by
    show phiT (plug (.nd false s u t) c) = _
    have e : s.nms.length + t.nms.length + 1 = t.nms.length + s.nms.length + 1 := by omega
    rw [phi_plug, nd_len]
    show phiT s + phiT t + (s.nms.length + t.nms.length + 1).log2 + phiC (s.nms.length + t.nms.length + 1) c = phiT t + (phiT s + (t.nms.length + s.nms.length + 1).log2 + phiC (t.nms.length + s.nms.length + 1) c)
    rw [e]
    omega
theorem nf_len {l r : Tr N} {x : N} : (nf l x r).nms.length = l.nms.length + r.nms.length + 1 := nd_len
theorem nf_phi {l r : Tr N} {x : N} : phiT (nf l x r) = phiT l + phiT r + (l.nms.length + r.nms.length + 1).log2 := rfl
theorem plug_ge {t : Tr N} {c : Cz N} : t.nms.length ≤ (plug t c).nms.length := by
  have h := (plug_perm (c := c) (t := t)).length_eq
  rw [List.length_append] at h
  omega
/-- one double turn -/
theorem two_cost {n u1 v w n' : Nat} (hn : 0 < n) (h1 : n ≤ u1) (h2 : u1 ≤ n') (hv : 0 < v) (hw : 0 < w) (v1 : v ≤ n') (w1 : w ≤ n') (hs : n + v ≤ n' ∨ v + w ≤ n') : 1 + v.log2 + w.log2 + 3 * n.log2 ≤ 3 * n'.log2 + n.log2 + u1.log2 := by
  have a1 := lg_mono h1 hn
  have a2 := lg_mono h2 (by omega)
  have a3 := lg_mono v1 hv
  have a4 := lg_mono w1 hw
  by_cases c : n.log2 < n'.log2
  · omega
  · have e : n.log2 = n'.log2 := by omega
    rcases hs with hs | hs
    · have b : ¬ n'.log2 ≤ v.log2 := fun z => by
        have := lg_two hn hv hs (Nat.le_of_eq e.symm) z
        omega
      omega
    · have b : ¬ (n'.log2 ≤ v.log2 ∧ n'.log2 ≤ w.log2) := fun z => by
        have := lg_two hv hw hs z.1 z.2
        omega
      omega
theorem splay_cost : ∀ {c : Cz N} {A B : Tr N} {x : N}, (splayT A x B c).2.length + 2 * phiT (splayT A x B c).1 + 6 * (nf A x B).nms.length.log2 ≤ 6 * (plug (nf A x B) c).nms.length.log2 + 1 + 2 * phiT (plug (nf A x B) c)
  | [], A, B, x => by
    show 0 + 2 * phiT (nf A x B) + _ ≤ 6 * (nf A x B).nms.length.log2 + 1 + 2 * phiT (nf A x B)
    omega
  | [(true, u, s)], A, B, x => by
    show 1 + 2 * phiT (nf A x (nf B u s)) + 6 * (nf A x B).nms.length.log2 ≤ 6 * (nf (nf A x B) u s).nms.length.log2 + 1 + 2 * phiT (nf (nf A x B) u s)
    simp only [nf_phi, nf_len]
    have e : A.nms.length + (B.nms.length + s.nms.length + 1) + 1 = A.nms.length + B.nms.length + 1 + s.nms.length + 1 := by omega
    rw [e]
    have h1 := lg_mono (show B.nms.length + s.nms.length + 1 ≤ A.nms.length + B.nms.length + 1 + s.nms.length + 1 by omega) (by omega)
    have h2 := lg_mono (show A.nms.length + B.nms.length + 1 ≤ A.nms.length + B.nms.length + 1 + s.nms.length + 1 by omega) (by omega)
    omega
  | [(false, u, s)], A, B, x => by
    show 1 + 2 * phiT (nf (nf s u A) x B) + 6 * (nf A x B).nms.length.log2 ≤ 6 * (nf s u (nf A x B)).nms.length.log2 + 1 + 2 * phiT (nf s u (nf A x B))
    simp only [nf_phi, nf_len]
    have e : s.nms.length + A.nms.length + 1 + B.nms.length + 1 = s.nms.length + (A.nms.length + B.nms.length + 1) + 1 := by omega
    rw [e]
    have h1 := lg_mono (show s.nms.length + A.nms.length + 1 ≤ s.nms.length + (A.nms.length + B.nms.length + 1) + 1 by omega) (by omega)
    have h2 := lg_mono (show A.nms.length + B.nms.length + 1 ≤ s.nms.length + (A.nms.length + B.nms.length + 1) + 1 by omega) (by omega)
    omega
  | (true, u, s) :: (true, g, q) :: c, A, B, x => by
    have ih := splay_cost (c := c) (A := A) (B := nf B u (nf s g q)) (x := x)
    have el : (nf A x (nf B u (nf s g q))).nms.length = (nf (nf (nf A x B) u s) g q).nms.length := by simp only [nf_len]; omega
    have e1 : (plug (nf A x (nf B u (nf s g q))) c).nms.length = (plug (nf (nf (nf A x B) u s) g q) c).nms.length := by rw [plug_perm.length_eq, plug_perm.length_eq, List.length_append, List.length_append, el]
    rw [phi_plug, el, e1] at ih
    show (splayT A x (nf B u (nf s g q)) c).2.length + 1 + 1 + 2 * phiT (splayT A x (nf B u (nf s g q)) c).1 + _ ≤ 6 * (plug (nf (nf (nf A x B) u s) g q) c).nms.length.log2 + 1 + 2 * phiT (plug (nf (nf (nf A x B) u s) g q) c)
    rw [phi_plug]
    simp only [nf_phi, nf_len] at ih ⊢
    have k := two_cost (n := A.nms.length + B.nms.length + 1) (u1 := A.nms.length + B.nms.length + 1 + s.nms.length + 1) (v := s.nms.length + q.nms.length + 1) (w := B.nms.length + (s.nms.length + q.nms.length + 1) + 1) (n' := A.nms.length + B.nms.length + 1 + s.nms.length + 1 + q.nms.length + 1) (by omega) (by omega) (by omega) (by omega) (by omega) (by omega) (by omega) (.inl (by omega))
    have e2 : A.nms.length + (B.nms.length + (s.nms.length + q.nms.length + 1) + 1) + 1 = A.nms.length + B.nms.length + 1 + s.nms.length + 1 + q.nms.length + 1 := by omega
    rw [e2] at ih
    omega
  | (true, u, s) :: (false, g, q) :: c, A, B, x => by
    have ih := splay_cost (c := c) (A := nf q g A) (B := nf B u s) (x := x)
    have el : (nf (nf q g A) x (nf B u s)).nms.length = (nf q g (nf (nf A x B) u s)).nms.length := by simp only [nf_len]; omega
    have e1 : (plug (nf (nf q g A) x (nf B u s)) c).nms.length = (plug (nf q g (nf (nf A x B) u s)) c).nms.length := by rw [plug_perm.length_eq, plug_perm.length_eq, List.length_append, List.length_append, el]
    rw [phi_plug, el, e1] at ih
    show (splayT (nf q g A) x (nf B u s) c).2.length + 1 + 1 + 2 * phiT (splayT (nf q g A) x (nf B u s) c).1 + _ ≤ 6 * (plug (nf q g (nf (nf A x B) u s)) c).nms.length.log2 + 1 + 2 * phiT (plug (nf q g (nf (nf A x B) u s)) c)
    rw [phi_plug]
    simp only [nf_phi, nf_len] at ih ⊢
    have k := two_cost (n := A.nms.length + B.nms.length + 1) (u1 := A.nms.length + B.nms.length + 1 + s.nms.length + 1) (v := q.nms.length + A.nms.length + 1) (w := B.nms.length + s.nms.length + 1) (n' := q.nms.length + (A.nms.length + B.nms.length + 1 + s.nms.length + 1) + 1) (by omega) (by omega) (by omega) (by omega) (by omega) (by omega) (by omega) (.inr (by omega))
    have e2 : q.nms.length + A.nms.length + 1 + (B.nms.length + s.nms.length + 1) + 1 = q.nms.length + (A.nms.length + B.nms.length + 1 + s.nms.length + 1) + 1 := by omega
    rw [e2] at ih
    omega
  | (false, u, s) :: (true, g, q) :: c, A, B, x => by
    have ih := splay_cost (c := c) (A := nf s u A) (B := nf B g q) (x := x)
    have el : (nf (nf s u A) x (nf B g q)).nms.length = (nf (nf s u (nf A x B)) g q).nms.length := by simp only [nf_len]; omega
    have e1 : (plug (nf (nf s u A) x (nf B g q)) c).nms.length = (plug (nf (nf s u (nf A x B)) g q) c).nms.length := by rw [plug_perm.length_eq, plug_perm.length_eq, List.length_append, List.length_append, el]
    rw [phi_plug, el, e1] at ih
    show (splayT (nf s u A) x (nf B g q) c).2.length + 1 + 1 + 2 * phiT (splayT (nf s u A) x (nf B g q) c).1 + _ ≤ 6 * (plug (nf (nf s u (nf A x B)) g q) c).nms.length.log2 + 1 + 2 * phiT (plug (nf (nf s u (nf A x B)) g q) c)
    rw [phi_plug]
    simp only [nf_phi, nf_len] at ih ⊢
    have k := two_cost (n := A.nms.length + B.nms.length + 1) (u1 := s.nms.length + (A.nms.length + B.nms.length + 1) + 1) (v := s.nms.length + A.nms.length + 1) (w := B.nms.length + q.nms.length + 1) (n' := s.nms.length + (A.nms.length + B.nms.length + 1) + 1 + q.nms.length + 1) (by omega) (by omega) (by omega) (by omega) (by omega) (by omega) (by omega) (.inr (by omega))
    have e2 : s.nms.length + A.nms.length + 1 + (B.nms.length + q.nms.length + 1) + 1 = s.nms.length + (A.nms.length + B.nms.length + 1) + 1 + q.nms.length + 1 := by omega
    rw [e2] at ih
    omega
  | (false, u, s) :: (false, g, q) :: c, A, B, x => by
    have ih := splay_cost (c := c) (A := nf (nf q g s) u A) (B := B) (x := x)
    have el : (nf (nf (nf q g s) u A) x B).nms.length = (nf q g (nf s u (nf A x B))).nms.length := by simp only [nf_len]; omega
    have e1 : (plug (nf (nf (nf q g s) u A) x B) c).nms.length = (plug (nf q g (nf s u (nf A x B))) c).nms.length := by rw [plug_perm.length_eq, plug_perm.length_eq, List.length_append, List.length_append, el]
    rw [phi_plug, el, e1] at ih
    show (splayT (nf (nf q g s) u A) x B c).2.length + 1 + 1 + 2 * phiT (splayT (nf (nf q g s) u A) x B c).1 + _ ≤ 6 * (plug (nf q g (nf s u (nf A x B))) c).nms.length.log2 + 1 + 2 * phiT (plug (nf q g (nf s u (nf A x B))) c)
    rw [phi_plug]
    simp only [nf_phi, nf_len] at ih ⊢
    have k := two_cost (n := A.nms.length + B.nms.length + 1) (u1 := s.nms.length + (A.nms.length + B.nms.length + 1) + 1) (v := q.nms.length + s.nms.length + 1) (w := q.nms.length + s.nms.length + 1 + A.nms.length + 1) (n' := q.nms.length + (s.nms.length + (A.nms.length + B.nms.length + 1) + 1) + 1) (by omega) (by omega) (by omega) (by omega) (by omega) (by omega) (by omega) (.inl (by omega))
    have e2 : q.nms.length + s.nms.length + 1 + A.nms.length + 1 + B.nms.length + 1 = q.nms.length + (s.nms.length + (A.nms.length + B.nms.length + 1) + 1) + 1 := by omega
    rw [e2] at ih
    omega
theorem wtT_plug {A B : Tr N} {x : N} : ∀ {c : Cz N} {t : Tr N}, (plug t c).nms.Nodup → x ∈ t.nms → wtT (plug t c) x = wtT t x
  | [], t, _, _ => rfl
  | (true, u, s) :: c, t, nd, m => by
    obtain ⟨n1, n2, n3⟩ := nd_ctx nd
    obtain ⟨m1, m2, m3⟩ := n3 x m
    show wtT (plug (.nd false t u s) c) x = _
    rw [wtT_plug (A := A) (B := B) (t := .nd false t u s) nd (List.mem_append_left _ m)]
    show (if x = u then _ else wtT t x + wtT s x) = _
    rw [if_neg m1, wtT_out m2, Nat.add_zero]
  | (false, u, s) :: c, t, nd, m => by
    obtain ⟨n1, n2, n3⟩ := nd_ctx nd
    obtain ⟨m1, m2, m3⟩ := n3 x m
    show wtT (plug (.nd false s u t) c) x = _
    rw [wtT_plug (A := A) (B := B) (t := .nd false s u t) nd (List.mem_append_right _ (List.mem_cons_of_mem _ m))]
    show (if x = u then _ else wtT s x + wtT t x) = _
    rw [if_neg m1, wtT_out m2, Nat.zero_add]
theorem wtT_root {A B : Tr N} {x : N} {c : Cz N} (nd : (plug (nf A x B) c).nms.Nodup) : wtT (plug (nf A x B) c) x = (nf A x B).nms.length := by
  rw [wtT_plug (A := A) (B := B) nd (List.mem_append_right _ List.mem_cons_self), nf_len]
  exact if_pos rfl
theorem perm_sum {xs ys : List Nat} (h : xs.Perm ys) : xs.sum = ys.sum := by
  induction h with
  | nil => rfl
  | cons x _ ih => rw [List.sum_cons, List.sum_cons, ih]
  | swap x y l =>
    rw [List.sum_cons, List.sum_cons, List.sum_cons, List.sum_cons]
    omega
  | trans _ _ h1 h2 => exact h1.trans h2
/-- how often each name stands above one of some -/
def Lk.cw (S : Lk N) (k : Nat) (ss : List N) (y : N) : Nat := (ss.map fun s => ((S.ups k (some s)).getD []).count y).sum
theorem cw_tree {S : Lk N} {T : Tr N} (h : Rep S none T) (nd : T.nms.Nodup) {ss : List N} (pm : ss.Perm T.nms) {k : Nat} (hk : T.nms.length ≤ k) (y : N) : S.cw k ss y = wtT T y := by
  rw [← wt_count y nd]
  unfold Lk.cw
  rw [perm_sum (pm.map _)]
  refine sum_congr fun s m => ?_
  have e := pth_ups (k := 0) (xs := []) h m rfl
  rw [Lk.ups_le e (by omega), List.append_nil]
  rfl
theorem ups_tree {S : Lk N} {T : Tr N} (h : Rep S none T) {s : N} (m : s ∈ T.nms) {k : Nat} (hk : T.nms.length ≤ k) : S.ups k (some s) = some (pth T s) := by
  have e := pth_ups (k := 0) (xs := []) h m rfl
  rw [Lk.ups_le e (by omega), List.append_nil]
end

/-! ### links in the heap: dicts of names -/
def dN (ns : List Int) (f : Int → V) : List (Key × V) := ns.map fun x => (Sum.inl x, f x)
theorem dN_none {f : Int → V} {x : Int} : ∀ {ns : List Int}, x ∉ ns → valV (dN ns f) (Sum.inl x) = none
  | [], _ => rfl
  | y :: r, h => by
    have ne : ¬ (Sum.inl y : Key) = Sum.inl x := fun e => h (by rw [Sum.inl.inj e]; exact List.mem_cons_self)
    show valV ((Sum.inl y, f y) :: dN r f) (Sum.inl x) = none
    rw [valV_neg ne]
    exact dN_none fun z => h (List.mem_cons_of_mem _ z)
theorem dN_get {f : Int → V} {x : Int} : ∀ {ns : List Int}, x ∈ ns → valV (dN ns f) (Sum.inl x) = some (f x)
  | y :: r, h => by
    by_cases e : y = x
    · subst e
      exact valV_pos (p := (Sum.inl y, f y)) rfl
    · have ne : ¬ (Sum.inl y : Key) = Sum.inl x := fun z => e (Sum.inl.inj z)
      show valV ((Sum.inl y, f y) :: dN r f) (Sum.inl x) = _
      rw [valV_neg ne]
      exact dN_get ((List.mem_cons.mp h).resolve_left fun z => e z.symm)
theorem dN_congr {f g : Int → V} {ns : List Int} (h : ∀ x ∈ ns, f x = g x) : dN ns f = dN ns g := List.map_congr_left fun x m => by rw [h x m]
theorem dN_put {f : Int → V} {ns : List Int} {x : Int} {v : V} (m : x ∈ ns) : putK (dN ns f) (Sum.inl x) v = dN ns (up1 f x v) := by
  unfold putK
  rw [valV_any, dN_get m, if_pos (show (some (f x)).isSome = true from rfl)]
  unfold dN
  rw [List.map_map]
  refine List.map_congr_left fun y _ => ?_
  show (if (Sum.inl y : Key) = Sum.inl x then ((Sum.inl y : Key), v) else (Sum.inl y, f y)) = (Sum.inl y, up1 f x v y)
  by_cases e : y = x
  · subst e
    rw [if_pos rfl, up1_same]
  · rw [if_neg fun z => e (Sum.inl.inj z), up1_ne e]
theorem dN_new {f : Int → V} {ns : List Int} {x : Int} {v : V} (m : x ∉ ns) : putK (dN ns f) (Sum.inl x) v = dN (ns ++ [x]) (up1 f x v) := by
  unfold putK
  rw [valV_any, dN_none m, if_neg (by decide)]
  unfold dN
  rw [List.map_append]
  congr 1
  · exact List.map_congr_left fun y my => by rw [up1_ne fun (e : y = x) => m (e ▸ my)]
  · show [((Sum.inl x : Key), v)] = [((Sum.inl x : Key), up1 f x v x)]
    rw [up1_same]
theorem dN_len {f : Int → V} {ns : List Int} : (dN ns f).length = ns.length := List.length_map ..
def onV : Option Int → V
  | none => .non
  | some i => .int i
theorem up1_on (f : Int → Option Int) (x : Int) (y : Option Int) : up1 (fun z => onV (f z)) x (onV y) = fun z => onV (up1 f x y z) := by
  funext z
  unfold up1
  split <;> rfl
theorem up1_bl (f : Int → Bool) (x : Int) (y : Bool) : up1 (fun z => V.bl (f z)) x (.bl y) = fun z => V.bl (up1 f x y z) := by
  funext z
  unfold up1
  split <;> rfl
theorem onV_inj {x y : Option Int} (h : onV x = onV y) : x = y := by
  cases x <;> cases y <;> first | rfl | (cases h; rfl) | exact nomatch h
theorem onV_eq {x y : Option Int} : decide (onV x = onV y) = decide (x = y) := by
  by_cases e : x = y
  · rw [e, decide_eq_true rfl, decide_eq_true rfl]
  · rw [decide_eq_false e, decide_eq_false fun z => e (onV_inj z)]
theorem onV_int {x : Option Int} {i : Int} : decide (onV x = .int i) = decide (x = some i) := onV_eq (y := some i)
theorem onV_non {x : Option Int} : decide (onV x = .non) = decide (x = none) := onV_eq (y := none)
theorem onV_scal {x y : Option Int} : scal (onV x) (onV y) = true := by cases x <;> cases y <;> rfl
theorem onV_flat {x : Option Int} : flatV (onV x) = true := by cases x <;> rfl
/-! ### fields -/
theorem putF_putF (f : Str) (u v : V) : ∀ fs : List (Str × V), putF f v (putF f u fs) = putF f v fs
  | [] => by
    show (if f = f then [(f, v)] else _) = [(f, v)]
    rw [if_pos rfl]
  | (g, x) :: r => by
    by_cases e : g = f
    · subst e
      show putF g v (if g = g then (g, u) :: r else (g, x) :: putF g u r) = if g = g then (g, v) :: r else (g, x) :: putF g v r
      rw [if_pos rfl, if_pos rfl]
      show (if g = g then (g, v) :: r else _) = _
      rw [if_pos rfl]
    · show putF f v (if g = f then (g, u) :: r else (g, x) :: putF f u r) = if g = f then (g, v) :: r else (g, x) :: putF f v r
      rw [if_neg e, if_neg e]
      show (if g = f then _ else (g, x) :: putF f v (putF f u r)) = _
      rw [if_neg e, putF_putF f u v r]
theorem putF_len (f : Str) (v : V) : ∀ fs : List (Str × V), (putF f v fs).length ≤ fs.length + 1
  | [] => Nat.le_refl _
  | (g, x) :: r => by
    have ih := putF_len f v r
    show (if g = f then (g, v) :: r else (g, x) :: putF f v r).length ≤ r.length + 1 + 1
    split
    · rw [List.length_cons]
      omega
    · rw [List.length_cons]
      omega
theorem lnE (f g : Str) (h : decide (f = g) = false) : ¬ f = g := fun e => by
  rw [decide_eq_true e] at h
  exact nomatch h

end My
namespace My
open PySem L2
/-! ### strands: names linked, none above itself -/
structure Wf (S : Lk Int) : Prop where
  cl : Cl S
  dl : ∀ x ∈ S.ns, ∀ y, S.l x = some y → S.a y = some x
  dr : ∀ x ∈ S.ns, ∀ y, S.r x = some y → S.a y = some x
  lr : ∀ x ∈ S.ns, ∀ y, S.l x = some y → S.r x ≠ some y
  rk : ∃ d : Int → Int, ∀ x ∈ S.ns, ∀ u, S.a x = some u → d u < d x
theorem top_not {S : Lk Int} {x : Int} (h : S.isTop x = false) : ∃ u, S.a x = some u ∧ (S.l u = some x ∨ S.r u = some x) := by
  unfold Lk.isTop at h
  cases e : S.a x with
  | none =>
    rw [e] at h
    exact nomatch h
  | some u =>
    rw [e] at h
    refine ⟨u, rfl, ?_⟩
    have h : (!(decide (S.l u = some x) || decide (S.r u = some x))) = false := h
    rw [Bool.not_eq_false'] at h
    rcases Bool.or_eq_true_iff.mp h with h | h
    · exact .inl (of_decide_eq_true h)
    · exact .inr (of_decide_eq_true h)
theorem top_is {S : Lk Int} {x u : Int} (h : S.isTop x = true) (e : S.a x = some u) : S.l u ≠ some x ∧ S.r u ≠ some x := by
  unfold Lk.isTop at h
  rw [e] at h
  have h : (!(decide (S.l u = some x) || decide (S.r u = some x))) = true := h
  simpa using h
theorem Wf.tidy {S : Lk Int} (h : Wf S) {x u : Int} (m : x ∈ S.ns) (nt : S.isTop x = false) (e : S.a x = some u) : Tidy S x u := by
  obtain ⟨u', e', one⟩ := top_not nt
  rw [e] at e'
  cases e'
  have mu := (h.cl x m).2.2 u e
  obtain ⟨d, hd⟩ := h.rk
  have d1 := hd x m u e
  refine ⟨e, one, fun z => h.lr u mu x z.1 z.2, fun g eg => ?_, fun z => ?_, fun z => ?_, fun z => ?_⟩
  · have mg := (h.cl u mu).2.2 g eg
    have d2 := hd u mu g eg
    exact ⟨fun z => by rw [z] at d2; omega, fun z => by rw [z] at d2; omega, fun z => h.lr g mg u z.1 z.2⟩
  · have := hd u mu x (h.dl x m u z)
    omega
  · have := hd u mu x (h.dr x m u z)
    omega
  · rw [z] at d1
    omega
theorem turnW {ns : List Int} {l r a l' r' a' : Int → Option Int} {x u : Int} {d : Int → Int} (mx : x ∈ ns) (mu : u ∈ ns)
    (dl : ∀ y ∈ ns, ∀ z, l y = some z → a z = some y) (dr : ∀ y ∈ ns, ∀ z, r y = some z → a z = some y) (lr : ∀ y ∈ ns, ∀ z, l y = some z → r y ≠ some z)
    (inl : ∀ y ∈ ns, ∀ z, l y = some z → z ∈ ns) (inr : ∀ y ∈ ns, ∀ z, r y = some z → z ∈ ns)
    (rk : ∀ y ∈ ns, ∀ z, a y = some z → d z < d y) (ax : a x = some u) (lu : l u = some x)
    (hl : ∀ y, l' y = if y = u then r x else if a u = some y ∧ l y = some u then some x else l y)
    (hr : ∀ y, r' y = if y = x then some u else if a u = some y ∧ r y = some u then some x else r y)
    (ha : ∀ y, a' y = if y = x then a u else if y = u then some x else if r x = some y then some u else a y) :
    (∀ y ∈ ns, ∀ z, l' y = some z → a' z = some y) ∧ (∀ y ∈ ns, ∀ z, r' y = some z → a' z = some y) ∧ (∀ y ∈ ns, ∀ z, l' y = some z → r' y ≠ some z) ∧
      ∀ y ∈ ns, ∀ z, a' y = some z → (if z = x then 2 * d u - 1 else 2 * d z) < (if y = x then 2 * d u - 1 else 2 * d y) := by
  have f1 := rk x mx u ax
  have xu : x ≠ u := fun z => by rw [z] at f1; omega
  have f2 : ∀ g, a u = some g → d g < d u ∧ g ≠ u ∧ g ≠ x := fun g e => by
    have := rk u mu g e
    exact ⟨this, fun z => by rw [z] at this; omega, fun z => by rw [z] at this; omega⟩
  have f3 : ∀ i, r x = some i → a i = some x ∧ d x < d i ∧ i ≠ x ∧ i ≠ u := fun i e => by
    have h1 := dr x mx i e
    have h2 := rk i (inr x mx i e) x h1
    exact ⟨h1, h2, fun z => by rw [z] at h2; omega, fun z => by rw [z] at h2; omega⟩
  have aX : a' x = a u := by rw [ha, if_pos rfl]
  have aU : a' u = some x := by rw [ha, if_neg (Ne.symm xu), if_pos rfl]
  have aO : ∀ {z}, z ≠ x → z ≠ u → r x ≠ some z → a' z = a z := fun {z} h1 h2 h3 => by rw [ha, if_neg h1, if_neg h2, if_neg h3]
  refine ⟨fun y my z e => ?_, fun y my z e => ?_, fun y my z e e2 => ?_, fun y my z e => ?_⟩
  · rw [hl] at e
    split at e
    · rename_i c
      obtain ⟨g1, g2, g3, g4⟩ := f3 z e
      rw [ha, if_neg g3, if_neg g4, if_pos e, c]
    · rename_i c
      split at e
      · rename_i c2
        rw [← Option.some.inj e, aX]
        exact c2.1
      · rename_i c2
        have az := dl y my z e
        rw [aO (fun zx => ?_) (fun zu => ?_) (fun zi => ?_)]
        · exact az
        · rw [zx, ax] at az
          exact c (Option.some.inj az).symm
        · rw [zu] at az e
          exact c2 ⟨az, e⟩
        · have g1 := (f3 z zi).1
          rw [g1] at az
          cases az
          exact lr x mx z e zi
  · rw [hr] at e
    split at e
    · rename_i c
      rw [← Option.some.inj e, aU, c]
    · rename_i c
      split at e
      · rename_i c2
        rw [← Option.some.inj e, aX]
        exact c2.1
      · rename_i c2
        have az := dr y my z e
        rw [aO (fun zx => ?_) (fun zu => ?_) (fun zi => ?_)]
        · exact az
        · rw [zx, ax] at az
          cases az
          rw [zx] at e
          exact lr u mu x lu e
        · rw [zu] at az e
          exact c2 ⟨az, e⟩
        · have g1 := (f3 z zi).1
          rw [g1] at az
          cases az
          exact c rfl
  · rw [hl] at e
    rw [hr] at e2
    split at e
    · rename_i c
      have g1 := (f3 z e).1
      rw [if_neg (fun h => xu (h.symm.trans c))] at e2
      split at e2
      · rename_i c2
        exact (f2 y c2.1).2.1 c
      · have az := dr y my z e2
        rw [g1] at az
        exact xu ((Option.some.inj az).trans c)
    · rename_i c
      split at e
      · rename_i c2
        have zx := (Option.some.inj e).symm
        subst zx
        rw [if_neg (f2 y c2.1).2.2] at e2
        split at e2
        · rename_i c3
          exact lr y my u c2.2 c3.2
        · have az := dr y my z e2
          rw [ax] at az
          exact c (Option.some.inj az).symm
      · rename_i c2
        split at e2
        · rename_i c3
          have zu := (Option.some.inj e2).symm
          subst zu
          rw [c3] at e
          have az := dl x mx z e
          have := rk z mu x az
          omega
        · split at e2
          · rename_i c4 c3
            have zx := (Option.some.inj e2).symm
            subst zx
            have az := dl y my z e
            rw [ax] at az
            exact c (Option.some.inj az).symm
          · exact lr y my z e e2
  · rw [ha] at e
    split at e
    · rename_i c
      obtain ⟨g1, g2, g3⟩ := f2 z e
      rw [if_neg g3, if_pos c]
      omega
    · rename_i c
      rw [if_neg c]
      split at e
      · rename_i c2
        rw [if_pos (Option.some.inj e).symm, c2]
        omega
      · split at e
        · rename_i c3
          have g := f3 y c3
          have zu := (Option.some.inj e).symm
          rw [zu, if_neg (Ne.symm xu)]
          omega
        · have g := rk y my z e
          split
          · rename_i c5
            rw [c5] at g
            omega
          · omega
theorem turn_at {S : Lk Int} {x u : Int} (t : Tidy S x u) (hi : S.l x ≠ some x ∧ S.r x ≠ some x) :
    (S.r u ≠ some x → (∀ y, (S.turn x).l y = if y = u then S.r x else if S.a u = some y ∧ S.l y = some u then some x else S.l y) ∧ (∀ y, (S.turn x).r y = if y = x then some u else if S.a u = some y ∧ S.r y = some u then some x else S.r y) ∧ ∀ y, (S.turn x).a y = if y = x then S.a u else if y = u then some x else if S.r x = some y then some u else S.a y) ∧
    (S.r u = some x → (∀ y, (S.turn x).r y = if y = u then S.l x else if S.a u = some y ∧ S.r y = some u then some x else S.r y) ∧ (∀ y, (S.turn x).l y = if y = x then some u else if S.a u = some y ∧ S.l y = some u then some x else S.l y) ∧ ∀ y, (S.turn x).a y = if y = x then S.a u else if y = u then some x else if S.l x = some y then some u else S.a y) := by
  obtain ⟨h1, h2, h3, _⟩ := lturn_eq t
  have xu := t.ne
  have L0 : ∀ y, (S.plc x u).l y = if S.a u = some y ∧ S.l y = some u then some x else S.l y := fun y => by
    unfold Lk.plc
    dsimp only
    cases e : S.a u with
    | none => rw [if_neg fun h => nomatch h.1]
    | some g =>
      dsimp only
      have tg := (t.up g e).2.2
      by_cases c1 : S.r g = some u
      · rw [if_pos c1, if_neg fun h => tg ⟨by rw [Option.some.inj h.1]; exact h.2, c1⟩]
      · rw [if_neg c1]
        by_cases c2 : S.l g = some u
        · rw [if_pos c2]
          by_cases c3 : y = g
          · rw [c3, up1_same, if_pos ⟨rfl, c2⟩]
          · rw [up1_ne c3, if_neg fun h => c3 (Option.some.inj h.1).symm]
        · rw [if_neg c2, if_neg fun h => c2 (by rw [Option.some.inj h.1]; exact h.2)]
  have R0 : ∀ y, (S.plc x u).r y = if S.a u = some y ∧ S.r y = some u then some x else S.r y := fun y => by
    unfold Lk.plc
    dsimp only
    cases e : S.a u with
    | none => rw [if_neg fun h => nomatch h.1]
    | some g =>
      dsimp only
      by_cases c2 : S.r g = some u
      · rw [if_pos c2]
        by_cases c3 : y = g
        · rw [c3, up1_same, if_pos ⟨rfl, c2⟩]
        · rw [up1_ne c3, if_neg fun h => c3 (Option.some.inj h.1).symm]
      · rw [if_neg c2, if_neg fun h => c2 (by rw [Option.some.inj h.1]; exact h.2)]
  have A0 : ∀ (i : Option Int), i ≠ some u → i ≠ some x → ∀ y, upO (up1 (up1 S.a x (S.a u)) u (some x)) i (some u) y = if y = x then S.a u else if y = u then some x else if i = some y then some u else S.a y := fun i iu ix y => by
    by_cases c1 : y = x
    · rw [if_pos c1, c1, upO_ne (Ne.symm ix), up1_ne xu, up1_same]
    · rw [if_neg c1]
      by_cases c2 : y = u
      · rw [if_pos c2, c2, upO_ne (Ne.symm iu), up1_same]
      · rw [if_neg c2]
        by_cases c3 : i = some y
        · rw [if_pos c3, c3, upO_same]
        · rw [if_neg c3, upO_ne (Ne.symm c3), up1_ne c2, up1_ne c1]
  unfold Lk.lturn at h1 h2 h3
  rw [t.ax] at h1 h2 h3
  dsimp only at h1 h2 h3
  refine ⟨fun c => ?_, fun c => ?_⟩
  · rw [decide_eq_false c] at h1 h2 h3
    refine ⟨fun y => ?_, fun y => ?_, fun y => ?_⟩
    · rw [← h1]
      show up1 _ u (S.r x) y = _
      by_cases e : y = u
      · rw [e, up1_same, if_pos rfl]
      · rw [up1_ne e, if_neg e]
        exact L0 y
    · rw [← h2]
      show up1 _ x (some u) y = _
      by_cases e : y = x
      · rw [e, up1_same, if_pos rfl]
      · rw [up1_ne e, if_neg e]
        exact R0 y
    · rw [← h3]
      exact A0 _ t.rx hi.2 y
  · rw [decide_eq_true c] at h1 h2 h3
    refine ⟨fun y => ?_, fun y => ?_, fun y => ?_⟩
    · rw [← h2]
      show up1 _ u (S.l x) y = _
      by_cases e : y = u
      · rw [e, up1_same, if_pos rfl]
      · rw [up1_ne e, if_neg e]
        exact R0 y
    · rw [← h1]
      show up1 _ x (some u) y = _
      by_cases e : y = x
      · rw [e, up1_same, if_pos rfl]
      · rw [up1_ne e, if_neg e]
        exact L0 y
    · rw [← h3]
      exact A0 _ t.lx hi.1 y
theorem Wf.turn {S : Lk Int} (h : Wf S) {x u : Int} (m : x ∈ S.ns) (nt : S.isTop x = false) (e : S.a x = some u) : Wf (S.turn x) := by
  have t := h.tidy m nt e
  obtain ⟨_, _, _, _, en, _⟩ := lturn_eq t
  have mu := (h.cl x m).2.2 u e
  obtain ⟨d, hd⟩ := h.rk
  have inl : ∀ y ∈ S.ns, ∀ z, S.l y = some z → z ∈ S.ns := fun y my => (h.cl y my).1
  have inr : ∀ y ∈ S.ns, ∀ z, S.r y = some z → z ∈ S.ns := fun y my => (h.cl y my).2.1
  have hi : S.l x ≠ some x ∧ S.r x ≠ some x := ⟨fun z => by have := hd x m x (h.dl x m x z); omega, fun z => by have := hd x m x (h.dr x m x z); omega⟩
  have rl : ∀ y ∈ S.ns, ∀ z, S.r y = some z → S.l y ≠ some z := fun y my z e1 e2 => h.lr y my z e2 e1
  obtain ⟨tA, tB⟩ := turn_at t hi
  by_cases c : S.r u = some x
  · obtain ⟨g1, g2, g3⟩ := tB c
    obtain ⟨k1, k2, k3, k4⟩ := turnW m mu h.dr h.dl rl inr inl hd e c g1 g2 g3
    exact ⟨(cl_turn h.cl m e).1, by rw [en]; exact k2, by rw [en]; exact k1, by rw [en]; exact fun y my z e1 e2 => k3 y my z e2 e1, _, by rw [en]; exact k4⟩
  · obtain ⟨g1, g2, g3⟩ := tA c
    obtain ⟨k1, k2, k3, k4⟩ := turnW m mu h.dl h.dr h.lr inl inr hd e (t.one.resolve_right c) g1 g2 g3
    exact ⟨(cl_turn h.cl m e).1, by rw [en]; exact k1, by rw [en]; exact k2, by rw [en]; exact k3, _, by rw [en]; exact k4⟩
def Lk.letGo (S : Lk Int) (x : Int) : Lk Int := { S with lk := S.lk + 1, r := up1 S.r x none }
def Lk.hang (S : Lk Int) (x : Int) : Lk Int := match S.a x with | none => S | some u => { S with r := up1 S.r u (some x) }
theorem Wf.letGo {S : Lk Int} (h : Wf S) {x : Int} : Wf (S.letGo x) := by
  have rr : ∀ y z, (S.letGo x).r y = some z → S.r y = some z := fun y z e => by
    have e : up1 S.r x none y = some z := e
    by_cases c : y = x
    · rw [c, up1_same] at e
      exact nomatch e
    · rw [up1_ne c] at e
      exact e
  exact ⟨fun y my => ⟨(h.cl y my).1, fun z e => (h.cl y my).2.1 z (rr y z e), (h.cl y my).2.2⟩, h.dl, fun y my z e => h.dr y my z (rr y z e), fun y my z e e2 => h.lr y my z e (rr y z e2), h.rk⟩
theorem Wf.hang {S : Lk Int} (h : Wf S) {x u : Int} (m : x ∈ S.ns) (e : S.a x = some u) (tp : S.isTop x = true) : Wf (S.hang x) := by
  have es : S.hang x = { S with r := up1 S.r u (some x) } := by
    unfold Lk.hang
    rw [e]
  rw [es]
  have rr : ∀ y z, up1 S.r u (some x) y = some z → (y = u ∧ z = x) ∨ S.r y = some z := fun y z e => by
    by_cases c : y = u
    · rw [c, up1_same] at e
      exact .inl ⟨c, (Option.some.inj e).symm⟩
    · rw [up1_ne c] at e
      exact .inr e
  refine ⟨fun y my => ⟨(h.cl y my).1, fun z e2 => ?_, (h.cl y my).2.2⟩, h.dl, fun y my z e2 => ?_, fun y my z e1 e2 => ?_, h.rk⟩
  · rcases rr y z e2 with ⟨_, rfl⟩ | e3
    · exact m
    · exact (h.cl y my).2.1 z e3
  · rcases rr y z e2 with ⟨rfl, rfl⟩ | e3
    · exact e
    · exact h.dr y my z e3
  · rcases rr y z e2 with ⟨rfl, rfl⟩ | e3
    · exact (top_is tp e).1 e1
    · exact h.lr y my z e1 e3
/-! ### steps -/
def canS (S : Lk Int) (w : Str) (x : Int) : Bool := if w = "turn" then !S.isTop x else if w = "let" then S.isTop x else match S.a x with | none => false | some u => S.isTop x && (S.isTop u && decide (S.r u = none))
def doS (S : Lk Int) (w : Str) (x : Int) : Lk Int := if w = "turn" then S.turn x else if w = "let" then S.letGo x else S.hang x
def runS : Lk Int → List (Str × Int) → Option (Lk Int)
  | S, [] => some S
  | S, (w, x) :: r => if canS S w x then runS (doS S w x) r else none
theorem runS_snoc {w : Str} {x : Int} : ∀ {xs : List (Str × Int)} {S S' : Lk Int}, runS S xs = some S' → runS S (xs ++ [(w, x)]) = if canS S' w x then some (doS S' w x) else none
  | [], S, S', e => by
    cases e
    show (if canS S w x then runS (doS S w x) [] else none) = _
    rfl
  | (v, y) :: r, S, S', e => by
    have e : (if canS S v y then runS (doS S v y) r else none) = some S' := e
    show (if canS S v y then runS (doS S v y) (r ++ [(w, x)]) else none) = _
    split at e
    · rename_i c
      rw [if_pos c]
      exact runS_snoc e
    · exact nomatch e
theorem do_ok {S : Lk Int} (h : Wf S) {w : Str} {x : Int} (m : x ∈ S.ns) (c : canS S w x = true) : Wf (doS S w x) ∧ (doS S w x).ns = S.ns ∧ (doS S w x).t = S.t := by
  unfold canS at c
  unfold doS
  split at c
  · rename_i c1
    rw [if_pos c1]
    have nt : S.isTop x = false := by simpa using c
    obtain ⟨u, e, _⟩ := top_not nt
    obtain ⟨_, _, _, h4, h5, _⟩ := lturn_eq (h.tidy m nt e)
    exact ⟨h.turn m nt e, h5, h4⟩
  · rename_i c1
    rw [if_neg c1]
    split at c
    · rename_i c2
      rw [if_pos c2]
      exact ⟨h.letGo, rfl, rfl⟩
    · rename_i c2
      rw [if_neg c2]
      cases e : S.a x with
      | none =>
        rw [e] at c
        exact nomatch c
      | some u =>
        rw [e] at c
        have c : (S.isTop x && (S.isTop u && decide (S.r u = none))) = true := c
        rw [Bool.and_eq_true] at c
        refine ⟨h.hang m e c.1, ?_, ?_⟩
        · unfold Lk.hang
          rw [e]
        · unfold Lk.hang
          rw [e]

end My
namespace My
open PySem L2

/-! ### the text by places -/
def topS (i : Nat) : Stmt := PySem.Challenge.pw_tiedcut_k38_ties_of_drawn_shapes.main.body.getD i (.Pass ⟨0, 0, 0, 0⟩)
abbrev s_tieof : Stmt := topS 2
abbrev s_linksof : Stmt := topS 5
abbrev s_tiesofshape : Stmt := topS 7
abbrev s_untwisted : Stmt := topS 8
abbrev s_Lpot : Stmt := topS 10
abbrev s_Ltake : Stmt := topS 11
abbrev s_Lseed : Stmt := topS 12
abbrev s_Lorder : Stmt := topS 13
abbrev s_Ltop : Stmt := topS 14
abbrev s_Lties : Stmt := topS 15
abbrev s_Ltree : Stmt := topS 16
abbrev s_Lforms : Stmt := topS 17
abbrev s_Ltwisted : Stmt := topS 18
abbrev s_law : Stmt := topS 19
theorem sc_tieof : FnScope ["a", "b"] ["a", "b"] (defScope s_tieof) := ⟨rfl, rfl, rfl, by decide +kernel, rfl, by decide +kernel, by decide +kernel⟩
theorem sc_linksof : FnScope ["shape", "links"] ["shape"] (defScope s_linksof) := ⟨rfl, rfl, rfl, by decide +kernel, rfl, by decide +kernel, by decide +kernel⟩
theorem sc_tiesofshape : FnScope ["shape", "links", "ties", "top", "names", "x", "y"] ["shape"] (defScope s_tiesofshape) := ⟨rfl, rfl, rfl, by decide +kernel, rfl, by decide +kernel, by decide +kernel⟩
theorem sc_untwisted : FnScope ["shape", "links", "top"] ["shape"] (defScope s_untwisted) := ⟨rfl, rfl, rfl, by decide +kernel, rfl, by decide +kernel, by decide +kernel⟩
theorem sc_Lpot : FnScope ["_law_cell", "_law_seed_here", "_law_number"] ["_law_cell", "_law_seed_here"] (defScope s_Lpot) := ⟨rfl, rfl, rfl, by decide +kernel, rfl, by decide +kernel, by decide +kernel⟩
theorem sc_Ltake : FnScope ["_law_pot_here", "_law_many", "_law_value", "_law_twice"] ["_law_pot_here", "_law_many"] (defScope s_Ltake) := ⟨rfl, rfl, rfl, by decide +kernel, rfl, by decide +kernel, by decide +kernel⟩
theorem sc_Lseed : FnScope ["_law_script", "_law_seed_here", "_law_cell"] ["_law_script"] (defScope s_Lseed) := ⟨rfl, rfl, rfl, by decide +kernel, rfl, by decide +kernel, by decide +kernel⟩
theorem sc_Lorder : FnScope ["_law_forms_here", "_law_top_here", "_law_found", "_law_here", "_law_waiting"] ["_law_forms_here", "_law_top_here"] (defScope s_Lorder) := ⟨rfl, rfl, rfl, by decide +kernel, rfl, by decide +kernel, by decide +kernel⟩
theorem sc_Ltop : FnScope ["_law_forms_here", "_law_x"] ["_law_forms_here", "_law_x"] (defScope s_Ltop) := ⟨rfl, rfl, rfl, by decide +kernel, rfl, by decide +kernel, by decide +kernel⟩
theorem sc_Lties : FnScope ["_law_forms_here", "_law_ties_here", "_law_x", "_law_order_here", "_law_pairs", "_law_pair"] ["_law_forms_here"] (defScope s_Lties) := ⟨rfl, rfl, rfl, by decide +kernel, rfl, by decide +kernel, by decide +kernel⟩
theorem sc_Ltree : FnScope ["_law_pot_here", "_law_forms_here", "_law_names", "_law_at", "_law_top_here", "_law_one"] ["_law_pot_here", "_law_forms_here", "_law_names"] (defScope s_Ltree) := ⟨rfl, rfl, rfl, by decide +kernel, rfl, by decide +kernel, by decide +kernel⟩
theorem sc_Lforms : FnScope ["_law_pot_here", "_law_most", "_law_many", "_law_names", "_law_k", "_law_at", "_law_forms_here", "_law_size", "_law_top_here"] ["_law_pot_here", "_law_most"] (defScope s_Lforms) := ⟨rfl, rfl, rfl, by decide +kernel, rfl, by decide +kernel, by decide +kernel⟩
theorem sc_Ltwisted : FnScope ["_law_pot_here", "_law_forms_here", "_law_found", "_law_marks", "_law_name", "_law_here", "_law_odd", "_law_left", "_law_right", "_law_above"] ["_law_pot_here", "_law_forms_here"] (defScope s_Ltwisted) := ⟨rfl, rfl, rfl, by decide +kernel, rfl, by decide +kernel, by decide +kernel⟩
theorem sc_law : FnScope ["_law_script", "_law_seed_here", "_law_cells", "_law_k", "_law_cell", "_law_pot_here", "_law_forms_here", "_law_plain", "_law_name", "_law_due", "_law_shape", "_law_told", "_law_row"] ["_law_script"] (defScope s_law) := ⟨rfl, rfl, rfl, by decide +kernel, rfl, by decide +kernel, by decide +kernel⟩
abbrev s_Linksinit : Stmt := inClass (topS 4) 0
theorem sc_Linksinit : FnScope ["self"] ["self"] (defScope s_Linksinit) := ⟨rfl, rfl, rfl, by decide +kernel, rfl, by decide +kernel, by decide +kernel⟩
abbrev s_Linkstakerows : Stmt := inClass (topS 4) 1
theorem sc_Linkstakerows : FnScope ["self", "shape", "name", "left", "right", "above", "turned"] ["self", "shape"] (defScope s_Linkstakerows) := ⟨rfl, rfl, rfl, by decide +kernel, rfl, by decide +kernel, by decide +kernel⟩
abbrev s_Linksshape : Stmt := inClass (topS 4) 2
theorem sc_Linksshape : FnScope ["self", "names", "x"] ["self"] (defScope s_Linksshape) := ⟨rfl, rfl, rfl, by decide +kernel, rfl, by decide +kernel, by decide +kernel⟩
abbrev s_Linksbelow : Stmt := inClass (topS 4) 6
theorem sc_Linksbelow : FnScope ["self", "x", "y"] ["self", "x"] (defScope s_Linksbelow) := ⟨rfl, rfl, rfl, by decide +kernel, rfl, by decide +kernel, by decide +kernel⟩
abbrev s_Linksistop : Stmt := inClass (topS 4) 7
theorem sc_Linksistop : FnScope ["self", "x", "u"] ["self", "x"] (defScope s_Linksistop) := ⟨rfl, rfl, rfl, by decide +kernel, rfl, by decide +kernel, by decide +kernel⟩
abbrev s_Linkstops : Stmt := inClass (topS 4) 8
theorem sc_Linkstops : FnScope ["self", "x"] ["self"] (defScope s_Linkstops) := ⟨rfl, rfl, rfl, by decide +kernel, rfl, by decide +kernel, by decide +kernel⟩
abbrev s_Linkspush : Stmt := inClass (topS 4) 10
theorem sc_Linkspush : FnScope ["self", "x", "y"] ["self", "x"] (defScope s_Linkspush) := ⟨rfl, rfl, rfl, by decide +kernel, rfl, by decide +kernel, by decide +kernel⟩
abbrev s_Linksinorder : Stmt := inClass (topS 4) 20
theorem sc_Linksinorder : FnScope ["self", "top", "names", "waiting", "x"] ["self", "top"] (defScope s_Linksinorder) := ⟨rfl, rfl, rfl, by decide +kernel, rfl, by decide +kernel, by decide +kernel⟩
/-- what the top has left -/
structure Top (K : PySem.W.Frag) (mg : Str → Option Value) where
  a_tieof : Addr
  d_tieof : FuncData
  F_tieof : Fun K "tie_of" "tie_of" s_tieof a_tieof d_tieof
  b_tieof : Binds K d_tieof ["a", "b"] []
  g_tieof : mg "tie_of" = some (.ref a_tieof)
  a_linksof : Addr
  d_linksof : FuncData
  F_linksof : Fun K "links_of" "links_of" s_linksof a_linksof d_linksof
  b_linksof : Binds K d_linksof ["shape"] []
  g_linksof : mg "links_of" = some (.ref a_linksof)
  a_tiesofshape : Addr
  d_tiesofshape : FuncData
  F_tiesofshape : Fun K "ties_of_shape" "ties_of_shape" s_tiesofshape a_tiesofshape d_tiesofshape
  b_tiesofshape : Binds K d_tiesofshape ["shape"] []
  g_tiesofshape : mg "ties_of_shape" = some (.ref a_tiesofshape)
  a_untwisted : Addr
  d_untwisted : FuncData
  F_untwisted : Fun K "untwisted" "untwisted" s_untwisted a_untwisted d_untwisted
  b_untwisted : Binds K d_untwisted ["shape"] []
  g_untwisted : mg "untwisted" = some (.ref a_untwisted)
  a_Lpot : Addr
  d_Lpot : FuncData
  F_Lpot : Fun K "_law_pot" "_law_pot" s_Lpot a_Lpot d_Lpot
  b_Lpot : Binds K d_Lpot ["_law_cell", "_law_seed_here"] []
  g_Lpot : mg "_law_pot" = some (.ref a_Lpot)
  a_Ltake : Addr
  d_Ltake : FuncData
  F_Ltake : Fun K "_law_take" "_law_take" s_Ltake a_Ltake d_Ltake
  b_Ltake : Binds K d_Ltake ["_law_pot_here", "_law_many"] []
  g_Ltake : mg "_law_take" = some (.ref a_Ltake)
  a_Lseed : Addr
  d_Lseed : FuncData
  F_Lseed : Fun K "_law_seed" "_law_seed" s_Lseed a_Lseed d_Lseed
  b_Lseed : Binds K d_Lseed ["_law_script"] []
  g_Lseed : mg "_law_seed" = some (.ref a_Lseed)
  a_Lorder : Addr
  d_Lorder : FuncData
  F_Lorder : Fun K "_law_order" "_law_order" s_Lorder a_Lorder d_Lorder
  b_Lorder : Binds K d_Lorder ["_law_forms_here", "_law_top_here"] []
  g_Lorder : mg "_law_order" = some (.ref a_Lorder)
  a_Ltop : Addr
  d_Ltop : FuncData
  F_Ltop : Fun K "_law_top" "_law_top" s_Ltop a_Ltop d_Ltop
  b_Ltop : Binds K d_Ltop ["_law_forms_here", "_law_x"] []
  g_Ltop : mg "_law_top" = some (.ref a_Ltop)
  a_Lties : Addr
  d_Lties : FuncData
  F_Lties : Fun K "_law_ties" "_law_ties" s_Lties a_Lties d_Lties
  b_Lties : Binds K d_Lties ["_law_forms_here"] []
  g_Lties : mg "_law_ties" = some (.ref a_Lties)
  a_Ltree : Addr
  d_Ltree : FuncData
  F_Ltree : Fun K "_law_tree" "_law_tree" s_Ltree a_Ltree d_Ltree
  b_Ltree : Binds K d_Ltree ["_law_pot_here", "_law_forms_here", "_law_names"] []
  g_Ltree : mg "_law_tree" = some (.ref a_Ltree)
  a_Lforms : Addr
  d_Lforms : FuncData
  F_Lforms : Fun K "_law_forms" "_law_forms" s_Lforms a_Lforms d_Lforms
  b_Lforms : Binds K d_Lforms ["_law_pot_here", "_law_most"] []
  g_Lforms : mg "_law_forms" = some (.ref a_Lforms)
  a_Ltwisted : Addr
  d_Ltwisted : FuncData
  F_Ltwisted : Fun K "_law_twisted" "_law_twisted" s_Ltwisted a_Ltwisted d_Ltwisted
  b_Ltwisted : Binds K d_Ltwisted ["_law_pot_here", "_law_forms_here"] []
  g_Ltwisted : mg "_law_twisted" = some (.ref a_Ltwisted)
  a_law : Addr
  d_law : FuncData
  F_law : Fun K "law" "law" s_law a_law d_law
  b_law : Binds K d_law ["_law_script"] []
  g_law : mg "law" = some (.ref a_law)
  C_Links : Addr
  cl_Links : Cls K C_Links
  mg_Links : mg "Links" = some (.ref C_Links)
  na_Links_left : NoAttr K C_Links "left"
  na_Links_right : NoAttr K C_Links "right"
  na_Links_above : NoAttr K C_Links "above"
  na_Links_turned : NoAttr K C_Links "turned"
  na_Links_looked : NoAttr K C_Links "looked"
  a_Linksinit : Addr
  d_Linksinit : FuncData
  F_Linksinit : Fun K "__init__" "Links.__init__" s_Linksinit a_Linksinit d_Linksinit
  b_Linksinit : Binds K d_Linksinit ["self"] []
  mk_Links : Mk K C_Links a_Linksinit
  a_Linkstakerows : Addr
  d_Linkstakerows : FuncData
  F_Linkstakerows : Fun K "take_rows" "Links.take_rows" s_Linkstakerows a_Linkstakerows d_Linkstakerows
  b_Linkstakerows : Binds K d_Linkstakerows ["self", "shape"] []
  me_Linkstakerows : Meth K C_Links "take_rows" a_Linkstakerows
  a_Linksshape : Addr
  d_Linksshape : FuncData
  F_Linksshape : Fun K "shape" "Links.shape" s_Linksshape a_Linksshape d_Linksshape
  b_Linksshape : Binds K d_Linksshape ["self"] []
  me_Linksshape : Meth K C_Links "shape" a_Linksshape
  a_Linksbelow : Addr
  d_Linksbelow : FuncData
  F_Linksbelow : Fun K "below" "Links.below" s_Linksbelow a_Linksbelow d_Linksbelow
  b_Linksbelow : Binds K d_Linksbelow ["self", "x"] []
  me_Linksbelow : Meth K C_Links "below" a_Linksbelow
  a_Linksistop : Addr
  d_Linksistop : FuncData
  F_Linksistop : Fun K "is_top" "Links.is_top" s_Linksistop a_Linksistop d_Linksistop
  b_Linksistop : Binds K d_Linksistop ["self", "x"] []
  me_Linksistop : Meth K C_Links "is_top" a_Linksistop
  a_Linkstops : Addr
  d_Linkstops : FuncData
  F_Linkstops : Fun K "tops" "Links.tops" s_Linkstops a_Linkstops d_Linkstops
  b_Linkstops : Binds K d_Linkstops ["self"] []
  me_Linkstops : Meth K C_Links "tops" a_Linkstops
  a_Linkspush : Addr
  d_Linkspush : FuncData
  F_Linkspush : Fun K "push" "Links.push" s_Linkspush a_Linkspush d_Linkspush
  b_Linkspush : Binds K d_Linkspush ["self", "x"] []
  me_Linkspush : Meth K C_Links "push" a_Linkspush
  a_Linksinorder : Addr
  d_Linksinorder : FuncData
  F_Linksinorder : Fun K "in_order" "Links.in_order" s_Linksinorder a_Linksinorder d_Linksinorder
  b_Linksinorder : Binds K d_Linksinorder ["self", "top"] []
  me_Linksinorder : Meth K C_Links "in_order" a_Linksinorder
  m_abs : mg "abs" = none
  m_all : mg "all" = none
  m_bool : mg "bool" = none
  m_dict : mg "dict" = none
  m_enumerate : mg "enumerate" = none
  m_int : mg "int" = none
  m_isinstance : mg "isinstance" = none
  m_len : mg "len" = none
  m_list : mg "list" = none
  m_max : mg "max" = none
  m_min : mg "min" = none
  m_range : mg "range" = none
  m_sorted : mg "sorted" = none
  m_tuple : mg "tuple" = none
  m_zip : mg "zip" = none
end My
namespace My
open PySem L2
theorem iteNN {c A B : Prop} [Decidable c] (hc : ¬ c) (h : A) : if (!decide c) = true then A else B := by
  rw [decide_eq_false hc]
  exact iteT h
theorem Same.none {H H' : Hp} {d : Addr} (s : Same H H') (n : H' d = none) : H d = none := by
  cases e : H d with
  | none => rfl
  | some o =>
    rw [s _ _ e] at n
    cases n
theorem same_put {H H1 : Hp} {d : Addr} {o : HO} (s : Same H H1) (n : H d = none) : Same H (upd H1 d o) := fun b u z => by
  rw [upd_ne (ne_of_none z n)]
  exact s b u z

/-! ### the pot of draws -/
theorem emod_small {x m j : Int} (h : 0 < m) (h2 : m < 2 ^ 64) : CMul (x % m) j := .inl ⟨by have := Int.emod_nonneg x (show m ≠ 0 by omega); omega, by have := Int.emod_lt_of_pos x h; omega⟩
theorem lay_ints : ∀ l : List Int, PyData.canLayAll0 (l.map .int) = true ∧ PyData.depthAll (l.map .int) ≤ 1
  | [] => ⟨rfl, Nat.zero_le _⟩
  | x :: r => by
    have ih := lay_ints r
    refine ⟨?_, ?_⟩
    · show (PyData.canLay0 (.int x) && PyData.canLayAll0 (r.map .int)) = true
      rw [ih.1, Bool.and_true]
      rfl
    · show max (PyData.depth (.int x)) (PyData.depthAll (r.map .int)) ≤ 1
      exact Nat.max_le.mpr ⟨Nat.zero_le _, ih.2⟩
theorem dp_intsL {K : PySem.W.Frag} {H : Hp} : ∀ l : List Int, DpAll K H (l.map V.int) (l.map PyData.int)
  | [] => .nil
  | x :: l => .cons (.int x) (dp_intsL l)
theorem shp_ints (l : List Int) : SeqAt.shaped (.list (l.map .int)) = true := by
  have h := lay_ints l
  unfold SeqAt.shaped
  rw [show PyData.canLay0 (.list (l.map .int)) = true from h.1, decide_eq_true (show PyData.depth (.list (l.map .int)) ≤ 64 by show PyData.depthAll _ + 1 ≤ 64; omega)]
  rfl
theorem eq_nilL : ∀ l : List Int, PyData.eqv (.list (l.map .int)) (.list []) = l.isEmpty
  | [] => by decide +kernel
  | x :: l => by
    show PyData.eqv (.list (.int x :: l.map .int)) (.list []) = false
    simp [PyData.eqv, PyData.eqvAll]
theorem ix0 (n : Nat) : ixN (n + 1) 0 = some 0 := by
  unfold ixN
  simp
  try omega
/-- all but b and L as it was -/
def But2 (b L : Addr) (H H' : Hp) : Prop := ∀ a o, H a = some o → a ≠ b → a ≠ L → H' a = some o
theorem But2.refl {b L : Addr} {H : Hp} : But2 b L H H := fun _ _ e _ _ => e
theorem But2.same {b L : Addr} {H H1 H2 : Hp} (k : But2 b L H H1) (s : Same H1 H2) : But2 b L H H2 := fun a o e n1 n2 => s _ _ (k a o e n1 n2)
theorem But2.trans {b L : Addr} {H H1 H2 : Hp} (k : But2 b L H H1) (g : But2 b L H1 H2) : But2 b L H H2 := fun a o e n1 n2 => g a o (k a o e n1 n2) n1 n2
theorem But2.putL {b L : Addr} {H H1 : Hp} {o : HO} (k : But2 b L H H1) : But2 b L H (upd H1 L o) := fun a x e n1 n2 => by
  rw [upd_ne n2]
  exact k a x e n1 n2
theorem But2.putB {b L : Addr} {H H1 : Hp} {o : HO} (k : But2 b L H H1) : But2 b L H (upd H1 b o) := fun a x e n1 n2 => by
  rw [upd_ne n1]
  exact k a x e n1 n2

end My
namespace My
open PySem L2
theorem ifF {c : Bool} {A B : Prop} (h : c = false) (b : B) : if c = true then A else B := by
  rw [h, if_neg (by decide)]
  exact b
theorem ifT {c : Bool} {A B : Prop} (h : c = true) (a : A) : if c = true then A else B := by
  rw [h, if_pos rfl]
  exact a

/-! ### rising lists -/
theorem rising_nd {ns ys : List Int} (nd : ns.Nodup) (pm : ys.Perm ns) (srt : ys.Pairwise (· ≤ ·)) : ys.Pairwise (· < ·) := by
  have nd2 : ys.Nodup := pm.nodup_iff.mpr nd
  exact (srt.and nd2).imp fun ⟨h1, h2⟩ => Int.lt_iff_le_and_ne.mpr ⟨h1, h2⟩
theorem rising_ext : ∀ {l m : List Int}, l.Pairwise (· < ·) → m.Pairwise (· < ·) → (∀ v, v ∈ l ↔ v ∈ m) → l = m
  | [], [], _, _, _ => rfl
  | [], y :: _, _, _, h => nomatch (h y).mpr List.mem_cons_self
  | x :: _, [], _, _, h => nomatch (h x).mp List.mem_cons_self
  | x :: l, y :: m, hl, hm, h => by
    rw [List.pairwise_cons] at hl hm
    have e : x = y := by
      rcases List.mem_cons.mp ((h x).mp List.mem_cons_self) with e | e
      · exact e
      · rcases List.mem_cons.mp ((h y).mpr List.mem_cons_self) with e2 | e2
        · exact e2.symm
        · have z1 := hm.1 x e
          have z2 := hl.1 y e2
          omega
    subst e
    have t : l = m := rising_ext hl.2 hm.2 fun v => ⟨fun hv => by
      rcases List.mem_cons.mp ((h v).mp (List.mem_cons_of_mem _ hv)) with e | e
      · have := hl.1 v hv
        omega
      · exact e, fun hv => by
      rcases List.mem_cons.mp ((h v).mpr (List.mem_cons_of_mem _ hv)) with e | e
      · have := hm.1 v hv
        omega
      · exact e⟩
    rw [t]

/-! ### the object of the links -/
structure LA where
  h : Addr
  dl : Addr
  dr : Addr
  da : Addr
  dt : Addr
def LA.as (A : LA) : List Addr := [A.h, A.dl, A.dr, A.da, A.dt]
def fldsL (A : LA) (k : Int) : List (Str × V) := putF "looked" (.int k) (putF "turned" (.ref A.dt) (putF "above" (.ref A.da) (putF "right" (.ref A.dr) (putF "left" (.ref A.dl) []))))
theorem nLa : ¬ ("left" : Str) = "right" := by decide +kernel
theorem nLb : ¬ ("left" : Str) = "above" := by decide +kernel
theorem nLc : ¬ ("left" : Str) = "turned" := by decide +kernel
theorem nLd : ¬ ("left" : Str) = "looked" := by decide +kernel
theorem nLe : ¬ ("right" : Str) = "above" := by decide +kernel
theorem nLf : ¬ ("right" : Str) = "turned" := by decide +kernel
theorem nLg : ¬ ("right" : Str) = "looked" := by decide +kernel
theorem nLh : ¬ ("above" : Str) = "turned" := by decide +kernel
theorem nLi : ¬ ("above" : Str) = "looked" := by decide +kernel
theorem nLj : ¬ ("turned" : Str) = "looked" := by decide +kernel
theorem fl_left (A : LA) (k : Int) : (fldsL A k).lookup ("left" : Str) = some (.ref A.dl) := by
  unfold fldsL
  rw [lookup_putF, if_neg nLd, lookup_putF, if_neg nLc, lookup_putF, if_neg nLb, lookup_putF, if_neg nLa, lookup_putF, if_pos rfl]
theorem fl_right (A : LA) (k : Int) : (fldsL A k).lookup ("right" : Str) = some (.ref A.dr) := by
  unfold fldsL
  rw [lookup_putF, if_neg nLg, lookup_putF, if_neg nLf, lookup_putF, if_neg nLe, lookup_putF, if_pos rfl]
theorem fl_above (A : LA) (k : Int) : (fldsL A k).lookup ("above" : Str) = some (.ref A.da) := by
  unfold fldsL
  rw [lookup_putF, if_neg nLi, lookup_putF, if_neg nLh, lookup_putF, if_pos rfl]
theorem fl_turned (A : LA) (k : Int) : (fldsL A k).lookup ("turned" : Str) = some (.ref A.dt) := by
  unfold fldsL
  rw [lookup_putF, if_neg nLj, lookup_putF, if_pos rfl]
theorem fl_looked (A : LA) (k : Int) : (fldsL A k).lookup ("looked" : Str) = some (.int k) := by
  unfold fldsL
  rw [lookup_putF, if_pos rfl]
theorem fl_no (A : LA) (k : Int) {m : Str} (h1 : ¬ m = "left") (h2 : ¬ m = "right") (h3 : ¬ m = "above") (h4 : ¬ m = "turned") (h5 : ¬ m = "looked") : (fldsL A k).lookup m = none := by
  unfold fldsL
  rw [lookup_putF, if_neg h5, lookup_putF, if_neg h4, lookup_putF, if_neg h3, lookup_putF, if_neg h2, lookup_putF, if_neg h1]
  rfl
theorem fl_put (A : LA) (k m : Int) : putF "looked" (.int m) (fldsL A k) = fldsL A m := putF_putF _ _ _ _
theorem fl_len (A : LA) (k : Int) : (fldsL A k).length < 1000 := by
  unfold fldsL
  have a1 := putF_len "left" (.ref A.dl) []
  have a2 := putF_len "right" (.ref A.dr) (putF "left" (.ref A.dl) [])
  have a3 := putF_len "above" (.ref A.da) (putF "right" (.ref A.dr) (putF "left" (.ref A.dl) []))
  have a4 := putF_len "turned" (.ref A.dt) (putF "above" (.ref A.da) (putF "right" (.ref A.dr) (putF "left" (.ref A.dl) [])))
  have a5 := putF_len "looked" (.int k) (putF "turned" (.ref A.dt) (putF "above" (.ref A.da) (putF "right" (.ref A.dr) (putF "left" (.ref A.dl) []))))
  have a0 : ([] : List (Str × V)).length = 0 := rfl
  omega
structure LinksAt (C : Addr) (H : Hp) (A : LA) (S : Lk Int) : Prop where
  ob : ∃ dx, H A.h = some (.ins C dx (fldsL A (S.lk : Int)))
  hl : H A.dl = some (.dK (dN S.ns fun x => onV (S.l x)))
  hr : H A.dr = some (.dK (dN S.ns fun x => onV (S.r x)))
  ha : H A.da = some (.dK (dN S.ns fun x => onV (S.a x)))
  ht : H A.dt = some (.dK (dN S.ns fun x => .bl (S.t x)))
  n1 : A.dl ≠ A.dr
  n2 : A.dl ≠ A.da
  n3 : A.dl ≠ A.dt
  n4 : A.dr ≠ A.da
  n5 : A.dr ≠ A.dt
  n6 : A.da ≠ A.dt
  nn : S.ns.Nodup
  sz : S.ns.length ≤ 1000
/-- all but the links as it was -/
def ButA (A : LA) (H H' : Hp) : Prop := ∀ b o, H b = some o → b ∉ A.as → H' b = some o
theorem ButA.refl {A : LA} {H : Hp} : ButA A H H := fun _ _ e _ => e
theorem ButA.trans {A : LA} {H H1 H2 : Hp} (x : ButA A H H1) (y : ButA A H1 H2) : ButA A H H2 := fun b o e n => y b o (x b o e n) n
theorem ButA.of_same {A : LA} {H H1 : Hp} (s : Same H H1) : ButA A H H1 := fun b o e _ => s b o e
theorem ButA.same {A : LA} {H H1 H2 : Hp} (x : ButA A H H1) (s : Same H1 H2) : ButA A H H2 := fun b o e n => s b o (x b o e n)
theorem ButA.put {A : LA} {H H1 : Hp} {p : Addr} {o : HO} (x : ButA A H H1) (m : p ∈ A.as) : ButA A H (upd H1 p o) := fun b u e n => by
  rw [upd_ne fun (z : b = p) => n (z ▸ m)]
  exact x b u e n
theorem LA.mh (A : LA) : A.h ∈ A.as := List.mem_cons_self
theorem LA.ml (A : LA) : A.dl ∈ A.as := List.mem_cons_of_mem _ List.mem_cons_self
theorem LA.mr (A : LA) : A.dr ∈ A.as := List.mem_cons_of_mem _ (List.mem_cons_of_mem _ List.mem_cons_self)
theorem LA.ma (A : LA) : A.da ∈ A.as := List.mem_cons_of_mem _ (List.mem_cons_of_mem _ (List.mem_cons_of_mem _ List.mem_cons_self))
theorem LA.mt (A : LA) : A.dt ∈ A.as := List.mem_cons_of_mem _ (List.mem_cons_of_mem _ (List.mem_cons_of_mem _ (List.mem_cons_of_mem _ List.mem_cons_self)))
section
variable {C : Addr} {H H' : Hp} {A : LA} {S : Lk Int}
theorem LinksAt.same (L : LinksAt C H A S) (s : Same H H') : LinksAt C H' A S := by
  obtain ⟨dx, e⟩ := L.ob
  exact ⟨⟨dx, s _ _ e⟩, s _ _ L.hl, s _ _ L.hr, s _ _ L.ha, s _ _ L.ht, L.n1, L.n2, L.n3, L.n4, L.n5, L.n6, L.nn, L.sz⟩
theorem LinksAt.keep (L : LinksAt C H A S) (s : ∀ b ∈ A.as, ∀ o, H b = some o → H' b = some o) : LinksAt C H' A S := by
  obtain ⟨dx, e⟩ := L.ob
  exact ⟨⟨dx, s _ A.mh _ e⟩, s _ A.ml _ L.hl, s _ A.mr _ L.hr, s _ A.ma _ L.ha, s _ A.mt _ L.ht, L.n1, L.n2, L.n3, L.n4, L.n5, L.n6, L.nn, L.sz⟩
theorem LinksAt.hn (L : LinksAt C H A S) : A.h ≠ A.dl ∧ A.h ≠ A.dr ∧ A.h ≠ A.da ∧ A.h ≠ A.dt := by
  obtain ⟨dx, e⟩ := L.ob
  exact ⟨ne_of e L.hl (by intro z; cases z), ne_of e L.hr (by intro z; cases z), ne_of e L.ha (by intro z; cases z), ne_of e L.ht (by intro z; cases z)⟩
/-- what is of another kind is none of it -/
theorem LinksAt.nin (L : LinksAt C H A S) {b : Addr} {o : HO} (e : H b = some o) (h1 : ∀ dx fs, o ≠ .ins C dx fs) (h2 : ∀ kvs, o ≠ .dK kvs) : b ∉ A.as := fun m => by
  obtain ⟨dx, eh⟩ := L.ob
  unfold LA.as at m
  simp only [List.mem_cons, List.not_mem_nil, or_false] at m
  rcases m with rfl | rfl | rfl | rfl | rfl
  · exact h1 _ _ (Option.some.inj (e.symm.trans eh))
  · exact h2 _ (Option.some.inj (e.symm.trans L.hl))
  · exact h2 _ (Option.some.inj (e.symm.trans L.hr))
  · exact h2 _ (Option.some.inj (e.symm.trans L.ha))
  · exact h2 _ (Option.some.inj (e.symm.trans L.ht))
theorem LinksAt.nnew (L : LinksAt C H A S) {b : Addr} (e : H b = none) : b ∉ A.as := fun m => by
  obtain ⟨dx, eh⟩ := L.ob
  unfold LA.as at m
  simp only [List.mem_cons, List.not_mem_nil, or_false] at m
  rcases m with rfl | rfl | rfl | rfl | rfl
  · exact nomatch e.symm.trans eh
  · exact nomatch e.symm.trans L.hl
  · exact nomatch e.symm.trans L.hr
  · exact nomatch e.symm.trans L.ha
  · exact nomatch e.symm.trans L.ht
theorem LinksAt.putL (L : LinksAt C H A S) {x : Int} {y : Option Int} (m : x ∈ S.ns) : LinksAt C (upd H A.dl (.dK (putK (dN S.ns fun x => onV (S.l x)) (Sum.inl x) (onV y)))) A { S with l := up1 S.l x y } := by
  obtain ⟨dx, e⟩ := L.ob
  obtain ⟨h1, h2, h3, h4⟩ := L.hn
  refine ⟨⟨dx, by rw [upd_ne h1]; exact e⟩, by rw [upd_same, dN_put m, up1_on], by rw [upd_ne L.n1.symm]; exact L.hr, by rw [upd_ne L.n2.symm]; exact L.ha, by rw [upd_ne L.n3.symm]; exact L.ht, L.n1, L.n2, L.n3, L.n4, L.n5, L.n6, L.nn, L.sz⟩
theorem LinksAt.putR (L : LinksAt C H A S) {x : Int} {y : Option Int} (m : x ∈ S.ns) : LinksAt C (upd H A.dr (.dK (putK (dN S.ns fun x => onV (S.r x)) (Sum.inl x) (onV y)))) A { S with r := up1 S.r x y } := by
  obtain ⟨dx, e⟩ := L.ob
  obtain ⟨h1, h2, h3, h4⟩ := L.hn
  refine ⟨⟨dx, by rw [upd_ne h2]; exact e⟩, by rw [upd_ne L.n1]; exact L.hl, by rw [upd_same, dN_put m, up1_on], by rw [upd_ne L.n4.symm]; exact L.ha, by rw [upd_ne L.n5.symm]; exact L.ht, L.n1, L.n2, L.n3, L.n4, L.n5, L.n6, L.nn, L.sz⟩
theorem LinksAt.putA (L : LinksAt C H A S) {x : Int} {y : Option Int} (m : x ∈ S.ns) : LinksAt C (upd H A.da (.dK (putK (dN S.ns fun x => onV (S.a x)) (Sum.inl x) (onV y)))) A { S with a := up1 S.a x y } := by
  obtain ⟨dx, e⟩ := L.ob
  obtain ⟨h1, h2, h3, h4⟩ := L.hn
  refine ⟨⟨dx, by rw [upd_ne h3]; exact e⟩, by rw [upd_ne L.n2]; exact L.hl, by rw [upd_ne L.n4]; exact L.hr, by rw [upd_same, dN_put m, up1_on], by rw [upd_ne L.n6.symm]; exact L.ht, L.n1, L.n2, L.n3, L.n4, L.n5, L.n6, L.nn, L.sz⟩
theorem LinksAt.putT (L : LinksAt C H A S) {x : Int} {y : Bool} (m : x ∈ S.ns) : LinksAt C (upd H A.dt (.dK (putK (dN S.ns fun x => .bl (S.t x)) (Sum.inl x) (.bl y)))) A { S with t := up1 S.t x y } := by
  obtain ⟨dx, e⟩ := L.ob
  obtain ⟨h1, h2, h3, h4⟩ := L.hn
  refine ⟨⟨dx, by rw [upd_ne h4]; exact e⟩, by rw [upd_ne L.n3]; exact L.hl, by rw [upd_ne L.n5]; exact L.hr, by rw [upd_ne L.n6]; exact L.ha, by rw [upd_same, dN_put m, up1_bl], L.n1, L.n2, L.n3, L.n4, L.n5, L.n6, L.nn, L.sz⟩
end
section
variable {K : PySem.W.Frag} {mg : Str → Option Value} {H : Hp} {A : LA} {S : Lk Int}
theorem rdL (T : Top K mg) {i j : Nat} {σ : L2.St} {Q : V → Hp → Prop} {x : Int} (L : LinksAt T.C_Links H A S) (m : x ∈ S.ns) (h0 : σ[i]? = some (some (.ref A.h))) (h1 : σ[j]? = some (some (.int x))) (q : Q (onV (S.l x)) H) : tDGet (tFld K (tVar i) "left") (tVar j) σ H Q := by
  obtain ⟨dx, hh⟩ := L.ob
  refine ⟨_, h0, A.h, T.C_Links, dx, _, _, rfl, hh, T.cl_Links, T.na_Links_left, fl_left _ _, _, h1, A.dl, _, rfl, ?_, q⟩
  have g := DGet.k (k := Sum.inl x) L.hl
  rw [dN_get m] at g
  exact g
theorem rdR (T : Top K mg) {i j : Nat} {σ : L2.St} {Q : V → Hp → Prop} {x : Int} (L : LinksAt T.C_Links H A S) (m : x ∈ S.ns) (h0 : σ[i]? = some (some (.ref A.h))) (h1 : σ[j]? = some (some (.int x))) (q : Q (onV (S.r x)) H) : tDGet (tFld K (tVar i) "right") (tVar j) σ H Q := by
  obtain ⟨dx, hh⟩ := L.ob
  refine ⟨_, h0, A.h, T.C_Links, dx, _, _, rfl, hh, T.cl_Links, T.na_Links_right, fl_right _ _, _, h1, A.dr, _, rfl, ?_, q⟩
  have g := DGet.k (k := Sum.inl x) L.hr
  rw [dN_get m] at g
  exact g
theorem rdA (T : Top K mg) {i j : Nat} {σ : L2.St} {Q : V → Hp → Prop} {x : Int} (L : LinksAt T.C_Links H A S) (m : x ∈ S.ns) (h0 : σ[i]? = some (some (.ref A.h))) (h1 : σ[j]? = some (some (.int x))) (q : Q (onV (S.a x)) H) : tDGet (tFld K (tVar i) "above") (tVar j) σ H Q := by
  obtain ⟨dx, hh⟩ := L.ob
  refine ⟨_, h0, A.h, T.C_Links, dx, _, _, rfl, hh, T.cl_Links, T.na_Links_above, fl_above _ _, _, h1, A.da, _, rfl, ?_, q⟩
  have g := DGet.k (k := Sum.inl x) L.ha
  rw [dN_get m] at g
  exact g
theorem rdT (T : Top K mg) {i j : Nat} {σ : L2.St} {Q : V → Hp → Prop} {x : Int} (L : LinksAt T.C_Links H A S) (m : x ∈ S.ns) (h0 : σ[i]? = some (some (.ref A.h))) (h1 : σ[j]? = some (some (.int x))) (q : Q (.bl (S.t x)) H) : tDGet (tFld K (tVar i) "turned") (tVar j) σ H Q := by
  obtain ⟨dx, hh⟩ := L.ob
  refine ⟨_, h0, A.h, T.C_Links, dx, _, _, rfl, hh, T.cl_Links, T.na_Links_turned, fl_turned _ _, _, h1, A.dt, _, rfl, ?_, q⟩
  have g := DGet.k (k := Sum.inl x) L.ht
  rw [dN_get m] at g
  exact g
theorem wrL (T : Top K mg) {i j : Nat} {σ : L2.St} {R : Hp → Prop} {x : Int} {y : Option Int} (L : LinksAt T.C_Links H A S) (m : x ∈ S.ns) (h0 : σ[i]? = some (some (.ref A.h))) (h1 : σ[j]? = some (some (.int x))) (q : ∀ H2, ButA A H H2 → LinksAt T.C_Links H2 A { S with l := up1 S.l x y } → R H2) : tFld K (tVar i) "left" σ H fun x1 H2 => tVar j σ H2 fun y1 H3 => ∃ a H4, x1 = .ref a ∧ DPut H3 a y1 (onV y) H4 ∧ R H4 := by
  obtain ⟨dx, hh⟩ := L.ob
  exact ⟨_, h0, A.h, T.C_Links, dx, _, _, rfl, hh, T.cl_Links, T.na_Links_left, fl_left _ _, _, h1, A.dl, _, rfl, DPut.k (k := Sum.inl x) L.hl (by rw [dN_len]; exact szl (by have := L.sz; omega)), q _ (ButA.refl.put A.ml) (L.putL m)⟩
theorem wrR (T : Top K mg) {i j : Nat} {σ : L2.St} {R : Hp → Prop} {x : Int} {y : Option Int} (L : LinksAt T.C_Links H A S) (m : x ∈ S.ns) (h0 : σ[i]? = some (some (.ref A.h))) (h1 : σ[j]? = some (some (.int x))) (q : ∀ H2, ButA A H H2 → LinksAt T.C_Links H2 A { S with r := up1 S.r x y } → R H2) : tFld K (tVar i) "right" σ H fun x1 H2 => tVar j σ H2 fun y1 H3 => ∃ a H4, x1 = .ref a ∧ DPut H3 a y1 (onV y) H4 ∧ R H4 := by
  obtain ⟨dx, hh⟩ := L.ob
  exact ⟨_, h0, A.h, T.C_Links, dx, _, _, rfl, hh, T.cl_Links, T.na_Links_right, fl_right _ _, _, h1, A.dr, _, rfl, DPut.k (k := Sum.inl x) L.hr (by rw [dN_len]; exact szl (by have := L.sz; omega)), q _ (ButA.refl.put A.mr) (L.putR m)⟩
theorem wrA (T : Top K mg) {i j : Nat} {σ : L2.St} {R : Hp → Prop} {x : Int} {y : Option Int} (L : LinksAt T.C_Links H A S) (m : x ∈ S.ns) (h0 : σ[i]? = some (some (.ref A.h))) (h1 : σ[j]? = some (some (.int x))) (q : ∀ H2, ButA A H H2 → LinksAt T.C_Links H2 A { S with a := up1 S.a x y } → R H2) : tFld K (tVar i) "above" σ H fun x1 H2 => tVar j σ H2 fun y1 H3 => ∃ a H4, x1 = .ref a ∧ DPut H3 a y1 (onV y) H4 ∧ R H4 := by
  obtain ⟨dx, hh⟩ := L.ob
  exact ⟨_, h0, A.h, T.C_Links, dx, _, _, rfl, hh, T.cl_Links, T.na_Links_above, fl_above _ _, _, h1, A.da, _, rfl, DPut.k (k := Sum.inl x) L.ha (by rw [dN_len]; exact szl (by have := L.sz; omega)), q _ (ButA.refl.put A.ma) (L.putA m)⟩
theorem wrT (T : Top K mg) {i j : Nat} {σ : L2.St} {R : Hp → Prop} {x : Int} {y : Bool} (L : LinksAt T.C_Links H A S) (m : x ∈ S.ns) (h0 : σ[i]? = some (some (.ref A.h))) (h1 : σ[j]? = some (some (.int x))) (q : ∀ H2, ButA A H H2 → LinksAt T.C_Links H2 A { S with t := up1 S.t x y } → R H2) : tFld K (tVar i) "turned" σ H fun x1 H2 => tVar j σ H2 fun y1 H3 => ∃ a H4, x1 = .ref a ∧ DPut H3 a y1 (.bl y) H4 ∧ R H4 := by
  obtain ⟨dx, hh⟩ := L.ob
  exact ⟨_, h0, A.h, T.C_Links, dx, _, _, rfl, hh, T.cl_Links, T.na_Links_turned, fl_turned _ _, _, h1, A.dt, _, rfl, DPut.k (k := Sum.inl x) L.ht (by rw [dN_len]; exact szl (by have := L.sz; omega)), q _ (ButA.refl.put A.mt) (L.putT m)⟩
end
section
variable {P : Program} {w : World} {K : PySem.W.Frag} {mg : Str → Option Value} {base : Heap}
end
/-! ### the methods of the links -/
structure LRow where
  x : Int
  l : Option Int
  r : Option Int
  a : Option Int
  t : Bool
def LRow.vs (r : LRow) : List V := [.int r.x, onV r.l, onV r.r, onV r.a, .bl r.t]
/-- rows of a shape in the heap -/
inductive TAll (H : Hp) : List V → List LRow → Prop
  | nil : TAll H [] []
  | cons {p : Addr} {vs : List V} {r : LRow} {rs : List LRow} : H p = some (.tup r.vs) → TAll H vs rs → TAll H (.ref p :: vs) (r :: rs)
theorem TAll.mono {H H' : Hp} {vs : List V} {rs : List LRow} (h : TAll H vs rs) (s : ∀ p r, H p = some (.tup r) → H' p = some (.tup r)) : TAll H' vs rs := by
  induction h with
  | nil => exact .nil
  | cons e _ ih => exact .cons (s _ _ e) ih
theorem TAll.same {H H' : Hp} {vs : List V} {rs : List LRow} (h : TAll H vs rs) (s : Same H H') : TAll H' vs rs := h.mono fun p r e => s _ _ e
theorem TAll.length {H : Hp} {vs : List V} {rs : List LRow} (h : TAll H vs rs) : vs.length = rs.length := by
  induction h with
  | nil => rfl
  | cons _ _ ih => rw [List.length_cons, List.length_cons, ih]
theorem TAll.snoc {H : Hp} {vs : List V} {rs : List LRow} {p : Addr} {r : LRow} (h : TAll H vs rs) (e : H p = some (.tup r.vs)) : TAll H (vs ++ [.ref p]) (rs ++ [r]) := by
  induction h with
  | nil => exact .cons e .nil
  | cons e' _ ih => exact .cons e' ih
theorem TAll.at {H : Hp} {vs : List V} {rs : List LRow} (h : TAll H vs rs) : ∀ {i : Nat} {v : V}, vs[i]? = some v → ∃ p r, v = .ref p ∧ rs[i]? = some r ∧ H p = some (.tup r.vs) := by
  induction h with
  | nil => intro i v e; exact nomatch e
  | @cons p vs r rs e _ ih =>
    intro i v ev
    cases i with
    | zero => cases ev; exact ⟨p, r, rfl, rfl, e⟩
    | succ i => exact ih ev
def onD : Option Int → PyData
  | none => .none
  | some i => .int i
def LRow.dat (r : LRow) : PyData := .tuple [.int r.x, onD r.l, onD r.r, onD r.a, .bool r.t]
theorem on_td {K : PySem.W.Frag} {H : Hp} (y : Option Int) : Dp K H (onV y) (onD y) := by
  cases y with
  | none => exact .non
  | some i => exact .int i
theorem TAll.dp {K : PySem.W.Frag} {H : Hp} {vs : List V} {rs : List LRow} (h : TAll H vs rs) : DpAll K H vs (rs.map LRow.dat) := by
  induction h with
  | nil => exact .nil
  | cons e _ ih => exact .cons (.tup (SqT.of e) (.cons (.int _) (.cons (on_td _) (.cons (on_td _) (.cons (on_td _) (.cons (.bl _) .nil)))))) ih
def addN (ns : List Int) (x : Int) : List Int := if x ∈ ns then ns else ns ++ [x]
theorem dN_upd {f : Int → V} {ns : List Int} {x : Int} {v : V} : putK (dN ns f) (Sum.inl x) v = dN (addN ns x) (up1 f x v) := by
  unfold addN
  by_cases m : x ∈ ns
  · rw [if_pos m, dN_put m]
  · rw [if_neg m, dN_new m]
theorem addN_nd {ns : List Int} {x : Int} (h : ns.Nodup) : (addN ns x).Nodup := by
  unfold addN
  split
  · exact h
  · rename_i m
    exact List.nodup_append.mpr ⟨h, List.nodup_cons.mpr ⟨List.not_mem_nil, List.nodup_nil⟩, fun a ma b mb e => m (by rw [List.mem_singleton.mp mb] at e; exact e ▸ ma)⟩
theorem addN_len {ns : List Int} {x : Int} : (addN ns x).length ≤ ns.length + 1 := by
  unfold addN
  split
  · omega
  · rw [List.length_append]
    exact Nat.le_refl _
def Lk.put (S : Lk Int) (r : LRow) : Lk Int := { S with ns := addN S.ns r.x, l := up1 S.l r.x r.l, r := up1 S.r r.x r.r, a := up1 S.a r.x r.a, t := up1 S.t r.x r.t }
def Lk.takes (S : Lk Int) (rs : List LRow) : Lk Int := rs.foldl Lk.put S
theorem LinksAt.put {C : Addr} {H : Hp} {A : LA} {S : Lk Int} (L : LinksAt C H A S) (r : LRow) (sz : S.ns.length < 1000) :
    LinksAt C (upd (upd (upd (upd H A.dl (.dK (putK (dN S.ns fun x => onV (S.l x)) (Sum.inl r.x) (onV r.l)))) A.dr (.dK (putK (dN S.ns fun x => onV (S.r x)) (Sum.inl r.x) (onV r.r)))) A.da (.dK (putK (dN S.ns fun x => onV (S.a x)) (Sum.inl r.x) (onV r.a)))) A.dt (.dK (putK (dN S.ns fun x => .bl (S.t x)) (Sum.inl r.x) (.bl r.t)))) A (S.put r) := by
  obtain ⟨dx, e⟩ := L.ob
  obtain ⟨h1, h2, h3, h4⟩ := L.hn
  refine ⟨⟨dx, by rw [upd_ne h4, upd_ne h3, upd_ne h2, upd_ne h1]; exact e⟩, by rw [upd_ne L.n3, upd_ne L.n2, upd_ne L.n1, upd_same, dN_upd, up1_on]; rfl, by rw [upd_ne L.n5, upd_ne L.n4, upd_same, dN_upd, up1_on]; rfl, by rw [upd_ne L.n6, upd_same, dN_upd, up1_on]; rfl, by rw [upd_same, dN_upd, up1_bl]; rfl, L.n1, L.n2, L.n3, L.n4, L.n5, L.n6, addN_nd L.nn, Nat.le_trans addN_len sz⟩
def emptyLk : Lk Int := ⟨[], fun _ => none, fun _ => none, fun _ => none, fun _ => false, 0⟩
theorem newF {H : Hp} {p d C dx : Addr} {fs fs' : List (Str × V)} {o : HO} (hp : H p = some (.ins C dx fs)) (nd : H d = none) : d ≠ p ∧ upd (upd H d o) p (.ins C dx fs') p = some (.ins C dx fs') ∧ upd (upd H d o) p (.ins C dx fs') d = some o ∧ ∀ c u, H c = some u → c ≠ p → upd (upd H d o) p (.ins C dx fs') c = some u := by
  have dp : d ≠ p := fun e => by
    rw [e, hp] at nd
    exact nomatch nd
  refine ⟨dp, upd_same, by rw [upd_ne dp, upd_same], fun c u e ne => ?_⟩
  rw [upd_ne ne, upd_ne (ne_of_none e nd)]
  exact e
theorem none_of {H H1 : Hp} {p d : Addr} (k : ∀ c u, H c = some u → c ≠ p → H1 c = some u) (dp : d ≠ p) (n : H1 d = none) : H d = none := by
  cases e : H d with
  | none => rfl
  | some u =>
    rw [k d u e dp] at n
    exact nomatch n
section
variable {P : Program} {w : World} {K : PySem.W.Frag} {mg : Str → Option Value} {base : Heap}
def spLinks (C : Addr) : Sp := fun vs H Q _ => ∃ (p dx : Addr), vs = [.ref p] ∧ H p = some (.ins C dx []) ∧ ∀ (A : LA) (H' : Hp), A.h = p → (∀ b ∈ A.as, b ≠ p → H b = none) → LinksAt C H' A emptyLk → (∀ c o, H c = some o → c ≠ p → H' c = some o) → Q .non H'
theorem ok_linit (T : Top K mg) : FnOk P w K mg base CX0 1 T.a_Linksinit T.d_Linksinit ["self"] (spLinks T.C_Links) := by
  refine T.F_Linksinit.ok sc_Linksinit (fun vs H Q E h => ?_) (fun cdv A outer s H vs Q E hr h => ?_)
  · obtain ⟨p, dx, rfl, _⟩ := h
    rfl
  · obtain ⟨p, dx, rfl, hp, q⟩ := h
    refine ⟨_, (pss_cons (ps_fld (pv 0) pe_dnewK rfl)
      (pss_cons (ps_fld (pv 0) pe_dnewK rfl)
      (pss_cons (ps_fld (pv 0) pe_dnewK rfl)
      (pss_cons (ps_fld (pv 0) pe_dnewK rfl)
      (pss_one (ps_fld (pv 0) pe_int rfl)))))), ?_⟩
    refine fun a nda => ⟨_, rfl, p, T.C_Links, dx, _, rfl, (by rw [upd_ne (fun e => by rw [← e, hp] at nda; exact nomatch nda)]; exact hp), T.cl_Links, T.na_Links_left, (by show 0 < 1000; decide), ?_⟩
    obtain ⟨ap, h1, ha, k1⟩ := newF (o := .dK []) (fs' := putF "left" (.ref a) []) hp nda
    generalize upd (upd H a (.dK [])) p (.ins T.C_Links dx (putF "left" (.ref a) [])) = H1 at h1 ha k1 ⊢
    refine fun b ndb => ⟨_, rfl, p, T.C_Links, dx, _, rfl, (by rw [upd_ne (fun e => by rw [← e, h1] at ndb; exact nomatch ndb)]; exact h1), T.cl_Links, T.na_Links_right, (by have := putF_len "left" (.ref a) []; exact Nat.lt_of_le_of_lt this (by decide)), ?_⟩
    obtain ⟨bp, h2, hb, k2⟩ := newF (o := .dK []) (fs' := putF "right" (.ref b) (putF "left" (.ref a) [])) h1 ndb
    have ha2 := k2 _ _ ha ap
    have ab : a ≠ b := ne_of_none ha ndb
    generalize upd (upd H1 b (.dK [])) p (.ins T.C_Links dx (putF "right" (.ref b) (putF "left" (.ref a) []))) = H2 at h2 hb k2 ha2 ⊢
    refine fun c ndc => ⟨_, rfl, p, T.C_Links, dx, _, rfl, (by rw [upd_ne (fun e => by rw [← e, h2] at ndc; exact nomatch ndc)]; exact h2), T.cl_Links, T.na_Links_above, (by have := putF_len "left" (.ref a) []; have := putF_len "right" (.ref b) (putF "left" (.ref a) []); have : ([] : List (Str × V)).length = 0 := rfl; omega), ?_⟩
    obtain ⟨cp, h3, hc, k3⟩ := newF (o := .dK []) (fs' := putF "above" (.ref c) (putF "right" (.ref b) (putF "left" (.ref a) []))) h2 ndc
    have ha3 := k3 _ _ ha2 ap
    have hb3 := k3 _ _ hb bp
    have ac : a ≠ c := ne_of_none ha2 ndc
    have bc : b ≠ c := ne_of_none hb ndc
    generalize upd (upd H2 c (.dK [])) p (.ins T.C_Links dx (putF "above" (.ref c) (putF "right" (.ref b) (putF "left" (.ref a) [])))) = H3 at h3 hc k3 ha3 hb3 ⊢
    refine fun d ndd => ⟨_, rfl, p, T.C_Links, dx, _, rfl, (by rw [upd_ne (fun e => by rw [← e, h3] at ndd; exact nomatch ndd)]; exact h3), T.cl_Links, T.na_Links_turned, (by have := putF_len "left" (.ref a) []; have := putF_len "right" (.ref b) (putF "left" (.ref a) []); have := putF_len "above" (.ref c) (putF "right" (.ref b) (putF "left" (.ref a) [])); have : ([] : List (Str × V)).length = 0 := rfl; omega), ?_⟩
    obtain ⟨dp, h4, hd, k4⟩ := newF (o := .dK []) (fs' := putF "turned" (.ref d) (putF "above" (.ref c) (putF "right" (.ref b) (putF "left" (.ref a) [])))) h3 ndd
    have ha4 := k4 _ _ ha3 ap
    have hb4 := k4 _ _ hb3 bp
    have hc4 := k4 _ _ hc cp
    have ad : a ≠ d := ne_of_none ha3 ndd
    have bd : b ≠ d := ne_of_none hb3 ndd
    have cd : c ≠ d := ne_of_none hc ndd
    generalize upd (upd H3 d (.dK [])) p (.ins T.C_Links dx (putF "turned" (.ref d) (putF "above" (.ref c) (putF "right" (.ref b) (putF "left" (.ref a) []))))) = H4 at h4 hd k4 ha4 hb4 hc4 ⊢
    refine ⟨_, rfl, p, T.C_Links, dx, _, rfl, h4, T.cl_Links, T.na_Links_looked, (by have := putF_len "left" (.ref a) []; have := putF_len "right" (.ref b) (putF "left" (.ref a) []); have := putF_len "above" (.ref c) (putF "right" (.ref b) (putF "left" (.ref a) [])); have := putF_len "turned" (.ref d) (putF "above" (.ref c) (putF "right" (.ref b) (putF "left" (.ref a) []))); have : ([] : List (Str × V)).length = 0 := rfl; omega), ?_⟩
    have na0 : H a = none := nda
    have nb0 : H b = none := none_of k1 bp ndb
    have nc0 : H c = none := none_of k1 cp (none_of k2 cp ndc)
    have nd0 : H d = none := none_of k1 dp (none_of k2 dp (none_of k3 dp ndd))
    refine q ⟨p, a, b, c, d⟩ _ rfl (fun z mz nz => ?_) ⟨⟨dx, upd_same⟩, by rw [upd_ne ap]; exact ha4, by rw [upd_ne bp]; exact hb4, by rw [upd_ne cp]; exact hc4, by rw [upd_ne dp]; exact hd, ab, ac, ad, bc, bd, cd, List.nodup_nil, Nat.zero_le _⟩ fun z o e nz => ?_
    · have mz : z ∈ [p, a, b, c, d] := mz
      simp only [List.mem_cons, List.not_mem_nil, or_false] at mz
      rcases mz with rfl | rfl | rfl | rfl | rfl
      · exact absurd rfl nz
      · exact na0
      · exact nb0
      · exact nc0
      · exact nd0
    · rw [upd_ne nz]
      exact k4 _ _ (k3 _ _ (k2 _ _ (k1 _ _ e nz) nz) nz) nz
theorem takes_len : ∀ {rs : List LRow} {S : Lk Int}, (S.takes rs).ns.length ≤ S.ns.length + rs.length
  | [], S => Nat.le_refl _
  | r :: rs, S => by
    have h := takes_len (rs := rs) (S := S.put r)
    have h2 : (S.put r).ns.length ≤ S.ns.length + 1 := addN_len
    show ((S.put r).takes rs).ns.length ≤ S.ns.length + (rs.length + 1)
    omega
theorem takes_snoc {S : Lk Int} {rs : List LRow} {r : LRow} : S.takes (rs ++ [r]) = (S.takes rs).put r := by
  unfold Lk.takes
  rw [List.foldl_append]
  rfl
theorem tk_at {α : Type} {xs : List α} {i : Nat} {x : α} (h : xs[i]? = some x) : xs.take (i + 1) = xs.take i ++ [x] := by
  rw [List.take_add_one, h]
  rfl
def spBelow (C : Addr) : Sp := fun vs H Q _ => ∃ (A : LA) (S : Lk Int) (x : Int), vs = [.ref A.h, .int x] ∧ LinksAt C H A S ∧ x ∈ S.ns ∧ ∀ (D : Addr) (H' : Hp), Same H H' → H D = none → H' D = some (.lst ((S.below x).map V.int)) → Q (.ref D) H'
theorem ok_below (T : Top K mg) : FnOk P w K mg base CX0 1 T.a_Linksbelow T.d_Linksbelow ["self", "x"] (spBelow T.C_Links) := by
  refine T.F_Linksbelow.ok sc_Linksbelow (fun vs H Q E h => ?_) (fun cdv A outer s H vs Q E hr h => ?_)
  · obtain ⟨A, S, x, rfl, _⟩ := h
    rfl
  · obtain ⟨A, S, x, rfl, L, m, q⟩ := h
    refine ⟨_, (pss_one (ps_ret (pe_lc (own := [("y", 2)]) (g := gName 2) (by rfl) sc_Linksbelow.nd (pi_tup (pe_tup (pa_cons (pe_dget (u1 hr) (pe_fld (pv 0) rfl) (pv 1) (fun _ _ => rfl)) (pa_cons (pe_dget (u1 hr) (pe_fld (pv 0) rfl) (pv 1) (fun _ _ => rfl)) pa_nil)))) (blkOk_by (own := [("y", 2)]) (N := ["self", "x", "y"]) (sc := defScope s_Linksbelow) (by decide +kernel)) (fun _ _ _ _ _ => (pg_name (i := 2) sc_Linksbelow.nd rfl (.inl rfl))) (fun _ _ _ _ _ => (pts_one (pt_cmpR op_notN (pv 2) pe_non (nomark _)))) (fun _ _ _ _ _ => (pv 2))))), ?_⟩
    refine rdL T L m rfl rfl (rdR T L m rfl rfl ⟨(by show 2 ≤ sizeLine; decide), fun p np => ⟨p, rfl, ⟨_, SqT.of upd_same⟩, fun D nD => ?_⟩⟩)
    have s1 := same_new (o := .tup [onV (S.l x), onV (S.r x)]) np
    have hp : upd H p (.tup [onV (S.l x), onV (S.r x)]) p = some (.tup [onV (S.l x), onV (S.r x)]) := upd_same
    generalize upd H p (.tup [onV (S.l x), onV (S.r x)]) = H1 at s1 hp nD ⊢
    refine lc_tup (K := K) (a := p) (xs := [onV (S.l x), onV (S.r x)]) (fun i G => Same H1 G ∧ G D = some (.lst ((([S.l x, S.r x].take i).filterMap id).map V.int))) ⟨same_new nD, upd_same⟩ (fun i G _ z => SqT.of (z.1 _ _ hp)) ?_ ?_
    · rintro i z G hz ⟨s2, hD⟩
      have hz2 : (([S.l x, S.r x] : List (Option Int)).map onV)[i]? = some z := hz
      rw [List.getElem?_map] at hz2
      obtain ⟨y, hy, rfl⟩ := Option.map_eq_some_iff.mp hz2
      rw [tk_at hy, List.filterMap_append]
      refine ⟨rfl, _, rfl, rfl, _, rfl, ?_⟩
      cases y with
      | none =>
        refine ifF rfl ⟨s2, ?_⟩
        rw [hD]
        show _ = some (HO.lst ((_ ++ []).map V.int))
        rw [List.append_nil]
      | some y =>
        refine ifT rfl ⟨_, rfl, _, hD, ?_, same_put s2 nD, ?_⟩
        · have z1 := List.length_filterMap_le id ([S.l x, S.r x].take i)
          rw [List.length_take] at z1
          rw [List.length_map]
          have z3 : [S.l x, S.r x].length = 2 := rfl
          exact szl (by omega)
        · rw [upd_same, List.map_append]
          rfl
    · rintro G ⟨s2, hD⟩
      exact q D G (s1.trans s2) (Same.none s1 nD) hD
theorem inV_two {x : Int} {y z : Option Int} : inV (.int x) [onV y, onV z] = (decide (y = some x) || decide (z = some x)) := by
  have one : ∀ u : Option Int, eqV (onV u) (.int x) = decide (u = some x) := fun u => by
    cases u with
    | none => rfl
    | some i =>
      show (i == x) = _
      by_cases e : i = x
      · subst e
        simp
      · rw [decide_eq_false fun z => e (Option.some.inj z)]
        exact beq_eq_false_iff_ne.mpr e
  show (eqV (onV y) (.int x) || (eqV (onV z) (.int x) || false)) = _
  rw [one, one, Bool.or_false]
def spIsTop (C : Addr) : Sp := fun vs H Q _ => ∃ (A : LA) (S : Lk Int) (x : Int), vs = [.ref A.h, .int x] ∧ LinksAt C H A S ∧ x ∈ S.ns ∧ Cl S ∧ ∀ (H' : Hp), Same H H' → Q (.bl (S.isTop x)) H'
theorem ok_istop (T : Top K mg) : FnOk P w K mg base CX0 1 T.a_Linksistop T.d_Linksistop ["self", "x"] (spIsTop T.C_Links) := by
  refine T.F_Linksistop.ok sc_Linksistop (fun vs H Q E h => ?_) (fun cdv A outer s H vs Q E hr h => ?_)
  · obtain ⟨A, S, x, rfl, _⟩ := h
    rfl
  · obtain ⟨A, S, x, rfl, L, m, cl, q⟩ := h
    refine ⟨_, (pss_cons (ps_set (i := 2) sc_Linksistop.nd rfl (.inl rfl) (pe_dget (u1 hr) (pe_fld (pv 0) rfl) (pv 1) (fun _ _ => rfl)))
      (pss_one (ps_ret (pe_or (pe_cmpR op_isN (pv 2) pe_non (nomark _)) (pe_one (pe_cmpR op_notIn_seq (pv 1) (pe_tup (pa_cons (pe_dget (u1 hr) (pe_fld (pv 0) rfl) (pv 2) (fun _ _ => rfl)) (pa_cons (pe_dget (u1 hr) (pe_fld (pv 0) rfl) (pv 2) (fun _ _ => rfl)) pa_nil))) (by rfl))))))), ?_⟩
    refine rdA T L m rfl rfl ⟨_, rfl, rfl, _, rfl, ?_⟩
    unfold Lk.isTop at q
    cases e : S.a x with
    | none =>
      rw [e] at q
      exact ifT rfl (q H (fun _ _ z => z))
    | some u =>
      rw [e] at q
      have mu := (cl x m).2.2 u e
      refine ifF rfl ⟨_, rfl, rdL T (i := 0) (j := 2) L mu rfl rfl (rdR T (i := 0) (j := 2) L mu rfl rfl ⟨(by show 2 ≤ sizeLine; decide), fun p np => ?_⟩)⟩
      refine ⟨p, _, rfl, .inr (SqT.of upd_same), rfl, ?_, ?_⟩
      · show (flatV (onV (S.l u)) && (flatV (onV (S.r u)) && true)) = true
        rw [onV_flat, onV_flat]
        rfl
      · show Q (.bl (!inV (.int x) [onV (S.l u), onV (S.r u)])) _
        rw [inV_two]
        exact q _ (same_new np)
theorem below_mem {S : Lk Int} (cl : Cl S) {x y : Int} (m : x ∈ S.ns) (h : y ∈ S.below x) : y ∈ S.ns := by
  unfold Lk.below at h
  obtain ⟨z, mz, e⟩ := List.mem_filterMap.mp h
  have e : z = some y := e
  subst e
  rcases List.mem_cons.mp mz with e | mz
  · exact (cl x m).1 y e.symm
  · exact (cl x m).2.1 y (List.mem_singleton.mp mz).symm
theorem swap_below {S : Lk Int} {x : Int} : ∀ y ∈ (S.swap x).below x, y ∈ S.below x := fun y h => by
  unfold Lk.below at h ⊢
  have e1 : (S.swap x).l x = S.r x := up1_same
  have e2 : (S.swap x).r x = S.l x := up1_same
  rw [e1, e2] at h
  obtain ⟨z, mz, e⟩ := List.mem_filterMap.mp h
  refine List.mem_filterMap.mpr ⟨z, ?_, e⟩
  rcases List.mem_cons.mp mz with rfl | mz
  · exact List.mem_cons_of_mem _ List.mem_cons_self
  · rw [List.mem_singleton.mp mz]
    exact List.mem_cons_self
def spPush (C : Addr) : Sp := fun vs H Q _ => ∃ (A : LA) (S : Lk Int) (x : Int), vs = [.ref A.h, .int x] ∧ LinksAt C H A S ∧ x ∈ S.ns ∧ Cl S ∧ ∀ (H' : Hp), ButA A H H' → LinksAt C H' A (S.push x) → Q .non H'
theorem ok_push (T : Top K mg) : FnOk P w K mg base CX0 2 T.a_Linkspush T.d_Linkspush ["self", "x"] (spPush T.C_Links) := by
  have G_Linksbelow : FnOk P w K mg base CX0 1 _ _ _ _ := ok_below T
  refine T.F_Linkspush.ok sc_Linkspush (fun vs H Q E h => ?_) (fun cdv A outer s H vs Q E hr h => ?_)
  · obtain ⟨A, S, x, rfl, _⟩ := h
    rfl
  · obtain ⟨A, S, x, rfl, L, m, cl, q⟩ := h
    refine ⟨_, (pss_one (ps_if (pt_val (pe_dget (u1 hr) (pe_fld (pv 0) rfl) (pv 1) (fun _ _ => rfl))) (pss_cons (ps_asg (pe_tup (pa_cons (pe_dget (u1 hr) (pe_fld (pv 0) rfl) (pv 1) (fun _ _ => rfl)) (pa_cons (pe_dget (u1 hr) (pe_fld (pv 0) rfl) (pv 1) (fun _ _ => rfl)) pa_nil))) (pg_tup rfl (pgs_cons (pg_sub (pe_fld (pv 0) rfl) (pv 1) (set_dict (u1 hr))) (pgs_cons (pg_sub (pe_fld (pv 0) rfl) (pv 1) (set_dict (u1 hr))) pgs_nil))))
      (pss_cons (ps_dput (u1 hr) (pe_fld (pv 0) rfl) (pv 1) pe_bl rfl)
      (pss_one (ps_for PassesOwn.never rfl (pi_list (pe_meth (pv 0) T.cl_Links T.me_Linksbelow G_Linksbelow hr T.b_Linksbelow .nil pass0 (pa_cons (pv 1) pa_nil))) (pg_name (i := 2) sc_Linkspush.nd rfl (.inl rfl)) (pss_one (ps_dput (u1 hr) (pe_fld (pv 0) rfl) (pv 2) (pe_not (pe_dget (u1 hr) (pe_fld (pv 0) rfl) (pv 2) (fun _ _ => rfl))) rfl)))))) pss_nil)), ?_⟩
    refine rdT T L m rfl rfl ⟨_, rfl, ?_⟩
    unfold Lk.push at q
    cases et : S.t x with
    | false =>
      rw [et] at q
      exact ifF rfl (q H ButA.refl L)
    | true =>
      rw [et] at q
      refine ifT rfl ?_
      refine rdR T L m rfl rfl (rdL T L m rfl rfl ⟨(by show 2 ≤ sizeLine; decide), fun p np => ?_⟩)
      have s1 := same_new (o := .tup [onV (S.r x), onV (S.l x)]) np
      refine ⟨p, _, rfl, SqT.of upd_same, rfl, _, _, rfl, ?_⟩
      refine wrL T (L.same s1) m rfl rfl fun H2 k2 L2 => ?_
      refine ⟨_, _, rfl, wrR T (i := 0) (j := 1) L2 m rfl rfl fun H3 k3 L3 => ⟨rfl, ?_⟩⟩
      refine wrT T (i := 0) (j := 1) (y := false) L3 m rfl rfl fun H4 k4 L4 => ?_
      have L4 : LinksAt T.C_Links H4 A (S.swap x) := L4
      have k14 := (((ButA.of_same (A := A) s1).trans k2).trans k3).trans k4
      obtain ⟨dx, hh⟩ := L4.ob
      refine ⟨_, rfl, A.h, dx, _, rfl, hh, fl_no _ _ (by decide +kernel) (by decide +kernel) (by decide +kernel) (by decide +kernel) (by decide +kernel), _, rfl, A, S.swap x, x, rfl, L4, m, fun D H5 s5 nD hD => ?_⟩
      have L5 := L4.same s5
      have nA : D ∉ A.as := L4.nnew nD
      have k5 := k14.same s5
      refine ⟨D, rfl, ⟨_, SqL.of hD⟩, for_list (K := K) (a := D) (xs := ((S.swap x).below x).map V.int) (fun i σ G => ∃ y2 : Option V, σ = [some (.ref A.h), some (.int x), y2] ∧ ButA A H5 G ∧ LinksAt T.C_Links G A { S.swap x with t := flips (S.swap x).t (((S.swap x).below x).take i) }) ⟨_, rfl, ButA.refl, L5⟩ (fun i σ G _ h => ?_) ?_ ?_⟩
      · obtain ⟨_, _, k, _⟩ := h
        exact SqL.of (k _ _ hD nA)
      · rintro i z σ G hz ⟨y2, rfl, k6, L6⟩
        rw [List.getElem?_map] at hz
        obtain ⟨y, hy, rfl⟩ := Option.map_eq_some_iff.mp hz
        have my : y ∈ S.ns := below_mem cl m (swap_below y (List.mem_of_getElem? hy))
        refine rdT T (i := 0) (j := 2) L6 my rfl rfl ⟨_, rfl, wrT T (i := 0) (j := 2) L6 my rfl rfl fun H7 k7 L7 => ⟨_, rfl, k6.trans k7, ?_⟩⟩
        have e : flips (S.swap x).t (((S.swap x).below x).take (i + 1)) = up1 (flips (S.swap x).t (((S.swap x).below x).take i)) y (!(flips (S.swap x).t (((S.swap x).below x).take i) y)) := by
          unfold flips
          rw [tk_at hy, List.foldl_append]
          rfl
        rw [e]
        exact L7
      · rintro σ G ⟨y2, rfl, k6, L6⟩
        rw [List.length_map, List.take_length] at L6
        exact q G (k5.trans k6) L6
end
theorem LinksAt.other {C : Addr} {H : Hp} {A : LA} {S : Lk Int} (L : LinksAt C H A S) {p : Addr} {o : HO} (n : p ∉ A.as) : LinksAt C (upd H p o) A S := L.keep fun b mb u e => by
  rw [upd_ne fun (z : b = p) => n (z ▸ mb)]
  exact e
theorem ButA.putN {A : LA} {H H1 : Hp} {p : Addr} {o : HO} (k : ButA A H H1) (n : H p = none) : ButA A H (upd H1 p o) := fun b u e nb => by
  rw [upd_ne (ne_of_none e n)]
  exact k b u e nb
theorem fl_meth (A : LA) (k : Int) {m : Str} (h : decide (m = "left") = false ∧ decide (m = "right") = false ∧ decide (m = "above") = false ∧ decide (m = "turned") = false ∧ decide (m = "looked") = false) : (fldsL A k).lookup m = none :=
  fl_no A k (lnE _ _ h.1) (lnE _ _ h.2.1) (lnE _ _ h.2.2.1) (lnE _ _ h.2.2.2.1) (lnE _ _ h.2.2.2.2)
section
variable {P : Program} {w : World} {K : PySem.W.Frag} {mg : Str → Option Value} {base : Heap}
def spIo (C : Addr) : Sp := fun vs H Q _ => ∃ (A : LA) (S S' : Lk Int) (top : Option Int) (k : Nat) (names : List Int), vs = [.ref A.h, onV top] ∧ LinksAt C H A S ∧ (∀ x, top = some x → x ∈ S.ns) ∧ Cl S ∧ S.io k top [] [] = some (S', names) ∧ k ≤ 10000 ∧
  ∀ (D : Addr) (H' : Hp), ButA A H H' → H D = none → LinksAt C H' A S' → H' D = some (.lst (names.map V.int)) → Q (.ref D) H'
theorem ok_io (T : Top K mg) : FnOk P w K mg base CX0 3 T.a_Linksinorder T.d_Linksinorder ["self", "top"] (spIo T.C_Links) := by
  have G_Linkspush : FnOk P w K mg base CX0 2 _ _ _ _ := ok_push T
  refine T.F_Linksinorder.ok sc_Linksinorder (fun vs H Q E h => ?_) (fun cdv A outer s H vs Q E hr h => ?_)
  · obtain ⟨A, S, S', top, k, names, rfl, _⟩ := h
    rfl
  · obtain ⟨A, S, SE, top, k, names, rfl, L, mt, cl, hio, lk, q⟩ := h
    refine ⟨_, (pss_cons (ps_set (i := 2) sc_Linksinorder.nd rfl (.inl rfl) (pe_lst pa_nil))
      (pss_cons (ps_set (i := 3) sc_Linksinorder.nd rfl (.inl rfl) (pe_lst pa_nil))
      (pss_cons (ps_set (i := 4) sc_Linksinorder.nd rfl (.inl rfl) (pv 1))
      (pss_cons (ps_while PassesOwn.never (PW.pt (pw_or (pt_cmpR op_notN (pv 4) pe_non (nomark _)) (pw_or1 (pt_truth (pv 3) (by intro _; rfl))))) (pss_one (ps_if (pt_cmpR op_isN (pv 4) pe_non (nomark _)) (pss_cons (ps_set (i := 4) sc_Linksinorder.nd rfl (.inl rfl) (pe_bm0 PySem.F.plainAttrs_list PySem.F.slot_list_pop PySem.F.type_list_pop mt_pop (pv 3)))
      (pss_cons (ps_expr (pe_bm PySem.F.plainAttrs_list PySem.F.slot_list_append PySem.F.type_list_append mt_append (pv 2) (pa_cons (pv 4) pa_nil)))
      (pss_one (ps_set (i := 4) sc_Linksinorder.nd rfl (.inl rfl) (pe_dget (u1 hr) (pe_fld (pv 0) rfl) (pv 4) (fun _ _ => rfl)))))) (pss_cons (ps_expr (pe_meth (pv 0) T.cl_Links T.me_Linkspush G_Linkspush hr T.b_Linkspush .nil pass0 (pa_cons (pv 4) pa_nil)))
      (pss_cons (ps_expr (pe_bm PySem.F.plainAttrs_list PySem.F.slot_list_append PySem.F.type_list_append mt_append (pv 3) (pa_cons (pv 4) pa_nil)))
      (pss_one (ps_set (i := 4) sc_Linksinorder.nd rfl (.inl rfl) (pe_dget (u1 hr) (pe_fld (pv 0) rfl) (pv 4) (fun _ _ => rfl)))))))))
      (pss_one (ps_ret (pv 2))))))), ?_⟩
    refine ⟨Nat.zero_le _, fun p np => ⟨Nat.zero_le _, fun W nW => ?_⟩⟩
    have s1 := (same_new (o := .lst ([] : List V)) np).trans (same_new (o := .lst ([] : List V)) nW)
    have nW0 := Same.none (same_new np) nW
    have pA : p ∉ A.as := L.nnew np
    have WA : W ∉ A.as := L.nnew nW0
    have Wp : W ≠ p := fun z => by
      rw [z, upd_same] at nW
      exact nomatch nW
    have hp0 : upd (upd H p (.lst ([] : List V))) W (.lst ([] : List V)) p = some (.lst []) := by rw [upd_ne Wp.symm, upd_same]
    have hW0 : upd (upd H p (.lst ([] : List V))) W (.lst ([] : List V)) W = some (.lst []) := upd_same
    refine ⟨_, rfl, ⟨fun j σ G => ∃ (Sc : Lk Int) (x : Option Int) (ws ns : List Int), σ = [some (.ref A.h), some (onV top), some (.ref p), some (.ref W), some (onV x)] ∧ ButA A H G ∧ LinksAt T.C_Links G A Sc ∧ Cl Sc ∧ (∀ y, x = some y → y ∈ Sc.ns) ∧ (∀ y ∈ ws, y ∈ Sc.ns) ∧ G p = some (.lst (ns.map V.int)) ∧ G W = some (.lst ((ws.reverse).map V.int)) ∧ Sc.io j x ws ns = some (SE, names) ∧ ws.length + ns.length + j ≤ 20000 ∧ ws.length + j ≤ 10000, ⟨k, S, top, [], [], rfl, ButA.of_same s1, L.same s1, cl, mt, (fun _ h => nomatch h), hp0, hW0, hio, by show 0 + 0 + k ≤ 20000; omega, by show 0 + k ≤ 10000; omega⟩, ?_⟩⟩
    rintro j σ G ⟨Sc, x, ws, ns, rfl, kG, LG, clG, mx, mw, hp, hW, hj, b1, b2⟩
    cases j with
    | zero => cases x <;> exact nomatch hj
    | succ j =>
    refine ⟨_, rfl, rfl, _, rfl, ?_⟩
    cases x with
    | some x =>
      have mx := mx x rfl
      have hj : (Sc.push x).io j ((Sc.push x).l x) (x :: ws) ns = some (SE, names) := hj
      refine ifT rfl ?_
      refine ⟨fun σ G => ∃ (Sc : Lk Int) (x : Option Int) (ws ns : List Int), σ = [some (.ref A.h), some (onV top), some (.ref p), some (.ref W), some (onV x)] ∧ ButA A H G ∧ LinksAt T.C_Links G A Sc ∧ Cl Sc ∧ (∀ y, x = some y → y ∈ Sc.ns) ∧ (∀ y ∈ ws, y ∈ Sc.ns) ∧ G p = some (.lst (ns.map V.int)) ∧ G W = some (.lst ((ws.reverse).map V.int)) ∧ Sc.io j x ws ns = some (SE, names) ∧ ws.length + ns.length + j ≤ 20000 ∧ ws.length + j ≤ 10000, fun σ' G' h => ⟨j, Nat.lt_succ_self j, h⟩, ?_⟩
      refine ⟨_, rfl, rfl, _, rfl, ifF rfl ?_⟩
      obtain ⟨dx, hh⟩ := LG.ob
      refine ⟨_, rfl, A.h, dx, _, rfl, hh, fl_meth _ _ (by decide +kernel), _, rfl, A, Sc, x, rfl, LG, mx, clG, fun G2 k2 L2 => ?_⟩
      have hp2 := k2 _ _ hp pA
      have hW2 := k2 _ _ hW WA
      obtain ⟨c2, n2⟩ := cl_push clG mx
      refine ⟨_, rfl, .inl ⟨rfl, _, SqL.of hW2⟩, _, rfl, W, _, _, rfl, rfl, hW2, ?_, ?_⟩
      · rw [List.length_map, List.length_reverse]
        exact szl (by omega)
      have L3 := L2.other (o := .lst (ws.reverse.map V.int ++ [V.int x])) WA
      refine rdL T (i := 0) (j := 4) L3 (by rw [n2]; exact mx) rfl rfl ?_
      refine ⟨_, _, x :: ws, ns, rfl, (kG.trans k2).putN nW0, L3, c2, fun y e => (c2 x (by rw [n2]; exact mx)).1 y e, fun y my => ?_, by rw [upd_ne Wp.symm]; exact hp2, ?_, hj, by rw [List.length_cons]; omega, by rw [List.length_cons]; omega⟩
      · rw [n2]
        rcases List.mem_cons.mp my with rfl | my
        · exact mx
        · exact mw y my
      · rw [upd_same, List.reverse_cons, List.map_append]
        rfl
    | none =>
      refine ifF rfl ⟨_, rfl, !(ws.reverse.map V.int).isEmpty, .inl ⟨_, SqL.of hW, rfl⟩, ?_⟩
      cases ws with
      | nil =>
        have hj : some (Sc, ns) = some (SE, names) := hj
        cases hj
        exact ifF rfl ⟨_, rfl, q p G kG np LG hp⟩
      | cons x ws =>
        have hj : Sc.io j (Sc.r x) ws (ns ++ [x]) = some (SE, names) := hj
        have mx := mw x List.mem_cons_self
        have er : (x :: ws).reverse.map V.int = ws.reverse.map V.int ++ [V.int x] := by
          rw [List.reverse_cons, List.map_append]
          rfl
        rw [er] at hW ⊢
        refine ifT (by simp) ?_
        refine ⟨fun σ G => ∃ (Sc : Lk Int) (x : Option Int) (ws ns : List Int), σ = [some (.ref A.h), some (onV top), some (.ref p), some (.ref W), some (onV x)] ∧ ButA A H G ∧ LinksAt T.C_Links G A Sc ∧ Cl Sc ∧ (∀ y, x = some y → y ∈ Sc.ns) ∧ (∀ y ∈ ws, y ∈ Sc.ns) ∧ G p = some (.lst (ns.map V.int)) ∧ G W = some (.lst ((ws.reverse).map V.int)) ∧ Sc.io j x ws ns = some (SE, names) ∧ ws.length + ns.length + j ≤ 20000 ∧ ws.length + j ≤ 10000, fun σ' G' h => ⟨j, Nat.lt_succ_self j, h⟩, ?_⟩
        rw [List.length_cons] at b1 b2
        refine ⟨_, rfl, rfl, _, rfl, ifT rfl ?_⟩
        refine ⟨_, rfl, .inl ⟨rfl, _, SqL.of hW⟩, W, _, .int x, rfl, rfl, hW, by simp, ?_⟩
        rw [List.dropLast_concat]
        have L2 := LG.other (o := .lst (ws.reverse.map V.int)) WA
        have hp2 : upd G W (.lst (ws.reverse.map V.int)) p = some (.lst (ns.map V.int)) := by rw [upd_ne Wp.symm]; exact hp
        have hW2 : upd G W (.lst (ws.reverse.map V.int)) W = some (.lst (ws.reverse.map V.int)) := upd_same
        have k2 := kG.putN (o := .lst (ws.reverse.map V.int)) nW0
        generalize upd G W (.lst (ws.reverse.map V.int)) = G2 at L2 hp2 hW2 k2 ⊢
        refine ⟨_, rfl, .inl ⟨rfl, _, SqL.of hp2⟩, _, rfl, p, _, _, rfl, rfl, hp2, ?_, ?_⟩
        · rw [List.length_map]
          exact szl (by omega)
        have L3 := L2.other (o := .lst (ns.map V.int ++ [V.int x])) pA
        refine rdR T (i := 0) (j := 4) L3 mx rfl rfl ?_
        refine ⟨Sc, _, ws, ns ++ [x], rfl, k2.putN np, L3, clG, fun y e => (clG x mx).2.1 y e, fun y my => mw y (List.mem_cons_of_mem _ my), ?_, by rw [upd_ne Wp]; exact hW2, hj, by rw [List.length_append]; show ws.length + (ns.length + 1) + j ≤ 20000; omega, by omega⟩
        rw [upd_same, List.map_append]
        rfl
end
section
variable {P : Program} {w : World} {K : PySem.W.Frag} {mg : Str → Option Value} {base : Heap}
def rowL (S : Lk Int) (x : Int) : LRow := ⟨x, S.l x, S.r x, S.a x, S.t x⟩
def spShape (C : Addr) : Sp := fun vs H Q _ => ∃ (A : LA) (S : Lk Int), vs = [.ref A.h] ∧ LinksAt C H A S ∧ ∀ (t : Addr) (H' : Hp) (vs : List V) (ms : List Int), Same H H' → ms.Perm S.ns → ms.Pairwise (· ≤ ·) → H t = none → H' t = some (.tup vs) → TAll H' vs (ms.map (rowL S)) → Q (.ref t) H'
theorem ok_shape (T : Top K mg) : FnOk P w K mg base CX0 1 T.a_Linksshape T.d_Linksshape ["self"] (spShape T.C_Links) := by
  refine T.F_Linksshape.ok sc_Linksshape (fun vs H Q E h => ?_) (fun cdv A outer s H vs Q E hr h => ?_)
  · obtain ⟨A, S, rfl, _⟩ := h
    rfl
  · obtain ⟨A, S, rfl, L, q⟩ := h
    obtain ⟨dx, hh⟩ := L.ob
    refine ⟨_, (pss_cons (ps_set (i := 1) sc_Linksshape.nd rfl (.inl rfl) (pe_callB cr_sortedI (by rfl) T.m_sorted (by decide +kernel) (pa_cons (pe_callTy (call_listD rfl) (by rfl) T.m_list (by decide +kernel) (pa_cons (pe_fld (pv 0) rfl) pa_nil)) pa_nil)))
      (pss_one (ps_ret (pe_callTy call_tuple_of (by rfl) T.m_tuple (by decide +kernel) (pa_cons (pe_lc (own := [("x", 2)]) (g := gName 2) (tt := tYes) (by rfl) sc_Linksshape.nd (pi_list (pv 1)) (blkOk_by (own := [("x", 2)]) (N := ["self", "names", "x"]) (sc := defScope s_Linksshape) (by decide +kernel)) (fun _ _ _ _ _ => (pg_name (i := 2) sc_Linksshape.nd rfl (.inl rfl))) (fun _ _ _ _ _ => pts_nil) (fun _ _ _ _ _ => (pe_tup (pa_cons (pv 2) (pa_cons (pe_dget (u1 hr) (pe_fldK (K := K) rfl (pv 0) rfl) (pv 2) (fun _ _ => rfl)) (pa_cons (pe_dget (u1 hr) (pe_fldK (K := K) rfl (pv 0) rfl) (pv 2) (fun _ _ => rfl)) (pa_cons (pe_dget (u1 hr) (pe_fldK (K := K) rfl (pv 0) rfl) (pv 2) (fun _ _ => rfl)) (pa_cons (pe_dget (u1 hr) (pe_fldK (K := K) rfl (pv 0) rfl) (pv 2) (fun _ _ => rfl)) pa_nil)))))))) pa_nil))))), ?_⟩
    refine ⟨_, rfl, A.h, T.C_Links, dx, _, _, rfl, hh, T.cl_Links, T.na_Links_above, fl_above _ _, A.da, _, rfl, .inl L.ha, fun p0 np0 => ?_⟩
    have s1 := same_new (o := .lst ((dN S.ns fun x => onV (S.a x)).map fun kv => kV kv.1)) np0
    have e0 : (dN S.ns fun x => onV (S.a x)).map (fun kv => kV kv.1) = S.ns.map V.int := by
      unfold dN
      rw [List.map_map]
      rfl
    have h0 : upd H p0 (.lst ((dN S.ns fun x => onV (S.a x)).map fun kv => kV kv.1)) p0 = some (.lst (S.ns.map V.int)) := by rw [upd_same, e0]
    generalize upd H p0 (.lst ((dN S.ns fun x => onV (S.a x)).map fun kv => kV kv.1)) = H1 at s1 h0 ⊢
    refine ⟨p0, S.ns, rfl, SqL.of h0, fun ms p1 pm srt np1 => ?_⟩
    have s2 := s1.trans (same_new (o := .lst (ms.map V.int)) np1)
    have h1 : upd H1 p1 (.lst (ms.map V.int)) p1 = some (.lst (ms.map V.int)) := upd_same
    generalize upd H1 p1 (.lst (ms.map V.int)) = H2 at s2 h1 ⊢
    have sz := L.sz
    have lm := pm.length_eq
    refine ⟨_, rfl, p1, rfl, ⟨_, SqL.of h1⟩, fun D nD => ?_⟩
    refine lc_list (K := K) (a := p1) (xs := ms.map V.int) (fun i G => Same H2 G ∧ ∃ vs, G D = some (.lst vs) ∧ TAll G vs ((ms.take i).map (rowL S))) ⟨same_new nD, [], upd_same, .nil⟩ (fun i G _ z => SqL.of (z.1 _ _ h1)) ?_ ?_
    · rintro i v G hv ⟨s3, vs, hD, ta⟩
      rw [List.getElem?_map] at hv
      obtain ⟨x, hx, rfl⟩ := Option.map_eq_some_iff.mp hv
      have mx : x ∈ S.ns := pm.mem_iff.mp (List.mem_of_getElem? hx)
      have L3 := L.same (s2.trans s3)
      have lv := ta.length
      rw [List.length_map, List.length_take] at lv
      refine ⟨rfl, yes_ite ⟨_, rfl, rdL T (i := 0) (j := 2) L3 mx rfl rfl (rdR T (i := 0) (j := 2) L3 mx rfl rfl (rdA T (i := 0) (j := 2) L3 mx rfl rfl (rdT T (i := 0) (j := 2) L3 mx rfl rfl ⟨(by show 5 ≤ sizeLine; decide), fun t nt => ?_⟩)))⟩⟩
      have s4 := same_new (o := .tup (rowL S x).vs) nt
      have ht : upd G t (.tup (rowL S x).vs) t = some (.tup (rowL S x).vs) := upd_same
      show ∃ acc, _
      have hD4 := s4 _ _ hD
      have ta4 := ta.same s4
      refine ⟨vs, hD4, szl (by omega), same_put (s3.trans s4) nD, vs ++ [.ref t], upd_same, ?_⟩
      rw [tk_at hx, List.map_append]
      refine (ta4.snoc ht).mono fun p r e => ?_
      rw [upd_ne fun z => ?_]
      · exact e
      · rw [z, hD4] at e
        exact nomatch e
    · rintro G ⟨s3, vs, hD, ta⟩
      rw [List.length_map, List.take_length] at ta
      refine ⟨D, _, rfl, .inl ⟨SqL.of hD, fun t nt => ?_⟩⟩
      have s4 := s2.trans (s3.trans (same_new (o := .tup vs) nt))
      exact q t _ vs ms s4 pm srt (Same.none (s2.trans s3) nt) upd_same (ta.same (same_new nt))
end
/-! ### links of a shape; whether names lead from one to another -/
theorem takes_ns : ∀ {ms : List Int} {S L : Lk Int}, ms.Nodup → (∀ x ∈ ms, x ∉ L.ns) → (L.takes (ms.map (rowL S))).ns = L.ns ++ ms ∧ (∀ x ∈ ms, Agr S (L.takes (ms.map (rowL S))) x) ∧ (∀ x, x ∉ ms → Agr L (L.takes (ms.map (rowL S))) x) ∧ (L.takes (ms.map (rowL S))).lk = L.lk
  | [], S, L, _, _ => ⟨(List.append_nil _).symm, (fun x m => nomatch m), (fun x _ => Agr.refl), rfl⟩
  | y :: ms, S, L, nd, no => by
    obtain ⟨n1, n2⟩ := List.nodup_cons.mp nd
    have nL : y ∉ L.ns := no y List.mem_cons_self
    have en : (L.put (rowL S y)).ns = L.ns ++ [y] := by
      show addN L.ns y = _
      unfold addN
      rw [if_neg nL]
    have no2 : ∀ x ∈ ms, x ∉ (L.put (rowL S y)).ns := fun x m => by
      rw [en]
      intro z
      rcases List.mem_append.mp z with z | z
      · exact no x (List.mem_cons_of_mem _ m) z
      · exact n1 (List.mem_singleton.mp z ▸ m)
    obtain ⟨h1, h2, h3, h4⟩ := takes_ns (S := S) (L := L.put (rowL S y)) n2 no2
    refine ⟨?_, fun x m => ?_, fun x m => ?_, h4⟩
    · show ((L.put (rowL S y)).takes (ms.map (rowL S))).ns = _
      rw [h1, en, List.append_assoc]
      rfl
    · rcases List.mem_cons.mp m with rfl | m
      · have a := h3 x n1
        refine Agr.trans ?_ a
        exact ⟨up1_same, up1_same, up1_same, up1_same⟩
      · exact h2 x m
    · have ne : x ≠ y := fun e => m (e ▸ List.mem_cons_self)
      have a := h3 x fun z => m (List.mem_cons_of_mem _ z)
      refine Agr.trans ?_ a
      exact ⟨up1_ne ne, up1_ne ne, up1_ne ne, up1_ne ne⟩
section
variable {P : Program} {w : World} {K : PySem.W.Frag} {mg : Str → Option Value} {base : Heap}
def spTakeRowsT (C : Addr) : Sp := fun vs H Q _ => ∃ (A : LA) (S : Lk Int) (q : Addr) (xs : List V) (rs : List LRow), vs = [.ref A.h, .ref q] ∧ LinksAt C H A S ∧ H q = some (.tup xs) ∧ TAll H xs rs ∧ S.ns.length + rs.length ≤ 1000 ∧ ∀ H', ButA A H H' → LinksAt C H' A (S.takes rs) → Q .non H'
theorem ok_takerowsT (T : Top K mg) : FnOk P w K mg base CX0 1 T.a_Linkstakerows T.d_Linkstakerows ["self", "shape"] (spTakeRowsT T.C_Links) := by
  refine T.F_Linkstakerows.ok sc_Linkstakerows (fun vs H Q E h => ?_) (fun cdv A outer s H vs Q E hr h => ?_)
  · obtain ⟨A, S, q, xs, rs, rfl, _⟩ := h
    rfl
  · obtain ⟨A, S, b, xs, rs, rfl, L0, hb, ta, sz, q⟩ := h
    have nb : b ∉ A.as := L0.nin hb (by intro dx fs z; cases z) (by intro kvs z; cases z)
    have lx := ta.length
    refine ⟨_, (pss_one (ps_for PassesOwn.never rfl (pi_tup (pv 1)) (pg_tup rfl (pgs_cons (pg_name (i := 2) sc_Linkstakerows.nd rfl (.inl rfl)) (pgs_cons (pg_name (i := 3) sc_Linkstakerows.nd rfl (.inl rfl)) (pgs_cons (pg_name (i := 4) sc_Linkstakerows.nd rfl (.inl rfl)) (pgs_cons (pg_name (i := 5) sc_Linkstakerows.nd rfl (.inl rfl)) (pgs_cons (pg_name (i := 6) sc_Linkstakerows.nd rfl (.inl rfl)) pgs_nil)))))) (pss_cons (ps_dput (u1 hr) (pe_fld (pv 0) rfl) (pv 2) (pv 3) rfl)
      (pss_cons (ps_dput (u1 hr) (pe_fld (pv 0) rfl) (pv 2) (pv 4) rfl)
      (pss_cons (ps_dput (u1 hr) (pe_fld (pv 0) rfl) (pv 2) (pv 5) rfl)
      (pss_one (ps_dput (u1 hr) (pe_fld (pv 0) rfl) (pv 2) (pv 6) rfl))))))), ?_⟩
    refine ⟨_, rfl, b, rfl, ⟨_, SqT.of hb⟩, for_it (walk_tup (xs := xs)) (fun i σ G => ∃ y2 y3 y4 y5 y6 : Option V, σ = [some (.ref A.h), some (.ref b), y2, y3, y4, y5, y6] ∧ ButA A H G ∧ LinksAt T.C_Links G A (S.takes (rs.take i))) ⟨_, _, _, _, _, rfl, ButA.refl, L0⟩ (fun i σ G _ h => ?_) ?_ ?_⟩
    · obtain ⟨_, _, _, _, _, _, k, _⟩ := h
      exact SqT.of (k _ _ hb nb)
    · rintro i x σ G G' hi ⟨y2, y3, y4, y5, y6, rfl, k, L⟩ ⟨rfl, hx⟩
      obtain ⟨p, r, rfl, hr2, hp⟩ := ta.at hx
      have np : p ∉ A.as := L0.nin hp (by intro dx fs z; cases z) (by intro kvs z; cases z)
      have li := (List.getElem?_eq_some_iff.mp hr2).1
      refine ⟨p, r.vs, rfl, SqT.of (k _ _ hp np), rfl, _, _, rfl, _, _, rfl, _, _, rfl, _, _, rfl, _, _, rfl, rfl, ?_⟩
      have sz1 : (S.takes (rs.take i)).ns.length < 1000 := by
        have z := takes_len (rs := rs.take i) (S := S)
        rw [List.length_take] at z
        omega
      have hz : (S.takes (rs.take i)).ns.length < sizeLine := szl (by omega)
      obtain ⟨dx, hh⟩ := L.ob
      obtain ⟨h1, h2, h3, h4⟩ := L.hn
      refine ⟨_, rfl, _, rfl, A.h, T.C_Links, dx, _, _, rfl, hh, T.cl_Links, T.na_Links_left, fl_left _ _, _, rfl, A.dl, _, rfl, DPut.k (k := Sum.inl r.x) L.hl (by rw [dN_len]; exact hz), ?_⟩
      refine ⟨_, rfl, _, rfl, A.h, T.C_Links, dx, _, _, rfl, (by rw [upd_ne h1]; exact hh), T.cl_Links, T.na_Links_right, fl_right _ _, _, rfl, A.dr, _, rfl, DPut.k (k := Sum.inl r.x) (by rw [upd_ne L.n1.symm]; exact L.hr) (by rw [dN_len]; exact hz), ?_⟩
      refine ⟨_, rfl, _, rfl, A.h, T.C_Links, dx, _, _, rfl, (by rw [upd_ne h2, upd_ne h1]; exact hh), T.cl_Links, T.na_Links_above, fl_above _ _, _, rfl, A.da, _, rfl, DPut.k (k := Sum.inl r.x) (by rw [upd_ne L.n4.symm, upd_ne L.n2.symm]; exact L.ha) (by rw [dN_len]; exact hz), ?_⟩
      refine ⟨_, rfl, _, rfl, A.h, T.C_Links, dx, _, _, rfl, (by rw [upd_ne h3, upd_ne h2, upd_ne h1]; exact hh), T.cl_Links, T.na_Links_turned, fl_turned _ _, _, rfl, A.dt, _, rfl, DPut.k (k := Sum.inl r.x) (by rw [upd_ne L.n6.symm, upd_ne L.n5.symm, upd_ne L.n3.symm]; exact L.ht) (by rw [dN_len]; exact hz), ?_⟩
      refine ⟨_, _, _, _, _, rfl, (((k.put A.ml).put A.mr).put A.ma).put A.mt, ?_⟩
      rw [tk_at hr2, takes_snoc]
      exact L.put r sz1
    · rintro σ G ⟨y2, y3, y4, y5, y6, rfl, k, L⟩
      rw [lx, List.take_length] at L
      exact q G k L
def spLinksOf (C : Addr) : Sp := fun vs H Q _ => ∃ (t : Addr) (xs : List V) (rs : List LRow), vs = [.ref t] ∧ H t = some (.tup xs) ∧ TAll H xs rs ∧ rs.length ≤ 1000 ∧ ∀ (A : LA) (H' : Hp), (∀ b ∈ A.as, H b = none) → Same H H' → LinksAt C H' A (emptyLk.takes rs) → Q (.ref A.h) H'
theorem ok_linksof (T : Top K mg) : FnOk P w K mg base CX0 3 T.a_linksof T.d_linksof ["shape"] (spLinksOf T.C_Links) := by
  have G_Linksinit : FnOk P w K mg base CX0 1 _ _ _ _ := ok_linit T
  have G_Linkstakerows : FnOk P w K mg base CX0 1 _ _ _ _ := ok_takerowsT T
  refine T.F_linksof.ok sc_linksof (fun vs H Q E h => ?_) (fun cdv A outer s H vs Q E hr h => ?_)
  · obtain ⟨t, xs, rs, rfl, _⟩ := h
    rfl
  · obtain ⟨t, xs, rs, rfl, ht, ta, lr, q⟩ := h
    refine ⟨_, (pss_cons (ps_set (i := 1) sc_linksof.nd rfl (.inl rfl) (pe_make0 T.mk_Links G_Linksinit (hr.mono (by decide)) (by rfl) T.mg_Links T.b_Linksinit .nil pass0))
      (pss_cons (ps_expr (pe_meth (pv 1) T.cl_Links T.me_Linkstakerows G_Linkstakerows (hr.mono (by decide)) T.b_Linkstakerows .nil pass0 (pa_cons (pv 0) pa_nil)))
      (pss_one (ps_ret (pv 1))))), ?_⟩
    refine fun p px np npx ne => ⟨p, px, rfl, upd_same, fun A H1 eA nA L1 k1 => ⟨rfl, ?_⟩⟩
    have kk : Same H H1 := fun c o e => k1 c o (by rw [upd_ne (ne_of_none e np), upd_ne (ne_of_none e npx)]; exact e) (ne_of_none e np)
    have nAs : ∀ b ∈ A.as, H b = none := fun b mb => by
      by_cases e : b = p
      · rw [e]
        exact np
      · have z := nA b mb e
        cases eh : H b with
        | none => rfl
        | some o =>
          rw [upd_ne e, upd_ne (ne_of_none eh npx), eh] at z
          exact nomatch z
    subst eA
    obtain ⟨dx, hh⟩ := L1.ob
    refine ⟨_, rfl, A.h, dx, _, rfl, hh, fl_meth _ _ (by decide +kernel), _, rfl, A, emptyLk, t, xs, rs, rfl, L1, kk _ _ ht, ta.same kk, by show 0 + rs.length ≤ 1000; omega, fun H2 k2 L2 => ?_⟩
    exact ⟨_, rfl, q A H2 nAs (fun c o e => k2 _ _ (kk _ _ e) fun m => by rw [nAs c m] at e; exact nomatch e) L2⟩
/-- the shape ms.map (rowL S) stands at t -/
def ShapeAt (H : Hp) (t : Addr) (S : Lk Int) (ms : List Int) : Prop := ∃ xs, H t = some (.tup xs) ∧ TAll H xs (ms.map (rowL S))
theorem ShapeAt.same {H H' : Hp} {t : Addr} {S : Lk Int} {ms : List Int} (h : ShapeAt H t S ms) (s : Same H H') : ShapeAt H' t S ms := by
  obtain ⟨xs, h1, h2⟩ := h
  exact ⟨xs, s _ _ h1, h2.same s⟩
end
theorem LinksAt.congr {C : Addr} {H : Hp} {A : LA} {S S' : Lk Int} (L : LinksAt C H A S) (en : S'.ns = S.ns) (ek : S'.lk = S.lk) (h : ∀ x ∈ S.ns, Agr S S' x) : LinksAt C H A S' := by
  obtain ⟨dx, e⟩ := L.ob
  refine ⟨⟨dx, by rw [ek]; exact e⟩, ?_, ?_, ?_, ?_, L.n1, L.n2, L.n3, L.n4, L.n5, L.n6, by rw [en]; exact L.nn, by rw [en]; exact L.sz⟩
  · rw [L.hl, en]
    exact congrArg (fun z => some (HO.dK z)) (dN_congr fun x m => by rw [(h x m).1])
  · rw [L.hr, en]
    exact congrArg (fun z => some (HO.dK z)) (dN_congr fun x m => by rw [(h x m).2.1])
  · rw [L.ha, en]
    exact congrArg (fun z => some (HO.dK z)) (dN_congr fun x m => by rw [(h x m).2.2.1])
  · rw [L.ht, en]
    exact congrArg (fun z => some (HO.dK z)) (dN_congr fun x m => by rw [(h x m).2.2.2])

end My
namespace My
open PySem PySem.Spec PyProof.Rows L2
/-! ### the law's own tree: a dict of lists -/
def cel (S : Lk Int) (x : Int) : List V := [onV (S.l x), onV (S.r x), onV (S.a x)]
structure TreeAt (H : Hp) (d : Addr) (ls : Int → Addr) (S : Lk Int) : Prop where
  hd : H d = some (.dK (dN S.ns fun x => .ref (ls x)))
  at' : ∀ x ∈ S.ns, H (ls x) = some (.lst (cel S x))
  inj : ∀ x ∈ S.ns, ∀ y ∈ S.ns, ls x = ls y → x = y
/-- all but the tree's lists as it was -/
def ButT (ls : Int → Addr) (ns : List Int) (H H' : Hp) : Prop := ∀ b o, H b = some o → (∀ x ∈ ns, b ≠ ls x) → H' b = some o
section
variable {H H' : Hp} {d : Addr} {ls : Int → Addr} {S : Lk Int}
theorem TreeAt.same (A : TreeAt H d ls S) (s : Same H H') : TreeAt H' d ls S := ⟨s _ _ A.hd, fun x m => s _ _ (A.at' x m), A.inj⟩
theorem TreeAt.keep (A : TreeAt H d ls S) (s : ∀ b o, H b = some o → (b = d ∨ ∃ x ∈ S.ns, b = ls x) → H' b = some o) : TreeAt H' d ls S := ⟨s _ _ A.hd (.inl rfl), fun x m => s _ _ (A.at' x m) (.inr ⟨x, m, rfl⟩), A.inj⟩
theorem TreeAt.nd (A : TreeAt H d ls S) {x : Int} (m : x ∈ S.ns) : d ≠ ls x := ne_of A.hd (A.at' x m) (by intro z; cases z)
theorem TreeAt.dn (A : TreeAt H d ls S) : ∀ x ∈ S.ns, d ≠ ls x := fun x m => A.nd m
theorem TreeAt.upd (A : TreeAt H d ls S) {x : Int} (m : x ∈ S.ns) {S' : Lk Int} (en : S'.ns = S.ns) {xs : List V} (ex : xs = cel S' x) (eo : ∀ z ∈ S.ns, z ≠ x → cel S' z = cel S z) : TreeAt (upd H (ls x) (.lst xs)) d ls S' := by
  refine ⟨?_, fun z mz => ?_, by rw [en]; exact A.inj⟩
  · rw [upd_ne (A.nd m), en]
    exact A.hd
  · rw [en] at mz
    by_cases c : z = x
    · rw [c, upd_same, ex]
    · rw [upd_ne fun e => c (A.inj z mz x m e), eo z mz c]
      exact A.at' z mz
theorem ButT.refl {ns : List Int} : ButT ls ns H H := fun _ _ e _ => e
theorem ButT.trans {ns : List Int} {H2 : Hp} (x : ButT ls ns H H') (y : ButT ls ns H' H2) : ButT ls ns H H2 := fun b o e n => y b o (x b o e n) n
theorem ButT.of_same {ns : List Int} (s : Same H H') : ButT ls ns H H' := fun b o e _ => s b o e
theorem ButT.same {ns : List Int} {H2 : Hp} (x : ButT ls ns H H') (s : Same H' H2) : ButT ls ns H H2 := fun b o e n => s b o (x b o e n)
theorem ButT.put {ns : List Int} {x : Int} {o : HO} (k : ButT ls ns H H') (m : x ∈ ns) : ButT ls ns H (L2.upd H' (ls x) o) := fun b u e n => by
  rw [upd_ne (n x m)]
  exact k b u e n
theorem ButT.putN {ns : List Int} {p : Addr} {o : HO} (k : ButT ls ns H H') (n : H p = none) : ButT ls ns H (L2.upd H' p o) := fun b u e nb => by
  rw [upd_ne (ne_of_none e n)]
  exact k b u e nb
theorem TreeAt.setL (A : TreeAt H d ls S) {x : Int} {y : Option Int} (m : x ∈ S.ns) : TreeAt (L2.upd H (ls x) (.lst ((cel S x).set 0 (onV y)))) d ls { S with l := up1 S.l x y } :=
  A.upd m (S' := { S with l := up1 S.l x y }) rfl (by show [onV y, onV (S.r x), onV (S.a x)] = [onV (up1 S.l x y x), onV (S.r x), onV (S.a x)]; rw [up1_same]) fun z _ nz => by show [onV (up1 S.l x y z), onV (S.r z), onV (S.a z)] = _; rw [up1_ne nz]; rfl
theorem TreeAt.setR (A : TreeAt H d ls S) {x : Int} {y : Option Int} (m : x ∈ S.ns) : TreeAt (L2.upd H (ls x) (.lst ((cel S x).set 1 (onV y)))) d ls { S with r := up1 S.r x y } :=
  A.upd m (S' := { S with r := up1 S.r x y }) rfl (by show [onV (S.l x), onV y, onV (S.a x)] = [onV (S.l x), onV (up1 S.r x y x), onV (S.a x)]; rw [up1_same]) fun z _ nz => by show [onV (S.l z), onV (up1 S.r x y z), onV (S.a z)] = _; rw [up1_ne nz]; rfl
theorem TreeAt.setA (A : TreeAt H d ls S) {x : Int} {y : Option Int} (m : x ∈ S.ns) : TreeAt (L2.upd H (ls x) (.lst ((cel S x).set 2 (onV y)))) d ls { S with a := up1 S.a x y } :=
  A.upd m (S' := { S with a := up1 S.a x y }) rfl (by show [onV (S.l x), onV (S.r x), onV y] = [onV (S.l x), onV (S.r x), onV (up1 S.a x y x)]; rw [up1_same]) fun z _ nz => by show [onV (S.l z), onV (S.r z), onV (up1 S.a x y z)] = _; rw [up1_ne nz]; rfl
theorem TreeAt.congr (A : TreeAt H d ls S) {S' : Lk Int} (en : S'.ns = S.ns) (h : ∀ x ∈ S.ns, S'.l x = S.l x ∧ S'.r x = S.r x ∧ S'.a x = S.a x) : TreeAt H d ls S' :=
  ⟨by rw [en]; exact A.hd, fun x m => by rw [en] at m; obtain ⟨h1, h2, h3⟩ := h x m; unfold cel; rw [h1, h2, h3]; exact A.at' x m, by rw [en]; exact A.inj⟩
theorem TreeAt.get (A : TreeAt H d ls S) {x : Int} (m : x ∈ S.ns) : DGet H d (.int x) (some (.ref (ls x))) := by
  have g := DGet.k (k := Sum.inl x) A.hd
  rw [dN_get m] at g
  exact g
end
section
variable {K : PySem.W.Frag} {H : Hp} {d : Addr} {ls : Int → Addr} {S : Lk Int}
theorem rdN {i j : Nat} {σ : L2.St} {Q : V → Hp → Prop} {x : Int} (c : Nat) {v : V} (A : TreeAt H d ls S) (m : x ∈ S.ns) (h0 : σ[i]? = some (some (.ref d))) (h1 : σ[j]? = some (some (.int x))) (hv : (cel S x)[c]? = some v) (q : Q v H) : tOp (rIxL K) (tDGet (tVar i) (tVar j)) (tC (.int (c : Int))) σ H Q :=
  ⟨_, h0, _, h1, d, _, rfl, A.get m, ls x, _, _, v, rfl, rfl, SqL.of (A.at' x m), atI_nat hv, q⟩
end
section
variable {K : PySem.W.Frag} {H H0 : Hp} {d : Addr} {ls : Int → Addr} {S : Lk Int} {ns : List Int}
theorem wsL {i j : Nat} {σ : L2.St} {Q : L2.St → Hp → Prop} {x : Int} {ti : TE} {v : V} (y : Option Int) (A : TreeAt H d ls S) (k : ButT ls ns H0 H) (m : x ∈ S.ns) (m' : x ∈ ns) (h0 : σ[i]? = some (some (.ref d))) (h1 : σ[j]? = some (some (.int x))) (ev : v = onV y) (hi : ∀ R : V → Hp → Prop, R (.int 0) H → ti σ H R) (q : ∀ H2, TreeAt H2 d ls { S with l := up1 S.l x y } → ButT ls ns H0 H2 → Q σ H2) : gSub (tDGet (tVar i) (tVar j)) ti rSetL v σ H Q := by
  subst ev
  exact ⟨_, h0, _, h1, d, _, rfl, A.get m, hi _ ⟨ls x, _, 0, 0, rfl, rfl, A.at' x m, rfl, q _ (A.setL m) (k.put m')⟩⟩
theorem wsR {i j : Nat} {σ : L2.St} {Q : L2.St → Hp → Prop} {x : Int} {ti : TE} {v : V} (y : Option Int) (A : TreeAt H d ls S) (k : ButT ls ns H0 H) (m : x ∈ S.ns) (m' : x ∈ ns) (h0 : σ[i]? = some (some (.ref d))) (h1 : σ[j]? = some (some (.int x))) (ev : v = onV y) (hi : ∀ R : V → Hp → Prop, R (.int 1) H → ti σ H R) (q : ∀ H2, TreeAt H2 d ls { S with r := up1 S.r x y } → ButT ls ns H0 H2 → Q σ H2) : gSub (tDGet (tVar i) (tVar j)) ti rSetL v σ H Q := by
  subst ev
  exact ⟨_, h0, _, h1, d, _, rfl, A.get m, hi _ ⟨ls x, _, 1, 1, rfl, rfl, A.at' x m, rfl, q _ (A.setR m) (k.put m')⟩⟩
theorem wsA {i j : Nat} {σ : L2.St} {Q : L2.St → Hp → Prop} {x : Int} {ti : TE} {v : V} (y : Option Int) (A : TreeAt H d ls S) (k : ButT ls ns H0 H) (m : x ∈ S.ns) (m' : x ∈ ns) (h0 : σ[i]? = some (some (.ref d))) (h1 : σ[j]? = some (some (.int x))) (ev : v = onV y) (hi : ∀ R : V → Hp → Prop, R (.int 2) H → ti σ H R) (q : ∀ H2, TreeAt H2 d ls { S with a := up1 S.a x y } → ButT ls ns H0 H2 → Q σ H2) : gSub (tDGet (tVar i) (tVar j)) ti rSetL v σ H Q := by
  subst ev
  exact ⟨_, h0, _, h1, d, _, rfl, A.get m, hi _ ⟨ls x, _, 2, 2, rfl, rfl, A.at' x m, rfl, q _ (A.setA m) (k.put m')⟩⟩
end

section
variable {P : Program} {w : World} {K : PySem.W.Frag} {mg : Str → Option Value} {base : Heap}
theorem take_two (S : Lk Int) (x : Int) : cutV (cel S x) none (some 2) = [onV (S.l x), onV (S.r x)] := cut_nat (α := V) (cel S x) 2
def spOnTop (K : PySem.W.Frag) : Sp := fun vs H Q _ => ∃ (d : Addr) (ls : Int → Addr) (S : Lk Int) (x : Int), vs = [.ref d, .int x] ∧ TreeAt H d ls S ∧ x ∈ S.ns ∧ Cl S ∧ ∀ (H' : Hp), Same H H' → Q (.bl (S.isTop x)) H'
theorem ok_ontop (T : Top K mg) : FnOk P w K mg base CX0 1 T.a_Ltop T.d_Ltop ["_law_forms_here", "_law_x"] (spOnTop K) := by
  refine T.F_Ltop.ok sc_Ltop (fun vs H Q E h => ?_) (fun cdv A outer s H vs Q E hr h => ?_)
  · obtain ⟨d, ls, S, x, rfl, _⟩ := h
    rfl
  · obtain ⟨d, ls, S, x, rfl, A, m, cl, q⟩ := h
    refine ⟨_, (pss_one (ps_ret (pe_or (pe_cmpR op_isN (pe_ix ix_list (pe_dget (u1 hr) (pv 0) (pv 1) (fun _ _ => rfl)) pe_int (fun _ _ => rfl)) pe_non (nomark _)) (pe_one (pe_cmpR op_notIn_seq (pv 1) (pe_slice sl_list (pe_dget (u1 hr) (pv 0) (pe_ix ix_list (pe_dget (u1 hr) (pv 0) (pv 1) (fun _ _ => rfl)) pe_int (fun _ _ => rfl)) (fun _ _ => rfl)) po_none (po_some pe_int)) (by rfl)))))), ?_⟩
    refine rdN 2 A m rfl rfl (v := onV (S.a x)) rfl ⟨rfl, _, rfl, ?_⟩
    unfold Lk.isTop at q
    cases e : S.a x with
    | none =>
      rw [e] at q
      exact ifT rfl (q H (fun _ _ z => z))
    | some u =>
      rw [e] at q
      have mu := (cl x m).2.2 u e
      refine ifF rfl ⟨_, rfl, ?_⟩
      refine ⟨_, rfl, rdN 2 A m rfl rfl (v := onV (S.a x)) rfl ?_⟩
      rw [e]
      refine ⟨d, _, rfl, A.get mu, 2, rfl, ls u, _, rfl, SqL.of (A.at' u mu), fun p np => ?_⟩
      rw [take_two]
      refine ⟨p, _, rfl, .inl (SqL.of upd_same), rfl, ?_, ?_⟩
      · show (flatV (onV (S.l u)) && (flatV (onV (S.r u)) && true)) = true
        rw [onV_flat, onV_flat]
        rfl
      · show Q (.bl (!inV (.int x) [onV (S.l u), onV (S.r u)])) _
        rw [inV_two]
        exact q _ (same_new np)
end

end My
namespace My
open PySem L2
/-! ### the draws of strands: two numbers -/
def P2 (H : Hp) (b : Addr) : Prop := ∃ x y : Int, H b = some (.lst [.int x, .int y])
theorem P2.same {H H' : Hp} {b : Addr} (h : P2 H b) (s : Same H H') : P2 H' b := by
  obtain ⟨x, y, e⟩ := h
  exact ⟨x, y, s _ _ e⟩
theorem P2.ne {H : Hp} {b p : Addr} (h : P2 H b) (n : H p = none) : p ≠ b := by
  obtain ⟨x, y, e⟩ := h
  exact (ne_of_none e n).symm
theorem P2.put {H : Hp} {b p : Addr} {o : HO} (h : P2 H b) (n : p ≠ b) : P2 (upd H p o) b := by
  obtain ⟨x, y, e⟩ := h
  exact ⟨x, y, by rw [upd_ne n.symm]; exact e⟩
theorem P2.ls {H : Hp} {d b : Addr} {ls : Int → Addr} {S : Lk Int} (h : P2 H b) (A : TreeAt H d ls S) : d ≠ b ∧ ∀ x ∈ S.ns, ls x ≠ b := by
  obtain ⟨x, y, e⟩ := h
  exact ⟨ne_of A.hd e (by intro z; cases z), fun x m => ne_of (A.at' x m) e fun z => absurd (congrArg List.length (HO.lst.inj z)) (by show ¬ 3 = 2; decide)⟩
theorem TreeAt.but {H H' : Hp} {d b : Addr} {ls : Int → Addr} {S : Lk Int} (A : TreeAt H d ls S) (p : P2 H b) (k : But b H H') : TreeAt H' d ls S := by
  obtain ⟨h1, h2⟩ := p.ls A
  refine A.keep fun c o e hc => k _ _ e ?_
  rcases hc with rfl | ⟨x, m, rfl⟩
  · exact h1
  · exact h2 x m
theorem P2.butT {H H' : Hp} {d b : Addr} {ls : Int → Addr} {S : Lk Int} (p : P2 H b) (A : TreeAt H d ls S) (k : ButT ls S.ns H H') : P2 H' b := by
  obtain ⟨h1, h2⟩ := p.ls A
  obtain ⟨x, y, e⟩ := p
  exact ⟨x, y, k _ _ e fun z m => (h2 z m).symm⟩
section
variable {P : Program} {w : World} {K : PySem.W.Frag} {mg : Str → Option Value} {base : Heap}
def spTake2 : Sp := fun vs H Q _ => ∃ (b : Addr) (many : Int), vs = [.ref b, .int many] ∧ P2 H b ∧ 0 < many ∧ many < 2 ^ 60 ∧ ∀ (x : Int) (H' : Hp), 0 ≤ x → x < many → P2 H' b → But b H H' → Q (.int x) H'
theorem ok_take2 (T : Top K mg) : FnOk P w K mg base CX0 1 T.a_Ltake T.d_Ltake ["_law_pot_here", "_law_many"] spTake2 := by
  refine T.F_Ltake.ok sc_Ltake (fun vs H Q E h => ?_) (fun cdv A outer s H vs Q E hr h => ?_)
  · obtain ⟨b, many, rfl, _⟩ := h
    rfl
  · obtain ⟨b, many, rfl, ⟨x, y, hb⟩, m0, m1, q⟩ := h
    refine ⟨_, (pss_cons (ps_if (pt_cmpR op_gt (pe_ix ix_list (pv 0) pe_int (fun _ _ => rfl)) pe_int (nomark _)) (pss_cons (ps_set (i := 2) sc_Ltake.nd rfl (.inl rfl) (pe_op op_mod (pe_ix ix_list (pv 0) pe_int (fun _ _ => rfl)) (pv 1)))
      (pss_cons (ps_asg (pe_op op_fdivW (pe_ix ix_list (pv 0) pe_int (fun _ _ => rfl)) (pv 1)) (pg_sub (pv 0) pe_int set_list))
      (pss_one (ps_ret (pv 2))))) pss_nil)
      (pss_cons (ps_asg (pe_op op_mod (pe_op op_add (pe_op op_mul (pe_ix ix_list (pv 0) pe_int (fun _ _ => rfl)) pe_int) pe_int) pe_int) (pg_sub (pv 0) pe_int set_list))
      (pss_cons (ps_set (i := 3) sc_Ltake.nd rfl (.inl rfl) (pe_op op_mod (pe_op op_mul (pe_op op_mod (pe_ix ix_list (pv 0) pe_int (fun _ _ => rfl)) pe_int) (pe_op op_add (pe_op op_fdivW (pe_ix ix_list (pv 0) pe_int (fun _ _ => rfl)) pe_int) pe_int)) pe_int))
      (pss_one (ps_ret (pe_op op_mod (pe_op op_fdivW (pv 3) pe_int) (pv 1))))))), ?_⟩
    refine ⟨_, rfl, b, _, _, V.int x, rfl, rfl, SqL.of hb, atI_nat (j := 0) rfl, _, _, rfl, rfl, _, rfl, ite2 (fun _ => ?_) (fun _ => ?_)⟩
    · refine ⟨_, rfl, b, _, _, V.int x, rfl, rfl, SqL.of hb, atI_nat (j := 0) rfl, _, rfl, _, _, rfl, rfl, m0, ?_⟩
      refine ⟨_, rfl, b, _, _, V.int x, rfl, rfl, SqL.of hb, atI_nat (j := 0) rfl, _, rfl, _, _, rfl, rfl, wide_ok m0 (by omega), ?_⟩
      refine ⟨_, rfl, b, _, 0, 0, rfl, rfl, hb, rfl, ?_⟩
      exact ⟨_, rfl, q _ _ (Int.emod_nonneg x (by omega)) (Int.emod_lt_of_pos x m0) ⟨_, _, upd_same⟩ But.refl.put⟩
    · refine ⟨_, rfl, b, _, _, V.int y, rfl, rfl, SqL.of hb, atI_nat (j := 1) rfl, _, _, rfl, rfl, .inr ⟨by decide, by decide⟩, _, _, rfl, rfl, _, _, rfl, rfl, (by show (0 : Int) < 2305843009213693951; decide), ?_⟩
      refine ⟨_, rfl, b, _, 1, 1, rfl, rfl, hb, rfl, ?_⟩
      have h2 : upd H b (.lst ([V.int x, V.int y].set 1 (.int ((y * 1181783497276652981 + 12345678910987) % 2305843009213693951)))) b = some (.lst [.int x, .int ((y * 1181783497276652981 + 12345678910987) % 2305843009213693951)]) := upd_same
      have k2 : But b H (upd H b (.lst ([V.int x, V.int y].set 1 (.int ((y * 1181783497276652981 + 12345678910987) % 2305843009213693951))))) := But.refl.put
      generalize upd H b (.lst ([V.int x, V.int y].set 1 (.int ((y * 1181783497276652981 + 12345678910987) % 2305843009213693951)))) = H2 at h2 k2 ⊢
      generalize (y * 1181783497276652981 + 12345678910987) % 2305843009213693951 = y2 at h2
      refine ⟨_, rfl, b, _, _, V.int y2, rfl, rfl, SqL.of h2, atI_nat (j := 1) rfl, _, _, rfl, rfl, (by show (0 : Int) < 2147483629; decide), ?_⟩
      refine ⟨_, rfl, b, _, _, V.int y2, rfl, rfl, SqL.of h2, atI_nat (j := 1) rfl, _, _, rfl, rfl, wide_ok (by decide) (by decide), _, _, rfl, rfl, _, _, rfl, rfl, emod_small (m := 2147483629) (by decide) (by decide), _, _, rfl, rfl, (by show (0 : Int) < 2305843009213693951; decide), ?_⟩
      refine ⟨_, rfl, _, _, rfl, rfl, wide_ok (by decide) (by decide), _, rfl, _, _, rfl, rfl, m0, ?_⟩
      exact q _ _ (Int.emod_nonneg _ (by omega)) (Int.emod_lt_of_pos _ m0) ⟨_, _, h2⟩ k2
def spPot2 : Sp := fun vs H Q _ => ∃ (c s : Int), vs = [.int c, .int s] ∧ ∀ (b : Addr) (H' : Hp), Same H H' → H b = none → P2 H' b → Q (.ref b) H'
theorem ok_pot2 (T : Top K mg) : FnOk P w K mg base CX0 1 T.a_Lpot T.d_Lpot ["_law_cell", "_law_seed_here"] spPot2 := by
  refine T.F_Lpot.ok sc_Lpot (fun vs H Q E h => ?_) (fun cdv A outer s H vs Q E hr h => ?_)
  · obtain ⟨c, s, rfl, _⟩ := h
    rfl
  · obtain ⟨c, s, rfl, q⟩ := h
    refine ⟨_, (pss_cons (ps_set (i := 2) sc_Lpot.nd rfl (.inl rfl) (pe_op op_add (pe_op op_mul pe_int (pe_callB call_abs (by rfl) T.m_abs (by decide +kernel) (pa_cons (pv 0) pa_nil))) (pe_callTy call_int1 (by rfl) T.m_int (by decide +kernel) (pa_cons (pe_cmpR op_lt (pv 0) pe_int (nomark _)) pa_nil))))
      (pss_cons (ps_if (pt_cmpR op_ge (pv 2) (pe_op op_pow pe_int pe_int) (nomark _)) (pss_one (ps_ret (pe_lst (pa_cons (pv 2) (pa_cons (pv 1) pa_nil))))) pss_nil)
      (pss_one (ps_ret (pe_lst (pa_cons pe_int (pa_cons (pe_op op_mod (pe_op op_add (pe_op op_add (pe_op op_mul (pv 1) pe_int) (pv 2)) pe_int) pe_int) pa_nil))))))), ?_⟩
    refine ⟨_, rfl, _, rfl, _, _, rfl, rfl, .inl ⟨by decide, by decide⟩, _, rfl, _, _, rfl, rfl, .inr ⟨_, rfl, ?_⟩⟩
    refine ⟨_, _, rfl, rfl, ?_⟩
    refine ⟨_, rfl, _, _, rfl, rfl, ⟨by decide, by decide, by decide⟩, _, _, rfl, rfl, _, rfl, ite2 (fun _ => ?_) (fun _ => ?_)⟩
    · exact ⟨_, rfl, _, rfl, (by show 2 ≤ sizeLine; decide), fun p np => q p _ (same_new np) np ⟨_, _, upd_same⟩⟩
    · exact ⟨_, rfl, _, _, rfl, rfl, .inr ⟨by decide, by decide⟩, _, rfl, _, _, rfl, rfl, _, _, rfl, rfl, _, _, rfl, rfl, (by show (0 : Int) < 2305843009213693951; decide), (by show 2 ≤ sizeLine; decide), fun p np => q p _ (same_new np) np ⟨_, _, upd_same⟩⟩
def spSeed (K : PySem.W.Frag) : Sp := fun vs H Q _ => ∃ (a : Addr) (ns : List Int), vs = [.ref a] ∧ SqL K H a (ns.map V.int) ∧ ∀ (v : Int) (H' : Hp), Same H H' → Q (.int v) H'
theorem ok_seed (T : Top K mg) : FnOk P w K mg base CX0 1 T.a_Lseed T.d_Lseed ["_law_script"] (spSeed K) := by
  refine T.F_Lseed.ok sc_Lseed (fun vs H Q E h => ?_) (fun cdv A outer s H vs Q E hr h => ?_)
  · obtain ⟨a, ns, rfl, _⟩ := h
    rfl
  · obtain ⟨a, ns, rfl, hS, q⟩ := h
    refine ⟨_, (pss_cons (ps_set (i := 1) sc_Lseed.nd rfl (.inl rfl) pe_int)
      (pss_cons (ps_for PassesOwn.never rfl (pi_list (pe_slice sl_list (pv 0) po_none (po_some pe_int))) (pg_name (i := 2) sc_Lseed.nd rfl (.inl rfl)) (pss_one (ps_set (i := 1) sc_Lseed.nd rfl (.inl rfl) (pe_op op_mod (pe_op op_add (pe_op op_add (pe_op op_mul (pv 1) pe_int) (pe_op op_mod (pv 2) (pe_op op_pow pe_int pe_int))) pe_int) pe_int))))
      (pss_one (ps_ret (pv 1))))), ?_⟩
    refine ⟨_, rfl, 63, rfl, a, _, rfl, hS, fun p np => ?_⟩
    obtain ⟨ck, ec⟩ := cut_map ns (some 63)
    rw [ec]
    have sp := same_new (o := .lst ((ns.take ck).map V.int)) np
    have hp : upd H p (.lst ((ns.take ck).map V.int)) p = some (.lst ((ns.take ck).map V.int)) := upd_same
    generalize upd H p (.lst ((ns.take ck).map V.int)) = H1 at sp hp ⊢
    refine ⟨p, rfl, ⟨_, SqL.of hp⟩, for_list (K := K) (a := p) (xs := (ns.take ck).map V.int) (fun i σ G => ∃ (t : Int) (y2 : Option V), σ = [some (.ref a), some (.int t), y2] ∧ G = H1) ⟨_, none, rfl, rfl⟩ (fun i σ G _ h => ?_) ?_ ?_⟩
    · obtain ⟨_, _, _, rfl⟩ := h
      exact SqL.of hp
    · rintro i v σ G hv ⟨t, y2, rfl, rfl⟩
      rw [List.getElem?_map] at hv
      obtain ⟨x, hx, rfl⟩ := Option.map_eq_some_iff.mp hv
      refine ⟨_, rfl, _, _, rfl, rfl, .inr ⟨by decide, by decide⟩, _, rfl, _, _, rfl, rfl, ⟨by decide, by decide, by decide⟩, _, _, rfl, rfl, (by show (0 : Int) < 10 ^ (30 : Int).toNat; decide +kernel), _, _, rfl, rfl, _, _, rfl, rfl, _, _, rfl, rfl, (by show (0 : Int) < 2305843009213693951; decide), ?_⟩
      exact ⟨_, _, rfl, rfl⟩
    · rintro σ G ⟨t, y2, rfl, rfl⟩
      exact ⟨_, rfl, q t _ sp⟩
end

end My
namespace My
open PySem L2
theorem But2.of_same {b L : Addr} {H H' : Hp} (s : Same H H') : But2 b L H H' := fun a o e _ _ => s a o e
/-! ### drawn strands -/
/-- a strand drawn and hung nowhere: what came to be -/
structure Grown (H H' : Hp) (b d : Addr) (ls ls' : Int → Addr) (S S' : Lk Int) (T : Tr Int) (xs : List Int) : Prop where
  p2 : P2 H' b
  tr : TreeAt H' d ls' S'
  ns : ∃ zs, S'.ns = S.ns ++ zs ∧ zs.Perm T.nms ∧ ∀ x ∈ zs, H (ls' x) = none
  old : ∀ x ∈ S.ns, Agr S S' x ∧ ls' x = ls x
  rep : Rep S' none T
  fl : flat T = true
  od : T.ord = xs
  kp : But2 b d H H'
  tf : S'.t = S.t
  lk : S'.lk = S.lk
theorem cut_drop1 (xs : List Int) (j : Nat) : cutV (xs.map V.int) (some ((j : Int) + 1)) none = (xs.drop (j + 1)).map V.int := by
  unfold cutV
  rw [show ((j : Int) + 1) = ((j + 1 : Nat) : Int) by omega, HT.sIx_nat, HT.sIx_none, List.map_drop, List.length_map]
  by_cases h : j + 1 ≤ xs.length
  · rw [Nat.min_eq_left h, List.take_of_length_le]
    rw [List.length_drop, List.length_map]
    omega
  · rw [Nat.min_eq_right (by omega), List.drop_eq_nil_of_le (by rw [List.length_map]; exact Nat.le_refl _), List.drop_eq_nil_of_le (by rw [List.length_map]; omega)]
    exact List.take_nil
theorem cut_takeJ (xs : List Int) (j : Nat) : cutV (xs.map V.int) none (some (j : Int)) = (xs.take j).map V.int := by
  rw [cut_nat (α := Unit), List.map_take]
theorem pick4 {n x : Int} (hn : 1 ≤ n) (h0 : 0 ≤ x) (h1 : x < n) {k : Int} (k0 : 0 ≤ k) (k4 : k < 4) : ∃ v : Nat, atI [V.int 0, V.int (n - 1), V.int (n / 2), V.int x] k = some (.int (v : Int)) ∧ (v : Int) < n := by
  have hc : k = 0 ∨ k = 1 ∨ k = 2 ∨ k = 3 := by omega
  have mk : ∀ {y : Int}, 0 ≤ y → y < n → ∃ v : Nat, some (V.int y) = some (.int (v : Int)) ∧ (v : Int) < n := fun {y} a b => ⟨y.toNat, by rw [Int.toNat_of_nonneg a], by omega⟩
  rcases hc with rfl | rfl | rfl | rfl
  · exact mk (Int.le_refl _) (by omega)
  · exact mk (y := n - 1) (by omega) (by omega)
  · exact mk (y := n / 2) (by omega) (by omega)
  · exact mk h0 h1
theorem Tr.root_nil {T : Tr Int} (h : T.root = none) : T = .nil := by
  cases T with
  | nil => rfl
  | nd tw l x r => exact nomatch h
theorem rep_sub_ns {S : Lk Int} : ∀ {T : Tr Int} {p : Option Int}, Rep S p T → ∀ x ∈ T.nms, x ∈ S.ns
  | .nd tw l x r, p, h, y, m => by
    obtain ⟨h1, _, _, _, _, hl, hr⟩ := h
    rcases List.mem_append.mp m with m | m
    · exact rep_sub_ns hl y m
    · rcases List.mem_cons.mp m with rfl | m
      · exact h1
      · exact rep_sub_ns hr y m
/-- more names, the old ones as they were -/
theorem Rep.more {S S' : Lk Int} : ∀ {T : Tr Int} {p : Option Int}, Rep S p T → (∀ x ∈ T.nms, x ∈ S'.ns ∧ Agr S S' x) → Rep S' p T
  | .nil, _, _, _ => trivial
  | .nd tw l x r, p, h, h1 => by
    obtain ⟨q1, q2, q3, q4, q5, ql, qr⟩ := h
    obtain ⟨m, a1, a2, a3, a4⟩ := h1 x (List.mem_append_right _ List.mem_cons_self)
    exact ⟨m, a4.trans q2, a1.trans q3, a2.trans q4, a3.trans q5, ql.more fun y m => h1 y (List.mem_append_left _ m), qr.more fun y m => h1 y (List.mem_append_right _ (List.mem_cons_of_mem _ m))⟩
theorem But2.none {b d c : Addr} {H H' : Hp} (k : But2 b d H H') (n : H' c = none) (cb : c ≠ b) (cd : c ≠ d) : H c = none := by
  cases e : H c with
  | none => rfl
  | some o =>
    rw [k c o e cb cd] at n
    exact nomatch n
section
variable {P : Program} {w : World} {K : PySem.W.Frag} {mg : Str → Option Value} {base : Heap}
def spTree (n : Nat) : Sp := fun vs H Q _ => ∃ (b d q : Addr) (ls : Int → Addr) (S : Lk Int) (xs : List Int), vs = [.ref b, .ref d, .ref q] ∧ P2 H b ∧ H q = some (.lst (xs.map V.int)) ∧ q ≠ b ∧ xs.length ≤ n ∧ xs.Nodup ∧ TreeAt H d ls S ∧ S.ns.Nodup ∧ (∀ x ∈ xs, x ∉ S.ns) ∧ S.ns.length + xs.length ≤ 1000 ∧ (∀ x, S.t x = false) ∧
  ∀ (T : Tr Int) (ls' : Int → Addr) (S' : Lk Int) (H' : Hp), Grown H H' b d ls ls' S S' T xs → Q (onV T.root) H'
theorem ok_ltree (T : Top K mg) : ∀ n : Nat, FnOk P w K mg base CX0 (n + 3) T.a_Ltree T.d_Ltree ["_law_pot_here", "_law_forms_here", "_law_names"] (spTree n)
  | 0 => by
    have G_Ltake : FnOk P w K mg base CX0 1 _ _ _ _ := ok_take2 T
    have G_Ltree : FnOk P w K mg base CX0 2 T.a_Ltree T.d_Ltree ["_law_pot_here", "_law_forms_here", "_law_names"] (fun _ _ _ _ => False) := T.F_Ltree.ok sc_Ltree (fun vs H Q E h => h.elim) (fun cdv A outer s H vs Q E hr h => h.elim)
    refine T.F_Ltree.ok sc_Ltree (fun vs H Q E h => ?_) (fun cdv A outer s H vs Q E hr h => ?_)
    · obtain ⟨b, d, q, ls, S, xs, rfl, _⟩ := h
      rfl
    · obtain ⟨b, d, q, ls, S, xs, rfl, p2, hq, qb, lx, nd, A, nn, no, sz, tf, k⟩ := h
      have e0 : xs = [] := List.eq_nil_of_length_eq_zero (by omega)
      subst e0
      refine ⟨_, (pss_cons (ps_if (pt_cmpR (op_eqD hr.units) (pv 2) (pe_lst pa_nil) (nomark _)) (pss_one (ps_ret pe_non)) pss_nil)
      (pss_cons (ps_set (i := 3) sc_Ltree.nd rfl (.inl rfl) (pe_ix ix_list (pe_lst (pa_cons pe_int (pa_cons (pe_op op_sub (pe_callB call_len_seq (by rfl) T.m_len PySem.boot_len (pa_cons (pv 2) pa_nil)) pe_int) (pa_cons (pe_op op_fdivW (pe_callB call_len_seq (by rfl) T.m_len PySem.boot_len (pa_cons (pv 2) pa_nil)) pe_int) (pa_cons (pe_call G_Ltake (hr.mono (by omega)) (by rfl) T.g_Ltake T.F_Ltake.kp T.b_Ltake .nil pass0 (pa_cons (pv 0) (pa_cons (pe_callB call_len_seq (by rfl) T.m_len PySem.boot_len (pa_cons (pv 2) pa_nil)) pa_nil))) pa_nil))))) (pe_call G_Ltake (hr.mono (by omega)) (by rfl) T.g_Ltake T.F_Ltake.kp T.b_Ltake .nil pass0 (pa_cons (pv 0) (pa_cons pe_int pa_nil))) (fun _ _ => rfl)))
      (pss_cons (ps_set (i := 4) sc_Ltree.nd rfl (.inl rfl) (pe_ix ix_list (pv 2) (pv 3) (fun _ _ => rfl)))
      (pss_cons (ps_dput (u1 hr) (pv 1) (pv 4) (pe_lst (pa_cons (pe_call G_Ltree hr (by rfl) T.g_Ltree T.F_Ltree.kp T.b_Ltree .nil pass0 (pa_cons (pv 0) (pa_cons (pv 1) (pa_cons (pe_slice sl_list (pv 2) po_none (po_some (pv 3))) pa_nil)))) (pa_cons (pe_call G_Ltree hr (by rfl) T.g_Ltree T.F_Ltree.kp T.b_Ltree .nil pass0 (pa_cons (pv 0) (pa_cons (pv 1) (pa_cons (pe_slice sl_list (pv 2) (po_some (pe_op op_add (pv 3) pe_int)) po_none) pa_nil)))) (pa_cons pe_non pa_nil)))) rfl)
      (pss_cons (ps_for PassesOwn.never rfl (pi_list (pe_slice sl_list (pe_dget (u1 hr) (pv 1) (pv 4) (fun _ _ => rfl)) po_none (po_some pe_int))) (pg_name (i := 5) sc_Ltree.nd rfl (.inl rfl)) (pss_one (ps_if (pt_cmpR op_notN (pv 5) pe_non (nomark _)) (pss_one (ps_asg (pv 4) (pg_sub (pe_dget (u1 hr) (pv 1) (pv 5) (fun _ _ => rfl)) pe_int set_list))) pss_nil)))
      (pss_one (ps_ret (pv 4)))))))), ?_⟩
      refine ⟨_, rfl, Nat.zero_le _, fun e ne => ?_⟩
      have se := same_new (o := .lst []) ne
      refine ⟨_, _, .lst (SqL.of (se _ _ hq)) (dp_intsL []), .lst (SqL.of upd_same) .nil, shp_ints [], rfl, ?_⟩
      rw [eq_nilL]
      refine ⟨_, rfl, iteT ?_⟩
      exact k .nil ls S _ ⟨p2.same se, A.same se, ⟨[], (List.append_nil _).symm, .refl _, fun x m => nomatch m⟩, fun x _ => ⟨Agr.refl, rfl⟩, trivial, rfl, rfl, But2.of_same se, rfl, rfl⟩
  | n + 1 => by
    have G_Ltake : FnOk P w K mg base CX0 1 _ _ _ _ := ok_take2 T
    have G_Ltree : FnOk P w K mg base CX0 (n + 3) _ _ _ _ := ok_ltree T n
    refine T.F_Ltree.ok sc_Ltree (fun vs H Q E h => ?_) (fun cdv A outer s H vs Q E hr h => ?_)
    · obtain ⟨b, d, q, ls, S, xs, rfl, _⟩ := h
      rfl
    · obtain ⟨b, d, q, ls, S, xs, rfl, p2, hq, qb, lx, nd, A, nn, no, sz, tf, k⟩ := h
      refine ⟨_, (pss_cons (ps_if (pt_cmpR (op_eqD hr.units) (pv 2) (pe_lst pa_nil) (nomark _)) (pss_one (ps_ret pe_non)) pss_nil)
      (pss_cons (ps_set (i := 3) sc_Ltree.nd rfl (.inl rfl) (pe_ix ix_list (pe_lst (pa_cons pe_int (pa_cons (pe_op op_sub (pe_callB call_len_seq (by rfl) T.m_len PySem.boot_len (pa_cons (pv 2) pa_nil)) pe_int) (pa_cons (pe_op op_fdivW (pe_callB call_len_seq (by rfl) T.m_len PySem.boot_len (pa_cons (pv 2) pa_nil)) pe_int) (pa_cons (pe_call G_Ltake (hr.mono (by omega)) (by rfl) T.g_Ltake T.F_Ltake.kp T.b_Ltake .nil pass0 (pa_cons (pv 0) (pa_cons (pe_callB call_len_seq (by rfl) T.m_len PySem.boot_len (pa_cons (pv 2) pa_nil)) pa_nil))) pa_nil))))) (pe_call G_Ltake (hr.mono (by omega)) (by rfl) T.g_Ltake T.F_Ltake.kp T.b_Ltake .nil pass0 (pa_cons (pv 0) (pa_cons pe_int pa_nil))) (fun _ _ => rfl)))
      (pss_cons (ps_set (i := 4) sc_Ltree.nd rfl (.inl rfl) (pe_ix ix_list (pv 2) (pv 3) (fun _ _ => rfl)))
      (pss_cons (ps_dput (u1 hr) (pv 1) (pv 4) (pe_lst (pa_cons (pe_call G_Ltree hr (by rfl) T.g_Ltree T.F_Ltree.kp T.b_Ltree .nil pass0 (pa_cons (pv 0) (pa_cons (pv 1) (pa_cons (pe_slice sl_list (pv 2) po_none (po_some (pv 3))) pa_nil)))) (pa_cons (pe_call G_Ltree hr (by rfl) T.g_Ltree T.F_Ltree.kp T.b_Ltree .nil pass0 (pa_cons (pv 0) (pa_cons (pv 1) (pa_cons (pe_slice sl_list (pv 2) (po_some (pe_op op_add (pv 3) pe_int)) po_none) pa_nil)))) (pa_cons pe_non pa_nil)))) rfl)
      (pss_cons (ps_for PassesOwn.never rfl (pi_list (pe_slice sl_list (pe_dget (u1 hr) (pv 1) (pv 4) (fun _ _ => rfl)) po_none (po_some pe_int))) (pg_name (i := 5) sc_Ltree.nd rfl (.inl rfl)) (pss_one (ps_if (pt_cmpR op_notN (pv 5) pe_non (nomark _)) (pss_one (ps_asg (pv 4) (pg_sub (pe_dget (u1 hr) (pv 1) (pv 5) (fun _ _ => rfl)) pe_int set_list))) pss_nil)))
      (pss_one (ps_ret (pv 4)))))))), ?_⟩
      refine ⟨_, rfl, Nat.zero_le _, fun e ne => ?_⟩
      have se := same_new (o := .lst []) ne
      have he : upd H e (.lst []) e = some (.lst []) := upd_same
      have hq1 := se _ _ hq
      have p21 := p2.same se
      have A1 := A.same se
      generalize upd H e (.lst []) = H1 at se he hq1 p21 A1 ⊢
      refine ⟨_, _, .lst (SqL.of hq1) (dp_intsL xs), .lst (SqL.of he) .nil, shp_ints xs, rfl, ?_⟩
      rw [eq_nilL]
      by_cases c0 : xs = []
      · subst c0
        refine ⟨_, rfl, iteT ?_⟩
        exact k .nil ls S _ ⟨p21, A1, ⟨[], (List.append_nil _).symm, .refl _, fun x m => nomatch m⟩, fun x _ => ⟨Agr.refl, rfl⟩, trivial, rfl, rfl, But2.of_same se, rfl, rfl⟩
      have ce : xs.isEmpty = false := by
        cases xs with
        | nil => exact absurd rfl c0
        | cons _ _ => rfl
      have lp : 1 ≤ xs.length := List.length_pos_iff.mpr c0
      rw [ce]
      refine ⟨_, rfl, iteF ?_⟩
      -- at
      have lm : (xs.map V.int).length = xs.length := List.length_map ..
      refine ⟨_, rfl, q, _, rfl, .inl (SqL.of hq1), _, _, rfl, rfl, ?_⟩
      refine ⟨_, rfl, q, _, rfl, .inl (SqL.of hq1), _, _, rfl, rfl, wide_ok (by decide) (by decide), ?_⟩
      refine ⟨_, rfl, _, rfl, q, _, rfl, .inl (SqL.of hq1), b, _, rfl, p21, (by rw [lm]; omega), (by rw [lm]; omega), fun x4 H2 a4 b4 p22 k2 => ?_⟩
      rw [lm] at b4 ⊢
      refine ⟨(by show 4 ≤ sizeLine; decide), fun p np => ?_⟩
      have sp := same_new (o := .lst [V.int 0, V.int ((xs.length : Int) - 1), V.int ((xs.length : Int) / 2), V.int x4]) np
      have hp : upd H2 p (.lst [V.int 0, V.int ((xs.length : Int) - 1), V.int ((xs.length : Int) / 2), V.int x4]) p = some (.lst [V.int 0, V.int ((xs.length : Int) - 1), V.int ((xs.length : Int) / 2), V.int x4]) := upd_same
      have p23 := p22.same sp
      have pb := p22.ne np
      have hq3 := sp _ _ (k2 _ _ hq1 qb)
      have A3 := (A1.but p21 k2).same sp
      have k03 : But b H (upd H2 p (.lst [V.int 0, V.int ((xs.length : Int) - 1), V.int ((xs.length : Int) / 2), V.int x4])) := fun c o e1 n1 => sp _ _ (k2 _ _ (se _ _ e1) n1)
      generalize upd H2 p (.lst [V.int 0, V.int ((xs.length : Int) - 1), V.int ((xs.length : Int) / 2), V.int x4]) = H3 at sp hp p23 hq3 A3 k03 ⊢
      refine ⟨_, rfl, b, 4, rfl, p23, (by decide), (by decide), fun kk H4 a5 b5 p24 k4 => ?_⟩
      obtain ⟨j, hj, jl⟩ := pick4 (n := (xs.length : Int)) (by omega) a4 b4 a5 b5
      have hq4 := k4 _ _ hq3 qb
      have A4 := A3.but p23 k4
      have k04 := k03.trans k4
      refine ⟨p, _, _, _, rfl, rfl, SqL.of (k4 _ _ hp pb), hj, ?_⟩
      clear hj hp hq3 A3 p23 k03 k4 sp k2 p22 hq1 p21 A1 se he np
      have jl : j < xs.length := by omega
      obtain ⟨t, ht⟩ : ∃ t, xs[j]? = some t := ⟨xs[j], List.getElem?_eq_getElem jl⟩
      refine ⟨_, rfl, _, rfl, q, _, _, V.int t, rfl, rfl, SqL.of hq4, atI_nat (j := j) (by rw [List.getElem?_map, ht]; rfl), ?_⟩
      have ex : xs = xs.take j ++ t :: xs.drop (j + 1) := by
        obtain ⟨l1, e1⟩ := List.getElem?_eq_some_iff.mp ht
        rw [← e1, ← List.drop_eq_getElem_cons l1, List.take_append_drop]
      have nd' := nd
      rw [ex] at nd'
      obtain ⟨n1, n2, n3⟩ := List.nodup_append.mp nd'
      obtain ⟨n4, n5⟩ := List.nodup_cons.mp n2
      have ml : ∀ x ∈ xs.take j, x ∈ xs := fun x m => List.mem_of_mem_take m
      have mr : ∀ x ∈ xs.drop (j + 1), x ∈ xs := fun x m => List.mem_of_mem_drop m
      have mt : t ∈ xs := List.mem_of_getElem? ht
      -- what stands ahead
      refine ⟨_, rfl, _, rfl, _, rfl, _, rfl, (j : Int), rfl, q, _, rfl, SqL.of hq4, fun p1 np1 => ?_⟩
      rw [cut_takeJ]
      have s5 := same_new (o := .lst ((xs.take j).map V.int)) np1
      have h5 : upd H4 p1 (.lst ((xs.take j).map V.int)) p1 = some (.lst ((xs.take j).map V.int)) := upd_same
      have pb1 := p24.ne np1
      have p25 := p24.same s5
      have A5 := A4.same s5
      have hq5 := s5 _ _ hq4
      have k05 : But b H (upd H4 p1 (.lst ((xs.take j).map V.int))) := k04.same s5
      generalize upd H4 p1 (.lst ((xs.take j).map V.int)) = H5 at s5 h5 p25 A5 hq5 k05 ⊢
      have lt : (xs.take j).length = j := by rw [List.length_take]; omega
      refine ⟨b, d, p1, ls, S, xs.take j, rfl, p25, h5, pb1, by omega, n1, A5, nn, (fun x m => no x (ml x m)), by omega, tf, fun T1 ls1 S1 H6 g1 => ?_⟩
      obtain ⟨zs1, en1, pm1, nw1⟩ := g1.ns
      have ord1 : ∀ x, x ∈ T1.nms ↔ x ∈ xs.take j := fun x => by rw [← g1.od]; exact Tr.ord_mem.symm
      have z1 : ∀ x, x ∈ zs1 ↔ x ∈ xs.take j := fun x => by rw [pm1.mem_iff, ord1]
      have lz1 : zs1.length = j := by
        rw [pm1.length_eq, ← ord_flat g1.fl, g1.od, lt]
      have nn1 : S1.ns.Nodup := by
        rw [en1]
        refine List.nodup_append.mpr ⟨nn, ?_, fun x mx y my e1 => no x (ml x ((z1 x).mp (e1 ▸ my))) mx⟩
        rw [pm1.nodup_iff, ← ord_flat g1.fl, g1.od]
        exact n1
      have dq : d ≠ q := ne_of A.hd hq (by intro z; cases z)
      have hq6 := g1.kp _ _ hq5 qb (Ne.symm dq)
      -- what stands behind
      refine ⟨_, rfl, _, rfl, _, rfl, _, rfl, _, _, rfl, rfl, _, rfl, q, _, rfl, SqL.of hq6, fun p2' np2 => ?_⟩
      rw [cut_drop1]
      have s7 := same_new (o := .lst ((xs.drop (j + 1)).map V.int)) np2
      have h7 : upd H6 p2' (.lst ((xs.drop (j + 1)).map V.int)) p2' = some (.lst ((xs.drop (j + 1)).map V.int)) := upd_same
      have pb2 := g1.p2.ne np2
      have p27 := g1.p2.same s7
      have A7 := g1.tr.same s7
      generalize upd H6 p2' (.lst ((xs.drop (j + 1)).map V.int)) = H7 at s7 h7 p27 A7 ⊢
      have ld : (xs.drop (j + 1)).length = xs.length - (j + 1) := List.length_drop
      refine ⟨b, d, p2', ls1, S1, xs.drop (j + 1), rfl, p27, h7, pb2, by omega, n5, A7, nn1, (fun x m => ?_), by rw [en1, List.length_append]; omega, (fun x => by rw [g1.tf]; exact tf x), fun T2 ls2 S2 H8 g2 => ?_⟩
      · rw [en1]
        intro m2
        rcases List.mem_append.mp m2 with m2 | m2
        · exact no x (mr x m) m2
        · exact n3 x ((z1 x).mp m2) x (List.mem_cons_of_mem _ m) rfl
      obtain ⟨zs2, en2, pm2, nw2⟩ := g2.ns
      have ord2 : ∀ x, x ∈ T2.nms ↔ x ∈ xs.drop (j + 1) := fun x => by rw [← g2.od]; exact Tr.ord_mem.symm
      have z2 : ∀ x, x ∈ zs2 ↔ x ∈ xs.drop (j + 1) := fun x => by rw [pm2.mem_iff, ord2]
      have lz2 : zs2.length = xs.length - (j + 1) := by
        rw [pm2.length_eq, ← ord_flat g2.fl, g2.od, ld]
      have tno : t ∉ S2.ns := fun m => by
        rw [en2, en1] at m
        rcases List.mem_append.mp m with m | m
        · rcases List.mem_append.mp m with m | m
          · exact no t mt m
          · exact n3 t ((z1 t).mp m) t List.mem_cons_self rfl
        · exact n4 ((z2 t).mp m)
      refine ⟨(by show 3 ≤ sizeLine; decide), fun c nc => ?_⟩
      have s9 := same_new (o := .lst [onV T1.root, onV T2.root, V.non]) nc
      have h9 : upd H8 c (.lst [onV T1.root, onV T2.root, V.non]) c = some (.lst [onV T1.root, onV T2.root, V.non]) := upd_same
      have A9 := g2.tr.same s9
      have p29 := g2.p2.same s9
      have cb := g2.p2.ne nc
      have cd : d ≠ c := ne_of_none g2.tr.hd nc
      have cl : ∀ x ∈ S2.ns, ls2 x ≠ c := fun x m => ne_of_none (g2.tr.at' x m) nc
      generalize upd H8 c (.lst [onV T1.root, onV T2.root, V.non]) = H9 at s9 h9 A9 p29 ⊢
      have lS2 : S2.ns.length < 1000 := by
        rw [en2, en1, List.length_append, List.length_append]
        omega
      refine ⟨_, rfl, _, rfl, d, _, rfl, DPut.k (k := Sum.inl t) A9.hd (by rw [dN_len]; exact szl (by omega)), ?_⟩
      -- the state then
      have e10 : putK (dN S2.ns fun x => V.ref (ls2 x)) (Sum.inl t) (.ref c) = dN (S2.ns ++ [t]) fun x => V.ref (up1 ls2 t c x) := by
        rw [dN_new tno]
        refine dN_congr fun x _ => ?_
        unfold up1
        split <;> rfl
      have hd10 : upd H9 d (.dK (putK (dN S2.ns fun x => V.ref (ls2 x)) (Sum.inl t) (.ref c))) d = some (.dK (dN (S2.ns ++ [t]) fun x => V.ref (up1 ls2 t c x))) := by rw [upd_same, e10]
      have oth : ∀ a, a ≠ d → upd H9 d (.dK (putK (dN S2.ns fun x => V.ref (ls2 x)) (Sum.inl t) (.ref c))) a = H9 a := fun a n => upd_ne n
      generalize upd H9 d (.dK (putK (dN S2.ns fun x => V.ref (ls2 x)) (Sum.inl t) (.ref c))) = HA at hd10 oth ⊢
      have lst : up1 ls2 t c t = c := up1_same
      have lso : ∀ x ∈ S2.ns, up1 ls2 t c x = ls2 x := fun x m => up1_ne fun e => tno (e ▸ m)
      generalize up1 ls2 t c = ls3 at hd10 lst lso
      have A10 : TreeAt HA d ls3 { S2 with ns := S2.ns ++ [t], l := up1 S2.l t T1.root, r := up1 S2.r t T2.root, a := up1 S2.a t none } := by
        refine ⟨hd10, fun x m => ?_, fun x mx y my e => ?_⟩
        · rcases List.mem_append.mp m with m | m
          · have xt : x ≠ t := fun e => tno (e ▸ m)
            rw [lso x m, oth _ (A9.nd m).symm, A9.at' x m]
            unfold cel
            dsimp only
            rw [up1_ne xt, up1_ne xt, up1_ne xt]
          · have xt := List.mem_singleton.mp m
            subst xt
            rw [lst, oth _ cd.symm, h9]
            unfold cel
            dsimp only
            rw [up1_same, up1_same, up1_same]
            rfl
        · rcases List.mem_append.mp mx with mx | mx <;> rcases List.mem_append.mp my with my | my
          · rw [lso x mx, lso y my] at e
            exact A9.inj x mx y my e
          · rw [List.mem_singleton.mp my, lso x mx, lst] at e
            exact absurd e (cl x mx)
          · rw [List.mem_singleton.mp mx, lso y my, lst] at e
            exact absurd e.symm (cl y my)
          · rw [List.mem_singleton.mp mx, List.mem_singleton.mp my]
      have pA : P2 HA b := by
        obtain ⟨x, y, e1⟩ := p29
        exact ⟨x, y, by rw [oth _ (g2.p2.ls g2.tr).1.symm]; exact e1⟩
      -- below t
      obtain ⟨SX, hX⟩ : ∃ SX : Lk Int, SX = { S2 with ns := S2.ns ++ [t], l := up1 S2.l t T1.root, r := up1 S2.r t T2.root, a := up1 S2.a t none } := ⟨_, rfl⟩
      rw [← hX] at A10
      have xl : SX.l t = T1.root := by rw [hX]; exact up1_same
      have xr : SX.r t = T2.root := by rw [hX]; exact up1_same
      have xn : SX.ns = S2.ns ++ [t] := by rw [hX]
      have mt10 : t ∈ S2.ns ++ [t] := List.mem_append_right _ List.mem_cons_self
      have mtX : t ∈ SX.ns := xn ▸ mt10
      refine ⟨_, rfl, _, rfl, d, _, rfl, A10.get mtX, 2, rfl, ls3 t, _, rfl, SqL.of (A10.at' t mtX), fun p3 np3 => ?_⟩
      rw [take_two, xl, xr]
      have s11 := same_new (o := .lst [onV T1.root, onV T2.root]) np3
      have h11 : upd HA p3 (.lst [onV T1.root, onV T2.root]) p3 = some (.lst ([T1.root, T2.root].map onV)) := upd_same
      have A11 := A10.same s11
      have p211 := pA.same s11
      have p3b := pA.ne np3
      have p3l : ∀ x ∈ SX.ns, ls3 x ≠ p3 := fun x m => ne_of_none (A10.at' x m) np3
      generalize upd HA p3 (.lst [onV T1.root, onV T2.root]) = HB at s11 h11 A11 p211 ⊢
      have r1m : ∀ y, T1.root = some y → y ∈ zs1 := fun y e1 => pm1.mem_iff.mpr (Tr.root_mem e1)
      have r2m : ∀ y, T2.root = some y → y ∈ zs2 := fun y e1 => pm2.mem_iff.mpr (Tr.root_mem e1)
      have nsz : ∀ y, y ∈ zs1 ∨ y ∈ zs2 → y ∈ S2.ns := fun y h => by
        rw [en2, en1]
        rcases h with h | h
        · exact List.mem_append_left _ (List.mem_append_right _ h)
        · exact List.mem_append_right _ h
      refine ⟨p3, rfl, ⟨_, SqL.of h11⟩, ?_⟩
      refine for_list (K := K) (a := p3) (xs := [T1.root, T2.root].map onV) (fun i σ G => ∃ y5 : Option V, σ = [some (.ref b), some (.ref d), some (.ref q), some (.int (j : Int)), some (.int t), y5] ∧ P2 G b ∧ G p3 = some (.lst ([T1.root, T2.root].map onV)) ∧ ButT ls3 (zs1 ++ zs2) HB G ∧ TreeAt G d ls3 { SX with a := ([T1.root, T2.root].take i).foldl (fun f y => upO f y (some t)) SX.a }) ⟨none, rfl, p211, h11, ButT.refl, A11⟩ (fun i σ G _ h => ?_) ?_ ?_
      · obtain ⟨_, _, _, h, _⟩ := h
        exact SqL.of h
      · rintro i v σ G hv ⟨y5, rfl, p2g, hpg, kg, Ag⟩
        rw [List.getElem?_map] at hv
        obtain ⟨y, hy, rfl⟩ := Option.map_eq_some_iff.mp hv
        have ef : (([T1.root, T2.root] : List (Option Int)).take (i + 1)).foldl (fun f y => upO f y (some t)) SX.a = upO ((([T1.root, T2.root] : List (Option Int)).take i).foldl (fun f y => upO f y (some t)) SX.a) y (some t) := by
          rw [tk_at hy, List.foldl_append]
          rfl
        have my : ∀ z, y = some z → z ∈ zs1 ++ zs2 := fun z e1 => by
          subst e1
          match i, hy with
          | 0, hy => exact List.mem_append_left _ (r1m z (Option.some.inj hy))
          | 1, hy => exact List.mem_append_right _ (r2m z (Option.some.inj hy))
        rw [ef]
        refine ⟨_, rfl, rfl, _, rfl, ?_⟩
        cases y with
        | none => exact ifF rfl ⟨_, rfl, p2g, hpg, kg, Ag⟩
        | some z =>
          have mz := my z rfl
          have mz' : z ∈ SX.ns := xn ▸ List.mem_append_left _ (nsz z (List.mem_append.mp mz))
          refine ifT rfl ⟨_, rfl, _, rfl, _, rfl, d, _, rfl, Ag.get mz', ls3 z, _, 2, 2, rfl, rfl, Ag.at' z mz', rfl, ?_⟩
          refine ⟨_, rfl, p2g.put (p2g.ls Ag |>.2 z mz'), ?_, kg.put mz, Ag.setA (y := some t) mz'⟩
          rw [upd_ne (p3l z mz').symm]
          exact hpg
      · rintro σ G ⟨y5, rfl, p2g, hpg, kg, Ag⟩
        subst hX
        have Ag : TreeAt G d ls3 { S2 with ns := S2.ns ++ [t], l := up1 S2.l t T1.root, r := up1 S2.r t T2.root, a := upO (upO (up1 S2.a t none) T1.root (some t)) T2.root (some t) } := Ag
        have n12 : ∀ y, y ∈ zs1 → y ∉ zs2 := fun y m1 m2 => n3 y ((z1 y).mp m1) y (List.mem_cons_of_mem _ ((z2 y).mp m2)) rfl
        have tz1 : t ∉ zs1 := fun m => n3 t ((z1 t).mp m) t List.mem_cons_self rfl
        have tz2 : t ∉ zs2 := fun m => n4 ((z2 t).mp m)
        have nT1 : T1.nms.Nodup := by rw [← ord_flat g1.fl, g1.od]; exact n1
        have nT2 : T2.nms.Nodup := by rw [← ord_flat g2.fl, g2.od]; exact n5
        -- what is above each
        have aO : ∀ y, y ≠ t → T1.root ≠ some y → T2.root ≠ some y → upO (upO (up1 S2.a t none) T1.root (some t)) T2.root (some t) y = S2.a y := fun y h1 h2 h3 => by rw [upO_ne (Ne.symm h3), upO_ne (Ne.symm h2), up1_ne h1]
        have aT : upO (upO (up1 S2.a t none) T1.root (some t)) T2.root (some t) t = none := by rw [upO_ne fun e1 => tz2 (r2m t e1.symm), upO_ne fun e1 => tz1 (r1m t e1.symm), up1_same]
        have a1 : ∀ y, T1.root = some y → upO (upO (up1 S2.a t none) T1.root (some t)) T2.root (some t) y = some t := fun y h => by rw [upO_ne fun e1 => n12 y (r1m y h) (r2m y e1.symm), h, upO_same]
        have a2 : ∀ y, T2.root = some y → upO (upO (up1 S2.a t none) T1.root (some t)) T2.root (some t) y = some t := fun y h => by rw [h, upO_same]
        generalize upO (upO (up1 S2.a t none) T1.root (some t)) T2.root (some t) = aE at Ag aO aT a1 a2
        have agr : ∀ y ∈ S2.ns, T1.root ≠ some y → T2.root ≠ some y → Agr S2 { S2 with ns := S2.ns ++ [t], l := up1 S2.l t T1.root, r := up1 S2.r t T2.root, a := aE } y := fun y m h2 h3 => by
          have yt : y ≠ t := fun e1 => tno (e1 ▸ m)
          exact ⟨up1_ne yt, up1_ne yt, aO y yt h2 h3, rfl⟩
        refine ⟨_, rfl, k (.nd false T1 t T2) ls3 _ G ⟨p2g, Ag, ⟨zs1 ++ (zs2 ++ [t]), ?_, ?_, fun y m => ?_⟩, fun y m => ?_, ?_, ?_, ?_, ?_, ?_, ?_⟩⟩
        · show S2.ns ++ [t] = _
          rw [en2, en1, List.append_assoc, List.append_assoc]
        · show (zs1 ++ (zs2 ++ [t])).Perm (T1.nms ++ t :: T2.nms)
          refine (pm1.append ((pm2.append_right [t]).trans ?_))
          exact List.perm_append_comm (l₁ := T2.nms) (l₂ := [t])
        · have none_h : ∀ a, H6 a = none ∨ H5 a = none → a ≠ b → a ≠ d → H a = none := fun a h nb nd => by
            have h5n : H5 a = none := by
              rcases h with h | h
              · exact g1.kp.none h nb nd
              · exact h
            cases e1 : H a with
            | none => rfl
            | some o =>
              rw [k05 a o e1 nb] at h5n
              exact nomatch h5n
          have new1 : ∀ y ∈ zs1, ls3 y = ls1 y := fun y m => by
            rw [lso y (nsz y (.inl m)), (g2.old y (by rw [en1]; exact List.mem_append_right _ m)).2]
          have bd : ∀ y ∈ S2.ns, ls2 y ≠ b ∧ ls2 y ≠ d := fun y m => ⟨(g2.p2.ls g2.tr).2 y m, (g2.tr.nd m).symm⟩
          rcases List.mem_append.mp m with m | m
          · have e2 := new1 y m
            have e3 := bd y (nsz y (.inl m))
            rw [← lso y (nsz y (.inl m)), e2] at e3
            rw [e2]
            exact none_h _ (.inr (nw1 y m)) e3.1 e3.2
          · rcases List.mem_append.mp m with m | m
            · have e3 := bd y (nsz y (.inr m))
              rw [lso y (nsz y (.inr m))]
              refine none_h _ (.inl ?_) e3.1 e3.2
              exact Same.none s7 (nw2 y m)
            · have yt := List.mem_singleton.mp m
              subst yt
              rw [lst]
              refine none_h _ (.inl ?_) cb cd.symm
              exact Same.none s7 (g2.kp.none nc cb cd.symm)
        · have m1 : y ∈ S1.ns := by rw [en1]; exact List.mem_append_left _ m
          have m2 : y ∈ S2.ns := by rw [en2]; exact List.mem_append_left _ m1
          obtain ⟨b1, b2⟩ := g1.old y m
          obtain ⟨c1, c2⟩ := g2.old y m1
          refine ⟨(b1.trans c1).trans (agr y m2 (fun e1 => ?_) fun e1 => ?_), by rw [lso y m2, c2, b2]⟩
          · exact no y (ml y ((z1 y).mp (r1m y e1))) m
          · exact no y (mr y ((z2 y).mp (r2m y e1))) m
        · refine ⟨mt10, ?_, up1_same, up1_same, aT, ?_, ?_⟩
          · show S2.t t = false
            rw [g2.tf, g1.tf]
            exact tf t
          · have r12 : Rep S2 none T1 := g1.rep.more fun y m => by
              have my1 := pm1.mem_iff.mpr m
              exact ⟨nsz y (.inl my1), (g2.old y (by rw [en1]; exact List.mem_append_right _ my1)).1⟩
            have r3 : Rep { S2 with ns := S2.ns ++ [t] } none T1 := r12.more fun y m => ⟨List.mem_append_left _ (rep_sub_ns r12 y m), Agr.refl⟩
            refine Rep.re (S := { S2 with ns := S2.ns ++ [t] }) (S' := { S2 with ns := S2.ns ++ [t], l := up1 S2.l t T1.root, r := up1 S2.r t T2.root, a := aE }) (p' := some t) rfl r3 nT1 (fun y m => ?_) (fun y m ne2 => ?_) fun y e1 => a1 y e1
            · have yt : y ≠ t := fun e1 => tz1 (pm1.mem_iff.mpr (e1 ▸ m))
              exact ⟨up1_ne yt, up1_ne yt, rfl⟩
            · have my1 := pm1.mem_iff.mpr m
              exact aO y (fun e1 => tz1 (e1 ▸ my1)) ne2 fun e1 => n12 y my1 (r2m y e1)
          · have r3 : Rep { S2 with ns := S2.ns ++ [t] } none T2 := g2.rep.more fun y m => ⟨List.mem_append_left _ (rep_sub_ns g2.rep y m), Agr.refl⟩
            refine Rep.re (S := { S2 with ns := S2.ns ++ [t] }) (S' := { S2 with ns := S2.ns ++ [t], l := up1 S2.l t T1.root, r := up1 S2.r t T2.root, a := aE }) (p' := some t) rfl r3 nT2 (fun y m => ?_) (fun y m ne2 => ?_) fun y e1 => a2 y e1
            · have yt : y ≠ t := fun e1 => tz2 (pm2.mem_iff.mpr (e1 ▸ m))
              exact ⟨up1_ne yt, up1_ne yt, rfl⟩
            · have my2 := pm2.mem_iff.mpr m
              exact aO y (fun e1 => tz2 (e1 ▸ my2)) (fun e1 => n12 y (r1m y e1) my2) ne2
        · show (true && flat T1 && flat T2) = true
          rw [g1.fl, g2.fl]
          rfl
        · show T1.ord ++ t :: T2.ord = xs
          rw [g1.od, g2.od, ← ex]
        · intro a o e1 ab ad
          have e5 := k05 a o e1 ab
          have e8 := g2.kp _ _ (s7 _ _ (g1.kp _ _ e5 ab ad)) ab ad
          have eA : HA a = some o := by
            rw [oth a ad]
            exact s9 _ _ e8
          refine kg _ _ (s11 _ _ eA) fun z mz ea => ?_
          have mz2 := nsz z (List.mem_append.mp mz)
          have hn : H a = none := by
            have e3 : ls2 z ≠ b ∧ ls2 z ≠ d := ⟨(g2.p2.ls g2.tr).2 z mz2, (g2.tr.nd mz2).symm⟩
            rw [ea, lso z mz2]
            have h5n : H5 (ls2 z) = none := by
              rcases List.mem_append.mp mz with mz | mz
              · rw [(g2.old z (by rw [en1]; exact List.mem_append_right _ mz)).2]
                exact nw1 z mz
              · exact g1.kp.none (Same.none s7 (nw2 z mz)) e3.1 e3.2
            cases e4 : H (ls2 z) with
            | none => rfl
            | some o2 =>
              rw [k05 _ o2 e4 e3.1] at h5n
              exact nomatch h5n
          rw [hn] at e1
          exact nomatch e1
        · show S2.t = S.t
          rw [g2.tf, g1.tf]
        · show S2.lk = S.lk
          rw [g2.lk, g1.lk]
end

section
variable {N : Type} [DecidableEq N]
/-- who is below whom -/
theorem rep_child {S : Lk N} : ∀ {T : Tr N} {p : Option N}, Rep S p T → T.nms.Nodup → ∀ x ∈ T.nms, (∀ y, S.l x = some y → y ∈ T.nms ∧ S.a y = some x) ∧ (∀ y, S.r x = some y → y ∈ T.nms ∧ S.a y = some x) ∧ ∀ y, S.l x = some y → S.r x ≠ some y
  | .nd tw l x r, p, h, nd, z, m => by
    obtain ⟨h1, h2, h3, h4, h5, hl, hr⟩ := h
    have nd : (l.nms ++ x :: r.nms).Nodup := nd
    obtain ⟨n1, n2, n3⟩ := List.nodup_append.mp nd
    obtain ⟨n4, n5⟩ := List.nodup_cons.mp n2
    have il : ∀ y, y ∈ l.nms → y ∈ (Tr.nd tw l x r).nms := fun y my => List.mem_append_left _ my
    have ir : ∀ y, y ∈ r.nms → y ∈ (Tr.nd tw l x r).nms := fun y my => List.mem_append_right _ (List.mem_cons_of_mem _ my)
    rcases List.mem_append.mp m with m | m
    · obtain ⟨a1, a2, a3⟩ := rep_child hl n1 z m
      exact ⟨fun y e => ⟨il y (a1 y e).1, (a1 y e).2⟩, fun y e => ⟨il y (a2 y e).1, (a2 y e).2⟩, a3⟩
    · rcases List.mem_cons.mp m with rfl | m
      · refine ⟨fun y e => ?_, fun y e => ?_, fun y e e2 => ?_⟩
        · have e := h3.symm.trans e
          exact ⟨il y (Tr.root_mem e), hl.top e⟩
        · have e := h4.symm.trans e
          exact ⟨ir y (Tr.root_mem e), hr.top e⟩
        · exact n3 y (Tr.root_mem (h3.symm.trans e)) y (List.mem_cons_of_mem _ (Tr.root_mem (h4.symm.trans e2))) rfl
      · obtain ⟨a1, a2, a3⟩ := rep_child hr n5 z m
        exact ⟨fun y e => ⟨ir y (a1 y e).1, (a1 y e).2⟩, fun y e => ⟨ir y (a2 y e).1, (a2 y e).2⟩, a3⟩
end

/-! ### strands that hang on one another -/
abbrev Strands := List (Tr Int × Option Int)
def snm (Ts : Strands) : List Int := Ts.flatMap fun t => t.1.nms
def Hung (S : Lk Int) : Strands → Prop
  | [] => True
  | t :: r => Rep S t.2 t.1 ∧ flat t.1 = true ∧ (∃ x, t.1.root = some x) ∧ (∀ q, t.2 = some q → q ∈ snm r) ∧ Hung S r
theorem snm_cons (t : Tr Int × Option Int) (r : Strands) : snm (t :: r) = t.1.nms ++ snm r := rfl
structure Fo (S : Lk Int) (Ts : Strands) : Prop where
  h : Hung S Ts
  pm : (snm Ts).Perm S.ns
  nn : S.ns.Nodup
theorem Hung.more {S S' : Lk Int} : ∀ {Ts : Strands}, Hung S Ts → (∀ x ∈ snm Ts, x ∈ S'.ns ∧ Agr S S' x) → Hung S' Ts
  | [], _, _ => trivial
  | t :: r, h, k => by
    obtain ⟨h1, h2, h3, h4, h5⟩ := h
    exact ⟨h1.more fun x m => k x (List.mem_append_left _ m), h2, h3, h4, h5.more fun x m => k x (List.mem_append_right _ m)⟩
theorem rep_rank {S : Lk Int} : ∀ {T : Tr Int} {p : Option Int}, Rep S p T → T.nms.Nodup → ∃ d : Int → Int, ∀ x ∈ T.nms, 0 ≤ d x ∧ d x ≤ T.nms.length ∧ (T.root = some x ∨ ∃ u ∈ T.nms, S.a x = some u ∧ d u < d x)
  | .nil, _, _, _ => ⟨fun _ => 0, fun x m => nomatch m⟩
  | .nd tw l z r, p, h, nd => by
    obtain ⟨_, _, _, _, _, hl, hr⟩ := h
    have nd : (l.nms ++ z :: r.nms).Nodup := nd
    obtain ⟨n1, n2, n3⟩ := List.nodup_append.mp nd
    obtain ⟨n4, n5⟩ := List.nodup_cons.mp n2
    obtain ⟨dl, h1⟩ := rep_rank hl n1
    obtain ⟨dr, h2⟩ := rep_rank hr n5
    have zl : z ∉ l.nms := fun m => n3 z m z List.mem_cons_self rfl
    have lr : ∀ x ∈ r.nms, x ∉ l.nms := fun x m m2 => n3 x m2 x (List.mem_cons_of_mem _ m) rfl
    have ln : ((Tr.nd tw l z r).nms.length : Int) = l.nms.length + r.nms.length + 1 := by
      rw [nd_len]
      omega
    refine ⟨fun y => if y = z then 0 else if y ∈ l.nms then dl y + 1 else dr y + 1, fun x m => ?_⟩
    rcases List.mem_append.mp m with m | m
    · have xz : x ≠ z := fun e => zl (e ▸ m)
      obtain ⟨a1, a2, a3⟩ := h1 x m
      dsimp only
      rw [if_neg xz, if_pos m]
      refine ⟨by omega, by omega, .inr ?_⟩
      rcases a3 with e | ⟨u, mu, eu, lu⟩
      · refine ⟨z, List.mem_append_right _ List.mem_cons_self, hl.top e, ?_⟩
        rw [if_pos rfl]
        omega
      · refine ⟨u, List.mem_append_left _ mu, eu, ?_⟩
        rw [if_neg fun (e : u = z) => zl (e ▸ mu), if_pos mu]
        omega
    · rcases List.mem_cons.mp m with e | m
      · dsimp only
        rw [if_pos e]
        exact ⟨Int.le_refl _, by omega, .inl (by rw [e]; rfl)⟩
      · have xz : x ≠ z := fun e => n4 (e ▸ m)
        obtain ⟨a1, a2, a3⟩ := h2 x m
        dsimp only
        rw [if_neg xz, if_neg (lr x m)]
        refine ⟨by omega, by omega, .inr ?_⟩
        rcases a3 with e | ⟨u, mu, eu, lu⟩
        · refine ⟨z, List.mem_append_right _ List.mem_cons_self, hr.top e, ?_⟩
          rw [if_pos rfl]
          omega
        · refine ⟨u, List.mem_append_right _ (List.mem_cons_of_mem _ mu), eu, ?_⟩
          rw [if_neg fun (e : u = z) => n4 (e ▸ mu), if_neg (lr u mu)]
          omega
theorem hung_rank {S : Lk Int} : ∀ {Ts : Strands}, Hung S Ts → (snm Ts).Nodup → ∃ (d : Int → Int) (B : Int), ∀ x ∈ snm Ts, d x ≤ B ∧ ∀ u, S.a x = some u → u ∈ snm Ts ∧ d u < d x
  | [], _, _ => ⟨fun _ => 0, 0, fun x m => nomatch m⟩
  | t :: r, h, nd => by
    obtain ⟨h1, h2, h3, h4, h5⟩ := h
    rw [snm_cons] at nd
    obtain ⟨n1, n2, n3⟩ := List.nodup_append.mp nd
    obtain ⟨d, B, hd⟩ := hung_rank h5 n2
    obtain ⟨dT, hT⟩ := rep_rank h1 n1
    have no : ∀ x ∈ snm r, x ∉ t.1.nms := fun x m m2 => n3 x m2 x m rfl
    refine ⟨fun y => if y ∈ t.1.nms then B + 1 + dT y else d y, B + 1 + t.1.nms.length, fun x m => ?_⟩
    rw [snm_cons] at m
    dsimp only
    rcases List.mem_append.mp m with m | m
    · obtain ⟨a1, a2, a3⟩ := hT x m
      rw [if_pos m]
      refine ⟨by omega, fun u eu => ?_⟩
      rcases a3 with e | ⟨v, mv, ev, lv⟩
      · have ep := (h1.top e).symm.trans eu
        have mu := h4 u ep
        refine ⟨List.mem_append_right _ mu, ?_⟩
        rw [if_neg (no u mu)]
        have := (hd u mu).1
        omega
      · rw [ev] at eu
        cases eu
        refine ⟨List.mem_append_left _ mv, ?_⟩
        rw [if_pos mv]
        omega
    · obtain ⟨a1, a2⟩ := hd x m
      rw [if_neg (no x m)]
      refine ⟨by omega, fun u eu => ?_⟩
      obtain ⟨mu, lu⟩ := a2 u eu
      refine ⟨List.mem_append_right _ mu, ?_⟩
      rw [if_neg (no u mu)]
      exact lu
theorem hung_kids {S : Lk Int} : ∀ {Ts : Strands}, Hung S Ts → (snm Ts).Nodup → ∀ x ∈ snm Ts, (∀ y, S.l x = some y → y ∈ snm Ts ∧ S.a y = some x) ∧ (∀ y, S.r x = some y → y ∈ snm Ts ∧ S.a y = some x) ∧ ∀ y, S.l x = some y → S.r x ≠ some y
  | t :: r, h, nd, x, m => by
    obtain ⟨h1, h2, h3, h4, h5⟩ := h
    rw [snm_cons] at nd m
    obtain ⟨n1, n2, n3⟩ := List.nodup_append.mp nd
    rcases List.mem_append.mp m with m | m
    · obtain ⟨a1, a2, a3⟩ := rep_child h1 n1 x m
      exact ⟨fun y e => ⟨List.mem_append_left _ (a1 y e).1, (a1 y e).2⟩, fun y e => ⟨List.mem_append_left _ (a2 y e).1, (a2 y e).2⟩, a3⟩
    · obtain ⟨a1, a2, a3⟩ := hung_kids h5 n2 x m
      exact ⟨fun y e => ⟨List.mem_append_right _ (a1 y e).1, (a1 y e).2⟩, fun y e => ⟨List.mem_append_right _ (a2 y e).1, (a2 y e).2⟩, a3⟩
theorem Fo.nd {S : Lk Int} {Ts : Strands} (f : Fo S Ts) : (snm Ts).Nodup := f.pm.nodup_iff.mpr f.nn
theorem Fo.wf {S : Lk Int} {Ts : Strands} (f : Fo S Ts) : Wf S := by
  have nd := f.nd
  obtain ⟨d, B, hd⟩ := hung_rank f.h nd
  have mi : ∀ {x}, x ∈ S.ns ↔ x ∈ snm Ts := fun {x} => f.pm.mem_iff.symm
  refine ⟨fun x m => ?_, fun x m y e => ?_, fun x m y e => ?_, fun x m y e => ?_, d, fun x m u e => ((hd x (mi.mp m)).2 u e).2⟩
  · obtain ⟨a1, a2, _⟩ := hung_kids f.h nd x (mi.mp m)
    exact ⟨fun y e => mi.mpr (a1 y e).1, fun y e => mi.mpr (a2 y e).1, fun y e => mi.mpr ((hd x (mi.mp m)).2 y e).1⟩
  · exact ((hung_kids f.h nd x (mi.mp m)).1 y e).2
  · exact ((hung_kids f.h nd x (mi.mp m)).2.1 y e).2
  · exact (hung_kids f.h nd x (mi.mp m)).2.2 y e
/-- one strand more, hung nowhere -/
theorem Fo.more {S S' : Lk Int} {Ts : Strands} {T : Tr Int} {zs : List Int} (f : Fo S Ts) (en : S'.ns = S.ns ++ zs) (pm : zs.Perm T.nms) (old : ∀ x ∈ S.ns, Agr S S' x) (rep : Rep S' none T) (fl : flat T = true) (rt : ∃ x, T.root = some x) (nd : T.nms.Nodup) (no : ∀ x ∈ T.nms, x ∉ S.ns) : Fo S' ((T, none) :: Ts) := by
  refine ⟨⟨rep, fl, rt, (fun q e => nomatch e), f.h.more fun x m => ?_⟩, ?_, ?_⟩
  · have mS := f.pm.mem_iff.mp m
    exact ⟨by rw [en]; exact List.mem_append_left _ mS, old x mS⟩
  · rw [en]
    show (T.nms ++ snm Ts).Perm (S.ns ++ zs)
    exact (pm.symm.append f.pm).trans List.perm_append_comm
  · rw [en]
    exact List.nodup_append.mpr ⟨f.nn, pm.nodup_iff.mpr nd, fun x m y my e => no y (pm.mem_iff.mp my) (e ▸ m)⟩
/-- and hung -/
theorem Fo.put {S : Lk Int} {Ts : Strands} {T : Tr Int} {top z : Int} (f : Fo S ((T, none) :: Ts)) (rt : T.root = some top) (mz : z ∈ snm Ts) : Fo { S with a := up1 S.a top (some z) } ((T, some z) :: Ts) := by
  obtain ⟨⟨h1, h2, h3, h4, h5⟩, pm, nn⟩ := f
  have nd : (T.nms ++ snm Ts).Nodup := pm.nodup_iff.mpr nn
  obtain ⟨n1, n2, n3⟩ := List.nodup_append.mp nd
  have mt := Tr.root_mem rt
  have r1 : Rep { S with a := up1 S.a top (some z) } (some z) T := by
    refine Rep.re (S := S) (S' := { S with a := up1 S.a top (some z) }) rfl h1 n1 (fun y m => ⟨rfl, rfl, rfl⟩) (fun y m ne => up1_ne fun (e : y = top) => ne (by rw [e]; exact rt)) (fun y e => ?_)
    have e := rt.symm.trans e
    cases e
    exact up1_same
  refine ⟨⟨r1, h2, h3, (fun q e => ?_), h5.more fun y m => ⟨pm.mem_iff.mp (List.mem_append_right _ m), rfl, rfl, up1_ne fun (e : y = top) => n3 top mt top (e ▸ m) rfl, rfl⟩⟩, pm, nn⟩
  cases e
  exact mz
theorem swap_nd {xs : List Int} (nd : xs.Nodup) {i j : Nat} {u v : Int} (hi : xs[i]? = some u) (hj : xs[j]? = some v) : ((xs.set i v).set j u).Nodup ∧ ((xs.set i v).set j u).length = xs.length := by
  obtain ⟨li, ei⟩ := List.getElem?_eq_some_iff.mp hi
  obtain ⟨lj, ej⟩ := List.getElem?_eq_some_iff.mp hj
  refine ⟨?_, by rw [List.length_set, List.length_set]⟩
  refine List.pairwise_iff_getElem.mpr fun a b la lb ab e => ?_
  rw [List.length_set, List.length_set] at la lb
  have inj : ∀ {c d : Nat} (lc : c < xs.length) (ld : d < xs.length), xs[c] = xs[d] → c = d := fun {c d} lc ld h => (List.getElem?_inj lc nd).mp (by rw [List.getElem?_eq_getElem lc, List.getElem?_eq_getElem ld, h])
  simp only [List.getElem_set] at e
  by_cases ja : j = a
  · rw [if_pos ja, if_neg (by omega : ¬ j = b)] at e
    by_cases ib : i = b
    · rw [if_pos ib] at e
      have := inj li lj (ei.trans (e.trans ej.symm))
      omega
    · rw [if_neg ib] at e
      have := inj li lb (ei.trans e)
      omega
  · rw [if_neg ja] at e
    by_cases jb : j = b
    · rw [if_pos jb] at e
      by_cases ia : i = a
      · rw [if_pos ia] at e
        have := inj lj li (ej.trans (e.trans ei.symm))
        omega
      · rw [if_neg ia] at e
        have := inj la li (e.trans ei.symm)
        omega
    · rw [if_neg jb] at e
      by_cases ia : i = a
      · rw [if_pos ia, if_neg (by omega : ¬ i = b)] at e
        have := inj lj lb (ej.trans e)
        omega
      · rw [if_neg ia] at e
        by_cases ib : i = b
        · rw [if_pos ib] at e
          have := inj la lj (e.trans ej.symm)
          omega
        · rw [if_neg ib] at e
          have := inj la lb e
          omega

end My
namespace My
open PySem L2
/-! ### flags in trees: the order that is meant, all flags pushed down -/
section
variable {N : Type} [DecidableEq N]
def tog : Tr N → Tr N
  | .nil => .nil
  | .nd tw l x r => .nd (!tw) l x r
theorem tog_nms : ∀ T : Tr N, (tog T).nms = T.nms
  | .nil => rfl
  | .nd _ _ _ _ => rfl
theorem tog_root : ∀ T : Tr N, (tog T).root = T.root
  | .nil => rfl
  | .nd _ _ _ _ => rfl
/-- without flags; b: one is yet to be pushed down -/
def unt : Bool → Tr N → Tr N
  | _, .nil => .nil
  | b, .nd tw l x r => if (b != tw) = true then .nd false (unt true r) x (unt true l) else .nd false (unt false l) x (unt false r)
theorem unt_tog : ∀ (b : Bool) (T : Tr N), unt b (tog T) = unt (!b) T
  | _, .nil => rfl
  | b, .nd tw l x r => by
    show (if (b != !tw) = true then _ else _) = (if ((!b) != tw) = true then _ else _)
    cases b <;> cases tw <;> rfl
theorem unt_root : ∀ (b : Bool) (T : Tr N), (unt b T).root = T.root
  | _, .nil => rfl
  | b, .nd tw l x r => by
    show Tr.root (if (b != tw) = true then _ else _) = _
    split <;> rfl
theorem unt_mem : ∀ (b : Bool) (T : Tr N) (y : N), y ∈ (unt b T).nms ↔ y ∈ T.nms
  | _, .nil, _ => Iff.rfl
  | b, .nd tw l x r, y => by
    show y ∈ Tr.nms (if (b != tw) = true then _ else _) ↔ y ∈ l.nms ++ x :: r.nms
    split
    · show y ∈ (unt true r).nms ++ x :: (unt true l).nms ↔ _
      rw [List.mem_append, List.mem_cons, List.mem_append, List.mem_cons, unt_mem true r, unt_mem true l]
      exact ⟨fun h => h.elim (fun a => .inr (.inr a)) fun a => a.elim (fun b => .inr (.inl b)) .inl, fun h => h.elim (fun a => .inr (.inr a)) fun a => a.elim (fun b => .inr (.inl b)) .inl⟩
    · show y ∈ (unt false l).nms ++ x :: (unt false r).nms ↔ _
      rw [List.mem_append, List.mem_cons, List.mem_append, List.mem_cons, unt_mem false l, unt_mem false r]
theorem unt_flat : ∀ (b : Bool) (T : Tr N), flat (unt b T) = true
  | _, .nil => rfl
  | b, .nd tw l x r => by
    show flat (if (b != tw) = true then _ else _) = true
    split
    · show (!false && flat (unt true r) && flat (unt true l)) = true
      rw [unt_flat true r, unt_flat true l]
      rfl
    · show (!false && flat (unt false l) && flat (unt false r)) = true
      rw [unt_flat false l, unt_flat false r]
      rfl
/-- flags m put into a tree without flags, so that it means the same; b: one lies above it -/
def twT (m : N → Bool) : Bool → Tr N → Tr N
  | _, .nil => .nil
  | b, .nd _ l x r => if (b != m x) = true then .nd (m x) (twT m true r) x (twT m true l) else .nd (m x) (twT m false l) x (twT m false r)
theorem unt_tw {m : N → Bool} : ∀ {T : Tr N} (b : Bool), flat T = true → unt b (twT m b T) = T
  | .nil, _, _ => rfl
  | .nd tw l x r, b, f => by
    have f : (!tw && flat l && flat r) = true := f
    rw [Bool.and_eq_true, Bool.and_eq_true] at f
    obtain ⟨⟨f1, f2⟩, f3⟩ := f
    have tf : tw = false := by
      cases tw
      · rfl
      · exact absurd f1 (by decide)
    subst tf
    show unt b (if (b != m x) = true then _ else _) = _
    split
    · rename_i h
      show (if (b != m x) = true then _ else _) = _
      rw [if_pos h, unt_tw true f2, unt_tw true f3]
    · rename_i h
      show (if (b != m x) = true then _ else _) = _
      rw [if_neg h, unt_tw false f2, unt_tw false f3]
theorem tw_root {m : N → Bool} : ∀ {T : Tr N} (b : Bool), (twT m b T).root = T.root
  | .nil, _ => rfl
  | .nd tw l x r, b => by
    show Tr.root (if (b != m x) = true then _ else _) = _
    split <;> rfl
theorem tw_perm {m : N → Bool} : ∀ {T : Tr N} (b : Bool), (twT m b T).nms.Perm T.nms
  | .nil, _ => .nil
  | .nd tw l x r, b => by
    show (Tr.nms (if (b != m x) = true then _ else _)).Perm (l.nms ++ x :: r.nms)
    split
    · show ((twT m true r).nms ++ x :: (twT m true l).nms).Perm _
      refine ((tw_perm true).append ((tw_perm true).cons x)).trans ?_
      refine List.perm_append_comm.trans ?_
      show (x :: l.nms ++ r.nms).Perm _
      exact (List.perm_middle (a := x) (l₁ := l.nms) (l₂ := r.nms)).symm
    · exact (tw_perm false).append ((tw_perm false).cons x)
theorem flips_at : ∀ {ys : List N} {t : N → Bool} {y : N}, ys.Nodup → flips t ys y = if y ∈ ys then !t y else t y
  | [], t, y, _ => by
    rw [if_neg List.not_mem_nil]
    rfl
  | z :: ys, t, y, nd => by
    obtain ⟨n1, n2⟩ := List.nodup_cons.mp nd
    show flips (up1 t z (!t z)) ys y = _
    rw [flips_at n2]
    by_cases e : y = z
    · subst e
      rw [if_neg n1, if_pos List.mem_cons_self, up1_same]
    · rw [up1_ne e]
      by_cases m : y ∈ ys
      · rw [if_pos m, if_pos (List.mem_cons_of_mem _ m)]
      · rw [if_neg m, if_neg fun h => (List.mem_cons.mp h).elim e m]
theorem rep_tog {S S' : Lk N} : ∀ {T : Tr N} {p : Option N}, Rep S p T → S'.ns = S.ns → (∀ y ∈ T.nms, S'.l y = S.l y ∧ S'.r y = S.r y ∧ S'.a y = S.a y) → (∀ y ∈ T.nms, S'.t y = if T.root = some y then !S.t y else S.t y) → T.nms.Nodup → Rep S' p (tog T)
  | .nil, _, _, _, _, _, _ => trivial
  | .nd tw l x r, p, h, hn, h1, h2, nd => by
    obtain ⟨q1, q2, q3, q4, q5, ql, qr⟩ := h
    have nd : (l.nms ++ x :: r.nms).Nodup := nd
    obtain ⟨n1, n2, n3⟩ := List.nodup_append.mp nd
    obtain ⟨n4, n5⟩ := List.nodup_cons.mp n2
    have mx : x ∈ (Tr.nd tw l x r).nms := List.mem_append_right _ List.mem_cons_self
    obtain ⟨a1, a2, a3⟩ := h1 x mx
    have tx := h2 x mx
    rw [if_pos (show (Tr.nd tw l x r).root = some x from rfl)] at tx
    have sub : ∀ y, y ≠ x → y ∈ (Tr.nd tw l x r).nms → Agr S S' y := fun y ne my => by
      obtain ⟨b1, b2, b3⟩ := h1 y my
      have b4 := h2 y my
      rw [if_neg fun (e : (Tr.nd tw l x r).root = some y) => ne (Option.some.inj e).symm] at b4
      exact ⟨b1, b2, b3, b4⟩
    refine ⟨hn ▸ q1, by rw [tx, q2], a1.trans q3, a2.trans q4, a3.trans q5, ql.agr hn fun y m => sub y (fun e => n3 y m x List.mem_cons_self e) (List.mem_append_left _ m), qr.agr hn fun y m => sub y (fun e => n4 (e ▸ m)) (List.mem_append_right _ (List.mem_cons_of_mem _ m))⟩
/-- what a push comes to -/
structure Pushed (S S0 : Lk N) (p : Option N) (T : Tr N) (x : N) (l r : Tr N) : Prop where
  ns : S0.ns = S.ns
  pt : S0.t x = false
  pl : S0.l x = l.root
  pr : S0.r x = r.root
  pa : S0.a x = p
  rl : Rep S0 (some x) l
  rr : Rep S0 (some x) r
  nd : (l.nms ++ x :: r.nms).Nodup
  mem : ∀ y, y ∈ l.nms ++ x :: r.nms ↔ y ∈ T.nms
  out : ∀ y, y ∉ T.nms → Agr S S0 y
  un : unt false T = .nd false (unt false l) x (unt false r)
  len : l.nms.length + r.nms.length + 1 = T.nms.length
theorem push_rep {S : Lk N} {p : Option N} {tw : Bool} {l r : Tr N} {x : N} (h : Rep S p (.nd tw l x r)) (nd : (Tr.nd tw l x r).nms.Nodup) : ∃ l' r', Pushed S (S.push x) p (.nd tw l x r) x l' r' := by
  obtain ⟨q1, q2, q3, q4, q5, ql, qr⟩ := id h
  have nd : (l.nms ++ x :: r.nms).Nodup := nd
  obtain ⟨n1, n2, n3⟩ := List.nodup_append.mp nd
  obtain ⟨n4, n5⟩ := List.nodup_cons.mp n2
  have nl : x ∉ l.nms := fun m => n3 x m x List.mem_cons_self rfl
  have len : l.nms.length + r.nms.length + 1 = (Tr.nd tw l x r).nms.length := (nd_len (tw := tw)).symm
  cases tw with
  | false =>
    rw [Lk.push_flat q2]
    exact ⟨l, r, rfl, q2, q3, q4, q5, ql, qr, nd, fun y => Iff.rfl, fun y _ => Agr.refl, rfl, len⟩
  | true =>
    have e : S.push x = { S.swap x with t := flips (S.swap x).t ((S.swap x).below x) } := if_pos q2
    rw [e]
    have ew : (S.swap x).below x = [r.root, l.root].filterMap id := by
      show [up1 S.l x (S.r x) x, up1 S.r x (S.l x) x].filterMap id = _
      rw [up1_same, up1_same, q3, q4]
    have mb : ∀ y, y ∈ (S.swap x).below x ↔ r.root = some y ∨ l.root = some y := fun y => by
      rw [ew]
      cases r.root <;> cases l.root <;> simp [eq_comm]
    have ndb : ((S.swap x).below x).Nodup := by
      rw [ew]
      cases er : r.root with
      | none => cases el : l.root <;> simp
      | some u =>
        cases el : l.root with
        | none => simp
        | some v =>
          have ne : u ≠ v := fun z => n3 v (Tr.root_mem el) u (List.mem_cons_of_mem _ (Tr.root_mem er)) z.symm
          simpa using ne
    have xb : x ∉ (S.swap x).below x := fun m => ((mb x).mp m).elim (fun e => n4 (Tr.root_mem e)) fun e => nl (Tr.root_mem e)
    have tt : ∀ y, flips (S.swap x).t ((S.swap x).below x) y = if y ∈ (S.swap x).below x then !(S.swap x).t y else (S.swap x).t y := fun y => flips_at ndb
    have ne_l : ∀ y, y ≠ x → up1 S.l x (S.r x) y = S.l y := fun y ne => up1_ne ne
    have ne_r : ∀ y, y ≠ x → up1 S.r x (S.l x) y = S.r y := fun y ne => up1_ne ne
    have ne_t : ∀ y, y ≠ x → (S.swap x).t y = S.t y := fun y ne => up1_ne ne
    refine ⟨tog r, tog l, rfl, ?_, ?_, ?_, q5, ?_, ?_, ?_, ?_, ?_, ?_, ?_⟩
    · show flips (S.swap x).t ((S.swap x).below x) x = false
      rw [tt, if_neg xb]
      exact up1_same
    · show up1 S.l x (S.r x) x = _
      rw [up1_same, q4, tog_root]
    · show up1 S.r x (S.l x) x = _
      rw [up1_same, q3, tog_root]
    · refine rep_tog qr rfl (fun y m => ?_) (fun y m => ?_) n5
      · have ne : y ≠ x := fun e => n4 (e ▸ m)
        exact ⟨ne_l y ne, ne_r y ne, rfl⟩
      · have ne : y ≠ x := fun e => n4 (e ▸ m)
        show flips (S.swap x).t ((S.swap x).below x) y = _
        rw [tt, ne_t y ne]
        by_cases c : r.root = some y
        · rw [if_pos c, if_pos ((mb y).mpr (.inl c))]
        · rw [if_neg c, if_neg fun h => ((mb y).mp h).elim c fun e => n3 y (Tr.root_mem e) y (List.mem_cons_of_mem _ m) rfl]
    · refine rep_tog ql rfl (fun y m => ?_) (fun y m => ?_) n1
      · have ne : y ≠ x := fun e => nl (e ▸ m)
        exact ⟨ne_l y ne, ne_r y ne, rfl⟩
      · have ne : y ≠ x := fun e => nl (e ▸ m)
        show flips (S.swap x).t ((S.swap x).below x) y = _
        rw [tt, ne_t y ne]
        by_cases c : l.root = some y
        · rw [if_pos c, if_pos ((mb y).mpr (.inr c))]
        · rw [if_neg c, if_neg fun h => ((mb y).mp h).elim (fun e => n3 y m y (List.mem_cons_of_mem _ (Tr.root_mem e)) rfl) c]
    · rw [tog_nms, tog_nms]
      refine List.nodup_append.mpr ⟨n5, List.nodup_cons.mpr ⟨nl, n1⟩, fun a ma b mb ab => ?_⟩
      rcases List.mem_cons.mp mb with bx | mb
      · exact n4 (bx ▸ ab ▸ ma)
      · exact n3 b mb a (List.mem_cons_of_mem _ ma) ab.symm
    · intro y
      rw [tog_nms, tog_nms]
      show _ ↔ y ∈ l.nms ++ x :: r.nms
      rw [List.mem_append, List.mem_cons, List.mem_append, List.mem_cons]
      exact ⟨fun h => h.elim (fun a => .inr (.inr a)) fun a => a.elim (fun b => .inr (.inl b)) .inl, fun h => h.elim (fun a => .inr (.inr a)) fun a => a.elim (fun b => .inr (.inl b)) .inl⟩
    · intro y ny
      have ne : y ≠ x := fun e => ny (e ▸ List.mem_append_right _ List.mem_cons_self)
      refine ⟨ne_l y ne, ne_r y ne, rfl, ?_⟩
      show flips (S.swap x).t ((S.swap x).below x) y = _
      rw [tt, ne_t y ne, if_neg fun h => ((mb y).mp h).elim (fun e => ny (List.mem_append_right _ (List.mem_cons_of_mem _ (Tr.root_mem e)))) fun e => ny (List.mem_append_left _ (Tr.root_mem e))]
    · rw [unt_tog, unt_tog]
      rfl
    · rw [tog_nms, tog_nms]
      omega
theorem io_unt : ∀ (n : Nat) {T : Tr N} {S : Lk N} {p : Option N}, T.nms.length ≤ n → Rep S p T → T.nms.Nodup → ∃ S', (∀ (k : Nat) (w ns : List N), S.io (k + T.cost) T.root w ns = S'.io k none w (ns ++ (unt false T).nms)) ∧ S'.ns = S.ns ∧ Rep S' p (unt false T) ∧ ∀ y, y ∉ T.nms → Agr S S' y
  | n, .nil, S, p, _, _, _ => ⟨S, fun k w ns => by
      show S.io k none w ns = S.io k none w (ns ++ [])
      rw [List.append_nil], rfl, trivial, fun y _ => Agr.refl⟩
  | 0, .nd tw l x r, S, p, le, _, _ => by
    rw [nd_len] at le
    omega
  | n + 1, .nd tw l x r, S, p, le, h, nd => by
    obtain ⟨l', r', P⟩ := push_rep h nd
    have ln := P.len
    have q1 := h.1
    obtain ⟨n1, n2, n3⟩ := List.nodup_append.mp P.nd
    obtain ⟨n4, n5⟩ := List.nodup_cons.mp n2
    have nl : x ∉ l'.nms := fun m => n3 x m x List.mem_cons_self rfl
    obtain ⟨S1, i1, e1, R1, o1⟩ := io_unt n (T := l') (by omega) P.rl n1
    have rr1 : Rep S1 (some x) r' := P.rr.agr e1 fun y m => o1 y fun z => n3 y z y (List.mem_cons_of_mem _ m) rfl
    obtain ⟨S2, i2, e2, R2, o2⟩ := io_unt n (T := r') (by omega) rr1 n5
    have a1 := o1 x nl
    have a2 := o2 x n4
    have a12 := a1.trans a2
    refine ⟨S2, fun k w ns => ?_, e2.trans (e1.trans P.ns), ?_, fun y ny => ?_⟩
    · have ec : k + (Tr.nd tw l x r).cost = (k + r'.cost + 1) + l'.cost + 1 := by
        rw [Tr.cost_eq, Tr.cost_eq, Tr.cost_eq]
        omega
      rw [ec]
      show (S.push x).io ((k + r'.cost + 1) + l'.cost) ((S.push x).l x) (x :: w) ns = _
      rw [P.pl, i1]
      show S1.io (k + r'.cost) (S1.r x) w (ns ++ (unt false l').nms ++ [x]) = _
      rw [a1.2.1, P.pr, i2, P.un]
      show _ = S2.io k none w (ns ++ ((unt false l').nms ++ x :: (unt false r').nms))
      simp only [List.append_assoc, List.cons_append, List.nil_append]
    · rw [P.un]
      refine ⟨?_, a12.2.2.2.trans P.pt, ?_, ?_, a12.2.2.1.trans P.pa, ?_, R2⟩
      · rw [e2, e1, P.ns]
        exact q1
      · rw [unt_root]
        exact a12.1.trans P.pl
      · rw [unt_root]
        exact a12.2.1.trans P.pr
      · exact R1.agr e2 fun y m => o2 y fun z => n3 y ((unt_mem _ _ _).mp m) y (List.mem_cons_of_mem _ z) rfl
    · have my : y ∉ l'.nms ++ x :: r'.nms := fun m => ny ((P.mem y).mp m)
      have b1 := o1 y fun m => my (List.mem_append_left _ m)
      have b2 := o2 y fun m => my (List.mem_append_right _ (List.mem_cons_of_mem _ m))
      exact (P.out y ny).trans (b1.trans b2)
/-- who isn't on top is a child -/
theorem rep_up {S : Lk N} : ∀ {T : Tr N} {p : Option N} {x : N}, Rep S p T → x ∈ T.nms → T.root ≠ some x → ∃ u ∈ T.nms, S.a x = some u ∧ (S.l u = some x ∨ S.r u = some x)
  | .nd tw l z r, p, x, h, m, ne => by
    obtain ⟨h1, h2, h3, h4, h5, hl, hr⟩ := h
    have mz : z ∈ (Tr.nd tw l z r).nms := List.mem_append_right _ List.mem_cons_self
    rcases List.mem_append.mp m with m | m
    · by_cases e : l.root = some x
      · exact ⟨z, mz, hl.top e, .inl (h3.trans e)⟩
      · obtain ⟨u, mu, e1, e2⟩ := rep_up hl m e
        exact ⟨u, List.mem_append_left _ mu, e1, e2⟩
    · rcases List.mem_cons.mp m with rfl | m
      · exact absurd rfl ne
      · by_cases e : r.root = some x
        · exact ⟨z, mz, hr.top e, .inr (h4.trans e)⟩
        · obtain ⟨u, mu, e1, e2⟩ := rep_up hr m e
          exact ⟨u, List.mem_append_right _ (List.mem_cons_of_mem _ mu), e1, e2⟩
end

end My
namespace My
open PySem L2
/-! ### strands with flags -/
theorem unt_perm {N : Type} : ∀ (b : Bool) (T : Tr N), (unt b T).nms.Perm T.nms
  | _, .nil => .nil
  | b, .nd tw l x r => by
    show (Tr.nms (if (b != tw) = true then _ else _)).Perm (l.nms ++ x :: r.nms)
    split
    · show ((unt true r).nms ++ x :: (unt true l).nms).Perm _
      refine ((unt_perm true r).append ((unt_perm true l).cons x)).trans ?_
      refine List.perm_append_comm.trans ?_
      show (x :: l.nms ++ r.nms).Perm _
      exact (List.perm_middle (a := x) (l₁ := l.nms) (l₂ := r.nms)).symm
    · exact (unt_perm false l).append ((unt_perm false r).cons x)
theorem snm_nd : ∀ {As : Strands}, (snm As).Nodup → (∀ t ∈ As, t.1.nms.Nodup) ∧ ∀ t ∈ As, ∀ u ∈ As, ∀ x, x ∈ t.1.nms → x ∈ u.1.nms → t = u
  | [], _ => ⟨fun t m => (nomatch m), fun t m => (nomatch m)⟩
  | a :: As, nd => by
    rw [snm_cons] at nd
    obtain ⟨n1, n2, n3⟩ := List.nodup_append.mp nd
    obtain ⟨i1, i2⟩ := snm_nd n2
    have no : ∀ u ∈ As, ∀ x, x ∈ a.1.nms → x ∈ u.1.nms → False := fun u mu x m1 m2 => n3 x m1 x (List.mem_flatMap.mpr ⟨u, mu, m2⟩) rfl
    refine ⟨fun t m => ?_, fun t mt u mu x m1 m2 => ?_⟩
    · rcases List.mem_cons.mp m with rfl | m
      · exact n1
      · exact i1 t m
    · rcases List.mem_cons.mp mt with et | mt2
      · rcases List.mem_cons.mp mu with eu | mu2
        · rw [et, eu]
        · exact (no u mu2 x (et ▸ m1) m2).elim
      · rcases List.mem_cons.mp mu with eu | mu2
        · exact (no t mt2 x (eu ▸ m2) m1).elim
        · exact i2 t mt2 u mu2 x m1 m2
structure FS (S : Lk Int) (As : Strands) : Prop where
  rp : ∀ t ∈ As, Rep S t.2 t.1
  rt : ∀ t ∈ As, ∃ x, t.1.root = some x
  pm : (snm As).Perm S.ns
  nn : S.ns.Nodup
  up : ∀ t ∈ As, ∀ q, t.2 = some q → q ∈ S.ns ∧ q ∉ t.1.nms
section
variable {S S' : Lk Int} {As : Strands}
theorem FS.nd (f : FS S As) : (snm As).Nodup := f.pm.nodup_iff.mpr f.nn
theorem FS.same (f : FS S As) {t u : Tr Int × Option Int} (mt : t ∈ As) (mu : u ∈ As) {x : Int} (m1 : x ∈ t.1.nms) (m2 : x ∈ u.1.nms) : t = u := (snm_nd f.nd).2 t mt u mu x m1 m2
theorem FS.find (f : FS S As) {x : Int} (m : x ∈ S.ns) : ∃ t ∈ As, x ∈ t.1.nms := List.mem_flatMap.mp (f.pm.mem_iff.mpr m)
theorem FS.inn (f : FS S As) {t : Tr Int × Option Int} (mt : t ∈ As) {x : Int} (m : x ∈ t.1.nms) : x ∈ S.ns := f.pm.mem_iff.mp (List.mem_flatMap.mpr ⟨t, mt, m⟩)
theorem FS.top (f : FS S As) {t : Tr Int × Option Int} (mt : t ∈ As) {x : Int} (m : x ∈ t.1.nms) : S.isTop x = true ↔ t.1.root = some x := by
  constructor
  · intro h
    by_cases e : t.1.root = some x
    · exact e
    · obtain ⟨u, _, ea, el⟩ := rep_up (f.rp t mt) m e
      unfold Lk.isTop at h
      rw [ea] at h
      have h : (!(decide (S.l u = some x) || decide (S.r u = some x))) = true := h
      rcases el with el | el
      · rw [decide_eq_true el, Bool.true_or] at h
        cases h
      · rw [decide_eq_true el, Bool.or_true] at h
        cases h
  · intro e
    refine is_top (f.rp t mt) e fun q eq y my => ?_
    obtain ⟨mq, nq⟩ := f.up t mt q eq
    obtain ⟨u, mu, mqu⟩ := f.find mq
    obtain ⟨c1, c2, _⟩ := rep_child (f.rp u mu) ((snm_nd f.nd).1 u mu) q mqu
    have no : y ∈ u.1.nms → False := fun z => nq (f.same mt mu my z ▸ mqu)
    exact ⟨fun z => no (c1 y z).1, fun z => no (c2 y z).1⟩
theorem FS.cl (f : FS S As) : Cl S := fun x m => by
  obtain ⟨t, mt, mx⟩ := f.find m
  obtain ⟨c1, c2, _⟩ := rep_child (f.rp t mt) ((snm_nd f.nd).1 t mt) x mx
  refine ⟨fun y e => f.inn mt (c1 y e).1, fun y e => f.inn mt (c2 y e).1, fun y e => ?_⟩
  by_cases er : t.1.root = some x
  · exact (f.up t mt y (((f.rp t mt).top er).symm.trans e)).1
  · obtain ⟨u, mu, ea, _⟩ := rep_up (f.rp t mt) mx er
    rw [ea] at e
    cases e
    exact f.inn mt mu
theorem FS.det (f : FS S As) (g : FS S' As) : ∀ x ∈ S.ns, Agr S S' x := fun x m => by
  obtain ⟨t, mt, mx⟩ := f.find m
  exact (f.rp t mt).det (g.rp t mt) x mx
theorem hung_all : ∀ {Ts : Strands}, Hung S Ts → (snm Ts).Nodup → ∀ t ∈ Ts, Rep S t.2 t.1 ∧ flat t.1 = true ∧ (∃ x, t.1.root = some x) ∧ ∀ q, t.2 = some q → q ∈ snm Ts ∧ q ∉ t.1.nms
  | a :: r, h, nd, t, m => by
    obtain ⟨h1, h2, h3, h4, h5⟩ := h
    rw [snm_cons] at nd ⊢
    obtain ⟨n1, n2, n3⟩ := List.nodup_append.mp nd
    rcases List.mem_cons.mp m with rfl | m
    · exact ⟨h1, h2, h3, fun q e => ⟨List.mem_append_right _ (h4 q e), fun z => n3 q z q (h4 q e) rfl⟩⟩
    · obtain ⟨a1, a2, a3, a4⟩ := hung_all h5 n2 t m
      exact ⟨a1, a2, a3, fun q e => ⟨List.mem_append_right _ (a4 q e).1, (a4 q e).2⟩⟩
theorem Fo.fs {Ts : Strands} (f : Fo S Ts) : FS S Ts ∧ ∀ t ∈ Ts, flat t.1 = true :=
  ⟨⟨fun t m => (hung_all f.h f.nd t m).1, fun t m => (hung_all f.h f.nd t m).2.2.1, f.pm, f.nn, fun t m q e => ⟨f.pm.mem_iff.mp ((hung_all f.h f.nd t m).2.2.2 q e).1, ((hung_all f.h f.nd t m).2.2.2 q e).2⟩⟩, fun t m => (hung_all f.h f.nd t m).2.1⟩
/-- the strand on top of which x is: its flags pushed down -/
def un1 (x : Int) (t : Tr Int × Option Int) : Tr Int × Option Int := if t.1.root = some x then (unt false t.1, t.2) else t
theorem un1_perm {x : Int} (t : Tr Int × Option Int) : (un1 x t).1.nms.Perm t.1.nms := by
  unfold un1
  split
  · exact unt_perm _ _
  · exact .refl _
theorem un1_up {x : Int} (t : Tr Int × Option Int) : (un1 x t).2 = t.2 := by
  unfold un1
  split <;> rfl
theorem un1_root {x : Int} (t : Tr Int × Option Int) : (un1 x t).1.root = t.1.root := by
  unfold un1
  split
  · exact unt_root _ _
  · rfl
theorem snm_map {h : Tr Int × Option Int → Tr Int × Option Int} (hp : ∀ t, (h t).1.nms.Perm t.1.nms) : ∀ As : Strands, (snm (As.map h)).Perm (snm As)
  | [] => .nil
  | a :: As => by
    rw [List.map_cons, snm_cons, snm_cons]
    exact (hp a).append (snm_map hp As)
theorem FS.io (f : FS S As) {t : Tr Int × Option Int} (mt : t ∈ As) {x : Int} (e : t.1.root = some x) : ∃ S', S.io (t.1.cost + 1) (some x) [] [] = some (S', (unt false t.1).nms) ∧ FS S' (As.map (un1 x)) ∧ S'.ns = S.ns := by
  have nd := (snm_nd f.nd).1
  obtain ⟨S', i1, e1, R1, o1⟩ := io_unt _ (Nat.le_refl _) (f.rp t mt) (nd t mt)
  have mx := Tr.root_mem e
  refine ⟨S', ?_, ⟨fun u mu => ?_, fun u mu => ?_, ?_, by rw [e1]; exact f.nn, fun u mu q eq => ?_⟩, e1⟩
  · rw [Nat.add_comm, ← e, i1 1 [] []]
    rfl
  · obtain ⟨v, mv, rfl⟩ := List.mem_map.mp mu
    by_cases c : v.1.root = some x
    · have ev := f.same mv mt (Tr.root_mem c) mx
      subst ev
      show Rep S' (un1 x v).2 (un1 x v).1
      unfold un1
      rw [if_pos c]
      exact R1
    · unfold un1
      rw [if_neg c]
      refine (f.rp v mv).agr e1 fun y my => o1 y fun z => c ?_
      rw [f.same mv mt my z]
      exact e
  · obtain ⟨v, mv, rfl⟩ := List.mem_map.mp mu
    rw [un1_root]
    exact f.rt v mv
  · rw [e1]
    exact (snm_map un1_perm As).trans f.pm
  · obtain ⟨v, mv, rfl⟩ := List.mem_map.mp mu
    rw [un1_up] at eq
    obtain ⟨a1, a2⟩ := f.up v mv q eq
    rw [e1]
    exact ⟨a1, fun z => a2 ((un1_perm v).mem_iff.mp z)⟩
end
/-- after those of Xs -/
def uX (Xs : List Int) (t : Tr Int × Option Int) : Tr Int × Option Int := if (∃ x ∈ Xs, t.1.root = some x) then (unt false t.1, t.2) else t
theorem uX_nil (t : Tr Int × Option Int) : uX [] t = t := by
  unfold uX
  rw [if_neg]
  rintro ⟨x, m, _⟩
  cases m
theorem uX_root (Xs : List Int) (t : Tr Int × Option Int) : (uX Xs t).1.root = t.1.root := by
  unfold uX
  split
  · exact unt_root _ _
  · rfl
theorem uX_up (Xs : List Int) (t : Tr Int × Option Int) : (uX Xs t).2 = t.2 := by
  unfold uX
  split <;> rfl
theorem uX_snoc {Xs : List Int} {x : Int} (nx : x ∉ Xs) (t : Tr Int × Option Int) : un1 x (uX Xs t) = uX (Xs ++ [x]) t := by
  by_cases c : t.1.root = some x
  · have no : ¬ ∃ y ∈ Xs, t.1.root = some y := fun ⟨y, my, ey⟩ => nx (by rw [c] at ey; cases ey; exact my)
    have e1 : uX Xs t = t := by
      unfold uX
      rw [if_neg no]
    rw [e1]
    unfold un1 uX
    rw [if_pos c, if_pos ⟨x, List.mem_append_right _ List.mem_cons_self, c⟩]
  · unfold un1
    rw [uX_root, if_neg c]
    unfold uX
    by_cases h : ∃ y ∈ Xs, t.1.root = some y
    · rw [if_pos h, if_pos]
      obtain ⟨y, my, ey⟩ := h
      exact ⟨y, List.mem_append_left _ my, ey⟩
    · rw [if_neg h, if_neg]
      rintro ⟨y, my, ey⟩
      rcases List.mem_append.mp my with my | my
      · exact h ⟨y, my, ey⟩
      · rw [List.mem_singleton.mp my] at ey
        exact c ey
/-- flags that mean the same as none -/
def twS (m : Int → Bool) (t : Tr Int × Option Int) : Tr Int × Option Int := (twT m false t.1, t.2)
theorem uX_all {m : Int → Bool} {Xs : List Int} {t : Tr Int × Option Int} (f : flat t.1 = true) {x : Int} (e : t.1.root = some x) (mx : x ∈ Xs) : uX Xs (twS m t) = t := by
  unfold uX
  rw [if_pos ⟨x, mx, by show (twT m false t.1).root = some x; rw [tw_root]; exact e⟩]
  show (unt false (twT m false t.1), t.2) = t
  rw [unt_tw false f]
theorem un_tw {m : Int → Bool} {t : Tr Int × Option Int} (f : flat t.1 = true) : (unt false (twS m t).1).nms = t.1.nms := by
  show (unt false (twT m false t.1)).nms = _
  rw [unt_tw false f]
/-! ### the ties of strands -/
def tieI (a b : Int) : Int × Int := (if b < a then b else a, if b > a then b else a)
def zpI (l : List Int) : List (Int × Int) := (l.zip l.tail).map fun t => tieI t.1 t.2
def tiesT (t : Tr Int × Option Int) : List (Int × Int) := zpI t.1.nms ++ (match t.2 with | none => [] | some q => [tieI (t.1.nms.headD 0) q])
def gS (Ts : Strands) (x : Int) : List (Int × Int) := match Ts.find? (fun t => decide (t.1.root = some x)) with | some t => tiesT t | none => []
theorem gS_at {S : Lk Int} {Ts : Strands} (f : FS S Ts) {t : Tr Int × Option Int} (mt : t ∈ Ts) {x : Int} (e : t.1.root = some x) : gS Ts x = tiesT t := by
  unfold gS
  cases h : Ts.find? (fun t => decide (t.1.root = some x)) with
  | none =>
    have := List.find?_eq_none.mp h t mt
    rw [decide_eq_true e] at this
    exact absurd rfl this
  | some u =>
    have eu : u.1.root = some x := by
      have z := List.find?_some h
      exact of_decide_eq_true z
    have mu := List.mem_of_find?_eq_some h
    rw [f.same mt mu (Tr.root_mem e) (Tr.root_mem eu)]
def tops (S : Lk Int) : List Int := S.ns.filter fun x => S.isTop x
theorem tops_perm {S S' : Lk Int} {Ts As : Strands} (f : FS S Ts) (g : FS S' As) {h : Tr Int × Option Int → Tr Int × Option Int} (ea : As = Ts.map h) (hr : ∀ t, (h t).1.root = t.1.root) (hp : ∀ t, (h t).1.nms.Perm t.1.nms) : (tops S').Perm (tops S) := by
  subst ea
  have pn : S'.ns.Perm S.ns := g.pm.symm.trans ((snm_map hp Ts).trans f.pm)
  unfold tops
  refine (pn.filter _).trans ?_
  refine List.Perm.of_eq (List.filter_congr fun x m => ?_)
  obtain ⟨t, mt, mx⟩ := f.find m
  have mx' : x ∈ (h t).1.nms := (hp t).mem_iff.mpr mx
  rw [Bool.eq_iff_iff, f.top mt mx, g.top (List.mem_map.mpr ⟨t, mt, rfl⟩) mx', hr]
theorem tops_nd {S : Lk Int} {As : Strands} (f : FS S As) : (tops S).Nodup := f.nn.filter _
theorem tops_at {S : Lk Int} {As : Strands} (f : FS S As) {x : Int} (m : x ∈ tops S) : ∃ t ∈ As, t.1.root = some x := by
  obtain ⟨m1, m2⟩ := List.mem_filter.mp m
  obtain ⟨t, mt, mx⟩ := f.find m1
  exact ⟨t, mt, (f.top mt mx).mp m2⟩
theorem at_tops {S : Lk Int} {As : Strands} (f : FS S As) {t : Tr Int × Option Int} (mt : t ∈ As) {x : Int} (e : t.1.root = some x) : x ∈ tops S :=
  List.mem_filter.mpr ⟨f.inn mt (Tr.root_mem e), (f.top mt (Tr.root_mem e)).mpr e⟩
def leP (a b : Int × Int) : Prop := a.1 < b.1 ∨ (a.1 = b.1 ∧ a.2 ≤ b.2)

end My
namespace My
open PySem L2
/-! ### flags that mean the same, told from the names alone -/
def odL (m : Int → Bool) (xs : List Int) : Bool := xs.foldl (fun o y => o != m y) false
theorem odL_from (m : Int → Bool) : ∀ (xs : List Int) (b : Bool), xs.foldl (fun o y => o != m y) b = (b != odL m xs)
  | [], b => by cases b <;> rfl
  | x :: xs, b => by
    show xs.foldl (fun o y => o != m y) (b != m x) = (b != xs.foldl (fun o y => o != m y) (false != m x))
    rw [odL_from m xs, odL_from m xs]
    cases b <;> cases m x <;> cases odL m xs <;> rfl
theorem odL_cons (m : Int → Bool) (x : Int) (xs : List Int) : odL m (x :: xs) = (odL m xs != m x) := by
  show xs.foldl (fun o y => o != m y) (false != m x) = _
  rw [odL_from]
  cases m x <;> cases odL m xs <;> rfl
/-- what is told of x: as many marks as lie on its way up -/
def od (S : Lk Int) (m : Int → Bool) (k : Nat) (x : Int) : Bool := odL m ((S.path k x).getD [])
def twL (S : Lk Int) (m : Int → Bool) (k : Nat) : Lk Int := { S with l := fun x => if od S m k x = true then S.r x else S.l x, r := fun x => if od S m k x = true then S.l x else S.r x, t := m }
theorem rep_tw {S : Lk Int} {m o : Int → Bool} {S0 : Lk Int} (en : S0.ns = S.ns) (el : ∀ x, S0.l x = if o x = true then S.r x else S.l x) (er : ∀ x, S0.r x = if o x = true then S.l x else S.r x) (ea : S0.a = S.a) (et : S0.t = m) :
    ∀ {T : Tr Int} {p : Option Int} (b : Bool), Rep S p T → (∀ x, T.root = some x → o x = (b != m x)) → (∀ x ∈ T.nms, ∀ u, T.root ≠ some x → S.a x = some u → o x = (o u != m x)) → T.nms.Nodup → Rep S0 p (twT m b T)
  | .nil, _, _, _, _, _, _ => trivial
  | .nd tw l x r, p, b, h, hr, hc, nd => by
    obtain ⟨h1, h2, h3, h4, h5, hl, hrr⟩ := h
    have nd : (l.nms ++ x :: r.nms).Nodup := nd
    obtain ⟨n1, n2, n3⟩ := List.nodup_append.mp nd
    obtain ⟨n4, n5⟩ := List.nodup_cons.mp n2
    have ox : o x = (b != m x) := hr x rfl
    have notl : ∀ y ∈ l.nms, (Tr.nd tw l x r).root ≠ some y := fun y my e => n3 y my x List.mem_cons_self (Option.some.inj e).symm
    have notr : ∀ y ∈ r.nms, (Tr.nd tw l x r).root ≠ some y := fun y my e => n4 (by rw [Option.some.inj e]; exact my)
    have ll : Rep S0 (some x) (twT m (o x) l) := rep_tw en el er ea et (o x) hl (fun y e => hc y (List.mem_append_left _ (Tr.root_mem e)) x (notl y (Tr.root_mem e)) (hl.top e)) (fun y my u ne e => hc y (List.mem_append_left _ my) u (notl y my) e) n1
    have rr : Rep S0 (some x) (twT m (o x) r) := rep_tw en el er ea et (o x) hrr (fun y e => hc y (List.mem_append_right _ (List.mem_cons_of_mem _ (Tr.root_mem e))) x (notr y (Tr.root_mem e)) (hrr.top e)) (fun y my u ne e => hc y (List.mem_append_right _ (List.mem_cons_of_mem _ my)) u (notr y my) e) n5
    show Rep S0 p (if (b != m x) = true then _ else _)
    rw [← ox]
    by_cases c : o x = true
    · rw [if_pos c]
      rw [c] at ll rr
      refine ⟨by rw [en]; exact h1, by rw [et], ?_, ?_, by rw [ea]; exact h5, rr, ll⟩
      · rw [el, if_pos c, tw_root]
        exact h4
      · rw [er, if_pos c, tw_root]
        exact h3
    · rw [if_neg c]
      have c2 : o x = false := eq_false_of_ne_true c
      rw [c2] at ll rr
      refine ⟨by rw [en]; exact h1, by rw [et], ?_, ?_, by rw [ea]; exact h5, ll, rr⟩
      · rw [el, if_neg c, tw_root]
        exact h3
      · rw [er, if_neg c, tw_root]
        exact h4
theorem path_depth {S : Lk Int} : ∀ {T : Tr Int} {p : Option Int}, Rep S p T → T.nms.Nodup → (∀ x, T.root = some x → ∃ k, ∃ xs, S.path k x = some xs) → ∀ x ∈ T.nms, ∃ k, ∃ xs, S.path k x = some xs
  | .nd tw l z r, p, h, nd, hp, x, mx => by
    obtain ⟨h1, h2, h3, h4, h5, hl, hr⟩ := h
    have nd : (l.nms ++ z :: r.nms).Nodup := nd
    obtain ⟨n1, n2, n3⟩ := List.nodup_append.mp nd
    obtain ⟨n4, n5⟩ := List.nodup_cons.mp n2
    obtain ⟨kz, xz, ez⟩ := hp z rfl
    have step : ∀ y, S.a y = some z → ∃ k, ∃ xs, S.path k y = some xs := fun y ey => by
      refine ⟨kz + 1, ?_⟩
      unfold Lk.path
      by_cases c : S.isTop y = true
      · exact ⟨_, if_pos c⟩
      · rw [if_neg c, ey]
        exact ⟨y :: xz, by show (Lk.path kz S z).map (y :: ·) = _; rw [ez]; rfl⟩
    rcases List.mem_append.mp mx with mx | mx
    · exact path_depth hl n1 (fun y e => step y (hl.top e)) x mx
    · rcases List.mem_cons.mp mx with rfl | mx
      · exact ⟨kz, xz, ez⟩
      · exact path_depth hr n5 (fun y e => step y (hr.top e)) x mx
section
variable {S : Lk Int} {Ts : Strands}
theorem FS.path1 (f : FS S Ts) {t : Tr Int × Option Int} (mt : t ∈ Ts) {x : Int} (e : t.1.root = some x) (k : Nat) : S.path (k + 1) x = some [x] := by
  unfold Lk.path
  rw [if_pos ((f.top mt (Tr.root_mem e)).mpr e)]
theorem max_path : ∀ {l : List Int}, (∀ x ∈ l, ∃ k, ∃ xs, S.path k x = some xs) → ∃ K, ∀ x ∈ l, ∃ xs, S.path K x = some xs
  | [], _ => ⟨0, fun x m => nomatch m⟩
  | y :: l, h => by
    obtain ⟨K, hK⟩ := max_path fun x m => h x (List.mem_cons_of_mem _ m)
    obtain ⟨k, xs, e⟩ := h y List.mem_cons_self
    refine ⟨max k K, fun x m => ?_⟩
    rcases List.mem_cons.mp m with rfl | m
    · exact ⟨xs, Lk.path_le e (Nat.le_max_left ..)⟩
    · obtain ⟨ys, e2⟩ := hK x m
      exact ⟨ys, Lk.path_le e2 (Nat.le_max_right ..)⟩
theorem FS.paths (f : FS S Ts) : ∃ K, ∀ x ∈ S.ns, ∃ xs, S.path (K + 1) x = some xs := by
  obtain ⟨K, h⟩ := max_path (S := S) (l := S.ns) fun x m => by
    obtain ⟨t, mt, mx⟩ := f.find m
    exact path_depth (f.rp t mt) ((snm_nd f.nd).1 t mt) (fun y e => ⟨1, [y], f.path1 mt e 0⟩) x mx
  exact ⟨K, fun x m => by
    obtain ⟨xs, e⟩ := h x m
    exact ⟨xs, Lk.path_more e⟩⟩
theorem path_up {k : Nat} {x u : Int} {xs : List Int} (h : S.path (k + 1) x = some xs) (nt : S.isTop x = false) (ea : S.a x = some u) : ∃ ys, S.path k u = some ys ∧ xs = x :: ys := by
  unfold Lk.path at h
  rw [if_neg (by rw [nt]; decide), ea] at h
  have h : (Lk.path k S u).map (x :: ·) = some xs := h
  obtain ⟨ys, e1, e2⟩ := Option.map_eq_some_iff.mp h
  exact ⟨ys, e1, e2.symm⟩
theorem path_head {k : Nat} {x : Int} {xs : List Int} (h : S.path (k + 1) x = some xs) : ∃ rest, xs = x :: rest := by
  unfold Lk.path at h
  by_cases c : S.isTop x = true
  · rw [if_pos c] at h
    exact ⟨[], (Option.some.inj h).symm⟩
  · rw [if_neg c] at h
    cases e : S.a x with
    | none =>
      rw [e] at h
      exact ⟨[], (Option.some.inj h).symm⟩
    | some u =>
      rw [e] at h
      have h : (Lk.path k S u).map (x :: ·) = some xs := h
      obtain ⟨ys, _, e2⟩ := Option.map_eq_some_iff.mp h
      exact ⟨ys, e2.symm⟩
theorem path_top {k : Nat} {x : Int} {xs : List Int} (h : S.path (k + 1) x = some xs) (t : S.isTop x = true) : xs = [x] := by
  unfold Lk.path at h
  rw [if_pos t] at h
  exact (Option.some.inj h).symm
theorem FS.tw (f : FS S Ts) {K : Nat} (hK : ∀ x ∈ S.ns, ∃ xs, S.path (K + 1) x = some xs) (m : Int → Bool) : FS (twL S m (K + 1)) (Ts.map (twS m)) := by
  refine ⟨fun u mu => ?_, fun u mu => ?_, (snm_map (fun t => tw_perm false) Ts).trans f.pm, f.nn, fun u mu q e => ?_⟩
  · obtain ⟨t, mt, rfl⟩ := List.mem_map.mp mu
    refine rep_tw (S := S) (S0 := twL S m (K + 1)) (m := m) (o := od S m (K + 1)) rfl (fun _ => rfl) (fun _ => rfl) rfl rfl false (f.rp t mt) (fun x e => ?_) (fun x mx u ne ea => ?_) ((snm_nd f.nd).1 t mt)
    · unfold od
      rw [f.path1 mt e K]
      show odL m [x] = _
      rw [odL_cons]
      rfl
    · have mxs := f.inn mt mx
      have nt : S.isTop x = false := by
        cases c : S.isTop x with
        | false => rfl
        | true => exact absurd ((f.top mt mx).mp c) ne
      obtain ⟨xs, hx⟩ := hK x mxs
      obtain ⟨ys, e1, e2⟩ := path_up hx nt ea
      unfold od
      rw [hx, Lk.path_more e1, e2]
      exact odL_cons m x ys
  · obtain ⟨t, mt, rfl⟩ := List.mem_map.mp mu
    obtain ⟨x, e⟩ := f.rt t mt
    exact ⟨x, (tw_root false).trans e⟩
  · obtain ⟨t, mt, rfl⟩ := List.mem_map.mp mu
    obtain ⟨a1, a2⟩ := f.up t mt q e
    exact ⟨a1, fun z => a2 ((tw_perm false).mem_iff.mp z)⟩
/-- flags none: the shape itself -/
theorem tw_none : ∀ {T : Tr Int}, flat T = true → twT (fun _ => false) false T = T
  | .nil, _ => rfl
  | .nd tw l x r, f => by
    have f : (!tw && flat l && flat r) = true := f
    rw [Bool.and_eq_true, Bool.and_eq_true] at f
    obtain ⟨⟨f1, f2⟩, f3⟩ := f
    have tf : tw = false := by
      cases tw
      · rfl
      · exact absurd f1 (by decide)
    subst tf
    show (if (false != false) = true then _ else _) = _
    rw [if_neg (by decide), tw_none f2, tw_none f3]
end

end My
namespace My
open PySem L2
/-! ### links read while one of their dicts is walked over -/
theorem filter_turn {xs : List Int} {i : Nat} {x : Int} (f : Int → Bool) (h : xs[i]? = some x) : (xs.take (i + 1)).filter f = if f x = true then (xs.take i).filter f ++ [x] else (xs.take i).filter f := by
  rw [List.take_succ, h, List.filter_append]
  by_cases c : f x = true
  · rw [if_pos c, show (some x).toList.filter f = [x] from List.filter_cons_of_pos c]
  · rw [if_neg c, show (some x).toList.filter f = [] from (List.filter_cons_of_neg c).trans rfl, List.append_nil]
theorem dN_at {ns : List Int} {f : Int → V} {i : Nat} {k : Key} {v : V} (h : (dN ns f)[i]? = some (k, v)) : ∃ x, ns[i]? = some x ∧ k = Sum.inl x ∧ v = f x := by
  unfold dN at h
  rw [List.getElem?_map] at h
  obtain ⟨x, hx, e⟩ := Option.map_eq_some_iff.mp h
  cases e
  exact ⟨x, hx, rfl, rfl⟩
structure LinksR (C : Addr) (H : Hp) (A : LA) (S : Lk Int) : Prop where
  ob : ∃ dx, H A.h = some (.ins C dx (fldsL A (S.lk : Int)))
  gl : ∀ x ∈ S.ns, DGet H A.dl (.int x) (some (onV (S.l x)))
  gr : ∀ x ∈ S.ns, DGet H A.dr (.int x) (some (onV (S.r x)))
  ga : ∀ x ∈ S.ns, DGet H A.da (.int x) (some (onV (S.a x)))
theorem dget_dN {H : Hp} {a : Addr} {ns : List Int} {f : Int → V} {x : Int} (h : H a = some (.dK (dN ns f))) (m : x ∈ ns) : DGet H a (.int x) (some (f x)) := by
  have g := DGet.k (k := Sum.inl x) h
  rw [dN_get m] at g
  exact g
theorem dget_fr {H : Hp} {a : Addr} {od : Obj} {ns : List Int} {f : Int → V} {x : Int} (h : H a = some (.frz od (.dK (dN ns f)))) (m : x ∈ ns) : DGet H a (.int x) (some (f x)) :=
  .inl ⟨_, Sum.inl x, .inr ⟨od, h⟩, rfl, (dN_get (f := f) m).symm⟩
theorem LinksAt.r {C : Addr} {H : Hp} {A : LA} {S : Lk Int} (L : LinksAt C H A S) : LinksR C H A S := ⟨L.ob, fun x m => dget_dN L.hl m, fun x m => dget_dN L.hr m, fun x m => dget_dN L.ha m⟩
section
variable {P : Program} {w : World} {K : PySem.W.Frag} {mg : Str → Option Value} {base : Heap} {H : Hp} {A : LA} {S : Lk Int}
theorem rdLR (T : Top K mg) {i j : Nat} {σ : L2.St} {Q : V → Hp → Prop} {x : Int} (L : LinksR T.C_Links H A S) (m : x ∈ S.ns) (h0 : σ[i]? = some (some (.ref A.h))) (h1 : σ[j]? = some (some (.int x))) (q : Q (onV (S.l x)) H) : tDGet (tFld K (tVar i) "left") (tVar j) σ H Q := by
  obtain ⟨dx, hh⟩ := L.ob
  exact ⟨_, h0, A.h, T.C_Links, dx, _, _, rfl, hh, T.cl_Links, T.na_Links_left, fl_left _ _, _, h1, A.dl, _, rfl, L.gl x m, q⟩
theorem rdRR (T : Top K mg) {i j : Nat} {σ : L2.St} {Q : V → Hp → Prop} {x : Int} (L : LinksR T.C_Links H A S) (m : x ∈ S.ns) (h0 : σ[i]? = some (some (.ref A.h))) (h1 : σ[j]? = some (some (.int x))) (q : Q (onV (S.r x)) H) : tDGet (tFld K (tVar i) "right") (tVar j) σ H Q := by
  obtain ⟨dx, hh⟩ := L.ob
  exact ⟨_, h0, A.h, T.C_Links, dx, _, _, rfl, hh, T.cl_Links, T.na_Links_right, fl_right _ _, _, h1, A.dr, _, rfl, L.gr x m, q⟩
theorem rdAR (T : Top K mg) {i j : Nat} {σ : L2.St} {Q : V → Hp → Prop} {x : Int} (L : LinksR T.C_Links H A S) (m : x ∈ S.ns) (h0 : σ[i]? = some (some (.ref A.h))) (h1 : σ[j]? = some (some (.int x))) (q : Q (onV (S.a x)) H) : tDGet (tFld K (tVar i) "above") (tVar j) σ H Q := by
  obtain ⟨dx, hh⟩ := L.ob
  exact ⟨_, h0, A.h, T.C_Links, dx, _, _, rfl, hh, T.cl_Links, T.na_Links_above, fl_above _ _, _, h1, A.da, _, rfl, L.ga x m, q⟩
def spIsTopR (C : Addr) : Sp := fun vs H Q _ => ∃ (A : LA) (S : Lk Int) (x : Int), vs = [.ref A.h, .int x] ∧ LinksR C H A S ∧ x ∈ S.ns ∧ Cl S ∧ ∀ (H' : Hp), Same H H' → Q (.bl (S.isTop x)) H'
theorem ok_istopR (T : Top K mg) : FnOk P w K mg base CX0 1 T.a_Linksistop T.d_Linksistop ["self", "x"] (spIsTopR T.C_Links) := by
  refine T.F_Linksistop.ok sc_Linksistop (fun vs H Q E h => ?_) (fun cdv A outer s H vs Q E hr h => ?_)
  · obtain ⟨A, S, x, rfl, _⟩ := h
    rfl
  · obtain ⟨A, S, x, rfl, L, m, cl, q⟩ := h
    refine ⟨_, (pss_cons (ps_set (i := 2) sc_Linksistop.nd rfl (.inl rfl) (pe_dget (u1 hr) (pe_fld (pv 0) rfl) (pv 1) (fun _ _ => rfl)))
      (pss_one (ps_ret (pe_or (pe_cmpR op_isN (pv 2) pe_non (nomark _)) (pe_one (pe_cmpR op_notIn_seq (pv 1) (pe_tup (pa_cons (pe_dget (u1 hr) (pe_fld (pv 0) rfl) (pv 2) (fun _ _ => rfl)) (pa_cons (pe_dget (u1 hr) (pe_fld (pv 0) rfl) (pv 2) (fun _ _ => rfl)) pa_nil))) (by rfl))))))), ?_⟩
    refine rdAR T L m rfl rfl ⟨_, rfl, rfl, _, rfl, ?_⟩
    unfold Lk.isTop at q
    cases e : S.a x with
    | none =>
      rw [e] at q
      exact ifT rfl (q H (fun _ _ z => z))
    | some u =>
      rw [e] at q
      have mu := (cl x m).2.2 u e
      refine ifF rfl ⟨_, rfl, rdLR T (i := 0) (j := 2) L mu rfl rfl (rdRR T (i := 0) (j := 2) L mu rfl rfl ⟨(by show 2 ≤ sizeLine; decide), fun p np => ?_⟩)⟩
      refine ⟨p, _, rfl, .inr (SqT.of upd_same), rfl, ?_, ?_⟩
      · show (flatV (onV (S.l u)) && (flatV (onV (S.r u)) && true)) = true
        rw [onV_flat, onV_flat]
        rfl
      · show Q (.bl (!inV (.int x) [onV (S.l u), onV (S.r u)])) _
        rw [inV_two]
        exact q _ (same_new np)
def spTops (C : Addr) : Sp := fun vs H Q _ => ∃ (A : LA) (S : Lk Int), vs = [.ref A.h] ∧ LinksAt C H A S ∧ Cl S ∧ ∀ (D : Addr) (H' : Hp), Same H H' → H D = none → H' D = some (.lst ((tops S).map V.int)) → Q (.ref D) H'
theorem ok_tops (T : Top K mg) : FnOk P w K mg base CX0 2 T.a_Linkstops T.d_Linkstops ["self"] (spTops T.C_Links) := by
  have G_Linksistop : FnOk P w K mg base CX0 1 _ _ _ _ := ok_istopR T
  refine T.F_Linkstops.ok sc_Linkstops (fun vs H Q E h => ?_) (fun cdv A outer s H vs Q E hr h => ?_)
  · obtain ⟨A, S, rfl, _⟩ := h
    rfl
  · obtain ⟨A, S, rfl, L, cl, q⟩ := h
    refine ⟨_, (pss_one (ps_ret (pe_lock (pe_lc (own := [("x", 1)]) (g := gName 1) (by rfl) sc_Linkstops.nd (pi_keys (pe_fld (pv 0) rfl)) (blkOk_by (own := [("x", 1)]) (N := ["self", "x"]) (sc := defScope s_Linkstops) (by decide +kernel)) (fun _ _ _ _ _ => (pg_name (i := 1) sc_Linkstops.nd rfl (.inl rfl))) (fun _ _ _ _ _ => (pts_one (pt_val (pe_meth (pv 0) T.cl_Links T.me_Linksistop G_Linksistop hr T.b_Linksistop .nil pass0 (pa_cons (pv 1) pa_nil))))) (fun _ _ _ _ _ => (pv 1)))))), ?_⟩
    refine ⟨A.da, _, L.ha, trivial, fun od => ?_⟩
    obtain ⟨dx, hh0⟩ := L.ob
    have hd : A.h ≠ A.da := ne_of hh0 L.ha (by intro z; cases z)
    have fA : upd H A.da (.frz od (.dK (dN S.ns fun x => onV (S.a x)))) A.da = some (.frz od (.dK (dN S.ns fun x => onV (S.a x)))) := upd_same
    have sO : ∀ c o, c ≠ A.da → H c = some o → upd H A.da (.frz od (.dK (dN S.ns fun x => onV (S.a x)))) c = some o := fun c o n e => by
      rw [upd_ne n]
      exact e
    have nO : ∀ c, upd H A.da (.frz od (.dK (dN S.ns fun x => onV (S.a x)))) c = none → H c = none ∧ c ≠ A.da := fun c e => by
      have n : c ≠ A.da := fun z => by rw [z, upd_same] at e; cases e
      rw [upd_ne n] at e
      exact ⟨e, n⟩
    generalize upd H A.da (.frz od (.dK (dN S.ns fun x => onV (S.a x)))) = H2 at fA sO nO ⊢
    have hh := sO _ _ hd hh0
    refine ⟨_, rfl, A.h, T.C_Links, dx, _, _, rfl, hh, T.cl_Links, T.na_Links_above, fl_above _ _, A.da, od, rfl, .inl ⟨_, fA, fun D nD => ?_⟩⟩
    obtain ⟨nDH, DA⟩ := nO D nD
    refine lc_it walk_keys (fun i G => Same H2 G ∧ G D = some (.lst (((S.ns.take i).filter fun x => S.isTop x).map V.int))) ⟨same_new nD, upd_same⟩ (fun i G _ z => z.1 _ _ fA) ?_ ?_
    · rintro i v G G' hi ⟨s3, hD⟩ ⟨rfl, k1, v1, hk, rfl⟩
      obtain ⟨x, hx, rfl, rfl⟩ := dN_at hk
      have mx := List.mem_of_getElem? hx
      have li := (List.getElem?_eq_some_iff.mp hx).1
      have LR : LinksR T.C_Links G' A S := ⟨⟨dx, s3 _ _ hh⟩, fun y m => dget_dN (s3 _ _ (sO _ _ L.n2 L.hl)) m, fun y m => dget_dN (s3 _ _ (sO _ _ L.n4 L.hr)) m, fun y m => dget_fr (s3 _ _ fA) m⟩
      refine ⟨rfl, _, rfl, A.h, dx, _, rfl, s3 _ _ hh, fl_meth _ _ (by decide +kernel), _, rfl, A, S, x, rfl, LR, mx, cl, fun G2 s4 => ⟨_, rfl, ?_⟩⟩
      have ft := filter_turn (fun x => S.isTop x) hx
      cases c : S.isTop x with
      | true =>
        rw [c, if_pos rfl] at ft
        refine iteT ⟨_, rfl, _, s4 _ _ hD, ?_, same_put (s3.trans s4) nD, ?_⟩
        · rw [List.length_map]
          have y := List.length_filter_le (fun x => S.isTop x) (S.ns.take i)
          rw [List.length_take] at y
          have := L.sz
          exact szl (by omega)
        · rw [upd_same, ft, List.map_append]
          rfl
      | false =>
        rw [c, if_neg Bool.false_ne_true] at ft
        refine iteF ⟨s3.trans s4, ?_⟩
        rw [ft]
        exact s4 _ _ hD
    rintro H3 ⟨s3, hD⟩
    rw [dN_len, List.take_length] at hD
    refine ⟨s3 _ _ fA, ?_⟩
    refine q D _ (fun c o e => ?_) nDH ?_
    · by_cases n : c = A.da
      · subst n
        rw [upd_same]
        exact L.ha.symm.trans e
      · rw [upd_ne n]
        exact s3 _ _ (sO _ _ n e)
    · rw [upd_ne DA]
      exact hD
def spTieI : Sp := fun vs H Q _ => ∃ a b : Int, vs = [.int a, .int b] ∧ ∀ t, H t = none → Q (.ref t) (upd H t (.tup [.int (tieI a b).1, .int (tieI a b).2]))
theorem ok_tieI (T : Top K mg) : FnOk P w K mg base CX0 1 T.a_tieof T.d_tieof ["a", "b"] spTieI := by
  refine T.F_tieof.ok sc_tieof (fun vs H Q E h => ?_) (fun cdv A outer s H vs Q E hr h => ?_)
  · obtain ⟨a, b, rfl, _⟩ := h
    rfl
  · obtain ⟨a, b, rfl, q⟩ := h
    refine ⟨_, (pss_one (ps_ret (pe_tup (pa_cons (pe_callB (call_min2 rfl) (by rfl) T.m_min (by decide +kernel) (pa_cons (pv 0) (pa_cons (pv 1) pa_nil))) (pa_cons (pe_callB (call_max2 rfl) (by rfl) T.m_max (by decide +kernel) (pa_cons (pv 0) (pa_cons (pv 1) pa_nil))) pa_nil))))), ?_⟩
    exact ⟨_, rfl, _, rfl, a, b, rfl, _, rfl, _, rfl, a, b, rfl, (by show 2 ≤ sizeLine; decide), fun t nt => q t nt⟩
theorem FS.congr {S S' : Lk Int} {As : Strands} (f : FS S As) (pn : S'.ns.Perm S.ns) (ag : ∀ x ∈ S.ns, Agr S S' x) : FS S' As :=
  ⟨fun t m => (f.rp t m).more fun x mx => ⟨pn.mem_iff.mpr (f.inn m mx), ag x (f.inn m mx)⟩, f.rt, f.pm.trans pn.symm, pn.nodup_iff.mpr f.nn, fun t m q e => ⟨pn.mem_iff.mpr (f.up t m q e).1, (f.up t m q e).2⟩⟩
theorem as_tup {C : Addr} {H : Hp} {A : LA} {S : Lk Int} (L : LinksAt C H A S) {b : Addr} {o : HO} (h : H b = some o) (n1 : ∀ C dx fs, o ≠ .ins C dx fs) (n2 : ∀ kvs, o ≠ .dK kvs) : b ∉ A.as := fun m => by
  obtain ⟨dx, hh⟩ := L.ob
  simp only [LA.as, List.mem_cons, List.not_mem_nil, or_false] at m
  rcases m with rfl | rfl | rfl | rfl | rfl
  · exact n1 _ _ _ (Option.some.inj (h.symm.trans hh))
  · exact n2 _ (Option.some.inj (h.symm.trans L.hl))
  · exact n2 _ (Option.some.inj (h.symm.trans L.hr))
  · exact n2 _ (Option.some.inj (h.symm.trans L.ha))
  · exact n2 _ (Option.some.inj (h.symm.trans L.ht))
/-- what a shape of strands with flags is -/
structure Shp (H : Hp) (t : Addr) (S : Lk Int) (Ts : Strands) (m : Int → Bool) : Prop where
  fl : ∀ t ∈ Ts, flat t.1 = true
  ex : ∃ (S0 : Lk Int) (ms : List Int), ShapeAt H t S0 ms ∧ ms.Perm S.ns ∧ S0.ns = ms ∧ ms.Nodup ∧ ms.length ≤ 1000 ∧ FS S0 (Ts.map (twS m))
theorem take_at {α : Type} {xs : List α} {i : Nat} {x : α} (h : xs[i]? = some x) : xs.take (i + 1) = xs.take i ++ [x] := by
  rw [List.take_succ, h]
  rfl
theorem nms_len : ∀ {As : Strands} {t : Tr Int × Option Int}, t ∈ As → t.1.nms.length ≤ (snm As).length
  | a :: As, t, m => by
    rw [snm_cons, List.length_append]
    rcases List.mem_cons.mp m with rfl | m
    · omega
    · have := nms_len m
      omega
theorem uX_no {Xs : List Int} {t : Tr Int × Option Int} {x : Int} (e : t.1.root = some x) (nx : x ∉ Xs) : uX Xs t = t := by
  unfold uX
  rw [if_neg]
  rintro ⟨y, my, ey⟩
  rw [e] at ey
  cases ey
  exact nx my
theorem tk_no {xs : List Int} (nd : xs.Nodup) {j : Nat} {x : Int} (h : xs[j]? = some x) : x ∉ xs.take j := fun m => by
  obtain ⟨lj, e⟩ := List.getElem?_eq_some_iff.mp h
  obtain ⟨i, li, ei⟩ := List.getElem_of_mem m
  rw [List.length_take] at li
  rw [List.getElem_take] at ei
  have := (List.getElem?_inj (i := i) (j := j) (show i < xs.length by omega) nd).mp (by rw [List.getElem?_eq_getElem (by omega), List.getElem?_eq_getElem lj, ei, e])
  omega
theorem tail_cut (l : List Int) : cutV (l.map V.int) (some 1) none = l.tail.map V.int := by
  cases l with
  | nil => rfl
  | cons a l => exact cut_tail _ _
theorem zip_at {l : List Int} {i : Nat} {u v : Int} (hu : l[i]? = some u) (hv : l.tail[i]? = some v) : (zpI l)[i]? = some (tieI u v) := by
  unfold zpI
  rw [List.getElem?_map, List.getElem?_zip_eq_some (z := (u, v)) |>.mpr ⟨hu, hv⟩]
  rfl
theorem zp_len (l : List Int) : (zpI l).length = min l.length l.tail.length := by
  unfold zpI
  rw [List.length_map, List.length_zip]
def spTiesOf : Sp := fun vs H Q _ => ∃ (t : Addr) (S : Lk Int) (Ts : Strands) (m : Int → Bool), vs = [.ref t] ∧ FS S Ts ∧ Shp H t S Ts m ∧ S.ns.length ≤ 100 ∧ ∀ (p : Addr) (ys : List V) (us : List (Int × Int)) (H' : Hp), Same H H' → H' p = some (.tup ys) → PAll H' ys us → us.Perm ((tops S).flatMap (gS Ts)) → us.Pairwise leT → Q (.ref p) H'
theorem ok_tiesof (T : Top K mg) : FnOk P w K mg base CX0 4 T.a_tiesofshape T.d_tiesofshape ["shape"] spTiesOf := by
  have G_linksof : FnOk P w K mg base CX0 3 _ _ _ _ := ok_linksof T
  have G_Linkstops : FnOk P w K mg base CX0 2 _ _ _ _ := ok_tops T
  have G_Linksinorder : FnOk P w K mg base CX0 3 _ _ _ _ := ok_io T
  have G_tieof : FnOk P w K mg base CX0 1 _ _ _ _ := ok_tieI T
  refine T.F_tiesofshape.ok sc_tiesofshape (fun vs H Q E h => ?_) (fun cdv A outer s H vs Q E hr h => ?_)
  · obtain ⟨t, S, Ts, m, rfl, _⟩ := h
    rfl
  · obtain ⟨t, S, Ts, m, rfl, fS, ⟨fl, S0, ms, ⟨xs, ht, ta⟩, pn, e0, nd, lm, f0⟩, l100, q⟩ := h
    refine ⟨_, (pss_cons (ps_set (i := 1) sc_tiesofshape.nd rfl (.inl rfl) (pe_call G_linksof hr (by rfl) T.g_linksof T.F_linksof.kp T.b_linksof .nil pass0 (pa_cons (pv 0) pa_nil)))
      (pss_cons (ps_set (i := 2) sc_tiesofshape.nd rfl (.inl rfl) (pe_lst pa_nil))
      (pss_cons (ps_for PassesOwn.never rfl (pi_list (pe_meth0 (pv 1) T.cl_Links T.me_Linkstops G_Linkstops (hr.mono (by decide)) T.b_Linkstops .nil pass0)) (pg_name (i := 3) sc_tiesofshape.nd rfl (.inl rfl)) (pss_cons (ps_set (i := 4) sc_tiesofshape.nd rfl (.inl rfl) (pe_meth (pv 1) T.cl_Links T.me_Linksinorder G_Linksinorder hr T.b_Linksinorder .nil pass0 (pa_cons (pv 3) pa_nil)))
      (pss_cons (ps_expr (pe_bm PySem.F.plainAttrs_list PySem.F.slot_list_extend PySem.F.type_list_extend mt_extend (pv 2) (pa_cons (pe_lc (own := [("x", 5), ("y", 6)]) (tt := tYes) (by rfl) sc_tiesofshape.nd (pi_zip (by rfl) T.m_zip (pa_cons (pv 4) (pa_cons (pe_slice sl_list (pv 4) (po_some pe_int) po_none) pa_nil))) (blkOk_by (own := [("x", 5), ("y", 6)]) (N := ["shape", "links", "ties", "top", "names", "x", "y"]) (sc := defScope s_tiesofshape) (by decide +kernel)) (fun _ _ _ _ _ => (pg_tupK (K := K) (n := 2) rfl rfl (pgs_cons (pg_name (i := 5) sc_tiesofshape.nd rfl (.inl rfl)) (pgs_cons (pg_name (i := 6) sc_tiesofshape.nd rfl (.inl rfl)) pgs_nil)) rfl)) (fun _ _ _ _ _ => pts_nil) (fun _ _ _ _ _ => (pe_call G_tieof (hr.mono (by decide)) (by rfl) T.g_tieof T.F_tieof.kp T.b_tieof .nil pass0 (pa_cons (pv 5) (pa_cons (pv 6) pa_nil))))) pa_nil)))
      (pss_one (ps_if (pt_cmpR op_notN (pe_dget (u1 hr) (pe_fld (pv 1) rfl) (pv 3) (fun _ _ => rfl)) pe_non (nomark _)) (pss_one (ps_expr (pe_bm PySem.F.plainAttrs_list PySem.F.slot_list_append PySem.F.type_list_append mt_append (pv 2) (pa_cons (pe_call G_tieof (hr.mono (by decide)) (by rfl) T.g_tieof T.F_tieof.kp T.b_tieof .nil pass0 (pa_cons (pe_ix ix_list (pv 4) pe_int (fun _ _ => rfl)) (pa_cons (pe_dget (u1 hr) (pe_fld (pv 1) rfl) (pv 3) (fun _ _ => rfl)) pa_nil))) pa_nil)))) pss_nil)))))
      (pss_one (ps_ret (pe_callTy call_tuple_of (by rfl) T.m_tuple (by decide +kernel) (pa_cons (pe_callB cr_sortedPH (by rfl) T.m_sorted (by decide +kernel) (pa_cons (pv 2) pa_nil)) pa_nil))))))), ?_⟩
    refine ⟨_, rfl, t, xs, _, rfl, ht, ta, by rw [List.length_map]; exact lm, fun A H1 nAs s1 L1 => ?_⟩
    obtain ⟨n1, n2, _, _⟩ := takes_ns (S := S0) (L := emptyLk) nd fun x _ m => (nomatch m)
    have en : (emptyLk.takes (ms.map (rowL S0))).ns = ms := n1
    have f1 : FS (emptyLk.takes (ms.map (rowL S0))) (Ts.map (twS m)) := f0.congr (by rw [en, e0]) fun x mx => n2 x (e0 ▸ mx)
    generalize emptyLk.takes (ms.map (rowL S0)) = S1 at L1 en f1
    refine ⟨Nat.zero_le _, fun E nE => ?_⟩
    have sE := same_new (o := .lst ([] : List V)) nE
    have hE : upd H1 E (.lst ([] : List V)) E = some (.lst []) := upd_same
    have L1 := L1.same sE
    have s2 := s1.trans sE
    generalize upd H1 E (.lst ([] : List V)) = H2 at sE hE L1 s2 ⊢
    obtain ⟨dx, hh⟩ := L1.ob
    refine ⟨_, rfl, A.h, dx, _, rfl, hh, fl_meth _ _ (by decide +kernel), A, S1, rfl, L1, f1.cl, fun D H3 s3 nD hD => ?_⟩
    have pt := tops_perm fS f1 rfl (fun t => tw_root false) (fun t => tw_perm false)
    have ndt := tops_nd f1
    have DE : D ≠ E := fun e => by rw [e, hE] at nD; cases nD
    refine ⟨D, rfl, ⟨_, SqL.of hD⟩, for_list (xs := (tops S1).map V.int) (fun j σ G => ∃ (Sc : Lk Int) (ws : List V) (y3 y4 y5 y6 : Option V), σ = [some (.ref t), some (.ref A.h), some (.ref E), y3, y4, y5, y6] ∧ (∀ c o, c ∉ A.as → c ≠ E → H3 c = some o → G c = some o) ∧ LinksAt T.C_Links G A Sc ∧ Sc.ns = S1.ns ∧ FS Sc ((Ts.map (twS m)).map (uX ((tops S1).take j))) ∧ G E = some (.lst ws) ∧ PAll G ws (((tops S1).take j).flatMap (gS Ts)) ∧ ws.length ≤ 200 * j) ⟨S1, [], none, none, none, none, rfl, fun c o _ _ e => e, L1.same s3, rfl, by rw [List.take_zero, show ((Ts.map (twS m)).map (uX [])) = Ts.map (twS m) from (List.map_congr_left fun t _ => uX_nil t).trans (List.map_id _)]; exact f1, s3 _ _ hE, .nil, Nat.zero_le _⟩ (fun j σ G _ z => ?_) ?_ ?_⟩
    · obtain ⟨Sc, ws, y3, y4, y5, y6, _, kp, LG, _⟩ := z
      exact SqL.of (kp _ _ (as_tup (L1.same s3) hD (by intro _ _ _ z; cases z) (by intro _ z; cases z)) DE hD)
    · rintro j v σ G hv ⟨Sc, ws, y3, y4, y5, y6, rfl, kp, LG, ec, fc, hE3, pa, lw⟩
      rw [List.getElem?_map] at hv
      obtain ⟨x, hx, rfl⟩ := Option.map_eq_some_iff.mp hv
      have mx := List.mem_of_getElem? hx
      obtain ⟨t1, mt1, r1⟩ := tops_at f1 mx
      obtain ⟨τ, mτ, rfl⟩ := List.mem_map.mp mt1
      have rτ : τ.1.root = some x := (tw_root false).symm.trans r1
      have nx := tk_no ndt hx
      have lj : j < 100 := by
        have l1 := (List.getElem?_eq_some_iff.mp hx).1
        have l2 := pt.length_eq
        have l3 := List.length_filter_le (fun x => S.isTop x) S.ns
        have l4 : (tops S).length = (S.ns.filter fun x => S.isTop x).length := rfl
        omega
      have mt2 : twS m τ ∈ (Ts.map (twS m)).map (uX ((tops S1).take j)) := List.mem_map.mpr ⟨_, mt1, uX_no r1 nx⟩
      obtain ⟨S', hio, fS', eS'⟩ := fc.io mt2 r1
      rw [un_tw (fl τ mτ)] at hio
      have eU : ((Ts.map (twS m)).map (uX ((tops S1).take j))).map (un1 x) = (Ts.map (twS m)).map (uX ((tops S1).take (j + 1))) := by
        rw [List.map_map, take_at hx]
        exact List.map_congr_left fun t _ => uX_snoc nx t
      rw [eU] at fS'
      have ln : τ.1.nms.length ≤ 100 := by
        have := nms_len mτ
        rw [fS.pm.length_eq] at this
        omega
      have lc : (twS m τ).1.cost + 1 ≤ 10000 := by
        rw [Tr.cost_eq]
        have : (twS m τ).1.nms.length = τ.1.nms.length := (tw_perm false).length_eq
        omega
      have mxc : x ∈ Sc.ns := by
        rw [ec]
        exact (List.mem_filter.mp mx).1
      obtain ⟨dx2, hh2⟩ := LG.ob
      have EA := as_tup LG hE3 (by intro _ _ _ z; cases z) (by intro _ z; cases z)
      refine ⟨_, rfl, A.h, dx2, _, rfl, hh2, fl_meth _ _ (by decide +kernel), _, rfl, A, Sc, S', some x, _, τ.1.nms, rfl, LG, (fun y e => by cases e; exact mxc), fc.cl, hio, lc, fun D2 G2 k2 nD2 L2 h2 => ?_⟩
      have hE4 := k2 _ _ hE3 EA
      have pa4 := pa.mono fun c u w e => k2 _ _ e (as_tup LG e (by intro _ _ _ z; cases z) (by intro _ z; cases z))
      have kp4 : ∀ c o, c ∉ A.as → c ≠ E → H3 c = some o → G2 c = some o := fun c o n1 n2 e => k2 _ _ (kp c o n1 n2 e) n1
      -- the pairs
      refine ⟨_, rfl, .inl ⟨rfl, _, SqL.of hE4⟩, ?_⟩
      refine ⟨_, rfl, _, rfl, 1, rfl, D2, _, rfl, SqL.of h2, fun D3 nD3 => ?_⟩
      rw [tail_cut]
      have s5 := same_new (o := .lst (τ.1.nms.tail.map V.int)) nD3
      have h3 : upd G2 D3 (.lst (τ.1.nms.tail.map V.int)) D3 = some (.lst (τ.1.nms.tail.map V.int)) := upd_same
      generalize upd G2 D3 (.lst (τ.1.nms.tail.map V.int)) = G5 at s5 h3 ⊢
      have h2' := s5 _ _ h2
      refine ⟨D2, D3, _, _, rfl, SqL.of h2', SqL.of h3, fun M nM => ?_⟩
      have lz : (zpI τ.1.nms).length ≤ 100 := by
        rw [zp_len]
        omega
      refine lc_it (walk_zip (xs := τ.1.nms.map V.int) (ys := τ.1.nms.tail.map V.int) (n := (zpI τ.1.nms).length) (by rw [zp_len, List.length_map, List.length_map])) (fun i G => Same G5 G ∧ ∃ us, G M = some (.lst us) ∧ PAll G us ((zpI τ.1.nms).take i) ∧ us.length = i) ⟨same_new nM, [], upd_same, .nil, rfl⟩ (fun i G _ z => ⟨SqL.of (z.1 _ _ h2'), SqL.of (z.1 _ _ h3)⟩) ?_ ?_
      · rintro i v G G' hi ⟨s6, us, hM, pu, lu⟩ ⟨g, a', b', rfl, ng, rfl, ha, hb⟩
        dsimp only at ha hb
        rw [List.getElem?_map] at ha hb
        obtain ⟨u, hu, rfl⟩ := Option.map_eq_some_iff.mp ha
        obtain ⟨v, hv, rfl⟩ := Option.map_eq_some_iff.mp hb
        have sg := same_new (o := .tup [V.int u, V.int v]) ng
        refine ⟨g, _, rfl, SqT.of upd_same, rfl, _, _, rfl, _, _, rfl, rfl, rfl, yes_ite ?_⟩
        refine ⟨_, rfl, _, rfl, u, v, rfl, fun t2 nt2 => ?_⟩
        have s7 := sg.trans (same_new (o := .tup [V.int (tieI u v).1, V.int (tieI u v).2]) nt2)
        have h7 : upd (upd G g (.tup [V.int u, V.int v])) t2 (.tup [V.int (tieI u v).1, V.int (tieI u v).2]) t2 = some (.tup [V.int (tieI u v).1, V.int (tieI u v).2]) := upd_same
        generalize upd (upd G g (.tup [V.int u, V.int v])) t2 (.tup [V.int (tieI u v).1, V.int (tieI u v).2]) = G7 at s7 h7 ⊢
        refine ⟨us, s7 _ _ hM, szl (by omega), same_put (s6.trans s7) nM, us ++ [.ref t2], upd_same, ?_, by rw [List.length_append, lu]; rfl⟩
        rw [take_at (zip_at hu hv)]
        exact (PAll.snoc h7 (pu.same s7)).put (s7 _ _ hM)
      rintro G6 ⟨s6, us, hM, pu, lu⟩
      rw [List.take_length] at pu
      have s56 := s5.trans s6
      have hE6 := s56 _ _ hE4
      refine ⟨E, M, _, _, rfl, rfl, hE6, hM, sz (by omega), ?_⟩
      have L6 := L2.same s56
      have EA6 := as_tup L6 hE6 (by intro _ _ _ z; cases z) (by intro _ z; cases z)
      have L7 := L6.other (o := .lst (ws ++ us)) EA6
      have hE7 : upd G6 E (.lst (ws ++ us)) E = some (.lst (ws ++ us)) := upd_same
      have pa7 : PAll (upd G6 E (.lst (ws ++ us))) (ws ++ us) (((tops S1).take j).flatMap (gS Ts) ++ zpI τ.1.nms) := ((pa4.same s56).append pu).put hE6
      have h27 : upd G6 E (.lst (ws ++ us)) D2 = some (.lst (τ.1.nms.map V.int)) := by
        rw [upd_ne fun (e : D2 = E) => by rw [e, hE3] at nD2; cases nD2]
        exact s6 _ _ h2'
      have kp7 : ∀ c o, c ∉ A.as → c ≠ E → H3 c = some o → upd G6 E (.lst (ws ++ us)) c = some o := fun c o n1 n2 e => by
        rw [upd_ne n2]
        exact s56 _ _ (kp4 c o n1 n2 e)
      generalize upd G6 E (.lst (ws ++ us)) = G7 at L7 hE7 pa7 h27 kp7 ⊢
      have mx7 : x ∈ S'.ns := by
        rw [eS']
        exact mxc
      have et : tops S1 = tops S1 := rfl
      have gs : gS Ts x = tiesT τ := gS_at fS mτ rτ
      have up7 : S'.a x = τ.2 := by
        have mt3 : uX ((tops S1).take (j + 1)) (twS m τ) ∈ (Ts.map (twS m)).map (uX ((tops S1).take (j + 1))) := List.mem_map.mpr ⟨_, mt1, rfl⟩
        have z := (fS'.rp _ mt3).top (x := x) (by rw [uX_root]; exact r1)
        rw [uX_up] at z
        exact z
      have lw7 : (ws ++ us).length ≤ 200 * j + 100 := by
        rw [List.length_append]
        omega
      have ft : ((tops S1).take (j + 1)).flatMap (gS Ts) = ((tops S1).take j).flatMap (gS Ts) ++ tiesT τ := by
        rw [take_at hx, List.flatMap_append, List.flatMap_singleton, gs]
      refine rdA T (i := 1) (j := 3) L7 mx7 rfl rfl ?_
      rw [up7]
      cases eu : τ.2 with
      | none =>
        refine ⟨rfl, _, rfl, ifF rfl ?_⟩
        have tt : tiesT τ = zpI τ.1.nms := by
          unfold tiesT
          rw [eu]
          exact List.append_nil _
        exact ⟨S', ws ++ us, _, _, _, _, rfl, kp7, L7, eS'.trans ec, fS', hE7, by rw [ft, tt]; exact pa7, by omega⟩
      | some qv =>
        refine ⟨rfl, _, rfl, ifT rfl ?_⟩
        obtain ⟨n0, nr, en0⟩ : ∃ n0 nr, τ.1.nms = n0 :: nr := by
          cases h : τ.1.nms with
          | nil =>
            have := Tr.root_mem rτ
            rw [h] at this
            cases this
          | cons a l => exact ⟨a, l, rfl⟩
        have tt : tiesT τ = zpI τ.1.nms ++ [tieI n0 qv] := by
          unfold tiesT
          rw [eu, en0]
          rfl
        have hix : atI (τ.1.nms.map V.int) 0 = some (.int n0) := by
          rw [en0]
          exact atI_nat (j := 0) rfl
        refine ⟨_, rfl, .inl ⟨rfl, _, SqL.of hE7⟩, ?_⟩
        refine ⟨_, rfl, D2, _, _, _, rfl, rfl, SqL.of h27, hix, ?_⟩
        refine rdA T (i := 1) (j := 3) L7 mx7 rfl rfl ?_
        rw [up7, eu]
        refine ⟨n0, qv, rfl, fun t2 nt2 => ?_⟩
        have s8 := same_new (o := .tup [V.int (tieI n0 qv).1, V.int (tieI n0 qv).2]) nt2
        have h8 : upd G7 t2 (.tup [V.int (tieI n0 qv).1, V.int (tieI n0 qv).2]) t2 = some (.tup [V.int (tieI n0 qv).1, V.int (tieI n0 qv).2]) := upd_same
        generalize upd G7 t2 (.tup [V.int (tieI n0 qv).1, V.int (tieI n0 qv).2]) = G8 at s8 h8 ⊢
        have hE8 := s8 _ _ hE7
        have L8 := L7.same s8
        have EA8 := as_tup L8 hE8 (by intro _ _ _ z; cases z) (by intro _ z; cases z)
        refine ⟨E, _, _, rfl, rfl, hE8, szl (by omega), ?_⟩
        refine ⟨S', ws ++ us ++ [.ref t2], _, _, _, _, rfl, fun c o n1 n2 e => ?_, L8.other EA8, eS'.trans ec, fS', upd_same, ?_, ?_⟩
        · rw [upd_ne n2]
          exact s8 _ _ (kp7 c o n1 n2 e)
        · rw [ft, tt, ← List.append_assoc]
          exact (PAll.snoc h8 (pa7.same s8)).put hE8
        · rw [List.length_append, List.length_singleton]
          omega
    · rintro σ G ⟨Sc, ws, y3, y4, y5, y6, rfl, kp, LG, ec, fc, hE3, pa, lw⟩
      rw [List.length_map, List.take_length] at pa
      refine ⟨_, rfl, E, ws, _, rfl, .inl (SqL.of hE3), pa, fun ys us c py pm srt nc => ?_⟩
      have sc := same_new (o := .lst ys) nc
      refine ⟨c, _, rfl, .inl ⟨SqL.of upd_same, fun p np => ?_⟩⟩
      have sp := sc.trans (same_new (o := .tup ys) np)
      refine q p ys us _ (fun c2 o e => sp _ _ ?_) upd_same (py.same sp) (pm.trans (List.Perm.flatMap_right _ pt)) srt
      have e3 := s3 _ _ (s2 _ _ e)
      refine kp c2 o (fun ma => ?_) (fun e2 => ?_) e3
      · rw [nAs c2 ma] at e
        cases e
      · rw [e2, Same.none s1 nE] at e
        cases e
def spUnt : Sp := fun vs H Q _ => ∃ (t : Addr) (S : Lk Int) (Ts : Strands) (m : Int → Bool), vs = [.ref t] ∧ FS S Ts ∧ Shp H t S Ts m ∧ S.ns.length ≤ 100 ∧ ∀ (p : Addr) (ms : List Int) (H' : Hp), Same H H' → ShapeAt H' p S ms → ms.Perm S.ns → ms.Pairwise (· ≤ ·) → Q (.ref p) H'
theorem ok_unt (T : Top K mg) : FnOk P w K mg base CX0 4 T.a_untwisted T.d_untwisted ["shape"] spUnt := by
  have G_linksof : FnOk P w K mg base CX0 3 _ _ _ _ := ok_linksof T
  have G_Linkstops : FnOk P w K mg base CX0 2 _ _ _ _ := ok_tops T
  have G_Linksinorder : FnOk P w K mg base CX0 3 _ _ _ _ := ok_io T
  have G_Linksshape : FnOk P w K mg base CX0 1 _ _ _ _ := ok_shape T
  refine T.F_untwisted.ok sc_untwisted (fun vs H Q E h => ?_) (fun cdv A outer s H vs Q E hr h => ?_)
  · obtain ⟨t, S, Ts, m, rfl, _⟩ := h
    rfl
  · obtain ⟨t, S, Ts, m, rfl, fS, ⟨fl, S0, ms, ⟨xs, ht, ta⟩, pn, e0, nd, lm, f0⟩, l100, q⟩ := h
    refine ⟨_, (pss_cons (ps_set (i := 1) sc_untwisted.nd rfl (.inl rfl) (pe_call G_linksof hr (by rfl) T.g_linksof T.F_linksof.kp T.b_linksof .nil pass0 (pa_cons (pv 0) pa_nil)))
      (pss_cons (ps_for PassesOwn.never rfl (pi_list (pe_meth0 (pv 1) T.cl_Links T.me_Linkstops G_Linkstops (hr.mono (by decide)) T.b_Linkstops .nil pass0)) (pg_name (i := 2) sc_untwisted.nd rfl (.inl rfl)) (pss_one (ps_expr (pe_meth (pv 1) T.cl_Links T.me_Linksinorder G_Linksinorder hr T.b_Linksinorder .nil pass0 (pa_cons (pv 2) pa_nil)))))
      (pss_one (ps_ret (pe_meth0 (pv 1) T.cl_Links T.me_Linksshape G_Linksshape (hr.mono (by decide)) T.b_Linksshape .nil pass0))))), ?_⟩
    refine ⟨_, rfl, t, xs, _, rfl, ht, ta, by rw [List.length_map]; exact lm, fun A H1 nAs s1 L1 => ?_⟩
    obtain ⟨n1, n2, _, _⟩ := takes_ns (S := S0) (L := emptyLk) nd fun x _ m => (nomatch m)
    have en : (emptyLk.takes (ms.map (rowL S0))).ns = ms := n1
    have f1 : FS (emptyLk.takes (ms.map (rowL S0))) (Ts.map (twS m)) := f0.congr (by rw [en, e0]) fun x mx => n2 x (e0 ▸ mx)
    generalize emptyLk.takes (ms.map (rowL S0)) = S1 at L1 en f1
    obtain ⟨dx, hh⟩ := L1.ob
    refine ⟨_, rfl, A.h, dx, _, rfl, hh, fl_meth _ _ (by decide +kernel), A, S1, rfl, L1, f1.cl, fun D H3 s3 nD hD => ?_⟩
    have pt := tops_perm fS f1 rfl (fun t => tw_root false) (fun t => tw_perm false)
    have ndt := tops_nd f1
    refine ⟨D, rfl, ⟨_, SqL.of hD⟩, for_list (xs := (tops S1).map V.int) (fun j σ G => ∃ (Sc : Lk Int) (y3 : Option V), σ = [some (.ref t), some (.ref A.h), y3] ∧ (∀ c o, c ∉ A.as → H3 c = some o → G c = some o) ∧ LinksAt T.C_Links G A Sc ∧ Sc.ns = S1.ns ∧ FS Sc ((Ts.map (twS m)).map (uX ((tops S1).take j)))) ⟨S1, none, rfl, fun c o _ e => e, L1.same s3, rfl, by rw [List.take_zero, show ((Ts.map (twS m)).map (uX [])) = Ts.map (twS m) from (List.map_congr_left fun t _ => uX_nil t).trans (List.map_id _)]; exact f1⟩ (fun j σ G _ z => ?_) ?_ ?_⟩
    · obtain ⟨Sc, y3, _, kp, LG, _⟩ := z
      exact SqL.of (kp _ _ (as_tup (L1.same s3) hD (by intro _ _ _ z; cases z) (by intro _ z; cases z)) hD)
    · rintro j v σ G hv ⟨Sc, y3, rfl, kp, LG, ec, fc⟩
      rw [List.getElem?_map] at hv
      obtain ⟨x, hx, rfl⟩ := Option.map_eq_some_iff.mp hv
      have mx := List.mem_of_getElem? hx
      obtain ⟨t1, mt1, r1⟩ := tops_at f1 mx
      obtain ⟨τ, mτ, rfl⟩ := List.mem_map.mp mt1
      have nx := tk_no ndt hx
      have mt2 : twS m τ ∈ (Ts.map (twS m)).map (uX ((tops S1).take j)) := List.mem_map.mpr ⟨_, mt1, uX_no r1 nx⟩
      obtain ⟨S', hio, fS', eS'⟩ := fc.io mt2 r1
      have eU : ((Ts.map (twS m)).map (uX ((tops S1).take j))).map (un1 x) = (Ts.map (twS m)).map (uX ((tops S1).take (j + 1))) := by
        rw [List.map_map, take_at hx]
        exact List.map_congr_left fun t _ => uX_snoc nx t
      rw [eU] at fS'
      have ln : τ.1.nms.length ≤ 100 := by
        have := nms_len mτ
        rw [fS.pm.length_eq] at this
        omega
      have lc : (twS m τ).1.cost + 1 ≤ 10000 := by
        rw [Tr.cost_eq]
        have : (twS m τ).1.nms.length = τ.1.nms.length := (tw_perm false).length_eq
        omega
      have mxc : x ∈ Sc.ns := by
        rw [ec]
        exact (List.mem_filter.mp mx).1
      obtain ⟨dx2, hh2⟩ := LG.ob
      refine ⟨_, rfl, A.h, dx2, _, rfl, hh2, fl_meth _ _ (by decide +kernel), _, rfl, A, Sc, S', some x, _, _, rfl, LG, (fun y e => by cases e; exact mxc), fc.cl, hio, lc, fun D2 G2 k2 nD2 L2 h2 => ?_⟩
      exact ⟨S', _, rfl, fun c o n e => k2 _ _ (kp c o n e) n, L2, eS'.trans ec, fS'⟩
    · rintro σ G ⟨Sc, y3, rfl, kp, LG, ec, fc⟩
      rw [List.length_map, List.take_length] at fc
      have eT : (Ts.map (twS m)).map (uX (tops S1)) = Ts := by
        rw [List.map_map]
        refine (List.map_congr_left fun t mt => ?_).trans (List.map_id _)
        obtain ⟨x, ex⟩ := fS.rt t mt
        exact uX_all (fl t mt) ex (at_tops f1 (List.mem_map.mpr ⟨t, mt, rfl⟩) ((tw_root false).trans ex))
      rw [eT] at fc
      obtain ⟨dx3, hh3⟩ := LG.ob
      refine ⟨_, rfl, A.h, dx3, _, rfl, hh3, fl_meth _ _ (by decide +kernel), A, Sc, rfl, LG, fun p H4 vs4 ms4 s4 pm4 srt4 np hp ta4 => ?_⟩
      have pm5 : ms4.Perm S.ns := pm4.trans (by rw [ec, en]; exact pn)
      refine q p ms4 _ (fun c2 o e => ?_) ⟨vs4, hp, ?_⟩ pm5 srt4
      · have e3 := s3 _ _ (s1 _ _ e)
        refine s4 _ _ (kp c2 o (fun ma => ?_) e3)
        rw [nAs c2 ma] at e
        cases e
      · have er : ms4.map (rowL Sc) = ms4.map (rowL S) := List.map_congr_left fun x mx => by
          obtain ⟨a1, a2, a3, a4⟩ := fS.det fc x (pm5.mem_iff.mp mx)
          unfold rowL
          rw [a1, a2, a3, a4]
        rw [er] at ta4
        exact ta4
end

end My
namespace My
open PySem L2
theorem rgc : ∀ n : Nat, n < 22 → ∀ c : Nat, c < 22 → 1 ≤ c → RgC 0 (n : Int) (c : Int) ((n + c - 1) / c) := by
  unfold RgC
  decide +kernel
theorem blk_in : ∀ n : Nat, n < 22 → ∀ c : Nat, c < 22 → 1 ≤ c → (∀ i : Nat, i < (n + c - 1) / c → i * c < n) ∧ n ≤ (n + c - 1) / c * c := by decide +kernel
theorem ixK {n k : Nat} (h : k < n) : ixN n (k : Int) = some k := by
  unfold ixN
  rw [if_pos (by omega)]
  simp
  omega
theorem rgV_rgI (n : Nat) : rgV 0 (n : Int) = (rgI n).map V.int := by
  unfold rgV rgI
  rw [List.map_map]
  have e : ((n : Int) - 0).toNat = n := by omega
  rw [e]
  refine List.map_congr_left fun i _ => ?_
  show V.int (0 + (i : Int)) = V.int (i : Int)
  rw [Int.zero_add]
theorem pick3 {k : Int} (k0 : 0 ≤ k) (k3 : k < 3) : ∃ m : Int, atI [V.int 4, V.int 9, V.int 20] k = some (.int m) ∧ 0 < m ∧ m ≤ 20 := by
  have hc : k = 0 ∨ k = 1 ∨ k = 2 := by omega
  rcases hc with rfl | rfl | rfl
  · exact ⟨4, rfl, by decide, by decide⟩
  · exact ⟨9, rfl, by decide, by decide⟩
  · exact ⟨20, rfl, by decide, by decide⟩
theorem pick5 {n : Nat} (h1 : 1 ≤ n) (h2 : n < 22) {k : Int} (k0 : 0 ≤ k) (k5 : k < 5) : ∃ c : Nat, atI [V.int 1, V.int 2, V.int 3, V.int 5, V.int (n : Int)] k = some (.int (c : Int)) ∧ 1 ≤ c ∧ c < 22 := by
  have hc : k = 0 ∨ k = 1 ∨ k = 2 ∨ k = 3 ∨ k = 4 := by omega
  rcases hc with rfl | rfl | rfl | rfl | rfl
  · exact ⟨1, rfl, by decide, by decide⟩
  · exact ⟨2, rfl, by decide, by decide⟩
  · exact ⟨3, rfl, by decide, by decide⟩
  · exact ⟨5, rfl, by decide, by decide⟩
  · exact ⟨n, rfl, h1, h2⟩
theorem cut_both (xs : List Int) (i c : Nat) (h : i ≤ xs.length) : cutV (xs.map V.int) (some (i : Int)) (some ((i : Int) + (c : Int))) = ((xs.drop i).take c).map V.int := by
  unfold cutV
  rw [show ((i : Int) + (c : Int)) = ((i + c : Nat) : Int) by omega, HT.sIx_nat, HT.sIx_nat, List.length_map, Nat.min_eq_left h, ← List.map_drop, List.map_take]
  by_cases h2 : i + c ≤ xs.length
  · rw [Nat.min_eq_left h2]
    congr 1
    omega
  · rw [Nat.min_eq_right (by omega), List.take_of_length_le, List.take_of_length_le]
    · rw [List.length_map, List.length_drop]
      omega
    · rw [List.length_map, List.length_drop]
      omega
theorem take_block (xs : List Int) (i c : Nat) : xs.take (i + c) = xs.take i ++ (xs.drop i).take c := List.take_add ..
section
variable {P : Program} {w : World} {K : PySem.W.Frag} {mg : Str → Option Value} {base : Heap}
def spForms : Sp := fun vs H Q _ => ∃ b : Addr, vs = [.ref b, .int 20] ∧ P2 H b ∧ ∀ (d : Addr) (ls : Int → Addr) (S : Lk Int) (Ts : Strands) (H' : Hp), P2 H' b → TreeAt H' d ls S → Fo S Ts → (S.t = fun _ => false) → S.lk = 0 → 1 ≤ S.ns.length → S.ns.length ≤ 20 → But b H H' → H d = none → (∀ x ∈ S.ns, H (ls x) = none) → (∀ x ∈ S.ns, 0 ≤ x ∧ x < (S.ns.length : Int)) → Q (.ref d) H'
theorem ok_forms (T : Top K mg) : FnOk P w K mg base CX0 31 T.a_Lforms T.d_Lforms ["_law_pot_here", "_law_most"] spForms := by
  have G_Ltake : FnOk P w K mg base CX0 1 _ _ _ _ := ok_take2 T
  have G_Ltree : FnOk P w K mg base CX0 30 _ _ _ _ := ok_ltree T 27
  refine T.F_Lforms.ok sc_Lforms (fun vs H Q E h => ?_) (fun cdv A outer s H vs Q E hr h => ?_)
  · obtain ⟨b, rfl, _⟩ := h
    rfl
  · obtain ⟨b, rfl, p2, k⟩ := h
    refine ⟨_, (pss_cons (ps_set (i := 2) sc_Lforms.nd rfl (.inl rfl) (pe_op op_add pe_int (pe_call G_Ltake (hr.mono (by decide)) (by rfl) T.g_Ltake T.F_Ltake.kp T.b_Ltake .nil pass0 (pa_cons (pv 0) (pa_cons (pe_ix ix_list (pe_lst (pa_cons pe_int (pa_cons pe_int (pa_cons (pv 1) pa_nil)))) (pe_call G_Ltake (hr.mono (by decide)) (by rfl) T.g_Ltake T.F_Ltake.kp T.b_Ltake .nil pass0 (pa_cons (pv 0) (pa_cons pe_int pa_nil))) (fun _ _ => rfl)) pa_nil)))))
      (pss_cons (ps_set (i := 3) sc_Lforms.nd rfl (.inl rfl) (pe_listRg rfl (by rfl) T.m_list (prg_1 (by rfl) T.m_range (pv 2))))
      (pss_cons (ps_for PassesOwn.never rfl (pi_range1 (by rfl) T.m_range (pa_cons (pv 2) pa_nil)) (pg_name (i := 4) sc_Lforms.nd rfl (.inl rfl)) (pss_cons (ps_set (i := 5) sc_Lforms.nd rfl (.inl rfl) (pe_op op_add (pv 4) (pe_call G_Ltake (hr.mono (by decide)) (by rfl) T.g_Ltake T.F_Ltake.kp T.b_Ltake .nil pass0 (pa_cons (pv 0) (pa_cons (pe_op op_sub (pv 2) (pv 4)) pa_nil)))))
      (pss_one (ps_asg (pe_tup (pa_cons (pe_ix ix_list (pv 3) (pv 5) (fun _ _ => rfl)) (pa_cons (pe_ix ix_list (pv 3) (pv 4) (fun _ _ => rfl)) pa_nil))) (pg_tup rfl (pgs_cons (pg_sub (pv 3) (pv 4) set_list) (pgs_cons (pg_sub (pv 3) (pv 5) set_list) pgs_nil)))))))
      (pss_cons (ps_set (i := 6) sc_Lforms.nd rfl (.inl rfl) pe_dnewK)
      (pss_cons (ps_set (i := 7) sc_Lforms.nd rfl (.inl rfl) (pe_ix ix_list (pe_lst (pa_cons pe_int (pa_cons pe_int (pa_cons pe_int (pa_cons pe_int (pa_cons (pv 2) pa_nil)))))) (pe_call G_Ltake (hr.mono (by decide)) (by rfl) T.g_Ltake T.F_Ltake.kp T.b_Ltake .nil pass0 (pa_cons (pv 0) (pa_cons pe_int pa_nil))) (fun _ _ => rfl)))
      (pss_cons (ps_for PassesOwn.never rfl (pi_range3 (by rfl) T.m_range (pa_cons pe_int (pa_cons (pv 2) (pa_cons (pv 7) pa_nil)))) (pg_name (i := 5) sc_Lforms.nd rfl (.inl rfl)) (pss_cons (ps_set (i := 8) sc_Lforms.nd rfl (.inl rfl) (pe_call G_Ltree hr (by rfl) T.g_Ltree T.F_Ltree.kp T.b_Ltree .nil pass0 (pa_cons (pv 0) (pa_cons (pv 6) (pa_cons (pe_slice sl_list (pv 3) (po_some (pv 5)) (po_some (pe_op op_add (pv 5) (pv 7)))) pa_nil)))))
      (pss_one (ps_if (PW.pt (pw_and (pt_cmpR op_gt (pv 5) pe_int (nomark _)) (pw_and1 (pt_cmpR op_gt (pe_call G_Ltake (hr.mono (by decide)) (by rfl) T.g_Ltake T.F_Ltake.kp T.b_Ltake .nil pass0 (pa_cons (pv 0) (pa_cons pe_int pa_nil))) pe_int (nomark _))))) (pss_one (ps_asg (pe_ix ix_list (pv 3) (pe_call G_Ltake (hr.mono (by decide)) (by rfl) T.g_Ltake T.F_Ltake.kp T.b_Ltake .nil pass0 (pa_cons (pv 0) (pa_cons (pv 5) pa_nil))) (fun _ _ => rfl)) (pg_sub (pe_dget (u1 hr) (pv 6) (pv 8) (fun _ _ => rfl)) pe_int set_list))) pss_nil))))
      (pss_one (ps_ret (pv 6))))))))), ?_⟩
    -- how many
    refine ⟨_, rfl, _, rfl, (by show 3 ≤ sizeLine; decide), fun p np => ?_⟩
    have s1 := same_new (o := .lst [V.int 4, V.int 9, V.int 20]) np
    have hp : upd H p (.lst [V.int 4, V.int 9, V.int 20]) p = some (.lst [V.int 4, V.int 9, V.int 20]) := upd_same
    have pb := p2.ne np
    have p21 := p2.same s1
    generalize upd H p (.lst [V.int 4, V.int 9, V.int 20]) = H1 at s1 hp p21 ⊢
    refine ⟨_, rfl, b, 3, rfl, p21, (by decide), (by decide), fun k3 H2 a1 b1 p22 k2 => ?_⟩
    obtain ⟨m, hm, m0, m20⟩ := pick3 a1 b1
    refine ⟨p, _, _, _, rfl, rfl, SqL.of (k2 _ _ hp pb), hm, ?_⟩
    refine ⟨b, m, rfl, p22, m0, by omega, fun x H3 x0 x1 p23 k3' => ⟨_, _, rfl, rfl, ?_⟩⟩
    obtain ⟨n, en, n1, n20⟩ : ∃ n : Nat, 1 + x = (n : Int) ∧ 1 ≤ n ∧ n ≤ 20 := ⟨(1 + x).toNat, by omega, by omega, by omega⟩
    dsimp only
    rw [en]
    have k03 : But b H H3 := fun c o e nb => k3' _ _ (k2 _ _ (s1 _ _ e) nb) nb
    clear hp s1 p21 k2 k3' p22 hm np en x0 x1
    -- their names
    refine ⟨_, rfl, _, rfl, RgOk.of_le (by omega) (by omega) (by omega) (by omega), fun q nq => ?_⟩
    have s4 := same_new (o := .lst (rgV 0 (n : Int))) nq
    have hq : upd H3 q (.lst (rgV 0 (n : Int))) q = some (.lst ((rgI n).map V.int)) := by rw [upd_same, rgV_rgI]
    have qb := p23.ne nq
    have p24 := p23.same s4
    have k04 := k03.same s4
    have nq0 : H q = none := by
      cases e : H q with
      | none => rfl
      | some o =>
        rw [k03 q o e qb] at nq
        exact nomatch nq
    generalize upd H3 q (.lst (rgV 0 (n : Int))) = H4 at s4 hq p24 k04 ⊢
    refine ⟨_, rfl, (n : Int), rfl, (by omega), (by omega), ?_⟩
    refine for_range (lo := 0) (n := (n : Int).toNat) (fun i σ G => ∃ (ns : List Int) (y4 y5 : Option V), σ = [some (.ref b), some (.int 20), some (.int (n : Int)), some (.ref q), y4, y5, none, none, none] ∧ P2 G b ∧ G q = some (.lst (ns.map V.int)) ∧ ns.Nodup ∧ ns.length = n ∧ (∀ x ∈ ns, 0 ≤ x ∧ x < (n : Int)) ∧ But b H G) ⟨rgI n, none, none, rfl, p24, hq, rgI_nd n, rgI_len n, (fun x m => rgI_mem.mp m), k04⟩ ?_ ?_
    · rintro i σ G hi ⟨ns, y4, y5, rfl, p2g, hqg, nd, ln, rg, kg⟩
      have e0 : (0 : Int) + (i : Int) = (i : Int) := by omega
      rw [e0]
      have li : i < n := by omega
      refine ⟨_, rfl, _, rfl, _, rfl, _, rfl, _, _, rfl, rfl, b, _, rfl, p2g, (by omega), (by omega), fun x G2 x0 x1 p2h kh => ⟨_, _, rfl, rfl, ?_⟩⟩
      obtain ⟨j, ej, lj⟩ : ∃ j : Nat, (i : Int) + x = (j : Int) ∧ j < n := ⟨((i : Int) + x).toNat, by omega, by omega⟩
      dsimp only
      rw [ej]
      have hq2 := kh _ _ hqg qb
      have kg2 := kg.trans kh
      obtain ⟨u, hu⟩ : ∃ u, ns[i]? = some u := ⟨ns[i], List.getElem?_eq_getElem (by omega)⟩
      obtain ⟨v, hv⟩ : ∃ v, ns[j]? = some v := ⟨ns[j], List.getElem?_eq_getElem (by omega)⟩
      refine ⟨_, rfl, _, rfl, q, _, _, V.int v, rfl, rfl, SqL.of hq2, atI_nat (j := j) (by rw [List.getElem?_map, hv]; rfl), ?_⟩
      refine ⟨_, rfl, _, rfl, q, _, _, V.int u, rfl, rfl, SqL.of hq2, atI_nat (j := i) (by rw [List.getElem?_map, hu]; rfl), (by show 2 ≤ sizeLine; decide), fun t nt => ?_⟩
      have s5 := same_new (o := .tup [V.int v, V.int u]) nt
      have hq3 := s5 _ _ hq2
      have p2i := p2h.same s5
      have kg3 := kg2.same s5
      have ht : upd G2 t (.tup [V.int v, V.int u]) t = some (.tup [V.int v, V.int u]) := upd_same
      generalize upd G2 t (.tup [V.int v, V.int u]) = G3 at hq3 p2i kg3 ht ⊢
      refine ⟨t, _, rfl, SqT.of ht, rfl, _, _, rfl, _, rfl, _, rfl, q, _, _, i, rfl, rfl, hq3, ixK (by rw [List.length_map]; omega), ?_⟩
      obtain ⟨w1, w2⟩ := swap_nd nd hu hv
      have kk : ∀ {G' : Hp} {o : HO}, But b H G' → But b H (upd G' q o) := fun {G' o} h c o2 e nb => by
        rw [upd_ne (ne_of_none e nq0)]
        exact h c o2 e nb
      refine ⟨_, _, rfl, _, rfl, _, rfl, q, _, _, j, rfl, rfl, upd_same, ixK (by rw [List.length_set, List.length_map]; omega), rfl, ?_⟩
      refine ⟨(ns.set i v).set j u, _, _, rfl, (p2i.put qb).put qb, ?_, w1, w2.trans ln, (fun y my => ?_), kk (kk kg3)⟩
      rotate_left
      · rcases List.mem_or_eq_of_mem_set my with my | my
        · rcases List.mem_or_eq_of_mem_set my with my | my
          · exact rg y my
          · rw [my]
            exact rg v (List.mem_of_getElem? hv)
        · rw [my]
          exact rg u (List.mem_of_getElem? hu)
      rw [upd_same, ← List.map_set, ← List.map_set]
    · rintro σ G ⟨ns, y4, y5, rfl, p2g, hqg, nd, ln, rg, kg⟩
      refine fun d nd0 => ?_
      have s1 := same_new (o := .dK []) nd0
      have hd : upd G d (.dK []) d = some (.dK []) := upd_same
      have db := p2g.ne nd0
      have p2d := p2g.same s1
      have hqd := s1 _ _ hqg
      have kd := kg.same s1
      have dn : H d = none := by
        cases e : H d with
        | none => rfl
        | some o =>
          rw [kg d o e db] at nd0
          exact nomatch nd0
      generalize upd G d (.dK []) = G1 at s1 hd p2d hqd kd ⊢
      clear s1 nd0 hqg p2g kg hq p24 k04 s4 p23 k03 a1 b1
      -- their size
      refine ⟨_, rfl, (by show 5 ≤ sizeLine; decide), fun p5 np5 => ?_⟩
      have s2 := same_new (o := .lst [V.int 1, V.int 2, V.int 3, V.int 5, V.int (n : Int)]) np5
      have hp5 : upd G1 p5 (.lst [V.int 1, V.int 2, V.int 3, V.int 5, V.int (n : Int)]) p5 = some (.lst [V.int 1, V.int 2, V.int 3, V.int 5, V.int (n : Int)]) := upd_same
      have pb5 := p2d.ne np5
      have p2e := p2d.same s2
      have hq2 := s2 _ _ hqd
      have hd2 := s2 _ _ hd
      have kd2 := kd.same s2
      generalize upd G1 p5 (.lst [V.int 1, V.int 2, V.int 3, V.int 5, V.int (n : Int)]) = G2 at hp5 p2e hq2 hd2 kd2 ⊢
      refine ⟨_, rfl, b, 5, rfl, p2e, (by decide), (by decide), fun k5 G3 a5 b5 p2f k3 => ?_⟩
      obtain ⟨c, hc, c1, c22⟩ := pick5 n1 (by omega : n < 22) a5 b5
      have hq3 := k3 _ _ hq2 qb
      have hd3 := k3 _ _ hd2 db
      have kd3 := kd2.trans k3
      refine ⟨p5, _, _, _, rfl, rfl, SqL.of (k3 _ _ hp5 pb5), hc, ?_⟩
      clear hc hp5 pb5 hq2 hd2 kd2 p2e k3 a5 b5 hqd hd kd p2d
      obtain ⟨bl1, bl2⟩ := blk_in n (by omega) c c22 c1
      refine ⟨_, rfl, _, rfl, 0, (n : Int), (c : Int), _, rfl, rgc n (by omega) c c22 c1, ?_⟩
      refine for_rangeC (fun i σ G => ∃ (ls : Int → Addr) (S : Lk Int) (Ts : Strands) (y4 y5 y8 : Option V), σ = [some (.ref b), some (.int 20), some (.int (n : Int)), some (.ref q), y4, y5, some (.ref d), some (.int (c : Int)), y8] ∧ TreeAt G d ls S ∧ Fo S Ts ∧ (∀ x, x ∈ snm Ts ↔ x ∈ ns.take (i * c)) ∧ P2 G b ∧ G q = some (.lst (ns.map V.int)) ∧ (S.t = fun _ => false) ∧ S.lk = 0 ∧ (∀ x ∈ S.ns, H (ls x) = none) ∧ But b H G) ⟨fun _ => d, ⟨[], fun _ => none, fun _ => none, fun _ => none, fun _ => false, 0⟩, [], _, _, none, rfl, ⟨hd3, (fun x m => nomatch m), fun x m => nomatch m⟩, ⟨trivial, .refl _, List.nodup_nil⟩, (fun x => by rw [Nat.zero_mul]; exact Iff.rfl), p2f, hq3, rfl, rfl, (fun x m => nomatch m), kd3⟩ ?_ ?_
      · rintro i σ G hi ⟨ls, S, Ts, y4, y5, y8, rfl, A, F, mem, p2g, hqg, tf, lk, nw, kg⟩
        have ilt := bl1 i hi
        have e0 : (0 : Int) + (i : Int) * (c : Int) = ((i * c : Nat) : Int) := by
          rw [Int.zero_add]
          exact (Int.natCast_mul i c).symm
        rw [e0]
        have esucc : (i + 1) * c = i * c + c := Nat.succ_mul i c
        rw [esucc]
        generalize i * c = ic at ilt mem
        -- a strand
        refine ⟨_, rfl, _, rfl, _, rfl, _, rfl, (ic : Int), rfl, _, rfl, _, rfl, _, _, rfl, rfl, _, rfl, q, _, rfl, SqL.of hqg, fun pz nz => ?_⟩
        rw [cut_both ns ic c (by omega)]
        have s4 := same_new (o := .lst (((ns.drop ic).take c).map V.int)) nz
        have hz : upd G pz (.lst (((ns.drop ic).take c).map V.int)) pz = some (.lst (((ns.drop ic).take c).map V.int)) := upd_same
        have zb := p2g.ne nz
        have p2h := p2g.same s4
        have A4 := A.same s4
        have hq4 := s4 _ _ hqg
        have k4 := kg.same s4
        generalize upd G pz (.lst (((ns.drop ic).take c).map V.int)) = G4 at hz p2h A4 hq4 k4 ⊢
        have ex : ns.take (ic + c) = ns.take ic ++ (ns.drop ic).take c := take_block ns ic c
        have lz : 1 ≤ ((ns.drop ic).take c).length := by
          rw [List.length_take, List.length_drop]
          omega
        have lz2 : ((ns.drop ic).take c).length ≤ 20 := by
          rw [List.length_take, List.length_drop]
          omega
        have ndt : (ns.take (ic + c)).Nodup := nd.sublist (List.take_sublist _ _)
        rw [ex] at ndt
        obtain ⟨m1, m2, m3⟩ := List.nodup_append.mp ndt
        have mS : ∀ x, x ∈ S.ns ↔ x ∈ ns.take ic := fun x => by rw [← F.pm.mem_iff, mem]
        have lS : S.ns.length ≤ 20 := by
          rw [← F.pm.length_eq]
          have := F.nd.length_le_of_subset (fun x m => List.mem_of_mem_take ((mem x).mp m) : snm Ts ⊆ ns)
          omega
        rw [ex]
        generalize (ns.drop ic).take c = zs at hz lz lz2 m2 m3 ⊢
        refine ⟨b, d, pz, ls, S, zs, rfl, p2h, hz, zb, by omega, m2, A4, F.nn, (fun x m m' => m3 x ((mS x).mp m') x m rfl), by omega, (fun x => by rw [tf]), fun T1 ls1 S1 G5 g => ?_⟩
        obtain ⟨ys, ey, py, nwy⟩ := g.ns
        have ndT : T1.nms.Nodup := by rw [← ord_flat g.fl, g.od]; exact m2
        have mT : ∀ x, x ∈ T1.nms ↔ x ∈ zs := fun x => by rw [← g.od]; exact Tr.ord_mem.symm
        obtain ⟨top, rt⟩ : ∃ top, T1.root = some top := by
          cases e : T1.root with
          | some x => exact ⟨x, rfl⟩
          | none =>
            have e2 := Tr.root_nil e
            have e3 := g.od
            rw [e2] at e3
            have e3 : [] = zs := e3
            rw [← e3] at lz
            exact absurd lz (by decide)
        have F1 : Fo S1 ((T1, none) :: Ts) := F.more ey py (fun x m => (g.old x m).1) g.rep g.fl ⟨top, rt⟩ ndT fun x m m' => m3 x ((mS x).mp m') x ((mT x).mp m) rfl
        have mem1 : ∀ (p : Option Int) x, x ∈ snm ((T1, p) :: Ts) ↔ x ∈ ns.take ic ++ zs := fun p x => by
          rw [snm_cons, List.mem_append, List.mem_append, mem, mT]
          exact or_comm
        have tf1 : S1.t = fun _ => false := g.tf.trans tf
        have lk1 : S1.lk = 0 := g.lk.trans lk
        have qd : q ≠ d := ne_of hq4 A4.hd (by intro z; cases z)
        have hq5 := g.kp _ _ hq4 qb qd
        have k5 : But b H G5 := fun a o e nb => g.kp _ _ (k4 _ _ e nb) nb fun e2 => by
          rw [e2, dn] at e
          exact nomatch e
        have nw1 : ∀ x ∈ S1.ns, H (ls1 x) = none := fun x m => by
          have m0 := m
          rw [ey] at m
          rcases List.mem_append.mp m with m | m
          · rw [(g.old x m).2]
            exact nw x m
          · have h4 := nwy x m
            cases e : H (ls1 x) with
            | none => rfl
            | some o =>
              rw [k4 _ o e ((g.p2.ls g.tr).2 x m0)] at h4
              exact nomatch h4
        have mtop : top ∈ S1.ns := by
          rw [ey]
          exact List.mem_append_right _ (py.mem_iff.mpr (Tr.root_mem rt))
        have p2k := g.p2
        have A5 := g.tr
        rw [rt]
        have nh : ls1 top ≠ q := fun e => by
          rw [← e] at hq4
          have h4 := nwy top (py.mem_iff.mpr (Tr.root_mem rt))
          rw [h4] at hq4
          exact nomatch hq4
        refine ⟨_, rfl, _, _, rfl, rfl, _, rfl, ite2 (fun e => ?_) (fun e => ?_)⟩
        · have ip : 0 < ic := by
            have := of_decide_eq_true e
            omega
          refine ⟨_, rfl, b, 5, rfl, p2k, (by decide), (by decide), fun x G6 x0 x5 p26 k6 => ⟨_, _, rfl, rfl, _, rfl, ?_⟩⟩
          have hq6 := k6 _ _ hq5 qb
          have A6 := A5.but p2k k6
          have k56 := k5.trans k6
          refine ite2 (fun _ => ?_) (fun _ => ?_)
          · refine ⟨_, rfl, _, rfl, _, rfl, b, (ic : Int), rfl, p26, (by omega), (by omega), fun v G7 v0 v1 p27 k7 => ?_⟩
            have hq7 := k7 _ _ hq6 qb
            have A7 := A6.but p26 k7
            obtain ⟨j, ej, lj⟩ : ∃ j : Nat, v = (j : Int) ∧ j < ic := ⟨v.toNat, by omega, by omega⟩
            obtain ⟨z, hz⟩ : ∃ z, ns[j]? = some z := ⟨ns[j], List.getElem?_eq_getElem (by omega)⟩
            have mz : z ∈ snm Ts := (mem z).mpr (List.mem_of_getElem? (by rw [List.getElem?_take, if_pos lj]; exact hz))
            refine ⟨q, _, _, V.int z, rfl, rfl, SqL.of hq7, by rw [ej]; exact atI_nat (by rw [List.getElem?_map, hz]; rfl), ?_⟩
            refine ⟨_, rfl, _, rfl, d, _, rfl, A7.get mtop, ls1 top, _, 2, 2, rfl, rfl, A7.at' top mtop, rfl, ?_⟩
            refine ⟨ls1, _, (T1, some z) :: Ts, _, _, _, rfl, A7.setA (y := some z) mtop, F1.put rt mz, mem1 _, p27.put ((p27.ls A7).2 top mtop), ?_, tf1, lk1, nw1, ?_⟩
            · rw [upd_ne nh.symm]
              exact hq7
            · intro a o e1 nb
              rw [upd_ne fun e2 => ?_]
              · exact (k56.trans k7) _ _ e1 nb
              · rw [e2, nw1 top mtop] at e1
                exact nomatch e1
          · exact ⟨ls1, S1, (T1, none) :: Ts, _, _, _, rfl, A6, F1, mem1 _, p26, hq6, tf1, lk1, nw1, k56⟩
        · exact ⟨ls1, S1, (T1, none) :: Ts, _, _, _, rfl, A5, F1, mem1 _, p2k, hq5, tf1, lk1, nw1, k5⟩
      · rintro σ G ⟨ls, S, Ts, y4, y5, y8, rfl, A, F, mem, p2g, hqg, tf, lk, nw, kg⟩
        have le : (snm Ts).length = n := by
          have mem2 : ∀ x, x ∈ snm Ts ↔ x ∈ ns := fun x => by rw [mem, List.take_of_length_le (by omega)]
          have h1 := F.nd.length_le_of_subset (fun x m => (mem2 x).mp m : snm Ts ⊆ ns)
          have h2 := nd.length_le_of_subset (fun x m => (mem2 x).mpr m : ns ⊆ snm Ts)
          omega
        rw [F.pm.length_eq] at le
        exact ⟨_, rfl, k d ls S Ts G p2g A F tf lk (by omega) (by omega) kg dn nw fun x m => by
          rw [le]
          exact rg x (List.mem_of_mem_take ((mem x).mp (F.pm.mem_iff.mpr m)))⟩
end

end My
namespace My
open PySem L2
/-! ### the law: forms read, also while they are walked over -/
theorem DGet.same {H H' : Hp} {d : Addr} {y : V} {r : Option V} (s : Same H H') (g : DGet H d y r) : DGet H' d y r := by
  rcases g with ⟨kvs, k, h | ⟨o, h⟩, e, er⟩ | ⟨kvs, k, b, h | ⟨o, h⟩, e, hb, er⟩
  · exact .inl ⟨kvs, k, .inl (s _ _ h), e, er⟩
  · exact .inl ⟨kvs, k, .inr ⟨o, s _ _ h⟩, e, er⟩
  · exact .inr ⟨kvs, k, b, .inl (s _ _ h), e, s _ _ hb, er⟩
  · exact .inr ⟨kvs, k, b, .inr ⟨o, s _ _ h⟩, e, s _ _ hb, er⟩
structure TreeR (H : Hp) (d : Addr) (ls : Int → Addr) (S : Lk Int) : Prop where
  get : ∀ x ∈ S.ns, DGet H d (.int x) (some (.ref (ls x)))
  at' : ∀ x ∈ S.ns, H (ls x) = some (.lst (cel S x))
theorem TreeR.same {H H' : Hp} {d : Addr} {ls : Int → Addr} {S : Lk Int} (A : TreeR H d ls S) (s : Same H H') : TreeR H' d ls S := ⟨fun x m => DGet.same s (A.get x m), fun x m => s _ _ (A.at' x m)⟩
theorem TreeAt.r {H : Hp} {d : Addr} {ls : Int → Addr} {S : Lk Int} (A : TreeAt H d ls S) : TreeR H d ls S := ⟨fun _ m => A.get m, A.at'⟩
section
variable {K : PySem.W.Frag} {H : Hp} {d : Addr} {ls : Int → Addr} {S : Lk Int}
theorem rdNR {i j : Nat} {σ : L2.St} {Q : V → Hp → Prop} {x : Int} (c : Nat) {v : V} (A : TreeR H d ls S) (m : x ∈ S.ns) (h0 : σ[i]? = some (some (.ref d))) (h1 : σ[j]? = some (some (.int x))) (hv : (cel S x)[c]? = some v) (q : Q v H) : tOp (rIxL K) (tDGet (tVar i) (tVar j)) (tC (.int (c : Int))) σ H Q :=
  ⟨_, h0, _, h1, d, _, rfl, A.get x m, ls x, _, _, v, rfl, rfl, SqL.of (A.at' x m), atI_nat hv, q⟩
end
section
variable {P : Program} {w : World} {K : PySem.W.Frag} {mg : Str → Option Value} {base : Heap}
def spOnTopR (K : PySem.W.Frag) : Sp := fun vs H Q _ => ∃ (d : Addr) (ls : Int → Addr) (S : Lk Int) (x : Int), vs = [.ref d, .int x] ∧ TreeR H d ls S ∧ x ∈ S.ns ∧ Cl S ∧ ∀ (H' : Hp), Same H H' → Q (.bl (S.isTop x)) H'
theorem ok_ontopR (T : Top K mg) : FnOk P w K mg base CX0 1 T.a_Ltop T.d_Ltop ["_law_forms_here", "_law_x"] (spOnTopR K) := by
  refine T.F_Ltop.ok sc_Ltop (fun vs H Q E h => ?_) (fun cdv A outer s H vs Q E hr h => ?_)
  · obtain ⟨d, ls, S, x, rfl, _⟩ := h
    rfl
  · obtain ⟨d, ls, S, x, rfl, A, m, cl, q⟩ := h
    refine ⟨_, (pss_one (ps_ret (pe_or (pe_cmpR op_isN (pe_ix ix_list (pe_dget (u1 hr) (pv 0) (pv 1) (fun _ _ => rfl)) pe_int (fun _ _ => rfl)) pe_non (nomark _)) (pe_one (pe_cmpR op_notIn_seq (pv 1) (pe_slice sl_list (pe_dget (u1 hr) (pv 0) (pe_ix ix_list (pe_dget (u1 hr) (pv 0) (pv 1) (fun _ _ => rfl)) pe_int (fun _ _ => rfl)) (fun _ _ => rfl)) po_none (po_some pe_int)) (by rfl)))))), ?_⟩
    refine rdNR 2 A m rfl rfl (v := onV (S.a x)) rfl ⟨rfl, _, rfl, ?_⟩
    unfold Lk.isTop at q
    cases e : S.a x with
    | none =>
      rw [e] at q
      exact ifT rfl (q H (fun _ _ z => z))
    | some u =>
      rw [e] at q
      have mu := (cl x m).2.2 u e
      refine ifF rfl ⟨_, rfl, ?_⟩
      refine ⟨_, rfl, rdNR 2 A m rfl rfl (v := onV (S.a x)) rfl ?_⟩
      rw [e]
      refine ⟨d, _, rfl, A.get u mu, 2, rfl, ls u, _, rfl, SqL.of (A.at' u mu), fun p np => ?_⟩
      rw [take_two]
      refine ⟨p, _, rfl, .inl (SqL.of upd_same), rfl, ?_, ?_⟩
      · show (flatV (onV (S.l u)) && (flatV (onV (S.r u)) && true)) = true
        rw [onV_flat, onV_flat]
        rfl
      · show Q (.bl (!inV (.int x) [onV (S.l u), onV (S.r u)])) _
        rw [inV_two]
        exact q _ (same_new np)
def spOrder : Sp := fun vs H Q _ => ∃ (d : Addr) (ls : Int → Addr) (S : Lk Int) (x : Int) (k : Nat) (names : List Int), vs = [.ref d, .int x] ∧ TreeR H d ls S ∧ x ∈ S.ns ∧ Cl S ∧ (S.t = fun _ => false) ∧ S.io k (some x) [] [] = some (S, names) ∧ k ≤ 1000 ∧ ∀ (D : Addr) (H' : Hp), Same H H' → H D = none → H' D = some (.lst (names.map V.int)) → Q (.ref D) H'
theorem ok_order (T : Top K mg) : FnOk P w K mg base CX0 1 T.a_Lorder T.d_Lorder ["_law_forms_here", "_law_top_here"] spOrder := by
  refine T.F_Lorder.ok sc_Lorder (fun vs H Q E h => ?_) (fun cdv A outer s H vs Q E hr h => ?_)
  · obtain ⟨d, ls, S, x, k, names, rfl, _⟩ := h
    rfl
  · obtain ⟨d, ls, S, top, k, names, rfl, A, mt, cl, fl, hio, lk, q⟩ := h
    refine ⟨_, (pss_cons (ps_set (i := 2) sc_Lorder.nd rfl (.inl rfl) (pe_lst pa_nil))
      (pss_cons (ps_par (i := 3) (j := 4) (by rfl) sc_Lorder.nd rfl rfl (by decide) rfl rfl (pa_cons (pv 1) (pa_cons (pe_lst pa_nil) pa_nil)) (by rfl))
      (pss_cons (ps_while PassesOwn.never (PW.pt (pw_or (pt_cmpR op_notN (pv 3) pe_non (nomark _)) (pw_or1 (pt_cmpR (op_neD hr.units) (pv 4) (pe_lst pa_nil) (nomark _))))) (pss_cons (ps_while PassesOwn.never (pt_cmpR op_notN (pv 3) pe_non (nomark _)) (pss_cons (ps_expr (pe_bm PySem.F.plainAttrs_list PySem.F.slot_list_append PySem.F.type_list_append mt_append (pv 4) (pa_cons (pv 3) pa_nil)))
      (pss_one (ps_set (i := 3) sc_Lorder.nd rfl (.inl rfl) (pe_ix ix_list (pe_dget (u1 hr) (pv 0) (pv 3) (fun _ _ => rfl)) pe_int (fun _ _ => rfl))))))
      (pss_cons (ps_set (i := 3) sc_Lorder.nd rfl (.inl rfl) (pe_bm0 PySem.F.plainAttrs_list PySem.F.slot_list_pop PySem.F.type_list_pop mt_pop (pv 4)))
      (pss_cons (ps_expr (pe_bm PySem.F.plainAttrs_list PySem.F.slot_list_append PySem.F.type_list_append mt_append (pv 2) (pa_cons (pv 3) pa_nil)))
      (pss_one (ps_set (i := 3) sc_Lorder.nd rfl (.inl rfl) (pe_ix ix_list (pe_dget (u1 hr) (pv 0) (pv 3) (fun _ _ => rfl)) pe_int (fun _ _ => rfl))))))))
      (pss_one (ps_ret (pv 2)))))), ?_⟩
    refine ⟨Nat.zero_le _, fun p np => ?_⟩
    have s1 := same_new (o := .lst ([] : List V)) np
    have hp : upd H p (.lst ([] : List V)) p = some (.lst []) := upd_same
    generalize upd H p (.lst ([] : List V)) = H1 at s1 hp ⊢
    refine ⟨_, rfl, Nat.zero_le _, fun W nW => ?_⟩
    have s2 := same_new (o := .lst ([] : List V)) nW
    have hW : upd H1 W (.lst ([] : List V)) W = some (.lst []) := upd_same
    have hp2 := s2 _ _ hp
    have nW0 := Same.none s1 nW
    have Wp : W ≠ p := fun e => by rw [e, hp] at nW; cases nW
    generalize upd H1 W (.lst ([] : List V)) = H2 at s2 hW hp2 ⊢
    have s12 := s1.trans s2
    have push0 : ∀ x, S.push x = S := fun x => Lk.push_flat (by rw [fl])
    refine ⟨_, _, rfl, fun j σ G => ∃ (x : Option Int) (ws ns : List Int), σ = [some (.ref d), some (.int top), some (.ref p), some (onV x), some (.ref W)] ∧ Same H G ∧ (∀ y, x = some y → y ∈ S.ns) ∧ (∀ y ∈ ws, y ∈ S.ns) ∧ G p = some (.lst (ns.map V.int)) ∧ G W = some (.lst ((ws.reverse).map V.int)) ∧ S.io j x ws ns = some (S, names) ∧ ws.length + ns.length + j ≤ 2000 ∧ ws.length + j ≤ 1000, ⟨k, some top, [], [], rfl, s12, (fun y e => by cases e; exact mt), (fun _ h => nomatch h), hp2, hW, hio, by show 0 + 0 + k ≤ 2000; omega, by show 0 + k ≤ 1000; omega⟩, ?_⟩
    rintro j σ G ⟨x, ws, ns, rfl, sG, mx, mw, hp3, hW3, hj, b1, b2⟩
    cases j with
    | zero => cases x <;> exact nomatch hj
    | succ j =>
    refine ⟨_, rfl, rfl, _, rfl, ?_⟩
    cases x with
    | some x =>
      refine ifT rfl ?_
      refine iteT ?_
      refine ⟨fun σ' G' => ∃ m', m' < j + 1 ∧ (fun (j : Nat) (σ : L2.St) (G : Hp) => ∃ (x : Option Int) (ws ns : List Int), σ = [some (.ref d), some (.int top), some (.ref p), some (onV x), some (.ref W)] ∧ Same H G ∧ (∀ y, x = some y → y ∈ S.ns) ∧ (∀ y ∈ ws, y ∈ S.ns) ∧ G p = some (.lst (ns.map V.int)) ∧ G W = some (.lst ((ws.reverse).map V.int)) ∧ S.io j x ws ns = some (S, names) ∧ ws.length + ns.length + j ≤ 2000 ∧ ws.length + j ≤ 1000) m' σ' G', fun σ' G' h => h, ?_⟩
      refine ⟨fun i σ G2 => ∃ (x : Option Int) (ws : List Int), σ = [some (.ref d), some (.int top), some (.ref p), some (onV x), some (.ref W)] ∧ Same H G2 ∧ (∀ y, x = some y → y ∈ S.ns) ∧ (∀ y ∈ ws, y ∈ S.ns) ∧ G2 p = some (.lst (ns.map V.int)) ∧ G2 W = some (.lst ((ws.reverse).map V.int)) ∧ S.io i x ws ns = some (S, names) ∧ i ≤ j + 1 ∧ ws.length + ns.length + i ≤ 2000 ∧ ws.length + i ≤ 1000 ∧ (x = none → ws ≠ []), ⟨j + 1, some x, ws, rfl, sG, mx, mw, hp3, hW3, hj, Nat.le_refl _, b1, b2, (fun z => nomatch z)⟩, ?_⟩
      rintro i σ G2 ⟨x, ws, rfl, sG2, mx2, mw2, hp4, hW4, hi, li, c1, c2, non⟩
      cases i with
      | zero => cases x <;> exact nomatch hi
      | succ i =>
      refine ⟨_, rfl, rfl, _, rfl, ?_⟩
      cases x with
      | some x =>
        have mx := mx2 x rfl
        have hi : (S.push x).io i ((S.push x).l x) (x :: ws) ns = some (S, names) := hi
        rw [push0] at hi
        refine ifT rfl ⟨fun σ G2 => ∃ (x : Option Int) (ws : List Int), σ = [some (.ref d), some (.int top), some (.ref p), some (onV x), some (.ref W)] ∧ Same H G2 ∧ (∀ y, x = some y → y ∈ S.ns) ∧ (∀ y ∈ ws, y ∈ S.ns) ∧ G2 p = some (.lst (ns.map V.int)) ∧ G2 W = some (.lst ((ws.reverse).map V.int)) ∧ S.io i x ws ns = some (S, names) ∧ i ≤ j + 1 ∧ ws.length + ns.length + i ≤ 2000 ∧ ws.length + i ≤ 1000 ∧ (x = none → ws ≠ []), fun σ' G' h => ⟨i, Nat.lt_succ_self i, h⟩, ?_⟩
        refine ⟨_, rfl, .inl ⟨rfl, _, SqL.of hW4⟩, _, rfl, W, _, _, rfl, rfl, hW4, ?_, ?_⟩
        · rw [List.length_map, List.length_reverse]
          exact szl (by omega)
        have s5 : Same H (upd G2 W (.lst (ws.reverse.map V.int ++ [V.int x]))) := same_put sG2 nW0
        refine rdNR 0 (A.same s5) mx rfl rfl (v := onV (S.l x)) rfl ?_
        refine ⟨S.l x, x :: ws, rfl, s5, fun y e => (cl x mx).1 y e, fun y my => ?_, by rw [upd_ne Wp.symm]; exact hp4, ?_, hi, by omega, by rw [List.length_cons]; omega, by rw [List.length_cons]; omega, fun _ => List.cons_ne_nil _ _⟩
        · rcases List.mem_cons.mp my with rfl | my
          · exact mx
          · exact mw2 y my
        · rw [upd_same, List.reverse_cons, List.map_append]
          rfl
      | none =>
        refine ifF rfl ?_
        cases ws with
        | nil => exact absurd rfl (non rfl)
        | cons x ws =>
        have mx := mw2 x List.mem_cons_self
        have hi : S.io i (S.r x) ws (ns ++ [x]) = some (S, names) := hi
        have er : (x :: ws).reverse.map V.int = ws.reverse.map V.int ++ [V.int x] := by
          rw [List.reverse_cons, List.map_append]
          rfl
        rw [er] at hW4
        rw [List.length_cons] at c1 c2
        refine ⟨_, rfl, .inl ⟨rfl, _, SqL.of hW4⟩, W, _, .int x, rfl, rfl, hW4, by simp, ?_⟩
        rw [List.dropLast_concat]
        have s5 : Same H (upd G2 W (.lst (ws.reverse.map V.int))) := same_put sG2 nW0
        have hW5 : upd G2 W (.lst (ws.reverse.map V.int)) W = some (.lst (ws.reverse.map V.int)) := upd_same
        have hp5 : upd G2 W (.lst (ws.reverse.map V.int)) p = some (.lst (ns.map V.int)) := by rw [upd_ne Wp.symm]; exact hp4
        generalize upd G2 W (.lst (ws.reverse.map V.int)) = G5 at s5 hW5 hp5 ⊢
        refine ⟨_, rfl, .inl ⟨rfl, _, SqL.of hp5⟩, _, rfl, p, _, _, rfl, rfl, hp5, ?_, ?_⟩
        · rw [List.length_map]
          exact szl (by omega)
        have s6 : Same H (upd G5 p (.lst (ns.map V.int ++ [V.int x]))) := same_put s5 np
        refine rdNR 1 (A.same s6) mx rfl rfl (v := onV (S.r x)) rfl ?_
        refine ⟨i, by omega, S.r x, ws, ns ++ [x], rfl, s6, fun y e => (cl x mx).2.1 y e, fun y my => mw2 y (List.mem_cons_of_mem _ my), ?_, by rw [upd_ne Wp]; exact hW5, hi, by rw [List.length_append]; show ws.length + (ns.length + 1) + i ≤ 2000; omega, by omega⟩
        rw [upd_same, List.map_append]
        rfl
    | none =>
      refine ifF rfl ?_
      refine ⟨_, rfl, Nat.zero_le _, fun e ne => ?_⟩
      have se := same_new (o := .lst ([] : List V)) ne
      refine ⟨.list (ws.reverse.map PyData.int), .list [], .lst (SqL.of (se _ _ hW3)) (dp_intsL _), .lst (SqL.of upd_same) .nil, shp_ints _, rfl, _, rfl, ?_⟩
      rw [eq_nilL]
      have sG := sG.trans se
      have hp3 := se _ _ hp3
      have hW3 := se _ _ hW3
      generalize upd G e (.lst ([] : List V)) = G1 at sG hp3 hW3 ⊢
      cases ws with
      | nil =>
        have hj : some (S, ns) = some (S, names) := hj
        cases hj
        exact iteF ⟨_, rfl, q p G1 sG np hp3⟩
      | cons y ws =>
      have ee : (y :: ws).reverse.isEmpty = false := by simp
      rw [ee]
      refine iteT ?_
      refine ⟨fun σ' G' => ∃ m', m' < j + 1 ∧ (fun (j : Nat) (σ : L2.St) (G : Hp) => ∃ (x : Option Int) (ws ns : List Int), σ = [some (.ref d), some (.int top), some (.ref p), some (onV x), some (.ref W)] ∧ Same H G ∧ (∀ y, x = some y → y ∈ S.ns) ∧ (∀ y ∈ ws, y ∈ S.ns) ∧ G p = some (.lst (ns.map V.int)) ∧ G W = some (.lst ((ws.reverse).map V.int)) ∧ S.io j x ws ns = some (S, names) ∧ ws.length + ns.length + j ≤ 2000 ∧ ws.length + j ≤ 1000) m' σ' G', fun σ' G' h => h, ?_⟩
      refine ⟨fun i σ G2 => ∃ (x : Option Int) (ws : List Int), σ = [some (.ref d), some (.int top), some (.ref p), some (onV x), some (.ref W)] ∧ Same H G2 ∧ (∀ y, x = some y → y ∈ S.ns) ∧ (∀ y ∈ ws, y ∈ S.ns) ∧ G2 p = some (.lst (ns.map V.int)) ∧ G2 W = some (.lst ((ws.reverse).map V.int)) ∧ S.io i x ws ns = some (S, names) ∧ i ≤ j + 1 ∧ ws.length + ns.length + i ≤ 2000 ∧ ws.length + i ≤ 1000 ∧ (x = none → ws ≠ []), ⟨j + 1, none, y :: ws, rfl, sG, (fun _ z => nomatch z), mw, hp3, hW3, hj, Nat.le_refl _, b1, b2, (fun _ => List.cons_ne_nil _ _)⟩, ?_⟩
      rintro i σ G2 ⟨x, ws, rfl, sG2, mx2, mw2, hp4, hW4, hi, li, c1, c2, non⟩
      cases i with
      | zero => cases x <;> exact nomatch hi
      | succ i =>
      refine ⟨_, rfl, rfl, _, rfl, ?_⟩
      cases x with
      | some x =>
        have mx := mx2 x rfl
        have hi : (S.push x).io i ((S.push x).l x) (x :: ws) ns = some (S, names) := hi
        rw [push0] at hi
        refine ifT rfl ⟨fun σ G2 => ∃ (x : Option Int) (ws : List Int), σ = [some (.ref d), some (.int top), some (.ref p), some (onV x), some (.ref W)] ∧ Same H G2 ∧ (∀ y, x = some y → y ∈ S.ns) ∧ (∀ y ∈ ws, y ∈ S.ns) ∧ G2 p = some (.lst (ns.map V.int)) ∧ G2 W = some (.lst ((ws.reverse).map V.int)) ∧ S.io i x ws ns = some (S, names) ∧ i ≤ j + 1 ∧ ws.length + ns.length + i ≤ 2000 ∧ ws.length + i ≤ 1000 ∧ (x = none → ws ≠ []), fun σ' G' h => ⟨i, Nat.lt_succ_self i, h⟩, ?_⟩
        refine ⟨_, rfl, .inl ⟨rfl, _, SqL.of hW4⟩, _, rfl, W, _, _, rfl, rfl, hW4, ?_, ?_⟩
        · rw [List.length_map, List.length_reverse]
          exact szl (by omega)
        have s5 : Same H (upd G2 W (.lst (ws.reverse.map V.int ++ [V.int x]))) := same_put sG2 nW0
        refine rdNR 0 (A.same s5) mx rfl rfl (v := onV (S.l x)) rfl ?_
        refine ⟨S.l x, x :: ws, rfl, s5, fun y e => (cl x mx).1 y e, fun y my => ?_, by rw [upd_ne Wp.symm]; exact hp4, ?_, hi, by omega, by rw [List.length_cons]; omega, by rw [List.length_cons]; omega, fun _ => List.cons_ne_nil _ _⟩
        · rcases List.mem_cons.mp my with rfl | my
          · exact mx
          · exact mw2 y my
        · rw [upd_same, List.reverse_cons, List.map_append]
          rfl
      | none =>
        refine ifF rfl ?_
        cases ws with
        | nil => exact absurd rfl (non rfl)
        | cons x ws =>
        have mx := mw2 x List.mem_cons_self
        have hi : S.io i (S.r x) ws (ns ++ [x]) = some (S, names) := hi
        have er : (x :: ws).reverse.map V.int = ws.reverse.map V.int ++ [V.int x] := by
          rw [List.reverse_cons, List.map_append]
          rfl
        rw [er] at hW4
        rw [List.length_cons] at c1 c2
        refine ⟨_, rfl, .inl ⟨rfl, _, SqL.of hW4⟩, W, _, .int x, rfl, rfl, hW4, by simp, ?_⟩
        rw [List.dropLast_concat]
        have s5 : Same H (upd G2 W (.lst (ws.reverse.map V.int))) := same_put sG2 nW0
        have hW5 : upd G2 W (.lst (ws.reverse.map V.int)) W = some (.lst (ws.reverse.map V.int)) := upd_same
        have hp5 : upd G2 W (.lst (ws.reverse.map V.int)) p = some (.lst (ns.map V.int)) := by rw [upd_ne Wp.symm]; exact hp4
        generalize upd G2 W (.lst (ws.reverse.map V.int)) = G5 at s5 hW5 hp5 ⊢
        refine ⟨_, rfl, .inl ⟨rfl, _, SqL.of hp5⟩, _, rfl, p, _, _, rfl, rfl, hp5, ?_, ?_⟩
        · rw [List.length_map]
          exact szl (by omega)
        have s6 : Same H (upd G5 p (.lst (ns.map V.int ++ [V.int x]))) := same_put s5 np
        refine rdNR 1 (A.same s6) mx rfl rfl (v := onV (S.r x)) rfl ?_
        refine ⟨i, by omega, S.r x, ws, ns ++ [x], rfl, s6, fun y e => (cl x mx).2.1 y e, fun y my => mw2 y (List.mem_cons_of_mem _ my), ?_, by rw [upd_ne Wp]; exact hW5, hi, by rw [List.length_append]; show ws.length + (ns.length + 1) + i ≤ 2000; omega, by omega⟩
        rw [upd_same, List.map_append]
        rfl
theorem pall_of {H : Hp} : ∀ {ts : List V} {us : List (Int × Int)}, ts.length = us.length → (∀ (j : Nat) (v : V), ts[j]? = some v → ∃ (t : Addr) (u : Int × Int), v = .ref t ∧ us[j]? = some u ∧ H t = some (.tup [.int u.1, .int u.2])) → PAll H ts us
  | [], [], _, _ => .nil
  | [], _ :: _, h, _ => nomatch h
  | _ :: _, [], h, _ => nomatch h
  | v :: ts, u :: us, h, f => by
    obtain ⟨t, u', rfl, eu, ht⟩ := f 0 v rfl
    cases Option.some.inj eu
    exact .cons ht (pall_of (by simpa using h) fun j v e => f (j + 1) v e)
theorem zpd_pall {H : Hp} {xs ys : List Int} {ts : List V} (z : Zpd H (xs.map V.int) (ys.map V.int) (min (xs.map V.int).length (ys.map V.int).length) ts) : PAll H ts (xs.zip ys) := by
  refine pall_of (by rw [z.1, List.length_zip, List.length_map, List.length_map]) fun j v e => ?_
  obtain ⟨t, x, y, rfl, hx, hy, ht⟩ := z.2 j v e
  rw [List.getElem?_map] at hx hy
  obtain ⟨a, ha, rfl⟩ := Option.map_eq_some_iff.mp hx
  obtain ⟨b, hb, rfl⟩ := Option.map_eq_some_iff.mp hy
  exact ⟨t, (a, b), rfl, List.getElem?_zip_eq_some (z := (a, b)) |>.mpr ⟨ha, hb⟩, ht⟩
theorem srt2 {u v : Int} {ys : List Int} (pm : ys.Perm [u, v]) (srt : ys.Pairwise (· ≤ ·)) : ys = [(tieI u v).1, (tieI u v).2] := by
  have l := pm.length_eq
  match ys, l with
  | [a, b], _ =>
    have ab : a ≤ b := (List.pairwise_cons.mp srt).1 b List.mem_cons_self
    have h : (a = u ∧ b = v) ∨ (a = v ∧ b = u) := by
      rcases List.mem_cons.mp (pm.mem_iff.mp (List.mem_cons_self (a := a))) with e | e
      · subst e
        exact .inl ⟨rfl, List.singleton_perm_singleton.mp pm.cons_inv⟩
      · have e := List.mem_singleton.mp e
        subst e
        exact .inr ⟨rfl, List.singleton_perm_singleton.mp (pm.trans (List.Perm.swap _ _ _)).cons_inv⟩
    unfold tieI
    rcases h with ⟨rfl, rfl⟩ | ⟨rfl, rfl⟩
    · by_cases c : b < a
      · omega
      · by_cases d : b > a
        · rw [if_neg c, if_pos d]
        · have : a = b := by omega
          subst this
          rw [if_neg c]
          try simp
    · by_cases c : a < b
      · have d : ¬ a > b := by omega
        rw [if_pos c, if_neg d]
      · have : a = b := by omega
        subst this
        simp
def spTiesL : Sp := fun vs H Q _ => ∃ (d : Addr) (ls : Int → Addr) (S : Lk Int) (Ts : Strands), vs = [.ref d] ∧ TreeAt H d ls S ∧ FS S Ts ∧ (∀ t ∈ Ts, flat t.1 = true) ∧ (S.t = fun _ => false) ∧ S.ns.length ≤ 100 ∧ ∀ (p : Addr) (ys : List V) (us : List (Int × Int)) (H' : Hp), Same H H' → H' p = some (.tup ys) → PAll H' ys us → us.Perm ((tops S).flatMap (gS Ts)) → us.Pairwise leT → Q (.ref p) H'
theorem ok_tiesL (T : Top K mg) : FnOk P w K mg base CX0 2 T.a_Lties T.d_Lties ["_law_forms_here"] spTiesL := by
  have G_Ltop : FnOk P w K mg base CX0 1 _ _ _ _ := ok_ontopR T
  have G_Lorder : FnOk P w K mg base CX0 1 _ _ _ _ := ok_order T
  refine T.F_Lties.ok sc_Lties (fun vs H Q E h => ?_) (fun cdv A outer s H vs Q E hr h => ?_)
  · obtain ⟨d, ls, S, Ts, rfl, _⟩ := h
    rfl
  · obtain ⟨d, ls, S, Ts, rfl, A0, fS, fl, tf, l100, q⟩ := h
    refine ⟨_, (pss_cons (ps_set (i := 1) sc_Lties.nd rfl (.inl rfl) (pe_lst pa_nil))
      (pss_cons (ps_lock (ps_for PassesOwn.never rfl (pi_keys (pv 0)) (pg_name (i := 2) sc_Lties.nd rfl (.inl rfl)) (pss_one (ps_if (pt_val (pe_call G_Ltop hr (by rfl) T.g_Ltop T.F_Ltop.kp T.b_Ltop .nil pass0 (pa_cons (pv 0) (pa_cons (pv 2) pa_nil)))) (pss_cons (ps_set (i := 3) sc_Lties.nd rfl (.inl rfl) (pe_call G_Lorder hr (by rfl) T.g_Lorder T.F_Lorder.kp T.b_Lorder .nil pass0 (pa_cons (pv 0) (pa_cons (pv 2) pa_nil))))
      (pss_cons (ps_set (i := 4) sc_Lties.nd rfl (.inl rfl) (pe_listZip rfl (by rfl) T.m_list (by rfl) T.m_zip (pa_cons (pv 3) (pa_cons (pe_slice sl_list (pv 3) (po_some pe_int) po_none) pa_nil))))
      (pss_cons (ps_if (pt_cmpR op_notN (pe_ix ix_list (pe_dget (u1 hr) (pv 0) (pv 2) (fun _ _ => rfl)) pe_int (fun _ _ => rfl)) pe_non (nomark _)) (pss_one (ps_expr (pe_bm PySem.F.plainAttrs_list PySem.F.slot_list_append PySem.F.type_list_append mt_append (pv 4) (pa_cons (pe_tup (pa_cons (pe_ix ix_list (pv 3) pe_int (fun _ _ => rfl)) (pa_cons (pe_ix ix_list (pe_dget (u1 hr) (pv 0) (pv 2) (fun _ _ => rfl)) pe_int (fun _ _ => rfl)) pa_nil))) pa_nil)))) pss_nil)
      (pss_one (ps_expr (pe_bm PySem.F.plainAttrs_list PySem.F.slot_list_extend PySem.F.type_list_extend mt_extend (pv 1) (pa_cons (pe_lc (own := [("_law_pair", 5)]) (g := gName 5) (tt := tYes) (by rfl) sc_Lties.nd (pi_list (pv 4)) (blkOk_by (own := [("_law_pair", 5)]) (N := ["_law_forms_here", "_law_ties_here", "_law_x", "_law_order_here", "_law_pairs", "_law_pair"]) (sc := defScope s_Lties) (by decide +kernel)) (fun _ _ _ _ _ => (pg_name (i := 5) sc_Lties.nd rfl (.inl rfl))) (fun _ _ _ _ _ => pts_nil) (fun _ _ _ _ _ => (pe_callTy (call_tuple_ofK (K := K) rfl) (by rfl) T.m_tuple (by decide +kernel) (pa_cons (pe_callB (cr_sortedITK (K := K) rfl) (by rfl) T.m_sorted (by decide +kernel) (pa_cons (pv 5) pa_nil)) pa_nil)))) pa_nil))))))) pss_nil))))
      (pss_one (ps_ret (pe_callTy call_tuple_of (by rfl) T.m_tuple (by decide +kernel) (pa_cons (pe_callB cr_sortedPH (by rfl) T.m_sorted (by decide +kernel) (pa_cons (pv 1) pa_nil)) pa_nil)))))), ?_⟩
    refine ⟨Nat.zero_le _, fun E nE => ?_⟩
    have sE := same_new (o := .lst ([] : List V)) nE
    have hE1 : upd H E (.lst ([] : List V)) E = some (.lst []) := upd_same
    have A1 := A0.same sE
    generalize upd H E (.lst ([] : List V)) = H1 at sE hE1 A1 ⊢
    have dE : d ≠ E := ne_of_none A0.hd nE
    refine ⟨d, _, A1.hd, trivial, fun od => ?_⟩
    have fA : upd H1 d (.frz od (.dK (dN S.ns fun x => .ref (ls x)))) d = some (.frz od (.dK (dN S.ns fun x => .ref (ls x)))) := upd_same
    have sO : ∀ c o, c ≠ d → H1 c = some o → upd H1 d (.frz od (.dK (dN S.ns fun x => .ref (ls x)))) c = some o := fun c o n e => by
      rw [upd_ne n]
      exact e
    generalize upd H1 d (.frz od (.dK (dN S.ns fun x => .ref (ls x)))) = H2 at fA sO ⊢
    have lsE : ∀ x ∈ S.ns, ls x ≠ E := fun x m => ne_of_none (A0.at' x m) nE
    have ltop : (tops S).length ≤ 100 := Nat.le_trans (List.length_filter_le _ _) l100
    refine ⟨_, rfl, d, od, rfl, .inl ⟨_, fA, for_it walk_keys (fun i σ G => ∃ (ws : List V) (y2 y3 y4 y5 : Option V), σ = [some (.ref d), some (.ref E), y2, y3, y4, y5] ∧ (∀ c o, c ≠ E → H2 c = some o → G c = some o) ∧ G E = some (.lst ws) ∧ PAll G ws (((S.ns.take i).filter fun x => S.isTop x).flatMap (gS Ts)) ∧ ws.length ≤ 200 * i) ⟨[], none, none, none, none, rfl, fun c o _ e => e, sO _ _ dE.symm hE1, .nil, Nat.zero_le _⟩ (fun i σ G _ h => ?_) ?_ ?_⟩⟩
    · obtain ⟨_, _, _, _, _, _, kp, _⟩ := h
      exact kp _ _ dE fA
    · rintro i v σ G G' hi ⟨ws, y2, y3, y4, y5, rfl, kp, hE, pa, lw⟩ ⟨rfl, k1, v1, hk, rfl⟩
      obtain ⟨x, hx, rfl, rfl⟩ := dN_at hk
      have mx := List.mem_of_getElem? hx
      have li := (List.getElem?_eq_some_iff.mp hx).1
      have TR : TreeR G' d ls S := ⟨fun y m => dget_fr (kp _ _ dE fA) m, fun y m => kp _ _ (lsE y m) (sO _ _ (A0.nd m).symm (sE _ _ (A0.at' y m)))⟩
      have ft := filter_turn (fun x => S.isTop x) hx
      refine ⟨_, rfl, _, rfl, d, ls, S, x, rfl, TR, mx, fS.cl, fun G2 s2 => ⟨_, rfl, ?_⟩⟩
      cases c : S.isTop x with
      | false =>
        rw [c, if_neg Bool.false_ne_true] at ft
        exact iteF ⟨ws, _, _, _, _, rfl, fun c o n e => s2 _ _ (kp c o n e), s2 _ _ hE, by rw [ft]; exact pa.same s2, by omega⟩
      | true =>
        rw [c, if_pos rfl] at ft
        refine iteT ?_
        obtain ⟨τ, mτ, rτ⟩ := tops_at fS (List.mem_filter.mpr ⟨mx, c⟩)
        have gs : gS Ts x = tiesT τ := gS_at fS mτ rτ
        have rep := fS.rp τ mτ
        have hio := io_all rep (fl τ mτ)
        rw [rτ, ord_flat (fl τ mτ)] at hio
        have ln : τ.1.nms.length ≤ 100 := by
          have := nms_len mτ
          rw [fS.pm.length_eq] at this
          omega
        have lc : τ.1.cost + 1 ≤ 1000 := by
          rw [Tr.cost_eq]
          omega
        have TR2 := TR.same s2
        refine ⟨_, rfl, _, rfl, d, ls, S, x, _, τ.1.nms, rfl, TR2, mx, fS.cl, tf, hio, lc, fun D G3 s3 nD hD => ?_⟩
        refine ⟨_, rfl, _, rfl, 1, rfl, D, _, rfl, SqL.of hD, fun D3 nD3 => ?_⟩
        rw [tail_cut]
        have s4 := same_new (o := .lst (τ.1.nms.tail.map V.int)) nD3
        have hD3 : upd G3 D3 (.lst (τ.1.nms.tail.map V.int)) D3 = some (.lst (τ.1.nms.tail.map V.int)) := upd_same
        have hD4 := s4 _ _ hD
        have s24 := s2.trans (s3.trans s4)
        generalize upd G3 D3 (.lst (τ.1.nms.tail.map V.int)) = G4 at s4 hD3 hD4 s24 ⊢
        refine ⟨D, D3, _, _, rfl, hD4, hD3, by rw [List.length_map]; exact szl (by omega), fun Z ts G5 nZ s5 hZ zp => ?_⟩
        have pz := zpd_pall zp
        have lt := pz.length
        have lzz : (τ.1.nms.zip τ.1.nms.tail).length ≤ 100 := by
          rw [List.length_zip]
          omega
        have s25 := s24.trans s5
        have hD5 := s5 _ _ hD4
        have TR5 := TR.same s25
        have hE5 := s25 _ _ hE
        have pa5 := pa.same s25
        have ZE : Z ≠ E := fun e => by rw [e, s24 _ _ hE] at nZ; cases nZ
        have Zd : Z ≠ d := fun e => by rw [e, s24 _ _ (kp _ _ dE fA)] at nZ; cases nZ
        have nZ2 : ∀ c o, H2 c = some o → c ≠ E → c ≠ Z := fun c o e n z => by rw [z] at e n; rw [s24 _ _ (kp _ _ n e)] at nZ; cases nZ
        have kp5 : ∀ c o, c ≠ E → H2 c = some o → G5 c = some o := fun c o n e => s25 _ _ (kp c o n e)
        clear s2 s3 s4 s24 s25 hD hD4 TR TR2 nD3 hD3 pa hE s5
        refine rdNR 2 TR5 mx rfl rfl (v := onV (S.a x)) rfl ?_
        have eup : S.a x = τ.2 := rep.top rτ
        rw [eup]
        cases eu : τ.2 with
        | none =>
          refine ⟨rfl, _, rfl, ifF rfl ?_⟩
          have eT : (τ.1.nms.zip τ.1.nms.tail).map (fun t => tieI t.1 t.2) = tiesT τ := by
            unfold tiesT
            rw [eu]
            exact (List.append_nil _).symm
          refine ⟨_, rfl, .inl ⟨rfl, _, SqL.of hE5⟩, ?_⟩
          refine ⟨_, rfl, Z, rfl, ⟨_, SqL.of hZ⟩, fun M nM => ?_⟩
          have lzu := pz.length
          refine lc_list (xs := ts) (fun j G => Same G5 G ∧ ∃ rs, G M = some (.lst rs) ∧ PAll G rs ((List.take j (τ.1.nms.zip τ.1.nms.tail)).map fun t => tieI t.1 t.2) ∧ rs.length = j) ⟨same_new nM, [], upd_same, .nil, rfl⟩ (fun j G _ z => SqL.of (z.1 _ _ hZ)) ?_ ?_
          · rintro j z G hz ⟨s7, rs, hM, pr, lr⟩
            have lj := (List.getElem?_eq_some_iff.mp hz).1
            obtain ⟨tp, u, rfl, hu, htp⟩ := (pz.same s7).at hz
            refine ⟨rfl, yes_ite ?_⟩
            refine ⟨_, rfl, tp, [u.1, u.2], rfl, SqT.of htp, fun ys p pm srt np => ?_⟩
            obtain rfl := srt2 pm srt
            refine ⟨p, _, rfl, .inl ⟨SqL.of upd_same, fun l nl => ?_⟩⟩
            have s8 := (same_new (o := .lst ([(tieI u.1 u.2).1, (tieI u.1 u.2).2].map V.int)) np).trans (same_new (o := .tup ([(tieI u.1 u.2).1, (tieI u.1 u.2).2].map V.int)) nl)
            refine ⟨rs, s8 _ _ hM, szl (by omega), same_put (s7.trans s8) nM, rs ++ [.ref l], upd_same, ?_, by rw [List.length_append, lr]; rfl⟩
            rw [take_at hu, List.map_append]
            exact (PAll.snoc (x := (tieI u.1 u.2).1) (y := (tieI u.1 u.2).2) upd_same (pr.same s8)).put (s8 _ _ hM)
          rintro G7 ⟨s7, rs, hM, pr, lr⟩
          rw [List.take_of_length_le (by omega)] at pr
          have hE7 := s7 _ _ hE5
          refine ⟨E, M, _, _, rfl, rfl, hE7, hM, sz (by omega), ?_⟩
          exact ⟨ws ++ rs, _, _, _, _, rfl, fun c o n e => (by rw [upd_ne n]; exact s7 _ _ (kp5 c o n e)), upd_same, (by rw [ft, List.flatMap_append, List.flatMap_singleton, gs, ← eT]; exact ((pa5.same s7).append pr).put hE7), (by rw [List.length_append]; omega)⟩
        | some qv =>
          refine ⟨rfl, _, rfl, ifT rfl ?_⟩
          obtain ⟨n0, nr, en0⟩ : ∃ n0 nr, τ.1.nms = n0 :: nr := by
            cases h : τ.1.nms with
            | nil =>
              have := Tr.root_mem rτ
              rw [h] at this
              cases this
            | cons a l => exact ⟨a, l, rfl⟩
          have eT : (τ.1.nms.zip τ.1.nms.tail ++ [(n0, qv)]).map (fun t => tieI t.1 t.2) = tiesT τ := by
            unfold tiesT
            rw [eu, List.map_append, en0]
            rfl
          have hix : atI (τ.1.nms.map V.int) 0 = some (.int n0) := by
            rw [en0]
            exact atI_nat (j := 0) rfl
          refine ⟨_, rfl, .inl ⟨rfl, _, SqL.of hZ⟩, ?_⟩
          refine ⟨_, rfl, D, _, _, _, rfl, rfl, SqL.of hD5, hix, ?_⟩
          refine rdNR 2 TR5 mx rfl rfl (v := onV (S.a x)) rfl ?_
          rw [eup, eu]
          refine ⟨(by show 2 ≤ sizeLine; decide), fun t6 nt6 => ?_⟩
          have s6 := same_new (o := .tup [V.int n0, onV (some qv)]) nt6
          have h6 : upd G5 t6 (.tup [V.int n0, onV (some qv)]) t6 = some (.tup [V.int n0, onV (some qv)]) := upd_same
          generalize upd G5 t6 (.tup [V.int n0, onV (some qv)]) = G6 at s6 h6 ⊢
          have hZ6 := s6 _ _ hZ
          refine ⟨Z, _, _, rfl, rfl, hZ6, szl (by omega), ?_⟩
          have hZ7 : upd G6 Z (.lst (ts ++ [V.ref t6])) Z = some (.lst (ts ++ [V.ref t6])) := upd_same
          have hE7 : upd G6 Z (.lst (ts ++ [V.ref t6])) E = some (.lst ws) := by rw [upd_ne ZE.symm]; exact s6 _ _ hE5
          have pz7 : PAll (upd G6 Z (.lst (ts ++ [V.ref t6]))) (ts ++ [V.ref t6]) (τ.1.nms.zip τ.1.nms.tail ++ [(n0, qv)]) := (PAll.snoc (x := n0) (y := qv) h6 (pz.same s6)).put hZ6
          have pa7 := (pa5.same s6).put (o := .lst (ts ++ [V.ref t6])) hZ6
          have kp7 : ∀ c o, c ≠ E → H2 c = some o → upd G6 Z (.lst (ts ++ [V.ref t6])) c = some o := fun c o n e => by
            rw [upd_ne (nZ2 c o e n)]
            exact s6 _ _ (kp5 c o n e)
          have l7 : (τ.1.nms.zip τ.1.nms.tail ++ [(n0, qv)]).length ≤ 101 := by
            rw [List.length_append, List.length_singleton]
            omega
          generalize upd G6 Z (.lst (ts ++ [V.ref t6])) = G7 at hZ7 hE7 pz7 pa7 kp7 ⊢
          refine ⟨_, rfl, .inl ⟨rfl, _, SqL.of hE7⟩, ?_⟩
          refine ⟨_, rfl, Z, rfl, ⟨_, SqL.of hZ7⟩, fun M nM => ?_⟩
          have lzu := pz7.length
          refine lc_list (xs := (ts ++ [V.ref t6])) (fun j G => Same G7 G ∧ ∃ rs, G M = some (.lst rs) ∧ PAll G rs ((List.take j (τ.1.nms.zip τ.1.nms.tail ++ [(n0, qv)])).map fun t => tieI t.1 t.2) ∧ rs.length = j) ⟨same_new nM, [], upd_same, .nil, rfl⟩ (fun j G _ z => SqL.of (z.1 _ _ hZ7)) ?_ ?_
          · rintro j z G hz ⟨s9, rs, hM, pr, lr⟩
            have lj := (List.getElem?_eq_some_iff.mp hz).1
            obtain ⟨tp, u, rfl, hu, htp⟩ := (pz7.same s9).at hz
            refine ⟨rfl, yes_ite ?_⟩
            refine ⟨_, rfl, tp, [u.1, u.2], rfl, SqT.of htp, fun ys p pm srt np => ?_⟩
            obtain rfl := srt2 pm srt
            refine ⟨p, _, rfl, .inl ⟨SqL.of upd_same, fun l nl => ?_⟩⟩
            have s8 := (same_new (o := .lst ([(tieI u.1 u.2).1, (tieI u.1 u.2).2].map V.int)) np).trans (same_new (o := .tup ([(tieI u.1 u.2).1, (tieI u.1 u.2).2].map V.int)) nl)
            refine ⟨rs, s8 _ _ hM, szl (by omega), same_put (s9.trans s8) nM, rs ++ [.ref l], upd_same, ?_, by rw [List.length_append, lr]; rfl⟩
            rw [take_at hu, List.map_append]
            exact (PAll.snoc (x := (tieI u.1 u.2).1) (y := (tieI u.1 u.2).2) upd_same (pr.same s8)).put (s8 _ _ hM)
          rintro G9 ⟨s9, rs, hM, pr, lr⟩
          rw [List.take_of_length_le (by omega)] at pr
          have hE9 := s9 _ _ hE7
          refine ⟨E, M, _, _, rfl, rfl, hE9, hM, sz (by omega), ?_⟩
          exact ⟨ws ++ rs, _, _, _, _, rfl, fun c o n e => (by rw [upd_ne n]; exact s9 _ _ (kp7 c o n e)), upd_same, (by rw [ft, List.flatMap_append, List.flatMap_singleton, gs, ← eT]; exact ((pa7.same s9).append pr).put hE9), (by rw [List.length_append]; omega)⟩
    · rintro σ G ⟨ws, y2, y3, y4, y5, rfl, kp, hE, pa, lw⟩
      rw [dN_len, List.take_length] at pa
      refine ⟨kp _ _ dE fA, ?_⟩
      have hE3 : upd G d (.dK (dN S.ns fun x => .ref (ls x))) E = some (.lst ws) := by rw [upd_ne dE.symm]; exact hE
      have pa3 : PAll (upd G d (.dK (dN S.ns fun x => .ref (ls x)))) ws ((tops S).flatMap (gS Ts)) := pa.mono fun t u v e => by
        rw [upd_ne fun (z : t = d) => by (rw [z, kp _ _ dE fA] at e; cases e)]
        exact e
      have s3 : Same H (upd G d (.dK (dN S.ns fun x => .ref (ls x)))) := fun c o e => by
        by_cases n : c = d
        · subst n
          rw [upd_same]
          exact A0.hd.symm.trans e
        · rw [upd_ne n]
          exact kp _ _ (ne_of_none e nE) (sO _ _ n (sE _ _ e))
      generalize upd G d (.dK (dN S.ns fun x => .ref (ls x))) = G3 at hE3 pa3 s3 ⊢
      refine ⟨_, rfl, E, ws, _, rfl, .inl (SqL.of hE3), pa3, fun ys us c py pm srt nc => ?_⟩
      have sc := same_new (o := .lst ys) nc
      refine ⟨c, _, rfl, .inl ⟨SqL.of upd_same, fun p np => ?_⟩⟩
      have sp := sc.trans (same_new (o := .tup ys) np)
      exact q p ys us _ (s3.trans sp) upd_same (py.same sp) pm srt
end
/-! ### the law's own flags -/
theorem merge_dN {f : Int → V} : ∀ {b a : List Int}, (a ++ b).Nodup → mergeK (dN a f) (dN b f) = dN (a ++ b) f
  | [], a, _ => by
    rw [List.append_nil]
    rfl
  | x :: b, a, nd => by
    have nx : x ∉ a := fun m => by
      obtain ⟨_, _, h⟩ := List.nodup_append.mp nd
      exact h x m x List.mem_cons_self rfl
    have e : a ++ x :: b = (a ++ [x]) ++ b := by rw [List.append_assoc]; rfl
    show mergeK (putK (dN a f) (Sum.inl x) (f x)) (dN b f) = _
    rw [dN_new nx, dN_congr (g := f) (fun z mz => ?_), merge_dN (by rw [← e]; exact nd), e]
    by_cases c : z = x
    · rw [c, up1_same]
    · rw [up1_ne c]
theorem merge_all {f : Int → V} {b : List Int} (nd : b.Nodup) : mergeK [] (dN b f) = dN b f := by
  have h := merge_dN (f := f) (a := []) (b := b) (by simpa using nd)
  exact h
theorem paired_imp {α β : Type} {F G : α → β → Prop} (h : ∀ a b, F a b → G a b) {xs : List α} {ys : List β} (p : Paired F xs ys) : Paired G xs ys := by
  induction p with
  | nil => exact .nil
  | cons f _ ih => exact .cons (h _ _ f) ih
section
variable {P : Program} {w : World} {K : PySem.W.Frag} {mg : Str → Option Value} {base : Heap}
def spTwisted : Sp := fun vs H Q _ => ∃ (b d : Addr) (ls : Int → Addr) (S : Lk Int) (Ts : Strands), vs = [.ref b, .ref d] ∧ P2 H b ∧ TreeAt H d ls S ∧ d ≠ b ∧ (∀ x ∈ S.ns, ls x ≠ b) ∧ FS S Ts ∧ (∀ t ∈ Ts, flat t.1 = true) ∧ S.ns.length ≤ 100 ∧ ∀ (p : Addr) (m : Int → Bool) (H' : Hp), P2 H' b → But b H H' → Shp H' p S Ts m → Q (.ref p) H'
theorem ok_twisted (T : Top K mg) : FnOk P w K mg base CX0 2 T.a_Ltwisted T.d_Ltwisted ["_law_pot_here", "_law_forms_here"] spTwisted := by
  have G_Ltake : FnOk P w K mg base CX0 1 _ _ _ _ := ok_take2 T
  have G_Ltop : FnOk P w K mg base CX0 1 _ _ _ _ := ok_ontopR T
  refine T.F_Ltwisted.ok sc_Ltwisted (fun vs H Q E h => ?_) (fun cdv A outer s H vs Q E hr h => ?_)
  · obtain ⟨b, d, ls, S, Ts, rfl, _⟩ := h
    rfl
  · obtain ⟨b, d, ls, S, Ts, rfl, P0, A0, db, lb, fS, fl, l100, q⟩ := h
    obtain ⟨KK, hK⟩ := fS.paths
    refine ⟨_, (pss_cons (ps_set (i := 2) sc_Ltwisted.nd rfl (.inl rfl) (pe_lst pa_nil))
      (pss_cons (ps_set (i := 3) sc_Ltwisted.nd rfl (.inl rfl) (pe_callTy (call_dictP rfl) (by rfl) T.m_dict (by decide +kernel) (pa_cons (pe_lc (own := [("_law_name", 4)]) (g := gName 4) (tt := tYes) (by rfl) sc_Ltwisted.nd (pi_list (pe_callB (call_sortedDX rfl) (by rfl) T.m_sorted (by decide +kernel) (pa_cons (pv 1) pa_nil))) (blkOk_by (own := [("_law_name", 4)]) (N := ["_law_pot_here", "_law_forms_here", "_law_found", "_law_marks", "_law_name", "_law_here", "_law_odd", "_law_left", "_law_right", "_law_above"]) (sc := defScope s_Ltwisted) (by decide +kernel)) (fun _ _ _ _ _ => (pg_name (i := 4) sc_Ltwisted.nd rfl (.inl rfl))) (fun _ _ _ _ _ => pts_nil) (fun _ _ _ _ _ => (pe_tup (pa_cons (pv 4) (pa_cons (pe_cmpR op_eq (pe_call G_Ltake hr (by rfl) T.g_Ltake T.F_Ltake.kp T.b_Ltake .nil pass0 (pa_cons (pv 0) (pa_cons pe_int pa_nil))) pe_int (nomark _)) pa_nil))))) pa_nil)))
      (pss_cons (ps_for PassesOwn.never rfl (pi_list (pe_callB (call_sortedDX rfl) (by rfl) T.m_sorted (by decide +kernel) (pa_cons (pv 1) pa_nil))) (pg_name (i := 4) sc_Ltwisted.nd rfl (.inl rfl)) (pss_cons (ps_par (i := 5) (j := 6) (by rfl) sc_Ltwisted.nd rfl rfl (by decide) rfl rfl (pa_cons (pv 4) (pa_cons (pe_dget (u1 hr) (pv 3) (pv 4) (fun _ _ => rfl)) pa_nil)) (by rfl))
      (pss_cons (ps_while PassesOwn.never (pt_not (pt_val (pe_call G_Ltop hr (by rfl) T.g_Ltop T.F_Ltop.kp T.b_Ltop .nil pass0 (pa_cons (pv 1) (pa_cons (pv 5) pa_nil))))) (pss_cons (ps_set (i := 5) sc_Ltwisted.nd rfl (.inl rfl) (pe_ix ix_list (pe_dget (u1 hr) (pv 1) (pv 5) (fun _ _ => rfl)) pe_int (fun _ _ => rfl)))
      (pss_one (ps_set (i := 6) sc_Ltwisted.nd rfl (.inl rfl) (pe_cmpR op_ne (pv 6) (pe_dget (u1 hr) (pv 3) (pv 5) (fun _ _ => rfl)) (nomark _))))))
      (pss_cons (ps_asg (pe_dget (u1 hr) (pv 1) (pv 4) (fun _ _ => rfl)) (pg_lst rfl (pgs_cons (pg_name (i := 7) sc_Ltwisted.nd rfl (.inl rfl)) (pgs_cons (pg_name (i := 8) sc_Ltwisted.nd rfl (.inl rfl)) (pgs_cons (pg_name (i := 9) sc_Ltwisted.nd rfl (.inl rfl)) pgs_nil)))))
      (pss_cons (ps_if (pt_val (pv 6)) (pss_one (ps_par (i := 7) (j := 8) (by rfl) sc_Ltwisted.nd rfl rfl (by decide) rfl rfl (pa_cons (pv 8) (pa_cons (pv 7) pa_nil)) (by rfl))) pss_nil)
      (pss_one (ps_expr (pe_bm PySem.F.plainAttrs_list PySem.F.slot_list_append PySem.F.type_list_append mt_append (pv 2) (pa_cons (pe_tup (pa_cons (pv 4) (pa_cons (pv 7) (pa_cons (pv 8) (pa_cons (pv 9) (pa_cons (pe_dget (u1 hr) (pv 3) (pv 4) (fun _ _ => rfl)) pa_nil)))))) pa_nil)))))))))
      (pss_one (ps_ret (pe_callTy call_tuple_of (by rfl) T.m_tuple (by decide +kernel) (pa_cons (pv 2) pa_nil))))))), ?_⟩
    refine ⟨Nat.zero_le _, fun R nR => ?_⟩
    have sR := same_new (o := .lst ([] : List V)) nR
    have hR1 : upd H R (.lst ([] : List V)) R = some (.lst []) := upd_same
    have A1 := A0.same sR
    have P1 := P0.same sR
    generalize upd H R (.lst ([] : List V)) = H1 at sR hR1 A1 P1 ⊢
    refine ⟨_, rfl, d, _, S.ns, rfl, .inl A1.hd, by unfold dN; rw [List.map_map]; rfl, by omega, fun ms p1 pm srt np1 => ?_⟩
    have s2 := same_new (o := .lst (ms.map V.int)) np1
    have h1 : upd H1 p1 (.lst (ms.map V.int)) p1 = some (.lst (ms.map V.int)) := upd_same
    have A2 := A1.same s2
    have P2' := P1.same s2
    have hR2 := s2 _ _ hR1
    generalize upd H1 p1 (.lst (ms.map V.int)) = H2 at s2 h1 A2 P2' hR2 ⊢
    have lm := pm.length_eq
    refine ⟨p1, rfl, ⟨_, SqL.of h1⟩, fun D nD => ?_⟩
    have ndm : ms.Nodup := pm.nodup_iff.mpr fS.nn
    have bD : b ≠ D := fun e => by
      have z := P2'.ne nD
      exact z e.symm
    have p1D : p1 ≠ D := ne_of_none h1 nD
    have p1b : p1 ≠ b := fun e => by
      have z := P1.ne np1
      exact z e
    refine lc_list (K := K) (a := p1) (xs := ms.map V.int) (fun i G => P2 G b ∧ (∀ c o, c ≠ b → c ≠ D → H2 c = some o → G c = some o) ∧ ∃ (mk : Int → Bool) (ps : List Addr), G D = some (.lst (ps.map V.ref)) ∧ Paired (fun p (kv : Key × V) => G p = some (.tup [kV kv.1, kv.2])) ps (dN (ms.take i) fun x => .bl (mk x))) ⟨P2'.same (same_new nD), fun c o _ n e => same_new nD _ _ e, fun _ => false, [], upd_same, .nil⟩ (fun i G _ z => SqL.of (z.2.1 _ _ p1b p1D h1)) ?_ ?_
    · rintro i v G hv ⟨P3, k3, mk, ps, hM, pd⟩
      rw [List.getElem?_map] at hv
      obtain ⟨x, hx, rfl⟩ := Option.map_eq_some_iff.mp hv
      have li := (List.getElem?_eq_some_iff.mp hx).1
      have lps := pd.length
      rw [dN_len, List.length_take] at lps
      refine ⟨rfl, yes_ite ⟨_, rfl, ?_⟩⟩
      refine ⟨_, rfl, b, 3, rfl, P3, by decide, by decide, fun v G4 v0 v3 P4 k4 => ?_⟩
      refine ⟨rfl, (by show 2 ≤ sizeLine; decide), fun p np => ?_⟩
      have Db : D ≠ b := bD.symm
      have hM4 := k4 _ _ hM Db
      have s5 := same_new (o := .tup [V.int x, V.bl (decide (V.int v = V.int 0))]) np
      have P5 := P4.same s5
      have hM5 := s5 _ _ hM4
      have h5 : upd G4 p (.tup [V.int x, V.bl (decide (V.int v = V.int 0))]) p = some (.tup [V.int x, V.bl (decide (V.int v = V.int 0))]) := upd_same
      have pd5 : Paired (fun p' (kv : Key × V) => upd G4 p (.tup [V.int x, V.bl (decide (V.int v = V.int 0))]) p' = some (.tup [kV kv.1, kv.2])) ps (dN (ms.take i) fun x => .bl (mk x)) := paired_imp (fun q kv e => s5 _ _ (k4 _ _ e (fun z => by (rw [z] at e; obtain ⟨x1, y1, e1⟩ := P3; rw [e1] at e; cases e)))) pd
      have k5 : ∀ c o, c ≠ b → c ≠ D → H2 c = some o → upd G4 p (.tup [V.int x, V.bl (decide (V.int v = V.int 0))]) c = some o := fun c o n1 n2 e => s5 _ _ (k4 _ _ (k3 c o n1 n2 e) n1)
      generalize upd G4 p (.tup [V.int x, V.bl (decide (V.int v = V.int 0))]) = G5 at s5 P5 hM5 h5 pd5 k5 ⊢
      refine ⟨_, hM5, by rw [List.length_map]; exact szl (by omega), P5.put Db, fun c o n1 n2 e => ?_, up1 mk x (decide (V.int v = V.int 0)), ps ++ [p], by rw [upd_same, List.map_append]; rfl, ?_⟩
      · rw [upd_ne n2]
        exact k5 c o n1 n2 e
      have e : dN (ms.take (i + 1)) (fun y => V.bl (up1 mk x (decide (V.int v = V.int 0)) y)) = dN (ms.take i) (fun y => .bl (mk y)) ++ [(Sum.inl x, .bl (decide (V.int v = V.int 0)))] := by
        have nx := tk_no ndm hx
        rw [take_at hx]
        unfold dN
        rw [List.map_append, List.map_singleton]
        dsimp only
        rw [up1_same]
        congr 1
        refine List.map_congr_left fun y my => ?_
        rw [up1_ne fun (z : y = x) => nx (z ▸ my)]
      rw [e]
      have st : ∀ (q : Addr) (kv : Key × V), G5 q = some (.tup [kV kv.1, kv.2]) → upd G5 D (.lst (ps.map V.ref ++ [.ref p])) q = some (.tup [kV kv.1, kv.2]) := fun q kv e => by
        rw [upd_ne fun (z : q = D) => by (rw [z, hM5] at e; cases e)]
        exact e
      exact (paired_imp st pd5).snoc (st p (Sum.inl x, V.bl (decide (V.int v = V.int 0))) h5)
    rintro H3 ⟨P3, k3, mk, ps, hM, pd⟩
    rw [List.length_map, List.take_length] at pd
    refine ⟨D, ps, _, rfl, SqL.of hM, paired_imp (fun q kv e => SqT.of e) pd, fun F nF => ?_⟩
    rw [merge_all ndm]
    have sF := same_new (o := .dK (dN ms fun x => V.bl (mk x))) nF
    have hF : upd H3 F (.dK (dN ms fun x => V.bl (mk x))) F = some (.dK (dN ms fun x => V.bl (mk x))) := upd_same
    have P4 := P3.same sF
    have kb : ∀ c o, c ≠ b → H c = some o → H3 c = some o := fun c o n e => k3 c o n (fun z => by rw [z] at e; have y := s2 _ _ (sR _ _ e); rw [nD] at y; cases y) (s2 _ _ (sR _ _ e))
    have A4 : TreeAt (upd H3 F (.dK (dN ms fun x => V.bl (mk x)))) d ls S := ⟨sF _ _ (kb _ _ db A0.hd), fun x m => sF _ _ (kb _ _ (lb x m) (A0.at' x m)), A0.inj⟩
    have Rb : R ≠ b := P0.ne nR
    have RD : R ≠ D := ne_of_none hR2 nD
    have hR4 := sF _ _ (k3 _ _ Rb RD hR2)
    have k4 : ∀ c o, c ≠ b → H c = some o → upd H3 F (.dK (dN ms fun x => V.bl (mk x))) c = some o := fun c o n e => sF _ _ (kb c o n e)
    generalize upd H3 F (.dK (dN ms fun x => V.bl (mk x))) = H4 at sF hF P4 A4 hR4 k4 ⊢
    -- the rows
    refine ⟨_, rfl, d, _, S.ns, rfl, .inl A4.hd, by unfold dN; rw [List.map_map]; rfl, by omega, fun ms2 p2 pm2 srt2' np2 => ?_⟩
    have sp2 := same_new (o := .lst (ms2.map V.int)) np2
    have h2 : upd H4 p2 (.lst (ms2.map V.int)) p2 = some (.lst (ms2.map V.int)) := upd_same
    have hF5 := sp2 _ _ hF
    have P5 := P4.same sp2
    have A5 := A4.same sp2
    have hR5 := sp2 _ _ hR4
    have k5 : ∀ c o, c ≠ b → H c = some o → upd H4 p2 (.lst (ms2.map V.int)) c = some o := fun c o n e => sp2 _ _ (k4 c o n e)
    generalize upd H4 p2 (.lst (ms2.map V.int)) = H5 at sp2 h2 hF5 P5 A5 hR5 k5 ⊢
    have ndm2 : ms2.Nodup := pm2.nodup_iff.mpr fS.nn
    have lm2 := pm2.length_eq
    have p2R : p2 ≠ R := fun e => by rw [e, hR4] at np2; cases np2
    have FR : F ≠ R := fun e => by rw [e] at nF; rw [k3 _ _ Rb RD hR2] at nF; cases nF
    have dR : d ≠ R := ne_of_none A0.hd nR
    have lR : ∀ x ∈ S.ns, ls x ≠ R := fun x m => ne_of_none (A0.at' x m) nR
    have gF : ∀ {G : Hp} {x : Int}, G F = some (.dK (dN ms fun x => V.bl (mk x))) → x ∈ S.ns → DGet G F (.int x) (some (.bl (mk x))) := fun e m => dget_dN (f := fun x => V.bl (mk x)) e (pm.mem_iff.mpr m)
    refine ⟨p2, rfl, ⟨_, SqL.of h2⟩, for_list (xs := ms2.map V.int) (fun i σ G => ∃ (ws : List V) (y4 y5 y6 y7 y8 y9 : Option V), σ = [some (.ref b), some (.ref d), some (.ref R), some (.ref F), y4, y5, y6, y7, y8, y9] ∧ (∀ c o, c ≠ R → H5 c = some o → G c = some o) ∧ G R = some (.lst ws) ∧ TAll G ws ((ms2.take i).map (rowL (twL S mk (KK + 1)))) ∧ ws.length = i) ⟨[], _, _, _, _, _, _, rfl, fun c o _ e => e, hR5, .nil, rfl⟩ (fun i σ G _ z => ?_) ?_ ?_⟩
    · obtain ⟨_, _, _, _, _, _, _, _, kp, _⟩ := z
      exact SqL.of (kp _ _ p2R h2)
    · rintro i v σ G hv ⟨ws, y4, y5, y6, y7, y8, y9, rfl, kp, hRG, ta, lw⟩
      rw [List.getElem?_map] at hv
      obtain ⟨x, hx, rfl⟩ := Option.map_eq_some_iff.mp hv
      have li := (List.getElem?_eq_some_iff.mp hx).1
      have mx : x ∈ S.ns := pm2.mem_iff.mp (List.mem_of_getElem? hx)
      have hFG := kp _ _ FR hF5
      have AG : TreeAt G d ls S := ⟨kp _ _ dR A5.hd, fun y m => kp _ _ (lR y m) (A5.at' y m), A5.inj⟩
      refine ⟨_, rfl, _, rfl, _, rfl, F, _, rfl, gF hFG mx, _, _, rfl, ?_⟩
      obtain ⟨xs0, exs⟩ := hK x mx
      obtain ⟨rest0, rfl⟩ := path_head exs
      have eod : od S mk (KK + 1) x = rest0.foldl (fun o y => o != mk y) (mk x) := by
        unfold od
        rw [exs]
        show rest0.foldl (fun o y => o != mk y) (false != mk x) = _
        cases mk x <;> rfl
      refine ⟨fun k σ G2 => ∃ (h : Int) (o : Bool) (rest : List Int), σ = [some (.ref b), some (.ref d), some (.ref R), some (.ref F), some (.int x), some (.int h), some (.bl o), y7, y8, y9] ∧ Same G G2 ∧ h ∈ S.ns ∧ S.path k h = some (h :: rest) ∧ rest.foldl (fun o y => o != mk y) o = od S mk (KK + 1) x, ⟨KK + 1, x, mk x, rest0, rfl, (fun _ _ e => e), mx, exs, eod.symm⟩, ?_⟩
      rintro k σ G2 ⟨h, o, rest, rfl, s6, mh, ep, eo⟩
      cases k with
      | zero => exact nomatch ep
      | succ k =>
      have AG2 := AG.same s6
      refine ⟨_, rfl, _, rfl, d, ls, S, h, rfl, AG2.r, mh, fS.cl, fun G3 s7 => ⟨_, rfl, ?_⟩⟩
      have AG3 := AG2.same s7
      have s67 := s6.trans s7
      have hFG3 := s67 _ _ hFG
      cases c : S.isTop h with
      | false =>
        refine iteT ?_
        obtain ⟨u, eu⟩ : ∃ u, S.a h = some u := by
          cases e : S.a h with
          | some u => exact ⟨u, rfl⟩
          | none =>
            unfold Lk.isTop at c
            rw [e] at c
            cases c
        obtain ⟨ys, e1, e2⟩ := path_up ep c eu
        have mu := (fS.cl h mh).2.2 u eu
        refine ⟨fun σ' G' => ∃ k', k' < k + 1 ∧ ∃ (h : Int) (o : Bool) (rest : List Int), σ' = [some (.ref b), some (.ref d), some (.ref R), some (.ref F), some (.int x), some (.int h), some (.bl o), y7, y8, y9] ∧ Same G G' ∧ h ∈ S.ns ∧ S.path k' h = some (h :: rest) ∧ rest.foldl (fun o y => o != mk y) o = od S mk (KK + 1) x, fun σ' G' h => h, ?_⟩
        refine rdNR 2 AG3.r mh rfl rfl (v := onV (S.a h)) rfl ?_
        rw [eu]
        obtain ⟨k2, rfl⟩ : ∃ k2, k = k2 + 1 := by
          cases k with
          | zero => exact nomatch e1
          | succ k2 => exact ⟨k2, rfl⟩
        obtain ⟨r2, rfl⟩ := path_head e1
        have e3 : rest = u :: r2 := (List.cons.inj e2).2
        subst e3
        have en : (V.bl (!decide (V.bl o = V.bl (mk u)))) = V.bl (o != mk u) := by
          cases o <;> cases mk u <;> rfl
        refine ⟨_, rfl, _, rfl, _, rfl, F, _, rfl, gF hFG3 mu, rfl, k2 + 1, Nat.lt_succ_self _, u, (o != mk u), r2, by rw [← en]; rfl, s67, mu, e1, eo⟩
      | true =>
        have er := path_top ep c
        cases er
        refine iteF ?_
        have eo : o = od S mk (KK + 1) x := eo
        refine ⟨_, rfl, _, rfl, d, _, rfl, AG3.get mx, ls x, _, rfl, SqL.of (AG3.at' x mx), rfl, _, _, rfl, _, _, rfl, _, _, rfl, rfl, ?_⟩
        have hR3 := s67 _ _ hRG
        have rowE : rowL (twL S mk (KK + 1)) x = ⟨x, if o = true then S.r x else S.l x, if o = true then S.l x else S.r x, S.a x, mk x⟩ := by
          unfold rowL twL
          dsimp only
          rw [eo]
        have fin : ∀ (y7 y8 y9 : Option V) (l r : Option Int), (⟨x, l, r, S.a x, mk x⟩ : LRow) = rowL (twL S mk (KK + 1)) x → ∀ (p6 : Addr) (G6 : Hp), Same G3 G6 → G6 p6 = some (.tup [.int x, onV l, onV r, onV (S.a x), .bl (mk x)]) → ∃ (ws' : List V) (z4 z5 z6 z7 z8 z9 : Option V), [some (V.ref b), some (.ref d), some (.ref R), some (.ref F), some (.int x), some (.int h), some (.bl o), y7, y8, y9] = [some (.ref b), some (.ref d), some (.ref R), some (.ref F), z4, z5, z6, z7, z8, z9] ∧ (∀ c o, c ≠ R → H5 c = some o → upd G6 R (.lst (ws ++ [.ref p6])) c = some o) ∧ upd G6 R (.lst (ws ++ [.ref p6])) R = some (.lst ws') ∧ TAll (upd G6 R (.lst (ws ++ [.ref p6]))) ws' ((ms2.take (i + 1)).map (rowL (twL S mk (KK + 1)))) ∧ ws'.length = i + 1 := fun y7 y8 y9 l r er p6 G6 s8 h6 => by
          refine ⟨ws ++ [.ref p6], _, _, _, _, _, _, rfl, fun c o n e => ?_, upd_same, ?_, by rw [List.length_append, lw]; rfl⟩
          · rw [upd_ne n]
            exact s8 _ _ (s67 _ _ (kp c o n e))
          · rw [take_at hx, List.map_append, List.map_singleton, ← er]
            have st : ∀ p' r', G6 p' = some (.tup r') → upd G6 R (.lst (ws ++ [.ref p6])) p' = some (.tup r') := fun p' r' e => by
              rw [upd_ne fun (z : p' = R) => by (rw [z, s8 _ _ hR3] at e; cases e)]
              exact e
            exact ((ta.same (s67.trans s8)).mono st).snoc (st _ _ h6)
        refine ⟨_, rfl, o, rfl, ite2 (fun co => ?_) (fun co => ?_)⟩
        · refine ⟨_, rfl, _, rfl, _, _, rfl, ?_⟩
          refine ⟨_, rfl, .inl ⟨rfl, _, SqL.of hR3⟩, ?_⟩
          refine ⟨_, rfl, _, rfl, _, rfl, _, rfl, _, rfl, _, rfl, F, _, rfl, gF hFG3 mx, (by show 5 ≤ sizeLine; decide), fun p6 np6 => ?_⟩
          have s8 := same_new (o := .tup [V.int x, onV (S.r x), onV (S.l x), onV (S.a x), .bl (mk x)]) np6
          refine ⟨R, _, _, rfl, rfl, s8 _ _ hR3, szl (by omega), ?_⟩
          exact fin _ _ _ (S.r x) (S.l x) (by rw [rowE, if_pos co, if_pos co]) p6 _ s8 upd_same
        · skip
          refine ⟨_, rfl, .inl ⟨rfl, _, SqL.of hR3⟩, ?_⟩
          refine ⟨_, rfl, _, rfl, _, rfl, _, rfl, _, rfl, _, rfl, F, _, rfl, gF hFG3 mx, (by show 5 ≤ sizeLine; decide), fun p6 np6 => ?_⟩
          have s8 := same_new (o := .tup [V.int x, onV (S.l x), onV (S.r x), onV (S.a x), .bl (mk x)]) np6
          refine ⟨R, _, _, rfl, rfl, s8 _ _ hR3, szl (by omega), ?_⟩
          exact fin _ _ _ (S.l x) (S.r x) (by rw [rowE, if_neg co, if_neg co]) p6 _ s8 upd_same
    · rintro σ G ⟨ws, y4, y5, y6, y7, y8, y9, rfl, kp, hRG, ta, lw⟩
      rw [List.length_map, List.take_length] at ta
      refine ⟨_, rfl, R, _, rfl, .inl ⟨SqL.of hRG, fun p np => ?_⟩⟩
      have sp := same_new (o := .tup ws) np
      have PG : P2 G b := by
        obtain ⟨x, y, e⟩ := P5
        exact ⟨x, y, kp _ _ Rb.symm e⟩
      refine q p mk _ (PG.same sp) (fun c o e n => sp _ _ (kp _ _ (ne_of_none e nR) (k5 c o n e))) ⟨fl, { twL S mk (KK + 1) with ns := ms2 }, ms2, ⟨ws, upd_same, ta.same sp⟩, pm2, rfl, ndm2, by omega, (fS.tw hK mk).congr pm2 fun x _ => ⟨rfl, rfl, rfl, rfl⟩⟩
end

end My
namespace My
open PySem L2
theorem shp_reflR {d : PyData} (h : SeqAt.shaped d = true) : (!PyData.eqv d d) = false := by
  have h : (PyData.canLay0 d && decide (PyData.depth d ≤ 64)) = true := h
  rw [Bool.and_eq_true] at h
  rw [SeqAt.eqv_refl d h.1]
  rfl
theorem onD_lay (y : Option Int) : PyData.canLay0 (onD y) = true ∧ PyData.depth (onD y) ≤ 0 := by cases y <;> exact ⟨rfl, Nat.le_refl _⟩
theorem row_lay (r : LRow) : PyData.canLay0 r.dat = true ∧ PyData.depth r.dat ≤ 1 := by
  obtain ⟨x, l, rr, a, t⟩ := r
  cases l <;> cases rr <;> cases a <;> exact ⟨rfl, Nat.le_of_eq rfl⟩
theorem rows_lay : ∀ rs : List LRow, PyData.canLayAll0 (rs.map LRow.dat) = true ∧ PyData.depthAll (rs.map LRow.dat) ≤ 1
  | [] => ⟨rfl, Nat.zero_le _⟩
  | r :: rs => by
    obtain ⟨h1, h2⟩ := row_lay r
    obtain ⟨k1, k2⟩ := rows_lay rs
    refine ⟨?_, Nat.max_le.mpr ⟨h2, k2⟩⟩
    show (PyData.canLay0 r.dat && PyData.canLayAll0 (rs.map LRow.dat)) = true
    rw [h1, k1]
    rfl
theorem shp_rows (rs : List LRow) : SeqAt.shaped (.tuple (rs.map LRow.dat)) = true := by
  have h := rows_lay rs
  unfold SeqAt.shaped
  rw [show PyData.canLay0 (.tuple (rs.map LRow.dat)) = true from h.1, decide_eq_true (show PyData.depth (.tuple (rs.map LRow.dat)) ≤ 64 by show PyData.depthAll _ + 1 ≤ 64; omega)]
  rfl
theorem shp_intsT (l : List Int) : SeqAt.shaped (.tuple (l.map .int)) = true := by
  have h := lay_ints l
  unfold SeqAt.shaped
  rw [show PyData.canLay0 (.tuple (l.map .int)) = true from h.1, decide_eq_true (show PyData.depth (.tuple (l.map .int)) ≤ 64 by show PyData.depthAll _ + 1 ≤ 64; omega)]
  rfl

/-! ### the law k38 -/
theorem cutV_whole {xs : List V} {lo hi : Option Int} (h : HT.sIx xs.length 0 lo = 0 ∧ HT.sIx xs.length xs.length hi = xs.length) : cutV xs lo hi = xs := by
  unfold cutV
  rw [h.1, h.2, List.drop_zero, Nat.sub_zero, List.take_length]
theorem slA {K : PySem.W.Frag} {x : V} {lo hi : Option Int} {H : Hp} {Q : VK} {t : Addr} {xs : List V} (ex : x = .ref t) (h : H t = some (.tup xs)) (k : ∀ (p : Addr) (H' : Hp), Same H H' → H' p = some (.tup (cutV xs lo hi)) → Q (.ref p) H') : rSlA K x lo hi H Q :=
  ⟨t, xs, ex, SqT.of h, fun wh => k t H (fun _ _ e => e) (by rw [cutV_whole wh]; exact h), fun _ p np => k p _ (same_new np) upd_same⟩
theorem catA {K : PySem.W.Frag} {x y : V} {H : Hp} {Q : VK} {a b : Addr} {xs ys : List V} (ex : x = .ref a) (ey : y = .ref b) (h1 : H a = some (.tup xs)) (h2 : H b = some (.tup ys)) (l : xs.length + ys.length ≤ sizeLine) (k : ∀ (p : Addr) (H' : Hp), Same H H' → H' p = some (.tup (xs ++ ys)) → Q (.ref p) H') : rCatA K x y H Q :=
  ⟨a, b, xs, ys, ex, ey, SqT.of h1, SqT.of h2, l, fun e => k b H (fun _ _ e => e) (by rw [e]; exact h2), fun _ e => k a H (fun _ _ e => e) (by rw [e, List.append_nil]; exact h1), fun _ _ p np => k p _ (same_new np) upd_same⟩
theorem cut_init (xs : List V) (v : V) : cutV (xs ++ [v]) none (some (-1)) = xs := by
  unfold cutV
  have e : HT.sIx (xs ++ [v]).length (xs ++ [v]).length (some (-1)) = xs.length := by
    show (if (-1 : Int) < 0 then ((-1 : Int) + ((xs ++ [v]).length : Int)).toNat else min (-1 : Int).toNat (xs ++ [v]).length) = _
    rw [if_pos (by decide), List.length_append]
    show ((-1 : Int) + ((xs.length + 1 : Nat) : Int)).toNat = _
    omega
  rw [e, HT.sIx_none, List.drop_zero, Nat.sub_zero, List.take_left]
theorem cut_any (ns : List Int) (lo hi : Option Int) : ∃ ms : List Int, cutV (ns.map V.int) lo hi = ms.map V.int ∧ ms.length ≤ ns.length := by
  refine ⟨(ns.drop (HT.sIx ns.length 0 lo)).take (HT.sIx ns.length ns.length hi - HT.sIx ns.length 0 lo), ?_, ?_⟩
  · unfold cutV
    rw [List.length_map, List.map_take, List.map_drop]
  · rw [List.length_take, List.length_drop]
    omega
def rowF (S : Lk Int) (x : Int) : LRow := ⟨x, S.l x, S.r x, S.a x, false⟩
theorem rowsL_F {S : Lk Int} (h : S.t = fun _ => false) (ns ms : List Int) : ms.map (rowL { S with ns := ns }) = ms.map (rowF S) := by
  refine List.map_congr_left fun x _ => ?_
  unfold rowL rowF
  dsimp only
  rw [h]
theorem P2.tup {H H' : Hp} {b : Addr} (p : P2 H b) (k : But b H H') : ∀ q xs, H q = some (.tup xs) → H' q = some (.tup xs) := fun q xs e => by
  obtain ⟨x, y, hb⟩ := p
  exact k _ _ e (ne_of e hb (by intro z; cases z))
theorem ShapeAt.mono {H H' : Hp} {t : Addr} {S : Lk Int} {ms : List Int} (h : ShapeAt H t S ms) (k : ∀ p xs, H p = some (.tup xs) → H' p = some (.tup xs)) : ShapeAt H' t S ms := by
  obtain ⟨xs, h1, h2⟩ := h
  exact ⟨xs, k _ _ h1, h2.mono k⟩
theorem Shp.mono {H H' : Hp} {t : Addr} {S : Lk Int} {Ts : Strands} {m : Int → Bool} (h : Shp H t S Ts m) (k : ∀ p xs, H p = some (.tup xs) → H' p = some (.tup xs)) : Shp H' t S Ts m := by
  obtain ⟨f, S0, ms, sh, r⟩ := h
  exact ⟨f, S0, ms, sh.mono k, r⟩
theorem ties_lay : ∀ l : List (Int × Int), PyData.canLayAll0 (l.map tdata) = true ∧ PyData.depthAll (l.map tdata) ≤ 1
    | [] => ⟨rfl, Nat.zero_le _⟩
    | r :: rs => ⟨by
        have h1 := (ties_lay rs).1
        show (PyData.canLay0 (tdata r) && PyData.canLayAll0 (rs.map tdata)) = true
        rw [h1]
        rfl, Nat.max_le.mpr ⟨Nat.le_refl _, (ties_lay rs).2⟩⟩
theorem shp_ties (l : List (Int × Int)) : SeqAt.shaped (.tuple (l.map tdata)) = true := by
  have h := ties_lay l
  unfold SeqAt.shaped
  rw [show PyData.canLay0 (.tuple (l.map tdata)) = true from h.1, decide_eq_true (show PyData.depth (.tuple (l.map tdata)) ≤ 64 by show PyData.depthAll _ + 1 ≤ 64; omega)]
  rfl
theorem leT_det {xs ys : List (Int × Int)} (pm : xs.Perm ys) (sx : xs.Pairwise leT) (sy : ys.Pairwise leT) : xs = ys :=
  List.Perm.eq_of_pairwise (le := fun a b => decide (a.1 < b.1 ∨ (a.1 = b.1 ∧ a.2 ≤ b.2))) (fun a b _ _ h1 h2 => by
    have h1 := of_decide_eq_true h1
    have h2 := of_decide_eq_true h2
    exact Prod.ext (by omega) (by omega)) (sx.imp fun {a b : Int × Int} (h : a.1 < b.1 ∨ (a.1 = b.1 ∧ a.2 ≤ b.2)) => decide_eq_true h) (sy.imp fun {a b : Int × Int} (h : a.1 < b.1 ∨ (a.1 = b.1 ∧ a.2 ≤ b.2)) => decide_eq_true h) pm
theorem le_det {xs ys : List Int} (pm : xs.Perm ys) (sx : xs.Pairwise (· ≤ ·)) (sy : ys.Pairwise (· ≤ ·)) : xs = ys :=
  List.Perm.eq_of_pairwise (le := fun a b => decide (a ≤ b)) (fun a b _ _ h1 h2 => by
    have h1 := of_decide_eq_true h1
    have h2 := of_decide_eq_true h2
    omega) (sx.imp fun h => decide_eq_true h) (sy.imp fun h => decide_eq_true h) pm
section
variable {P : Program} {w : World} {K : PySem.W.Frag} {mg : Str → Option Value} {base : Heap}
theorem ok_law (T : Top K mg) : FnOk P w K mg base CX0 32 T.a_law T.d_law ["_law_script"] (spLaw K) := by
  have G_Lseed : FnOk P w K mg base CX0 1 _ _ _ _ := ok_seed T
  have G_Lpot : FnOk P w K mg base CX0 1 _ _ _ _ := ok_pot2 T
  have G_Lforms : FnOk P w K mg base CX0 31 _ _ _ _ := ok_forms T
  have G_Lties : FnOk P w K mg base CX0 2 _ _ _ _ := ok_tiesL T
  have G_Ltwisted : FnOk P w K mg base CX0 2 _ _ _ _ := ok_twisted T
  have G_tiesofshape : FnOk P w K mg base CX0 4 _ _ _ _ := ok_tiesof T
  have G_untwisted : FnOk P w K mg base CX0 4 _ _ _ _ := ok_unt T
  refine T.F_law.ok sc_law (fun vs H Q E h => ?_) (fun cdv A outer s H vs Q E hr h => ?_)
  · obtain ⟨a, ns, rfl, _⟩ := h
    rfl
  · obtain ⟨a, ns, rfl, hS, hlen, hbits, q⟩ := h
    refine ⟨_, (pss_cons (ps_set (i := 1) sc_law.nd rfl (.inl rfl) (pe_call G_Lseed (hr.mono (by decide)) (by rfl) T.g_Lseed T.F_Lseed.kp T.b_Lseed .nil pass0 (pa_cons (pv 0) pa_nil)))
      (pss_cons (ps_set (i := 2) sc_law.nd rfl (.inl rfl) (pe_slice sl_list (pe_op op_catL (pv 0) (pe_lst (pa_cons pe_int (pa_cons pe_int (pa_cons pe_int pa_nil))))) po_none (po_some pe_int)))
      (pss_cons (ps_for PassesOwn.never rfl (pi_enum (by rfl) T.m_enumerate (pa_cons (pe_op op_catL (pv 2) (pe_slice sl_list (pv 0) (po_some pe_int) (po_some pe_int))) pa_nil)) (pg_tup rfl (pgs_cons (pg_name (i := 3) sc_law.nd rfl (.inl rfl)) (pgs_cons (pg_name (i := 4) sc_law.nd rfl (.inl rfl)) pgs_nil))) (pss_cons (ps_set (i := 5) sc_law.nd rfl (.inl rfl) (pe_call G_Lpot (hr.mono (by decide)) (by rfl) T.g_Lpot T.F_Lpot.kp T.b_Lpot .nil pass0 (pa_cons (pv 4) (pa_cons (pe_op op_add (pv 1) (pe_op op_mul pe_int (pv 3))) pa_nil))))
      (pss_cons (ps_set (i := 6) sc_law.nd rfl (.inr rfl) (pe_call G_Lforms hr (by rfl) T.g_Lforms T.F_Lforms.kp T.b_Lforms .nil pass0 (pa_cons (pv 5) (pa_cons pe_int pa_nil))))
      (pss_cons (ps_set (i := 7) sc_law.nd rfl (.inl rfl) (pe_callTy call_tuple_of (by rfl) T.m_tuple (by decide +kernel) (pa_cons (pe_lc (own := [("_law_name", 8)]) (g := gName 8) (tt := tYes) (by rfl) sc_law.nd (pi_list (pe_callB (call_sortedDX rfl) (by rfl) T.m_sorted (by decide +kernel) (pa_cons (pv 6) pa_nil))) (blkOk_by (own := [("_law_name", 8)]) (N := ["_law_script", "_law_seed_here", "_law_cells", "_law_k", "_law_cell", "_law_pot_here", "_law_forms_here", "_law_plain", "_law_name", "_law_due", "_law_shape", "_law_told", "_law_row"]) (sc := defScope s_law) (by decide +kernel)) (fun _ _ _ _ _ => (pg_name (i := 8) sc_law.nd rfl (.inl rfl))) (fun _ _ _ _ _ => pts_nil) (fun _ _ _ _ _ => (pe_op (op_catTK (K := K) rfl) (pe_op (op_catTK (K := K) rfl) (pe_tup (pa_cons (pv 8) pa_nil)) (pe_callTy (call_tuple_ofK (K := K) rfl) (by rfl) T.m_tuple (by decide +kernel) (pa_cons (pe_dget (u1 hr) (pv 6) (pv 8) (fun _ _ => rfl)) pa_nil))) (pe_tup (pa_cons pe_bl pa_nil))))) pa_nil)))
      (pss_cons (ps_set (i := 9) sc_law.nd rfl (.inl rfl) (pe_call G_Lties (hr.mono (by decide)) (by rfl) T.g_Lties T.F_Lties.kp T.b_Lties .nil pass0 (pa_cons (pv 6) pa_nil)))
      (pss_one (ps_for PassesOwn.never rfl (pi_tup (pe_tup (pa_cons (pv 7) (pa_cons (pe_call G_Ltwisted (hr.mono (by decide)) (by rfl) T.g_Ltwisted T.F_Ltwisted.kp T.b_Ltwisted .nil pass0 (pa_cons (pv 5) (pa_cons (pv 6) pa_nil))) (pa_cons (pv 7) pa_nil))))) (pg_name (i := 10) sc_law.nd rfl (.inl rfl)) (pss_cons (ps_set (i := 11) sc_law.nd rfl (.inl rfl) (pe_call G_tiesofshape (hr.mono (by decide)) (by rfl) T.g_tiesofshape T.F_tiesofshape.kp T.b_tiesofshape .nil pass0 (pa_cons (pv 10) pa_nil)))
      (pss_cons (ps_if (PW.pt (pw_or (pt_not (pt_val (pe_callB call_isi (by rfl) T.m_isinstance (by decide +kernel) (pa_cons (pv 11) (pa_cons (pe_bltn (v := .ty "tuple") (by rfl) T.m_tuple (by decide +kernel) rfl) pa_nil))))) (pw_or (pt_cmpR (op_neD hr.units) (pv 11) (pv 9) (nomark _)) (pw_or1 (pt_cmpR (op_neD hr.units) (pe_call G_untwisted (hr.mono (by decide)) (by rfl) T.g_untwisted T.F_untwisted.kp T.b_untwisted .nil pass0 (pa_cons (pv 10) pa_nil)) (pv 7) (nomark _)))))) (pss_one (ps_ret pe_bl)) pss_nil)
      (pss_one (ps_if (pt_not (pt_val (pe_callB (cr_all rfl) (by rfl) T.m_all (by decide +kernel) (pa_cons (pe_lc (own := [("_law_row", 12)]) (g := gName 12) (tt := tYes) (by rfl) sc_law.nd (pi_tup (pe_call G_untwisted (hr.mono (by decide)) (by rfl) T.g_untwisted T.F_untwisted.kp T.b_untwisted .nil pass0 (pa_cons (pv 10) pa_nil))) (blkOk_by (own := [("_law_row", 12)]) (N := ["_law_script", "_law_seed_here", "_law_cells", "_law_k", "_law_cell", "_law_pot_here", "_law_forms_here", "_law_plain", "_law_name", "_law_due", "_law_shape", "_law_told", "_law_row"]) (sc := defScope s_law) (by decide +kernel)) (fun _ _ _ _ _ => (pg_name (i := 12) sc_law.nd rfl (.inl rfl))) (fun _ _ _ _ _ => pts_nil) (fun _ _ _ _ _ => (pe_callB (call_isiK (K := K) rfl) (by rfl) T.m_isinstance (by decide +kernel) (pa_cons (pe_ix (ix_tupK (K := K) rfl) (pv 12) pe_int (fun _ _ => rfl)) (pa_cons (pe_bltn (v := .ty "bool") (by rfl) T.m_bool (by decide +kernel) rfl) pa_nil))))) pa_nil)))) (pss_one (ps_ret pe_bl)) pss_nil)))))))))))
      (pss_one (ps_ret pe_bl))))), ?_⟩
    refine ⟨_, rfl, a, ns, rfl, hS, fun sd H1 s1 => ?_⟩
    have hS1 := s1.seq hS
    -- the cells
    refine ⟨_, rfl, (by show 3 ≤ sizeLine; decide), fun p np => ?_⟩
    have s2 := same_new (o := .lst [V.int 0, V.int 1, V.int 2]) np
    have hp : upd H1 p (.lst [V.int 0, V.int 1, V.int 2]) p = some (.lst [V.int 0, V.int 1, V.int 2]) := upd_same
    have hS2 := s2.seq hS1
    generalize upd H1 p (.lst [V.int 0, V.int 1, V.int 2]) = H2 at s2 hp hS2 ⊢
    refine ⟨a, p, _, _, rfl, rfl, hS2, SqL.of hp, ?_, fun c nc => ?_⟩
    · rw [List.length_map]
      exact sz (by show ns.length + 3 ≤ 100000; omega)
    have ec : ns.map V.int ++ [V.int 0, V.int 1, V.int 2] = (ns ++ [0, 1, 2]).map V.int := by rw [List.map_append]; rfl
    rw [ec]
    have s3 := same_new (o := .lst ((ns ++ [0, 1, 2]).map V.int)) nc
    have hc : upd H2 c (.lst ((ns ++ [0, 1, 2]).map V.int)) c = some (.lst ((ns ++ [0, 1, 2]).map V.int)) := upd_same
    have hS3 := s3.seq hS2
    generalize upd H2 c (.lst ((ns ++ [0, 1, 2]).map V.int)) = H3 at s3 hc hS3 ⊢
    refine ⟨3, rfl, c, _, rfl, SqL.of hc, fun e ne => ?_⟩
    obtain ⟨c1, ec1, lc1⟩ := cut_any (ns ++ [0, 1, 2]) none (some 3)
    rw [ec1]
    rw [List.length_append] at lc1
    have lc1 : c1.length ≤ ns.length + 3 := lc1
    have s4 := same_new (o := .lst (c1.map V.int)) ne
    have he : upd H3 e (.lst (c1.map V.int)) e = some (.lst (c1.map V.int)) := upd_same
    have hS4 := s4.seq hS3
    generalize upd H3 e (.lst (c1.map V.int)) = H4 at s4 he hS4 ⊢
    clear s1 s2 s3 s4 hp hc hS1 hS2 hS3 np nc ne ec ec1
    refine ⟨_, rfl, _, rfl, 3, rfl, 10, rfl, a, _, rfl, hS4, fun f nf => ?_⟩
    obtain ⟨c2, ec2, lc2⟩ := cut_any ns (some 3) (some 10)
    rw [ec2]
    have s5 := same_new (o := .lst (c2.map V.int)) nf
    have hf : upd H4 f (.lst (c2.map V.int)) f = some (.lst (c2.map V.int)) := upd_same
    have he5 := s5 _ _ he
    generalize upd H4 f (.lst (c2.map V.int)) = H5 at hf he5 ⊢
    refine ⟨e, f, _, _, rfl, rfl, SqL.of he5, SqL.of hf, ?_, fun D nD => ?_⟩
    · rw [List.length_map, List.length_map]
      exact sz (by omega)
    rw [← List.map_append]
    have hD : upd H5 D (.lst ((c1 ++ c2).map V.int)) D = some (.lst ((c1 ++ c2).map V.int)) := upd_same
    generalize upd H5 D (.lst ((c1 ++ c2).map V.int)) = H6 at hD ⊢
    generalize c1 ++ c2 = cs at hD ⊢
    clear s5 hf he5 he hS4 nf nD ec2 lc1 lc2
    refine ⟨D, _, rfl, SqL.of hD, for_it (walk_enum (xs := cs.map V.int)) (fun i σ G => ∃ y3 y4 y5 y6 y7 y8 y9 y10 y11 y12 : Option V, σ = [some (.ref a), some (.int sd), some (.ref e), y3, y4, y5, y6, y7, y8, y9, y10, y11, y12] ∧ G D = some (.lst (cs.map V.int))) ⟨_, _, _, _, _, _, _, _, _, _, rfl, hD⟩ (fun i σ G _ h => ?_) ?_ ?_⟩
    · obtain ⟨_, _, _, _, _, _, _, _, _, _, _, h⟩ := h
      exact SqL.of h
    · rintro i z σ G G' hi ⟨y3, y4, y5, y6, y7, y8, y9, y10, y11, y12, rfl, hDg⟩ ⟨T0, z1, z2, rfl, nT, rfl, hz1, hz2⟩
      dsimp only at hz1 hz2
      obtain rfl : V.int (i : Int) = z1 := Option.some.inj hz1
      rw [List.getElem?_map] at hz2
      obtain ⟨cell, hcell, rfl⟩ := Option.map_eq_some_iff.mp hz2
      have sT := same_new (o := .tup [V.int (i : Int), V.int cell]) nT
      refine ⟨T0, _, rfl, SqT.of upd_same, rfl, _, _, rfl, _, _, rfl, rfl, ?_⟩
      have hD1 := sT _ _ hDg
      generalize upd G T0 (.tup [V.int (i : Int), V.int cell]) = G1 at hD1 ⊢
      clear sT hDg nT hz1 hz2 hcell hi
      refine ⟨_, rfl, _, rfl, _, rfl, _, _, rfl, rfl, .inl ⟨by decide, by decide⟩, _, _, rfl, rfl, cell, _, rfl, fun b G2 s2 nb p2 => ?_⟩
      have hD2 := s2 _ _ hD1
      have Db : D ≠ b := ne_of_none hD1 nb
      clear s2 nb hD1
      refine ⟨_, rfl, b, rfl, p2, fun d ls S Ts G3 p23 A F tf lk l1 l20 k3 nd nw _ => ?_⟩
      have hD3 := k3 _ _ hD2 Db
      obtain ⟨fS, fl⟩ := F.fs
      have db := (p23.ls A).1
      have lb := (p23.ls A).2
      -- the shape
      refine ⟨_, rfl, d, _, S.ns, rfl, .inl A.hd, by unfold dN; rw [List.map_map]; rfl, by omega, fun ms p1 pm srt np1 => ?_⟩
      have t2_ := same_new (o := .lst (ms.map V.int)) np1
      have hp1 : upd G3 p1 (.lst (ms.map V.int)) p1 = some (.lst (ms.map V.int)) := upd_same
      generalize upd G3 p1 (.lst (ms.map V.int)) = G30 at t2_ hp1 ⊢
      have lm := pm.length_eq
      refine ⟨p1, rfl, ⟨_, SqL.of hp1⟩, fun M nM => ?_⟩
      refine lc_list (K := K) (a := p1) (xs := ms.map V.int) (fun i G => Same G30 G ∧ ∃ vs, G M = some (.lst vs) ∧ TAll G vs ((ms.take i).map (rowF S))) ⟨same_new nM, [], upd_same, .nil⟩ (fun i G _ z => SqL.of (z.1 _ _ hp1)) ?_ ?_
      · rintro i v G hv ⟨s3, vs, hM, ta⟩
        rw [List.getElem?_map] at hv
        obtain ⟨x, hx, rfl⟩ := Option.map_eq_some_iff.mp hv
        have mx : x ∈ S.ns := pm.mem_iff.mp (List.mem_of_getElem? hx)
        have L3 := A.same (t2_.trans s3)
        have lv := ta.length
        rw [List.length_map, List.length_take] at lv
        refine ⟨rfl, yes_ite ⟨_, rfl, (by show 1 ≤ sizeLine; decide), fun t1 nt1 => ?_⟩⟩
        have s4 := same_new (o := .tup [V.int x]) nt1
        have g1 : upd G t1 (.tup [V.int x]) t1 = some (.tup [V.int x]) := upd_same
        have L4 := L3.same s4
        generalize upd G t1 (.tup [V.int x]) = G1 at s4 g1 L4 ⊢
        refine ⟨_, rfl, _, rfl, d, _, rfl, L4.get mx, ls x, _, rfl, .inl ⟨SqL.of (L4.at' x mx), fun t2 nt2 => ?_⟩⟩
        have s5 := same_new (o := .tup (cel S x)) nt2
        have g2 : upd G1 t2 (.tup (cel S x)) t2 = some (.tup (cel S x)) := upd_same
        have g1' := s5 _ _ g1
        generalize upd G1 t2 (.tup (cel S x)) = G2 at s5 g2 g1' ⊢
        refine ⟨t1, t2, _, _, rfl, rfl, SqT.of g1', SqT.of g2, (fun z => nomatch z), (by show 4 ≤ sizeLine; decide), (fun z => nomatch z), fun _ t3 nt3 => ?_⟩
        have s6 := same_new (o := .tup ([V.int x] ++ cel S x)) nt3
        have g3 : upd G2 t3 (.tup ([V.int x] ++ cel S x)) t3 = some (.tup ([V.int x] ++ cel S x)) := upd_same
        generalize upd G2 t3 (.tup ([V.int x] ++ cel S x)) = G3 at s6 g3 ⊢
        refine ⟨(by show 1 ≤ sizeLine; decide), fun t4 nt4 => ?_⟩
        have s7 := same_new (o := .tup [V.bl false]) nt4
        have g4 : upd G3 t4 (.tup [V.bl false]) t4 = some (.tup [V.bl false]) := upd_same
        have g3' := s7 _ _ g3
        generalize upd G3 t4 (.tup [V.bl false]) = G4 at s7 g4 g3' ⊢
        refine ⟨t3, t4, _, _, rfl, rfl, SqT.of g3', SqT.of g4, (fun z => nomatch z), (by show 5 ≤ sizeLine; decide), (fun z => nomatch z), fun _ t5 nt5 => ?_⟩
        have s8 := same_new (o := .tup ([V.int x] ++ cel S x ++ [V.bl false])) nt5
        have g5 : upd G4 t5 (.tup ([V.int x] ++ cel S x ++ [V.bl false])) t5 = some (.tup (rowF S x).vs) := upd_same
        generalize upd G4 t5 (.tup ([V.int x] ++ cel S x ++ [V.bl false])) = G5 at s8 g5 ⊢
        have s48 := s4.trans (s5.trans (s6.trans (s7.trans s8)))
        show ∃ acc, _
        have hM4 := s48 _ _ hM
        have ta4 := ta.same s48
        refine ⟨vs, hM4, szl (by omega), same_put (s3.trans s48) nM, vs ++ [.ref t5], upd_same, ?_⟩
        rw [tk_at hx, List.map_append]
        refine (ta4.snoc g5).mono fun p r e => ?_
        rw [upd_ne fun z => ?_]
        · exact e
        · rw [z, hM4] at e
          exact nomatch e
      rintro G4 ⟨s3, vs, hM, ta⟩
      rw [List.length_map, List.take_length] at ta
      refine ⟨M, _, rfl, .inl ⟨SqL.of hM, fun t nt => ?_⟩⟩
      have s4 := t2_.trans (s3.trans (same_new (o := .tup vs) nt))
      have ht : upd G4 t (.tup vs) t = some (.tup vs) := upd_same
      have ta4 := ta.same (same_new (o := .tup vs) nt)
      generalize upd G4 t (.tup vs) = G5 at s4 ht ta4 ⊢
      have ndm : ms.Nodup := pm.nodup_iff.mpr F.nn
      have pl : ShapeAt G5 t { S with ns := ms } ms := ⟨vs, ht, by rw [rowsL_F tf]; exact ta4⟩
      have en : Ts.map (twS fun _ => false) = Ts := by
        refine (List.map_congr_left fun t mt => ?_).trans (List.map_id _)
        show (twT (fun _ => false) false t.1, t.2) = t
        rw [tw_none (fl t mt)]
      have sh0 : Shp G5 t S Ts (fun _ => false) := ⟨fl, { S with ns := ms }, ms, pl, pm, rfl, ndm, by omega, by rw [en]; exact fS.congr pm fun x _ => ⟨rfl, rfl, rfl, rfl⟩⟩
      have A5 := A.same s4
      have p25 := p23.same s4
      have hD5 := s4 _ _ hD3
      clear t2_ s3 s4 hM ta ta4 ht hD3 A p23
      -- the ties that are due
      refine ⟨_, rfl, d, ls, S, Ts, rfl, A5, fS, fl, tf, by omega, fun pd ys us G6 s6 hpd pus pmd srd => ?_⟩
      have A6 := A5.same s6
      have p26 := p25.same s6
      have hD6 := s6 _ _ hD5
      have sh6 := sh0.mono fun p xs e => s6 p _ e
      have pl6 := pl.mono fun p xs e => s6 p _ e
      -- the shapes
      refine ⟨_, rfl, _, rfl, _, rfl, b, d, ls, S, Ts, rfl, p26, A6, db, lb, fS, fl, by omega, fun p m G7 p27 k7 shm => ?_⟩
      have tp7 := p26.tup k7
      have sh7 := sh6.mono tp7
      have pl7 := pl6.mono tp7
      have hpd7 := tp7 _ _ hpd
      have pus7 := pus.mono fun c u v e => tp7 _ _ e
      have hD7 := k7 _ _ hD6 Db
      refine ⟨_, rfl, (by show 3 ≤ sizeLine; decide), fun q3 nq3 => ?_⟩
      have s8 := same_new (o := .tup [V.ref t, .ref p, .ref t]) nq3
      have hq3 : upd G7 q3 (.tup [V.ref t, .ref p, .ref t]) q3 = some (.tup [V.ref t, .ref p, .ref t]) := upd_same
      have sh8 := sh7.mono fun p xs e => s8 p _ e
      have shm8 := shm.mono fun p xs e => s8 p _ e
      have pl8 := pl7.mono fun p xs e => s8 p _ e
      have hpd8 := s8 _ _ hpd7
      have pus8 := pus7.same s8
      have hD8 := s8 _ _ hD7
      generalize upd G7 q3 (.tup [V.ref t, .ref p, .ref t]) = G8 at s8 hq3 sh8 shm8 pl8 hpd8 pus8 hD8 ⊢
      refine ⟨q3, rfl, ⟨_, SqT.of hq3⟩, for_tup (xs := [V.ref t, .ref p, .ref t]) (fun j σ G => ∃ y8 y10 y11 y12 : Option V, σ = [some (.ref a), some (.int sd), some (.ref e), some (.int (i : Int)), some (.int cell), some (.ref b), some (.ref d), some (.ref t), y8, some (.ref pd), y10, y11, y12] ∧ Same G8 G) ⟨_, _, _, _, rfl, fun _ _ e => e⟩ (fun j σ G _ z => by obtain ⟨_, _, _, _, _, z⟩ := z; exact SqT.of (z _ _ hq3)) ?_ ?_⟩
      · rintro j v σ G hv ⟨y8, y10, y11, y12, rfl, sG⟩
        obtain ⟨tv, m', rfl, shv⟩ : ∃ (tv : Addr) (m' : Int → Bool), v = .ref tv ∧ Shp G8 tv S Ts m' := by
          have mv := List.mem_of_getElem? hv
          simp only [List.mem_cons, List.not_mem_nil, or_false] at mv
          rcases mv with rfl | rfl | rfl
          · exact ⟨t, _, rfl, sh8⟩
          · exact ⟨p, _, rfl, shm8⟩
          · exact ⟨t, _, rfl, sh8⟩
        have shg := shv.mono fun p xs e => sG p _ e
        refine ⟨_, rfl, tv, S, Ts, m', rfl, fS, shg, by omega, fun pt yt ut G9 s9 hpt put pmt srt2 => ?_⟩
        have eu := leT_det (pmt.trans pmd.symm) srt2 srd
        subst eu
        have sG9 := sG.trans s9
        have hpd9 := sG9 _ _ hpd8
        have pus9 := pus8.same sG9
        refine ⟨_, rfl, _, _, _, _, true, rfl, ClsV.ty _, .base (.tup hpt), kit_ty (by decide +kernel), _, rfl, iteF ?_⟩
        refine ⟨_, rfl, _, rfl, _, _, (Td.tup (SqT.of hpt) put.td).dp, (Td.tup (SqT.of hpd9) pus9.td).dp, shp_ties _, shp_ties _, _, rfl, ifF (shp_reflR (shp_ties _)) ?_⟩
        have sh9 := shg.mono fun p xs e => s9 p _ e
        refine ⟨_, rfl, tv, S, Ts, m', rfl, fS, sh9, by omega, fun pu mu G10 s10 shu pmu sru => ?_⟩
        have em := le_det (pmu.trans pm.symm) sru srt
        subst em
        have sG10 := sG9.trans s10
        obtain ⟨vu, hu, tau⟩ := shu
        obtain ⟨vp, hvp, tap⟩ := pl8.mono fun p xs e => sG10 p _ e
        refine ⟨_, rfl, _, _, .tup (SqT.of hu) tau.dp, .tup (SqT.of hvp) tap.dp, shp_rows _, shp_rows _, _, rfl, ifF (shp_reflR (shp_rows _)) ?_⟩
        have sh10 := sh9.mono fun p xs e => s10 p _ e
        refine ⟨_, rfl, tv, S, Ts, m', rfl, fS, sh10, by omega, fun pw mw G11 s11 shw pmw srw => ?_⟩
        obtain ⟨vw, hw, taw⟩ := shw
        have sG11 := sG10.trans s11
        refine ⟨pw, rfl, ⟨_, SqT.of hw⟩, fun M2 nM2 => ?_⟩
        have lvw := taw.length
        rw [List.length_map] at lvw
        have lmw := pmw.length_eq
        refine lc_tup (xs := vw) (fun j G => Same G11 G ∧ G M2 = some (.lst ((List.replicate j true).map V.bl))) ⟨same_new nM2, upd_same⟩ (fun j G _ z => SqT.of (z.1 _ _ hw)) ?_ ?_
        · rintro j v G hvj ⟨s12, hM2⟩
          have lj := (List.getElem?_eq_some_iff.mp hvj).1
          obtain ⟨pr, rr, rfl, hrr, hpr⟩ := taw.at hvj
          have hpr' := s12 _ _ hpr
          refine ⟨rfl, yes_ite ?_⟩
          refine ⟨_, rfl, pr, _, _, _, rfl, rfl, SqT.of hpr', atI_nat (j := 4) rfl, _, _, _, _, true, rfl, ClsV.ty _, .base (.bl _), kit_ty (by decide +kernel), ?_⟩
          refine ⟨_, hM2, by rw [List.length_map, List.length_replicate]; exact szl (by omega), same_put s12 nM2, ?_⟩
          rw [upd_same, List.replicate_succ', List.map_append]
          rfl
        rintro G12 ⟨s12, hM2⟩
        refine ⟨M2, _, rfl, SqL.of hM2, ⟨_, rfl, ?_⟩⟩
        have ea : ((List.replicate vw.length true).all id) = true := by simp
        rw [ea]
        refine iteF ?_
        exact ⟨_, _, _, _, rfl, sG11.trans s12⟩
      · rintro σ G ⟨y8, y10, y11, y12, rfl, sG⟩
        exact ⟨_, _, _, _, _, _, _, _, _, _, rfl, sG _ _ hD8⟩
    · rintro σ G ⟨y3, y4, y5, y6, y7, y8, y9, y10, y11, y12, rfl, hDg⟩
      exact q G
end

end My
namespace My
open PySem L2
theorem all_mk {l : PySem.W.OpenLaw} {w : World} {K : PySem.W.Frag} {h : Heap} {mg : Str → Option Value} {fa f0 f1 f2 f3 f4 f5 f6 f7 f8 f9 f10 f11 f12 f13 cc0 fm0 fm1 fm2 fm3 fm4 fm5 fm6 fm7 : Addr} (X : K.In h) (G : h.Ns mainGlobals mg) (hfa : mg "law" = some (.ref fa))
    {od0 an0 od1 an1 od2 an2 od3 an3 od4 an4 od5 an5 od6 an6 od7 an7 od8 an8 od9 an9 od10 an10 od11 an11 od12 an12 od13 an13 : Option Addr} {sl0 sl1 sl2 sl3 sl4 sl5 sl6 sl7 sl8 sl9 sl10 sl11 sl12 sl13 : Array (Option Value)} {oc0 kV0 dc0 pm0 cd0 ct0 oc1 kV1 dc1 pm1 cd1 ct1 oc2 kV2 dc2 pm2 cd2 ct2 oc3 kV3 dc3 pm3 cd3 ct3 oc4 kV4 dc4 pm4 cd4 ct4 oc5 kV5 dc5 pm5 cd5 ct5 oc6 kV6 dc6 pm6 cd6 ct6 oc7 kV7 dc7 pm7 cd7 ct7 oc8 kV8 dc8 pm8 cd8 ct8 oc9 kV9 dc9 pm9 cd9 ct9 oc10 kV10 dc10 pm10 cd10 ct10 oc11 kV11 dc11 pm11 cd11 ct11 oc12 kV12 dc12 pm12 cd12 ct12 oc13 kV13 dc13 pm13 cd13 ct13 : Value}
    {odm0 anm0 odm1 anm1 odm2 anm2 odm3 anm3 odm4 anm4 odm5 anm5 odm6 anm6 odm7 anm7 : Option Addr} {slm0 slm1 slm2 slm3 slm4 slm5 slm6 slm7 : Array (Option Value)} {ocm0 kVm0 dcm0 pmm0 cdm0 ctm0 ocm1 kVm1 dcm1 pmm1 cdm1 ctm1 ocm2 kVm2 dcm2 pmm2 cdm2 ctm2 ocm3 kVm3 dcm3 pmm3 cdm3 ctm3 ocm4 kVm4 dcm4 pmm4 cdm4 ctm4 ocm5 kVm5 dcm5 pmm5 cdm5 ctm5 ocm6 kVm6 dcm6 pmm6 cdm6 ctm6 ocm7 kVm7 dcm7 pmm7 cdm7 ctm7 : Value}
    (aC0 : PySem.W.nsIn K mainGlobals "Links" = some (some (.ref cc0))) (pgC0 : PySem.W.plainGet K cc0 Str.empty = true) (hdC0 : PySem.W.hasDictIn K cc0 = true) (poC0 : PySem.W.plainOver K cc0 = true) (saC0 : PySem.W.findIn K (.ref cc0) "__setattr__" = some (some (.builtin "object.__setattr__"))) (mkC0 : PySem.W.makesIn K cc0 = true) (kcC0 : PySem.W.keepIn K (.ref cc0) = true)
    (nC0_left : PySem.W.findIn K (.ref cc0) "left" = some none)
    (nC0_right : PySem.W.findIn K (.ref cc0) "right" = some none)
    (nC0_above : PySem.W.findIn K (.ref cc0) "above" = some none)
    (nC0_turned : PySem.W.findIn K (.ref cc0) "turned" = some none)
    (nC0_looked : PySem.W.findIn K (.ref cc0) "looked" = some none)
    (am0 : PySem.W.findIn K (.ref cc0) "__init__" = some (some (.ref fm0))) (im0 : PySem.W.isFn K (.ref fm0) = true) (lm0 : K.lookup fm0 = some ⟨ocm0, odm0, .func (PySem.W.fnOf "__init__" "Links.__init__" (defArgs s_Linksinit) (defBody s_Linksinit) (defScope s_Linksinit) .none kVm0 dcm0 pmm0 anm0 cdm0 ctm0), slm0⟩) (cm0 : PySem.W.codeIn K cdm0 "Links.__init__" = true) (km0 : PySem.W.keepIn K (.ref fm0) = true)
    (am1 : PySem.W.findIn K (.ref cc0) "take_rows" = some (some (.ref fm1))) (im1 : PySem.W.isFn K (.ref fm1) = true) (lm1 : K.lookup fm1 = some ⟨ocm1, odm1, .func (PySem.W.fnOf "take_rows" "Links.take_rows" (defArgs s_Linkstakerows) (defBody s_Linkstakerows) (defScope s_Linkstakerows) .none kVm1 dcm1 pmm1 anm1 cdm1 ctm1), slm1⟩) (cm1 : PySem.W.codeIn K cdm1 "Links.take_rows" = true) (km1 : PySem.W.keepIn K (.ref fm1) = true)
    (am2 : PySem.W.findIn K (.ref cc0) "shape" = some (some (.ref fm2))) (im2 : PySem.W.isFn K (.ref fm2) = true) (lm2 : K.lookup fm2 = some ⟨ocm2, odm2, .func (PySem.W.fnOf "shape" "Links.shape" (defArgs s_Linksshape) (defBody s_Linksshape) (defScope s_Linksshape) .none kVm2 dcm2 pmm2 anm2 cdm2 ctm2), slm2⟩) (cm2 : PySem.W.codeIn K cdm2 "Links.shape" = true) (km2 : PySem.W.keepIn K (.ref fm2) = true)
    (am3 : PySem.W.findIn K (.ref cc0) "below" = some (some (.ref fm3))) (im3 : PySem.W.isFn K (.ref fm3) = true) (lm3 : K.lookup fm3 = some ⟨ocm3, odm3, .func (PySem.W.fnOf "below" "Links.below" (defArgs s_Linksbelow) (defBody s_Linksbelow) (defScope s_Linksbelow) .none kVm3 dcm3 pmm3 anm3 cdm3 ctm3), slm3⟩) (cm3 : PySem.W.codeIn K cdm3 "Links.below" = true) (km3 : PySem.W.keepIn K (.ref fm3) = true)
    (am4 : PySem.W.findIn K (.ref cc0) "is_top" = some (some (.ref fm4))) (im4 : PySem.W.isFn K (.ref fm4) = true) (lm4 : K.lookup fm4 = some ⟨ocm4, odm4, .func (PySem.W.fnOf "is_top" "Links.is_top" (defArgs s_Linksistop) (defBody s_Linksistop) (defScope s_Linksistop) .none kVm4 dcm4 pmm4 anm4 cdm4 ctm4), slm4⟩) (cm4 : PySem.W.codeIn K cdm4 "Links.is_top" = true) (km4 : PySem.W.keepIn K (.ref fm4) = true)
    (am5 : PySem.W.findIn K (.ref cc0) "tops" = some (some (.ref fm5))) (im5 : PySem.W.isFn K (.ref fm5) = true) (lm5 : K.lookup fm5 = some ⟨ocm5, odm5, .func (PySem.W.fnOf "tops" "Links.tops" (defArgs s_Linkstops) (defBody s_Linkstops) (defScope s_Linkstops) .none kVm5 dcm5 pmm5 anm5 cdm5 ctm5), slm5⟩) (cm5 : PySem.W.codeIn K cdm5 "Links.tops" = true) (km5 : PySem.W.keepIn K (.ref fm5) = true)
    (am6 : PySem.W.findIn K (.ref cc0) "push" = some (some (.ref fm6))) (im6 : PySem.W.isFn K (.ref fm6) = true) (lm6 : K.lookup fm6 = some ⟨ocm6, odm6, .func (PySem.W.fnOf "push" "Links.push" (defArgs s_Linkspush) (defBody s_Linkspush) (defScope s_Linkspush) .none kVm6 dcm6 pmm6 anm6 cdm6 ctm6), slm6⟩) (cm6 : PySem.W.codeIn K cdm6 "Links.push" = true) (km6 : PySem.W.keepIn K (.ref fm6) = true)
    (am7 : PySem.W.findIn K (.ref cc0) "in_order" = some (some (.ref fm7))) (im7 : PySem.W.isFn K (.ref fm7) = true) (lm7 : K.lookup fm7 = some ⟨ocm7, odm7, .func (PySem.W.fnOf "in_order" "Links.in_order" (defArgs s_Linksinorder) (defBody s_Linksinorder) (defScope s_Linksinorder) .none kVm7 dcm7 pmm7 anm7 cdm7 ctm7), slm7⟩) (cm7 : PySem.W.codeIn K cdm7 "Links.in_order" = true) (km7 : PySem.W.keepIn K (.ref fm7) = true)
    (a0 : PySem.W.nsIn K mainGlobals "tie_of" = some (some (.ref f0))) (l0 : K.lookup f0 = some ⟨oc0, od0, .func (PySem.W.fnOf "tie_of" "tie_of" (defArgs s_tieof) (defBody s_tieof) (defScope s_tieof) .none kV0 dc0 pm0 an0 cd0 ct0), sl0⟩) (c0 : PySem.W.codeIn K cd0 "tie_of" = true) (k0 : PySem.W.keepIn K (.ref f0) = true)
    (a1 : PySem.W.nsIn K mainGlobals "links_of" = some (some (.ref f1))) (l1 : K.lookup f1 = some ⟨oc1, od1, .func (PySem.W.fnOf "links_of" "links_of" (defArgs s_linksof) (defBody s_linksof) (defScope s_linksof) .none kV1 dc1 pm1 an1 cd1 ct1), sl1⟩) (c1 : PySem.W.codeIn K cd1 "links_of" = true) (k1 : PySem.W.keepIn K (.ref f1) = true)
    (a2 : PySem.W.nsIn K mainGlobals "ties_of_shape" = some (some (.ref f2))) (l2 : K.lookup f2 = some ⟨oc2, od2, .func (PySem.W.fnOf "ties_of_shape" "ties_of_shape" (defArgs s_tiesofshape) (defBody s_tiesofshape) (defScope s_tiesofshape) .none kV2 dc2 pm2 an2 cd2 ct2), sl2⟩) (c2 : PySem.W.codeIn K cd2 "ties_of_shape" = true) (k2 : PySem.W.keepIn K (.ref f2) = true)
    (a3 : PySem.W.nsIn K mainGlobals "untwisted" = some (some (.ref f3))) (l3 : K.lookup f3 = some ⟨oc3, od3, .func (PySem.W.fnOf "untwisted" "untwisted" (defArgs s_untwisted) (defBody s_untwisted) (defScope s_untwisted) .none kV3 dc3 pm3 an3 cd3 ct3), sl3⟩) (c3 : PySem.W.codeIn K cd3 "untwisted" = true) (k3 : PySem.W.keepIn K (.ref f3) = true)
    (a4 : PySem.W.nsIn K mainGlobals "_law_pot" = some (some (.ref f4))) (l4 : K.lookup f4 = some ⟨oc4, od4, .func (PySem.W.fnOf "_law_pot" "_law_pot" (defArgs s_Lpot) (defBody s_Lpot) (defScope s_Lpot) .none kV4 dc4 pm4 an4 cd4 ct4), sl4⟩) (c4 : PySem.W.codeIn K cd4 "_law_pot" = true) (k4 : PySem.W.keepIn K (.ref f4) = true)
    (a5 : PySem.W.nsIn K mainGlobals "_law_take" = some (some (.ref f5))) (l5 : K.lookup f5 = some ⟨oc5, od5, .func (PySem.W.fnOf "_law_take" "_law_take" (defArgs s_Ltake) (defBody s_Ltake) (defScope s_Ltake) .none kV5 dc5 pm5 an5 cd5 ct5), sl5⟩) (c5 : PySem.W.codeIn K cd5 "_law_take" = true) (k5 : PySem.W.keepIn K (.ref f5) = true)
    (a6 : PySem.W.nsIn K mainGlobals "_law_seed" = some (some (.ref f6))) (l6 : K.lookup f6 = some ⟨oc6, od6, .func (PySem.W.fnOf "_law_seed" "_law_seed" (defArgs s_Lseed) (defBody s_Lseed) (defScope s_Lseed) .none kV6 dc6 pm6 an6 cd6 ct6), sl6⟩) (c6 : PySem.W.codeIn K cd6 "_law_seed" = true) (k6 : PySem.W.keepIn K (.ref f6) = true)
    (a7 : PySem.W.nsIn K mainGlobals "_law_order" = some (some (.ref f7))) (l7 : K.lookup f7 = some ⟨oc7, od7, .func (PySem.W.fnOf "_law_order" "_law_order" (defArgs s_Lorder) (defBody s_Lorder) (defScope s_Lorder) .none kV7 dc7 pm7 an7 cd7 ct7), sl7⟩) (c7 : PySem.W.codeIn K cd7 "_law_order" = true) (k7 : PySem.W.keepIn K (.ref f7) = true)
    (a8 : PySem.W.nsIn K mainGlobals "_law_top" = some (some (.ref f8))) (l8 : K.lookup f8 = some ⟨oc8, od8, .func (PySem.W.fnOf "_law_top" "_law_top" (defArgs s_Ltop) (defBody s_Ltop) (defScope s_Ltop) .none kV8 dc8 pm8 an8 cd8 ct8), sl8⟩) (c8 : PySem.W.codeIn K cd8 "_law_top" = true) (k8 : PySem.W.keepIn K (.ref f8) = true)
    (a9 : PySem.W.nsIn K mainGlobals "_law_ties" = some (some (.ref f9))) (l9 : K.lookup f9 = some ⟨oc9, od9, .func (PySem.W.fnOf "_law_ties" "_law_ties" (defArgs s_Lties) (defBody s_Lties) (defScope s_Lties) .none kV9 dc9 pm9 an9 cd9 ct9), sl9⟩) (c9 : PySem.W.codeIn K cd9 "_law_ties" = true) (k9 : PySem.W.keepIn K (.ref f9) = true)
    (a10 : PySem.W.nsIn K mainGlobals "_law_tree" = some (some (.ref f10))) (l10 : K.lookup f10 = some ⟨oc10, od10, .func (PySem.W.fnOf "_law_tree" "_law_tree" (defArgs s_Ltree) (defBody s_Ltree) (defScope s_Ltree) .none kV10 dc10 pm10 an10 cd10 ct10), sl10⟩) (c10 : PySem.W.codeIn K cd10 "_law_tree" = true) (k10 : PySem.W.keepIn K (.ref f10) = true)
    (a11 : PySem.W.nsIn K mainGlobals "_law_forms" = some (some (.ref f11))) (l11 : K.lookup f11 = some ⟨oc11, od11, .func (PySem.W.fnOf "_law_forms" "_law_forms" (defArgs s_Lforms) (defBody s_Lforms) (defScope s_Lforms) .none kV11 dc11 pm11 an11 cd11 ct11), sl11⟩) (c11 : PySem.W.codeIn K cd11 "_law_forms" = true) (k11 : PySem.W.keepIn K (.ref f11) = true)
    (a12 : PySem.W.nsIn K mainGlobals "_law_twisted" = some (some (.ref f12))) (l12 : K.lookup f12 = some ⟨oc12, od12, .func (PySem.W.fnOf "_law_twisted" "_law_twisted" (defArgs s_Ltwisted) (defBody s_Ltwisted) (defScope s_Ltwisted) .none kV12 dc12 pm12 an12 cd12 ct12), sl12⟩) (c12 : PySem.W.codeIn K cd12 "_law_twisted" = true) (k12 : PySem.W.keepIn K (.ref f12) = true)
    (a13 : PySem.W.nsIn K mainGlobals "law" = some (some (.ref f13))) (l13 : K.lookup f13 = some ⟨oc13, od13, .func (PySem.W.fnOf "law" "law" (defArgs s_law) (defBody s_law) (defScope s_law) .none kV13 dc13 pm13 an13 cd13 ct13), sl13⟩) (c13 : PySem.W.codeIn K cd13 "law" = true) (k13 : PySem.W.keepIn K (.ref f13) = true)
    (z0 : PySem.W.nsIn K mainGlobals "abs" = some none)
    (z1 : PySem.W.nsIn K mainGlobals "all" = some none)
    (z2 : PySem.W.nsIn K mainGlobals "bool" = some none)
    (z3 : PySem.W.nsIn K mainGlobals "dict" = some none)
    (z4 : PySem.W.nsIn K mainGlobals "enumerate" = some none)
    (z5 : PySem.W.nsIn K mainGlobals "int" = some none)
    (z6 : PySem.W.nsIn K mainGlobals "isinstance" = some none)
    (z7 : PySem.W.nsIn K mainGlobals "len" = some none)
    (z8 : PySem.W.nsIn K mainGlobals "list" = some none)
    (z9 : PySem.W.nsIn K mainGlobals "max" = some none)
    (z10 : PySem.W.nsIn K mainGlobals "min" = some none)
    (z11 : PySem.W.nsIn K mainGlobals "range" = some none)
    (z12 : PySem.W.nsIn K mainGlobals "sorted" = some none)
    (z13 : PySem.W.nsIn K mainGlobals "tuple" = some none)
    (z14 : PySem.W.nsIn K mainGlobals "zip" = some none)
    : ∃ fd : FuncData, (∀ (s : Shared) (v : Value), BindsTo s fd ⟨[v], []⟩ [("_law_script", v)]) ∧ ∀ base : Heap, K.In base → base.Ns mainGlobals mg → FnOk l.prog w K mg base CX0 32 fa fd ["_law_script"] (spLaw K) := by
  have e := hfa.symm.trans (PySem.W.mg_of X G a13)
  cases e
  have F0 := fun_mk (st := s_tieof) l0 c0 k0
  have b0 := F0.binds (ps := ["a", "b"]) fun _ _ _ _ _ _ us hl => match us, hl with | [_, _], _ => rfl
  have F1 := fun_mk (st := s_linksof) l1 c1 k1
  have b1 := F1.binds (ps := ["shape"]) fun _ _ _ _ _ _ us hl => match us, hl with | [_], _ => rfl
  have F2 := fun_mk (st := s_tiesofshape) l2 c2 k2
  have b2 := F2.binds (ps := ["shape"]) fun _ _ _ _ _ _ us hl => match us, hl with | [_], _ => rfl
  have F3 := fun_mk (st := s_untwisted) l3 c3 k3
  have b3 := F3.binds (ps := ["shape"]) fun _ _ _ _ _ _ us hl => match us, hl with | [_], _ => rfl
  have F4 := fun_mk (st := s_Lpot) l4 c4 k4
  have b4 := F4.binds (ps := ["_law_cell", "_law_seed_here"]) fun _ _ _ _ _ _ us hl => match us, hl with | [_, _], _ => rfl
  have F5 := fun_mk (st := s_Ltake) l5 c5 k5
  have b5 := F5.binds (ps := ["_law_pot_here", "_law_many"]) fun _ _ _ _ _ _ us hl => match us, hl with | [_, _], _ => rfl
  have F6 := fun_mk (st := s_Lseed) l6 c6 k6
  have b6 := F6.binds (ps := ["_law_script"]) fun _ _ _ _ _ _ us hl => match us, hl with | [_], _ => rfl
  have F7 := fun_mk (st := s_Lorder) l7 c7 k7
  have b7 := F7.binds (ps := ["_law_forms_here", "_law_top_here"]) fun _ _ _ _ _ _ us hl => match us, hl with | [_, _], _ => rfl
  have F8 := fun_mk (st := s_Ltop) l8 c8 k8
  have b8 := F8.binds (ps := ["_law_forms_here", "_law_x"]) fun _ _ _ _ _ _ us hl => match us, hl with | [_, _], _ => rfl
  have F9 := fun_mk (st := s_Lties) l9 c9 k9
  have b9 := F9.binds (ps := ["_law_forms_here"]) fun _ _ _ _ _ _ us hl => match us, hl with | [_], _ => rfl
  have F10 := fun_mk (st := s_Ltree) l10 c10 k10
  have b10 := F10.binds (ps := ["_law_pot_here", "_law_forms_here", "_law_names"]) fun _ _ _ _ _ _ us hl => match us, hl with | [_, _, _], _ => rfl
  have F11 := fun_mk (st := s_Lforms) l11 c11 k11
  have b11 := F11.binds (ps := ["_law_pot_here", "_law_most"]) fun _ _ _ _ _ _ us hl => match us, hl with | [_, _], _ => rfl
  have F12 := fun_mk (st := s_Ltwisted) l12 c12 k12
  have b12 := F12.binds (ps := ["_law_pot_here", "_law_forms_here"]) fun _ _ _ _ _ _ us hl => match us, hl with | [_, _], _ => rfl
  have F13 := fun_mk (st := s_law) l13 c13 k13
  have b13 := F13.binds (ps := ["_law_script"]) fun _ _ _ _ _ _ us hl => match us, hl with | [_], _ => rfl
  have Fm0 := fun_mk (st := s_Linksinit) lm0 cm0 km0
  have bm0 := Fm0.binds (ps := ["self"]) fun _ _ _ _ _ _ us hl => match us, hl with | [_], _ => rfl
  have Fm1 := fun_mk (st := s_Linkstakerows) lm1 cm1 km1
  have bm1 := Fm1.binds (ps := ["self", "shape"]) fun _ _ _ _ _ _ us hl => match us, hl with | [_, _], _ => rfl
  have Fm2 := fun_mk (st := s_Linksshape) lm2 cm2 km2
  have bm2 := Fm2.binds (ps := ["self"]) fun _ _ _ _ _ _ us hl => match us, hl with | [_], _ => rfl
  have Fm3 := fun_mk (st := s_Linksbelow) lm3 cm3 km3
  have bm3 := Fm3.binds (ps := ["self", "x"]) fun _ _ _ _ _ _ us hl => match us, hl with | [_, _], _ => rfl
  have Fm4 := fun_mk (st := s_Linksistop) lm4 cm4 km4
  have bm4 := Fm4.binds (ps := ["self", "x"]) fun _ _ _ _ _ _ us hl => match us, hl with | [_, _], _ => rfl
  have Fm5 := fun_mk (st := s_Linkstops) lm5 cm5 km5
  have bm5 := Fm5.binds (ps := ["self"]) fun _ _ _ _ _ _ us hl => match us, hl with | [_], _ => rfl
  have Fm6 := fun_mk (st := s_Linkspush) lm6 cm6 km6
  have bm6 := Fm6.binds (ps := ["self", "x"]) fun _ _ _ _ _ _ us hl => match us, hl with | [_, _], _ => rfl
  have Fm7 := fun_mk (st := s_Linksinorder) lm7 cm7 km7
  have bm7 := Fm7.binds (ps := ["self", "top"]) fun _ _ _ _ _ _ us hl => match us, hl with | [_, _], _ => rfl
  let T : Top K mg := ⟨_, _, F0, b0, PySem.W.mg_of X G a0, _, _, F1, b1, PySem.W.mg_of X G a1, _, _, F2, b2, PySem.W.mg_of X G a2, _, _, F3, b3, PySem.W.mg_of X G a3, _, _, F4, b4, PySem.W.mg_of X G a4, _, _, F5, b5, PySem.W.mg_of X G a5, _, _, F6, b6, PySem.W.mg_of X G a6, _, _, F7, b7, PySem.W.mg_of X G a7, _, _, F8, b8, PySem.W.mg_of X G a8, _, _, F9, b9, PySem.W.mg_of X G a9, _, _, F10, b10, PySem.W.mg_of X G a10, _, _, F11, b11, PySem.W.mg_of X G a11, _, _, F12, b12, PySem.W.mg_of X G a12, _, _, F13, b13, PySem.W.mg_of X G a13, cc0, ⟨pgC0, hdC0, poC0, saC0⟩, PySem.W.mg_of X G aC0, nC0_left, nC0_right, nC0_above, nC0_turned, nC0_looked, _, _, Fm0, bm0, ⟨mkC0, am0, im0, kcC0⟩, _, _, Fm1, bm1, ⟨am1, im1, km1⟩, _, _, Fm2, bm2, ⟨am2, im2, km2⟩, _, _, Fm3, bm3, ⟨am3, im3, km3⟩, _, _, Fm4, bm4, ⟨am4, im4, km4⟩, _, _, Fm5, bm5, ⟨am5, im5, km5⟩, _, _, Fm6, bm6, ⟨am6, im6, km6⟩, _, _, Fm7, bm7, ⟨am7, im7, km7⟩, PySem.W.mg_none_of X G z0, PySem.W.mg_none_of X G z1, PySem.W.mg_none_of X G z2, PySem.W.mg_none_of X G z3, PySem.W.mg_none_of X G z4, PySem.W.mg_none_of X G z5, PySem.W.mg_none_of X G z6, PySem.W.mg_none_of X G z7, PySem.W.mg_none_of X G z8, PySem.W.mg_none_of X G z9, PySem.W.mg_none_of X G z10, PySem.W.mg_none_of X G z11, PySem.W.mg_none_of X G z12, PySem.W.mg_none_of X G z13, PySem.W.mg_none_of X G z14⟩
  exact ⟨_, fun s v => .of_eq rfl, fun base _ _ => ok_law (P := l.prog) (w := w) (base := base) T⟩
end My
open PySem PySem.W PyProof.Rows
set_option maxRecDepth 100000 in
set_option maxHeartbeats 0 in
theorem PySem.Challenge.cw_tiedcut_k38_ties_of_drawn_shapes_holds : PySem.Challenge.rw_tiedcut_k38_ties_of_drawn_shapes.Holds := by
  w_on; o_law; k_head; (case hw => w_witness2)
  k_fill
  refine L2.walk_ofB (l := PySem.Challenge.rw_tiedcut_k38_ties_of_drawn_shapes) (n := 63) (k := 32) (x := "_law_script") (CX := fun _ => L2.CX0) (sp := fun w => My.spLaw _) rfl (by decide) rfl ⟨rfl, by decide, by decide⟩ (fun w h Y => by first | exact PySem.W.kIn_of Y | exact PySem.W.km_in_of Y) ?F (fun _ _ a ns hl hb _ hS => ⟨a, ns, rfl, hS, hl, hb, fun _ => rfl⟩) (fun _ _ _ _ _ h => h)
  case F =>
    intro w mg fa h KX G hmg
    refine' My.all_mk KX G hmg ?aC0 ?pgC0 ?hdC0 ?poC0 ?saC0 ?mkC0 ?kcC0 ?nC0_left ?nC0_right ?nC0_above ?nC0_turned ?nC0_looked ?am0 ?im0 ?lm0 ?cm0 ?km0 ?am1 ?im1 ?lm1 ?cm1 ?km1 ?am2 ?im2 ?lm2 ?cm2 ?km2 ?am3 ?im3 ?lm3 ?cm3 ?km3 ?am4 ?im4 ?lm4 ?cm4 ?km4 ?am5 ?im5 ?lm5 ?cm5 ?km5 ?am6 ?im6 ?lm6 ?cm6 ?km6 ?am7 ?im7 ?lm7 ?cm7 ?km7 ?a0 ?l0 ?c0 ?k0 ?a1 ?l1 ?c1 ?k1 ?a2 ?l2 ?c2 ?k2 ?a3 ?l3 ?c3 ?k3 ?a4 ?l4 ?c4 ?k4 ?a5 ?l5 ?c5 ?k5 ?a6 ?l6 ?c6 ?k6 ?a7 ?l7 ?c7 ?k7 ?a8 ?l8 ?c8 ?k8 ?a9 ?l9 ?c9 ?k9 ?a10 ?l10 ?c10 ?k10 ?a11 ?l11 ?c11 ?k11 ?a12 ?l12 ?c12 ?k12 ?a13 ?l13 ?c13 ?k13 ?z0 ?z1 ?z2 ?z3 ?z4 ?z5 ?z6 ?z7 ?z8 ?z9 ?z10 ?z11 ?z12 ?z13 ?z14
    (case aC0 => k_is)
    (case pgC0 => k_is)
    (case hdC0 => k_is)
    (case poC0 => k_is)
    (case saC0 => k_is)
    (case mkC0 => k_is)
    (case kcC0 => k_is)
    (case nC0_left => k_is)
    (case nC0_right => k_is)
    (case nC0_above => k_is)
    (case nC0_turned => k_is)
    (case nC0_looked => k_is)
    (case am0 => k_is)
    (case im0 => k_is)
    (case lm0 => k_is)
    (case cm0 => k_is)
    (case km0 => k_is)
    (case am1 => k_is)
    (case im1 => k_is)
    (case lm1 => k_is)
    (case cm1 => k_is)
    (case km1 => k_is)
    (case am2 => k_is)
    (case im2 => k_is)
    (case lm2 => k_is)
    (case cm2 => k_is)
    (case km2 => k_is)
    (case am3 => k_is)
    (case im3 => k_is)
    (case lm3 => k_is)
    (case cm3 => k_is)
    (case km3 => k_is)
    (case am4 => k_is)
    (case im4 => k_is)
    (case lm4 => k_is)
    (case cm4 => k_is)
    (case km4 => k_is)
    (case am5 => k_is)
    (case im5 => k_is)
    (case lm5 => k_is)
    (case cm5 => k_is)
    (case km5 => k_is)
    (case am6 => k_is)
    (case im6 => k_is)
    (case lm6 => k_is)
    (case cm6 => k_is)
    (case km6 => k_is)
    (case am7 => k_is)
    (case im7 => k_is)
    (case lm7 => k_is)
    (case cm7 => k_is)
    (case km7 => k_is)
    (case a0 => k_is)
    (case l0 => k_is)
    (case c0 => k_is)
    (case k0 => k_is)
    (case a1 => k_is)
    (case l1 => k_is)
    (case c1 => k_is)
    (case k1 => k_is)
    (case a2 => k_is)
    (case l2 => k_is)
    (case c2 => k_is)
    (case k2 => k_is)
    (case a3 => k_is)
    (case l3 => k_is)
    (case c3 => k_is)
    (case k3 => k_is)
    (case a4 => k_is)
    (case l4 => k_is)
    (case c4 => k_is)
    (case k4 => k_is)
    (case a5 => k_is)
    (case l5 => k_is)
    (case c5 => k_is)
    (case k5 => k_is)
    (case a6 => k_is)
    (case l6 => k_is)
    (case c6 => k_is)
    (case k6 => k_is)
    (case a7 => k_is)
    (case l7 => k_is)
    (case c7 => k_is)
    (case k7 => k_is)
    (case a8 => k_is)
    (case l8 => k_is)
    (case c8 => k_is)
    (case k8 => k_is)
    (case a9 => k_is)
    (case l9 => k_is)
    (case c9 => k_is)
    (case k9 => k_is)
    (case a10 => k_is)
    (case l10 => k_is)
    (case c10 => k_is)
    (case k10 => k_is)
    (case a11 => k_is)
    (case l11 => k_is)
    (case c11 => k_is)
    (case k11 => k_is)
    (case a12 => k_is)
    (case l12 => k_is)
    (case c12 => k_is)
    (case k12 => k_is)
    (case a13 => k_is)
    (case l13 => k_is)
    (case c13 => k_is)
    (case k13 => k_is)
    (case z0 => k_is)
    (case z1 => k_is)
    (case z2 => k_is)
    (case z3 => k_is)
    (case z4 => k_is)
    (case z5 => k_is)
    (case z6 => k_is)
    (case z7 => k_is)
    (case z8 => k_is)
    (case z9 => k_is)
    (case z10 => k_is)
    (case z11 => k_is)
    (case z12 => k_is)
    (case z13 => k_is)
    (case z14 => k_is)
