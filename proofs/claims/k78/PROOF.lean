import PyProof.Rows.All
import Wide.All
import OpenK.AllK
import Wide.FinOn
import HandS.ForMost
import HandS.More
import HandS.Sort
import HandS.Wide
import HandS.WideBits
import HandS.IsInst
import HandS.EndBits
import HandS.Exc
import HandS.ExcOwn
import HandS.ExcValue
import HandS.ExcInit
import HandS.ExcField
import HandS.WordsExc
import KE.KExcIs
import HandS.HotCalls
import HandS.TupLe
import HandS.TupAny
import HandS.Zip
import HandS.Walk
import HandS.Star
import HandS.Style
import HandS.CallLocal
import HandS.Deep
import HandS.AnyAll
import HandS.GenOver
import HandS.EndTab
import HandS.Lambda
import PyProof.TupleOfGen
import PyProof.GenCompD
import PyProof.EqLayable
import HandS.SortInts
import HandS.RaiseMore
import HandS.SetFor
import HandS.Strs
import HandS.SortRule
import HandS.TryOnly
import HandS.Set
import HandS.Flow
import HandS.TupLen
import KE.KDictPairs
import KE.DataFind
import KE.GoesMore
import HandS.RevTup
import HandS.Rev
import HandS.Text
import HandS.StrMore
import HandS.Replace
import PyProof.StrLawsAffix
import PyProof.JoinWalk
import HandS.Conv
import HandS.Iter
import KE.KUnpackStar
import HandS.DictComp
import HandS.TupSets
import HandS.TupMul
import HandS.SortKw
import KE.DatumOrd
import KE.DataMinKey
import HandS.DictTup
import KE.KDictCopyH
import KE.KDictWalk
import PyProof.ReprRoads
import PyProof.ReprLen
import KE.SortData
import PyProof.DictMoreH
import PySem.Challenge.RW_tiedcut_k78_whole_light_and_holding
set_option Elab.async false
set_option linter.all false
set_option maxRecDepth 100000
set_option maxHeartbeats 4000000
namespace My
open PySem PySem.Spec PyProof.Rows L2
/-! ### a generator expression, consumed by all: its own frame -/
def gcx (X : Cx) (s : Shared) (H : Hp) (ge : Env) (fp : List Addr) (Ag : Around) : Cx :=
  { X with A := Ag, s_0 := s, H_0 := H, env := ge, outer := X.stack, stack := ge :: X.stack, ex := fp, fn := fun _ => false, pn := [], xe := fun _ _ => False }
section
variable {X : Cx} {pins : List (Addr × Obj)} {σ : L2.St} {H : Hp} {s : Shared}
theorem clo_in {scope : Scope} {own : List (Str × Nat)} (I : Inv X pins σ H s) (ok : BlkOk X.N X.env.scope scope own) {y : Str} {c : Addr} (hm : (y, c) ∈ cloFrom X.env.cells scope.names []) : X.env.cells.lookup y = some c ∧ c < s.heap.objs.size ∧ (y, NameKind.free) ∈ scope.names := by
  rcases cloFrom_mem hm with z | ⟨h1, rfl⟩
  · cases z
  · have hc : ∃ c, X.env.cells.lookup y = some c := by
      rcases ok.free _ h1 rfl with k | k
      · exact I.ok.has _ (.inl k)
      · exact I.ok.has _ (.inr k)
    obtain ⟨c, hc⟩ := hc
    obtain ⟨v, z⟩ := I.cell _ _ hc
    rw [hc]
    exact ⟨rfl, z.lt, h1⟩
theorem gen_start {scope : Scope} {own : List (Str × Nat)} {fp : List Addr} {ge : Env} {code : Value} {Ag : Around} {s5 : Shared} {m : Str → Option Value} {ga : Addr} {go : Obj} (I : Inv X pins σ H s) (ok : BlkOk X.N X.env.scope scope own) (hN : X.N.Nodup)
    (hfp : ∀ b ∈ fp, FpOk X pins H b ∧ b < s.heap.objs.size) (hge : ge = genEnv scope (cloFrom X.env.cells scope.names []) s.heap.objs.size code builtinsNs X.env) (nocell : ∀ y ∈ scope.names, y.2 ≠ .cell)
    (hA : Ag.handled = none) (hfr : Ag.frames = some (ge :: X.stack)) (k5 : ∀ b o, s.heap.get? b = some o → s5.heap.get? b = some o) (os5 : s5.os = s.os) (bare5 : AllBare s5.gens)
    (ns5 : s5.heap.Ns s.heap.objs.size m) (hga : s5.heap.get? ga = some go) (hgt : s.heap.objs.size < ga) (hgd : ∀ v, go.data ≠ .cell v) :
    Inv (gcx X s H ge fp Ag) [(ga, go)] (wipe σ (own.map (·.2))) H s5 := by
  have hL : ge.locals = s.heap.objs.size := by
    rw [hge]
    rfl
  have hC : ge.cells = cloFrom X.env.cells scope.names [] := by
    rw [hge]
    rfl
  have hS : ge.scope = scope := by
    rw [hge]
    rfl
  have inC : ∀ {y c}, ge.cells.lookup y = some c → X.env.cells.lookup y = some c ∧ c < s.heap.objs.size := fun {y c} e => by
    rw [hC] at e
    have z := clo_in I ok (PySem.mem_of_lookup e)
    exact ⟨z.1, z.2.1⟩
  have look : ∀ {y}, scope.names.lookup y = some .free → ∃ c, ge.cells.lookup y = some c ∧ X.env.cells.lookup y = some c := fun {y} hl => by
    have hm := cloFrom_has (cells := X.env.cells) (acc := []) (PySem.mem_of_lookup hl)
    obtain ⟨c, e⟩ := mem_lookup hm
    rw [← hC] at e
    exact ⟨c, e, (inC e).1⟩
  have kindF : ∀ {y k}, scope.names.lookup y = some k → (k = .cell ∨ k = .free) → scope.names.lookup y = some .free := fun {y k} e hk => by
    rcases hk with rfl | rfl
    · exact absurd rfl (nocell _ (PySem.mem_of_lookup e))
    · exact e
  have okG : (gcx X s H ge fp Ag).Ok := by
    refine ⟨I.ok.mod, ?_, ?_, ?_, ?_, ?_, ?_, ?_, fun _ => hA, hfr, .inr ⟨rfl, ?_⟩, ?_, I.bs, Nat.le_trans I.ok.bsz I.sz, ?_, ?_, I.stack, I.stkFree⟩
    · show ge.scope.kind = .function
      rw [hS]
      exact ok.kind
    · show ge.globals = mainGlobals
      rw [hge]
      exact I.ok.glob
    · show ge.builtins = builtinsNs
      rw [hge]
      rfl
    · show s.heap.objs.size ≤ ge.locals
      rw [hL]
      exact Nat.le_refl _
    · intro y z c e1 e2
      exact I.ok.inj y z c (inC e1).1 (inC e2).1
    · intro y hy
      have e : scope.names.lookup y = some .free := by
        rcases hy with hy | hy
        · have hy2 : ge.scope.names.lookup y = some .cell := hy
          rw [hS] at hy2
          exact kindF hy2 (.inl rfl)
        · have hy2 : ge.scope.names.lookup y = some .free := hy
          rw [hS] at hy2
          exact hy2
      obtain ⟨c, e1, _⟩ := look e
      exact ⟨c, e1⟩
    · intro y c z
      cases z
    · show ge.frame = some ge.locals
      rw [hge]
      rfl
    · intro b hb
      refine ⟨?_, fun y c e z => ?_⟩
      · show b ≠ ge.locals
        rw [hL]
        exact Nat.ne_of_lt (hfp b hb).2
      · exact (hfp b hb).1.2.2.2.2.1 y c (inC e).1 z
    · intro b o e hb
      rcases (hfp b hb).1.2.2.2.1 with z | z
      · exact I.ok.noex b o e z
      · exact absurd (Nat.lt_of_lt_of_le (Heap.lt_size e) (Nat.le_trans I.ok.bsz z)) (Nat.lt_irrefl _)
    · intro b hb z
      rcases List.mem_cons.mp (I.stkSub b z) with z | z
      · exact (hfp b hb).1.2.1 z
      · exact (hfp b hb).1.2.2.1 z
  have frL : H s.heap.objs.size = none := I.hok.fresh (Nat.le_refl _)
  refine ⟨okG, os5, bare5, Un.kept k5, ⟨m, ?_, fun i y av e1 e2 e3 => ?_⟩, fun y c e => ?_, ?_, fun y c e => I.freeC y c (inC e).1, fun p hp => ?_, I.hok.kept k5, by rw [wipe_length]; exact I.len⟩
  · show s5.heap.Ns ge.locals m
    rw [hL]
    exact ns5
  · obtain ⟨e2, hne⟩ := wipe_some e2
    have e3 : Vis ge.scope y := e3
    rw [hS] at e3
    have nol : scope.names.lookup y ≠ some .local := fun z => by
      rcases ok.own _ (PySem.mem_of_lookup z) (.inl rfl) with q | q
      · obtain ⟨p, hp, hpy⟩ := List.mem_map.mp q
        have e5 := ok.ix p hp
        have e6 : p.1 = y := hpy
        rw [e6] at e5
        exact hne (List.mem_map.mpr ⟨p, hp, nodup_ix hN e5 e1⟩)
      · exact q (List.mem_of_getElem? e1)
    have hf : scope.names.lookup y = some .free := by
      rcases e3 with z | z | z
      · exact absurd z nol
      · exact kindF z (.inl rfl)
      · exact z
    obtain ⟨m0, hn, hl⟩ := I.loc
    have hvis : Vis X.env.scope y := (ok.free _ (PySem.mem_of_lookup hf) rfl).elim (fun k => .inr (.inl k)) (fun k => .inr (.inr k))
    obtain ⟨u, r, q⟩ := hl i y av e1 e2 hvis
    obtain ⟨c, g1, g2⟩ := look hf
    refine ⟨u, r, .inr ⟨.inr ?_, c, g1, ?_⟩⟩
    · show ge.scope.names.lookup y = some .free
      rw [hS]
      exact hf
    · rcases q with ⟨k, _⟩ | ⟨_, c', e', z⟩
      · have k : X.env.scope.names.lookup y = some .local := k
        rcases ok.free _ (PySem.mem_of_lookup hf) rfl with k' | k'
        · have k2 : X.env.scope.names.lookup y = some .cell := k'
          rw [k2] at k
          cases k
        · have k2 : X.env.scope.names.lookup y = some .free := k'
          rw [k2] at k
          cases k
      · rw [g2] at e'
        cases e'
        exact z.keeps k5
  · obtain ⟨v, z⟩ := I.cell y c (inC e).1
    exact ⟨v, z.keeps k5⟩
  · show H ge.locals = none
    rw [hL]
    exact frL
  · have hp2 : p ∈ ([] : List (Addr × Obj)) ++ [(ga, go)] := hp
    rw [List.nil_append] at hp2
    rcases List.mem_cons.mp hp2 with e | e
    · subst e
      refine ⟨hga, I.hok.fresh (Nat.le_of_lt hgt), ?_, fun z => ?_, hgd⟩
      · show ga ≠ ge.locals
        rw [hL]
        exact Nat.ne_of_gt hgt
      · have z2 : ga ∈ frs X.stack := z
        obtain ⟨_, o, ho, _⟩ := I.stack.mem z2
        exact absurd (Nat.lt_trans (Heap.lt_size ho) hgt) (Nat.lt_irrefl _)
    · cases e
end
section
variable {X : Cx} {pins : List (Addr × Obj)} {σ : L2.St} {H : Hp} {s : Shared}
/-- the generator's object -/
def genO (X : Cx) (s4 : Shared) : Obj := { cls := .type "generator", data := .fields #[.int s4.gens.size 0, .str "<genexpr>" (s4.toks + 1), .str (X.env.qual ++ "<genexpr>") (s4.toks + 1 + 1)] }
/-- the generator is made: its source has come, the def's table may have grown -/
theorem gen_make {c P : Addr} {elt tg iter : Expr} {gpos : Pos} {scope : Scope} {own : List (Str × Nat)} {wi : TI} {k : Nat} {Q' : Value → Shared → Prop} {R : It → Hp → Prop} (hr : Room k X.A) (TB : GxR.TabB X.base X.mg c P) (hcode : X.env.code = .ref c)
    (ok : BlkOk X.N X.env.scope scope own) (hco : scope.isCoroutine = false) (nocell : ∀ y ∈ scope.names, y.2 ≠ .cell) (hdot : scope.names.lookup (".0" : Str) = some NameKind.local) (hi : PI X tg iter wi) (hs : ∀ v, genFold iter X.env v = pure v)
    (I : Inv X pins σ H s) (h : wi σ H fun J H1 => GxR.TabG H1 P ∧ R J H1)
    (hQ : ∀ (it : Addr) (fp : List Addr) (tn : Nat → Heap → Prop) (J : It) (H1 H2 : Hp) (code : Value) (s4 : Shared) (h5 : Heap), Inv X pins σ H2 s4 → GxR.Tabbed P H1 H2 → Turn X.prog X.w X.K tg J fp it tn → tn 0 s4.heap →
      (∀ b ∈ fp, FpOk X pins H2 b ∧ b < s4.heap.objs.size) → R J H1 → h5.Ns s4.heap.objs.size (fun y => if y = ".0" then some (.ref it) else none) → Heap.SameBut s4.heap.objs.size (s4.heap.push { cls := .type "frame", data := .dict #[] }) h5 →
      Q' (.ref h5.objs.size) { s4 with gens := s4.gens.push (.fresh (.compStart (.GeneratorExp elt [⟨tg, iter, [], 0⟩] scope gpos) 0 (.ref it) .none (genEnv scope (cloFrom X.env.cells scope.names []) s4.heap.objs.size code builtinsNs X.env))), toks := s4.toks + 1 + 1 + 1, heap := h5.push (genO X s4) }) :
    wpAny (model X.prog X.w) X.A (eval (.GeneratorExp elt [⟨tg, iter, [], 0⟩] scope gpos) X.env) Q' X.xe s := by
  have hfree : ∀ y ∈ scope.names, y.2 = .free → ∃ c, X.env.cells.lookup y.1 = some c := fun y hy e => by
    rcases ok.free y hy e with z | z
    · exact I.ok.has _ (.inl z)
    · exact I.ok.has _ (.inr z)
  refine wpAny_GeneratorExp_make hco (closure_ok hfree) nocell hdot ok.kind (by have := hr.dp; omega) ?_ hs
  refine thn (hi.run pins s σ H _ I h) fun xv s1 hx => thn hx fun itv s2 h2 => ?_
  obtain ⟨it, fp, tn, J, H1, rfl, I1, T, st, f1, ⟨ps, hP, ht⟩, q1⟩ := h2
  have hPs : s2.heap.get? P = some { cls := .none, data := .fields ps } := I1.hok P _ hP
  have cd : PySem.W.CodeHd s2.heap c P := TB.code.keeps fun b u e => I1.bk b u e
  have nP : ∀ b, H1 b = none → b ≠ P := fun b e z => by
    rw [z, hP] at e
    cases e
  have fsz : ∀ b ∈ fp, b < s2.heap.objs.size := fun b hb => by
    obtain ⟨o, e, _⟩ := T.obj _ _ st b hb
    exact Heap.lt_size e
  have cont : ∀ (code : Value) (h3 : Heap) (tk : Nat) (ps' : Array Value), Heap.ExtBut P s2.heap h3 → s2.heap.objs.size ≤ h3.objs.size → h3.get? P = some { cls := .none, data := .fields ps' } → (∃ more, ps' = ps ++ more) → TriplesOk ps'.toList →
      wpAny (model X.prog X.w) X.A (builtinsFor X.env.globals X.env.builtins) (fun bi s4 => ∀ h5, h5.Ns s4.heap.objs.size (fun y => if y = ".0" then some (.ref it) else none) → Heap.SameBut s4.heap.objs.size (s4.heap.push { cls := .type "frame", data := .dict #[] }) h5 →
        Q' (.ref h5.objs.size) { s4 with gens := s4.gens.push (.fresh (.compStart (.GeneratorExp elt [⟨tg, iter, [], 0⟩] scope gpos) 0 (.ref it) .none (genEnv scope (cloFrom X.env.cells scope.names []) s4.heap.objs.size code bi X.env))), toks := s4.toks + 1 + 1 + 1, heap := h5.push (genO X s4) }) X.xe { s2 with heap := h3, toks := tk } := by
    intro code h3 tk ps' hx hsz hP3 hmore ht3
    obtain ⟨bm, ob, e1, e2, e3, e4, e5, e6, e7, e8⟩ := TB.bm
    have keep3 : ∀ b u, b ≠ P → s2.heap.get? b = some u → h3.get? b = some u := fun b u hb e => hx b u hb e
    refine wpAny_builtinsFor (m := X.mg) (by rw [I1.ok.glob]; exact (I1.mod.glob.keeps I1.bk).extBut hx TB.gP) e1 e2 (keep3 _ _ e4 (I1.bk _ _ e5)) e6 e7 e8 ?_
    intro h5 n5 b5
    obtain ⟨more, em⟩ := hmore
    have J0 := GxR.inv_tab (more := more) (h' := h3) (g' := s2.gens) (d' := s2.drawn) (t' := tk) I1 hP keep3 (by rw [← em]; exact hP3) I1.bare
    refine hQ it fp tn J H1 (upd H1 P (.tbl (ps ++ more))) code { s2 with heap := h3, toks := tk } h5 J0 ⟨⟨ps ++ more, upd_same, by rw [← em]; exact ht3⟩, fun b hb => upd_ne hb⟩ T ?_ ?_ q1 n5 b5
    · refine T.keep _ _ _ st fun b hb o e => keep3 b o (nP b (f1 b hb).1) e
    · intro b hb
      refine ⟨⟨?_, (f1 b hb).2⟩, Nat.lt_of_lt_of_le (fsz b hb) hsz⟩
      rw [upd_ne (nP b (f1 b hb).1)]
      exact (f1 b hb).1
  refine ⟨I1.nolimit, ?_⟩
  cases hf : codeAmong gpos ps.toList with
  | none =>
    refine wpAny_genexprCodeX hcode (cd.code hPs ht) (cd.tab hPs) hf fun c' h' tk hx hge hlt hco' _ htab' _ => ?_
    obtain ⟨o1, vs, f1', tf, fl, tg', inF, tx, tt, op, _, _, _, _, _, _, _, _, _, htr, _⟩ := hco'
    exact cont _ h' tk _ hx (Nat.le_trans hge (Nat.le_of_lt hlt)) htab'.2 ⟨_, rfl⟩ htr
  | some cv =>
    refine wpAny_genexprCode_hit hcode (cd.code hPs ht) hf ?_
    exact cont cv s2.heap s2.toks ps (Heap.ExtBut.refl _ _) (Nat.le_refl _) hPs ⟨#[], by simp⟩ ht
end
/-- nothing but the table of generators has changed -/
structure Woke (s s2 : Shared) : Prop where
  hp : s2.heap = s.heap
  os : s2.os = s.os
  br : AllBare s2.gens
theorem inv_woke {X : Cx} {pins : List (Addr × Obj)} {σ : L2.St} {H : Hp} {s s2 : Shared} (I : Inv X pins σ H s) (k : Woke s s2) : Inv X pins σ H s2 := by
  obtain ⟨h2, g2, d2, t2, o2⟩ := s2
  obtain ⟨h1, g1, d1, t1, o1⟩ := s
  obtain ⟨e1, e2, br⟩ := k
  dsimp only at e1 e2
  subst e1 e2
  exact ⟨I.ok, I.os, br, I.base, I.loc, I.cell, I.free, I.freeC, I.pin, I.hok, I.len⟩
/-- what a generator expression under all is asked -/
def gTurns (J : It) (g : TG) (te : TE) (σw : L2.St) (vs : List Nat) (W : Nat → Nat → Hp → Prop) (Q : Bool → Hp → Prop) : Prop :=
  ∀ i m H, W i m H → (J.stop i H ∧ Q true H) ∨ (J.go i H ∧ ∀ x H', J.yld i H x H' → g x σw H' fun σ2 H2 => wipe σ2 vs = σw ∧ te σ2 H2 fun y H3 => ∃ b, y = .bl b ∧ if b = true then ∃ m', m' < m ∧ W (i + 1) m' H3 else Q false H3)
def gFin (G : Cx) (pn : Addr × Obj) (σw : L2.St) (Q : Bool → Hp → Prop) (b : Bool) (s : Shared) : Prop := ∃ H', Inv G [pn] σw H' s ∧ Q b H'
def gY (G : Cx) (pn : Addr × Obj) (σw : L2.St) (Q : Bool → Hp → Prop) : Protocol := fun _ _ v s kap =>
  ∃ b : Bool, v = .bool b ∧ (∃ H', Inv G [pn] σw H' s) ∧ (b = true → ∀ s2, Woke s s2 → kap (.send .none) s2) ∧ (b = false → gFin G pn σw Q false s)
section
variable {G : Cx} {pn : Addr × Obj} {σw : L2.St} {Q : Bool → Hp → Prop} {A2 : Around} {elt tg iter : Expr} {scope : Scope} {gpos : Pos} {it : Addr} {fp : List Addr} {tn : Nat → Heap → Prop} {J : It} {g : TG} {te : TE} {vs : List Nat} {W : Nat → Nat → Hp → Prop}
theorem gen_loop (hA : G.A = A2.over (.compLoop (.GeneratorExp elt [⟨tg, iter, [], 0⟩] scope gpos) 0 (.ref it) .none G.env) []) (hc : G.calm = true) (hex : G.ex = fp) (hpn : G.pn = []) (hxe : G.xe = fun _ _ => False) (hco : G.env.scope.isCoroutine = false)
    (T : Turn G.prog G.w G.K tg J fp it tn) (hgp : ∀ b ∈ fp, pn.1 ≠ b) (pg : PG G tg g) (pe : PE G elt te) (hsw : ∀ σ2 : L2.St, wipe σ2 vs = σw → σ2.length = σw.length ∧ ∀ (i : Nat) v, σw[i]? = some (some v) → σ2[i]? = some (some v)) (turn : gTurns J g te σw vs W Q) :
    ∀ (m n i : Nat) (s₀ s : Shared), m < n → (∃ H', Inv G [pn] σw H' s ∧ tn i s.heap ∧ (∀ b ∈ fp, H' b = none) ∧ W i m H') →
      Seg (model G.prog G.w) A2 (fun _ _ r s1 => r = .ok .next ∧ gFin G pn σw Q true s1) (gY G pn σw Q) n s₀ (.compLoop (.GeneratorExp elt [⟨tg, iter, [], 0⟩] scope gpos) 0 (.ref it) .none G.env)
        ((model G.prog G.w).den (.compLoop (.GeneratorExp elt [⟨tg, iter, [], 0⟩] scope gpos) 0 (.ref it) .none G.env)) [] s := by
  have stat : ∀ {σ' : L2.St} {H' : Hp} {s' : Shared}, Inv G [pn] σ' H' s' → (∀ b ∈ fp, H' b = none) → ∀ b ∈ fp, FpOk G [pn] H' b := fun {σ' H' s'} I' hn b hb => by
    have hb2 : b ∈ G.ex := by
      rw [hex]
      exact hb
    refine ⟨hn b hb, (I'.ok.exf b hb2).1, I'.ok.exfs b hb2, .inl hb2, fun x c e => (I'.ok.exf b hb2).2 x c e, fun p hp => ?_⟩
    rw [hpn] at hp
    have hp2 : p ∈ [pn] := hp
    rw [List.mem_singleton.mp hp2]
    exact hgp b hb
  intro m
  induction m using Nat.strongRecOn with
  | ind m ih =>
    rintro n i s₀ s hmn ⟨H', I, st, nf, w⟩
    obtain ⟨n, rfl⟩ : ∃ n', n = n' + 1 := ⟨n - 1, by omega⟩
    show Seg _ A2 _ _ _ s₀ _ ((compTurn (.GeneratorExp elt [⟨tg, iter, [], 0⟩] scope gpos) 0 (.ref it) .none G.env).onRaise (leaving G.env)) [] s
    rw [compTurn_gen, Sem.onRaise_eq_wrap]
    refine seg_bind_wrap (wpAny_standAt ?_)
    rcases turn i m H' w with ⟨stop, qq⟩ | ⟨gox, step⟩
    · have td := T.done G rfl rfl rfl hc i [pn] s σw H' (fun _ _ => False) I (stat I nf) st stop
      rw [hA] at td
      refine seg_bind_wrap (thnF td fun r s6 z => ?_)
      obtain ⟨hr, I6⟩ := z
      subst hr
      exact seg_end (.ok .next) ⟨rfl, H', I6, qq⟩
    · have ti := T.item G rfl rfl rfl hc i [pn] s σw H' (fun _ _ => False) I (stat I nf) st gox
      rw [hA] at ti
      refine seg_bind_wrap (thnF ti fun r s6 z => ?_)
      obtain ⟨u, hr, h6⟩ := z
      subst hr
      refine seg_bind_wrap (thnF h6 fun _ s7 z => ?_)
      obtain ⟨x, H7, I7, r7, y7, st7, n7⟩ := z
      have I7' := I7.pinned (stat I7 n7) (T.obj _ _ st7)
      have pr := pg.run _ s7 _ H7 x u _ I7' r7 (step x H7 y7)
      rw [hA, hxe] at pr
      refine seg_bind_wrap (thnF pr fun _ s8 z => ?_)
      obtain ⟨σ8, H8, I8, hw8, q8⟩ := z
      have hy : ∀ v, yieldOut G.env v = yieldValue v := fun v => by simp only [yieldOut, hco, Bool.false_eq_true, if_false]
      simp only [List.forIn_nil, hy]
      refine seg_bind_wrap (wpAny_pure ?_)
      simp only [if_true]
      rw [Sem.bind_eq_wrap', Sem.bind_eq_wrap', Sem.wrap_wrap, Sem.wrap_wrap]
      have er := pe.run _ s8 σ8 H8 _ I8 q8
      rw [hA, hxe] at er
      refine seg_wrap (thnF er fun z s10 zz => ?_)
      obtain ⟨yv, H10, I10, r10, b, rfl, nx⟩ := zz
      cases r10
      have pin' : ∀ b ∈ fp, ∀ o, s7.heap.get? b = some o → s10.heap.get? b = some o ∧ H10 b = none := fun b hb o e =>
        let z := I10.pin (b, o) (List.mem_append_right _ (List.mem_append_right _ (mem_pinsAt hb e)))
        ⟨z.1, z.2.1⟩
      obtain ⟨hl8, hk8⟩ := hsw σ8 hw8
      have J10 : Inv G [pn] σw H10 s10 := (I10.unpinned (pins := [pn])).weak hl8.symm hk8
      refine seg_at (seg_yield rfl rfl rfl ⟨b, rfl, ⟨H10, J10⟩, fun hb s2 wk => ?_, fun hb => ?_⟩)
      · subst hb
        rw [if_pos rfl] at nx
        obtain ⟨m', hm', w'⟩ := nx
        refine seg_again rfl (ih m' hm' n (i + 1) s2 s2 (by omega) ⟨H10, inv_woke J10 wk, ?_, fun b hb => ?_, w'⟩)
        · rw [wk.hp]
          exact T.keep _ _ _ st7 fun b hb o e => (pin' b hb o e).1
        · obtain ⟨o, e, _⟩ := T.obj _ _ st7 b hb
          exact (pin' b hb o e).2
      · subst hb
        exact ⟨H10, J10, nx⟩
end
section
variable {M : Model} {A2 : Around} {R : GenEnd} {Y : Protocol} {n : Nat} {s₀ s : Shared} {elt tg iter : Expr} {scope : Scope} {gpos : Pos} {it : Addr} {ge : Env}
/-- the first turn -/
theorem gen_first {P : Program} {w : World} (hself : ∀ (Q : Value → Shared → Prop) (E : Value → Shared → Prop), Q (.ref it) s → wpAny (model P w) (A2.over (.compStart (.GeneratorExp elt [⟨tg, iter, [], 0⟩] scope gpos) 0 (.ref it) .none ge) []) (pyIter (.ref it)) Q E s)
    (loop : Seg (model P w) A2 R Y n s₀ (.compLoop (.GeneratorExp elt [⟨tg, iter, [], 0⟩] scope gpos) 0 (.ref it) .none ge) ((model P w).den (.compLoop (.GeneratorExp elt [⟨tg, iter, [], 0⟩] scope gpos) 0 (.ref it) .none ge)) [] s) :
    Seg (model P w) A2 R Y n s₀ (.compStart (.GeneratorExp elt [⟨tg, iter, [], 0⟩] scope gpos) 0 (.ref it) .none ge) ((model P w).den (.compStart (.GeneratorExp elt [⟨tg, iter, [], 0⟩] scope gpos) 0 (.ref it) .none ge)) [] s := by
  show Seg _ A2 _ _ _ s₀ _ ((compStart (.GeneratorExp elt [⟨tg, iter, [], 0⟩] scope gpos) 0 (.ref it) .none ge).onRaise (leaving ge)) [] s
  unfold compStart
  rw [Sem.onRaise_eq_wrap]
  show Seg _ A2 _ _ _ s₀ _ ((ask >>= _).wrap _ _ _ _) [] s
  refine seg_bind_wrap (wpAny_askSetting ?_)
  split
  · exact seg_again rfl loop
  · first
      | exact seg_bind_wrap (wpAny_rule (seg_bind_wrap (wpAny_standAt (seg_bind_wrap (hself _ _ (seg_again rfl loop))))))
      | (refine seg_bind_wrap (wpAny_rule ?_)
         show Seg _ A2 _ _ _ s₀ _ ((standAt iter.pos >>= _).wrap _ _ _ _) [] s
         exact seg_bind_wrap (wpAny_standAt (seg_bind_wrap (hself _ _ (seg_again rfl loop)))))
end
theorem bare_set {gens : Array GenState} {x : GenState} (h : AllBare gens) (hx : x.bare = true) (i : Nat) : AllBare (gens.setIfInBounds i x) := fun y hy => by
  rw [Array.mem_iff_getElem?] at hy
  obtain ⟨j, hj⟩ := hy
  by_cases e : i = j
  · subst e
    by_cases hi : i < gens.size
    · rw [Array.getElem?_setIfInBounds_self_of_lt hi] at hj
      rw [← Option.some.inj hj]
      exact hx
    · rw [Array.getElem?_eq_none (by simpa using hi)] at hj
      cases hj
  · rw [Array.getElem?_setIfInBounds_ne e] at hj
    exact h y (Array.mem_iff_getElem?.mpr ⟨j, hj⟩)
/-- all over the generator at a, number gi: its turns by the protocol -/
theorem all_gen {G : Cx} {pn : Addr × Obj} {σw : L2.St} {Q : Bool → Hp → Prop} {A : Around} {gi : Nat} {RR : Result → Shared → Prop} (hh : A.handled = none) (hroom : A.depth < recursionLimit) (hgen : ∀ h : Heap, h.get? pn.1 = some pn.2 → h.IsGen pn.1 gi)
    (hR : ∀ b s1, gFin G pn σw Q b s1 → ∀ s2 : Shared, (∀ b o, s1.heap.get? b = some o → s2.heap.get? b = some o) → s2.os = s1.os → AllBare s2.gens → RR (.ok (.ret (.bool b))) s2) :
    ∀ (n : Nat) (s : Shared), (∃ H', Inv G [pn] σw H' s) → gi < s.gens.size → (∃ gs, s.gens[gi]? = some gs ∧ ∀ s2, Woke s s2 → gs.Goes (model G.prog G.w) A.in1.in1 (fun _ _ r s1 => r = .ok .next ∧ gFin G pn σw Q true s1) (gY G pn σw Q) n (.send .none) s2) →
      codeAny (model G.prog G.w) A (.builtin "all.loop" ⟨[.ref pn.1], []⟩) RR s := by
  intro n
  induction n using Nat.strongRecOn with
  | ind n ih =>
    rintro s ⟨H', I⟩ hgi ⟨gs, hgs, hgo⟩
    have hpin := (I.pin pn (List.mem_append_right _ (List.mem_singleton.mpr rfl))).1
    have brun : AllBare (s.setGen gi .running).gens := bare_set I.bare rfl gi
    refine codeAny_builtin F.entry_all_loop ?_
    rw [Around.under_plainId F.plain_all_loop _]
    show wpAny _ A.in1 (pyNext (.ref pn.1) >>= _) _ _ s
    refine wpAny_bind (GenW.wpAny_gsz (n := s.gens.size) (Nat.le_refl _) ?_)
    refine wpAny_pyNext_genexpQ (P := fun _ _ s1 => gFin G pn σw Q true s1) hh I.nolimit hroom (hgen _ hpin) hgs (hgo _ ⟨rfl, rfl, brun⟩) (fun v s₁ gs' hb hv hsz => ?_) (fun s₁ hp h' hk hsz => ?_)
    · obtain ⟨b, rfl, ⟨H1, I1⟩, ht, hf⟩ := hv
      have b1 : AllBare (s₁.setGen gi gs').gens := bare_set I1.bare hb gi
      refine wpAny_bind (wpAny_holding (wpAny_truthy_bool ?_))
      refine wpAny_bind (wpAny_letGo ?_)
      cases b with
      | false =>
        simp only [Bool.false_eq_true, if_false]
        refine wpAny_bind (wpAny_rule (wpAny_pure ?_))
        exact hR false s₁ (hf rfl) (s₁.setGen gi gs') (fun _ _ e => e) rfl b1
      | true =>
        simp only [if_true]
        have hlt : gi < (s₁.setGen gi gs').gens.size := Nat.lt_of_lt_of_le hgi hsz
        have hlt1 : gi < s₁.gens.size := by
          have e := GenW.setGen_size s₁ gi gs'
          omega
        cases n with
        | zero => exact absurd (ht rfl s₁ ⟨rfl, rfl, I1.bare⟩) id
        | succ n =>
          refine wpAny_pure ⟨plainId_quiet F.plain_all_loop _, ih n (Nat.lt_succ_self n) (s₁.setGen gi gs') ⟨H1, inv_woke I1 ⟨rfl, rfl, b1⟩⟩ hlt ⟨gs', ?_, fun s2 wk => ht rfl s2 ⟨wk.hp, wk.os, wk.br⟩⟩⟩
          show (s₁.gens.setIfInBounds gi gs')[gi]? = some gs'
          rw [Array.getElem?_setIfInBounds_self_of_lt hlt1]
    · refine wpAny_bind (wpAny_rule (wpAny_pure ?_))
      obtain ⟨H1, I1, q1⟩ := id hp
      exact hR true s₁ hp { s₁.setGen gi .finished with heap := h' } hk rfl (bare_set I1.bare rfl gi)
def tAllG (P : Addr) (wi : TI) (g : TG) (te : TE) (vs : List Nat) : TE := fun σ H Q => wi σ H fun J H1 => GxR.TabG H1 P ∧ ∀ H2, GxR.Tabbed P H1 H2 → ∃ W : Nat → Nat → Hp → Prop, (∃ m, W 0 m H2) ∧ gTurns J g te (wipe σ vs) vs W (fun b H' => Q (.bl b) H')
theorem pe_allG {X : Cx} {c P : Addr} {elt tg iter : Expr} {p pos gpos : Pos} {scope : Scope} {own : List (Str × Nat)} {wi : TI} {g : TG} {te : TE} {k : Nat} (hr : Room (k + 1) X.A) (hc : X.calm = true) (hN : X.N.Nodup) (hg : Gl X "all") (hm : X.mg "all" = none) (hb : bootBuiltins "all" = some (.builtin "all"))
    (TB : GxR.TabB X.base X.mg c P) (hcode : X.env.code = .ref c) (ok : BlkOk X.N X.env.scope scope own) (hco : scope.isCoroutine = false) (nocell : ∀ y ∈ scope.names, y.2 ≠ .cell) (hdot : scope.names.lookup (".0" : Str) = some NameKind.local) (hi : PI X tg iter wi)
    (hgt : ∀ (s : Shared) (H : Hp) (cl : List (Str × Addr)) (C : Addr) (code : Value) (fp : List Addr) (Ag : Around), PG (gcx X s H (genEnv scope cl C code builtinsNs X.env) fp Ag) tg g)
    (hel : ∀ (s : Shared) (H : Hp) (cl : List (Str × Addr)) (C : Addr) (code : Value) (fp : List Addr) (Ag : Around), Room k Ag → PE (gcx X s H (genEnv scope cl C code builtinsNs X.env) fp Ag) elt te)
    (hs : ∀ v, genFold iter X.env v = pure v := by intro _; rfl)
    (he : starEach [.GeneratorExp elt [⟨tg, iter, [], 0⟩] scope gpos] X.env = (false, eval (.GeneratorExp elt [⟨tg, iter, [], 0⟩] scope gpos) X.env) :: starEach [] X.env := by rfl) :
    PE X (.Call (.Name "all" p) [.GeneratorExp elt [⟨tg, iter, [], 0⟩] scope gpos] [] pos) (tAllG P wi g te (own.map (·.2))) := by
  constructor
  intro pins s σ H Q I h
  refine wpAny_Call_Name_kw (ld_blt I hg hm hb ?_)
  refine PyProof.Rows.callWith_builtin1 ?_ he (by rfl)
  rw [he]
  show wpAny _ _ (spliced ((false, eval (.GeneratorExp elt [⟨tg, iter, [], 0⟩] scope gpos) X.env) :: backTo pos (starEach [] X.env))) _ _ s
  refine Calls.spliced_cons (gen_make (hr.mono (Nat.le_succ k)) TB hcode ok hco nocell hdot hi hs I h fun it fp tn J H1 H2 code s4 h5 I4 tb T st f4 hR n5 b5 => ?_)
  refine Calls.spliced_nil ?_
  obtain ⟨W, ⟨m, w0⟩, turns⟩ := hR H2 tb
  show wpAny _ _ (call (.builtin "all") [.ref h5.objs.size]) _ _ _
  have sz5 : h5.objs.size = s4.heap.objs.size + 1 := by
    rw [b5.1, Heap.size_push]
  generalize hge : genEnv scope (cloFrom X.env.cells scope.names []) s4.heap.objs.size code builtinsNs X.env = ge
  have k5 : ∀ b o, s4.heap.get? b = some o → (h5.push (genO X s4)).get? b = some o := fun b o e =>
    Heap.get?_push_of_some _ (b5.extBut b o (Nat.ne_of_lt (Heap.lt_size e)) (Heap.get?_push_of_some _ e))
  have ga5 : (h5.push (genO X s4)).get? h5.objs.size = some (genO X s4) := Heap.get?_push_size _ rfl
  have hAg : (X.A.in1.in1.over (.compLoop (.GeneratorExp elt [⟨tg, iter, [], 0⟩] scope gpos) 0 (.ref it) .none ge) []).handled = none := hr.hd
  have hFr : (X.A.in1.in1.over (.compLoop (.GeneratorExp elt [⟨tg, iter, [], 0⟩] scope gpos) 0 (.ref it) .none ge) []).frames = some (ge :: X.stack) := by
    show pushEnvs [ge] (pushEnvs [] X.A.frames) = some (ge :: X.stack)
    rw [I4.ok.frames]
    rfl
  have hRm : Room k (X.A.in1.in1.over (.compLoop (.GeneratorExp elt [⟨tg, iter, [], 0⟩] scope gpos) 0 (.ref it) .none ge) []) := by
    have e1 : (X.A.in1.in1.over (.compLoop (.GeneratorExp elt [⟨tg, iter, [], 0⟩] scope gpos) 0 (.ref it) .none ge) []).depth = X.A.depth + 1 := rfl
    have e2 : (X.A.in1.in1.over (.compLoop (.GeneratorExp elt [⟨tg, iter, [], 0⟩] scope gpos) 0 (.ref it) .none ge) []).units = X.A.units + 5 := rfl
    have d1 := hr.dp
    have d2 := hr.un
    exact ⟨hr.hd, by rw [e1]; omega, by rw [e2]; omega⟩
  have I5 := gen_start (s5 := { s4 with gens := s4.gens.push (.fresh (.compStart (.GeneratorExp elt [⟨tg, iter, [], 0⟩] scope gpos) 0 (.ref it) .none ge)), toks := s4.toks + 1 + 1 + 1, heap := h5.push (genO X s4) }) I4 ok hN f4 hge.symm nocell hAg hFr k5 rfl (I4.bare.push rfl) (n5.keeps fun b o e => Heap.get?_push_of_some _ e) ga5 (by omega) (fun v z => by cases z)
  have st5 : tn 0 (h5.push (genO X s4)) := T.keep _ _ _ st fun b _ o e => k5 b o e
  refine call_function_tree F.kind_all F.plain_all F.entry_all (F.args_all1 _) ?_
  unfold Builtin.«all»
  refine wpAny_bind (m := oneArg "all" _) (wpAny_pure ?_)
  have isg : ∀ hh : Heap, hh.get? h5.objs.size = some (genO X s4) → hh.IsGen h5.objs.size s4.gens.size := fun hh e => ⟨_, _, _, e, rfl, rfl, rfl⟩
  refine wpAny_bind (wpAny_pyIter_gen (isg _ ga5) ?_)
  refine wpAny_pure ⟨plainId_quiet F.plain_all_loop _, ?_⟩
  refine all_gen (G := gcx X s4 H2 ge fp (X.A.in1.in1.over (.compLoop (.GeneratorExp elt [⟨tg, iter, [], 0⟩] scope gpos) 0 (.ref it) .none ge) [])) (pn := (h5.objs.size, genO X s4)) (σw := wipe σ (own.map (·.2))) (Q := fun b H' => Q (.bl b) H') (gi := s4.gens.size)
    hr.hd (by have := hr.dp; omega) isg (fun b s1 hf s2 hk ho hbr => ?_) (m + 1) _ ⟨H2, I5⟩ (by show s4.gens.size < (s4.gens.push _).size; rw [Array.size_push]; omega) ⟨.fresh (.compStart (.GeneratorExp elt [⟨tg, iter, [], 0⟩] scope gpos) 0 (.ref it) .none ge), by show (s4.gens.push _)[s4.gens.size]? = some _; rw [Array.getElem?_push_size], fun s2 wk => ⟨rfl, ?_⟩⟩
  · obtain ⟨H', I', q'⟩ := hf
    have un : Un (frs X.stack) fp H2 H' s4.heap s2.heap := Un.trans I'.base (Un.kept hk)
    have J' : Inv X pins σ H' s2 := I4.call' (ch := fp) (ho.trans I'.os) un (I'.hok.kept hk) hbr fun b hb => ⟨(f4 b hb).1.2.2.2.1, (f4 b hb).1.2.1, (f4 b hb).1.2.2.2.2.1, (f4 b hb).1.2.2.2.2.2⟩
    exact ⟨.bl b, H', J', rfl, q'⟩
  · have nfp : ∀ b ∈ fp, H2 b = none := fun b hb => (f4 b hb).1.1
    refine gen_first (fun Q1 E1 q1 => T.self _ 0 s2 Q1 E1 (by rw [wk.hp]; exact st5) q1) ?_
    refine gen_loop (G := gcx X s4 H2 ge fp (X.A.in1.in1.over (.compLoop (.GeneratorExp elt [⟨tg, iter, [], 0⟩] scope gpos) 0 (.ref it) .none ge) [])) (tn := tn) (vs := own.map (·.2)) (W := W) rfl hc rfl rfl rfl ?_ T (fun b hb => ?_) ?_ ?_ ?_ turns m (m + 1) 0 s2 s2 (Nat.lt_succ_self m) ⟨H2, inv_woke I5 wk, by rw [wk.hp]; exact st5, nfp, w0⟩
    · show ge.scope.isCoroutine = false
      rw [← hge]
      exact hco
    · have hb4 : b < s4.heap.objs.size := (f4 b hb).2
      intro z
      have z2 : h5.objs.size = b := z
      rw [← z2, sz5] at hb4
      exact absurd hb4 (Nat.not_lt.mpr (Nat.le_succ _))
    · rw [← hge]
      exact hgt _ _ _ _ _ _ _
    · subst hge
      exact hel _ _ _ _ _ _ _ hRm
    · intro σ2 e2
      refine ⟨?_, fun i v e3 => ?_⟩
      · rw [← wipe_length σ2 (own.map (·.2)), e2]
      · rw [← e2] at e3
        exact (wipe_some e3).1

/-- all over zip of two tuples of one length -/
theorem gturns_zipT {K : PySem.W.Frag} {a b : Addr} {xs ys : List V} {g : TG} {te : TE} {σw : L2.St} {vs : List Nat} {Q : Bool → Hp → Prop} {H : Hp} (hl : xs.length = ys.length) (Pv : Nat → Hp → Prop) (h0 : Pv 0 H) (hq : ∀ i H, Pv i H → SqT K H a xs ∧ SqT K H b ys)
    (hs : ∀ (i : Nat) (x y : V) (T : Addr) (H : Hp) (N : Hp → Prop), xs[i]? = some x → ys[i]? = some y → Pv i H → H T = none → (∀ H3, Pv (i + 1) H3 → N H3) → g (.ref T) σw (upd H T (.tup [x, y])) fun σ2 H2 => wipe σ2 vs = σw ∧ te σ2 H2 fun v H3 => ∃ b, v = .bl b ∧ if b = true then N H3 else Q false H3)
    (hd : ∀ H, Pv xs.length H → Q true H) : ∃ W : Nat → Nat → Hp → Prop, (∃ m, W 0 m H) ∧ gTurns (RZ.ItzT K a b) g te σw vs W Q := by
  refine ⟨fun i m H => m = xs.length - i ∧ i ≤ xs.length ∧ Pv i H, ⟨xs.length, rfl, Nat.zero_le _, h0⟩, fun i m H st => ?_⟩
  obtain ⟨em, le, pv⟩ := st
  have two := hq i H pv
  rcases Nat.lt_or_eq_of_le le with lt | eq
  · refine .inr ⟨⟨xs, ys, xs[i], ys[i], two.1, two.2, List.getElem?_eq_getElem lt, List.getElem?_eq_getElem (hl ▸ lt)⟩, fun v H' y => ?_⟩
    obtain ⟨tp, a1, a2, rfl, free, rfl, w1, w2⟩ := y
    exact hs i a1 a2 tp H _ (w1 xs two.1) (w2 ys two.2) pv free fun H3 p' => ⟨xs.length - (i + 1), by omega, rfl, lt, p'⟩
  · subst eq
    exact .inl ⟨⟨xs, ys, two.1, two.2, Or.inl (Nat.le_refl _)⟩, hd H pv⟩

/-! ### zip of a text and a tuple -/
def ItzS (K : PySem.W.Frag) (x : Str) (b : Addr) : It :=
  ⟨fun i H => ∃ (ys : List V) (c : Nat) (y : V), SqT K H b ys ∧ x.cps[i]? = some c ∧ ys[i]? = some y,
    fun i H v H' => ∃ (T : Addr) (c : Nat) (y : V), v = .ref T ∧ H T = none ∧ H' = upd H T (.tup [.str ⟨#[c]⟩, y]) ∧ x.cps[i]? = some c ∧ ∀ ys, SqT K H b ys → ys[i]? = some y,
    fun i H => ∃ ys : List V, SqT K H b ys ∧ i ≤ x.cps.size ∧ i ≤ ys.length ∧ (i = x.cps.size ∨ i = ys.length)⟩
theorem zip_sep {z TI TO i1 i2 b : Addr} (D : ZipApart z TI TO i1 i2 b b) : ZipSep2 z TI TO i1 i2 [i1] [i2, b] where
  TIz := D.TIz
  TOz := D.TOz
  TITO := D.TITO
  TIi1 := D.TIi1
  mem1 := List.mem_singleton.mpr rfl
  zf1 := fun h => D.i1z (List.mem_singleton.mp h).symm
  Tf1 := fun h => D.TOi1 (List.mem_singleton.mp h)
  TIi2 := D.TIi2
  mem2 := List.mem_cons_self
  zf2 := fun h => by
    rcases List.mem_cons.mp h with e | e
    · exact D.i2z e.symm
    · exact D.l1z (List.mem_singleton.mp e).symm
  Tf2 := fun h => by
    rcases List.mem_cons.mp h with e | e
    · exact D.TOi2 e
    · exact D.l1TO (List.mem_singleton.mp e).symm
  sep1_2 := fun h => by
    rcases List.mem_cons.mp h with e | e
    · exact D.i12 e
    · exact D.l1i1 (List.mem_singleton.mp e).symm
  sep2_1 := fun h => D.i12 (List.mem_singleton.mp h).symm
/-- the five cells of a running zip of the text x and the tuple at b, i turns done -/
structure ZipGo (x : Str) (t : Tok) (z TI TO i1 i2 b : Addr) (i : Nat) (h : Heap) : Prop where
  zp : IsZip h z TI TO .none
  ins : IsPair h TI (.ref i1) (.ref i2)
  out : ∃ p : Value × Value, IsPair h TO p.1 p.2
  txt : h.IsStrIter i1 (strIterType x) x t i
  tup : h.IsTupleIter i2 b i
theorem five {z TI TO i1 i2 c : Addr} {Pr : Addr → Prop} (h : c ∈ [z, TI, TO, i1, i2]) (pz : Pr z) (pI : Pr TI) (pO : Pr TO) (p1 : Pr i1) (p2 : Pr i2) : Pr c := by
  simp only [List.mem_cons, List.not_mem_nil, or_false] at h
  rcases h with rfl | rfl | rfl | rfl | rfl
  all_goals assumption
theorem apart5 {z TI TO i1 i2 c : Addr} (h : c ∉ [z, TI, TO, i1, i2]) : c ≠ z ∧ c ≠ TO ∧ c ≠ i1 ∧ c ≠ i2 := by
  simp only [List.mem_cons, List.not_mem_nil, or_false, not_or] at h
  exact ⟨h.1, h.2.2.1, h.2.2.2.1, h.2.2.2.2⟩
section
variable {x : Str} {t : Tok} {z TI TO i1 i2 b : Addr} {i : Nat} {h h' : Heap}
theorem ZipGo.obj (g : ZipGo x t z TI TO i1 i2 b i h) {c : Addr} (hc : c ∈ [z, TI, TO, i1, i2]) : ∃ o, h.get? c = some o ∧ ∀ v, o.data ≠ .cell v := by
  obtain ⟨p, hp⟩ := g.out
  obtain ⟨oa, ea, _, da⟩ := g.txt
  obtain ⟨ob, eb, _, db⟩ := g.tup
  refine five (Pr := fun c => ∃ o, h.get? c = some o ∧ ∀ v, o.data ≠ .cell v) hc ⟨_, g.zp, ?_⟩ ⟨_, g.ins, ?_⟩ ⟨_, hp, ?_⟩ ⟨oa, ea, ?_⟩ ⟨ob, eb, ?_⟩
  · intro v e; cases e
  · intro v e; cases e
  · intro v e; cases e
  · intro v e; rw [da] at e; cases e
  · intro v e; rw [db] at e; cases e
theorem ZipGo.lt (g : ZipGo x t z TI TO i1 i2 b i h) {c : Addr} (hc : c ∈ [z, TI, TO, i1, i2]) : c < h.objs.size := by
  obtain ⟨o, e, _⟩ := g.obj hc
  exact Heap.lt_size e
theorem ZipGo.on (g : ZipGo x t z TI TO i1 i2 b i h) (k : ∀ c ∈ [z, TI, TO, i1, i2], ∀ o, h.get? c = some o → h'.get? c = some o) : ZipGo x t z TI TO i1 i2 b i h' := by
  obtain ⟨p, hp⟩ := g.out
  obtain ⟨oa, ea, ra⟩ := g.txt
  exact ⟨k z (by simp) _ g.zp, k TI (by simp) _ g.ins, ⟨p, k TO (by simp) _ hp⟩, ⟨oa, k i1 (by simp) _ ea, ra⟩, g.tup.at (k i2 (by simp))⟩
end
theorem turn_zipS {P : Program} {w : World} {K : PySem.W.Frag} {elts : List Expr} {kk : Nat} {tpos : Pos} {x : Str} {t : Tok} {b z TI TO i1 i2 : Addr} (D : ZipApart z TI TO i1 i2 b b) :
    Turn P w K (.Tuple elts kk tpos) (ItzS K x b) [z, TI, TO, i1, i2] z (ZipGo x t z TI TO i1 i2 b) where
  mem := List.mem_cons_self
  obj := fun _ _ g _ hc => g.obj hc
  keep := fun _ _ _ g k => g.on k
  item := by
    intro X eP ew eK calm n pins s σ H E I fps g go
    subst eP ew eK
    obtain ⟨ys, c, y, tys, ec, ey⟩ := go
    obtain ⟨vs, rel, tupAt, _⟩ := I.tuple tys
    obtain ⟨u, eu, ru⟩ := rel.get ey
    obtain ⟨p, hp⟩ := g.out
    have zlt := g.lt (c := z) (by simp)
    have n1 : n < x.cps.size := Nat.lt_of_not_le fun le => by
      rw [Array.getElem?_eq_none le] at ec
      cases ec
    have n2 : n < vs.toArray.size := by simpa using (List.getElem?_eq_some_iff.mp eu).1
    have calmA : X.A.in1.handled = none := I.ok.hd calm
    refine wpAny_pyNext_zipD2_item (zip_sep D) (Draws.text calmA i1 x t) (Draws.tuple calmA i2 b D.l1i2 vs.toArray) g.zp g.ins hp g.txt ⟨g.tup, tupAt⟩ n1 n2 fun v1 v2 h1 tk P1 P2 zp1 out1 txt1 tup1 new1 _ kept1 => ?_
    obtain ⟨c', k, ec', rfl⟩ := P1
    obtain rfl : c = c' := Option.some.inj (ec.symm.trans ec')
    obtain rfl : u = v2 := Option.some.inj (eu.symm.trans (by simpa using P2))
    refine ⟨_, rfl, wpAny_letOwnedTupleGo_zip (s := { s with heap := h1, toks := tk }) zp1 fun h2 zp2 sb => ?_⟩
    have up : ∀ d, d ≠ z → h2.get? d = h1.get? d := fun d nd => sb.2 d nd
    have kept2 : ∀ d o, d ∉ [z, TI, TO, i1, i2] → s.heap.get? d = some o → h2.get? d = some o := fun d o nd e => by
      obtain ⟨a1, a2, a3, a4⟩ := apart5 nd
      rw [up d a1]
      exact kept1 d o a1 a2 a3 a4 e
    have new2 : h2.get? s.heap.objs.size = some { cls := .type "tuple", data := .seq #[.str ⟨#[c]⟩ k, u] } := (up _ (Nat.ne_of_gt zlt)).trans new1
    have I2 := I.turnedNew (t' := tk) (ch := [z, TI, TO, i1, i2]) (ob := .tup [.str ⟨#[c]⟩, y]) kept2 fps (Nat.le_refl _) ⟨show 2 ≤ sizeLine by decide, [.str ⟨#[c]⟩ k, u], .cons ⟨k, rfl⟩ (.cons ru .nil), ⟨_, new2, rfl, _, rfl⟩⟩
    refine ⟨.ref s.heap.objs.size, _, I2, rfl, ⟨_, c, y, rfl, I.hok.fresh (Nat.le_refl _), rfl, ec, fun l tl => (I.tuple_inj tl tys) ▸ ey⟩, ⟨zp2, ?_, ⟨(_, _), (up _ D.TOz).trans out1⟩, ?_, tup1.1.at fun o e => (up _ D.i2z).trans e⟩, fun d hd => ?_⟩
    · exact (up _ D.TIz).trans (kept1 TI _ D.TIz D.TITO D.TIi1 D.TIi2 g.ins)
    · obtain ⟨o, e, r⟩ := txt1
      exact ⟨o, (up _ D.i1z).trans e, r⟩
    · rw [upd_ne (Nat.ne_of_lt (g.lt hd))]
      exact (fps d hd).1
  done := by
    intro X eP ew eK calm n pins s σ H E I fps g stop
    subst eP ew eK
    obtain ⟨ys, tys, le1, le2, last⟩ := stop
    obtain ⟨vs, rel, tupAt, _⟩ := I.tuple tys
    obtain ⟨p, hp⟩ := g.out
    have lv : vs.toArray.size = ys.length := by simpa using rel.length.symm
    have calmA : X.A.in1.handled = none := I.ok.hd calm
    refine wpAny_pyNext_zipD2_end (zip_sep D) (Draws.text calmA i1 x t) (Draws.tuple calmA i2 b D.l1i2 vs.toArray) g.zp g.ins hp g.txt ⟨g.tup, tupAt⟩ le1 (by omega) (by omega) fun h1 tk kept1 => ⟨rfl, ?_⟩
    refine I.turnedL (t' := tk) (ch := [z, TI, TO, i1, i2]) (fun d o nd e => ?_) fps
    obtain ⟨a1, a2, a3, a4⟩ := apart5 nd
    exact kept1 d o a1 a2 a3 a4 e
  self := fun _ _ _ _ _ g q => wpAny_pyIter_zip g.zp q
def iZipS (K : PySem.W.Frag) (ta : TA) : TI := fun σ H R => ta σ H fun vs H1 => ∃ x b ys, vs = [.str x, .ref b] ∧ SqT K H1 b ys ∧ R (ItzS K x b) H1
theorem pi_zipS {X : Cx} {ea eb : Expr} {ta : TA} {p pos tpos : Pos} {elts : List Expr} {kk : Nat} (gl : Gl X "zip") (own : X.mg "zip" = none) (args : PA X [ea, eb] ta)
    (star : starEach [ea, eb] X.env = (false, eval ea X.env) :: starEach [eb] X.env := by rfl) (plain : (backTo pos (starEach [eb] X.env)).any (·.1) = false := by rfl) :
    PI X (.Tuple elts kk tpos) (.Call (.Name "zip" p) [ea, eb] [] pos) (iZipS X.K ta) := by
  constructor
  intro pins s σ H R I q
  refine Call_ (ld_blt I gl own PyProof.Rows.boot_zip (PyProof.Rows.callWith_type1 ?_ star plain))
  refine thn (args.run pos pins s σ H _ I q) fun us s1 ans => ?_
  obtain ⟨vs, H1, J, rel, x, b, ys, rfl, tys, go⟩ := ans
  obtain ⟨u1, u2, rfl, r1, r2⟩ := vals2 rel
  obtain ⟨t, rfl⟩ := r1
  obtain rfl : u2 = Value.ref b := r2
  obtain ⟨its, _, tupAt, _⟩ := J.tuple tys
  have blt : b < s1.heap.objs.size := by
    obtain ⟨_, e, _⟩ := id tupAt
    exact Heap.lt_size e
  have fresh : ∀ c, s1.heap.objs.size ≤ c → FpOk X pins H1 c := fun c le => J.fpOk le (J.hok.fresh le)
  refine zip_begins2 (begins_text x t) (begins_tuple b its.toArray) trivial tupAt fun h2 zp ins out o1 o2 _ kept => wpAny_pyIter_zip zp ?_
  refine ⟨_, [s1.heap.objs.size + 4, s1.heap.objs.size + 2, s1.heap.objs.size + 3, s1.heap.objs.size, s1.heap.objs.size + 1], _, _, H1, rfl, J.kept (t' := s1.toks) kept, turn_zipS (t := t) (PySem.W.ktu_apart s1.heap.objs.size b b blt blt), ?_, fun c hc => ?_, go⟩
  · exact ⟨zp, ins, ⟨(_, _), out⟩, ⟨_, o1, rfl, rfl⟩, ⟨_, o2, rfl, rfl⟩⟩
  · exact five (Pr := FpOk X pins H1) hc (fresh _ (by omega)) (fresh _ (by omega)) (fresh _ (by omega)) (fresh _ (by omega)) (fresh _ (by omega))
/-- a loop over zip of a text and a tuple of one length -/
theorem for_zipS {K : PySem.W.Frag} {x : Str} {b : Addr} {ys : List V} {g : TG} {tb : TS} {D : Ends} {σ : L2.St} {H : Hp} (hl : x.cps.size = ys.length) (Pv : Nat → L2.St → Hp → Prop) (h0 : Pv 0 σ H) (hq : ∀ i σ H, Pv i σ H → SqT K H b ys)
    (hs : ∀ (i c : Nat) (y : V) (T : Addr) (σ : L2.St) (H : Hp), x.cps[i]? = some c → ys[i]? = some y → Pv i σ H → H T = none → g (.ref T) σ (upd H T (.tup [.str ⟨#[c]⟩, y])) fun σ2 H2 => tb { D with nx := Pv (i + 1), ct := Pv (i + 1), bk := D.nx } σ2 H2) (hd : ∀ σ H, Pv ys.length σ H → D.nx σ H) :
    ∃ W : Nat → Nat → L2.St → Hp → Prop, (∃ m, W 0 m σ H) ∧ ∀ i m σ H, W i m σ H →
      ((ItzS K x b).stop i H ∧ D.nx σ H) ∨ ((ItzS K x b).go i H ∧ ∃ N : L2.St → Hp → Prop, (∀ σ' H', N σ' H' → ∃ m', m' < m ∧ W (i + 1) m' σ' H') ∧ ∀ v H', (ItzS K x b).yld i H v H' → g v σ H' fun σ2 H2 => tb { D with nx := N, ct := N, bk := D.nx } σ2 H2) := by
  refine ⟨fun i m σ H => m = ys.length - i ∧ i ≤ ys.length ∧ Pv i σ H, ⟨ys.length, rfl, Nat.zero_le _, h0⟩, fun i m σ H st => ?_⟩
  obtain ⟨em, le, pv⟩ := st
  have tys := hq i σ H pv
  rcases Nat.lt_or_eq_of_le le with lt | eq
  · refine .inr ⟨⟨ys, x.cps[i], ys[i], tys, Array.getElem?_eq_getElem (hl.symm ▸ lt), List.getElem?_eq_getElem lt⟩, Pv (i + 1), fun σ' H' p' => ⟨ys.length - (i + 1), by omega, rfl, lt, p'⟩, fun v H' y => ?_⟩
    obtain ⟨tp, c, a2, rfl, free, rfl, w1, w2⟩ := y
    exact hs i c a2 tp σ H w1 (w2 ys tys) pv free
  · subst eq
    exact .inl ⟨⟨ys, tys, Nat.le_of_eq hl.symm, Nat.le_refl _, .inr rfl⟩, hd σ H pv⟩
/-! ### d.update(e) -/
def tDUpd (td ty : TE) : TE := fun σ H Q => td σ H fun x H1 => ∃ a, x = .ref a ∧ IsD H1 a ∧ ty σ H1 fun y H2 => ∃ b kvs more, y = .ref b ∧ H2 a = some (.dK kvs) ∧ H2 b = some (.dK more) ∧ a ≠ b ∧ kvs.length + more.length ≤ sizeLine ∧ Q .non (upd H2 a (.dK (mergeK kvs more)))
theorem pe_dupd {X : Cx} {o e : Expr} {apos cpos : Pos} {td ty : TE} (ho : PE X o td) (he : PE X e ty) (m : M1 X o "update" apos e cpos) : PE X (.Call (.Attribute o "update" apos) [e] [] cpos) (tDUpd td ty) := by
  refine ⟨fun pins s σ H Q I h => ?_⟩
  refine wpAny_Call_method m.base m.few m.line PySem.F.plainAttrs_dict PySem.F.slot_dict_update PySem.F.type_dict_update (thn (ho.run pins s σ H _ I h) fun u s1 ⟨x, H1, I1, rx, a, ex, d, q1⟩ => ?_)
  subst ex
  obtain rfl : u = Value.ref a := rx
  obtain ⟨t1, t2, _⟩ := isD_at I1 d
  refine ⟨t1, t2, ?_⟩
  rw [m.trees]
  refine Calls.callWith_builtin rfl (Calls.evalArgs_plain (Calls.spliced_cons (thn (he.run pins s1 σ H1 _ I1 q1) fun iv s2 ⟨y, H2, I2, ry, b, kvs, more, ey, ea, eb, ne, hz, q2⟩ => Calls.spliced_nil ?_)))
  subst ey
  obtain rfl : iv = Value.ref b := ry
  obtain ⟨za, hda, vs, ra, dda⟩ := dk_of I2.hok ea
  obtain ⟨zb, hdb, ws, rb, ddb⟩ := dk_of I2.hok eb
  refine call_meetsIn PySem.F.slot_dict_update dda.typeIs PySem.F.entry_dict_update (PySem.F.args_dict_update_2 _ _) (meets_dict_update (mixKind X.prog X.w) a b ne hdb) ⟨vs, ws, dda, ddb, (by rw [← ra.length, ← rb.length]; exact hz), fun h' hmm _ hs => ?_⟩
  have he' : ∃ q, h'.get? a = some q := let ⟨q, _, _, hq, _⟩ := hmm; ⟨q, hq⟩
  exact ⟨.non, _, d_write I2 (by rw [ea]; exact True.intro) hs he' (dk_new (Nat.le_trans (length_mergeK more kvs) hz) hda (rb.merge ra) hmm), rfl, q2⟩
/-! ### list(text), tuple == () -/
def sgs (x : Str) : List V := x.cps.toList.map fun c => V.str ⟨#[c]⟩
theorem vals_at : ∀ {xs : List V} {us : List Value}, xs.length = us.length → (∀ (j : Nat) (v : V) (u : Value), xs[j]? = some v → us[j]? = some u → RelV v u) → Vals xs us
  | [], [], _, _ => .nil
  | [], _ :: _, h, _ => nomatch h
  | _ :: _, [], h, _ => nomatch h
  | v :: xs, u :: us, h, k => .cons (k 0 v u rfl rfl) (vals_at (Nat.succ.inj h) fun j a b ha hb => k (j + 1) a b ha hb)
theorem call_list_txt {X : Cx} (hc : X.calm = true) : CallR X (.type "list") (fun xs H Q => ∃ x : Str, xs = [.str x] ∧ x.cps.size ≤ sizeLine ∧ ∀ l, H l = none → Q (.ref l) (upd H l (.lst (sgs x)))) := by
  intro pins s σ H xs us Q I r h
  obtain ⟨x, rfl, hz, q⟩ := h
  obtain ⟨u, rfl, rx⟩ := vals1 r
  obtain ⟨t, rfl⟩ := rx
  refine call_list_str (I.ok.hd hc) x t (hn := hz) fun h' tk acc' c' hk hS' hacc => ?_
  have hl : (sgs x).length = acc'.toList.length := by
    unfold sgs
    rw [List.length_map, Array.length_toList, Array.length_toList]
    exact hacc.1.symm
  have rv : Vals (sgs x) acc'.toList := vals_at hl fun j v u hv hu => by
    obtain ⟨c, k, hc', rfl⟩ := hacc.2 j u (by simpa using hu)
    unfold sgs at hv
    rw [List.getElem?_map] at hv
    obtain ⟨c2, h2, rfl⟩ := Option.map_eq_some_iff.mp hv
    have z : x.cps.toList[j]? = some c := by simpa using hc'
    rw [z] at h2
    cases h2
    exact ⟨k, rfl⟩
  have hz2 : (sgs x).length ≤ sizeLine := by
    unfold sgs
    rw [List.length_map, Array.length_toList]
    exact hz
  exact ⟨.ref s.heap.objs.size, _, I.laid (t' := tk) hk (Nat.le_refl _) (show ObjOk X.prog X.w _ h' _ (.lst (sgs x)) from ⟨hz2, acc'.toList, c', rv, by simpa using hS'⟩), rfl, q _ (I.hok.fresh (Nat.le_refl _))⟩
def rEq0 (K : PySem.W.Frag) : R2 := fun x y H Q => ∃ a b xs, x = .ref a ∧ y = .ref b ∧ SqT K H a xs ∧ SqT K H b [] ∧ Q (.bl xs.isEmpty) H
theorem op_eq0 {X : Cx} (hu : X.A.units < cLine) : OpR X (compareOp .Eq) (rEq0 X.K) := by
  intro pins s σ H x y v u Q I rx ry h
  obtain ⟨a, b, xs, rfl, rfl, ha, hb, q⟩ := h
  cases rx
  cases ry
  obtain ⟨its, r1, p1, _⟩ := I.tuple ha
  obtain ⟨its2, r2, p2, _⟩ := I.tuple hb
  cases r2
  refine SeqAt.eq_tupleAt (e := fun _ => true) p1 p2 hu (fun j h1 h2 => by simp at h2) ?_
  have e : ((List.range (min its.toArray.size ([] : List Value).toArray.size)).all (fun _ => true) && its.toArray.size == ([] : List Value).toArray.size) = xs.isEmpty := by
    cases r1 with
    | nil => rfl
    | cons _ _ => simp
  rw [e]
  exact ⟨.bl _, H, I, rfl, q⟩

/-! ### the end of a law whose defs make generator expressions -/
/-- the def nm of the top, its code object's table empty -/
def TabAt (mg : Str → Option Value) (h : Heap) (nm : Str) : Prop := ∃ (f : Addr) (o : Obj) (fd : FuncData) (c P : Addr), mg nm = some (.ref f) ∧ h.get? f = some o ∧ o.data = .func fd ∧ fd.code = .ref c ∧ h.TableAt c P #[]
theorem tab_empty {K : PySem.W.Frag} {mg : Str → Option Value} {h : Heap} {nm : Str} {f c P : Addr} {o : Obj} {fd : FuncData} {e : Value} {dd : Option Addr} {vs : Array Value} {sl : Array (Option Value)} (t : TabAt mg h nm) (X : K.In h) (g : mg nm = some (.ref f))
    (lf : K.lookup f = some o) (df : o.data = .func fd) (cf : fd.code = .ref c) (lc : K.lookup c = some ⟨e, dd, .fields vs, sl⟩) (at11 : vs[11]? = some (.ref P)) : h.get? P = some { cls := .none, data := .fields #[] } := by
  obtain ⟨f', o', fd', c', P', m1, m2, m3, m4, ⟨oc, vc, w1, _, w3, w4⟩, tp⟩ := t
  have ef : f = f' := Value.ref.inj (Option.some.inj (g.symm.trans m1))
  subst ef
  have eo : o = o' := Option.some.inj ((X f o lf).symm.trans m2)
  subst eo
  have ed : fd = fd' := Data.func.inj (df.symm.trans m3)
  subst ed
  have ec : c = c' := Value.ref.inj (cf.symm.trans m4)
  subst ec
  have eq : (⟨e, dd, .fields vs, sl⟩ : Obj) = oc := Option.some.inj ((X c _ lc).symm.trans w1)
  subst eq
  have ev : vs = vc := Data.fields.inj w3
  subst ev
  have eP : P = P' := Value.ref.inj (Option.some.inj (at11.symm.trans w4))
  subst eP
  exact tp
theorem walk_tabs {l : PySem.W.OpenLaw} {most lv : Nat} {prog : Program} {lo : List Str} {XP : (Str → Option Value) → Heap → Prop} {YP : World → Heap → Prop} {df : DefRec} {K : Params → PySem.W.Frag} {par : Str} (names : List Str)
    (h1 : l.most = some most) (h2 : most ≤ sizeLine) (h3 : df.params.defaults = []) (room : Room lv callerA) (recs : (names.all fun nm => (recsOf prog).any fun r => r.name == nm) = true) (kin : ∀ (w : World) (h : Heap), YP w h → (K w.params).In h)
    (at_ : ∀ (w : World) (mg : Str → Option Value) (fa : Addr) (h : Heap), (K w.params).In h → h.Ns mainGlobals mg → mg df.name = some (.ref fa) → (∀ nm ∈ names, TabAt mg h nm) → LamX.LawAtS l w (K w.params) CX0 lv most par mg fa h) :
    PySem.W.WalkO prog lo XP YP l.row.toRowW df [] (fun f vs => PySem.call f vs) := by
  refine Att.attach_callB h1 h3 fun w s0 s mg mb fa o pm cd doc a vs ns Gr Y _ _ _ name ob iar len bits gens => ?_
  have tabs : ∀ nm ∈ names, TabAt mg s.heap nm := fun nm hm => by
    obtain ⟨r, hr, er⟩ := List.any_eq_true.mp (List.all_eq_true.mp recs nm hm)
    obtain ⟨x1, x2, x3, x4, x5, y1, y2, y3, y4, _, y6⟩ := Gr.T.tab r hr
    rw [beq_iff_eq.mp er] at y1
    exact ⟨x1, x2, x3, x4, x5, y1, y2, y3, y4, y6⟩
  obtain ⟨fd, cs, sp, t1, t2, t3, bind, asked, ok⟩ := at_ w mg fa _ (kin w _ Y) Gr.T.g name tabs
  exact LamX.law_callTs (kin w _ Y) Gr.T.g Gr.T.b Gr.T.builtins Gr.T.nolimit gens t1 t2 t3 Gr.T.bmain ob iar (Nat.le_trans len h2) room ok bind (fun H hH hS => asked H a ns len bits hH hS) fun _ _ _ z => z

end My
namespace My
open PySem L2
/-! ### a mid-condition behind a statement, an expression, a test -/
def sMid (t : TS) : TS := fun D σ H => ∃ M : L2.St → Hp → Prop, t { D with nx := M } σ H ∧ ∀ σ' H', M σ' H' → D.nx σ' H'
theorem ps_mid {X : Cx} {st : Stmt} {t : TS} (h : PS X st t) : PS X st (sMid t) := by
  refine ⟨fun pins s σ H D I z => ?_⟩
  obtain ⟨M, q, k⟩ := z
  refine thn (h.run pins s σ H { D with nx := M } I q) fun f s1 y => ?_
  cases f with
  | next =>
    obtain ⟨σ', H', I', y⟩ := y
    exact ⟨σ', H', I', k _ _ y⟩
  | ret v => exact y
  | brk => exact y
  | cont => exact y
def tMid (t : TT) : TT := fun σ H Q => ∃ M : Bool → Hp → Prop, t σ H M ∧ ∀ b H', M b H' → Q b H'
theorem pt_mid {X : Cx} {e : Expr} {t : TT} (h : PT X e t) : PT X e (tMid t) := by
  refine ⟨fun pins s σ H Q I z => ?_⟩
  obtain ⟨M, q, k⟩ := z
  exact thn (h.run pins s σ H M I q) fun b s1 ⟨H', I', y⟩ => ⟨H', I', k _ _ y⟩
def eMid (t : TE) : TE := fun σ H Q => ∃ M : V → Hp → Prop, t σ H M ∧ ∀ v H', M v H' → Q v H'
theorem pe_mid {X : Cx} {e : Expr} {t : TE} (h : PE X e t) : PE X e (eMid t) := by
  refine ⟨fun pins s σ H Q I z => ?_⟩
  obtain ⟨M, q, k⟩ := z
  exact thn (h.run pins s σ H M I q) fun u s1 ⟨v, H', I', r, y⟩ => ⟨v, H', I', r, k _ _ y⟩
theorem yes_ite {σ : L2.St} {H : Hp} {A B : Hp → Prop} (h : A H) : tYes σ H (fun b H3 => if b = true then A H3 else B H3) := by
  unfold tYes
  exact (show (if true = true then A H else B H) from iteT h)
/-- xs[i] op= e, the read -/
theorem get_list {X : Cx} : PGet X (rIxL X.K) := by
  intro pins s σ H x y v u Q I rx ry h
  obtain ⟨p, xs, i, z, rfl, rfl, hq, he, q⟩ := h
  cases rx
  obtain ⟨t, rfl⟩ := ry
  obtain ⟨its, r, pl, hz⟩ := I.list hq
  obtain ⟨j, h1, h2, h3, h4, h5⟩ := atI_get he
  obtain ⟨w, ew, rw'⟩ := r.get h2
  have hl := r.length
  have hn := line63
  have fin : EP X pins σ Q w s := ⟨z, H, I, rw', q⟩
  by_cases h0 : 0 ≤ i
  · have hj : i.toNat = j := by
      rw [PySem.seqIndex_of h0 h5] at h1
      exact Option.some.inj h1
    exact PySem.wpAny_getItem_list pl.isList h0 (by omega) (by rw [hj]; simpa using ew) fin
  · have hj : (i + (its.toArray.size : Int)).toNat = j := by
      rw [PySem.seqIndex_neg (by omega) h4] at h1
      rw [List.size_toArray, ← hl]
      exact Option.some.inj h1
    exact PySem.wpAny_getItem_list_neg pl.isList (by omega) (by rw [List.size_toArray] <;> omega) (by omega) (by rw [hj]; simpa using ew) fin
theorem same_new {H : Hp} {p : Addr} {o : HO} (h : H p = none) : Same H (upd H p o) := fun b u q => by rw [upd_ne (ne_of_none q h)]; exact q
/-- all but d as it was -/
def But (d : Addr) (H H' : Hp) : Prop := ∀ b o, H b = some o → b ≠ d → H' b = some o
theorem But.refl {d : Addr} {H : Hp} : But d H H := fun _ _ e _ => e
theorem But.trans {d : Addr} {H H1 H2 : Hp} (x : But d H H1) (y : But d H1 H2) : But d H H2 := fun b o e n => y b o (x b o e n) n
theorem But.put {d : Addr} {H H1 : Hp} {o : HO} (x : But d H H1) : But d H (upd H1 d o) := fun b u e n => by
  rw [upd_ne n]
  exact x b u e n
theorem But.new {d p : Addr} {H H1 : Hp} {o : HO} (x : But d H H1) (n : H1 p = none) : But d H (upd H1 p o) := fun b u e nb => by
  have q := x b u e nb
  rw [upd_ne (ne_of_none q n)]
  exact q
theorem But.same {d : Addr} {H H1 H2 : Hp} (x : But d H H1) (s : Same H1 H2) : But d H H2 := fun b u e nb => s _ _ (x b u e nb)
theorem at_map {ns : List Int} {k : Int} (h0 : 0 ≤ k) (h : k < (ns.length : Int)) : ∃ v : Int, atI (ns.map V.int) k = some (.int v) ∧ v ∈ ns := by
  have hk : k.toNat < ns.length := by omega
  have ek : k = ((k.toNat : Nat) : Int) := by omega
  have q : atI (ns.map V.int) ((k.toNat : Nat) : Int) = some (.int ns[k.toNat]) := atI_nat (by rw [List.getElem?_map, List.getElem?_eq_getElem hk] <;> rfl)
  rw [← ek] at q
  exact ⟨_, q, List.getElem_mem _⟩
theorem at_any {α : Type} {xs : List α} {k : Int} (h0 : 0 ≤ k) (h : k < (xs.length : Int)) : ∃ v : α, atI xs k = some v ∧ v ∈ xs := by
  have hk : k.toNat < xs.length := by omega
  have ek : k = ((k.toNat : Nat) : Int) := by omega
  have q : atI xs ((k.toNat : Nat) : Int) = some xs[k.toNat] := atI_nat (List.getElem?_eq_getElem hk)
  rw [← ek] at q
  exact ⟨_, q, List.getElem_mem _⟩
theorem wide_ok {i j : Int} (h : 0 < j) (h2 : j < 2 ^ 100) : CDivW i j := wide_div (b := 100) h (by
  have e : ((j.natAbs : Nat) : Int) < ((2 ^ 100 : Nat) : Int) := by
    rw [Int.natCast_pow]
    show (j.natAbs : Int) < 2 ^ 100
    omega
  exact_mod_cast e) (by decide) (by decide)
theorem cut_map (ns : List Int) (hi : Option Int) : ∃ k : Nat, cutV (ns.map V.int) none hi = (ns.take k).map V.int := by
  refine ⟨HT.sIx ns.length ns.length hi, ?_⟩
  unfold cutV
  rw [HT.sIx_none, List.drop_zero, Nat.sub_zero, List.length_map, List.map_take]
theorem cut_nat {α : Type} (xs : List V) (k : Nat) : cutV xs none (some (k : Int)) = xs.take k := by
  unfold cutV
  rw [HT.sIx_none, List.drop_zero, Nat.sub_zero, HT.sIx_nat]
  by_cases h : k ≤ xs.length
  · rw [Nat.min_eq_left h]
  · rw [Nat.min_eq_right (by omega), List.take_of_length_le (Nat.le_refl _), List.take_of_length_le (by omega)]
theorem sz {n : Nat} (h : n ≤ 100000) : n ≤ sizeLine := Nat.le_trans h (by decide)
theorem szl {n : Nat} (h : n < 100000) : n < sizeLine := Nat.lt_of_lt_of_le h (by decide)
def spLaw (K : PySem.W.Frag) : Sp := fun vs H Q _ => ∃ (a : Addr) (ns : List Int), vs = [.ref a] ∧ SqL K H a (ns.map V.int) ∧ ns.length ≤ 63 ∧ (∀ z ∈ ns, Builtin.Int.intBits z ≤ 1048576) ∧ ∀ H', Q (.bl true) H'
/-! ### data of tuples -/
mutual
inductive Td (K : PySem.W.Frag) (H : Hp) : V → PyData → Prop
  | non : Td K H .non .none
  | bl (b : Bool) : Td K H (.bl b) (.bool b)
  | int (i : Int) : Td K H (.int i) (.int i)
  | str (x : Str) : Td K H (.str x) (.str x)
  | tup {a : Addr} {xs : List V} {ds : List PyData} : SqT K H a xs → TdAll K H xs ds → Td K H (.ref a) (.tuple ds)
inductive TdAll (K : PySem.W.Frag) (H : Hp) : List V → List PyData → Prop
  | nil : TdAll K H [] []
  | cons {v : V} {vs : List V} {d : PyData} {ds : List PyData} : Td K H v d → TdAll K H vs ds → TdAll K H (v :: vs) (d :: ds)
end
/-- tuples stay -/
def Tups (K : PySem.W.Frag) (H H' : Hp) : Prop := ∀ a xs, SqT K H a xs → SqT K H' a xs
theorem Tups.of_same {K : PySem.W.Frag} {H H' : Hp} (s : Same H H') : Tups K H H' := fun a xs h => by
  rcases h with h | h
  · rcases h with h | ⟨o, h⟩
    · exact .inl (.inl (s _ _ h))
    · exact .inl (.inr ⟨o, s _ _ h⟩)
  · exact .inr h
theorem Tups.of_but {K : PySem.W.Frag} {H H' : Hp} {d : Addr} {l : List V} (s : But d H H') (e : H d = some (.lst l)) : Tups K H H' := fun a xs h => by
  rcases h with h | h
  · rcases h with h | ⟨o, h⟩
    · exact .inl (.inl (s _ _ h (ne_of h e (by intro z; cases z))))
    · exact .inl (.inr ⟨o, s _ _ h (ne_of h e (by intro z; cases z))⟩)
  · exact .inr h
theorem Tups.trans {K : PySem.W.Frag} {H H1 H2 : Hp} (a : Tups K H H1) (b : Tups K H1 H2) : Tups K H H2 := fun p xs h => b _ _ (a _ _ h)
mutual
theorem Td.mono {K : PySem.W.Frag} {H H' : Hp} (t : Tups K H H') : ∀ {v : V} {d : PyData}, Td K H v d → Td K H' v d
  | _, _, .non => .non
  | _, _, .bl b => .bl b
  | _, _, .int i => .int i
  | _, _, .str x => .str x
  | _, _, .tup h k => .tup (t _ _ h) (TdAll.mono t k)
theorem TdAll.mono {K : PySem.W.Frag} {H H' : Hp} (t : Tups K H H') : ∀ {vs : List V} {ds : List PyData}, TdAll K H vs ds → TdAll K H' vs ds
  | _, _, .nil => .nil
  | _, _, .cons h k => .cons (Td.mono t h) (TdAll.mono t k)
end
mutual
theorem Td.dp {K : PySem.W.Frag} {H : Hp} : ∀ {v : V} {d : PyData}, Td K H v d → Dp K H v d
  | _, _, .non => .non
  | _, _, .bl b => .bl b
  | _, _, .int i => .int i
  | _, _, .str x => .str x
  | _, _, .tup h k => .tup h (TdAll.dp k)
theorem TdAll.dp {K : PySem.W.Frag} {H : Hp} : ∀ {vs : List V} {ds : List PyData}, TdAll K H vs ds → DpAll K H vs ds
  | _, _, .nil => .nil
  | _, _, .cons h k => .cons (Td.dp h) (TdAll.dp k)
end
theorem TdAll.length {K : PySem.W.Frag} {H : Hp} : ∀ {vs : List V} {ds : List PyData}, TdAll K H vs ds → vs.length = ds.length
  | _, _, .nil => rfl
  | _, _, .cons _ k => congrArg (· + 1) (TdAll.length k)
theorem TdAll.append {K : PySem.W.Frag} {H : Hp} : ∀ {vs ws : List V} {ds es : List PyData}, TdAll K H vs ds → TdAll K H ws es → TdAll K H (vs ++ ws) (ds ++ es)
  | _, _, _, _, .nil, k => k
  | _, _, _, _, .cons h k, z => .cons h (TdAll.append k z)
theorem TdAll.get {K : PySem.W.Frag} {H : Hp} : ∀ {vs : List V} {ds : List PyData}, TdAll K H vs ds → ∀ {v : V}, v ∈ vs → ∃ d, d ∈ ds ∧ Td K H v d
  | _, _, .nil, _, h => nomatch h
  | _, _, .cons (d := d) h k, v, m => by
    rcases List.mem_cons.mp m with e | m
    · subst e
      exact ⟨d, List.mem_cons_self, h⟩
    · obtain ⟨d', hd, t⟩ := TdAll.get k m
      exact ⟨d', List.mem_cons_of_mem _ hd, t⟩
theorem inV_str (w : Str) : ∀ ws : List Str, inV (.str w) (ws.map V.str) = decide (w ∈ ws)
  | [] => rfl
  | x :: r => by
    have ih := inV_str w r
    unfold inV at ih ⊢
    rw [List.map_cons, List.any_cons, ih]
    by_cases e : x = w
    · subst e
      simp [eqV]
    · have e2 : ¬ w = x := fun z => e z.symm
      simp [eqV, e, e2]
theorem flat_strs : ∀ ws : List Str, (ws.map V.str).all flatV = true
  | [] => rfl
  | _ :: r => by
    rw [List.map_cons, List.all_cons, flat_strs r]
    rfl
/-- the kinds -/
def kinds : List Str := ["a", "b", "c", "d", "e", "f", "g", "h"]
/-- a tuple as a target, the table and the number as they are written -/
theorem pg_tupK {X : Cx} {K : PySem.W.Frag} {pos : Pos} {es : List Expr} {k : Nat} {t : TGs} {n : Nat} (hK : X.K = K) (hc : X.calm = true) (h : PGs X es t)
    (hn : (assignEach es X.env).length = n) (hst : (assignEach es X.env).findIdx? (·.1) = none := by rfl) : PG X (.Tuple es k pos) (gTup K n t) := by
  subst hK
  exact pg_tup hc h hn hst
theorem cut_tail (x : V) (ps : List V) : cutV (x :: ps) (some 1) none = ps := by
  unfold cutV
  rw [show (1 : Int) = ((1 : Nat) : Int) from rfl, HT.sIx_nat, HT.sIx_none, List.length_cons]
  have e : min 1 (ps.length + 1) = 1 := by omega
  rw [e, List.drop_succ_cons, List.drop_zero, Nat.add_sub_cancel, List.take_of_length_le (Nat.le_refl _)]
theorem u1 {k : Nat} {A : Around} (h : Room k A) : A.units + 1 < cLine := by
  have := h.units
  omega
theorem u0 {k : Nat} {A : Around} (h : Room k A) : A.units < cLine := by
  have := h.units
  omega
theorem u65 {k : Nat} {A : Around} (h : Room k A) : A.units + 65 < cLine := by
  have := h.un
  omega
theorem op_in_seqK {X : Cx} {K : PySem.W.Frag} (hK : X.K = K) : OpR X (compareOp .In) (rIn K false) := by
  subst hK
  exact op_in_seq
theorem op_notIn_seqK {X : Cx} {K : PySem.W.Frag} (hK : X.K = K) : OpR X (compareOp .NotIn) (rIn K true) := by
  subst hK
  exact op_notIn_seq

/-! ### own exceptions as values -/
def veB : List Value := [.type "ValueError", .type "Exception", .type "BaseException", .type "object"]
/-- an exception object of the class C, not raised, with or without fields -/
def ExAt (H : Hp) (a C : Addr) : Prop := H a = some (ExO (.ref C) a) ∨ ∃ (d : Addr) (fs : List (Str × V)), H a = some (exo a C (some d)) ∧ H d = some (exd d fs)
theorem ExAt.same {H H' : Hp} {a C : Addr} (s : Same H H') (h : ExAt H a C) : ExAt H' a C := by
  rcases h with h | ⟨d, fs, h, g⟩
  · exact .inl (s _ _ h)
  · exact .inr ⟨d, fs, s _ _ h, s _ _ g⟩
section
variable {X : Cx}
theorem ExAt.inst {pins : List (Addr × Obj)} {σ : L2.St} {H : Hp} {s : Shared} {a C : Addr} (I : Inv X pins σ H s) (h : ExAt H a C) : ∃ (oe : Obj) (od : Option Obj), PySem.W.InstAt s.heap a oe C od := by
  rcases h with h | ⟨d, fs, h, g⟩
  · obtain ⟨⟨oe, vs, ho, hz, hd, _⟩, _, _⟩ := I.hok a _ h
    refine ⟨oe, none, ho, hz.1, ?_, ?_⟩
    · unfold PySem.W.notCls
      rw [hd]
    · rw [hz.2]
      trivial
  · obtain ⟨t1, ho⟩ := exo_at I.hok h
    obtain ⟨mA, hm, _⟩ := exd_at I.hok g
    obtain ⟨od, hod, _⟩ := lookIn_ns hm
    exact ⟨_, some od, ho, rfl, rfl, hod⟩
theorem pe_exc0 {C : Addr} {x : Str} {p pos : Pos} (hc : PySem.W.excIn X.K C veB "ValueError.__new__" = true) (gC : X.mg x = some (.ref C)) (kC : PySem.W.keepIn X.K (.ref C) = true) (hg : Gl X x) (hdb : (x == ("__debug__" : Str)) = false := by decide) :
    PE X (.Call (.Name x p) [] [] pos) (fun _ H Q => ∀ a, H a = none → Q (.ref a) (upd H a (ExO (.ref C) a))) := by
  constructor
  intro pins st σ H Q I h
  refine wpAny_Call_Name_kw (ld_glob I hg gC ?_ hdb)
  refine PySem.W.callWith_K0 I.kIn kC ?_
  obtain ⟨bm, N, nm, qn, bs, hdct, sn, sub, ab, col, dd, k0, k1, k2, k3, k5, mN, hC, hN, hni, OT⟩ := exc_obj I.kIn hc
  refine wpAny_call_exc_subT PySem.F.excBase_ValueError OT hC hN hni (fun h' a hm => ?_) (Nat.zero_le _)
  have free : H a = none := I.hok.gone hm.new
  obtain ⟨t, ht, _, _⟩ := hm.there
  have ok : ObjOk X.prog X.w (upd H a (ExO (.ref C) a)) h' a (ExO (.ref C) a) := exO_ok ht ⟨rfl, rfl⟩ rfl rfl rfl (show 4 < 6 by decide)
  exact ⟨.ref a, _, I.laidN hm.keeps hm.new free ok, rfl, h a free⟩
/-- C(e, ..), C an own exception class with an own __init__, as a value -/
def tOexV (C : Addr) (sp : Sp) (ta : TA) : TE := fun σ H Q => ta σ H fun vs H1 => vs.length ≤ 1000 ∧ ∀ a, H1 a = none → sp (.ref a :: vs) (upd H1 a (exo a C none)) (fun v H2 => v = .non ∧ Q (.ref a) H2) (fun _ _ _ => False)
theorem pe_oexV {x : Str} {C fI : Addr} {k : Nat} {fd : FuncData} {ps : List Str} {sp : Sp} {e : Expr} {es : List Expr} {ta : TA} {p pos : Pos} (OC : OexC X.K C) (iC : PySem.W.findIn X.K (.ref C) "__init__" = some (some (.ref fI)))
    (tI : PySem.W.typeIn X.K (.ref fI) = some (.type "function")) (F1 : FnOk X.prog X.w X.K X.mg X.base CX0 k fI fd ps sp) (hr : Room (k + 1) X.A) (hb : Binds X.K fd ps []) (hg : Gl X x) (hm : X.mg x = some (.ref C)) (ha : PA X (e :: es) ta)
    (hdb : (x == ("__debug__" : Str)) = false := by decide) (he : starEach (e :: es) X.env = (false, eval e X.env) :: starEach es X.env := by rfl) (hpl : (backTo pos (starEach es X.env)).any (·.1) = false := by rfl) :
    PE X (.Call (.Name x p) (e :: es) [] pos) (tOexV C sp ta) := by
  constructor
  intro pins st σ H Q I h
  obtain ⟨nm, q, N, bs, bm, sn, sub, ab, col, dd, k0, k1, k2, k3, k5, hC, hbm⟩ := OC.cls
  refine wpAny_Call_Name_kw (ld_glob I hg hm ?_ hdb)
  refine PySem.W.callWith_K (h₀ := X.base) I.ok.mod.kin OC.kC (thn (ha.run pos pins st σ H _ I h) fun us s1 z => ?_) he hpl
  obtain ⟨vs, H1, I1, r1, hz, q1⟩ := z
  refine ⟨I1.kIn, ?_⟩
  obtain ⟨hp, g, dr, tk, os⟩ := s1
  have hn : H1 (hp.objs.size + 1) = none := I1.hok.fresh (Nat.le_succ _)
  have hq := q1 _ hn
  have kk : ∀ b o, hp.get? b = some o → ((hp.push (PySem.W.kdv_tup us)).push (PySem.HandSPX.excO C hp.objs.size)).get? b = some o := fun b o z =>
    Heap.get?_push_of_some _ (Heap.get?_push_of_some _ z)
  have hget : ((hp.push (PySem.W.kdv_tup us)).push (PySem.HandSPX.excO C hp.objs.size)).get? (hp.objs.size + 1) = some (PySem.HandSPX.excO C hp.objs.size) := by
    heap_get
  have I2 : Inv X pins σ (upd H1 (hp.objs.size + 1) (exo (hp.objs.size + 1) C none)) ⟨(hp.push (PySem.W.kdv_tup us)).push (PySem.HandSPX.excO C hp.objs.size), g, dr, tk, os⟩ :=
    I1.laid (t' := tk) (a := hp.objs.size + 1) (o := exo (hp.objs.size + 1) C none) (h' := (hp.push (PySem.W.kdv_tup us)).push (PySem.HandSPX.excO C hp.objs.size)) kk (Nat.le_succ _) (exo_ok hget)
  have r2 : Vals (V.ref (hp.objs.size + 1) :: vs) (Value.ref (hp.objs.size + 1) :: us) := .cons rfl r1
  have hl : (Value.ref (hp.objs.size + 1) :: us).length = ps.length := by
    rw [← r2.length]
    exact F1.len _ _ _ _ hq
  have hus : us.length ≤ sizeLine := by
    rw [← Paired.length r1, sizeLine_eq]
    omega
  have hb2 := hb ⟨(hp.push (PySem.W.kdv_tup us)).push (PySem.HandSPX.excO C hp.objs.size), g, dr, tk, os⟩ (Value.ref (hp.objs.size + 1) :: us) I2.kIn (by rw [List.append_nil]; exact hl)
  rw [List.append_nil] at hb2
  refine wpAny_call (PySem.HandSPX.call_own PySem.F.excBase_ValueError (fun Y => PySem.HandSPX.refsVE_contains Y bm hbm) (I1.kIn _ _ hC) (PySem.W.looks_findIn I1.kIn iC) (fun self => PySem.W.bind_fn I1.kIn self tI) hus
    (codeAny_mono (F1.run _ X.stack _ _ ⟨Value.ref (hp.objs.size + 1) :: us, []⟩ (Value.ref (hp.objs.size + 1) :: us) _ _ (fun _ _ _ => False) (hr.make C us []) (I2.env0.make C us []) hb2 r2 hq) fun r s' z => ?_))
  cases r with
  | error er => exact absurd z id
  | ok fl =>
    cases fl with
    | ret u =>
      obtain ⟨v, H', J, rv, ev, qq⟩ := I2.after z
      subst ev
      exact ⟨rv, .ref (hp.objs.size + 1), H', J, rfl, qq⟩
    | next => exact absurd z id
    | brk => exact absurd z id
    | cont => exact absurd z id
/-- what isinstance asks of the class of an exception -/
structure XcC (K : PySem.W.Frag) (C : Addr) : Prop where
  cl : (PySem.W.clsIn K C).isSome = true
  hg : PySem.W.findIn K (.ref C) "__getattribute__" = some (some (.builtin "BaseException.__getattribute__"))
  hk : PySem.W.findIn K (.ref C) "__getattr__" = some none
  hs : PySem.W.subIn K (.ref C) (.type "BaseException") = some true
  ha : PySem.W.findIn K (.ref C) "__class__" = some (some (.builtin "object.__class__"))
  hn : PySem.W.specialIn K (.builtin "object.__class__") "__get__" = some (some (.builtin "getset_descriptor.__get__"))
  ht : PySem.W.takesIn K (.builtin "object.__class__") = some true
  hm : PySem.W.mroIn K C (.type "object") = some true
def xcB (K : PySem.W.Frag) (C : Addr) : Bool := (PySem.W.clsIn K C).isSome && (decide (PySem.W.findIn K (.ref C) "__getattribute__" = some (some (.builtin "BaseException.__getattribute__"))) && (decide (PySem.W.findIn K (.ref C) "__getattr__" = some none) &&
  (decide (PySem.W.subIn K (.ref C) (.type "BaseException") = some true) && (decide (PySem.W.findIn K (.ref C) "__class__" = some (some (.builtin "object.__class__"))) && (decide (PySem.W.specialIn K (.builtin "object.__class__") "__get__" = some (some (.builtin "getset_descriptor.__get__"))) &&
  (decide (PySem.W.takesIn K (.builtin "object.__class__") = some true) && decide (PySem.W.mroIn K C (.type "object") = some true)))))))
theorem xcB_ok {K : PySem.W.Frag} {C : Addr} (h : xcB K C = true) : XcC K C := by
  unfold xcB at h
  simp only [Bool.and_eq_true, decide_eq_true_eq] at h
  obtain ⟨h1, h2, h3, h4, h5, h6, h7, h8⟩ := h
  exact ⟨h1, h2, h3, h4, h5, h6, h7, h8⟩
def rIsX (K : PySem.W.Frag) : List V → Hp → VK → Prop := fun xs H Q => ∃ (a C : Addr) (c : V) (cv : Value) (b : Bool), xs = [.ref a, c] ∧ ExAt H a C ∧ XcC K C ∧ ClsV c cv ∧ PySem.W.kitOne K (.ref C) cv = some b ∧ Q (.bl b) H
theorem call_isX : CallR X (.builtin "isinstance") (rIsX X.K) := by
  intro pins st σ H xs us Q I r h
  obtain ⟨a, C, c, cv, b, rfl, ex, xc, kc, e, q⟩ := h
  obtain ⟨u1, u2, rfl, r1, r2⟩ := vals2 r
  cases r1
  have e2 := kc.eq r2
  subst e2
  obtain ⟨oe, od, J⟩ := ex.inst I
  exact PySem.W.kia_one (PySem.W.kitx_exc xc.cl xc.hg xc.hk xc.hs xc.ha xc.hn xc.ht xc.hm) I.kIn J e (fun z => nomatch z) fun tk => ⟨.bl b, H, I.kept (t' := tk) fun _ _ z => z, rfl, q⟩
theorem call_isXK {K : PySem.W.Frag} (hK : X.K = K) : CallR X (.builtin "isinstance") (rIsX K) := by
  subst hK
  exact call_isX
/-- e.f of such an object -/
def tXv (K : PySem.W.Frag) (f : Str) (te : TE) : TE := fun σ H Q => te σ H fun x H1 => ∃ (a C d : Addr) (fs : List (Str × V)) (v : V), x = .ref a ∧ H1 a = some (exo a C (some d)) ∧ H1 d = some (exd d fs) ∧ XfC K C ∧ PySem.W.findIn K (.ref C) f = some none ∧ fs.lookup f = some v ∧ Q v H1
theorem pe_xv {e : Expr} {te : TE} {pos : Pos} {n : Str} (he : PE X e te) (hb : attributeBase e n X.env (eval e X.env) = eval e X.env := by rfl) : PE X (.Attribute e n pos) (tXv X.K n te) := by
  constructor
  intro pins st σ H Q I h
  refine attr_of hb (thn (he.run pins st σ H _ I h) fun u s1 z => ?_)
  obtain ⟨x, H1, I1, rx, a, C, d, fs, v, rfl, h1, h2, xf, hno, hl, q⟩ := z
  cases rx
  obtain ⟨t1, ho⟩ := exo_at I1.hok h1
  obtain ⟨mA, hns, hrel⟩ := exd_at I1.hok h2
  obtain ⟨od, hod, hlk⟩ := lookIn_ns hns
  obtain ⟨u, hu, ru⟩ := RelO.some_of (v := v) (o := mA n) (by rw [← hl]; exact hrel n)
  have J : PySem.W.InstAt s1.heap a _ C (some od) := ⟨ho, rfl, rfl, hod⟩
  exact HandSPX.exc_get I1.kIn J xf.ga xf.gg xf.exC (PySem.W.findObj_own xf.hdC hno rfl (by rw [hlk, hu])) (handed_of ru) ⟨v, H1, I1.tok _, ru, q⟩
end
/-! ### facts of the written part, by one kernel run each -/
/-- a written tuple of texts -/
def strOf : Value → Option Str
  | .str x _ => some x
  | _ => none
def tupB (K : PySem.W.Frag) (a : Addr) (ws : List Str) : Bool := match K.lookup a with
  | some o => decide (o.cls = .type "tuple") && (match o.data with
    | .seq its _ => decide (its.size ≤ 1000) && decide (its.toList.map strOf = ws.map some)
    | _ => false)
  | none => false
theorem vals_str : ∀ {us : List Value} {ws : List Str}, us.map strOf = ws.map some → Vals (ws.map V.str) us
  | [], [], _ => .nil
  | [], _ :: _, h => nomatch h
  | _ :: _, [], h => nomatch h
  | u :: us, w :: ws, h => by
    rw [List.map_cons, List.map_cons] at h
    obtain ⟨h1, h2⟩ := List.cons.inj h
    refine .cons ?_ (vals_str h2)
    cases u with
    | str x t =>
      have e : x = w := Option.some.inj h1
      subst e
      exact ⟨t, rfl⟩
    | _ => exact nomatch h1
theorem tupB_ok {K : PySem.W.Frag} {a : Addr} {ws : List Str} (h : tupB K a ws = true) (H : Hp) : SqT K H a (ws.map V.str) := by
  unfold tupB at h
  split at h
  · rename_i o ho
    rw [Bool.and_eq_true] at h
    obtain ⟨h1, h2⟩ := h
    split at h2
    · rename_i its n hd
      rw [Bool.and_eq_true] at h2
      exact .inr ⟨o, its, n, ho, of_decide_eq_true h1, hd, sz (Nat.le_trans (of_decide_eq_true h2.1) (by decide)), vals_str (of_decide_eq_true h2.2)⟩
    · cases h2
  · cases h
/-- the refusals among one another, and under the first of them -/
def kitsB (K : PySem.W.Frag) (t : Addr) (cs : List Addr) : Bool := (List.range cs.length).all fun i => decide (PySem.W.kitOne K (.ref (cs.getD i 0)) (.ref t) = some true) && (List.range cs.length).all fun j => decide (PySem.W.kitOne K (.ref (cs.getD i 0)) (.ref (cs.getD j 0)) = some (decide (i = j)))
theorem kitsB_top {K : PySem.W.Frag} {t : Addr} {cs : List Addr} (h : kitsB K t cs = true) {i : Nat} (hi : i < cs.length) : PySem.W.kitOne K (.ref (cs.getD i 0)) (.ref t) = some true := by
  unfold kitsB at h
  have z := List.all_eq_true.mp h i (List.mem_range.mpr hi)
  rw [Bool.and_eq_true] at z
  exact of_decide_eq_true z.1
theorem kitsB_two {K : PySem.W.Frag} {t : Addr} {cs : List Addr} (h : kitsB K t cs = true) {i j : Nat} (hi : i < cs.length) (hj : j < cs.length) : PySem.W.kitOne K (.ref (cs.getD i 0)) (.ref (cs.getD j 0)) = some (decide (i = j)) := by
  unfold kitsB at h
  have z := List.all_eq_true.mp h i (List.mem_range.mpr hi)
  rw [Bool.and_eq_true] at z
  exact of_decide_eq_true (List.all_eq_true.mp z.2 j (List.mem_range.mpr hj))
def dws : List Str := ["new", "put", "paint", "tie", "cut", "add", "spread"]

end My
namespace My
open PySem PySem.Spec PyProof.Rows L2
/-! ### an exception caught and kept -/
/-- at a stands an exception of the class cls that was raised -/
def ExC (cls : Value) (d : Option Addr) (a : Addr) : HO := .ext fun h => ∃ (oe : Obj) (vs : Array Value), h.get? a = some oe ∧ Zc cls d oe ∧ oe.data = .fields vs
theorem exC_ok {P : Program} {w : World} {H : Hp} {h : Heap} {a : Addr} {cls : Value} {d : Option Addr} {oe : Obj} {vs : Array Value} (e : h.get? a = some oe) (z : Zc cls d oe) (dd : oe.data = .fields vs) : ObjOk P w H h a (ExC cls d a) := by
  refine ⟨⟨oe, vs, e, z, dd⟩, ⟨oe, e⟩, ?_⟩
  rintro h1 h2 ⟨o, v, e1, z1, d1⟩ st
  exact ⟨o, v, st _ e1, z1, d1⟩
/-- what stood nowhere at sI is none of the context's own: it may be tracked -/
theorem inv_seen {X : Cx} {pins : List (Addr × Obj)} {σI σ : L2.St} {HI H : Hp} {sI s : Shared} {a : Addr} {o : HO} (J : Inv X pins σI HI sI) (new : sI.heap.get? a = none) (I : Inv X pins σ H s) (na : H a = none) (ok : ObjOk X.prog X.w (upd H a o) s.heap a o) :
    Inv X pins σ (upd H a o) s := by
  have old : ∀ {b : Addr} {ob : Obj}, sI.heap.get? b = some ob → upd H a o b = H b := fun {b ob} e => upd_ne fun z => by
    rw [z, new] at e
    cases e
  have trk : ∀ {b : Addr} {u : HO}, H b = some u → upd H a o b = some u := fun {b u} e => (upd_ne (ne_of_none e na)).trans e
  refine ⟨I.ok, I.os, I.bare, ⟨I.base.keep, I.base.slot, ?_, I.base.there, ?_, ?_, ?_⟩, I.loc, I.cell, ?_, ?_, ?_, ?_, I.len⟩
  · intro b ob e nb hx
    obtain ⟨o', e'⟩ := J.base.there b ob e hx
    rw [old e']
    exact I.base.free b ob e nb hx
  · intro b xs e
    exact trk (I.base.tups b xs e)
  · intro b ob u e
    exact trk (I.base.frzs b ob u e)
  · intro b ps e
    obtain ⟨more, q⟩ := I.base.tbls b ps e
    exact ⟨more, trk q⟩
  · obtain ⟨m, ⟨ol, _, _, el, _⟩, _⟩ := J.loc
    rw [old el]
    exact I.free
  · intro y c e
    obtain ⟨v, oc, ec, _⟩ := J.cell y c e
    rw [old ec]
    exact I.freeC y c e
  · intro p hp
    obtain ⟨p1, p2, p3⟩ := I.pin p hp
    exact ⟨p1, (old (J.pin p hp).1).trans p2, p3⟩
  · intro b u e
    by_cases hb : b = a
    · subst hb
      rw [upd_same] at e
      cases e
      exact ok
    · rw [upd_ne hb] at e
      exact (I.hok b u e).stay (fun _ _ _ q => q) (fun _ q => trk q) fun _ _ q => trk q
/-- what 'except x as n' wishes, the exception kept behind it -/
def wKeep (K : PySem.W.Frag) (c : Value) (i : Nat) (ts : Addr → TS) (D : Ends) : WX := fun cls d σ H =>
  PySem.W.exmOne K cls c = some true ∧ ∀ a, H a = none → ts a { nx := fun σ' H' => H' a = none ∧ D.nx (σ'.set i none) (upd H' a (ExC cls d a)), rt := fun _ _ => False, bk := fun _ _ => False, ct := fun _ _ => False } (σ.set i (some (.ref a))) H
theorem ps_try_keep {X : Cx} {x n : Str} {c : Value} {i : Nat} {body suite : List Stmt} {b0 : Stmt} {np pos pos' : Pos} {tb : WX → TS} {ts : Addr → TS} (stk : X.stack = X.env :: X.outer) (frm : X.env.frame = some X.env.locals) (nd : X.N.Nodup) (hi : X.N[i]? = some n) (loc : X.env.kindOf n = some .local) (nm : Names X x c)
    (hb : ∀ (W : WX) (pn : List (Addr × Obj)) (xe : Value → Shared → Prop), Takes (X.tr pn xe) W → PSs (X.tr pn xe) body (tb W))
    (hsu : ∀ (a : Addr) (pn : List (Addr × Obj)), PSs (X.suite a pn) (b0 :: suite) (ts a)) :
    PS X (.Try body [.ExceptHandler (some (.Name x np)) (some n) (b0 :: suite) pos'] [] [] pos) (fun D σ H => tb (wKeep X.K c i ts D) D σ H) := by
  constructor
  intro pins s σ H D I h
  have frs' : X.A.frames = some (X.env :: X.outer) := by rw [I.ok.frames, stk]
  refine wpAny_Try_except (wpAny_mono ((hb (wKeep X.K c i ts D) (X.pn ++ pins) _ fun u s' ex => ?_).run [] s σ H D (I.toTry _) h) (fun f s1 sp => ?_) fun e s1 q => q)
  · obtain ⟨a, B, sI, pins', σ', H', cls, d, rfl, JT, nb, up, sky, na, os, ag, hm, go⟩ := ex
    have J : Inv X pins σ' H' sI := JT.ofTry I.ok
    have sky2 : Sky B (X.env :: X.outer) a (Zc cls d) X.env.locals s'.heap := stk ▸ sky
    refine Sky.land Zc.steady frs' frm sky2 fun h3 fl3 up3 => ?_
    have J3 : Inv X pins σ' H' { s' with heap := h3 } := J.landed nb fl3.1 (up.trans up3) os ag
    have away : ∀ {hp : Heap} {o : Obj} {vs : Array Value}, hp.FunFrames B (X.env :: X.outer) → hp.get? a = some o → o.data = .fields vs → a ∉ frs (X.env :: X.outer) := fun {hp o vs} ff e dd m => by
      obtain ⟨_, o', e', nf⟩ := ff.mem m
      rw [e] at e'
      cases e'
      exact nf _ dd
    obtain ⟨oe3, vs3, he3, hz3, hd3⟩ := fl3.there
    have nfr := away fl3.2.2.1 he3 hd3
    have nl : a ≠ X.env.locals := fun z => nfr (List.mem_filterMap.mpr ⟨X.env, List.mem_cons_self, by rw [frm, z]⟩)
    have nfs : a ∉ X.fs := fun m => by
      obtain ⟨e, he, q⟩ := List.mem_filterMap.mp m
      exact nfr (List.mem_filterMap.mpr ⟨e, List.mem_cons_of_mem _ he, q⟩)
    have newI : sI.heap.get? a = none := by
      cases q : sI.heap.get? a with
      | none => rfl
      | some ob =>
        have z := nb a ob q (by rw [stk]; exact nfr)
        rw [fl3.2.1] at z
        cases z
    have S3 := J3.suite he3 hd3 na nl nfs
    refine wpAny_handleBy_cons (codeAny_handlers_test ?_) (fun z => nomatch z)
    have name : ∀ {Q' : Value → Shared → Prop} {E' : Value → Shared → Prop}, Q' c { s' with heap := h3 } → wpAny (model X.prog X.w) (X.A.mark (some (.ref a))) (eval (.Name x np) X.env) Q' E' { s' with heap := h3 } := fun {Q' E'} q => by
      obtain ⟨gl, dbg, hit | ⟨miss, bt, nn⟩⟩ := nm
      · exact ld_glob (X := X.suite a ((a, oe3) :: (X.pn ++ pins))) S3 gl hit q dbg
      · exact ld_blt (X := X.suite a ((a, oe3) :: (X.pn ++ pins))) S3 gl miss bt q nn dbg
    have looks : PySem.W.Looks (model X.prog X.w) h3 (typeOf (.ref a)) cls := fun A' Q' E' t k q => wpAny_typeOf_ref (k _ _ he3) (hz3.1.symm ▸ q)
    refine name ((PySem.W.exm_one (M := model X.prog X.w) J3.kIn looks hm).here (codeAny_handlers_suite_as (HandSPX.lands_againZ fl3 fun h4 fl4 up4 => ?_)))
    · have J4 : Inv X pins σ' H' { s' with heap := h4 } := J.landed nb fl4.1 ((up.trans up3).trans up4) os ag
      obtain ⟨oe4, vs4, he4, hz4, hd4⟩ := fl4.there
      refine store_ok (X := X.suite a ((a, oe4) :: (X.pn ++ pins))) (v := .ref a) (J4.suite he4 hd4 na nl nfs) nd hi (.inl loc) rfl (fun s5 S5 => ?_) (.inr loc)
      refine wpAny_mono ((hsu a ((a, oe4) :: (X.pn ++ pins))).run [] s5 _ H' _ S5 (go a na)) (fun f s6 sp => ?_) fun _ _ z => (show False from z).elim
      cases f with
      | next =>
        obtain ⟨σ6, H6, S6, n6, q6⟩ := sp
        refine gone_ok (X := X.suite a ((a, oe4) :: (X.pn ++ pins))) S6 nd hi loc fun s7 S7 => ?_
        have at7 := (S7.pin (a, oe4) (List.mem_append_left _ List.mem_cons_self)).1
        exact ⟨_, _, inv_seen J newI (S7.unsuite I.ok) n6 (exC_ok at7 hz4 hd4), q6⟩
      | brk =>
        obtain ⟨_, _, _, z⟩ := sp
        exact (show False from z).elim
      | cont =>
        obtain ⟨_, _, _, z⟩ := sp
        exact (show False from z).elim
      | ret u =>
        obtain ⟨_, _, _, _, _, z⟩ := sp
        exact (show False from z).elim
  · cases f with
    | next =>
      obtain ⟨σ', H', J, q⟩ := sp
      exact wpAny_execs_nil ⟨σ', H', J.ofTry I.ok, q⟩
    | brk =>
      obtain ⟨σ', H', J, q⟩ := sp
      exact ⟨σ', H', J.ofTry I.ok, q⟩
    | cont =>
      obtain ⟨σ', H', J, q⟩ := sp
      exact ⟨σ', H', J.ofTry I.ok, q⟩
    | ret u =>
      obtain ⟨v, σ', H', J, r, q⟩ := sp
      exact ⟨v, σ', H', J.ofTry I.ok, r, q⟩

/-! ### a lambda of one parameter -/
structure LamP (sc scope : Scope) (p : Str) : Prop where
  kind : scope.kind = .function
  co : scope.isCoroutine = false
  gen : scope.isGenerator = false
  par : scope.names.lookup p = some .local
  own : ∀ y ∈ scope.names, y.2 ≠ .cell ∧ (y.2 = .local → y.1 = p)
  free : ∀ y ∈ scope.names, y.2 = .free → sc.names.lookup y.1 = some .cell ∨ sc.names.lookup y.1 = some .free
def lamPB (sc scope : Scope) (p : Str) : Bool := decide (scope.kind = .function) && (!scope.isCoroutine && (!scope.isGenerator && (decide (scope.names.lookup p = some .local) && scope.names.all fun y => !decide (y.2 = .cell) && ((!decide (y.2 = .local) || decide (y.1 = p)) && (!decide (y.2 = .free) || (decide (sc.names.lookup y.1 = some .cell) || decide (sc.names.lookup y.1 = some .free)))))))
theorem lamP_by {sc scope : Scope} {p : Str} (h : lamPB sc scope p = true) : LamP sc scope p := by
  unfold lamPB at h
  simp only [Bool.and_eq_true, Bool.or_eq_true, Bool.not_eq_true', decide_eq_true_eq, decide_eq_false_iff_not, List.all_eq_true] at h
  obtain ⟨h1, h2, h3, h4, h5⟩ := h
  refine ⟨h1, h2, h3, h4, fun y hy => ⟨(h5 y hy).1, fun e => ?_⟩, fun y hy e => ?_⟩
  · rcases (h5 y hy).2.1 with z | z
    · exact absurd e z
    · exact z
  · rcases (h5 y hy).2.2 with z | z
    · exact absurd e z
    · exact z
theorem LamP.has {X : Cx} {scope : Scope} {p : Str} (L : LamP X.env.scope scope p) (ok : X.Ok) {y : Str × NameKind} (hy : y ∈ scope.names) (e : y.2 = .free) : ∃ c, X.env.cells.lookup y.1 = some c := ok.has _ (L.free y hy e)
/-- the context of its body -/
def cxP (X : Cx) (A : Around) (outer : List Env) (s : Shared) (H : Hp) (E : XK) (scope : Scope) (p : Str) (f c' : Addr) : Cx := { LamX.lamCx X A outer s H E scope f c' with N := X.N ++ [p] }
section
variable {X : Cx} {pins : List (Addr × Obj)} {σ : L2.St} {H HZ : Hp} {s s1 : Shared} {A : Around} {outer : List Env} {E : XK} {scope : Scope} {p : Str} {f c' : Addr}
theorem lamP_start {h1 : Heap} {tk : Nat} {v : V} {u : Value} (I : Inv X pins σ H s) (L : LamP X.env.scope scope p) (np : ∀ (i : Nat) (v : V), X.N[i]? = some p → σ[i]? = some (some v) → False) (e0 : Env0 X.prog X.w X.K X.mg X.base A outer s1 HZ) (calm : A.handled = none)
    (un : Un (frs X.stack) [] H HZ s.heap s1.heap) (ns : h1.Ns s1.heap.objs.size fun y => ([(p, u)] : List (Str × Value)).reverse.lookup y) (kp : ∀ b o, s1.heap.get? b = some o → h1.get? b = some o) (r : RelV v u) :
    Inv (cxP X A outer s1 HZ E scope p f c') [] (σ ++ [some v]) HZ { s1 with heap := h1, toks := tk } := by
  -- the closure's cells are the maker's
  have back : ∀ {y : Str} {c : Addr}, (cloFrom X.env.cells scope.names []).lookup y = some c → X.env.cells.lookup y = some c := fun {y c} e => by
    rcases cloFrom_mem (PySem.mem_of_lookup e) with z | ⟨z, ec⟩
    · cases z
    · obtain ⟨c1, e1⟩ := L.has I.ok z rfl
      rw [ec, e1]
      rfl
  have fwd : ∀ {y : Str}, scope.names.lookup y = some .free → ∃ c, (cloFrom X.env.cells scope.names []).lookup y = some c := fun {y} e =>
    mem_lookup (cloFrom_has (cells := X.env.cells) (acc := []) (show (y, NameKind.free) ∈ scope.names from PySem.mem_of_lookup e))
  have cellOn : ∀ {c : Addr} {x : Option Value}, H c = none → s.heap.IsCell c x → h1.IsCell c x := fun {c x} n z => by
    obtain ⟨o, ho, hd⟩ := z
    obtain ⟨sl, q⟩ := un.any ho n (fun z => nomatch z)
    exact ⟨_, kp _ _ q, hd⟩
  have noCell : ∀ {y : Str}, scope.names.lookup y ≠ some .cell := fun {y} e => (L.own _ (PySem.mem_of_lookup e)).1 rfl
  have isOwn : ∀ {y : Str}, scope.names.lookup y = some .local → y = p := fun {y} e => (L.own _ (PySem.mem_of_lookup e)).2 rfl
  have ok : (cxP X A outer s1 HZ E scope p f c').Ok :=
    { mod := e0.mod
      kind := L.kind
      glob := rfl
      blt := rfl
      above := Nat.le_refl _
      inj := fun y z c e1 e2 => I.ok.inj y z c (back e1) (back e2)
      has := fun y hy => by
        rcases hy with hy | hy
        · exact absurd hy noCell
        · exact fwd hy
      cab := fun y c z _ => absurd (show false = true from z) Bool.false_ne_true
      hd := fun _ => calm
      frames := Around.frames_deeper e0.frames
      stk := .inr ⟨rfl, rfl⟩
      exf := fun b z => absurd (show b ∈ ([] : List Addr) from z) List.not_mem_nil
      bs := e0.bs
      bsz := e0.bsz
      noex := fun b _ _ z => absurd (show b ∈ ([] : List Addr) from z) List.not_mem_nil
      exfs := fun b z => absurd (show b ∈ ([] : List Addr) from z) List.not_mem_nil
      funs := e0.funs
      frf := e0.frf }
  refine ⟨ok, rfl, e0.bare, Un.kept kp, ⟨_, ns, fun i y x e1 e2 e3 => ?_⟩, fun y c e => ?_, e0.hok.fresh (Nat.le_refl _), fun y c e => ?_, fun q hq => absurd (show q ∈ ([] : List (Addr × Obj)) ++ [] from hq) List.not_mem_nil, e0.hok.kept kp, ?_⟩
  · have e1 : (X.N ++ [p])[i]? = some y := e1
    have e3 : Vis scope y := e3
    have ll : σ.length = X.N.length := I.len
    by_cases lt : i < X.N.length
    · rw [List.getElem?_append_left lt] at e1
      rw [List.getElem?_append_left (by rw [ll]; exact lt)] at e2
      have ny : y ≠ p := fun z => np i x (z ▸ e1) e2
      rcases e3 with k | k | k
      · exact absurd (isOwn k) ny
      · exact absurd k noCell
      · obtain ⟨m, _, at_⟩ := I.loc
        have fr := L.free _ (PySem.mem_of_lookup k) rfl
        obtain ⟨u', r', q⟩ := at_ i y x e1 e2 (.inr fr)
        obtain ⟨c, ec⟩ := fwd k
        refine ⟨u', r', .inr ⟨.inr k, c, ec, ?_⟩⟩
        rcases q with ⟨k', _⟩ | ⟨_, c2, ec2, z⟩
        · have k' : X.env.scope.names.lookup y = some .local := k'
          rcases fr with k2 | k2
          · rw [k'] at k2
            cases k2
          · rw [k'] at k2
            cases k2
        · rw [back ec] at ec2
          cases ec2
          exact cellOn (I.freeC y c (back ec)) z
    · have ge : X.N.length ≤ i := Nat.le_of_not_lt lt
      rw [List.getElem?_append_right ge] at e1
      rw [List.getElem?_append_right (by rw [ll]; exact ge), ll] at e2
      cases hi : i - X.N.length with
      | zero =>
        rw [hi] at e1 e2
        have ey : p = y := Option.some.inj e1
        have ev : v = x := Option.some.inj (Option.some.inj e2)
        subst ey ev
        refine ⟨u, r, .inl ⟨L.par, ?_⟩⟩
        show ([(p, u)] : List (Str × Value)).lookup p = some u
        rw [List.lookup_cons, beq_self_eq_true]
      | succ n =>
        rw [hi] at e1
        cases e1
  · obtain ⟨x, z⟩ := I.cell y c (back e)
    exact ⟨x, cellOn (I.freeC y c (back e)) z⟩
  · obtain ⟨x, o, ho, _⟩ := I.cell y c (back e)
    exact un.free c o ho (I.freeC y c (back e)) (fun z => nomatch z)
  · show (σ ++ [some v]).length = (X.N ++ [p]).length
    rw [List.length_append, List.length_append, I.len]
    rfl
/-- the lambda at f called with one thing, at any time behind its making -/
theorem lamP_run {k : Nat} {params : Arguments} {b : Expr} {pm ctv : Value} {tb : TE} {v : V} {u : Value} {Q : VK} (I : Inv X pins σ H s) (L : LamP X.env.scope scope p) (np : ∀ (i : Nat) (v : V), X.N[i]? = some p → σ[i]? = some (some v) → False)
    (hf : s.heap.get? f = some (PySem.W.kla_obj "<lambda>" (X.env.qual ++ "<lambda>") params b scope (cloFrom X.env.cells scope.names []) pm c' ctv)) (hfn : H f = none) (hfr : f ∉ frs X.stack)
    (bind : ∀ u, bindArgs (PySem.W.kla_fn "<lambda>" (X.env.qual ++ "<lambda>") params b scope (cloFrom X.env.cells scope.names []) pm (.ref c') ctv) ⟨[u], []⟩ = pure [(p, u)]) (room : Room (k + 1) A) (e0 : Env0 X.prog X.w X.K X.mg X.base A outer s1 HZ)
    (un : Un (frs X.stack) [] H HZ s.heap s1.heap) (code : HZ c' = some (LamX.CodeO c' (X.env.qual ++ "<lambda>"))) (body : ∀ (A : Around) (outer : List Env) (s : Shared) (H : Hp), Room k (A.deeper (LamX.lamEnv X scope s.heap.objs.size f c')) → PE (cxP X A outer s H E scope p f c') b tb)
    (r : RelV v u) (t : tb (σ ++ [some v]) HZ Q) : codeAny (model X.prog X.w) A (.call (.ref f) ⟨[u], []⟩) (CR (L2.CX X.prog X.w) outer X.prog X.w HZ s1 Q E) s1 := by
  have here := un.keep f _ hf hfn hfr (fun z => nomatch z)
  obtain ⟨⟨oc, vs, tk, ho, hd, hv⟩, _, _⟩ := e0.hok c' _ code
  refine PySem.W.kla_callFunE room.depth here rfl L.co L.gen rfl ⟨c', oc, vs, tk, rfl, ho, hd, hv⟩ ?_
  rw [bind u]
  refine wpAny_pure (wpAny_newFunctionEnv (fun y hy => (L.own y hy).1) (fun y hy => ?_) (fun h1 ns sb => ⟨?_, ?_⟩) L.kind)
  · rw [List.mem_singleton.mp hy]
    exact L.par
  · have kin : s1.heap.NoLimit := e0.mod.nolimit.keeps fun b o e => (e0.bs b o e).1
    exact kin.fresh _ sb
  · have kp : ∀ b o, s1.heap.get? b = some o → h1.get? b = some o := fun b o e => sb.extBut b o (Nat.ne_of_lt (Heap.lt_size e)) (Heap.get?_push_of_some _ e)
    have J := lamP_start (E := E) (f := f) (c' := c') (tk := s1.toks + ([(p, u)] : List (Str × Value)).length) I L np e0 room.hd un ns kp r
    show codeAny _ _ (.expr b (LamX.lamEnv X scope s1.heap.objs.size f c')) _ _
    refine PySem.W.kla_codeExpr (wpAny_mono ((body _ _ s1 HZ (room.deeper _)).run [] _ _ HZ Q J t) (fun w' s' z => ?_) fun e s' z => z)
    obtain ⟨x, H', J', rx, q⟩ := z
    exact ⟨x, H', J'.os, J'.bare, J'.base, J'.hok, rx, q⟩
end
/-! ### it is called by the def that got it -/
/-- that def's context, entered at s -/
abbrev gotCx (X : Cx) (Ng : List Str) (x : Str) (sg : Scope) (g : Addr) (cdg : Value) (s : Shared) (H : Hp) : Cx := cxOf CX0 X.prog X.w X.K X.mg X.base Ng x sg g cdg X.A X.stack s H E0
/-- a(e), a's slot the i-th: e's reading, then the lambda's of e's value -/
def tAct (i : Nat) (f c' : Addr) (q : Str) (ta : TA) (W : WX) (tl : XK → V → Hp → VK → Prop) : TE := fun σ H Q => σ[i]? = some (some (.ref f)) ∧ ta σ H fun vs H1 => ∃ v, vs = [v] ∧ H1 c' = some (LamX.CodeO c' q) ∧ tl (fun cls d H' => W cls d σ H') v H1 Q
theorem pe_actP {X : Cx} {pins : List (Addr × Obj)} {σ : L2.St} {H : Hp} {s : Shared} {scope : Scope} {p x a : Str} {f c' g : Addr} {k i : Nat} {params : Arguments} {b e : Expr} {pm ctv cdg : Value} {tb : XK → TE} {ta : TA} {Ng : List Str} {sg : Scope} {pn : List (Addr × Obj)} {xe : Value → Shared → Prop} {W : WX} {p1 p2 : Pos}
    (I : Inv X pins σ H s) (L : LamP X.env.scope scope p) (np : ∀ (i : Nat) (v : V), X.N[i]? = some p → σ[i]? = some (some v) → False) (hf : s.heap.get? f = some (PySem.W.kla_obj "<lambda>" (X.env.qual ++ "<lambda>") params b scope (cloFrom X.env.cells scope.names []) pm c' ctv)) (hfn : H f = none) (hfr : f ∉ frs X.stack)
    (bind : ∀ u, bindArgs (PySem.W.kla_fn "<lambda>" (X.env.qual ++ "<lambda>") params b scope (cloFrom X.env.cells scope.names []) pm (.ref c') ctv) ⟨[u], []⟩ = pure [(p, u)])
    (tk : Takes ((gotCx X Ng x sg g cdg s H).tr pn xe) W) (room : Room (k + 1) (X.A.deeper (envOfC x sg s.heap.objs.size g cdg)))
    (body : ∀ (A : Around) (outer : List Env) (s : Shared) (H : Hp) (E : XK), Room k (A.deeper (LamX.lamEnv X scope s.heap.objs.size f c')) → PE (cxP X A outer s H E scope p f c') b (tb E))
    (at_ : Ng[i]? = some a) (vis : Vis sg a) (args : PA ((gotCx X Ng x sg g cdg s H).tr pn xe) [e] ta)
    (star : starEach [e] ((gotCx X Ng x sg g cdg s H).tr pn xe).env = (false, eval e ((gotCx X Ng x sg g cdg s H).tr pn xe).env) :: starEach [] ((gotCx X Ng x sg g cdg s H).tr pn xe).env := by rfl)
    (d1 : (a == ("__debug__" : Str)) = false := by decide) (d2 : (a == ("__classdict__" : Str)) = false := by decide) :
    PE ((gotCx X Ng x sg g cdg s H).tr pn xe) (.Call (.Name a p1) [e] [] p2) (tAct i f c' (X.env.qual ++ "<lambda>") ta W fun E v H1 Q => tb E (σ ++ [some v]) H1 Q) := by
  constructor
  intro pz sz σz Hz Q Iz h
  obtain ⟨slot, ht⟩ := h
  refine wpAny_Call_Name_kw (thn ((pe_var (pos := p1) (i := i) at_ vis d1 d2).run pz sz σz Hz (fun v H1 => v = .ref f ∧ H1 = Hz) Iz ⟨.ref f, slot, rfl, rfl⟩) fun u s1 z => ?_)
  obtain ⟨v0, H1, I1, r1, rfl, rfl⟩ := z
  obtain rfl : u = Value.ref f := r1
  have still : ∀ {σ' : L2.St} {H' : Hp} {s' : Shared}, Inv ((gotCx X Ng x sg g cdg s H).tr pn xe) pz σ' H' s' → s'.heap.get? f = some (PySem.W.kla_obj "<lambda>" (X.env.qual ++ "<lambda>") params b scope (cloFrom X.env.cells scope.names []) pm c' ctv) := fun J => J.base.keep f _ hf hfn hfr (fun z => nomatch z)
  refine PySem.W.callWith_F ⟨_, _, _, _, still I1⟩ (thn (args.run p2 pz s1 σz H1 _ I1 ht) fun us s2 z => ?_) star rfl
  obtain ⟨vs, H2, I2, rv, v, rfl, hc, tl⟩ := z
  obtain ⟨u, rfl, ru⟩ := vals1 rv
  have e2 : Env0 X.prog X.w X.K X.mg X.base (X.A.deeper (envOfC x sg s.heap.objs.size g cdg)) (envOfC x sg s.heap.objs.size g cdg :: X.stack) s2 H2 := I2.env0
  have un : Un (frs X.stack) [] H H2 s.heap s2.heap := I2.base
  have run := lamP_run (X := X) (E := fun cls d H' => W cls d σz H') (k := k) (u := u) (Q := Q) I L np hf hfn hfr bind room e2 un hc (fun A outer s H rm => body A outer s H _ rm) ru tl
  refine ⟨⟨_, _, _, _, still I2⟩, wpAny_call (codeAny_mono run fun res s3 z => ?_)⟩
  cases res with
  | error er => exact tk er s3 (XE.of_call I2 (fun _ _ _ w => w) z)
  | ok fl =>
    cases fl with
    | ret u' => exact I2.after z
    | next => exact (show False from z).elim
    | brk => exact (show False from z).elim
    | cont => exact (show False from z).elim
/-- what the def makes of the lambda's reading tl and of the thing v: TT -/
def GivesP (X : Cx) (k : Nat) (Ng : List Str) (x : Str) (sg : Scope) (g : Addr) (cdg : Value) (bg : List Stmt) (a : Str) (q : Str) (TT : V → (XK → V → Hp → VK → Prop) → Hp → VK → Prop) : Prop :=
  ∀ (f c' : Addr) (v : V) (s : Shared) (H : Hp) (Q : VK) (tl : XK → V → Hp → VK → Prop), Room k (X.A.deeper (envOfC x sg s.heap.objs.size g cdg)) →
    (∀ (W : WX) (pn : List (Addr × Obj)) (xe : Value → Shared → Prop) (p1 p2 : Pos) (e : Expr) (ta : TA), Takes ((gotCx X Ng x sg g cdg s H).tr pn xe) W → PA ((gotCx X Ng x sg g cdg s H).tr pn xe) [e] ta →
      starEach [e] ((gotCx X Ng x sg g cdg s H).tr pn xe).env = (false, eval e ((gotCx X Ng x sg g cdg s H).tr pn xe).env) :: starEach [] ((gotCx X Ng x sg g cdg s H).tr pn xe).env →
      PE ((gotCx X Ng x sg g cdg s H).tr pn xe) (.Call (.Name a p1) [e] [] p2) (tAct 0 f c' q ta W tl)) →
    H c' = some (LamX.CodeO c' q) → TT v tl H Q →
    ∃ t, PSs (gotCx X Ng x sg g cdg s H).nox bg t ∧ t { nx := fun _ H' => Q .non H', rt := Q } (L2.start Ng [.ref f, v]) H
/-- the lambda is made: all but the table at P is as it was -/
theorem lam_new {X : Cx} {pins : List (Addr × Obj)} {σ : L2.St} {H : Hp} {s : Shared} {c P : Addr} {params : Arguments} {b : Expr} {scope : Scope} {pos : Pos} {E Q : Value → Shared → Prop} (J : Inv X pins σ H s) (tab : LamX.TabB X.base X.mg c P) (own : X.env.code = .ref c)
    (t0 : LamX.TabS H P (X.env.qual ++ "<lambda>")) (nodef : defaultsOf params X.env = ([], [])) (has : ∀ y ∈ scope.names, y.2 = .free → ∃ c, X.env.cells.lookup y.1 = some c)
    (go : ∀ (f c' : Addr) (pm ctv : Value) (H1 : Hp) (s1 : Shared), Inv X pins σ H1 s1 → But P H H1 → LamX.TabS H1 P (X.env.qual ++ "<lambda>") → s1.heap.get? f = some (PySem.W.kla_obj "<lambda>" (X.env.qual ++ "<lambda>") params b scope (cloFrom X.env.cells scope.names []) pm c' ctv) →
      H1 f = none → f ∉ frs X.stack → H1 c' = some (LamX.CodeO c' (X.env.qual ++ "<lambda>")) → Q (.ref f) s1) : wpAny (model X.prog X.w) X.A (eval (.Lambda params b scope pos) X.env) Q E s := by
  have seen := t0
  obtain ⟨ps, atP, tri, each⟩ := seen
  have blt : s.heap.BuiltinsAt X.mg P := tab.bm.keeps J.bk
  have objP : s.heap.get? P = some { cls := .none, data := .fields ps } := J.hok P _ atP
  have far : ∀ f, s.heap.objs.size ≤ f → f ∉ frs X.stack := fun f le m => by
    rcases List.mem_cons.mp (J.stkSub _ m) with e | e
    · have lt := J.lt
      rw [← e] at lt
      exact absurd (Nat.lt_of_lt_of_le lt le) (Nat.lt_irrefl _)
    · exact J.nofs le e
  refine PySem.W.kla_eval nodef ?_
  cases found : codeAmong pos ps.toList with
  | some cv =>
    obtain ⟨c', rfl, here⟩ := each pos cv found
    refine PySem.W.kla_makeFunctionHit (P := P) (c := c) (mg := X.mg) (ps := ps) (closure_ok has) J.ok.glob (J.mod.glob.keeps J.bk) own (tab.code.keeps J.bk) objP tri found blt fun ctv h' tk kept le => ?_
    have J1 : Inv X pins σ H { s with heap := h'.push (PySem.W.kla_obj "<lambda>" (X.env.qual ++ "<lambda>") params b scope (cloFrom X.env.cells scope.names []) ((X.mg "__name__").getD .none) c' ctv), toks := tk } := J.kept fun _ _ e => Heap.get?_push_of_some _ (kept _ _ e)
    exact go _ c' _ ctv H _ J1 .refl t0 (Heap.get?_push_size _ rfl) (J.hok.fresh le) (far _ le) here
  | none =>
    refine PySem.W.kla_makeFunction (P := P) (c := c) (mg := X.mg) (ps := ps) (closure_ok has) J.ok.glob (J.mod.glob.keeps J.bk) own (tab.code.keeps J.bk) objP tri found tab.gP blt fun c' ctv h' tk kept ge lt rec_ grown => ?_
    obtain ⟨c2, oc, vs, tk2, e2, atC, dat, nm⟩ := rec_
    cases e2
    have le : s.heap.objs.size ≤ h'.objs.size := Nat.le_trans ge (Nat.le_of_lt lt)
    have newC : H c' = none := J.hok.fresh ge
    have J1 := LamX.inv_table (t' := tk) (more := #[rawInt pos.line, rawInt pos.col, .ref c']) (h' := h'.push (PySem.W.kla_obj "<lambda>" (X.env.qual ++ "<lambda>") params b scope (cloFrom X.env.cells scope.names []) ((X.mg "__name__").getD .none) c' ctv)) J atP
      (fun _ _ nb e => Heap.get?_push_of_some _ (kept _ _ nb e)) (Heap.get?_push_of_some _ grown) ge ⟨oc, vs, tk2, Heap.get?_push_of_some _ atC, dat, nm⟩
    have but : But P H (upd (upd H P (.tbl (ps ++ #[rawInt pos.line, rawInt pos.col, .ref c']))) c' (LamX.CodeO c' (X.env.qual ++ "<lambda>"))) := fun d o e n => by
      rw [upd_ne (ne_of_none e newC), upd_ne n]
      exact e
    have toL : (ps ++ #[rawInt pos.line, rawInt pos.col, .ref c']).toList = ps.toList ++ [rawInt pos.line, rawInt pos.col, .ref c'] := by simp
    have away : ∀ {d : Addr} {q : Str}, H d = some (LamX.CodeO d q) → d ≠ P := fun {d q} e z => by
      rw [z, atP] at e
      exact LamX.codeO_ne ps (Option.some.inj e).symm
    refine go h'.objs.size c' _ ctv _ _ J1 but ⟨ps ++ #[rawInt pos.line, rawInt pos.col, .ref c'], ?_, ?_, fun p' cv among => ?_⟩ (Heap.get?_push_size _ rfl) ?_ (far _ le) upd_same
    · rw [upd_ne (ne_of_none atP newC), upd_same]
    · rw [toL]
      exact PySem.TriplesOk_snoc _ _ _ _ tri
    · rw [toL] at among
      rcases LamX.among_app _ tri among with z | z
      · obtain ⟨c0, e1, e2⟩ := each p' cv z
        exact ⟨c0, e1, but _ _ e2 (away e2)⟩
      · exact ⟨c', z, upd_same⟩
    · rw [upd_ne (Nat.ne_of_gt lt), upd_ne (Nat.ne_of_gt (Nat.lt_of_lt_of_le (Heap.lt_size objP) le))]
      exact J.hok.fresh le
def tLamP (P : Addr) (qn : Str) (TT : V → (XK → V → Hp → VK → Prop) → Hp → VK → Prop) (t : XK → TE) (ta : TA) : TE := fun σ H Q => LamX.TabS H P qn ∧ ∀ H1, But P H H1 → LamX.TabS H1 P qn → ta σ H1 fun vs H2 => ∃ v, vs = [v] ∧ LamX.ExtN H1 H2 ∧ TT v (fun E v H' Q' => t E (σ ++ [some v]) H' Q') H2 Q
theorem pinned_one {X : Cx} {pins : List (Addr × Obj)} {σ : L2.St} {H : Hp} {s : Shared} {f : Addr} {o : Obj} {fd : FuncData} (I : Inv X pins σ H s) (hf : s.heap.get? f = some o) (hd : o.data = .func fd) (hn : H f = none) (hfr : f ∉ frs X.stack) : Inv X ((f, o) :: pins) σ H s := by
  refine ⟨I.ok, I.os, I.bare, I.base, I.loc, I.cell, I.free, I.freeC, fun q hq => ?_, I.hok, I.len⟩
  rcases List.mem_append.mp hq with z | z
  · exact I.pin q (List.mem_append_left _ z)
  · rcases List.mem_cons.mp z with e | z
    · subst e
      refine ⟨hf, hn, fun e => ?_, fun m => hfr ?_, fun v e => ?_⟩
      · obtain ⟨m, ⟨ol, es, ep, el, dl, _⟩, _⟩ := I.loc
        have e' : f = X.env.locals := e
        rw [← e', hf] at el
        cases el
        rw [hd] at dl
        cases dl
      · rcases I.ok.stk with st | ⟨st, _⟩
        · rw [st]
          exact m
        · rw [st]
          obtain ⟨e1, m1, m2⟩ := List.mem_filterMap.mp m
          exact List.mem_filterMap.mpr ⟨e1, List.mem_cons_of_mem _ m1, m2⟩
      · have e' : o.data = .cell v := e
        rw [hd] at e'
        cases e'
    · exact I.pin q (List.mem_append_right _ z)
theorem unpin_one {X : Cx} {pins : List (Addr × Obj)} {σ : L2.St} {H : Hp} {s : Shared} {q : Addr × Obj} (I : Inv X (q :: pins) σ H s) : Inv X pins σ H s := by
  refine ⟨I.ok, I.os, I.bare, I.base, I.loc, I.cell, I.free, I.freeC, fun z hz => I.pin z ?_, I.hok, I.len⟩
  rcases List.mem_append.mp hz with m | m
  · exact List.mem_append_left _ m
  · exact List.mem_append_right _ (List.mem_cons_of_mem _ m)
/-- x(lambda p: b, e) -/
theorem pe_lamP {X : Cx} {TT : V → (XK → V → Hp → VK → Prop) → Hp → VK → Prop} {x a a2 p : Str} {g c P : Addr} {k : Nat} {pg : Arguments} {bg : List Stmt} {sg : Scope} {dV kV doc pm cdv ct oc : Value} {an od : Option Addr} {osl : Array (Option Value)} {Ng : List Str} {params : Arguments} {b e : Expr} {scope : Scope} {t : XK → TE} {ta : TA} {pp lpos pos : Pos}
    (gl : Gl X x) (mg : X.mg x = some (.ref g)) (keep : PySem.W.keepIn X.K (.ref g) = true) (look : X.K.lookup g = some ⟨oc, od, .func (PySem.W.fnOf x x pg bg sg dV kV doc pm an cdv ct), osl⟩) (code : PySem.W.codeIn X.K cdv x = true)
    (binds : L2.Binds X.K (PySem.W.fnOf x x pg bg sg dV kV doc pm an cdv ct) [a, a2] []) (S : FnScope Ng [a, a2] sg) (at0 : Ng[0]? = some a) (vis : Vis sg a) (gives : GivesP X (k + 1) Ng x sg g cdv bg a (X.env.qual ++ "<lambda>") TT)
    (TB : LamX.TabB X.base X.mg c P) (own : X.env.code = .ref c) (room : Room (k + 2) X.A) (L : LamP X.env.scope scope p) (np : p ∉ X.N) (nodef : defaultsOf params X.env = ([], []))
    (bind : ∀ (q : Str) (cl : List (Str × Addr)) (pm cv ctv u : Value), bindArgs (PySem.W.kla_fn "<lambda>" q params b scope cl pm cv ctv) ⟨[u], []⟩ = pure [(p, u)])
    (body : ∀ (A : Around) (outer : List Env) (s : Shared) (H : Hp) (E : XK) (f c' : Addr), Room k (A.deeper (LamX.lamEnv X scope s.heap.objs.size f c')) → PE (cxP X A outer s H E scope p f c') b (t E)) (args : PA X [e] ta)
    (star : starEach (.Lambda params b scope lpos :: [e]) X.env = (false, eval (.Lambda params b scope lpos) X.env) :: starEach [e] X.env := by rfl) (plain : (backTo pos (starEach [e] X.env)).any (·.1) = false := by rfl)
    (d0 : (x == ("__debug__" : Str)) = false := by decide) (d1 : (a == ("__debug__" : Str)) = false := by decide) (d2 : (a == ("__classdict__" : Str)) = false := by decide) :
    PE X (.Call (.Name x pp) [.Lambda params b scope lpos, e] [] pos) (tLamP P (X.env.qual ++ "<lambda>") TT t ta) := by
  constructor
  intro pins s σ H Q I h
  obtain ⟨hT, h⟩ := h
  refine wpAny_Call_Name_kw (ld_glob I gl mg ?_ d0)
  refine PySem.W.callWith_K (h₀ := X.base) I.ok.mod.kin keep ?_ star plain
  rw [star]
  show wpAny _ _ (spliced ((false, eval (.Lambda params b scope lpos) X.env) :: backTo pos (starEach [e] X.env))) _ _ s
  refine Calls.spliced_cons (lam_new I TB own hT nodef (fun y hy z => L.has I.ok hy z) fun f c' pm' ctv H1 s1 I1 ext T1 hf hfn hfr hco => ?_)
  have Ip := pinned_one I1 hf rfl hfn hfr
  refine thn (args.run pos _ s1 σ H1 _ Ip (h H1 ext T1)) fun us s2 z => ?_
  obtain ⟨vs, H2, I2, rv, v, rfl, ext2, tt⟩ := z
  obtain ⟨u, rfl, ru⟩ := vals1 rv
  have f2 := I2.pin (f, _) (List.mem_append_right _ List.mem_cons_self)
  have co2 : H2 c' = some (LamX.CodeO c' (X.env.qual ++ "<lambda>")) := ext2 _ _ hco (LamX.codeO_ne)
  refine ⟨I2.kIn, ?_⟩
  have run : codeAny (model X.prog X.w) X.A (.call (.ref g) ⟨[.ref f, u], []⟩) (CR CX0 X.stack X.prog X.w H2 s2 Q E0) s2 := by
    refine LamX.run_ofS (N := Ng) (ps := [a, a2]) (us := [.ref f, u]) (vs := [.ref f, v]) look code S room I2.env0 (binds s2 [.ref f, u] I2.kIn rfl) (.cons rfl (.cons ru .nil)) rfl fun hr' => ?_
    obtain ⟨t', ht', q'⟩ := gives f c' v s2 H2 Q (fun E v H' Q' => t E (σ ++ [some v]) H' Q') hr' (fun W pn xe p1 p2 e ta tk args star => pe_actP (k := k) I2 L (fun i v e _ => np (List.mem_of_getElem? e)) f2.1 f2.2.1 hfr (fun u => bind _ _ _ _ _ u) tk hr' (fun A outer s H E rm => body A outer s H E f c' rm) at0 vis args star d1 d2) co2 tt
    exact ⟨t', ht'.nox, q'⟩
  refine wpAny_call (codeAny_mono run fun res s3 z => ?_)
  cases res with
  | error er => exact (show False from z).elim
  | ok fl =>
    cases fl with
    | ret u' =>
      obtain ⟨v', H', J, r', q'⟩ := I2.after z
      exact ⟨v', H', unpin_one J, r', q'⟩
    | next => exact (show False from z).elim
    | brk => exact (show False from z).elim
    | cont => exact (show False from z).elim
/-- the same by the def's own facts -/
theorem pe_lamF {X : Cx} {TT : V → (XK → V → Hp → VK → Prop) → Hp → VK → Prop} {x a a2 p : Str} {g c P : Addr} {k : Nat} {st : Stmt} {fd : FuncData} {Ng : List Str} {params : Arguments} {b e : Expr} {scope : Scope} {t : XK → TE} {ta : TA} {pp lpos pos : Pos}
    (gl : Gl X x) (mg : X.mg x = some (.ref g)) (F : Fun X.K x x st g fd) (binds : L2.Binds X.K fd [a, a2] []) (S : FnScope Ng [a, a2] (defScope st)) (at0 : Ng[0]? = some a) (vis : Vis (defScope st) a) (gives : ∀ cdg, GivesP X (k + 1) Ng x (defScope st) g cdg (defBody st) a (X.env.qual ++ "<lambda>") TT)
    (TB : LamX.TabB X.base X.mg c P) (own : X.env.code = .ref c) (room : Room (k + 2) X.A) (L : LamP X.env.scope scope p) (np : p ∉ X.N) (nodef : defaultsOf params X.env = ([], []))
    (bind : ∀ (q : Str) (cl : List (Str × Addr)) (pm cv ctv u : Value), bindArgs (PySem.W.kla_fn "<lambda>" q params b scope cl pm cv ctv) ⟨[u], []⟩ = pure [(p, u)])
    (body : ∀ (A : Around) (outer : List Env) (s : Shared) (H : Hp) (E : XK) (f c' : Addr), Room k (A.deeper (LamX.lamEnv X scope s.heap.objs.size f c')) → PE (cxP X A outer s H E scope p f c') b (t E)) (args : PA X [e] ta)
    (star : starEach (.Lambda params b scope lpos :: [e]) X.env = (false, eval (.Lambda params b scope lpos) X.env) :: starEach [e] X.env := by rfl) (plain : (backTo pos (starEach [e] X.env)).any (·.1) = false := by rfl)
    (d0 : (x == ("__debug__" : Str)) = false := by decide) (d1 : (a == ("__debug__" : Str)) = false := by decide) (d2 : (a == ("__classdict__" : Str)) = false := by decide) :
    PE X (.Call (.Name x pp) [.Lambda params b scope lpos, e] [] pos) (tLamP P (X.env.qual ++ "<lambda>") TT t ta) := by
  have keep := F.kp
  obtain ⟨oc, od, kV, doc, pm, an, cdv, ct, osl, rfl, lk, hcd⟩ := F.ex
  exact pe_lamP gl mg keep lk hcd binds S at0 vis (gives cdv) TB own room L np nodef bind body args star plain d0 d1 d2

/-! ### a lambda given as the second thing: x(e, lambda p: b) -/
/-- what the def makes of the thing v and of the lambda's reading tl: TT -/
def GivesP2 (X : Cx) (k : Nat) (Ng : List Str) (x : Str) (sg : Scope) (g : Addr) (cdg : Value) (bg : List Stmt) (a : Str) (q : Str) (TT : V → (XK → V → Hp → VK → Prop) → Hp → VK → Prop) : Prop :=
  ∀ (f c' : Addr) (v : V) (s : Shared) (H : Hp) (Q : VK) (tl : XK → V → Hp → VK → Prop), Room k (X.A.deeper (envOfC x sg s.heap.objs.size g cdg)) →
    (∀ (W : WX) (pn : List (Addr × Obj)) (xe : Value → Shared → Prop) (p1 p2 : Pos) (e : Expr) (ta : TA), Takes ((gotCx X Ng x sg g cdg s H).tr pn xe) W → PA ((gotCx X Ng x sg g cdg s H).tr pn xe) [e] ta →
      starEach [e] ((gotCx X Ng x sg g cdg s H).tr pn xe).env = (false, eval e ((gotCx X Ng x sg g cdg s H).tr pn xe).env) :: starEach [] ((gotCx X Ng x sg g cdg s H).tr pn xe).env →
      PE ((gotCx X Ng x sg g cdg s H).tr pn xe) (.Call (.Name a p1) [e] [] p2) (tAct 1 f c' q ta W tl)) →
    H c' = some (LamX.CodeO c' q) → TT v tl H Q →
    ∃ t, PSs (gotCx X Ng x sg g cdg s H).nox bg t ∧ t { nx := fun _ H' => Q .non H', rt := Q } (L2.start Ng [v, .ref f]) H
/-- nothing stands in a slot of this name -/
def NoVal (p : Str) : List Str → L2.St → Prop
  | x :: N, o :: σ => (x = p → o = none) ∧ NoVal p N σ
  | _, _ => True
theorem NoVal.at {p : Str} : ∀ {N : List Str} {σ : L2.St}, NoVal p N σ → ∀ (i : Nat) (v : V), N[i]? = some p → σ[i]? = some (some v) → False
  | [], _, _, i, v, e, _ => by cases i <;> cases e
  | _ :: _, [], _, i, v, _, e => by cases i <;> cases e
  | x :: N, o :: σ, h, 0, v, e1, e2 => by
    have e1 : x = p := Option.some.inj e1
    have e2 : o = some v := Option.some.inj e2
    rw [h.1 e1] at e2
    cases e2
  | x :: N, o :: σ, h, i + 1, v, e1, e2 => NoVal.at (N := N) (σ := σ) h.2 i v e1 e2
def tLamP2 (N : List Str) (p : Str) (P : Addr) (qn : Str) (TT : V → (XK → V → Hp → VK → Prop) → Hp → VK → Prop) (t : XK → TE) (te : TE) : TE := fun σ H Q => NoVal p N σ ∧ te σ H fun v H1 => LamX.TabS H1 P qn ∧ ∀ H2, But P H1 H2 → LamX.TabS H2 P qn → TT v (fun E v H' Q' => t E (σ ++ [some v]) H' Q') H2 Q
theorem pe_lamP2 {X : Cx} {TT : V → (XK → V → Hp → VK → Prop) → Hp → VK → Prop} {x a a1 p : Str} {g c P : Addr} {k : Nat} {pg : Arguments} {bg : List Stmt} {sg : Scope} {dV kV doc pm cdv ct oc : Value} {an od : Option Addr} {osl : Array (Option Value)} {Ng : List Str} {params : Arguments} {b e : Expr} {scope : Scope} {t : XK → TE} {te : TE} {pp lpos pos : Pos}
    (gl : Gl X x) (mg : X.mg x = some (.ref g)) (keep : PySem.W.keepIn X.K (.ref g) = true) (look : X.K.lookup g = some ⟨oc, od, .func (PySem.W.fnOf x x pg bg sg dV kV doc pm an cdv ct), osl⟩) (code : PySem.W.codeIn X.K cdv x = true)
    (binds : L2.Binds X.K (PySem.W.fnOf x x pg bg sg dV kV doc pm an cdv ct) [a1, a] []) (S : FnScope Ng [a1, a] sg) (at1 : Ng[1]? = some a) (vis : Vis sg a) (gives : GivesP2 X (k + 1) Ng x sg g cdv bg a (X.env.qual ++ "<lambda>") TT)
    (TB : LamX.TabB X.base X.mg c P) (own : X.env.code = .ref c) (room : Room (k + 2) X.A) (L : LamP X.env.scope scope p) (nodef : defaultsOf params X.env = ([], []))
    (bind : ∀ (q : Str) (cl : List (Str × Addr)) (pm cv ctv u : Value), bindArgs (PySem.W.kla_fn "<lambda>" q params b scope cl pm cv ctv) ⟨[u], []⟩ = pure [(p, u)])
    (body : ∀ (A : Around) (outer : List Env) (s : Shared) (H : Hp) (E : XK) (f c' : Addr), Room k (A.deeper (LamX.lamEnv X scope s.heap.objs.size f c')) → PE (cxP X A outer s H E scope p f c') b (t E)) (arg : PE X e te)
    (star : starEach (e :: [.Lambda params b scope lpos]) X.env = (false, eval e X.env) :: starEach [.Lambda params b scope lpos] X.env := by rfl) (star2 : starEach [.Lambda params b scope lpos] X.env = (false, eval (.Lambda params b scope lpos) X.env) :: starEach [] X.env := by rfl) (plain : (backTo pos (starEach [.Lambda params b scope lpos] X.env)).any (·.1) = false := by rfl)
    (d0 : (x == ("__debug__" : Str)) = false := by decide) (d1 : (a == ("__debug__" : Str)) = false := by decide) (d2 : (a == ("__classdict__" : Str)) = false := by decide) :
    PE X (.Call (.Name x pp) [e, .Lambda params b scope lpos] [] pos) (tLamP2 X.N p P (X.env.qual ++ "<lambda>") TT t te) := by
  constructor
  intro pins s σ H Q I h
  obtain ⟨np, h⟩ := h
  refine wpAny_Call_Name_kw (ld_glob I gl mg ?_ d0)
  refine PySem.W.callWith_K (h₀ := X.base) I.ok.mod.kin keep ?_ star plain
  rw [star]
  show wpAny _ _ (spliced ((false, eval e X.env) :: backTo pos (starEach [.Lambda params b scope lpos] X.env))) _ _ s
  refine Calls.spliced_cons (thn (arg.run pins s σ H _ I h) fun u s1 z => ?_)
  obtain ⟨v, H1, I1, ru, hT, h1⟩ := z
  rw [star2]
  show wpAny _ _ (spliced ((false, eval (.Lambda params b scope lpos) X.env) :: backTo pos (starEach [] X.env))) _ _ s1
  refine Calls.spliced_cons (lam_new I1 TB own hT nodef (fun y hy z => L.has I1.ok hy z) fun f c' pm' ctv H2 s2 I2 ext T2 hf hfn hfr hco => ?_)
  refine Calls.spliced_nil ?_
  have tt := h1 H2 ext T2
  refine ⟨I2.kIn, ?_⟩
  have run : codeAny (model X.prog X.w) X.A (.call (.ref g) ⟨[u, .ref f], []⟩) (CR CX0 X.stack X.prog X.w H2 s2 Q E0) s2 := by
    refine LamX.run_ofS (N := Ng) (ps := [a1, a]) (us := [u, .ref f]) (vs := [v, .ref f]) look code S room I2.env0 (binds s2 [u, .ref f] I2.kIn rfl) (.cons ru (.cons rfl .nil)) rfl fun hr' => ?_
    obtain ⟨t', ht', q'⟩ := gives f c' v s2 H2 Q (fun E v H' Q' => t E (σ ++ [some v]) H' Q') hr' (fun W pn xe p1 p2 e ta tk args star => pe_actP (k := k) I2 L (NoVal.at np) hf hfn hfr (fun u => bind _ _ _ _ _ u) tk hr' (fun A outer s H E rm => body A outer s H E f c' rm) at1 vis args star d1 d2) hco tt
    exact ⟨t', ht'.nox, q'⟩
  refine wpAny_call (codeAny_mono run fun res s3 z => ?_)
  cases res with
  | error er => exact (show False from z).elim
  | ok fl =>
    cases fl with
    | ret u' => exact I2.after z
    | next => exact (show False from z).elim
    | brk => exact (show False from z).elim
    | cont => exact (show False from z).elim
theorem pe_lamF2 {X : Cx} {TT : V → (XK → V → Hp → VK → Prop) → Hp → VK → Prop} {x a a1 p : Str} {g c P : Addr} {k : Nat} {st : Stmt} {fd : FuncData} {Ng : List Str} {params : Arguments} {b e : Expr} {scope : Scope} {t : XK → TE} {te : TE} {pp lpos pos : Pos}
    (gl : Gl X x) (mg : X.mg x = some (.ref g)) (F : Fun X.K x x st g fd) (binds : L2.Binds X.K fd [a1, a] []) (S : FnScope Ng [a1, a] (defScope st)) (at1 : Ng[1]? = some a) (vis : Vis (defScope st) a) (gives : ∀ cdg, GivesP2 X (k + 1) Ng x (defScope st) g cdg (defBody st) a (X.env.qual ++ "<lambda>") TT)
    (TB : LamX.TabB X.base X.mg c P) (own : X.env.code = .ref c) (room : Room (k + 2) X.A) (L : LamP X.env.scope scope p) (nodef : defaultsOf params X.env = ([], []))
    (bind : ∀ (q : Str) (cl : List (Str × Addr)) (pm cv ctv u : Value), bindArgs (PySem.W.kla_fn "<lambda>" q params b scope cl pm cv ctv) ⟨[u], []⟩ = pure [(p, u)])
    (body : ∀ (A : Around) (outer : List Env) (s : Shared) (H : Hp) (E : XK) (f c' : Addr), Room k (A.deeper (LamX.lamEnv X scope s.heap.objs.size f c')) → PE (cxP X A outer s H E scope p f c') b (t E)) (arg : PE X e te)
    (star : starEach (e :: [.Lambda params b scope lpos]) X.env = (false, eval e X.env) :: starEach [.Lambda params b scope lpos] X.env := by rfl) (star2 : starEach [.Lambda params b scope lpos] X.env = (false, eval (.Lambda params b scope lpos) X.env) :: starEach [] X.env := by rfl) (plain : (backTo pos (starEach [.Lambda params b scope lpos] X.env)).any (·.1) = false := by rfl)
    (d0 : (x == ("__debug__" : Str)) = false := by decide) (d1 : (a == ("__debug__" : Str)) = false := by decide) (d2 : (a == ("__classdict__" : Str)) = false := by decide) :
    PE X (.Call (.Name x pp) [e, .Lambda params b scope lpos] [] pos) (tLamP2 X.N p P (X.env.qual ++ "<lambda>") TT t te) := by
  have keep := F.kp
  obtain ⟨oc, od, kV, doc, pm, an, cdv, ct, osl, rfl, lk, hcd⟩ := F.ex
  exact pe_lamP2 gl mg keep lk hcd binds S at1 vis (gives cdv) TB own room L nodef bind body arg star star2 plain d0 d1 d2

/-! ### a law called from the caller itself: nothing is shown around it -/
/-- at the law's call: its tables are empty, the script is frozen (or known by K) -/
def lawH (K : PySem.W.Frag) (cs : List (Addr × Addr)) (a : Addr) (o : Obj) (ns : List Int) : Hp := fun b => if b ∈ cs.map (·.2) then some (.tbl #[]) else if b = a ∧ K.lookup a = none then some (.frz o (.lst (ns.map V.int))) else none
theorem lawH_some {K : PySem.W.Frag} {cs : List (Addr × Addr)} {a b : Addr} {o : Obj} {ns : List Int} {u : HO} (h : lawH K cs a o ns b = some u) : (b ∈ cs.map (·.2) ∧ u = .tbl #[]) ∨ (b = a ∧ K.lookup a = none ∧ u = .frz o (.lst (ns.map V.int))) := by
  unfold lawH at h
  split at h
  · rename_i m
    exact .inl ⟨m, (Option.some.inj h).symm⟩
  · split at h
    · rename_i m
      exact .inr ⟨m.1, m.2, (Option.some.inj h).symm⟩
    · cases h
theorem call_law {P : Program} {w : World} {K : PySem.W.Frag} {mg mb : Str → Option Value} {fa a : Addr} {cs : List (Addr × Addr)} {s : Shared} {vs : List Value} {ns : List Int} (kin : K.In s.heap) (gl : s.heap.Ns mainGlobals mg) (bi : s.heap.Ns builtinsNs mb)
    (boot : ∀ x : Str, x ≠ "__name__" → mb x = bootBuiltins x) (lim : s.heap.NoLimit) (gens : s.gens = #[]) (tabs : ∀ p ∈ cs, s.heap.get? p.2 = some { cls := .none, data := .fields #[] }) (away : ∀ p ∈ cs, K.lookup p.2 = none) (code : ∀ p ∈ cs, PySem.W.CodeHd s.heap p.1 p.2)
    (bm : ∃ (bm : Addr) (ob : Obj), mg "__builtins__" = some (.ref bm) ∧ bm ≠ builtinsNs ∧ s.heap.get? bm = some ob ∧ ob.cls = .type "module" ∧ ob.dict = some builtinsNs ∧ ob.data = .plain) (scr : s.heap.get? a = some { cls := .type "list", data := .seq vs.toArray }) (iar : IntsAre vs ns) (len : ns.length ≤ sizeLine)
    (run : ∀ (base : Heap) (H : Hp), (∀ p ∈ cs, LamX.TabB base mg p.1 p.2) → Env0 P w K mg base callerA [] s H → (∀ p ∈ cs, H p.2 = some (.tbl #[])) → SqL K H a (ns.map V.int) →
      codeAny (model P w) callerA (.call (.ref fa) ⟨[.ref a], []⟩) (CR CX0 [] P w H s (fun v _ => v = .bl true) E0) s) :
    codeAny (model P w) callerA (.call (.ref fa) ⟨[.ref a], []⟩) (fun r s' => r = .ok (.ret (.bool true)) ∧ OldK s.heap s'.heap ∧ s'.os = s.os ∧ AllBare s'.gens) s := by
  have rel := vals_ints iar
  have tabAt : ∀ {b : Addr}, b ∈ cs.map (·.2) → s.heap.get? b = some { cls := .none, data := .fields #[] } := fun {b} m => by
    obtain ⟨p, hp, rfl⟩ := List.mem_map.mp m
    exact tabs p hp
  have notTab : a ∉ cs.map (·.2) := fun m => by
    have z := (tabAt m).symm.trans scr
    have z2 := congrArg Obj.data (Option.some.inj z)
    cases z2
  generalize hH : lawH K cs a { cls := .type "list", data := .seq vs.toArray } ns = H
  have some_ : ∀ {b : Addr} {u : HO}, H b = some u → (b ∈ cs.map (·.2) ∧ u = .tbl #[]) ∨ (b = a ∧ K.lookup a = none ∧ u = .frz { cls := .type "list", data := .seq vs.toArray } (.lst (ns.map V.int))) := fun {b u} e => by
    rw [← hH] at e
    exact lawH_some e
  have tabH : ∀ p ∈ cs, H p.2 = some (.tbl #[]) := fun p hp => by
    rw [← hH]
    exact if_pos (List.mem_map.mpr ⟨p, hp, rfl⟩)
  -- what is neither a list nor an empty table isn't tracked
  have loose : ∀ {b : Addr} {ob : Obj}, s.heap.get? b = some ob → (∀ xs n, ob.data ≠ .seq xs n) → ob.data ≠ .fields #[] → H b = none := fun {b ob} e n1 n2 => by
    cases q : H b with
    | none => rfl
    | some u =>
      rcases some_ q with ⟨m, _⟩ | ⟨rfl, _⟩
      · rw [tabAt m] at e
        cases e
        exact absurd rfl n2
      · rw [scr] at e
        cases e
        exact absurd rfl (n1 _ _)
  have nsOn : ∀ {b : Addr} {m : Str → Option Value}, s.heap.Ns b m → (hidT s.heap H).Ns b m := fun {b m} z => by
    obtain ⟨o, es, ep, e, d, r⟩ := z
    refine ⟨o, es, ep, hidT_get e (loose e (fun _ _ q => ?_) fun q => ?_), d, r⟩
    · rw [d] at q
      cases q
    · rw [d] at q
      cases q
  have kin' : K.In (hidT s.heap H) := fun b o e => hidT_get (kin b o e) (by
    cases q : H b with
    | none => rfl
    | some u =>
      rcases some_ q with ⟨m, _⟩ | ⟨rfl, n, _⟩
      · obtain ⟨p, hp, rfl⟩ := List.mem_map.mp m
        rw [away p hp] at e
        cases e
      · rw [n] at e
        cases e)
  have hok : HOk P w H s.heap := fun b u e => by
    rcases some_ e with ⟨m, rfl⟩ | ⟨rfl, _, rfl⟩
    · exact tabAt m
    · exact ⟨scr, by rw [List.length_map]; exact len, vs, _, rel, scr⟩
  have sq : SqL K H a (ns.map V.int) := by
    cases q : K.lookup a with
    | none =>
      refine .inl (.inr ⟨{ cls := .type "list", data := .seq vs.toArray }, ?_⟩)
      rw [← hH]
      exact (if_neg notTab).trans (if_pos ⟨rfl, q⟩)
    | some o =>
      have e := kin a o q
      rw [scr] at e
      cases e
      exact .inr ⟨_, vs.toArray, _, q, rfl, rfl, rfl, by rw [List.size_toArray, iar.length]; exact len, rel⟩
  have tb : ∀ p ∈ cs, LamX.TabB (hidT s.heap H) mg p.1 p.2 := fun p hp => by
    have pt := tabs p hp
    refine ⟨?_, ?_, fun e => ?_⟩
    · obtain ⟨o, us, fl, tf, fg, tg, iF, tx, tt, g1, g2, g3, g4, g5⟩ := code p hp
      refine ⟨o, us, fl, tf, fg, tg, iF, tx, tt, hidT_get g1 (loose g1 (fun _ _ q => ?_) fun q => ?_), g2, g3, g4, g5⟩
      · rw [g3] at q
        cases q
      · rw [g3] at q
        cases q
        simp at g4
    · obtain ⟨b, ob, m1, m2, m3, m4, m5, m6⟩ := bm
      refine ⟨b, ob, m1, m2, fun e => ?_, fun e => ?_, hidT_get m3 (loose m3 (fun _ _ q => ?_) fun q => ?_), m4, m5, m6⟩
      · obtain ⟨o, es, ep, e1, d1, _⟩ := gl
        rw [e, e1] at m3
        cases m3
        rw [d1] at m6
        cases m6
      · rw [e, pt] at m3
        cases m3
        cases m6
      · rw [m6] at q
        cases q
      · rw [m6] at q
        cases q
    · obtain ⟨o, es, ep, e1, d1, _⟩ := gl
      rw [e, pt] at e1
      cases e1
      cases d1
  have limOn : (hidT s.heap H).NoLimit := by
    obtain ⟨mc, l1, l2⟩ := lim
    exact ⟨mc, nsOn l1, l2⟩
  have env : Env0 P w K mg (hidT s.heap H) callerA [] s H := ⟨rfl, ⟨kin', nsOn gl, ⟨mb, nsOn bi, boot⟩, limOn⟩, fun b o e => of_hidT e, Nat.le_of_eq (hidT_size _ _), trivial, fun b hb => absurd (show b ∈ ([] : List Addr) from hb) List.not_mem_nil, hok, .of_eq gens⟩
  refine codeAny_mono (run _ H tb env tabH sq) fun r s' z => ?_
  cases r with
  | error e => exact (show False from z).elim
  | ok fl =>
    cases fl with
    | next => exact (show False from z).elim
    | brk => exact (show False from z).elim
    | cont => exact (show False from z).elim
    | ret u =>
      obtain ⟨v, H', os, bare, un, hok', rv, ev⟩ := z
      have ev : v = .bl true := ev
      subst ev
      obtain rfl : u = Value.bool true := rv
      have grown : ∀ p ∈ cs, ∃ more : Array Value, s'.heap.get? p.2 = some { cls := .none, data := .fields more } := fun p hp => by
        obtain ⟨more, q⟩ := un.tbls p.2 #[] (tabH p hp)
        exact ⟨_, hok' p.2 _ q⟩
      have stays : ∀ b o, b ∉ cs.map (·.2) → s.heap.get? b = some o → s'.heap.get? b = some o := fun b o nb e => by
        cases q : H b with
        | none => exact un.keep b o e q (fun z => absurd (show b ∈ ([] : List Addr) from z) List.not_mem_nil) List.not_mem_nil
        | some u =>
          rcases some_ q with ⟨m, _⟩ | ⟨_, _, rfl⟩
          · exact absurd m nb
          · have e1 := (hok b _ q).1
            have e2 := (hok' b _ (un.frzs b _ _ q)).1
            rw [e] at e1
            rw [Option.some.inj e1]
            exact e2
      refine ⟨rfl, ⟨fun b o e => ?_, fun b o e => ?_⟩, os, bare⟩
      · by_cases m : b ∈ cs.map (·.2)
        · obtain ⟨p, hp, rfl⟩ := List.mem_map.mp m
          obtain ⟨more, hm⟩ := grown p hp
          rw [tabs p hp] at e
          cases e
          exact .inr (.inl ⟨((code p hp).tab (tabs p hp)).isCodeTable, rfl, #[], more, rfl, by rw [Array.empty_append]; exact hm⟩)
        · exact .inl (stays b o m e)
      · by_cases m : b ∈ cs.map (·.2)
        · obtain ⟨p, hp, rfl⟩ := List.mem_map.mp m
          obtain ⟨more, hm⟩ := grown p hp
          exact ⟨_, hm⟩
        · exact ⟨o, stays b o m e⟩
theorem walk_law0 {l : PySem.W.OpenLaw} {most : Nat} {prog : Program} {lo : List Str} {XP : (Str → Option Value) → Heap → Prop} {YP : World → Heap → Prop} {df : DefRec} {K : Params → PySem.W.Frag} (names : List Str)
    (h1 : l.most = some most) (h2 : most ≤ sizeLine) (h3 : df.params.defaults = []) (recs : (names.all fun nm => (recsOf prog).any fun r => r.name == nm) = true) (kin : ∀ (w : World) (h : Heap), YP w h → (K w.params).In h)
    (at_ : ∀ (w : World) (mg : Str → Option Value) (fa : Addr) (h : Heap), (K w.params).In h → h.Ns mainGlobals mg → mg df.name = some (.ref fa) → (∀ nm ∈ names, TabAt mg h nm) →
      ∃ cs : List (Addr × Addr), (∀ p ∈ cs, h.get? p.2 = some { cls := .none, data := .fields #[] }) ∧ (∀ p ∈ cs, (K w.params).lookup p.2 = none) ∧ (∀ p ∈ cs, PySem.W.CodeHd h p.1 p.2) ∧
        ∀ (s : Shared) (H : Hp) (base : Heap) (a : Addr) (ns : List Int), ns.length ≤ most → (∀ z ∈ ns, Builtin.Int.intBits z ≤ 1048576) → (∀ p ∈ cs, LamX.TabB base mg p.1 p.2) → Env0 l.prog w (K w.params) mg base callerA [] s H → (∀ p ∈ cs, H p.2 = some (.tbl #[])) → SqL (K w.params) H a (ns.map V.int) →
          codeAny (model l.prog w) callerA (.call (.ref fa) ⟨[.ref a], []⟩) (CR CX0 [] l.prog w H s (fun v _ => v = .bl true) E0) s) :
    PySem.W.WalkO prog lo XP YP l.row.toRowW df [] (fun f vs => PySem.call f vs) := by
  refine Att.attach_callB h1 h3 fun w s0 s mg mb fa o pm cd doc a vs ns Gr Y _ _ _ name ob iar len bits gens => ?_
  have tabs : ∀ nm ∈ names, TabAt mg s.heap nm := fun nm hm => by
    obtain ⟨r, hr, er⟩ := List.any_eq_true.mp (List.all_eq_true.mp recs nm hm)
    obtain ⟨x1, x2, x3, x4, x5, y1, y2, y3, y4, _, y6⟩ := Gr.T.tab r hr
    rw [beq_iff_eq.mp er] at y1
    exact ⟨x1, x2, x3, x4, x5, y1, y2, y3, y4, y6⟩
  obtain ⟨cs, t1, t2, t3, go⟩ := at_ w mg fa _ (kin w _ Y) Gr.T.g name tabs
  exact call_law (kin w _ Y) Gr.T.g Gr.T.b Gr.T.builtins Gr.T.nolimit gens t1 t2 t3 Gr.T.bmain ob iar (Nat.le_trans len h2) fun base H tb e0 th sq => go s H base a ns len bits tb e0 th sq

/-! ### a law whose methods make lambdas -/
theorem walk_law1 {l : PySem.W.OpenLaw} {most : Nat} {prog : Program} {lo : List Str} {XP : (Str → Option Value) → Heap → Prop} {YP : World → Heap → Prop} {df : DefRec} {K : Params → PySem.W.Frag} {ts : List Addr} (names : List Str)
    (h1 : l.most = some most) (h2 : most ≤ sizeLine) (h3 : df.params.defaults = []) (recs : (names.all fun nm => (recsOf prog).any fun r => r.name == nm) = true) (kin : ∀ (w : World) (h : Heap), YP w h → (K w.params).In h) (tsf : ∀ (w : World) (h : Heap), YP w h → ∀ P ∈ ts, h.get? P = some (PySem.W.tabObj #[]))
    (at_ : ∀ (w : World) (mg : Str → Option Value) (fa : Addr) (h : Heap), (K w.params).In h → h.Ns mainGlobals mg → mg df.name = some (.ref fa) → (∀ P ∈ ts, h.get? P = some (PySem.W.tabObj #[])) → (∀ nm ∈ names, TabAt mg h nm) →
      ∃ cs : List (Addr × Addr), (∀ p ∈ cs, h.get? p.2 = some { cls := .none, data := .fields #[] }) ∧ (∀ p ∈ cs, (K w.params).lookup p.2 = none) ∧ (∀ p ∈ cs, PySem.W.CodeHd h p.1 p.2) ∧
        ∀ (s : Shared) (H : Hp) (base : Heap) (a : Addr) (ns : List Int), ns.length ≤ most → (∀ z ∈ ns, Builtin.Int.intBits z ≤ 1048576) → (∀ p ∈ cs, LamX.TabB base mg p.1 p.2) → Env0 l.prog w (K w.params) mg base callerA [] s H → (∀ p ∈ cs, H p.2 = some (.tbl #[])) → SqL (K w.params) H a (ns.map V.int) →
          codeAny (model l.prog w) callerA (.call (.ref fa) ⟨[.ref a], []⟩) (CR CX0 [] l.prog w H s (fun v _ => v = .bl true) E0) s) :
    PySem.W.WalkO prog lo XP YP l.row.toRowW df [] (fun f vs => PySem.call f vs) := by
  refine Att.attach_callB h1 h3 fun w s0 s mg mb fa o pm cd doc a vs ns Gr Y _ _ _ name ob iar len bits gens => ?_
  have tabs : ∀ nm ∈ names, TabAt mg s.heap nm := fun nm hm => by
    obtain ⟨r, hr, er⟩ := List.any_eq_true.mp (List.all_eq_true.mp recs nm hm)
    obtain ⟨x1, x2, x3, x4, x5, y1, y2, y3, y4, _, y6⟩ := Gr.T.tab r hr
    rw [beq_iff_eq.mp er] at y1
    exact ⟨x1, x2, x3, x4, x5, y1, y2, y3, y4, y6⟩
  obtain ⟨cs, t1, t2, t3, go⟩ := at_ w mg fa _ (kin w _ Y) Gr.T.g name (tsf w _ Y) tabs
  exact call_law (kin w _ Y) Gr.T.g Gr.T.b Gr.T.builtins Gr.T.nolimit gens t1 t2 t3 Gr.T.bmain ob iar (Nat.le_trans len h2) fun base H tb e0 th sq => go s H base a ns len bits tb e0 th sq

end My
namespace My
open PySem PySem.Spec PyProof.Rows L2
/-! ### repr of what is nested; a list of truths counted; raise X() -/
def rRepr (K : PySem.W.Frag) : List V → Hp → VK → Prop := fun xs H Q => ∃ (v : V) (d : PyData), xs = [v] ∧ Dp K H v d ∧ isDisplay d = true ∧ d.showable = true ∧ d.hasDict = false ∧ d.depth ≤ 50 ∧ d.shown.length ≤ sizeLine ∧ Q (.str d.shown) H
theorem call_repr {X : Cx} (none_ : X.A.guards = some []) (room : X.A.units + 64 < cLine) : CallR X (.builtin "repr") (rRepr X.K) := by
  intro pins s σ H xs us Q I r h
  obtain ⟨v, d, rfl, dp, disp, shw, nod, dep, len, q⟩ := h
  obtain ⟨u, rfl, ru⟩ := vals1 r
  obtain ⟨as, rd⟩ := Dp.reads I d v u dp ru
  obtain ⟨a, rfl⟩ := isRef_of_reads rd disp
  exact repr_of_reads' rd shw (PyData.noDict_hsm nod) none_ (by omega) (fun _ _ e => e) (fun h' t tk hk => ⟨.str d.shown, H, I.kept (t' := tk) hk, ⟨t, rfl⟩, q⟩) len
/-- l.count(True), l a list of truths -/
def rCntB (K : PySem.W.Frag) : V → List V → Hp → VK → Prop := fun x xs H Q => ∃ (p : Addr) (bs : List Bool) (b : Bool), x = .ref p ∧ xs = [.bl b] ∧ SqL K H p (bs.map V.bl) ∧ Q (.int (bs.count b : Nat)) H
def isB (b : Bool) : Value → Bool
  | .bool c => c == b
  | _ => false
theorem bools_of {b : Bool} : ∀ {bs : List Bool} {us : List Value}, Vals (bs.map V.bl) us → (∀ y ∈ us, ∃ c, y = .bool c) ∧ us.countP (isB b) = bs.count b
  | [], _, r => by
    cases r
    exact ⟨fun y h => (nomatch h), rfl⟩
  | c :: bs, _, r => by
    rw [List.map_cons] at r
    cases r with
    | @cons a u as us ru rr =>
      obtain ⟨h1, h2⟩ := bools_of (b := b) rr
      obtain rfl : u = Value.bool c := ru
      refine ⟨fun y hy => ?_, ?_⟩
      · rcases List.mem_cons.mp hy with e | e
        · exact ⟨c, e⟩
        · exact h1 y e
      · rw [List.countP_cons, List.count_cons, h2]
        rfl
theorem mt_countB {X : Cx} : MtR X "list.count" (rCntB X.K) := by
  intro pins s σ H x xs v us Q I rx rxs h
  obtain ⟨p, bs, b, rfl, rfl, sq, q⟩ := h
  obtain rfl : v = Value.ref p := rx
  obtain ⟨u, rfl, ru⟩ := rxs.one
  obtain rfl : u = Value.bool b := ru
  obtain ⟨its, rel, ⟨ob, n, hob, cls, dct, dat⟩, _⟩ := I.list sq
  obtain ⟨oc, od, odt, osl⟩ := ob
  simp only at cls dat
  subst cls dat
  obtain ⟨all, cnt⟩ := bools_of (b := b) rel
  refine call_meets PySem.F.slot_list_count ⟨_, hob, rfl⟩ PySem.F.entry_list_count (PySem.F.args_list_count_2 _ _) (SeqAt.list_countAt p its.toArray n od osl (.bool b) (isB b)) ⟨hob, fun y hy => ?_, ?_⟩
  · obtain ⟨c, rfl⟩ := all y (by simpa using hy)
    exact SeqAt.EqAt.bool_bool c b
  · refine ⟨.int (bs.count b : Nat), H, I.tok _, ⟨s.toks, ?_⟩, q⟩
    show Value.int ((its.toArray.toList.countP (isB b) : Nat) : Int) s.toks = Value.int ((bs.count b : Nat) : Int) s.toks
    rw [← cnt]
/-- raise X() -/
theorem pmk_own0 {X : Cx} {C : Addr} {x : Str} {p pos : Pos} (ex : PySem.W.excIn X.K C veB "ValueError.__new__" = true) (gC : X.mg x = some (.ref C)) (kC : PySem.W.keepIn X.K (.ref C) = true) (rs : Raises X (.ref C)) (gl : Gl X x) (dbg : (x == ("__debug__" : Str)) = false := by decide) :
    PMk X (.Call (.Name x p) [] [] pos) (fun _ H Q => Q (.ref C) none H) := by
  intro pins st σ H Q I q
  refine wpAny_Call_Name_kw (ld_glob I gl gC ?_ dbg)
  refine PySem.W.callWith_K0 I.kIn kC ?_
  obtain ⟨bm, N, nm, qn, bs, hdct, sn, sub, ab, col, dd, k0, k1, k2, k3, k5, mN, hC, hN, hni, OT⟩ := exc_obj I.kIn ex
  exact wpAny_call_exc_subT PySem.F.excBase_ValueError OT hC hN hni (fun h' a made => mk_of I made rs q (I.hok.gone made.new)) (Nat.zero_le _)
/-- isinstance of a kept exception -/
def rIsC (K : PySem.W.Frag) : List V → Hp → VK → Prop := fun xs H Q => ∃ (a C : Addr) (c : V) (cv : Value) (b : Bool), xs = [.ref a, c] ∧ H a = some (ExC (.ref C) none a) ∧ XcC K C ∧ ClsV c cv ∧ PySem.W.kitOne K (.ref C) cv = some b ∧ Q (.bl b) H
theorem call_isC {X : Cx} : CallR X (.builtin "isinstance") (rIsC X.K) := by
  intro pins st σ H xs us Q I r h
  obtain ⟨a, C, c, cv, b, rfl, at_, xc, kc, e, q⟩ := h
  obtain ⟨u1, u2, rfl, r1, r2⟩ := vals2 r
  obtain rfl : u1 = Value.ref a := r1
  obtain rfl := kc.eq r2
  obtain ⟨⟨oe, vs, ho, hz, hd⟩, _, _⟩ := I.hok a _ at_
  have inst : PySem.W.InstAt st.heap a oe C none := by
    refine ⟨ho, hz.1, ?_, ?_⟩
    · unfold PySem.W.notCls
      rw [hd]
    · rw [hz.2]
      trivial
  exact PySem.W.kia_one (PySem.W.kitx_exc xc.cl xc.hg xc.hk xc.hs xc.ha xc.hn xc.ht xc.hm) I.kIn inst e (fun z => nomatch z) fun tk => ⟨.bl b, H, I.kept (t' := tk) fun _ _ z => z, rfl, q⟩

/-! ### len(set(t)) of a tuple of whole numbers -/
def tLenSetT (K : PySem.W.Frag) (ta : TE) : TE := fun σ H Q => ta σ H fun x H1 => ∃ (p : Addr) (ns : List Int), x = .ref p ∧ SqT K H1 p (ns.map V.int) ∧ ns.length ≤ 1000 ∧ ∀ out : List Int, out.Nodup → (∀ k, k ∈ out ↔ k ∈ ns) → Q (.int (out.length : Nat)) H1
theorem pe_lenSetT {X : Cx} {a : Expr} {ta : TE} {p p2 q pos : Pos} (hc : X.calm = true) (hg : Gl X "len") (hm : X.mg "len" = none) (hg2 : Gl X "set") (hm2 : X.mg "set" = none) (ha : PE X a ta)
    (na : starEach [a] X.env = (false, eval a X.env) :: starEach [] X.env := by rfl) : PE X (.Call (.Name "len" p) [.Call (.Name "set" p2) [a] [] q] [] pos) (tLenSetT X.K ta) := by
  refine ⟨fun pins s σ H Q I h => ?_⟩
  refine Call_ (ld_blt I hg hm boot_len ?_)
  refine PyProof.Rows.callWith_builtin1 (PyProof.Rows.args_cons ?_ rfl) rfl rfl
  refine Call_ (ld_blt I hg2 hm2 boot_set ?_)
  refine PyProof.Rows.callWith_type1 (PyProof.Rows.args_cons (thn (ha.run pins s σ H _ I h) fun v s1 ⟨x, H1, I1, r1, q1⟩ => PyProof.Rows.args_nil ?_) na) na rfl
  obtain ⟨p0, ns, rfl, hq, hl, q1⟩ := q1
  cases r1
  obtain ⟨its, rv, pt, hz⟩ := I1.tuple hq
  have hi : IntsAre its.toArray.toList ns := ints_of_vals rv
  refine call_set_tupI ns (I1.ok.hd hc) (show s1.heap.IsTuple p0 its.toArray from pt) hi (by unfold scanBound; omega) fun h' tk c R1 hcn k => ?_
  refine PyProof.Rows.args_nil ?_
  obtain ⟨o, es, ep, t, ho, hex, hdt, g, nd, hm2, hb, hf, hn, hr, hl2⟩ := R1
  have I2 : Inv X pins σ H1 { s1 with heap := h', toks := tk } := I1.kept fun b o e => k b o e
  have z := q1 (es.toList.map keyOf) nd fun j => by rw [← hm2 j, decide_eq_true_eq]
  rw [List.length_map, Array.length_toList] at z
  exact call_len_set (s := { s1 with heap := h', toks := tk }) ho hex hdt hf (by rw [hn]; omega) ⟨.int es.size, H1, I2.tok _, ⟨_, rfl⟩, z⟩
/-! ### all of a generator expression, by a walk -/
theorem gturns_it {J : It} {n : Nat} {G : Hp → Prop} {Y : Nat → Hp → V → Hp → Prop} (wk : Walk J n G Y) {g : TG} {te : TE} {σw : L2.St} {vs : List Nat} {Q : Bool → Hp → Prop} {H : Hp} (Pv : Nat → Hp → Prop) (h0 : Pv 0 H) (hG : ∀ i H, i ≤ n → Pv i H → G H)
    (hs : ∀ (i : Nat) (x : V) (H H' : Hp) (N : Hp → Prop), i < n → Pv i H → Y i H x H' → (∀ H3, Pv (i + 1) H3 → N H3) → g x σw H' fun σ2 H2 => wipe σ2 vs = σw ∧ te σ2 H2 fun v H3 => ∃ b, v = .bl b ∧ if b = true then N H3 else Q false H3)
    (hd : ∀ H, Pv n H → Q true H) : ∃ W : Nat → Nat → Hp → Prop, (∃ m, W 0 m H) ∧ gTurns J g te σw vs W Q := by
  refine ⟨fun i m H => m = n - i ∧ i ≤ n ∧ Pv i H, ⟨n, rfl, Nat.zero_le _, h0⟩, fun i m H st => ?_⟩
  obtain ⟨em, le, pv⟩ := st
  have q := hG i H le pv
  rcases Nat.lt_or_eq_of_le le with lt | eq
  · refine .inr ⟨wk.goes i H lt q, fun v H' y => ?_⟩
    exact hs i v H H' _ lt pv (wk.yields i H v H' lt q y) fun H3 p' => ⟨n - (i + 1), by omega, rfl, lt, p'⟩
  · subst eq
    exact .inl ⟨wk.stops H q, hd H pv⟩
theorem walk_zipT {K : PySem.W.Frag} {a b : Addr} {xs ys : List V} {n : Nat} (hn : n = min xs.length ys.length) : Walk (RZ.ItzT K a b) n (fun H => SqT K H a xs ∧ SqT K H b ys) (YPair (fun i => xs[i]?) (fun i => ys[i]?)) := by
  subst hn
  refine ⟨fun i _ hi q => ?_, fun _ q => ⟨xs, ys, q.1, q.2, by omega⟩, fun i H v H' _ q y => ?_⟩
  · have h1 : i < xs.length := by omega
    have h2 : i < ys.length := by omega
    exact ⟨xs, ys, xs[i], ys[i], q.1, q.2, by simp [h1], by simp [h2]⟩
  · obtain ⟨T, x, z, h1, h2, h3, h4, h5⟩ := y
    exact ⟨T, x, z, h1, h2, h3, h4 xs q.1, h5 ys q.2⟩

end My
namespace My
open PySem PySem.Spec PyProof.Rows L2
/-! ### an exception caught and looked at within the suite: it is tracked there already -/
theorem inv_toU {X : Cx} {pins : List (Addr × Obj)} {σ : L2.St} {H : Hp} {s : Shared} (I : Inv X pins σ H s) (a : Addr) : Inv (X.suite a (X.pn ++ pins)) [] σ H s :=
  ⟨I.ok.suite a _, I.os, I.bare, I.base, I.loc, I.cell, I.free, I.freeC, (fun p hp => I.pin p (by rw [List.append_nil] at hp; exact hp)), I.hok, I.len⟩
theorem inv_ofU {X : Cx} {a : Addr} {pins pn' : List (Addr × Obj)} {σ : L2.St} {H : Hp} {s : Shared} (I : Inv (X.suite a (X.pn ++ pins)) pn' σ H s) (ok : X.Ok) : Inv X pins σ H s :=
  ⟨ok, I.os, I.bare, I.base, I.loc, I.cell, I.free, I.freeC, (fun p hp => I.pin p (List.mem_append_left _ hp)), I.hok, I.len⟩
/-- what 'except x as n' wishes, the exception seen in the suite -/
def wSeen (K : PySem.W.Frag) (c : Value) (i : Nat) (ts : Addr → TS) (D : Ends) : WX := fun cls d σ H =>
  PySem.W.exmOne K cls c = some true ∧ ∀ a, H a = none → ts a { nx := fun σ' H' => D.nx (σ'.set i none) H', rt := fun _ _ => False, bk := fun _ _ => False, ct := fun _ _ => False } (σ.set i (some (.ref a))) (upd H a (ExC cls d a))
theorem ps_try_seen {X : Cx} {x n : Str} {c : Value} {i : Nat} {body suite : List Stmt} {b0 : Stmt} {np pos pos' : Pos} {tb : WX → TS} {ts : Addr → TS} (stk : X.stack = X.env :: X.outer) (frm : X.env.frame = some X.env.locals) (nd : X.N.Nodup) (hi : X.N[i]? = some n) (loc : X.env.kindOf n = some .local) (nm : Names X x c)
    (hb : ∀ (W : WX) (pn : List (Addr × Obj)) (xe : Value → Shared → Prop), Takes (X.tr pn xe) W → PSs (X.tr pn xe) body (tb W))
    (hsu : ∀ (a : Addr) (pn : List (Addr × Obj)), PSs (X.suite a pn) (b0 :: suite) (ts a)) :
    PS X (.Try body [.ExceptHandler (some (.Name x np)) (some n) (b0 :: suite) pos'] [] [] pos) (fun D σ H => tb (wSeen X.K c i ts D) D σ H) := by
  constructor
  intro pins s σ H D I h
  have frs' : X.A.frames = some (X.env :: X.outer) := by rw [I.ok.frames, stk]
  refine wpAny_Try_except (wpAny_mono ((hb (wSeen X.K c i ts D) (X.pn ++ pins) _ fun u s' ex => ?_).run [] s σ H D (I.toTry _) h) (fun f s1 sp => ?_) fun e s1 q => q)
  · obtain ⟨a, B, sI, pins', σ', H', cls, d, rfl, JT, nb, up, sky, na, os, ag, hm, go⟩ := ex
    have J : Inv X pins σ' H' sI := JT.ofTry I.ok
    have sky2 : Sky B (X.env :: X.outer) a (Zc cls d) X.env.locals s'.heap := stk ▸ sky
    refine Sky.land Zc.steady frs' frm sky2 fun h3 fl3 up3 => ?_
    have J3 : Inv X pins σ' H' { s' with heap := h3 } := J.landed nb fl3.1 (up.trans up3) os ag
    have away : ∀ {hp : Heap} {o : Obj} {vs : Array Value}, hp.FunFrames B (X.env :: X.outer) → hp.get? a = some o → o.data = .fields vs → a ∉ frs (X.env :: X.outer) := fun {hp o vs} ff e dd m => by
      obtain ⟨_, o', e', nf⟩ := ff.mem m
      rw [e] at e'
      cases e'
      exact nf _ dd
    obtain ⟨oe3, vs3, he3, hz3, hd3⟩ := fl3.there
    have nfr := away fl3.2.2.1 he3 hd3
    have nl : a ≠ X.env.locals := fun z => nfr (List.mem_filterMap.mpr ⟨X.env, List.mem_cons_self, by rw [frm, z]⟩)
    have nfs : a ∉ X.fs := fun m => by
      obtain ⟨e, he, q⟩ := List.mem_filterMap.mp m
      exact nfr (List.mem_filterMap.mpr ⟨e, List.mem_cons_of_mem _ he, q⟩)
    have newI : sI.heap.get? a = none := by
      cases q : sI.heap.get? a with
      | none => rfl
      | some ob =>
        have z := nb a ob q (by rw [stk]; exact nfr)
        rw [fl3.2.1] at z
        cases z
    have S3 := J3.suite he3 hd3 na nl nfs
    refine wpAny_handleBy_cons (codeAny_handlers_test ?_) (fun z => nomatch z)
    have name : ∀ {Q' : Value → Shared → Prop} {E' : Value → Shared → Prop}, Q' c { s' with heap := h3 } → wpAny (model X.prog X.w) (X.A.mark (some (.ref a))) (eval (.Name x np) X.env) Q' E' { s' with heap := h3 } := fun {Q' E'} q => by
      obtain ⟨gl, dbg, hit | ⟨miss, bt, nn⟩⟩ := nm
      · exact ld_glob (X := X.suite a ((a, oe3) :: (X.pn ++ pins))) S3 gl hit q dbg
      · exact ld_blt (X := X.suite a ((a, oe3) :: (X.pn ++ pins))) S3 gl miss bt q nn dbg
    have looks : PySem.W.Looks (model X.prog X.w) h3 (typeOf (.ref a)) cls := fun A' Q' E' t k q => wpAny_typeOf_ref (k _ _ he3) (hz3.1.symm ▸ q)
    refine name ((PySem.W.exm_one (M := model X.prog X.w) J3.kIn looks hm).here (codeAny_handlers_suite_as (HandSPX.lands_againZ fl3 fun h4 fl4 up4 => ?_)))
    · have J4 : Inv X pins σ' H' { s' with heap := h4 } := J.landed nb fl4.1 ((up.trans up3).trans up4) os ag
      obtain ⟨oe4, vs4, he4, hz4, hd4⟩ := fl4.there
      have J5 := inv_seen J newI J4 na (exC_ok he4 hz4 hd4)
      refine store_ok (X := X.suite a (X.pn ++ pins)) (v := .ref a) (inv_toU J5 a) nd hi (.inl loc) rfl (fun s5 S5 => ?_) (.inr loc)
      refine wpAny_mono ((hsu a (X.pn ++ pins)).run [] s5 _ _ _ S5 (go a na)) (fun f s6 sp => ?_) fun _ _ z => (show False from z).elim
      cases f with
      | next =>
        obtain ⟨σ6, H6, S6, q6⟩ := sp
        exact gone_ok (X := X.suite a (X.pn ++ pins)) S6 nd hi loc fun s7 S7 => ⟨_, _, inv_ofU S7 I.ok, q6⟩
      | brk =>
        obtain ⟨_, _, _, z⟩ := sp
        exact (show False from z).elim
      | cont =>
        obtain ⟨_, _, _, z⟩ := sp
        exact (show False from z).elim
      | ret u =>
        obtain ⟨_, _, _, _, _, z⟩ := sp
        exact (show False from z).elim
  · cases f with
    | next =>
      obtain ⟨σ', H', J, q⟩ := sp
      exact wpAny_execs_nil ⟨σ', H', J.ofTry I.ok, q⟩
    | brk =>
      obtain ⟨σ', H', J, q⟩ := sp
      exact ⟨σ', H', J.ofTry I.ok, q⟩
    | cont =>
      obtain ⟨σ', H', J, q⟩ := sp
      exact ⟨σ', H', J.ofTry I.ok, q⟩
    | ret u =>
      obtain ⟨v, σ', H', J, r, q⟩ := sp
      exact ⟨v, σ', H', J.ofTry I.ok, r, q⟩

/-! ### o.m(..) that may raise -/
def tMethX (C : Addr) (m : Str) (sp : Sp) (E : L2.St → XK) (ta : TE) (t : TA) : TE := fun σ H Q => ta σ H fun x H1 => ∃ a dx fs, x = .ref a ∧ H1 a = some (.ins C dx fs) ∧ fs.lookup m = none ∧ t σ H1 fun vs H2 => sp (x :: vs) H2 Q (E σ)
section
variable {X : Cx} {CX : CXT} {k : Nat} {f C : Addr} {fd : FuncData} {ps : List Str} {sp : Sp} {E : L2.St → XK} {x m : Str} {q pos apos : Pos} {e o : Expr} {es : List Expr} {ta : TE} {t : TA}
theorem pe_methX {pl : Sem Bool} (ho : PE X o ta) (hC : Cls X.K C) (me : Meth X.K C m f) (F : FnOk X.prog X.w X.K X.mg X.base CX k f fd ps sp) (room : Room k X.A) (bi : Binds X.K fd ps []) (px : ∀ σ, PassesAt CX X σ (E σ)) (has : PA X (e :: es) t)
    (h1 : starEach (e :: es) X.env = (false, eval e X.env) :: starEach es X.env := by rfl) (h2 : (backTo pos (starEach es X.env)).any (·.1) = false := by rfl)
    (h3 : eval (.Call (.Attribute o m apos) (e :: es) [] pos) X.env = (do
      let ov ← eval o X.env
      standAt apos.atName
      let z ← holding [ov] (getMethod ov m pl)
      callWith pos z.1 z.2 (backTo pos (starEach (e :: es) X.env)) (backToKw pos (keywordEach [] X.env))) := by rfl) : PE X (.Call (.Attribute o m apos) (e :: es) [] pos) (tMethX C m sp E ta t) := by
  constructor
  intro pins s σ H Q I h
  refine PySem.W.methodCall_KW (pl := pl) (thn (ho.run pins s σ H _ I h) fun u s1 z => ?_) h3
  obtain ⟨x, H1, I1, rx, a, dx, fs, rfl, ea, l, q⟩ := z
  obtain rfl : u = Value.ref a := rx
  refine getmeth_ok I1 ea hC me l (PySem.W.callWith_K (first := [.ref a]) (h₀ := X.base) I.ok.mod.kin me.kp (thn (has.run pos pins s1 σ H1 _ I1 q) fun us s2 z => ?_) h1 h2)
  obtain ⟨vs, H2, I2, r, q2⟩ := z
  exact ⟨I2.kIn, run_fnS (us := .ref a :: us) (vs := .ref a :: vs) F room bi (px σ) I2 (.cons rfl r) q2⟩
end
/-! ### defs called within an except suite -/
/-- a call's room, whatever is handled -/
abbrev RoomU (k : Nat) (A : Around) : Prop := L2H.RoomH k A
structure FnU (P : Program) (w : World) (K : PySem.W.Frag) (mg : Str → Option Value) (base : Heap) (CX : CXT) (k : Nat) (f : Addr) (fd : FuncData) (ps : List Str) (sp : Sp) : Prop where
  ln : ∀ vs H Q E, sp vs H Q E → vs.length = ps.length
  go : ∀ (A : Around) (outer : List Env) (s : Shared) (H : Hp) (ar : Args) (us : List Value) (vs : List V) (Q : VK) (E : XK), RoomU k A → Env0 P w K mg base A outer s H → BindsTo s fd ar (ps.zip us) → Vals vs us → sp vs H Q E → codeAny (model P w) A (.call (.ref f) ar) (CR CX outer P w H s Q E) s
/-- any def's context there -/
abbrev cxU (CX : CXT) (P : Program) (w : World) (K : PySem.W.Frag) (mg : Str → Option Value) (base : Heap) (N : List Str) (qual : Str) (scope : Scope) (f : Addr) (cd : Value) (A : Around) (outer : List Env) (s : Shared) (H : Hp) (E : XK) : Cx :=
  { cxOf CX P w K mg base N qual scope f cd A outer s H E with calm := false }
theorem inv_startU {CX : CXT} {P : Program} {w : World} {K : PySem.W.Frag} {mg : Str → Option Value} {base : Heap} {N ps : List Str} {qual : Str} {scope : Scope} {f : Addr} {cd : Value} {A : Around} {outer : List Env} {s s1 : Shared} {H : Hp} {E : XK} {us : List Value} {vs : List V} (S : FnScope N ps scope) (e0 : Env0 P w K mg base A outer s H) (hl : vs.length = ps.length) (r : Vals vs us)
    (ic : InCallC s s.heap.objs.size (bindL (envOfC qual scope s.heap.objs.size f cd).kindOf (ps.zip us) fun _ => none) (cellsFrom (s.heap.objs.size + 1) scope.names []) (bindC (envOfC qual scope s.heap.objs.size f cd).kindOf (ps.zip us) fun _ => none) s1) : Inv (cxU CX P w K mg base N qual scope f cd A outer s H E) [] (L2.start N vs) H s1 := by
  have e1 : Env0 P w K mg base { A with handled := none } outer s H := ⟨e0.frames, e0.mod, e0.bs, e0.bsz, e0.funs, e0.frf, e0.hok, e0.bare⟩
  have I := L2.inv_start (CX := CX) (E := E) (A := { A with handled := none }) S rfl e1 hl r ic
  obtain ⟨k, os, bare, un, loc, cell, free, freeC, pin, hok, len⟩ := I
  exact ⟨⟨k.mod, k.kind, k.glob, k.blt, k.above, k.inj, k.has, k.cab, (fun z => absurd (show false = true from z) Bool.false_ne_true), Around.frames_deeper e0.frames, k.stk, k.exf, k.bs, k.bsz, k.noex, k.exfs, k.funs, k.frf⟩, os, bare, un, loc, cell, free, freeC, pin, hok, len⟩
theorem Fun.okU {P : Program} {w : World} {K : PySem.W.Frag} {mg : Str → Option Value} {base : Heap} {x qual : Str} {st : Stmt} {f : Addr} {fd : FuncData} {N ps : List Str} {k : Nat} {sp : Sp} (F : L2.Fun K x qual st f fd) (S : FnScope N ps (defScope st)) (len : ∀ vs H Q E, sp vs H Q E → vs.length = ps.length)
    (read : ∀ (cdv : Value) (A : Around) (outer : List Env) (s : Shared) (H : Hp) (vs : List V) (Q : VK) (E : XK), RoomU k (A.deeper (PyProof.Rows.envOfC qual (defScope st) s.heap.objs.size f cdv)) → sp vs H Q E →
      ∃ t, PSs (cxU (L2.CX P w) P w K mg base N qual (defScope st) f cdv A outer s H E) (defBody st) t ∧ t { nx := fun _ H' => Q .non H', rt := Q } (L2.start N vs) H) : FnU P w K mg base (L2.CX P w) (k + 1) f fd ps sp := by
  obtain ⟨oc, od, kV, doc, pm, an, cdv, ct, osl, rfl, lk, hcd⟩ := F.ex
  constructor
  · exact len
  intro A outer s H ar us vs Q E hr e0 hb r hsp
  have kin : K.In s.heap := e0.mod.kin.keeps fun b o e => (e0.bs b o e).1
  have nol : s.heap.NoLimit := e0.mod.nolimit.keeps fun b o e => (e0.bs b o e).1
  have kinds : ∀ y ∈ ps.zip us, (defScope st).names.lookup y.1 = some .local ∨ ((defScope st).names.lookup y.1 = some .cell ∧ ((cellsFrom (s.heap.objs.size + 1) (defScope st).names []).lookup y.1).isSome = true) := by
    rintro ⟨n, v⟩ hy
    exact (S.par n (List.of_mem_zip hy).1).imp id fun q => ⟨q, PySem.W.cellsFrom_some _ _ _ (.inl q)⟩
  refine codeAny_call_function hr.depth (kin _ _ lk) rfl S.co S.gen rfl (PySem.W.codeRec_of kin hcd) (hb _ _ _ _ (wpAny_newFunctionEnv_cells S.kind kinds fun env he s1 ic => ?_))
  cases he
  refine ⟨nol.keeps ic.toInCall.keep, codeAny_func ?_⟩
  obtain ⟨t, ht, hq⟩ := read cdv A outer s H vs Q E (hr.deeper _) hsp
  have I0 := inv_startU (CX := L2.CX P w) (E := E) S e0 (len _ _ _ _ hsp) r ic
  refine wpAny_mono (ht.run [] s1 _ H _ I0 hq) (fun fl s' z => ?_) fun e s' z => z
  cases fl with
  | next =>
    obtain ⟨σ', H', J, q⟩ := z
    exact ⟨V.non, H', J.os, J.bare, J.base, J.hok, rfl, q⟩
  | ret u =>
    obtain ⟨v, σ', H', J, rv, q⟩ := z
    exact ⟨v, H', J.os, J.bare, J.base, J.hok, rv, q⟩
  | brk =>
    obtain ⟨_, _, _, q⟩ := z
    exact (show False from q).elim
  | cont =>
    obtain ⟨_, _, _, q⟩ := z
    exact (show False from q).elim
section
variable {X : Cx} {CX : CXT} {k : Nat} {f : Addr} {fd : FuncData} {ps : List Str} {sp : Sp} {x : Str} {q pos : Pos} {e : Expr} {es : List Expr} {t : TA}
/-- such a call, nothing let out -/
theorem pe_callU (F : FnU X.prog X.w X.K X.mg X.base CX k f fd ps sp) (room : RoomU k X.A) (gl : Gl X x) (at_ : X.mg x = some (.ref f)) (kp : PySem.W.keepIn X.K (.ref f) = true) (bi : Binds X.K fd ps []) (px : Passes CX X E0) (has : PA X (e :: es) t)
    (db : (x == ("__debug__" : Str)) = false := by decide) (h1 : starEach (e :: es) X.env = (false, eval e X.env) :: starEach es X.env := by rfl) (h2 : (backTo pos (starEach es X.env)).any (·.1) = false := by rfl) : PE X (.Call (.Name x q) (e :: es) [] pos) (tCall sp [] E0 t) := by
  constructor
  intro pins s σ H Q I h
  refine wpAny_Call_Name_kw (ld_glob I gl at_ (PySem.W.callWith_K (h₀ := X.base) I.ok.mod.kin kp (thn (has.run pos pins s σ H _ I h) fun us s1 z => ?_) h1 h2) db)
  obtain ⟨vs, H1, I1, r, q1⟩ := z
  rw [List.append_nil] at q1
  refine ⟨I1.kIn, ?_⟩
  have b := bi s1 us I1.kIn (by rw [List.append_nil, ← r.length]; exact F.ln _ _ _ _ q1)
  rw [List.append_nil] at b
  refine wpAny_call (codeAny_mono (F.go X.A X.stack s1 H1 ⟨us, []⟩ us vs Q E0 room I1.env0 b r q1) fun r s' hq => ?_)
  cases r with
  | ok fl =>
    cases fl with
    | ret u => exact I1.after hq
    | next => exact False.elim hq
    | brk => exact False.elim hq
    | cont => exact False.elim hq
  | error er => exact px pins σ H1 s1 er s' I1 hq
end

end My
namespace My
open PySem PySem.Spec PyProof.Rows L2
/-! ### x, *ys = a tuple -/
theorem items_star {prog : Program} {w : World} {A : Around} {E : Value → Shared → Prop} {s : Shared} {l : Addr} {items : Array Value} {x : Value} {xs : List Value} {Q : List Value → Shared → Prop} (hl : s.heap.IsTuple l items) (hh : A.handled = none) (hx : items.toList = x :: xs) (hz : items.size ≤ 16384)
    (h : ∀ h' tk, Heap.ExtBut s.heap.objs.size s.heap h' → Q [x, .ref h'.objs.size] { s with heap := h'.push { cls := .type "list", data := .seq xs.toArray }, toks := tk }) : wpAny (model prog w) A (unpackItems (.ref l) 2 (some 1)) Q E s := by
  have hs : items.size = xs.length + 1 := by
    rw [← Array.length_toList, hx]
    rfl
  have hlt : l ≠ s.heap.objs.size := by obtain ⟨o, ho, _⟩ := hl; exact Nat.ne_of_lt (Heap.lt_size ho)
  unfold unpackItems
  refine wpAny_bind ?_
  unfold notIterableAtAll
  refine wpAny_bind (wpAny_specialOf hl.typeIs PySem.F.slot_tuple_iter.lookup ?_)
  refine wpAny_pure ?_
  simp only [Bool.false_eq_true, if_false]
  refine wpAny_bind (wpAny_holding (iter_tuple hl ?_))
  refine wpAny_bind (wpAny_holding (draw_tuple hlt 1 0 _ _ ⟨_, Heap.get?_push_size _ rfl, rfl, rfl⟩ (hl.push _) (by omega) fun h₁ hit₁ hs₁ => ?_))
  have hl₁ : h₁.IsTuple l items := (hl.push _).extBut hs₁.extBut hlt
  rw [Nat.zero_add] at hit₁
  have hit₁' := hit₁
  obtain ⟨oi, hoi, _⟩ := hit₁'
  have hl₁' := hl₁
  obtain ⟨ol, hol, _⟩ := hl₁'
  rw [List.drop_zero]
  have e1 : items.toList.take 1 = [x] := by rw [hx]; rfl
  rw [e1]
  rw [if_neg (show ¬ (([x] : List Value).length < 1) from Nat.lt_irrefl 1)]
  refine wpAny_bind (wpAny_holding (PySem.W.kun_collect (s := { s with heap := h₁ }) (T := "tuple_iterator") (.inr (.inr (.inr rfl))) (Walks.tuple (A := A.in1) hh s.heap.objs.size l hlt items) (fun j u st => st.1.typeIs) (k := 1) (by omega) ⟨hit₁, hl₁⟩ (Heap.lt_size hoi) (Heap.lt_size hol) (fun h₂ tk hk => ?_) (by rw [sizeLine_eq]; omega)))
  have e2 : items.toList.drop 1 = xs := by rw [hx]; rfl
  rw [e2]
  show wpAny _ _ (if xs.length < 2 - 1 - 1 then _ else _) _ _ _
  rw [if_neg (by omega)]
  have he : Heap.ExtBut s.heap.objs.size s.heap h₂ := fun b o hb e => hk b o hb (hs₁.extBut b o hb (Heap.get?_push_of_some _ e))
  refine wpAny_bind (wpAny_newList ?_ ?_)
  · refine wpAny_pure ?_
    show Q ([x] ++ [Value.ref h₂.objs.size] ++ List.drop (xs.length - (2 - 1 - 1)) xs) _
    have e3 : List.take (xs.length - (2 - 1 - 1)) xs = xs := List.take_of_length_le (by omega)
    have e4 : List.drop (xs.length - (2 - 1 - 1)) xs = [] := List.drop_of_length_le (by omega)
    rw [e4]
    have := h h₂ tk he
    simp only [e3]
    exact this
  · rw [List.length_take, sizeLine_eq]
    omega
section
variable {X : Cx} {pos : Pos}
theorem pgs_star {e : Expr} {es : List Expr} {sp : Pos} {t : TG} {u : TGs} (h1 : PG X e t) (h2 : PGs X es u)
    (hs : (assignEach (.Starred e sp :: es) X.env).map (·.2) = assign e X.env :: (assignEach es X.env).map (·.2) := by rfl) : PGs X (.Starred e sp :: es) (gCons t u) := by
  refine ⟨fun pins s σ H vs us Q I r h => ?_⟩
  obtain ⟨v, vr, e1, h⟩ := h
  subst e1
  cases r with
  | cons r rr =>
    rw [hs]
    refine assignInOrder_cons (thn (h1.run pins s σ H _ _ _ I r h) fun _ s1 ⟨σ1, H1, I1, q1⟩ => ?_)
    exact h2.run pins s1 σ1 H1 _ _ Q I1 rr q1
def gStar (K : PySem.W.Frag) (t : TGs) : TG := fun v σ H Q => ∃ a x xs, v = .ref a ∧ SqT K H a (x :: xs) ∧ xs.length ≤ 1000 ∧ ∀ l, H l = none → t [x, .ref l] σ (upd H l (.lst xs)) Q
theorem pg_star {es : List Expr} {k : Nat} {t : TGs} (hc : X.calm = true) (h : PGs X es t)
    (hn : (assignEach es X.env).length = 2 := by rfl) (hst : (assignEach es X.env).findIdx? (·.1) = some 1 := by rfl) : PG X (.Tuple es k pos) (gStar X.K t) := by
  refine ⟨fun pins s σ H v u Q I r hw => ?_⟩
  obtain ⟨a, x, xs, e1, hq, hl, hw⟩ := hw
  subst e1
  cases r
  obtain ⟨its, rv, ht, hz⟩ := I.tuple hq
  cases rv with
  | cons r1 rr =>
    rename_i u1 us
    have hus : xs.length = us.length := rr.length
    rw [PyProof.Rows.assign_Tuple]
    refine wpAny_bind (wpAny_standAt ?_)
    unfold unpack
    rw [hn, hst]
    refine wpAny_bind (wpAny_holding (items_star (x := u1) (xs := us) ht (I.ok.hd hc) (by simp) (by simp; omega) fun h' tk hx => ?_))
    have I1 : Inv X pins σ H { s with heap := h', toks := tk } := I.kept (t' := tk) fun b o e => hx b o (Nat.ne_of_lt (Heap.lt_size e)) e
    have I2 := I1.laid (t' := tk) (o := .lst xs) (h' := h'.push { cls := .type "list", data := .seq us.toArray }) (fun b ob q => Heap.get?_push_of_some _ q) (Nat.le_refl _) ⟨Nat.le_trans hl (by decide), us, 0, rr, Heap.get?_push_size _ rfl⟩
    exact h.run pins _ σ _ _ _ Q I2 (.cons r1 (.cons (show L2.RelV (.ref h'.objs.size) (.ref h'.objs.size) from rfl) .nil)) (hw _ (I1.hok.fresh (Nat.le_refl _)))
/-- a op1 b op2 c op3 d -/
def tChain3 (r r' r'' : R2) (ta tb tc td : TE) : TE := fun σ H Q => ta σ H fun x H1 => tb σ H1 fun y H2 => r x y H2 fun z H3 => ∃ k, z = .bl k ∧
  (if k = true then tc σ H3 fun w' H4 => r' y w' H4 fun z2 H5 => ∃ k2, z2 = .bl k2 ∧ (if k2 = true then td σ H5 fun u H6 => r'' w' u H6 Q else Q (.bl false) H5) else Q (.bl false) H3)
theorem pe_chain3 {a b c d : Expr} {ta tb tc td : TE} {op op' op'' : CmpOp} {r r' r'' : R2} (ho : OpR X (compareOp op) r) (ho' : OpR X (compareOp op') r') (ho'' : OpR X (compareOp op'') r'') (ha : PE X a ta) (hb : PE X b tb) (hc : PE X c tc) (hd : PE X d td)
    (hm : lastMarks [op, op', op''] [b, c, d] = false := by with_unfolding_all rfl) : PE X (.Compare a [op, op', op''] [b, c, d] pos) (tChain3 r r' r'' ta tb tc td) := by
  refine ⟨fun pins s σ H Q I h => ?_⟩
  refine Compare_chain (thn (ha.run pins s σ H _ I h) fun v s1 ⟨x, H1, I1, r1, q1⟩ => chain_link (thn (hb.run pins s1 σ H1 _ I1 q1) fun u s2 ⟨y, H2, I2, r2, q2⟩ =>
    thn (ho pins s2 σ H2 x y v u _ I2 r1 r2 q2) fun d s3 ⟨z, H3, I3, r3, k, e, q3⟩ => ?_)) hm
  subst e
  cases r3
  refine wpAny_truthy_bool ?_
  cases k with
  | false => exact ite_ff ⟨.bl false, H3, I3, rfl, q3⟩
  | true =>
    refine ite_tt (chain_link (thn (hc.run pins s3 σ H3 _ I3 q3) fun w' s4 ⟨z', H4, I4, r4, q4⟩ => thn (ho' pins s4 σ H4 y z' u w' _ I4 r2 r4 q4) fun d' s5 ⟨z5, H5, I5, r5, k5, e5, q5⟩ => ?_))
    subst e5
    cases r5
    refine wpAny_truthy_bool ?_
    cases k5 with
    | false => exact ite_ff ⟨.bl false, H5, I5, rfl, q5⟩
    | true => exact ite_tt (chain_last (thn (hd.run pins s5 σ H5 _ I5 q5) fun u6 s6 ⟨z6, H6, I6, r6, q6⟩ => ho'' pins s6 σ H6 z' z6 w' u6 Q I6 r4 r6 q6))
end
theorem op_ltTK {X : Cx} {K : PySem.W.Frag} (hK : X.K = K) (hu : X.A.units < cLine) : OpR X (compareOp .Lt) (rLtT K) := by
  subst hK
  exact op_ltT hu

end My
namespace My
open PySem L2
/-! ### ties, ways, what is joined -/
abbrev Ties := List (Int × Int)
/-- a and b are a tied pair, either way about -/
def Adj (ts : Ties) (a b : Int) : Prop := (a, b) ∈ ts ∨ (b, a) ∈ ts
theorem Adj.symm {ts : Ties} {a b : Int} (h : Adj ts a b) : Adj ts b a := h.elim .inr .inl
theorem Adj.mono {ts us : Ties} {a b : Int} (s : ∀ t ∈ ts, t ∈ us) (h : Adj ts a b) : Adj us a b := h.imp (s _) (s _)
inductive Rch (ts : Ties) (a : Int) : Int → Prop
  | refl : Rch ts a a
  | step {b c : Int} : Rch ts a b → Adj ts b c → Rch ts a c
theorem Rch.trans {ts : Ties} {a b c : Int} (h : Rch ts a b) (g : Rch ts b c) : Rch ts a c := by
  induction g with
  | refl => exact h
  | step _ e ih => exact .step ih e
theorem Rch.one {ts : Ties} {a b : Int} (h : Adj ts a b) : Rch ts a b := .step .refl h
theorem Rch.symm {ts : Ties} {a b : Int} (h : Rch ts a b) : Rch ts b a := by
  induction h with
  | refl => exact .refl
  | step _ e ih => exact (Rch.one e.symm).trans ih
theorem Rch.mono {ts us : Ties} {a b : Int} (s : ∀ t ∈ ts, t ∈ us) (h : Rch ts a b) : Rch us a b := by
  induction h with
  | refl => exact .refl
  | step _ e ih => exact .step ih (e.mono s)
/-- gone along ties -/
inductive Wlk (ts : Ties) : Int → Int → List Int → Prop
  | one (a : Int) : Wlk ts a a [a]
  | cons {a b c : Int} {l : List Int} : Adj ts a b → Wlk ts b c l → Wlk ts a c (a :: l)
theorem Wlk.mono {ts us : Ties} (s : ∀ t ∈ ts, t ∈ us) {a b : Int} {l : List Int} (h : Wlk ts a b l) : Wlk us a b l := by
  induction h with
  | one a => exact .one a
  | cons e _ ih => exact .cons (e.mono s) ih
theorem Wlk.rch {ts : Ties} {a b : Int} {l : List Int} (h : Wlk ts a b l) : Rch ts a b := by
  induction h with
  | one a => exact .refl
  | cons e _ ih => exact (Rch.one e).trans ih
theorem Wlk.ne_nil {ts : Ties} {a b : Int} {l : List Int} (h : Wlk ts a b l) : l ≠ [] := by
  cases h <;> exact List.cons_ne_nil _ _
theorem Wlk.head {ts : Ties} {a b : Int} {l : List Int} (h : Wlk ts a b l) : l.head? = some a := by
  cases h <;> rfl
theorem Wlk.mem_a {ts : Ties} {a b : Int} {l : List Int} (h : Wlk ts a b l) : a ∈ l := by
  cases h <;> exact List.mem_cons_self
theorem Wlk.mem_b {ts : Ties} {a b : Int} {l : List Int} (h : Wlk ts a b l) : b ∈ l := by
  induction h with
  | one a => exact List.mem_cons_self
  | cons _ _ ih => exact List.mem_cons_of_mem _ ih
theorem Wlk.snoc {ts : Ties} {a b c : Int} {l : List Int} (h : Wlk ts a b l) (e : Adj ts b c) : Wlk ts a c (l ++ [c]) := by
  induction h with
  | one a => exact .cons e (.one c)
  | cons e' _ ih => exact .cons e' (ih e)
theorem Wlk.rev {ts : Ties} {a b : Int} {l : List Int} (h : Wlk ts a b l) : Wlk ts b a l.reverse := by
  induction h with
  | one a => exact .one a
  | cons e _ ih =>
    rw [List.reverse_cons]
    exact ih.snoc e.symm
/-- every point of it is joined with the first -/
theorem Wlk.rch_of_mem {ts : Ties} {a b : Int} {l : List Int} (h : Wlk ts a b l) : ∀ x ∈ l, Rch ts a x := by
  induction h with
  | one a =>
    intro x m
    rw [List.mem_singleton.mp m]
    exact .refl
  | cons e _ ih =>
    intro x m
    rcases List.mem_cons.mp m with rfl | m
    · exact .refl
    · exact (Rch.one e).trans (ih x m)
/-- a way: gone along ties, none twice -/
structure Way (ts : Ties) (a b : Int) (l : List Int) : Prop where
  wk : Wlk ts a b l
  nd : l.Nodup
/-- no tie can be gone round -/
def Tree (ts : Ties) : Prop := ∀ t ∈ ts, ¬ Rch (ts.filter fun u => decide (u ≠ t)) t.1 t.2
/-- whoever goes along a walk that hasn't a, doesn't use a's ties -/
theorem Wlk.avoid {ts : Ties} {b c a : Int} {l : List Int} (h : Wlk ts b c l) (n : a ∉ l) (t : Int × Int) (ht : t.1 = a ∨ t.2 = a) : Wlk (ts.filter fun u => decide (u ≠ t)) b c l := by
  induction h with
  | one x => exact .one x
  | @cons x y z l e w ih =>
    have nx : a ≠ x := fun q => n (q ▸ List.mem_cons_self)
    have nl : a ∉ l := fun q => n (List.mem_cons_of_mem _ q)
    have ny : a ≠ y := fun q => nl (q ▸ w.mem_a)
    refine .cons ?_ (ih nl)
    rcases e with e | e
    · refine .inl (List.mem_filter.mpr ⟨e, decide_eq_true fun q => ?_⟩)
      subst q
      rcases ht with q | q
      · exact nx q.symm
      · exact ny q.symm
    · refine .inr (List.mem_filter.mpr ⟨e, decide_eq_true fun q => ?_⟩)
      subst q
      rcases ht with q | q
      · exact ny q.symm
      · exact nx q.symm
theorem Way.self {ts : Ties} {a : Int} {l : List Int} (h : Way ts a a l) : l = [a] := by
  obtain ⟨w, nd⟩ := h
  cases w with
  | one => rfl
  | cons e w => exact absurd w.mem_b (List.nodup_cons.mp nd).1
/-- there is one way -/
theorem way_unique {ts : Ties} (T : Tree ts) : ∀ {l m : List Int} {a b : Int}, Way ts a b l → Way ts a b m → l = m := by
  intro l
  induction l with
  | nil =>
    intro m a b h _
    exact absurd rfl h.wk.ne_nil
  | cons x l ih =>
    intro m a b h g
    obtain ⟨w, nd⟩ := h
    cases w with
    | one => exact (Way.self g).symm
    | @cons _ y _ _ e w =>
      have nl := (List.nodup_cons.mp nd).1
      obtain ⟨w2, nd2⟩ := g
      cases w2 with
      | one => exact absurd w.mem_b nl
      | @cons _ z _ m e2 w2 =>
        have nm := (List.nodup_cons.mp nd2).1
        by_cases q : y = z
        · subst q
          rw [ih ⟨w, (List.nodup_cons.mp nd).2⟩ ⟨w2, (List.nodup_cons.mp nd2).2⟩]
        · exfalso
          -- the tie of x and y is gone round
          have go : ∀ t : Int × Int, (t = (x, y) ∨ t = (y, x)) → t ∈ ts → False := by
            intro t ht mt
            have h1 : t.1 = x ∨ t.2 = x := by
              rcases ht with rfl | rfl
              · exact .inl rfl
              · exact .inr rfl
            have r1 : Rch (ts.filter fun u => decide (u ≠ t)) y b := (w.avoid nl t h1).rch
            have r2 : Rch (ts.filter fun u => decide (u ≠ t)) z b := (w2.avoid nm t h1).rch
            have nxy : x ≠ y := fun q => nl (q ▸ w.mem_a)
            have e3 : Adj (ts.filter fun u => decide (u ≠ t)) x z := by
              rcases e2 with e2 | e2
              · refine .inl (List.mem_filter.mpr ⟨e2, decide_eq_true fun k => ?_⟩)
                rcases ht with rfl | rfl
                · exact q (Prod.mk.inj k).2.symm
                · exact nxy (Prod.mk.inj k).1
              · refine .inr (List.mem_filter.mpr ⟨e2, decide_eq_true fun k => ?_⟩)
                rcases ht with rfl | rfl
                · exact nxy (Prod.mk.inj k).2
                · exact q (Prod.mk.inj k).1.symm
            have r3 : Rch (ts.filter fun u => decide (u ≠ t)) x y := ((Rch.one e3).trans r2).trans r1.symm
            rcases ht with rfl | rfl
            · exact T _ mt r3
            · exact T _ mt r3.symm
          rcases e with e | e
          · exact go _ (.inl rfl) e
          · exact go _ (.inr rfl) e
theorem Way.rev {ts : Ties} {a b : Int} {l : List Int} (h : Way ts a b l) : Way ts b a l.reverse := ⟨h.wk.rev, List.pairwise_reverse.mpr (h.nd.imp fun n e => n e.symm)⟩
theorem Way.snoc {ts : Ties} {a b c : Int} {l : List Int} (h : Way ts a b l) (e : Adj ts b c) (n : c ∉ l) : Way ts a c (l ++ [c]) :=
  ⟨h.wk.snoc e, List.nodup_append.mpr ⟨h.nd, List.nodup_cons.mpr ⟨List.not_mem_nil, List.nodup_nil⟩, fun x m y k z => by
    rw [List.mem_singleton.mp k] at z
    exact n (z ▸ m)⟩⟩
/-- a way up to a point of it -/
theorem Wlk.upto {ts : Ties} {a b : Int} {l : List Int} (h : Wlk ts a b l) : ∀ {x : Int}, x ∈ l → ∃ p s, l = p ++ s ∧ Wlk ts a x p ∧ ∃ s', Wlk ts x b (x :: s') ∧ s = s' := by
  induction h with
  | one a =>
    intro x m
    have e := List.mem_singleton.mp m
    subst e
    exact ⟨[x], [], rfl, .one x, [], .one x, rfl⟩
  | @cons a c b l e w ih =>
    intro x m
    rcases List.mem_cons.mp m with rfl | m
    · exact ⟨[x], l, rfl, .one x, l, .cons e w, rfl⟩
    · obtain ⟨p, s, h1, h2, s', h3, h4⟩ := ih m
      exact ⟨a :: p, s, by rw [h1]; rfl, .cons e h2, s', h3, h4⟩
/-- where two are joined there is a way -/
theorem rch_way {ts : Ties} {a b : Int} (h : Rch ts a b) : ∃ l, Way ts a b l := by
  induction h with
  | refl => exact ⟨[a], .one a, by simp⟩
  | @step b c _ e ih =>
    obtain ⟨l, w⟩ := ih
    by_cases m : c ∈ l
    · obtain ⟨p, s, h1, h2, _⟩ := w.wk.upto m
      refine ⟨p, h2, ?_⟩
      have nd := w.nd
      rw [h1] at nd
      exact (List.nodup_append.mp nd).1
    · exact ⟨_, w.snoc e m⟩
/-! ### a tie that leads to a new point -/
theorem rch_contract {ts : Ties} {u v p q : Int} {k : Ties} (hv : ∀ t ∈ ts, t.1 ≠ v ∧ t.2 ≠ v) (hk : ∀ t ∈ k, t ∈ ts ∨ t = (u, v) ∨ t = (v, u)) (nuv : u ≠ v) (us : Ties) (hus : ∀ t ∈ k, t ∈ ts → t ∈ us) (h : Rch k p q) :
    Rch us (if p = v then u else p) (if q = v then u else q) := by
  induction h with
  | refl => exact .refl
  | @step b c _ e ih =>
    refine ih.trans ?_
    have one : ∀ {x y : Int}, (x, y) ∈ k → Rch us (if x = v then u else x) (if y = v then u else y) := by
      intro x y m
      rcases hk _ m with z | z | z
      · have n := hv _ z
        rw [if_neg n.1, if_neg n.2]
        exact .one (.inl (hus _ m z))
      · obtain ⟨rfl, rfl⟩ := Prod.mk.inj z
        rw [if_neg nuv, if_pos rfl]
        exact .refl
      · obtain ⟨rfl, rfl⟩ := Prod.mk.inj z
        rw [if_neg nuv, if_pos rfl]
        exact .refl
    rcases e with e | e
    · exact one e
    · exact (one e).symm
theorem tree_nil : Tree [] := fun _ m => absurd m List.not_mem_nil
theorem rch_isolated {ts : Ties} {a v : Int} (hv : ∀ t ∈ ts, t.1 ≠ v ∧ t.2 ≠ v) (h : Rch ts a v) : a = v := by
  cases h with
  | refl => rfl
  | step _ e =>
    rcases e with e | e
    · exact absurd rfl (hv _ e).2
    · exact absurd rfl (hv _ e).1
theorem tree_snoc {ts : Ties} {u v : Int} {t : Int × Int} (T : Tree ts) (hv : ∀ t ∈ ts, t.1 ≠ v ∧ t.2 ≠ v) (nuv : u ≠ v) (ht : t = (u, v) ∨ t = (v, u)) : Tree (ts ++ [t]) := by
  intro e me h
  have tv : t.1 = v ∨ t.2 = v := by
    rcases ht with rfl | rfl
    · exact .inr rfl
    · exact .inl rfl
  rcases List.mem_append.mp me with m | m
  · have ne : e ≠ t := fun q => by
      have z := hv e m
      rw [q] at z
      rcases tv with y | y
      · exact z.1 y
      · exact z.2 y
    have n := hv e m
    have r := rch_contract (ts := ts) (u := u) (v := v) (us := ts.filter fun x => decide (x ≠ e)) hv (fun x hx => ?_) nuv (fun x hx hm => ?_) h
    · rw [if_neg n.1, if_neg n.2] at r
      exact T e m r
    · rcases List.mem_append.mp (List.mem_filter.mp hx).1 with z | z
      · exact .inl z
      · rw [List.mem_singleton.mp z]
        exact .inr ht
    · exact List.mem_filter.mpr ⟨hm, (List.mem_filter.mp hx).2⟩
  · have q := List.mem_singleton.mp m
    subst q
    have iso : ∀ x ∈ ((ts ++ [e]).filter fun x => decide (x ≠ e)), x.1 ≠ v ∧ x.2 ≠ v := fun x hx => by
      obtain ⟨h1, h2⟩ := List.mem_filter.mp hx
      rcases List.mem_append.mp h1 with z | z
      · exact hv x z
      · exact absurd (List.mem_singleton.mp z) (of_decide_eq_true h2)
    rcases ht with rfl | rfl
    · exact nuv (rch_isolated iso h)
    · exact nuv (rch_isolated iso h.symm)
theorem rch_perm {ts us : Ties} (p : ∀ t, t ∈ ts ↔ t ∈ us) {a b : Int} (h : Rch ts a b) : Rch us a b := h.mono fun t m => (p t).mp m
theorem tree_perm {ts us : Ties} (p : ∀ t, t ∈ ts ↔ t ∈ us) (T : Tree ts) : Tree us := fun t m h => T t ((p t).mpr m) (h.mono fun x hx => by
  obtain ⟨h1, h2⟩ := List.mem_filter.mp hx
  exact List.mem_filter.mpr ⟨(p x).mpr h1, h2⟩)
/-- with a tie cut its two are apart, and each is with one of them -/
theorem rch_cut {ts : Ties} {t : Int × Int} (mt : t ∈ ts) {a b : Int} (h : Rch ts a b) : Rch (ts.filter fun u => decide (u ≠ t)) a b ∨ (Rch (ts.filter fun u => decide (u ≠ t)) a t.1 ∧ Rch (ts.filter fun u => decide (u ≠ t)) t.2 b) ∨ (Rch (ts.filter fun u => decide (u ≠ t)) a t.2 ∧ Rch (ts.filter fun u => decide (u ≠ t)) t.1 b) := by
  induction h with
  | refl => exact .inl .refl
  | @step b c _ e ih =>
    have key : Adj (ts.filter fun u => decide (u ≠ t)) b c ∨ (b = t.1 ∧ c = t.2) ∨ (b = t.2 ∧ c = t.1) := by
      rcases e with e | e
      · by_cases q : (b, c) = t
        · exact .inr (.inl (by rw [← q]; exact ⟨rfl, rfl⟩))
        · exact .inl (.inl (List.mem_filter.mpr ⟨e, decide_eq_true q⟩))
      · by_cases q : (c, b) = t
        · exact .inr (.inr (by rw [← q]; exact ⟨rfl, rfl⟩))
        · exact .inl (.inr (List.mem_filter.mpr ⟨e, decide_eq_true q⟩))
    rcases key with k | ⟨rfl, rfl⟩ | ⟨rfl, rfl⟩
    · rcases ih with h | ⟨h1, h2⟩ | ⟨h1, h2⟩
      · exact .inl (.step h k)
      · exact .inr (.inl ⟨h1, .step h2 k⟩)
      · exact .inr (.inr ⟨h1, .step h2 k⟩)
    · rcases ih with h | ⟨h1, h2⟩ | ⟨h1, h2⟩
      · exact .inr (.inl ⟨h, .refl⟩)
      · exact .inr (.inl ⟨h1, .refl⟩)
      · exact .inl h1
    · rcases ih with h | ⟨h1, h2⟩ | ⟨h1, h2⟩
      · exact .inr (.inr ⟨h, .refl⟩)
      · exact .inl h1
      · exact .inr (.inr ⟨h1, .refl⟩)

end My
namespace My
open PySem L2
/-! ### parts by their least point -/
open Classical in
noncomputable def rpOf (ts : Ties) (j : Nat) : Nat := ((List.range (j + 1)).find? fun i : Nat => decide (Rch ts (j : Int) (i : Int))).getD j
section
variable {ts : Ties}
theorem rp_spec (j : Nat) : Rch ts (j : Int) (rpOf ts j : Int) ∧ rpOf ts j ≤ j ∧ ∀ i, i < rpOf ts j → ¬ Rch ts (j : Int) (i : Int) := by
  classical
  unfold rpOf
  cases e : (List.range (j + 1)).find? fun i : Nat => decide (Rch ts (j : Int) (i : Int)) with
  | none =>
    have := List.find?_eq_none.mp e j (List.mem_range.mpr (Nat.lt_succ_self j))
    exact absurd (decide_eq_true (Rch.refl (ts := ts) (a := (j : Int)))) (by simpa using this)
  | some i =>
    obtain ⟨h1, h2, h3⟩ := List.find?_range_eq_some.mp e
    have h2 := List.mem_range.mp h2
    refine ⟨by simpa using h1, by show i ≤ j; omega, fun k hk => ?_⟩
    have := h3 k hk
    simpa using this
theorem rp_eq {u v : Nat} (h : Rch ts (u : Int) (v : Int)) : rpOf ts u = rpOf ts v := by
  obtain ⟨u1, _, u3⟩ := rp_spec (ts := ts) u
  obtain ⟨v1, _, v3⟩ := rp_spec (ts := ts) v
  rcases Nat.lt_trichotomy (rpOf ts u) (rpOf ts v) with l | e | l
  · exact absurd (h.symm.trans u1) (v3 _ l)
  · exact e
  · exact absurd (h.trans v1) (u3 _ l)
theorem rp_iff {u v : Nat} : rpOf ts u = rpOf ts v ↔ Rch ts (u : Int) (v : Int) := ⟨fun e => by
  have h1 := (rp_spec (ts := ts) u).1
  have h2 := (rp_spec (ts := ts) v).1
  rw [e] at h1
  exact h1.trans h2.symm, rp_eq⟩
theorem rp_idem (j : Nat) : rpOf ts (rpOf ts j) = rpOf ts j := (rp_eq (rp_spec j).1).symm
theorem rp_le (j : Nat) : rpOf ts j ≤ j := (rp_spec j).2.1
end

inductive Up (ab : List Int) : Int → Int → Nat → Prop
  | root {p : Int} (p0 : 0 ≤ p) (h : ab[p.toNat]? = some p) : Up ab p p 0
  | step {p q t : Int} {n : Nat} (p0 : 0 ≤ p) (h : ab[p.toNat]? = some q) (ne : q ≠ p) (u : Up ab q t n) : Up ab p t (n + 1)
theorem Up.top {ab : List Int} {p t : Int} {n : Nat} (h : Up ab p t n) : 0 ≤ t ∧ ab[t.toNat]? = some t := by
  induction h with
  | root p0 h => exact ⟨p0, h⟩
  | step p0 h ne u ih => exact ih
theorem nat_ne {a b : Int} (ha : 0 ≤ a) (hb : 0 ≤ b) (h : a ≠ b) : a.toNat ≠ b.toNat := by omega
theorem Up.keep {ab : List Int} {o u : Int} (o0 : 0 ≤ o) (ho : ab[o.toNat]? = some o) {p t : Int} {n : Nat} (h : Up ab p t n) : t ≠ o → Up (ab.set o.toNat u) p t n := by
  induction h with
  | root p0 h =>
    intro ne
    refine .root p0 ?_
    rw [List.getElem?_set_ne (nat_ne o0 p0 ne.symm)]
    exact h
  | @step p q t n p0 h ne' w ih =>
    intro ne
    have po : o ≠ p := by
      rintro rfl
      rw [ho] at h
      exact ne' (Option.some.inj h).symm
    refine .step p0 ?_ ne' (ih ne)
    rw [List.getElem?_set_ne (nat_ne o0 p0 po)]
    exact h
theorem Up.move {ab : List Int} {o u : Int} (o0 : 0 ≤ o) (ho : ab[o.toNat]? = some o) (u0 : 0 ≤ u) (hu : ab[u.toNat]? = some u) (nuo : u ≠ o) {p t : Int} {n : Nat} (h : Up ab p t n) : t = o → Up (ab.set o.toNat u) p u (n + 1) := by
  induction h with
  | @root p p0 h =>
    intro e
    subst e
    refine .step p0 (q := u) ?_ nuo (.root u0 ?_)
    · rw [List.getElem?_set_self (List.getElem?_eq_some_iff.mp h).1]
    · rw [List.getElem?_set_ne (nat_ne p0 u0 nuo.symm)]
      exact hu
  | @step p q t n p0 h ne' w ih =>
    intro e
    have po : o ≠ p := by
      rintro rfl
      rw [ho] at h
      exact ne' (Option.some.inj h).symm
    refine .step p0 ?_ ne' (ih e)
    rw [List.getElem?_set_ne (nat_ne o0 p0 po)]
    exact h
structure Uf (ts : Ties) (m : Nat) (ab : List Int) : Prop where
  len : ab.length = m
  ex : ∀ p : Int, 0 ≤ p → p < (m : Int) → ∃ t n, Up ab p t n ∧ Rch ts p t
theorem uf0 (m : Nat) : Uf [] m ((List.range m).map fun (i : Nat) => (i : Int)) := by
  refine ⟨by rw [List.length_map, List.length_range], fun p p0 p1 => ⟨p, 0, .root p0 ?_, .refl⟩⟩
  rw [List.getElem?_map, List.getElem?_range (by omega)]
  show some ((p.toNat : Nat) : Int) = some p
  rw [Int.toNat_of_nonneg p0]
theorem uf_snoc {ts : Ties} {m : Nat} {ab : List Int} (U : Uf ts m ab) {a b u o : Int} {n1 n2 : Nat} (h1 : Up ab a u n1) (r1 : Rch ts a u) (h2 : Up ab b o n2) (r2 : Rch ts b o) (ne : u ≠ o) : Uf (ts ++ [(a, b)]) m (ab.set o.toNat u) := by
  refine ⟨by rw [List.length_set]; exact U.len, fun p p0 p1 => ?_⟩
  obtain ⟨t, n, hp, rp⟩ := U.ex p p0 p1
  have up : ∀ t ∈ ts, t ∈ ts ++ [(a, b)] := fun t m => List.mem_append_left _ m
  by_cases e : t = o
  · refine ⟨u, n + 1, hp.move h2.top.1 h2.top.2 h1.top.1 h1.top.2 ne e, ?_⟩
    subst e
    have ad : Adj (ts ++ [(a, b)]) b a := .inr (List.mem_append_right _ List.mem_cons_self)
    exact (rp.mono up).trans ((r2.symm.mono up).trans ((Rch.one ad).trans (r1.mono up)))
  · exact ⟨t, n, hp.keep h2.top.1 h2.top.2 e, rp.mono up⟩

/-- all that are joined with a, rising -/
structure IsPart (ts : Ties) (a : Int) (l : List Int) : Prop where
  up : l.Pairwise (· < ·)
  mem : ∀ v, v ∈ l ↔ Rch ts a v
theorem rising_ext : ∀ {l m : List Int}, l.Pairwise (· < ·) → m.Pairwise (· < ·) → (∀ v, v ∈ l ↔ v ∈ m) → l = m
  | [], [], _, _, _ => rfl
  | [], y :: _, _, _, h => nomatch (h y).mpr List.mem_cons_self
  | x :: _, [], _, _, h => nomatch (h x).mp List.mem_cons_self
  | x :: l, y :: m, hl, hm, h => by
    rw [List.pairwise_cons] at hl hm
    have e : x = y := by
      rcases List.mem_cons.mp ((h x).mp List.mem_cons_self) with e | e
      · exact e
      · rcases List.mem_cons.mp ((h y).mpr List.mem_cons_self) with e2 | e2
        · exact e2.symm
        · have z1 := hm.1 x e
          have z2 := hl.1 y e2
          omega
    subst e
    have t : l = m := rising_ext hl.2 hm.2 fun v => ⟨fun hv => by
      rcases List.mem_cons.mp ((h v).mp (List.mem_cons_of_mem _ hv)) with e | e
      · have := hl.1 v hv
        omega
      · exact e, fun hv => by
      rcases List.mem_cons.mp ((h v).mpr (List.mem_cons_of_mem _ hv)) with e | e
      · have := hm.1 v hv
        omega
      · exact e⟩
    rw [t]
theorem part_unique {ts : Ties} {a : Int} {l m : List Int} (h : IsPart ts a l) (g : IsPart ts a m) : l = m := rising_ext h.up g.up fun v => (h.mem v).trans (g.mem v).symm
theorem part_of_sorted {ts : Ties} {a : Int} {ks ns : List Int} (nd : ks.Nodup) (mem : ∀ v, v ∈ ks ↔ Rch ts a v) (pm : ns.Perm ks) (srt : ns.Pairwise (· ≤ ·)) : IsPart ts a ns := by
  have nd2 : ns.Nodup := pm.nodup_iff.mpr nd
  refine ⟨?_, fun v => (pm.mem_iff).trans (mem v)⟩
  have both := List.Pairwise.and srt nd2
  exact both.imp fun ⟨h1, h2⟩ => Int.lt_iff_le_and_ne.mpr ⟨h1, h2⟩

/-! ### rings and parts, counted -/
theorem Up.det {ab : List Int} {p t : Int} {n : Nat} (h : Up ab p t n) : ∀ {t' : Int} {n' : Nat}, Up ab p t' n' → t = t' := by
  induction h with
  | root p0 h =>
    intro t' n' g
    cases g with
    | root _ _ => rfl
    | step _ h2 ne _ =>
      rw [h] at h2
      exact absurd (Option.some.inj h2).symm ne
  | step p0 h ne u ih =>
    intro t' n' g
    cases g with
    | root _ h2 =>
      rw [h] at h2
      exact absurd (Option.some.inj h2) ne
    | step _ h2 _ u2 =>
      rw [h] at h2
      cases Option.some.inj h2
      exact ih u2
/-- joined ones have one top -/
structure Uf2 (ts : Ties) (m : Nat) (ab : List Int) : Prop where
  uf : Uf ts m ab
  eq : ∀ t ∈ ts, ∃ x n1 n2, Up ab t.1 x n1 ∧ Up ab t.2 x n2
theorem uf20 (m : Nat) : Uf2 [] m ((List.range m).map fun (i : Nat) => (i : Int)) := ⟨uf0 m, fun t z => nomatch z⟩
theorem uf2_snoc {ts : Ties} {m : Nat} {ab : List Int} (U : Uf2 ts m ab) {a b u o : Int} {n1 n2 : Nat} (h1 : Up ab a u n1) (r1 : Rch ts a u) (h2 : Up ab b o n2) (r2 : Rch ts b o) (ne : u ≠ o) : Uf2 (ts ++ [(a, b)]) m (ab.set o.toNat u) := by
  refine ⟨uf_snoc U.uf h1 r1 h2 r2 ne, fun t mt => ?_⟩
  rcases List.mem_append.mp mt with mt | mt
  · obtain ⟨x, k1, k2, g1, g2⟩ := U.eq t mt
    by_cases e : x = o
    · exact ⟨u, _, _, g1.move h2.top.1 h2.top.2 h1.top.1 h1.top.2 ne e, g2.move h2.top.1 h2.top.2 h1.top.1 h1.top.2 ne e⟩
    · exact ⟨x, _, _, g1.keep h2.top.1 h2.top.2 e, g2.keep h2.top.1 h2.top.2 e⟩
  · rw [List.mem_singleton.mp mt]
    exact ⟨u, _, _, h1.keep h2.top.1 h2.top.2 ne, h2.move h2.top.1 h2.top.2 h1.top.1 h1.top.2 ne rfl⟩
theorem Uf2.one {ts : Ties} {m : Nat} {ab : List Int} (U : Uf2 ts m ab) {a b : Int} (h : Rch ts a b) : ∀ {x : Int} {n : Nat}, Up ab a x n → ∃ k, Up ab b x k := by
  induction h with
  | refl => exact fun g => ⟨_, g⟩
  | step _ e ih =>
    intro x n g
    obtain ⟨k, g⟩ := ih g
    rcases e with e | e
    · obtain ⟨y, k1, k2, g1, g2⟩ := U.eq _ e
      cases g.det g1
      exact ⟨_, g2⟩
    · obtain ⟨y, k1, k2, g1, g2⟩ := U.eq _ e
      cases g.det g2
      exact ⟨_, g1⟩
theorem Uf2.ne {ts : Ties} {m : Nat} {ab : List Int} (U : Uf2 ts m ab) {a b x y : Int} {n1 n2 : Nat} (h1 : Up ab a x n1) (h2 : Up ab b y n2) (ne : x ≠ y) : ¬ Rch ts a b := fun r => by
  obtain ⟨k, g⟩ := U.one r h1
  exact ne (g.det h2)
/-- some tie closes a ring -/
def Ring (ts : Ties) : Prop := ∃ (i : Nat) (t : Int × Int), ts[i]? = some t ∧ Rch (ts.take i) t.1 t.2
open Classical in
noncomputable def ringB (ts : Ties) : Bool := decide (Ring ts)
theorem ring_snoc {ts : Ties} {t : Int × Int} : Ring (ts ++ [t]) ↔ Ring ts ∨ Rch ts t.1 t.2 := by
  constructor
  · rintro ⟨i, u, h, r⟩
    by_cases e : i < ts.length
    · rw [List.getElem?_append_left e] at h
      rw [List.take_append_of_le_length (by omega)] at r
      exact .inl ⟨i, u, h, r⟩
    · rw [List.getElem?_append_right (by omega)] at h
      have e2 : i - ts.length = 0 := by
        cases q : i - ts.length with
        | zero => rfl
        | succ k =>
          rw [q] at h
          cases h
      rw [e2] at h
      cases Option.some.inj h
      have e3 : i = ts.length := by omega
      rw [e3, List.take_left'] at r
      · exact .inr r
      · rfl
  · rintro (⟨i, u, h, r⟩ | r)
    · have l := (List.getElem?_eq_some_iff.mp h).1
      refine ⟨i, u, ?_, ?_⟩
      · rw [List.getElem?_append_left l]
        exact h
      · rw [List.take_append_of_le_length (by omega)]
        exact r
    · refine ⟨ts.length, t, ?_, ?_⟩
      · rw [List.getElem?_append_right (Nat.le_refl _), Nat.sub_self]
        rfl
      · rw [List.take_left' rfl]
        exact r
theorem ring_nil : ¬ Ring [] := by
  rintro ⟨i, t, h, _⟩
  rw [List.getElem?_nil] at h
  cases h
theorem ring_take {ts : Ties} {i : Nat} (h : Ring (ts.take i)) : Ring ts := by
  obtain ⟨j, t, h1, r⟩ := h
  have l := (List.getElem?_eq_some_iff.mp h1).1
  rw [List.length_take] at l
  refine ⟨j, t, ?_, ?_⟩
  · rw [List.getElem?_take_of_lt (by omega)] at h1
    exact h1
  · rw [List.take_take, Nat.min_eq_left (by omega)] at r
    exact r
theorem tree_noring {ts : Ties} (T : Tree ts) (nd : ts.Nodup) : ¬ Ring ts := by
  rintro ⟨i, t, h, r⟩
  obtain ⟨hi, e⟩ := List.getElem?_eq_some_iff.mp h
  refine T t (List.mem_of_getElem? h) (r.mono fun u mu => List.mem_filter.mpr ⟨List.mem_of_mem_take mu, decide_eq_true fun z => ?_⟩)
  obtain ⟨j, hj, ej⟩ := List.getElem_of_mem mu
  rw [List.getElem_take] at ej
  rw [List.length_take] at hj
  have pw := List.pairwise_iff_getElem.mp nd j i (by omega) hi (by omega)
  exact pw (by rw [ej, e, z])
theorem rch_snoc {ts : Ties} {a b x y : Int} : Rch (ts ++ [(a, b)]) x y ↔ Rch ts x y ∨ (Rch ts x a ∧ Rch ts b y) ∨ (Rch ts x b ∧ Rch ts a y) := by
  have up : ∀ t ∈ ts, t ∈ ts ++ [(a, b)] := fun t m => List.mem_append_left _ m
  have ad : Adj (ts ++ [(a, b)]) a b := .inl (List.mem_append_right _ List.mem_cons_self)
  constructor
  · intro h
    induction h with
    | refl => exact .inl .refl
    | @step c d _ e ih =>
      have key : Adj ts c d ∨ (c = a ∧ d = b) ∨ (c = b ∧ d = a) := by
        rcases e with e | e
        · rcases List.mem_append.mp e with e | e
          · exact .inl (.inl e)
          · cases List.mem_singleton.mp e
            exact .inr (.inl ⟨rfl, rfl⟩)
        · rcases List.mem_append.mp e with e | e
          · exact .inl (.inr e)
          · cases List.mem_singleton.mp e
            exact .inr (.inr ⟨rfl, rfl⟩)
      rcases key with k | ⟨rfl, rfl⟩ | ⟨rfl, rfl⟩
      · rcases ih with h | ⟨h1, h2⟩ | ⟨h1, h2⟩
        · exact .inl (.step h k)
        · exact .inr (.inl ⟨h1, .step h2 k⟩)
        · exact .inr (.inr ⟨h1, .step h2 k⟩)
      · rcases ih with h | ⟨h1, h2⟩ | ⟨h1, h2⟩
        · exact .inr (.inl ⟨h, .refl⟩)
        · exact .inr (.inl ⟨h1, .refl⟩)
        · exact .inl h1
      · rcases ih with h | ⟨h1, h2⟩ | ⟨h1, h2⟩
        · exact .inr (.inr ⟨h, .refl⟩)
        · exact .inl h1
        · exact .inr (.inr ⟨h1, .refl⟩)
  · rintro (h | ⟨h1, h2⟩ | ⟨h1, h2⟩)
    · exact h.mono up
    · exact (h1.mono up).trans ((Rch.one ad).trans (h2.mono up))
    · exact (h1.mono up).trans ((Rch.one ad.symm).trans (h2.mono up))
/-- how many parts -/
noncomputable def cntP (ts : Ties) (n : Nat) : Nat := ((List.range n).filter fun j => decide (rpOf ts j = j)).length
theorem rp_self {ts : Ties} {j : Nat} : rpOf ts j = j ↔ ∀ i : Nat, i < j → ¬ Rch ts (j : Int) (i : Int) := by
  constructor
  · intro e i hi
    have z := (rp_spec (ts := ts) j).2.2
    rw [e] at z
    exact z i hi
  · intro h
    rcases Nat.lt_or_eq_of_le (rp_le (ts := ts) j) with l | e
    · exact absurd (rp_spec j).1 (h _ l)
    · exact e
theorem cnt_same {ts us : Ties} (n : Nat) (h : ∀ x y, Rch us x y ↔ Rch ts x y) : cntP us n = cntP ts n := by
  unfold cntP
  congr 1
  refine List.filter_congr fun j _ => decide_eq_decide.mpr ?_
  rw [rp_self, rp_self]
  exact ⟨fun z i hi r => z i hi ((h _ _).mpr r), fun z i hi r => z i hi ((h _ _).mp r)⟩
theorem cnt_less {ts us : Ties} {n a b : Nat} (ha : a < n) (hb : b < n) (h : ∀ x y : Int, Rch us x y ↔ Rch ts x y ∨ (Rch ts x a ∧ Rch ts b y) ∨ (Rch ts x b ∧ Rch ts a y)) (lt : rpOf ts a < rpOf ts b) : cntP us n + 1 = cntP ts n := by
  have key : ∀ j : Nat, rpOf us j = j ↔ rpOf ts j = j ∧ j ≠ rpOf ts b := fun j => by
    constructor
    · intro e
      have e1 := rp_self.mp e
      refine ⟨rp_self.mpr fun i hi r => e1 i hi ((h _ _).mpr (.inl r)), ?_⟩
      rintro rfl
      refine e1 (rpOf ts a) lt ((h _ _).mpr (.inr (.inr ⟨(rp_spec b).1.symm, (rp_spec a).1⟩)))
    · rintro ⟨e, ne⟩
      refine rp_self.mpr fun i hi r => ?_
      rcases (h _ _).mp r with r | ⟨r1, r2⟩ | ⟨r1, r2⟩
      · exact rp_self.mp e i hi r
      · have e2 := rp_eq r1
        rw [e] at e2
        refine (rp_spec (ts := ts) b).2.2 i (by omega) r2
      · have e2 := rp_eq r1
        rw [e] at e2
        exact ne e2
  have lb : rpOf ts b < n := Nat.lt_of_le_of_lt (rp_le b) hb
  have nd : ((List.range n).filter fun j => decide (rpOf ts j = j)).Nodup := List.nodup_range.filter _
  have mb : rpOf ts b ∈ (List.range n).filter fun j => decide (rpOf ts j = j) := List.mem_filter.mpr ⟨List.mem_range.mpr lb, decide_eq_true (rp_idem b)⟩
  have e : ((List.range n).filter fun j => decide (rpOf us j = j)) = ((List.range n).filter fun j => decide (rpOf ts j = j)).erase (rpOf ts b) := by
    rw [nd.erase_eq_filter, List.filter_filter]
    refine List.filter_congr fun j _ => ?_
    rw [Bool.eq_iff_iff]
    simp only [Bool.and_eq_true, decide_eq_true_eq, bne_iff_ne, key j]
    exact ⟨fun z => ⟨z.2, z.1⟩, fun z => ⟨z.2, z.1⟩⟩
  unfold cntP
  rw [e, List.length_erase_of_mem mb]
  have := List.length_pos_of_mem mb
  omega
theorem cnt_snoc {ts : Ties} {n a b : Nat} (ha : a < n) (hb : b < n) (nr : ¬ Rch ts (a : Int) (b : Int)) : cntP (ts ++ [((a : Int), (b : Int))]) n + 1 = cntP ts n := by
  rcases Nat.lt_trichotomy (rpOf ts a) (rpOf ts b) with l | e | l
  · exact cnt_less ha hb (fun x y => rch_snoc) l
  · exact absurd (rp_iff.mp e) nr
  · exact cnt_less hb ha (fun x y => rch_snoc.trans (or_congr_right Or.comm)) l
theorem cnt_nil (n : Nat) : cntP [] n = n := by
  unfold cntP
  rw [List.filter_eq_self.mpr, List.length_range]
  intro j _
  refine decide_eq_true (rp_self.mpr fun i hi r => ?_)
  have : ∀ {x y : Int}, Rch [] x y → x = y := fun {x y} h => by
    induction h with
    | refl => rfl
    | step _ e _ => rcases e with e | e <;> cases e
  have := this r
  omega
/-- ties are as many as points less parts just where none closes a ring -/
theorem cnt_ring {n : Nat} : ∀ (k : Nat) {ts : Ties}, ts.length = k → (∀ t ∈ ts, 0 ≤ t.1 ∧ 0 ≤ t.2 ∧ t.1 < (n : Int) ∧ t.2 < (n : Int)) → n ≤ cntP ts n + k ∧ cntP ts n ≤ n ∧ (cntP ts n + k = n ↔ ¬ Ring ts)
  | 0, ts, e, _ => by
    have e0 := List.eq_nil_of_length_eq_zero e
    subst e0
    rw [cnt_nil]
    exact ⟨by omega, by omega, fun _ => ring_nil, fun _ => rfl⟩
  | k + 1, ts, e, h => by
    obtain ⟨us, t, rfl⟩ : ∃ us t, ts = us ++ [t] := by
      have ne : ts ≠ [] := fun z => by rw [z] at e; cases e
      exact ⟨ts.dropLast, ts.getLast ne, (List.dropLast_concat_getLast ne).symm⟩
    have lu : us.length = k := by
      rw [List.length_append] at e
      exact Nat.succ.inj e
    obtain ⟨i1, i2, i3⟩ := cnt_ring k lu fun u m => h u (List.mem_append_left _ m)
    have ht := h t (List.mem_append_right _ List.mem_cons_self)
    obtain ⟨x, y⟩ := t
    obtain ⟨a, rfl⟩ : ∃ a : Nat, x = (a : Int) := ⟨x.toNat, by dsimp only at ht; omega⟩
    obtain ⟨b, rfl⟩ : ∃ b : Nat, y = (b : Int) := ⟨y.toNat, by dsimp only at ht; omega⟩
    dsimp only at ht
    rw [ring_snoc]
    by_cases r : Rch us (a : Int) (b : Int)
    · have c : cntP (us ++ [((a : Int), (b : Int))]) n = cntP us n := cnt_same n fun x y => by
        rw [rch_snoc]
        constructor
        · rintro (h | ⟨h1, h2⟩ | ⟨h1, h2⟩)
          · exact h
          · exact h1.trans (r.trans h2)
          · exact h1.trans (r.symm.trans h2)
        · exact .inl
      rw [c]
      refine ⟨by omega, i2, fun z => ?_, fun z => absurd (.inr r) z⟩
      omega
    · have c := cnt_snoc (n := n) (by omega) (by omega) r
      refine ⟨by omega, by omega, fun z => ?_, fun z => ?_⟩
      · rintro (g | g)
        · exact i3.mp (by omega) g
        · exact r g
      · have := i3.mpr fun g => z (.inl g)
        omega
/-! parts as tuples -/
open Classical in
noncomputable def partL (ts : Ties) (n : Nat) (j : Int) : List Int := ((List.range n).map fun i : Nat => (i : Int)).filter fun x => decide (Rch ts j x)
theorem rch_inN {ts : Ties} {n : Nat} (h : ∀ t ∈ ts, 0 ≤ t.1 ∧ 0 ≤ t.2 ∧ t.1 < (n : Int) ∧ t.2 < (n : Int)) {a v : Int} (a0 : 0 ≤ a) (a1 : a < (n : Int)) (r : Rch ts a v) : 0 ≤ v ∧ v < (n : Int) := by
  induction r with
  | refl => exact ⟨a0, a1⟩
  | step _ e _ =>
    rcases e with e | e
    · have := h _ e
      exact ⟨this.2.1, this.2.2.2⟩
    · have := h _ e
      exact ⟨this.1, this.2.2.1⟩
theorem is_partL {ts : Ties} {n : Nat} (h : ∀ t ∈ ts, 0 ≤ t.1 ∧ 0 ≤ t.2 ∧ t.1 < (n : Int) ∧ t.2 < (n : Int)) {j : Int} (j0 : 0 ≤ j) (j1 : j < (n : Int)) : IsPart ts j (partL ts n j) := by
  classical
  refine ⟨?_, fun v => ?_⟩
  · unfold partL
    refine List.Pairwise.filter _ (List.pairwise_map.mpr (List.pairwise_lt_range.imp fun h => ?_))
    omega
  · unfold partL
    rw [List.mem_filter, List.mem_map]
    constructor
    · rintro ⟨_, h⟩
      exact of_decide_eq_true h
    · intro g
      have r := rch_inN h j0 j1 g
      exact ⟨⟨v.toNat, List.mem_range.mpr (by omega), by omega⟩, decide_eq_true g⟩
theorem parts_cnt {κ : Type} {key : List Int → κ} (inj : ∀ l m, key l = key m → l = m) {ts : Ties} {n : Nat} (h : ∀ t ∈ ts, 0 ≤ t.1 ∧ 0 ≤ t.2 ∧ t.1 < (n : Int) ∧ t.2 < (n : Int)) {out : List κ} (nd : out.Nodup)
    (mem : ∀ k, k ∈ out ↔ k ∈ (List.range n).map fun j : Nat => key (partL ts n (j : Int))) : out.length = cntP ts n := by
  have isP : ∀ j : Nat, j < n → IsPart ts (j : Int) (partL ts n (j : Int)) := fun j hj => is_partL h (by omega) (by omega)
  have perm : out.Perm (((List.range n).filter fun j => decide (rpOf ts j = j)).map fun j : Nat => key (partL ts n (j : Int))) := by
    refine (List.perm_ext_iff_of_nodup nd ?_).mpr fun k => (mem k).trans ?_
    · refine List.pairwise_map.mpr (List.pairwise_iff_getElem.mpr fun i j hi hj lt e => ?_)
      have mi := List.mem_filter.mp (List.getElem_mem hi)
      have mj := List.mem_filter.mp (List.getElem_mem hj)
      have li := List.mem_range.mp mi.1
      have lj := List.mem_range.mp mj.1
      have e := inj _ _ e
      have m1 := ((isP _ li).mem _).mpr .refl
      rw [e] at m1
      have r := ((isP _ lj).mem _).mp m1
      have e2 := rp_eq r
      rw [of_decide_eq_true mi.2, of_decide_eq_true mj.2] at e2
      have nr : ((List.range n).filter fun j => decide (rpOf ts j = j)).Nodup := List.nodup_range.filter _
      exact List.pairwise_iff_getElem.mp nr i j hi hj lt e2.symm
    · constructor
      · intro h
        obtain ⟨j, hj, rfl⟩ := List.mem_map.mp h
        have hj := List.mem_range.mp hj
        have lr : rpOf ts j < n := Nat.lt_of_le_of_lt (rp_le j) hj
        refine List.mem_map.mpr ⟨rpOf ts j, List.mem_filter.mpr ⟨List.mem_range.mpr lr, decide_eq_true (rp_idem j)⟩, ?_⟩
        have r := (rp_spec (ts := ts) j).1
        have p1 := isP _ lr
        have p2 := isP j hj
        refine congrArg key (part_unique p1 ⟨p2.up, fun v => (p2.mem v).trans ⟨fun z => r.symm.trans z, fun z => r.trans z⟩⟩)
      · intro h
        obtain ⟨j, hj, rfl⟩ := List.mem_map.mp h
        exact List.mem_map.mpr ⟨j, (List.mem_filter.mp hj).1, rfl⟩
  rw [perm.length_eq, List.length_map]
  rfl
/-! ties in order -/
def ltT (s t : Int × Int) : Prop := s.1 < t.1 ∨ (s.1 = t.1 ∧ s.2 < t.2)
instance (s t : Int × Int) : Decidable (ltT s t) := by unfold ltT; infer_instance
theorem ltT_irr {s : Int × Int} : ¬ ltT s s := by
  unfold ltT
  omega
theorem ltT_asy {s t : Int × Int} (h : ltT s t) : ¬ ltT t s := by
  unfold ltT at *
  omega
theorem ltT_tr {s t u : Int × Int} (h : ltT s t) (g : ltT t u) : ltT s u := by
  unfold ltT at *
  omega
theorem ties_ext : ∀ {l m : Ties}, l.Pairwise ltT → m.Pairwise ltT → (∀ v, v ∈ l ↔ v ∈ m) → l = m
  | [], [], _, _, _ => rfl
  | [], y :: _, _, _, h => nomatch (h y).mpr List.mem_cons_self
  | x :: _, [], _, _, h => nomatch (h x).mp List.mem_cons_self
  | x :: l, y :: m, hl, hm, h => by
    rw [List.pairwise_cons] at hl hm
    have e : x = y := by
      rcases List.mem_cons.mp ((h x).mp List.mem_cons_self) with e | e
      · exact e
      · rcases List.mem_cons.mp ((h y).mpr List.mem_cons_self) with e2 | e2
        · exact e2.symm
        · exact absurd (hm.1 x e) (ltT_asy (hl.1 y e2))
    subst e
    have t : l = m := ties_ext hl.2 hm.2 fun v => ⟨fun hv => by
      rcases List.mem_cons.mp ((h v).mp (List.mem_cons_of_mem _ hv)) with e | e
      · subst e
        exact absurd (hl.1 _ hv) ltT_irr
      · exact e, fun hv => by
      rcases List.mem_cons.mp ((h v).mpr (List.mem_cons_of_mem _ hv)) with e | e
      · subst e
        exact absurd (hm.1 _ hv) ltT_irr
      · exact e⟩
    rw [t]
theorem rising_chain : ∀ {l : Ties}, (∀ (i : Nat) (s t : Int × Int), l[i]? = some s → l[i + 1]? = some t → ltT s t) → l.Pairwise ltT
  | [], _ => .nil
  | [x], _ => List.pairwise_singleton ..
  | x :: y :: r, h => by
    have ih : (y :: r).Pairwise ltT := rising_chain fun i s t h1 h2 => h (i + 1) s t h1 h2
    have xy : ltT x y := h 0 x y rfl rfl
    refine List.pairwise_cons.mpr ⟨fun z hz => ?_, ih⟩
    rcases List.mem_cons.mp hz with rfl | hz
    · exact xy
    · exact ltT_tr xy ((List.pairwise_cons.mp ih).1 z hz)

end My
namespace My
open PySem PySem.Spec PyProof.Rows L2
/-! ### enumerate over a tuple -/
theorem enum_tup_new (a : Addr) (its : Array Value) (n : Nat) (dc : Option Addr) (sl : Array (Option Value)) :
    Meets (Builtin.«enumerate.__new__» ⟨[.type "enumerate", .ref a], []⟩) (fun _ R s => s.heap.get? a = some { cls := .type "tuple", dict := dc, data := .seq its n, slots := sl } ∧
      R (.ok (.ret (.ref (s.heap.push { cls := .type "tuple_iterator", data := .fields #[.ref a, .int 0 0] }).objs.size))) { s with heap := (s.heap.push { cls := .type "tuple_iterator", data := .fields #[.ref a, .int 0 0] }).push { cls := .type "enumerate", data := .fields #[.none, .bool false, .ref s.heap.objs.size, rawInt 0, .none, .none] } }) :=
  .of_wp fun prog w A R s h => by
    obtain ⟨hp, g, d, tk, os⟩ := s
    obtain ⟨hl, h⟩ := h
    have hsub := sub_enumerate
    have hT : Heap.IsTuple (Shared.heap ⟨hp, g, d, tk, os⟩) a its := ⟨_, hl, rfl, n, rfl⟩
    wp_walk using AutoSeq1.wpAny_loadPart' hl
    refine wpAny_stack_any (fun stk => wpAny_pure ?_)
    split
    · rename_i cc _ _ _ _ _
      cases (cc == Value.type "enumerate")
      · wp_walk using AutoSeq1.wpAny_loadPart' hl, wpAny_pyIter_tuple hT
        exact ⟨_, rfl, h⟩
      · wp_walk using AutoSeq1.wpAny_loadPart' hl, wpAny_pyIter_tuple hT
        exact ⟨_, rfl, h⟩
    · wp_walk using AutoSeq1.wpAny_loadPart' hl, wpAny_pyIter_tuple hT
      exact ⟨_, rfl, h⟩
theorem call_enum_tup {prog : Program} {w : World} {A : Around} {E : Value → Shared → Prop} {s : Shared} {a : Addr} {its : Array Value} {Q : Value → Shared → Prop} (ht : s.heap.IsTuple a its)
    (h : ∀ h', IsEnum h' (s.heap.objs.size + 1) s.heap.objs.size 0 .none → h'.IsTupleIter s.heap.objs.size a 0 → (∀ b o, s.heap.get? b = some o → h'.get? b = some o) → Q (.ref (s.heap.objs.size + 1)) { s with heap := h' }) :
    wpAny (model prog w) A (call (.type "enumerate") [.ref a]) Q E s := by
  obtain ⟨⟨c, dc, dt, sl⟩, hl, hc, n, hd⟩ := ht
  obtain rfl : c = .type "tuple" := hc
  obtain rfl : dt = .seq its n := hd
  refine callType_new F.called_enumerate (by decide) (F.typeCall_enumerate_1 _) (F.newCall_enumerate_1 _) (fun obj => F.args_object_init_2 obj _) F.entry_enumerate_new (enum_tup_new a its n dc sl) ⟨hl, ?_⟩
  have sz : (s.heap.push { cls := .type "tuple_iterator", data := .fields #[.ref a, .int 0 0] }).objs.size = s.heap.objs.size + 1 := Heap.size_push ..
  show _ ∧ _
  rw [sz]
  have he : IsEnum ((s.heap.push { cls := .type "tuple_iterator", data := .fields #[.ref a, .int 0 0] }).push { cls := .type "enumerate", data := .fields #[.none, .bool false, .ref s.heap.objs.size, rawInt 0, .none, .none] }) (s.heap.objs.size + 1) s.heap.objs.size 0 .none := by
    have z := Heap.get?_push_size (s.heap.push { cls := .type "tuple_iterator", data := .fields #[.ref a, .int 0 0] }) (o := { cls := .type "enumerate", data := .fields #[.none, .bool false, .ref s.heap.objs.size, rawInt 0, .none, .none] }) rfl
    rw [sz] at z
    exact z
  exact ⟨⟨_, he, rfl⟩, h _ he ⟨_, Heap.get?_push_of_some _ (Heap.get?_push_size _ rfl), rfl, rfl⟩ fun b o y => Heap.get?_push_of_some _ (Heap.get?_push_of_some _ y)⟩
/-- the tuple at a, each item in a new pair with its number -/
def ItE (K : PySem.W.Frag) (a : Addr) : It :=
  ⟨fun i H => ∃ (xs : List V) (x : V), SqT K H a xs ∧ xs[i]? = some x,
    fun i H v H' => ∃ (T : Addr) (x : V), v = .ref T ∧ H T = none ∧ H' = upd H T (.tup [.int (i : Nat), x]) ∧ ∀ xs, SqT K H a xs → xs[i]? = some x,
    fun i H => ∃ xs : List V, SqT K H a xs ∧ xs.length = i⟩
theorem turn_enumT {P : Program} {w : World} {K : PySem.W.Frag} {elts : List Expr} {kk : Nat} {tpos : Pos} (a e it : Addr) :
    Turn P w K (.Tuple elts kk tpos) (ItE K a) [e, it] e (fun i h => (∃ old, IsEnum h e it ((i : Nat) : Int) old) ∧ h.IsTupleIter it a i ∧ e ≠ it) where
  mem := List.mem_cons_self
  obj := fun i h st b hb => by
    obtain ⟨⟨old, he⟩, ⟨o, ho, hc, hd⟩, _⟩ := st
    rcases List.mem_cons.mp hb with z | z
    · rw [z]
      exact ⟨_, he, fun v q => nomatch q⟩
    · rw [List.mem_singleton.mp z]
      exact ⟨o, ho, fun v q => by rw [hd] at q; cases q⟩
  keep := fun i h h' st k => by
    obtain ⟨⟨old, he⟩, hi, hne⟩ := st
    exact ⟨⟨old, k e List.mem_cons_self _ he⟩, hi.at fun o q => k it (List.mem_cons_of_mem _ List.mem_cons_self) o q, hne⟩
  item := by
    intro X hP hw hK hc i pins s σ H E I hf st hg
    subst hP hw hK
    obtain ⟨⟨old, he⟩, hit, hne⟩ := st
    obtain ⟨xs, x, hq, hx⟩ := hg
    obtain ⟨its, rv, tp, hz⟩ := I.tuple hq
    obtain ⟨u, hu, ru⟩ := rv.get hx
    have ea : e ≠ a := fun z => by
      obtain ⟨o, h1, h2, _⟩ := id tp
      have he2 : s.heap.get? e = some _ := he
      rw [z, h1] at he2
      rw [Option.some.inj he2] at h2
      injection h2 with z2
      exact absurd z2 (by decide)
    have ia : a ≠ it := fun z => by
      obtain ⟨o, h1, h2, _⟩ := id tp
      obtain ⟨o2, g1, g2, _⟩ := id hit
      rw [← z, h1] at g1
      rw [Option.some.inj g1, g2] at h2
      injection h2 with z2
      exact absurd z2 (by decide)
    have hel : e < s.heap.objs.size := Heap.lt_size he
    have hil : it < s.heap.objs.size := by
      obtain ⟨_, q, _⟩ := id hit
      exact Heap.lt_size q
    have hui : its.toArray[i]? = some u := by simpa using hu
    have hlt : i < its.toArray.size := (Array.getElem?_eq_some_iff.mp hui).1
    refine wpAny_pyNext_enum_itemD (Draws.tuple (A := X.A.in1) (I.ok.hd hc) it a ia its.toArray) he ⟨hit, tp⟩ hlt hne (fun z => ?_) fun y h' tk hy ho st' hT hsz hk => ?_
    · rcases List.mem_cons.mp z with z | z
      · exact hne z
      · exact ea (List.mem_singleton.mp z)
    · have ey : y = u := by
        have hy2 : its.toArray[i]? = some y := hy
        rw [hui] at hy2
        exact (Option.some.inj hy2).symm
      subst ey
      refine ⟨_, rfl, wpAny_letOwnedTupleGo_enum (s := { s with heap := h', toks := tk + 1 }) ho fun h'' he' sb => ?_⟩
      have hT2 : h''.get? s.heap.objs.size = some { cls := .type "tuple", data := .seq #[.int i tk, y] } := (sb.2 _ (Nat.ne_of_gt hel)).trans hT
      have new : ObjOk X.prog X.w (upd H s.heap.objs.size (.tup [.int (i : Nat), x])) h'' s.heap.objs.size (.tup [.int (i : Nat), x]) :=
        ⟨by show 2 ≤ sizeLine; decide, [.int i tk, y], .cons ⟨_, rfl⟩ (.cons ru .nil), ⟨_, hT2, rfl, _, rfl⟩⟩
      have fr : ∀ b ob, b ∉ [e, it] → s.heap.get? b = some ob → h''.get? b = some ob := fun b ob hb q => by
        have n1 : b ≠ e := fun z => hb (z ▸ List.mem_cons_self)
        have n2 : b ≠ it := fun z => hb (z ▸ List.mem_cons_of_mem _ List.mem_cons_self)
        exact (sb.2 b n1).trans (hk b ob n1 n2 q)
      have I1 : Inv X pins σ (upd H s.heap.objs.size (.tup [.int (i : Nat), x])) { s with heap := h'', toks := tk + 1 } := I.turnedNew (ch := [e, it]) fr hf (Nat.le_refl _) new
      refine ⟨.ref s.heap.objs.size, _, I1, rfl, ⟨_, x, rfl, I.hok.fresh (Nat.le_refl _), rfl, fun ys hy => by rw [I.tuple_inj hy hq]; exact hx⟩, ⟨⟨y, ?_⟩, (st'.1).at fun o q => (sb.2 it (Ne.symm hne)).trans q, hne⟩, fun b hb => ?_⟩
      · have e1 : ((i + 1 : Nat) : Int) = (i : Int) + 1 := by omega
        rw [e1]
        exact he'
      · have hb' : b < s.heap.objs.size := by
          rcases List.mem_cons.mp hb with z | z
          · rw [z]
            exact hel
          · rw [List.mem_singleton.mp z]
            exact hil
        rw [upd_ne (Nat.ne_of_lt hb')]
        exact (hf b hb).1
  done := by
    intro X hP hw hK hc i pins s σ H E I hf st hg
    subst hP hw hK
    obtain ⟨⟨old, he⟩, hit, hne⟩ := st
    obtain ⟨xs, hq, hx⟩ := hg
    obtain ⟨its, rv, tp, hz⟩ := I.tuple hq
    obtain ⟨f0, f1, f2, f3, f4, f5⟩ := hf it (List.mem_cons_of_mem _ List.mem_cons_self)
    have ia : a ≠ it := fun z => by
      obtain ⟨o, h1, h2, _⟩ := id tp
      obtain ⟨o2, g1, g2, _⟩ := id hit
      rw [← z, h1] at g1
      rw [Option.some.inj g1, g2] at h2
      injection h2 with z2
      exact absurd z2 (by decide)
    have hl : i = its.toArray.size := by
      rw [List.size_toArray, ← rv.length, hx]
    subst hl
    exact wpAny_pyNext_enum_endD (Draws.tuple (A := X.A.in1) (I.ok.hd hc) it a ia its.toArray) he ⟨hit, tp⟩ fun h' eb => ⟨rfl, I.turned (t' := s.toks) (fun b o hb q => eb b o hb q) f0 f1 f3 f4 f5⟩
  self := fun A i s Q E st h => by
    obtain ⟨⟨_, he⟩, _⟩ := st
    exact wpAny_pyIter_enum he h
def iEnumT (K : PySem.W.Frag) (ta : TA) : TI := fun σ H R => ta σ H fun vs H1 => ∃ (a : Addr) (xs : List V), vs = [.ref a] ∧ SqT K H1 a xs ∧ R (ItE K a) H1
theorem pi_enumT {X : Cx} {e : Expr} {ta : TA} {p pos tpos : Pos} {elts : List Expr} {kk : Nat} (hg : Gl X "enumerate") (hm : X.mg "enumerate" = none) (ha : PA X [e] ta) (hs : starEach [e] X.env = [(false, eval e X.env)] := by rfl) :
    PI X (.Tuple elts kk tpos) (.Call (.Name "enumerate" p) [e] [] pos) (iEnumT X.K ta) := by
  constructor
  intro pins s σ H R I h
  refine Call_ (ld_blt I hg hm boot_enumerate (PyProof.Rows.callWith_type1 (thn (ha.run pos pins s σ H _ I h) fun us s1 z => ?_) hs rfl))
  obtain ⟨vs, H1, I1, r1, a, xs, rfl, hq, q⟩ := z
  obtain ⟨u, rfl, r⟩ := vals1 r1
  obtain rfl : u = Value.ref a := r
  obtain ⟨its, rv, tp, hz⟩ := I1.tuple hq
  refine call_enum_tup tp fun h' he hit hk => wpAny_pyIter_enum he ?_
  have I2 : Inv X pins σ H1 { s1 with heap := h' } := I1.kept (t' := s1.toks) hk
  refine ⟨s1.heap.objs.size + 1, [s1.heap.objs.size + 1, s1.heap.objs.size], _, _, H1, rfl, I2, turn_enumT a (s1.heap.objs.size + 1) s1.heap.objs.size, ⟨⟨.none, he⟩, hit, Nat.succ_ne_self _⟩, fun b hb => ?_, q⟩
  have hle : s1.heap.objs.size ≤ b := by
    rcases List.mem_cons.mp hb with z | z
    · rw [z]
      exact Nat.le_succ _
    · rw [List.mem_singleton.mp z]
      exact Nat.le_refl _
  exact I1.fpOk hle (I1.hok.fresh hle)
theorem walk_enumT {K : PySem.W.Frag} {a : Addr} {xs : List V} : L2.Walk (ItE K a) xs.length (fun H => SqT K H a xs) (YPair (fun i => some (.int (i : Nat))) (fun i => xs[i]?)) := by
  refine ⟨fun i _ hi q => ⟨xs, xs[i], q, List.getElem?_eq_getElem hi⟩, fun _ q => ⟨xs, q, rfl⟩, fun i H v H' _ q y => ?_⟩
  obtain ⟨T, x, h1, h2, h3, h4⟩ := y
  exact ⟨T, .int (i : Nat), x, h1, h2, h3, rfl, h4 xs q⟩

/-! ### sorted of a dict's keys, of a tuple: ints, any number of them -/
section
variable {X : Cx}
theorem call_sortedDX (hcalm : X.calm = true) : CallR X (.builtin "sorted") (fun xs H Q => ∃ (a : Addr) (kvs : List (Key × V)) (ks : List Int), xs = [.ref a] ∧ Rd H a (.dK kvs) ∧ kvs.map (·.1) = ks.map Sum.inl ∧ ks.length ≤ 100000 ∧
    ∀ (ys : List Int) (p : Addr), ys.Perm ks → ys.Pairwise (· ≤ ·) → H p = none → Q (.ref p) (upd H p (.lst (ys.map V.int)))) := by
  intro pins s σ H xs us Q I r q
  obtain ⟨a, kvs, ks, ex, hd, hks, hz, q⟩ := q
  subst ex
  obtain ⟨u, eu, rx⟩ := vals1 r
  subst eu
  cases rx
  obtain ⟨z, lo, vs, rel, dd⟩ := dk_rd I.hok hd
  obtain ⟨ep, hat⟩ := dd.dictAt
  have hkeys : vs.map (·.1) = ks.map Sum.inl := rel.keys.symm.trans hks
  have hl : vs.length = ks.length := by
    have e := congrArg List.length hkeys
    rw [List.length_map, List.length_map] at e
    exact e
  refine Calls.call_function_entry PyProof.Rows.kind_sorted PyProof.Rows.plain_sorted PyProof.Rows.entry_sorted (PyProof.Rows.args_sorted1 _) ?_
  unfold Builtin.«sorted»
  refine wpAny_bind (m := checkCount "sorted" 1 1 _) (wpAny_pure ?_)
  refine wpAny_bind (PySem.W.kdu_collect (A := X.A.in1) (PySem.W.kdl_dict (knd := mixKind X.prog X.w) (kvs := vs) (ep := ep) lo) (I.ok.hd hcalm) hat (by rw [hl]; exact sz hz) fun h' tk acc hk hacc => ?_)
  have hal : acc.toList.length = ks.length := by rw [Array.length_toList, hacc.1, hl]
  have hS : PyProof.Rows.IntsAre acc.toList ks := ints_each hal fun j v e => by
    obtain ⟨k, x, e1, e2⟩ := hacc.2 j v (by rw [← Array.getElem?_toList]; exact e)
    have e3 : (vs.map (·.1))[j]? = some k := by rw [List.getElem?_map, e1]; rfl
    rw [hkeys, List.getElem?_map] at e3
    cases e4 : ks[j]? with
    | none => rw [e4] at e3; cases e3
    | some y =>
      rw [e4] at e3
      have e5 : Sum.inl y = k := Option.some.inj e3
      subst e5
      rcases keyIs_shape (show keyIs (Sum.inl y) v = true from e2) with ⟨i, t, ek, ev⟩ | ⟨z, t, ek, ev⟩
      · cases ek
        exact ⟨y, t, rfl, ev⟩
      · cases ek
  have I1 : Inv X pins σ H { s with heap := h', toks := tk } := I.kept hk
  refine wpAny_bind (wpAny_newList ?_ (by rw [hal]; exact sz hz))
  have hoL : (h'.push (seqObj "list" acc.toList.toArray 0)).get? h'.objs.size = some (seqObj "list" acc.toList.toArray 0) := Heap.get?_push_size _ rfl
  show wpAny _ _ _ _ _ { s with heap := h'.push (seqObj "list" acc.toList.toArray 0), toks := tk }
  refine wpAny_bind (wpAny_holding (wpAny_call_entry PyProof.Rows.slot_list_sort ⟨_, hoL, rfl⟩ PyProof.Rows.entry_list_sort
    (SrtO.list_sort_ord (s := { s with heap := h'.push (seqObj "list" acc.toList.toArray 0), toks := tk }) SrtO.swo_int hoL (by rw [hal]; exact sz hz) (fun h2 => SrtO.ints_sortable hS h2) fun out h1 h2 => ⟨_, rfl, ?_⟩) (PyProof.Rows.args_list_sort _)))
  obtain ⟨k1, k2, k3⟩ := SrtO.ints_out hS h1 h2
  obtain ⟨e', he'⟩ := PyProof.Rows.sortedHeap_at (vs := acc.toList) (out := out.toArray) hoL
  have hlen : ((out.map SrtO.iv).map V.int).length ≤ sizeLine := by
    rw [List.length_map, k2.length_eq]
    exact sz hz
  refine wpAny_pure ⟨_, rfl, .ref h'.objs.size, upd H h'.objs.size (.lst ((out.map SrtO.iv).map V.int)), I1.laid (t' := tk) (fun b u e => ?_) (Nat.le_refl _)
    (show ObjOk X.prog X.w _ _ _ (.lst ((out.map SrtO.iv).map V.int)) from ⟨hlen, out, e', vals_of_ints k1, he'⟩), rfl, q _ _ k2 k3 (I1.hok.fresh (Nat.le_refl _))⟩
  have hb : b < h'.objs.size := Heap.lt_size e
  rw [PyProof.Rows.sortedHeap_old (Nat.ne_of_lt hb) (by rw [size_push']; exact Nat.lt_succ_of_lt hb)]
  exact Heap.get?_push_of_some _ e
end

/-! ### t[::-1] of a tuple -/
theorem adjust_rev (n : Nat) : Builtin.Slice.sliceAdjust none none (-1) (n : Int) = ((n : Int) - 1, -1) := by
  first
  | rfl
  | (unfold Builtin.Slice.sliceAdjust; simp)
theorem places_rev (n : Nat) : Builtin.Slice.slicePlaces ((n : Int) - 1) (-1) (-1) = n := by
  unfold Builtin.Slice.slicePlaces
  have h1 : ¬ ((-1 : Int) > 0) := by decide
  simp only [h1, if_false]
  by_cases h : (n : Int) - 1 > -1
  · rw [if_pos (by omega)]
    have e : ((n : Int) - 1 - -1 - 1) / (- -1) = (n : Int) - 1 := by
      rw [show (- -1 : Int) = 1 by decide, Int.ediv_one]
      omega
    omega
  · rw [if_neg (by omega)]
    omega
theorem filterMap_ext {α β : Type} {f g : α → Option β} : ∀ {l : List α}, (∀ x ∈ l, f x = g x) → l.filterMap f = l.filterMap g
  | [], _ => rfl
  | x :: l, h => by
    rw [List.filterMap_cons, List.filterMap_cons, h x List.mem_cons_self, filterMap_ext fun y hy => h y (List.mem_cons_of_mem _ hy)]
theorem pick_rev (xs : Array Value) : ((List.range xs.size).filterMap fun (m : Nat) => xs[(((xs.size : Int) - 1) + (m : Int) * (-1)).toNat]?).toArray = xs.toList.reverse.toArray := by
  have e : (List.range xs.size).filterMap (fun (m : Nat) => xs[(((xs.size : Int) - 1) + (m : Int) * (-1)).toNat]?) = ((List.range xs.size).map fun k => xs.size - 1 - k).filterMap (xs[·]?) := by
    rw [List.filterMap_map]
    refine filterMap_ext fun m hm => ?_
    have := List.mem_range.mp hm
    show xs[(((xs.size : Int) - 1) + (m : Int) * (-1)).toNat]? = xs[xs.size - 1 - m]?
    have e2 : (((xs.size : Int) - 1) + (m : Int) * (-1)).toNat = xs.size - 1 - m := by omega
    rw [e2]
  rw [e, PySem.W.krv_range, List.filterMap_reverse, PySem.W.krv_all]
theorem sliceApplied_rev {prog : Program} {w : World} {A : Around} {E : Value → Shared → Prop} {s : Shared} {sl : Addr} {vl vu vs : Value} {n : Nat} {Q : Int × Int × Nat → Shared → Prop} (hs : s.heap.IsSliceOf sl vl vu vs) (pl : PySem.IsPart vl none) (pu : PySem.IsPart vu none) (ps : PySem.IsPart vs (some (-1)))
    (h : Q ((n : Int) - 1, -1, n) s) : wpAny (model prog w) A (Builtin.Slice.sliceApplied (.ref sl) (pure (n : Int))) Q E s := by
  obtain ⟨os, hos, hcs, hds⟩ := id hs
  unfold Builtin.Slice.sliceApplied Builtin.Slice.sliceFields
  refine wpAny_bind (wpAny_bind (wpAny_field hos hds (x := vl) rfl (wpAny_bind (wpAny_field hos hds (x := vu) rfl (wpAny_bind (wpAny_field hos hds (x := vs) rfl (wpAny_pure ?_)))))))
  refine wpAny_bind (HT.slicePart_ ps ?_)
  show wpAny _ _ (if ((-1 : Int) == 0) = true then _ else _) _ _ s
  rw [if_neg (by decide)]
  refine wpAny_bind (HT.slicePart_ pl (wpAny_bind (HT.slicePart_ pu (wpAny_bind (wpAny_pure ?_)))))
  show wpAny _ _ (match Builtin.Slice.sliceAdjust none none (-1) (n : Int) with | (lo, hi) => pure (lo, (-1 : Int), Builtin.Slice.slicePlaces lo hi (-1))) _ _ s
  rw [adjust_rev]
  show wpAny _ _ (pure ((n : Int) - 1, (-1 : Int), Builtin.Slice.slicePlaces ((n : Int) - 1) (-1) (-1))) _ _ s
  rw [places_rev]
  exact wpAny_pure h
theorem getItem_revT {prog : Program} {w : World} {A : Around} {E : Value → Shared → Prop} {s : Shared} {t sl : Addr} {items : Array Value} {vl vu vs : Value} {Q : Value → Shared → Prop} (ht : IsTup s.heap t items) (hs : s.heap.IsSliceOf sl vl vu vs) (pl : PySem.IsPart vl none) (pu : PySem.IsPart vu none) (ps : PySem.IsPart vs (some (-1)))
    (h : Q (.ref s.heap.objs.size) { s with heap := s.heap.push { cls := .type "tuple", data := .seq items.toList.reverse.toArray } }) (hsz : items.size ≤ sizeLine) : wpAny (model prog w) A (getItem (.ref t) (.ref sl)) Q E s := by
  obtain ⟨os, hos, hcs, hds⟩ := id hs
  have hTs : s.TypeIs (.ref sl) "slice" := ⟨os, hos, hcs⟩
  have htake : sizeOk (.seq items.toList.reverse.toArray) := by
    show items.toList.reverse.toArray.size ≤ sizeLine
    rw [List.size_toArray, List.length_reverse, Array.length_toList]
    exact hsz
  unfold getItem
  try with_reducible refine wpAny_holding ?_
  first | refine wpAny_bind (wpAny_pure ?_) | skip
  refine wpAny_bind (wpAny_sequenceKey ht.typeIs (by decide) ?_)
  refine wpAny_bind (wpAny_callSpecial?_slot (name := Str.ofString "__getitem__") ht.typeIs PyProof.Rows.slot_tuple_getitem
    (wpAny_call_entry PyProof.Rows.slot_tuple_getitem ht.typeIs PyProof.Rows.entry_tuple_getitem ?_ (PyProof.Rows.args_tuple_getitem _ _)))
  show wpAny _ _ (Builtin.Tuple.tupleItemsOf (.ref t) >>= _) _ _ s
  refine wpAny_bind (tupleItemsOf_ ht ?_)
  refine wpAny_bind (wpAny_typeOf hTs ?_)
  rw [if_pos (by decide)]
  refine wpAny_bind (sliceApplied_rev hs pl pu ps ?_)
  show wpAny _ _ (if ((((items.size : Int) - 1) == 0) && ((-1 : Int) == 1) && (items.size == items.size)) = true then _ else _) _ _ s
  rw [if_neg (by rw [show ((-1 : Int) == 1) = false from rfl, Bool.and_false, Bool.false_and]; decide), pick_rev]
  first
    | exact wpAny_bind (m := Builtin.Tuple.tupleExact _) (wpAny_newObj_type (wpAny_pure ⟨_, rfl, wpAny_pure h⟩) htake)
    | exact wpAny_bind (m := Builtin.Tuple.tupleExact _) (wpAny_newObj_type (wpAny_bind (wpAny_pure (wpAny_pure ⟨_, rfl, wpAny_pure h⟩))) htake)
    | exact wpAny_bind (wpAny_bind (m := Builtin.Tuple.tupleExact _) (wpAny_newObj_type (wpAny_pure (wpAny_pure ⟨_, rfl, wpAny_pure h⟩)) htake))
    | exact wpAny_bind (wpAny_bind (m := Builtin.Tuple.tupleExact _) (wpAny_newObj_type (wpAny_pure ⟨_, rfl, wpAny_pure h⟩) htake))
section
variable {X : Cx}
def tRevT (K : PySem.W.Frag) (te : TE) : TE := fun σ H Q => te σ H fun x H1 => ∃ a xs, x = .ref a ∧ SqT K H1 a xs ∧ ∀ p, H1 p = none → Q (.ref p) (upd H1 p (.tup xs.reverse))
theorem pe_revT {e : Expr} {te : TE} {k : Nat} {p1 p2 p3 pos : Pos} (he : PE X e te) : PE X (.Subscript e (.Slice none none (some (.UnaryOp .USub (.Constant (.int 1) k p1) p2)) p3) pos) (tRevT X.K te) := by
  refine ⟨fun pins s σ H Q I h => ?_⟩
  refine Subscript_ (thn (he.run pins s σ H _ I h) fun v s1 ⟨x, H1, I1, r1, q1⟩ => ?_)
  obtain ⟨a, xs, ex, hx, q⟩ := q1
  subst ex
  cases r1
  have hst : PO X (some (.UnaryOp .USub (.Constant (.int 1) k p1) p2)) (tPart (tUn (rU fun i => .int (-i)) (tC (.int 1)))) := po_some (pe_un un_neg pe_int)
  refine wpAny_Slice (thn (po_none.run pins s1 σ H1 (fun o H2 => o = none ∧ H2 = H1) I1 ⟨rfl, rfl⟩) fun vl s2 ⟨l, H2, I2, pl, el, e2⟩ => ?_)
  subst el e2
  refine thn (po_none.run pins s2 σ H2 (fun o H3 => o = none ∧ H3 = H2) I2 ⟨rfl, rfl⟩) fun vu s3 ⟨u, H3, I3, pu, eu, e3⟩ => ?_
  subst eu e3
  refine thn (hst.run pins s3 σ H3 (fun o H4 => o = some (-1) ∧ H4 = H3) I3 ⟨1, rfl, -1, rfl, rfl, rfl⟩) fun vs s4 ⟨o, H4, I4, ps, eo, e4⟩ => ?_
  subst eo e4
  have I5 : Inv X pins σ H4 { s4 with heap := s4.heap.push { cls := .type "slice", data := .fields #[vl, vu, vs] } } := I4.kept (t' := s4.toks) fun b ob q => Heap.get?_push_of_some _ q
  obtain ⟨its, r, ht, hz⟩ := I5.tuple hx
  have hlen := r.length
  show wpAny (model X.prog X.w) X.A (subscriptTail e (.Slice none none (some (.UnaryOp .USub (.Constant (.int 1) k p1) p2)) p3) (.ref a) (.ref s4.heap.objs.size)) (EP X pins σ Q) X.xe { s4 with heap := s4.heap.push { cls := .type "slice", data := .fields #[vl, vu, vs] } }
  refine tail_any (ops := [.ref a, .ref s4.heap.objs.size]) ht.typeIs (PyProof.Rows.slot_tuple_getitem.lookup) ?_ (by with_unfolding_all rfl)
  refine getItem_revT ht (Heap.IsSliceOf.new _ vl vu vs) pl pu ps ?_ (by rw [List.size_toArray]; omega)
  refine ⟨.ref _, _, I5.laid (t' := s4.toks) (o := .tup xs.reverse) (fun b ob q => Heap.get?_push_of_some _ q) (Nat.le_refl _) ?_, rfl, q _ (I5.hok.fresh (Nat.le_refl _))⟩
  exact ⟨by rw [List.length_reverse]; exact hz, _, r.reverse, IsTup.new _ _⟩
end

/-! ### a list's method within a block -/
theorem mt_countBK {X : Cx} {K : PySem.W.Frag} (hK : X.K = K) : MtR X "list.count" (rCntB K) := by
  subst hK
  exact mt_countB
theorem call_isiK {X : Cx} {K : PySem.W.Frag} (hK : X.K = K) : CallR X (.builtin "isinstance") (rIsi K) := by
  subst hK
  exact call_isi
theorem pe_bmK {X : Cx} {K : PySem.W.Frag} (hK : X.K = K) {o e : Expr} {es : List Expr} {to : TE} {t : TA} {name : Str} {apos cpos : Pos} {T id : String} {r : V → List V → Hp → VK → Prop} (pa : PlainAttrs T) (slot : Slot T name id) (hty : typeOf (.builtin id) = pure (.type "method_descriptor")) (hm : MtR X id r) (ho : PE X o to) (ha : PA X (e :: es) t)
    (hbase : attributeBase o name X.env (eval o X.env) = eval o X.env := by rfl)
    (hfew : ((backTo cpos (starEach (e :: es) X.env)).all (fun x => !x.1) && (backToKw cpos (keywordEach [] X.env)).all (fun x => x.1.isSome)
      && decide ((e :: es).length + ([] : List Keyword).length + (if ([] : List Keyword).isEmpty then 0 else 1) < 30)) = true := by rfl)
    (hline : (apos.endLine == cpos.line) = true := by rfl) (hs : starEach (e :: es) X.env = (false, eval e X.env) :: starEach es X.env := by rfl) (hplain : (backTo cpos (starEach es X.env)).any (·.1) = false := by rfl) :
    PE X (.Call (.Attribute o name apos) (e :: es) [] cpos) (tBM K T r to t) := by
  subst hK
  exact pe_bm pa slot hty hm ho ha hbase hfew hline hs hplain

/-! ### rules within a block, the written part by its own letter -/
theorem ix_tupK {X : Cx} {K : PySem.W.Frag} (hK : X.K = K) : IxR X (rIxT K) := by
  subst hK
  exact ix_tup
theorem ix_listK {X : Cx} {K : PySem.W.Frag} (hK : X.K = K) : IxR X (rIxL K) := by
  subst hK
  exact ix_list
theorem call_len_seqK {X : Cx} {K : PySem.W.Frag} (hK : X.K = K) : CallR X (.builtin "len") (fun xs H Q => ∃ p ys, xs = [.ref p] ∧ (SqL K H p ys ∨ SqT K H p ys) ∧ Q (.int ys.length) H) := by
  subst hK
  exact call_len_seq
theorem pe_fldK {X : Cx} {K : PySem.W.Frag} {e : Expr} {ta : TE} {f : Str} {pos : Pos} (hK : X.K = K) (he : PE X e ta) (hb : attributeBase e f X.env (eval e X.env) = eval e X.env) : PE X (.Attribute e f pos) (tFld K ta f) := by
  subst hK
  exact pe_fld he hb

/-! ### {k: v for .. in ..}, the keys tuples -/
section
variable {X : Cx}
theorem setT {pins : List (Addr × Obj)} {σ : L2.St} {M : Hp} {z : Shared} {F : Value → Shared → Prop} {Z b : Addr} {kvs : List (List Key × V)} {k : List Key} {v : V} {r : Value} {Q : Unit → Shared → Prop} (hu : X.A.units < cLine) (J : Inv X pins σ M z) (hZ : M Z = some (.dT kvs)) (hb : M b = some (.tup (k.map kV))) (few : kvs.length < sizeLine) (rv : RelV v r)
    (q : ∀ z', Inv X pins σ (upd M Z (.dT (putK kvs k v))) z' → Q () z') : wpAny (model X.prog X.w) X.A (dictSet Z (.ref b) r) Q F z := by
  obtain ⟨z0, nm, xs, rel, dd⟩ := dt_of J.hok hZ
  have zx : xs.length ≤ sizeLine := Paired.length rel ▸ z0
  have zp : (putK kvs k v).length ≤ sizeLine := Nat.le_trans (length_putK kvs k v) few
  refine wpAny_dictSet_heap (knd := tupleKind (mixKind X.prog X.w)) (hsz := zx) hu (key_of J.hok hb) dd fun h2 dd2 sb => q _ ?_
  obtain ⟨o, es, ep, g1, g2, g3, g4, _, g6⟩ := dd2
  refine d_write J (hZ ▸ True.intro) sb ⟨o, g1⟩ ⟨zp, nm, _, (rel.put k hb rv).keeps fun c ys ec => ?_, o, es, ep, g1, g2, g3, g4, g6⟩
  exact (upd_ne (ne_of ec hZ (fun y => nomatch y))).trans ec
def tDcT (wi : TI) (g : TG) (tt : TT) (tk tv : TE) (vs : List Nat) : TE := fun σ H Q => wi σ H fun J H1 => ∀ D, H1 D = none → ∃ W : Nat → Nat → Hp → Prop, (∃ m, W 0 m (upd H1 D (.dT []))) ∧ ∀ i m H, W i m H →
  (J.stop i H ∧ Q (.ref D) H) ∨ (J.go i H ∧ ∃ Nx : Hp → Prop, (∀ H', Nx H' → ∃ m', m' < m ∧ W (i + 1) m' H') ∧ ∀ x H', J.yld i H x H' → g x (wipe σ vs) H' fun σ2 H2 => wipe σ2 vs = wipe σ vs ∧ tt σ2 H2 fun b H3 =>
    if b = true then tk σ2 H3 fun y H4 => tv σ2 H4 fun z H5 => ∃ kvs k b, y = .ref b ∧ H5 b = some (.tup (k.map kV)) ∧ H5 D = some (.dT kvs) ∧ kvs.length < sizeLine ∧ Nx (upd H5 D (.dT (putK kvs k z))) else Nx H3)
set_option maxHeartbeats 8000000 in
theorem pe_dcT {kx vx tg iter : Expr} {ifs : List Expr} {scope : Scope} {own : List (Str × Nat)} {pos : Pos} {wi : TI} {g : TG} {tt : TT} {tk tv : TE} (calm : X.calm = true) (hu : X.A.units < cLine) (nodup : X.N.Nodup) (src : PI X tg iter wi) (blk : BlkOk X.N X.env.scope scope own)
    (hg : ∀ (z : Shared) (M : Hp) (C : Addr) (cl : List (Str × Addr)) (fp : List Addr), PG (X.blk z M scope (compEnvC scope cl C X.env) fp) tg g) (ht : ∀ (z : Shared) (M : Hp) (C : Addr) (cl : List (Str × Addr)) (fp : List Addr), PTs (X.blk z M scope (compEnvC scope cl C X.env) fp) ifs tt)
    (hk : ∀ (z : Shared) (M : Hp) (C : Addr) (cl : List (Str × Addr)) (fp : List Addr), PE (X.blk z M scope (compEnvC scope cl C X.env) fp) kx tk)
    (hv : ∀ (z : Shared) (M : Hp) (C : Addr) (cl : List (Str × Addr)) (fp : List Addr), PE (X.blk z M scope (compEnvC scope cl C X.env) fp) vx tv) (fs : ∀ x, foldedSetIterable iter X.env x = pure x := by intro _; rfl) :
    PE X (.DictComp kx vx [⟨tg, iter, ifs, 0⟩] scope pos) (tDcT wi g tt tk tv (own.map (·.2))) := by
  refine ⟨fun pins z0 σ M0 Q J0 h => ?_⟩
  rw [arm_eval_DictComp]
  have cells : ∀ y ∈ scope.names, y.2 = .free → ∃ c, X.env.cells.lookup y.1 = some c := fun y hy e => (blk.free y hy e).elim (fun k => J0.ok.has _ (.inl k)) fun k => J0.ok.has _ (.inr k)
  refine wpAny_comprehension_free (use := none) rfl fs (closure_ok cells) blk.kind (fun y hy e => (blk.uniq y hy).trans (congrArg some e)) (thn (src.run pins z0 σ M0 _ J0 h) fun xv z1 hx => thn hx fun itv z2 hit => ?_)
  obtain ⟨it, fp, tn, Jt, M2, rfl, J2, T, st2, f2, q⟩ := hit
  refine wpAny_newObj_type (newEnv_comp ?_)
  generalize eZ : z2.heap.objs.size = Z
  have nZ : M2 Z = none := J2.hok.fresh (Nat.le_of_eq eZ)
  obtain ⟨W, ⟨m0, w0⟩, turn⟩ := q Z nZ
  generalize ez3 : ({ z2 with heap := z2.heap.push { cls := .type "dict", data := .dict #[] } } : Shared) = z3
  have eh3 : z3.heap = z2.heap.push { cls := .type "dict", data := .dict #[] } := ez3 ▸ rfl
  have J3 : Inv X pins σ (upd M2 Z (.dT [])) z3 := ez3 ▸ J2.laid (t' := z2.toks) (fun b o e => Heap.get?_push_of_some _ e) (Nat.le_of_eq eZ) (eZ ▸ dt_empty z2.heap J2.big)
  have below : ∀ b ∈ fp, b < z2.heap.objs.size := fun b hb => let ⟨o, e, _⟩ := T.obj _ _ st2 b hb; Heap.lt_size e
  have f3 : ∀ b ∈ fp, FpOk X pins (upd M2 Z (.dT [])) b ∧ b < z3.heap.objs.size := fun b hb => by
    have lt := below b hb
    exact ⟨⟨(upd_ne (eZ ▸ Nat.ne_of_lt lt)).trans (f2 b hb).1, (f2 b hb).2⟩, eh3 ▸ (Heap.size_push .. ▸ Nat.lt_succ_of_lt lt)⟩
  have st3 : tn 0 z3.heap := T.keep _ _ _ st2 fun b _ o e => eh3 ▸ Heap.get?_push_of_some _ e
  have J4 := block_start J3 blk nodup f3
  have pg := hg z3 (upd M2 Z (.dT [])) z3.heap.objs.size (cellsFrom (z3.heap.objs.size + 1) scope.names (cloFrom X.env.cells scope.names [])) fp
  have pt := ht z3 (upd M2 Z (.dT [])) z3.heap.objs.size (cellsFrom (z3.heap.objs.size + 1) scope.names (cloFrom X.env.cells scope.names [])) fp
  have pk := hk z3 (upd M2 Z (.dT [])) z3.heap.objs.size (cellsFrom (z3.heap.objs.size + 1) scope.names (cloFrom X.env.cells scope.names [])) fp
  have pv' := hv z3 (upd M2 Z (.dT [])) z3.heap.objs.size (cellsFrom (z3.heap.objs.size + 1) scope.names (cloFrom X.env.cells scope.names [])) fp
  show codeAny _ _ (.compStart (.DictComp kx vx [⟨tg, iter, ifs, 0⟩] scope pos) 0 (.ref it) (.ref Z) (compEnvC scope (cellsFrom (z3.heap.objs.size + 1) scope.names (cloFrom X.env.cells scope.names [])) z3.heap.objs.size X.env)) (compPost (model X.prog X.w) X.A X.xe none _ (.ref Z) z3.heap.objs.size) { z3 with heap := pushCells (z3.heap.push { cls := .type "dict", data := .dict #[] }) scope.names }
  have nfp : ∀ b ∈ fp, (upd M2 Z (.dT [])) b = none := fun b hb => (f3 b hb).1.1
  generalize ece : compEnvC scope (cellsFrom (z3.heap.objs.size + 1) scope.names (cloFrom X.env.cells scope.names [])) z3.heap.objs.size X.env = ce at J4 pg pt pk pv' ⊢
  have cl : ce.locals = z3.heap.objs.size := ece ▸ rfl
  generalize eM3 : upd M2 Z (.dT []) = M3 at J3 J4 pg pt pk pv' w0 nfp f3
  generalize ez4 : ({ z3 with heap := pushCells (z3.heap.push { cls := .type "dict", data := .dict #[] }) scope.names } : Shared) = z4 at J4 ⊢
  have st4 : tn 0 z4.heap := T.keep _ _ _ st3 fun b _ o e => ez4 ▸ pushCells_keeps _ _ _ _ (Heap.get?_push_of_some _ e)
  have still : ∀ {τ : L2.St} {M' : Hp} {z' : Shared}, Inv (X.blk z3 M3 scope ce fp) [] τ M' z' → (∀ b ∈ fp, M' b = none) → ∀ b ∈ fp, FpOk (X.blk z3 M3 scope ce fp) [] M' b := fun {τ M' z'} J' nn b hb =>
    ⟨nn b hb, (J'.ok.exf b hb).1, J'.ok.exfs b hb, .inl hb, fun x c e => (J'.ok.exf b hb).2 x c e, fun p hp => absurd (show p ∈ ([] : List (Addr × Obj)) ++ [] from hp) (by simp)⟩
  have loop : codeAny (model X.prog X.w) X.A (.compLoop (.DictComp kx vx [⟨tg, iter, ifs, 0⟩] scope pos) 0 (.ref it) (.ref Z) ce) (compPost (model X.prog X.w) X.A X.xe none (EP X pins σ Q) (.ref Z) z3.heap.objs.size) z4 := by
    refine compLoop_anyD (fun n z' => ∃ i M', Inv (X.blk z3 M3 scope ce fp) [] (wipe σ (own.map (·.2))) M' z' ∧ tn i z'.heap ∧ (∀ b ∈ fp, M' b = none) ∧ W i n M') ?_ m0 ⟨0, M3, J4, st4, nfp, w0⟩
    rintro n z5 ⟨i, M5, J5, st5, n5, w5⟩
    rcases turn i n M5 w5 with ⟨stop, qq⟩ | ⟨go, Nx, hNx, step⟩
    · refine thnF (T.done (X.blk z3 M3 scope ce fp) rfl rfl rfl calm i [] z5 _ M5 (fun _ _ => False) J5 (still J5 n5) st5 stop) fun r z6 ⟨er, J6⟩ => ?_
      subst er
      have J7 : Inv X pins σ M5 z6 := J3.call' (ch := fp) J6.os J6.base J6.hok J6.bare fun b hb => ⟨(f3 b hb).1.2.2.2.1, (f3 b hb).1.2.1, (f3 b hb).1.2.2.2.2.1, (f3 b hb).1.2.2.2.2.2⟩
      have nC : M5 z3.heap.objs.size = none := cl ▸ (show M5 ce.locals = none from J6.free)
      obtain ⟨mm, hn, _⟩ := J6.loc
      have hn : z6.heap.Ns z3.heap.objs.size mm := cl ▸ (show z6.heap.Ns ce.locals mm from hn)
      refine ⟨mm, hn, fun h9 sb => ?_⟩
      obtain ⟨a0, a1, _, a3, a4, a5⟩ := J3.fpOk (Nat.le_refl _) nC
      exact ⟨.ref Z, M5, J7.turned (t' := z6.toks) (fun b o nb e => (sb.2 b nb).trans e) a0 a1 a3 a4 a5, rfl, qq⟩
    · refine thnF (T.item (X.blk z3 M3 scope ce fp) rfl rfl rfl calm i [] z5 _ M5 (fun _ _ => False) J5 (still J5 n5) st5 go) fun r z6 ⟨u, er, h6⟩ => ?_
      subst er
      refine thnF h6 fun _ z7 ⟨x, M7, J7, r7, y7, st7, n7⟩ => ?_
      refine thnF (pg.run _ z7 _ M7 x u _ (J7.pinned (still J7 n7) (T.obj _ _ st7)) r7 (step x M7 y7)) fun _ z8 ⟨τ, M8, J8, hw8, q8⟩ => ?_
      refine thnF (pt.run _ z8 τ M8 _ J8 q8) fun b z9 ⟨M9, J9, q9⟩ => ?_
      have fin : ∀ {z' : Shared} {M' : Hp}, Inv (X.blk z3 M3 scope ce fp) ([] ++ pinsAt fp z7.heap) τ M' z' → Nx M' → ∃ m, m < n ∧ ∃ i M', Inv (X.blk z3 M3 scope ce fp) [] (wipe σ (own.map (·.2))) M' z' ∧ tn i z'.heap ∧ (∀ b ∈ fp, M' b = none) ∧ W i m M' := fun {z' M'} J' nx => by
        obtain ⟨m', lt, w'⟩ := hNx M' nx
        have pin' : ∀ b ∈ fp, ∀ o, z7.heap.get? b = some o → z'.heap.get? b = some o ∧ M' b = none := fun b hb o e =>
          let y := J'.pin (b, o) (List.mem_append_right _ (List.mem_append_right _ (mem_pinsAt hb e)))
          ⟨y.1, y.2.1⟩
        refine ⟨m', lt, i + 1, M', (J'.unpinned (pins := [])).weak (by rw [← hw8, wipe_length]) (fun j v e => (wipe_some (hw8 ▸ e)).1), T.keep _ _ _ st7 fun b hb o e => (pin' b hb o e).1, fun b hb => ?_, w'⟩
        obtain ⟨o, e, _⟩ := T.obj _ _ st7 b hb
        exact (pin' b hb o e).2
      cases b with
      | false =>
        simp only [Bool.false_eq_true, if_false] at q9 ⊢
        exact fin J9 q9
      | true =>
        simp only [if_true] at q9 ⊢
        refine thnF (pk.run _ z9 τ M9 _ J9 q9) fun ku z10 ⟨yk, M10, J10, r10, q10⟩ => thnF (pv'.run _ z10 τ M10 _ J10 q10) fun vu z11 ⟨yv, M11, J11, r11, kvs, k, kb, ek, hkb, hZ11, few, nx⟩ => ?_
        subst ek
        cases (show ku = Value.ref kb from r10)
        exact setT (X := X.blk z3 M3 scope ce fp) hu J11 hZ11 hkb few r11 fun z12 J12 => fin J12 nx
  exact codeAny_compStart_dict loop (T.self X.A 0 _ _ _ st4 loop)
end

/-! ### max(xs, default=d) of ints -/
theorem maxOf_ok : ∀ (xs : List Int) (x : Int), (PySem.W.maxOf x xs = x ∨ PySem.W.maxOf x xs ∈ xs) ∧ x ≤ PySem.W.maxOf x xs ∧ ∀ y ∈ xs, y ≤ PySem.W.maxOf x xs
  | [], x => ⟨.inl rfl, Int.le_refl _, fun y z => nomatch z⟩
  | y :: ys, x => by
    have e : PySem.W.maxOf x (y :: ys) = PySem.W.maxOf (if decide (x < y) = true then y else x) ys := rfl
    rw [e]
    by_cases h : x < y
    · rw [decide_eq_true h, if_pos rfl]
      obtain ⟨h1, h2, h3⟩ := maxOf_ok ys y
      refine ⟨.inr (h1.elim (fun z => by rw [z]; exact List.mem_cons_self) fun z => List.mem_cons_of_mem _ z), by omega, fun u mu => ?_⟩
      rcases List.mem_cons.mp mu with rfl | mu
      · exact h2
      · exact h3 u mu
    · rw [decide_eq_false h, if_neg (by decide)]
      obtain ⟨h1, h2, h3⟩ := maxOf_ok ys x
      refine ⟨h1.imp id fun z => List.mem_cons_of_mem _ z, h2, fun u mu => ?_⟩
      rcases List.mem_cons.mp mu with rfl | mu
      · omega
      · exact h3 u mu
def rMaxD (K : PySem.W.Frag) : List V → List V → Hp → VK → Prop := fun vs zs H Q => ∃ (a : Addr) (ns : List Int) (d : Int), vs = [V.ref a] ∧ zs = [.int d] ∧ SqL K H a (ns.map V.int) ∧ (ns = [] → Q (.int d) H) ∧ ∀ m, m ∈ ns → (∀ y, y ∈ ns → y ≤ m) → Q (.int m) H
theorem dp_ints71 {K : PySem.W.Frag} {H : Hp} : ∀ l : List Int, DpAll K H (l.map V.int) (l.map PyData.int)
  | [] => .nil
  | x :: l => .cons (.int x) (dp_ints71 l)
section
variable {X : Cx}
theorem cr_maxD (hc : X.calm = true) (hu : X.A.units + 65 < cLine) : CallRK X (.builtin "max") [Str.ofString "default"] (rMaxD X.K) := by
  intro pins s σ H vs zs us ws Q I r rz h
  obtain ⟨a, ns, d, rfl, rfl, hs, q0, q⟩ := h
  obtain ⟨its, rv, hl, _⟩ := I.list hs
  rw [Vals.ref1 r]
  obtain ⟨w1, rfl, t1, rfl⟩ := vals1 rz
  obtain ⟨as, rd⟩ := Dp.readsAll I (ns.map PyData.int) _ its (dp_ints71 ns) rv
  refine PySem.W.max_list_datum_default (α := Int) (xs := ns) (vs := its.toArray) (d := Value.int d t1) (I.ok.hd hc) hl.isList ⟨as, rd⟩ (by show X.A.units + 1 + 0 < cLine; omega) (fun e h' tk hk => ⟨.int d, H, I.kept hk, ⟨_, rfl⟩, q0 e⟩) fun y ys i v h' tk e hi hh hk => ?_
  obtain ⟨bs, rb⟩ := hh
  have hm : ∃ t, v = Value.int (PySem.W.maxOf y ys) t := by
    cases rb with
    | int => exact ⟨_, rfl⟩
  obtain ⟨t, rfl⟩ := hm
  obtain ⟨h1, h2, h3⟩ := maxOf_ok ys y
  refine ⟨.int _, H, I.kept hk, ⟨_, rfl⟩, q _ ?_ fun u mu => ?_⟩
  · rw [e]
    exact h1.elim (fun z => by rw [z]; exact List.mem_cons_self) fun z => List.mem_cons_of_mem _ z
  · rw [e] at mu
    rcases List.mem_cons.mp mu with rfl | mu
    · exact h2
    · exact h3 u mu
end

/-! ### zip of a list and a tuple -/
def ItzM (K : PySem.W.Frag) (a b : Addr) : It :=
  ⟨fun i H => ∃ (xs ys : List V) (x y : V), SqL K H a xs ∧ SqT K H b ys ∧ xs[i]? = some x ∧ ys[i]? = some y,
    fun i H v H' => ∃ (T : Addr) (x y : V), v = .ref T ∧ H T = none ∧ H' = upd H T (.tup [x, y]) ∧ (∀ xs, SqL K H a xs → xs[i]? = some x) ∧ ∀ ys, SqT K H b ys → ys[i]? = some y,
    fun i H => ∃ xs ys : List V, SqL K H a xs ∧ SqT K H b ys ∧ i ≤ xs.length ∧ i ≤ ys.length ∧ (i = xs.length ∨ i = ys.length)⟩
theorem zip_sepM {z TI TO i1 i2 a b : Addr} (D : ZipApart z TI TO i1 i2 a b) : ZipSep2 z TI TO i1 i2 [i1, a] [i2, b] where
  TIz := D.TIz
  TOz := D.TOz
  TITO := D.TITO
  TIi1 := D.TIi1
  mem1 := List.mem_cons_self
  zf1 := fun h => by
    rcases List.mem_cons.mp h with e | e
    · exact D.i1z e.symm
    · exact D.l1z (List.mem_singleton.mp e).symm
  Tf1 := fun h => by
    rcases List.mem_cons.mp h with e | e
    · exact D.TOi1 e
    · exact D.l1TO (List.mem_singleton.mp e).symm
  TIi2 := D.TIi2
  mem2 := List.mem_cons_self
  zf2 := fun h => by
    rcases List.mem_cons.mp h with e | e
    · exact D.i2z e.symm
    · exact D.l2z (List.mem_singleton.mp e).symm
  Tf2 := fun h => by
    rcases List.mem_cons.mp h with e | e
    · exact D.TOi2 e
    · exact D.l2TO (List.mem_singleton.mp e).symm
  sep1_2 := fun h => by
    rcases List.mem_cons.mp h with e | e
    · exact D.i12 e
    · exact D.l2i1 (List.mem_singleton.mp e).symm
  sep2_1 := fun h => by
    rcases List.mem_cons.mp h with e | e
    · exact D.i12 e.symm
    · exact D.l1i2 (List.mem_singleton.mp e).symm
structure ZipGoM (z TI TO i1 i2 a b : Addr) (i : Nat) (h : Heap) : Prop where
  zp : IsZip h z TI TO .none
  ins : IsPair h TI (.ref i1) (.ref i2)
  out : ∃ p : Value × Value, IsPair h TO p.1 p.2
  lst : h.IsListIter i1 a i
  tup : h.IsTupleIter i2 b i
theorem fiveM {z TI TO i1 i2 c : Addr} {Pr : Addr → Prop} (h : c ∈ [z, TI, TO, i1, i2]) (pz : Pr z) (pI : Pr TI) (pO : Pr TO) (p1 : Pr i1) (p2 : Pr i2) : Pr c := by
  simp only [List.mem_cons, List.not_mem_nil, or_false] at h
  rcases h with rfl | rfl | rfl | rfl | rfl
  all_goals assumption
theorem apart5M {z TI TO i1 i2 c : Addr} (h : c ∉ [z, TI, TO, i1, i2]) : c ≠ z ∧ c ≠ TO ∧ c ≠ i1 ∧ c ≠ i2 := by
  simp only [List.mem_cons, List.not_mem_nil, or_false, not_or] at h
  exact ⟨h.1, h.2.2.1, h.2.2.2.1, h.2.2.2.2⟩
section
variable {z TI TO i1 i2 a b : Addr} {i : Nat} {h h' : Heap}
theorem ZipGoM.obj (g : ZipGoM z TI TO i1 i2 a b i h) {c : Addr} (hc : c ∈ [z, TI, TO, i1, i2]) : ∃ o, h.get? c = some o ∧ ∀ v, o.data ≠ .cell v := by
  obtain ⟨p, hp⟩ := g.out
  obtain ⟨oa, ea, _, da⟩ := g.lst
  obtain ⟨ob, eb, _, db⟩ := g.tup
  refine fiveM (Pr := fun c => ∃ o, h.get? c = some o ∧ ∀ v, o.data ≠ .cell v) hc ⟨_, g.zp, ?_⟩ ⟨_, g.ins, ?_⟩ ⟨_, hp, ?_⟩ ⟨oa, ea, ?_⟩ ⟨ob, eb, ?_⟩
  · intro v e; cases e
  · intro v e; cases e
  · intro v e; cases e
  · intro v e; rw [da] at e; cases e
  · intro v e; rw [db] at e; cases e
theorem ZipGoM.lt (g : ZipGoM z TI TO i1 i2 a b i h) {c : Addr} (hc : c ∈ [z, TI, TO, i1, i2]) : c < h.objs.size := by
  obtain ⟨o, e, _⟩ := g.obj hc
  exact Heap.lt_size e
theorem ZipGoM.on (g : ZipGoM z TI TO i1 i2 a b i h) (k : ∀ c ∈ [z, TI, TO, i1, i2], ∀ o, h.get? c = some o → h'.get? c = some o) : ZipGoM z TI TO i1 i2 a b i h' := by
  obtain ⟨p, hp⟩ := g.out
  exact ⟨k z (by simp) _ g.zp, k TI (by simp) _ g.ins, ⟨p, k TO (by simp) _ hp⟩, g.lst.at (k i1 (by simp)), g.tup.at (k i2 (by simp))⟩
end
theorem turn_zipM {P : Program} {w : World} {K : PySem.W.Frag} {elts : List Expr} {kk : Nat} {tpos : Pos} {a b z TI TO i1 i2 : Addr} (D : ZipApart z TI TO i1 i2 a b) :
    Turn P w K (.Tuple elts kk tpos) (ItzM K a b) [z, TI, TO, i1, i2] z (ZipGoM z TI TO i1 i2 a b) where
  mem := List.mem_cons_self
  obj := fun _ _ g _ hc => g.obj hc
  keep := fun _ _ _ g k => g.on k
  item := by
    intro X eP ew eK calm n pins s σ H E I fps g go
    subst eP ew eK
    obtain ⟨xs, ys, x, y, txs, tys, ex, ey⟩ := go
    obtain ⟨vx, relx, lstAt, _⟩ := I.list txs
    obtain ⟨vs, rel, tupAt, _⟩ := I.tuple tys
    obtain ⟨u1, eu1, ru1⟩ := relx.get ex
    obtain ⟨u, eu, ru⟩ := rel.get ey
    obtain ⟨p, hp⟩ := g.out
    have zlt := g.lt (c := z) (by simp)
    have n1 : n < vx.toArray.size := by simpa using (List.getElem?_eq_some_iff.mp eu1).1
    have n2 : n < vs.toArray.size := by simpa using (List.getElem?_eq_some_iff.mp eu).1
    have calmA : X.A.in1.handled = none := I.ok.hd calm
    refine wpAny_pyNext_zipD2_item (zip_sepM D) (Draws.list calmA i1 a D.l1i1 vx.toArray) (Draws.tuple calmA i2 b D.l2i2 vs.toArray) g.zp g.ins hp ⟨g.lst, lstAt.isList⟩ ⟨g.tup, tupAt⟩ n1 n2 fun v1 v2 h1 tk P1 P2 zp1 out1 lst1 tup1 new1 _ kept1 => ?_
    obtain rfl : u1 = v1 := Option.some.inj (eu1.symm.trans (by simpa using P1))
    obtain rfl : u = v2 := Option.some.inj (eu.symm.trans (by simpa using P2))
    refine ⟨_, rfl, wpAny_letOwnedTupleGo_zip (s := { s with heap := h1, toks := tk }) zp1 fun h2 zp2 sb => ?_⟩
    have up : ∀ d, d ≠ z → h2.get? d = h1.get? d := fun d nd => sb.2 d nd
    have kept2 : ∀ d o, d ∉ [z, TI, TO, i1, i2] → s.heap.get? d = some o → h2.get? d = some o := fun d o nd e => by
      obtain ⟨a1, a2, a3, a4⟩ := apart5M nd
      rw [up d a1]
      exact kept1 d o a1 a2 a3 a4 e
    have new2 : h2.get? s.heap.objs.size = some { cls := .type "tuple", data := .seq #[u1, u] } := (up _ (Nat.ne_of_gt zlt)).trans new1
    have I2 := I.turnedNew (t' := tk) (ch := [z, TI, TO, i1, i2]) (ob := .tup [x, y]) kept2 fps (Nat.le_refl _) ⟨show 2 ≤ sizeLine by decide, [u1, u], .cons ru1 (.cons ru .nil), ⟨_, new2, rfl, _, rfl⟩⟩
    refine ⟨.ref s.heap.objs.size, _, I2, rfl, ⟨_, x, y, rfl, I.hok.fresh (Nat.le_refl _), rfl, fun l tl => (I.list_inj tl txs) ▸ ex, fun l tl => (I.tuple_inj tl tys) ▸ ey⟩, ⟨zp2, ?_, ⟨(_, _), (up _ D.TOz).trans out1⟩, lst1.1.at fun o e => (up _ D.i1z).trans e, tup1.1.at fun o e => (up _ D.i2z).trans e⟩, fun d hd => ?_⟩
    · exact (up _ D.TIz).trans (kept1 TI _ D.TIz D.TITO D.TIi1 D.TIi2 g.ins)
    · rw [upd_ne (Nat.ne_of_lt (g.lt hd))]
      exact (fps d hd).1
  done := by
    intro X eP ew eK calm n pins s σ H E I fps g stop
    subst eP ew eK
    obtain ⟨xs, ys, txs, tys, le1, le2, last⟩ := stop
    obtain ⟨vx, relx, lstAt, _⟩ := I.list txs
    obtain ⟨vs, rel, tupAt, _⟩ := I.tuple tys
    obtain ⟨p, hp⟩ := g.out
    have lx : vx.toArray.size = xs.length := by simpa using relx.length.symm
    have lv : vs.toArray.size = ys.length := by simpa using rel.length.symm
    have calmA : X.A.in1.handled = none := I.ok.hd calm
    refine wpAny_pyNext_zipD2_end (zip_sepM D) (Draws.list calmA i1 a D.l1i1 vx.toArray) (Draws.tuple calmA i2 b D.l2i2 vs.toArray) g.zp g.ins hp ⟨g.lst, lstAt.isList⟩ ⟨g.tup, tupAt⟩ (by omega) (by omega) (by omega) fun h1 tk kept1 => ⟨rfl, ?_⟩
    refine I.turnedL (t' := tk) (ch := [z, TI, TO, i1, i2]) (fun d o nd e => ?_) fps
    obtain ⟨a1, a2, a3, a4⟩ := apart5M nd
    exact kept1 d o a1 a2 a3 a4 e
  self := fun _ _ _ _ _ g q => wpAny_pyIter_zip g.zp q
def iZipM (K : PySem.W.Frag) (ta : TA) : TI := fun σ H R => ta σ H fun vs H1 => ∃ a b xs ys, vs = [.ref a, .ref b] ∧ SqL K H1 a xs ∧ SqT K H1 b ys ∧ R (ItzM K a b) H1
theorem pi_zipM {X : Cx} {ea eb : Expr} {ta : TA} {p pos tpos : Pos} {elts : List Expr} {kk : Nat} (gl : Gl X "zip") (own : X.mg "zip" = none) (args : PA X [ea, eb] ta)
    (star : starEach [ea, eb] X.env = (false, eval ea X.env) :: starEach [eb] X.env := by rfl) (plain : (backTo pos (starEach [eb] X.env)).any (·.1) = false := by rfl) :
    PI X (.Tuple elts kk tpos) (.Call (.Name "zip" p) [ea, eb] [] pos) (iZipM X.K ta) := by
  constructor
  intro pins s σ H R I q
  refine Call_ (ld_blt I gl own PyProof.Rows.boot_zip (PyProof.Rows.callWith_type1 ?_ star plain))
  refine thn (args.run pos pins s σ H _ I q) fun us s1 ans => ?_
  obtain ⟨vs, H1, J, rel, a, b, xs, ys, rfl, txs, tys, go⟩ := ans
  obtain ⟨u1, u2, rfl, r1, r2⟩ := vals2 rel
  obtain rfl : u1 = Value.ref a := r1
  obtain rfl : u2 = Value.ref b := r2
  obtain ⟨itx, _, lstAt, _⟩ := J.list txs
  obtain ⟨its, _, tupAt, _⟩ := J.tuple tys
  have alt : a < s1.heap.objs.size := lstAt.lt
  have blt : b < s1.heap.objs.size := by
    obtain ⟨_, e, _⟩ := id tupAt
    exact Heap.lt_size e
  have fresh : ∀ c, s1.heap.objs.size ≤ c → FpOk X pins H1 c := fun c le => J.fpOk le (J.hok.fresh le)
  refine zip_begins2 (begins_list a itx.toArray) (begins_tuple b its.toArray) lstAt.isList tupAt fun h2 zp ins out o1 o2 _ kept => wpAny_pyIter_zip zp ?_
  refine ⟨_, [s1.heap.objs.size + 4, s1.heap.objs.size + 2, s1.heap.objs.size + 3, s1.heap.objs.size, s1.heap.objs.size + 1], _, _, H1, rfl, J.kept (t' := s1.toks) kept, turn_zipM (PySem.W.ktu_apart s1.heap.objs.size a b alt blt), ?_, fun c hc => ?_, go⟩
  · exact ⟨zp, ins, ⟨(_, _), out⟩, ⟨_, o1, rfl, rfl⟩, ⟨_, o2, rfl, rfl⟩⟩
  · exact fiveM (Pr := FpOk X pins H1) hc (fresh _ (by omega)) (fresh _ (by omega)) (fresh _ (by omega)) (fresh _ (by omega)) (fresh _ (by omega))
theorem walk_zipM {K : PySem.W.Frag} {a b : Addr} {xs ys : List V} {n : Nat} (hn : n = min xs.length ys.length) : Walk (ItzM K a b) n (fun H => SqL K H a xs ∧ SqT K H b ys) (YPair (fun i => xs[i]?) (fun i => ys[i]?)) := by
  subst hn
  refine ⟨fun i _ hi q => ?_, fun _ q => ⟨xs, ys, q.1, q.2, by omega, by omega, by omega⟩, fun i H v H' _ q y => ?_⟩
  · have h1 : i < xs.length := by omega
    have h2 : i < ys.length := by omega
    exact ⟨xs, ys, xs[i], ys[i], q.1, q.2, by simp [h1], by simp [h2]⟩
  · obtain ⟨T, x, z, h1, h2, h3, h4, h5⟩ := y
    exact ⟨T, x, z, h1, h2, h3, h4 xs q.1, h5 ys q.2⟩
theorem sl_tupAK {X : Cx} {K : PySem.W.Frag} (hK : X.K = K) : SlR X (rSlA K) := by
  subst hK
  exact sl_tupA

/-! ### list.remove of an int -/
def rRemI : V → List V → Hp → VK → Prop := fun x xs H Q => ∃ (l : Addr) (e : Int) (ns : List Int), x = V.ref l ∧ xs = [.int e] ∧ H l = some (.lst (ns.map V.int)) ∧ e ∈ ns ∧ Q .non (upd H l (.lst ((ns.erase e).map V.int)))
theorem plain_ints71 : ∀ ns : List Int, PyData.plainAll (ns.map PyData.int) = true
  | [] => rfl
  | n :: r => by
    show (PyData.plain (.int n) && PyData.plainAll (r.map PyData.int)) = true
    rw [plain_ints71 r]
    rfl
theorem erase_at {e : Int} : ∀ {ns : List Int}, e ∈ ns → ∃ j, (ns.map PyData.int).findIdx? (fun z => PyData.eqv z (.int e)) = some j ∧ (ns.map V.int).eraseIdx j = (ns.erase e).map V.int
  | n :: r, h => by
    by_cases c : n = e
    · subst c
      refine ⟨0, ?_, ?_⟩
      · rw [List.map_cons, List.findIdx?_cons, if_pos (by simp [PyData.eqv])]
      · rw [List.erase_cons_head]
        rfl
    · obtain ⟨j, h1, h2⟩ := erase_at ((List.mem_cons.mp h).resolve_left fun z => c z.symm)
      refine ⟨j + 1, ?_, ?_⟩
      · rw [List.map_cons, List.findIdx?_cons, if_neg (by simp [PyData.eqv, c]), h1]
        rfl
      · rw [List.erase_cons_tail (by simpa using c), List.map_cons, List.map_cons, List.eraseIdx_cons_succ, h2]
section
variable {X : Cx}
theorem mt_removeI (hu : X.A.units + 65 < cLine) : MtR X "list.remove" rRemI := by
  intro pins s σ H x xs v us Q I rx rxs hh
  obtain ⟨l, e, ns, rfl, rfl, hl, me, q⟩ := hh
  obtain rfl : v = Value.ref l := rx
  obtain ⟨w, rfl, ry⟩ := vals1 rxs
  obtain ⟨z, its, n, r, le, eo⟩ := I.lstM hl
  obtain ⟨j, hj, ej⟩ := erase_at me
  obtain ⟨as, rds⟩ := Dp.readsAll I (ns.map PyData.int) _ its (dp_ints71 ns) r
  obtain ⟨bs, rdy⟩ := Dp.reads I (.int e) (.int e) w (.int e) ry
  refine SeqAt.remove_list_data (xs := ns.map PyData.int) (d := .int e) (j := j) ⟨_, eo, rfl, _, rfl⟩ rds rdy (plain_ints71 ns) rfl (by have := Nat.min_le_right (PyData.depthAll (ns.map PyData.int)) (PyData.int e).depth; have h0 : (PyData.int e).depth = 0 := rfl; omega) hj (by rw [List.size_toArray, ← le]; exact z) ?_
  rw [← ej] at q
  refine ⟨.non, _, I.lset (its' := its.eraseIdx j) hl eo ?_ (r.eraseIdx j) ?_, rfl, q⟩
  · rw [List.eraseIdxIfInBounds_toArray]
  · exact Nat.le_trans (List.length_eraseIdx_le _ _) z
end

end My
namespace My
open PySem PySem.Spec PyProof.Rows L2
/-! ### max(xs, key=lambda p: ..) of ints -/
theorem best_ok (kf : Nat → Int) : ∀ n : Nat, PySem.argBest (fun i j => decide (kf i > kf j)) n ≤ n ∧ ∀ j, j ≤ n → kf j ≤ kf (PySem.argBest (fun i j => decide (kf i > kf j)) n) ∧ (j < PySem.argBest (fun i j => decide (kf i > kf j)) n → kf j < kf (PySem.argBest (fun i j => decide (kf i > kf j)) n))
  | 0 => ⟨Nat.le_refl _, fun j hj => by
    obtain rfl : j = 0 := by omega
    exact ⟨Int.le_refl _, fun z => absurd z (Nat.lt_irrefl _)⟩⟩
  | n + 1 => by
    obtain ⟨h1, h2⟩ := best_ok kf n
    unfold PySem.argBest
    try dsimp only
    by_cases c : kf (n + 1) > kf (PySem.argBest (fun i j => decide (kf i > kf j)) n)
    · rw [decide_eq_true c, if_pos rfl]
      refine ⟨Nat.le_refl _, fun j hj => ?_⟩
      by_cases e : j = n + 1
      · rw [e]
        exact ⟨Int.le_refl _, fun z => absurd z (Nat.lt_irrefl _)⟩
      · have := (h2 j (by omega)).1
        exact ⟨by omega, fun _ => by omega⟩
    · rw [decide_eq_false c, if_neg (by decide)]
      refine ⟨by omega, fun j hj => ?_⟩
      by_cases e : j = n + 1
      · rw [e]
        exact ⟨by omega, fun z => by omega⟩
      · exact h2 j (by omega)
theorem vals_get71 : ∀ {xs : List V} {us : List Value}, Vals xs us → ∀ {i : Nat} {u : Value}, us[i]? = some u → ∃ x, xs[i]? = some x ∧ RelV x u
  | _, _, .nil, i, u, h => by
    rw [List.getElem?_nil] at h
    cases h
  | _, _, .cons r _, 0, u, h => ⟨_, rfl, Option.some.inj h ▸ r⟩
  | _, _, .cons _ k, i + 1, u, h => vals_get71 k (i := i) h
def RMaxK (P : Addr) (qn : Str) (t : XK → TE) (σ : L2.St) (Q : VK) : List V → Hp → Prop
  | [v], H1 => ∃ (l : Addr) (ns : List Int) (g : Int → Int), v = .ref l ∧ H1 l = some (.lst (ns.map V.int)) ∧ ns ≠ [] ∧ LamX.TabS H1 P qn ∧ ∀ H2, But P H1 H2 → LamX.TabS H2 P qn →
    (∀ HL : Hp, (∀ b o, b ≠ l → H2 b = some o → HL b = some o) → ∀ x ∈ ns, t E0 (σ ++ [some (.int x)]) HL fun u H3 => u = .int (g x) ∧ H3 = HL) ∧ ∀ (m : Int) (i : Nat), ns[i]? = some m → (∀ (j : Nat) (y : Int), ns[j]? = some y → g y ≤ g m ∧ (j < i → g y < g m)) → Q (.int m) H2
  | _, _ => False
def tMaxK (N : List Str) (p : Str) (P : Addr) (qn : Str) (t : XK → TE) (te : TE) : TE := fun σ H Q => NoVal p N σ ∧ te σ H fun v H1 => RMaxK P qn t σ Q [v] H1
theorem pe_maxKey {X : Cx} {p : Str} {c P : Addr} {k : Nat} {params : Arguments} {b e : Expr} {scope : Scope} {t : XK → TE} {te : TE} {pp lpos pos kpos : Pos} (gl : Gl X "max") (mg : X.mg "max" = none) (calm : X.calm = true)
    (TB : LamX.TabB X.base X.mg c P) (own : X.env.code = .ref c) (room : Room (k + 2) X.A) (L : LamP X.env.scope scope p) (nodef : defaultsOf params X.env = ([], []))
    (bind : ∀ (q : Str) (cl : List (Str × Addr)) (pm cv ctv u : Value), bindArgs (PySem.W.kla_fn "<lambda>" q params b scope cl pm cv ctv) ⟨[u], []⟩ = pure [(p, u)])
    (body : ∀ (A : Around) (outer : List Env) (s : Shared) (H : Hp) (E : XK) (f c' : Addr), Room k (A.deeper (LamX.lamEnv X scope s.heap.objs.size f c')) → PE (cxP X A outer s H E scope p f c') b (t E)) (arg : PE X e te)
    (h0 : starEach [e] X.env = (false, eval e X.env) :: starEach [] X.env := by rfl) (h1 : backTo pos (starEach [e] X.env) = (false, eval e X.env) :: backTo pos (starEach [] X.env) := by rfl) (h2 : (backTo pos (starEach [e] X.env)).any (·.1) = false := by rfl)
    (h3 : (backToKw pos (keywordEach [⟨some "key", .Lambda params b scope lpos, kpos⟩] X.env)).all (·.1.isSome) = true := by rfl) (h4 : (backToKw pos (keywordEach [⟨some "key", .Lambda params b scope lpos, kpos⟩] X.env)).any (·.1.isNone) = false := by rfl)
    (h5 : (backToKw pos (keywordEach [⟨some "key", .Lambda params b scope lpos, kpos⟩] X.env)).filterMap (·.1) = [("key" : Str)] := by rfl) :
    PE X (.Call (.Name "max" pp) [e] [⟨some "key", .Lambda params b scope lpos, kpos⟩] pos) (tMaxK X.N p P (X.env.qual ++ "<lambda>") t te) := by
  constructor
  intro pins s σ H Q I h
  obtain ⟨np, h⟩ := h
  refine wpAny_Call_Name_kw (ld_blt I gl mg (show bootBuiltins "max" = some (.builtin "max") by decide +kernel) ?_)
  refine PyProof.Rows.callWith_kw (thn ((pa_cons arg pa_nil h0).run pos pins s σ H (RMaxK P (X.env.qual ++ "<lambda>") t σ Q) I h) fun us s1 z => ?_) h1 h2 h3 h4
  obtain ⟨vs, H1, I1, r1, z⟩ := z
  match vs, r1, z with
  | [], _, z => exact z.elim
  | _ :: _ :: _, _, z => exact z.elim
  | [v], r1, z =>
  obtain ⟨l, ns, g, rfl, hl, ne, hT, h⟩ := z
  obtain rfl := Vals.ref1 r1
  rw [h5]
  show wpAny _ _ (evalAll [do let v ← eval (.Lambda params b scope lpos) X.env; standAt pos; pure v]) _ _ s1
  refine wpAny_evalAll_cons (wpAny_bind (lam_new I1 TB own hT nodef (fun y hy z => L.has I1.ok hy z) fun f c' pm' ctv H2 s2 I2 ext T2 hf hfn hfr hco => wpAny_bind (wpAny_standAt (wpAny_pure (wpAny_evalAll_nil ?_)))))
  show wpAny _ _ (call (.builtin "max") [.ref l] [(Str.ofString "key", .ref f)]) _ _ s2
  obtain ⟨hk, hq⟩ := h H2 ext T2
  have lP : l ≠ P := by
    obtain ⟨ps, hp, _⟩ := hT
    exact ne_of hl hp (by intro z; cases z)
  have hl2 : H2 l = some (.lst (ns.map V.int)) := ext _ _ hl lP
  have nofrz := I2.nofrz hl2 trivial
  obtain ⟨od, J2⟩ := I2.lock hl2 trivial
  have hL : upd H2 l (.frz od (.lst (ns.map V.int))) l = some (.frz od (.lst (ns.map V.int))) := upd_same
  have oth : ∀ b o, b ≠ l → H2 b = some o → upd H2 l (.frz od (.lst (ns.map V.int))) b = some o := fun b o nb e => by
    rw [upd_ne nb]
    exact e
  have back : upd (upd H2 l (.frz od (.lst (ns.map V.int)))) l (.lst (ns.map V.int)) = H2 := by
    rw [upd_upd]
    funext b
    by_cases e : b = l
    · rw [e, upd_same, hl2]
    · rw [upd_ne e]
  have nof : ∀ {a : Addr}, H2 a = none → upd H2 l (.frz od (.lst (ns.map V.int))) a = none := fun {a} e => by
    rw [upd_ne fun z => by rw [z, hl2] at e; cases e]
    exact e
  have hfn2 := nof hfn
  have hco2 : upd H2 l (.frz od (.lst (ns.map V.int))) c' = some (LamX.CodeO c' (X.env.qual ++ "<lambda>")) := oth _ _ (ne_of hco hl2 (by intro z; cases z)) hco
  have hk := hk _ oth
  generalize upd H2 l (.frz od (.lst (ns.map V.int))) = HL at J2 hL back hfn2 hco2 hk nof
  obtain ⟨its, rel, plain, _⟩ := J2.list (xs := ns.map V.int) (.inl (.inr ⟨od, hL⟩))
  have isl := plain.isList
  have hh : X.A.handled = none := J2.ok.hd calm
  have lnew : ∀ a, s2.heap.objs.size ≤ a → HL a = none := fun a ha => J2.hok.fresh ha
  have llt : l < s2.heap.objs.size := by
    obtain ⟨o, _, ho, _⟩ := plain
    exact Heap.lt_size ho
  have flt : f < s2.heap.objs.size := Heap.lt_size hf
  have fpI : FpOk X pins HL s2.heap.objs.size := J2.fpOk (Nat.le_refl _) (lnew _ (Nat.le_refl _))
  have fpS : FpOk X pins HL (s2.heap.objs.size + 1) := J2.fpOk (Nat.le_succ _) (lnew _ (Nat.le_succ _))
  have nfs : ∀ {a : Addr}, s2.heap.objs.size ≤ a → a ∉ frs X.stack := fun {a} le m => by
    rcases List.mem_cons.mp (J2.stkSub _ m) with e | e
    · have lt := J2.lt
      rw [← e] at lt
      exact absurd (Nat.lt_of_lt_of_le lt le) (Nat.lt_irrefl _)
    · exact J2.nofs le e
  have lsz : its.length = ns.length := by
    rw [← rel.length, List.length_map]
  have kit : ∀ {i : Nat} {v : Value}, its.toArray[i]? = some v → ∃ x t, ns[i]? = some x ∧ v = .int x t := fun {i v} e => by
    rw [List.getElem?_toArray] at e
    obtain ⟨x, hx, rx⟩ := vals_get71 rel e
    rw [List.getElem?_map] at hx
    obtain ⟨y, hy, rfl⟩ := Option.map_eq_some_iff.mp hx
    obtain ⟨t, rfl⟩ := rx
    exact ⟨y, t, hy, rfl⟩
  refine PySem.call_max_walkK (PySem.wpAny_pyIter_list isl ?_)
  have W := (PySem.Walks.list (prog := X.prog) (w := X.w) (A := X.A.in1) hh s2.heap.objs.size l (Nat.ne_of_lt llt) its.toArray).toS
  have grow : ∀ b o, s2.heap.get? b = some o → (s2.heap.push { cls := .type "list_iterator", data := .fields #[.ref l, .int 0 0] }).get? b = some o := fun _ _ e => Heap.get?_push_of_some _ e
  have size1 : (s2.heap.push { cls := .type "list_iterator", data := .fields #[.ref l, .int 0 0] }).objs.size = s2.heap.objs.size + 1 := by
    show (s2.heap.objs.push _).size = _
    rw [Array.size_push]
  refine ⟨s2.heap.objs.size, [s2.heap.objs.size, l], [s2.heap.objs.size], fun a b => b = a, its.toArray.size, _, _, fun s => Inv X pins σ HL s ∧ s.heap.get? f = some (PySem.W.kla_obj "<lambda>" (X.env.qual ++ "<lambda>") params b scope (cloFrom X.env.cells scope.names []) pm' c' ctv), fun i u _ => ∃ t, u = .int (g (ns.getD i 0)) t, fun i j => decide (g (ns.getD i 0) > g (ns.getD j 0)), rfl, W, ?_, ?_, ?_, ?_, ?_, ?_⟩
  · refine ⟨⟨{ cls := .type "list_iterator", data := .fields #[.ref l, .int 0 0] }, Heap.get?_push_size _ rfl, rfl, rfl⟩, ?_⟩
    exact isl.at fun o e => grow l o e
  · intro b hb
    have lt : b < s2.heap.objs.size + 1 := by
      rcases List.mem_cons.mp hb with e | hb
      · rw [e]
        exact Nat.lt_succ_self _
      · rw [List.mem_singleton.mp hb]
        exact Nat.lt_succ_of_lt llt
    rw [← size1] at lt
    exact lt
  · rw [List.size_toArray, lsz]
    exact List.length_pos_iff.mpr ne
  · show PySem.KeyRun X.prog X.w X.A.in1 (.ref f) .Gt (s2.heap.push _).objs.size _ _ _ _ _ _ _ _
    rw [size1]
    refine ⟨fun s s' z mv => ?_, fun i u s s' z _ => z, fun i u s o Q' E' hi hu z st hS k' => ?_, fun i j ki kj s Q' E' _ vi vj q => ?_⟩
    · obtain ⟨K1, hf1⟩ := z
      obtain ⟨hp, ge, dr, tk, os⟩ := s
      obtain ⟨hp', ge', dr', tk', os'⟩ := s'
      obtain ⟨m1, m2, m3, m4, m5⟩ := mv
      dsimp only at m1 m2 m3 m4 m5 hf1
      subst m2 m3 m4
      have keepAll : ∀ b o, b ∉ [s2.heap.objs.size + 1, s2.heap.objs.size] → hp.get? b = some o → hp'.get? b = some o := m1
      refine ⟨K1.turnedL (h' := hp') (t' := tk') (ch := [s2.heap.objs.size + 1, s2.heap.objs.size]) keepAll fun b hb => ?_, keepAll f _ (fun m => ?_) hf1⟩
      · rcases List.mem_cons.mp hb with rfl | hb
        · exact fpS
        · rw [List.mem_singleton.mp hb]
          exact fpI
      · rcases List.mem_cons.mp m with e | m
        · rw [e] at flt
          exact absurd (Nat.lt_of_succ_lt flt) (Nat.lt_irrefl _)
        · rw [List.mem_singleton.mp m] at flt
          exact absurd flt (Nat.lt_irrefl _)
    · obtain ⟨K1, hf1⟩ := z
      obtain ⟨x, t1, hx, rfl⟩ := kit hu
      have gx : ns.getD i 0 = x := by
        rw [List.getD_eq_getElem?_getD, hx]
        rfl
      have run := lamP_run (X := X) (A := X.A.in1) (outer := X.stack) (E := E0) (k := k) (pm := pm') (ctv := ctv) (v := .int x) (u := .int x t1) (Q := fun u H3 => u = .int (g x) ∧ H3 = HL) K1 L (NoVal.at np) hf1 hfn2 hfr (fun u => bind _ _ _ _ _ u) room.in1 K1.env0.in1 Un.refl hco2 (fun A outer s H rm => body A outer s H _ f c' rm) ⟨t1, rfl⟩ (hk x (List.mem_of_getElem? hx))
      refine wpAny_call (codeAny_mono run fun res s3 z => ?_)
      cases res with
      | error er =>
        exfalso
        obtain ⟨_, _, _, _, _, _, _, _, _, _, _, _, z⟩ := z
        exact z
      | ok fl =>
        cases fl with
        | ret u' =>
          have z2 := z
          obtain ⟨v', H', os, bare, un, hok', rv, ev, eH⟩ := z2
          subst ev eH
          obtain ⟨t2, rfl⟩ := rv
          obtain ⟨v2, H2', K2, _, ev2, eH2⟩ := K1.after z
          subst eH2
          have live : ∀ {b : Addr} {o : Obj}, s2.heap.objs.size ≤ b → s.heap.get? b = some o → s3.heap.get? b = some o := fun {b o} le e => un.keep b o e (lnew b le) (nfs le) (fun z => nomatch z)
          refine k' _ s3 ⟨K2, un.keep f _ hf1 hfn2 hfr (fun z => nomatch z)⟩ ⟨st.1.at fun o e => live (Nat.le_refl _) e, st.2.at fun o e => ?_⟩ (live (Nat.le_succ _) hS) ⟨t2, by rw [gx]⟩ (fun j k' z => z)
          rw [(K1.hok l _ hL).1] at e
          rw [(K2.hok l _ hL).1]
          exact e
        | next => exact (show False from z).elim
        | brk => exact (show False from z).elim
        | cont => exact (show False from z).elim
    · obtain ⟨ti, rfl⟩ := vi
      obtain ⟨tj, rfl⟩ := vj
      exact CmpOf.ints_gt (prog := X.prog) (w := X.w) (A := X.A.in1) (P := fun i v => ∃ t, v = .int (g (ns.getD i 0)) t) (fun i => g (ns.getD i 0)) (fun i v h => h) i j _ _ s Q' E' ⟨ti, rfl⟩ ⟨tj, rfl⟩ q
  · exact ⟨J2.kept (h' := s2.heap.push { cls := .type "list_iterator", data := .fields #[.ref l, .int 0 0] }) (t' := s2.toks) grow, grow _ _ hf⟩
  · intro u s' hu z
    obtain ⟨K1, _⟩ := z
    obtain ⟨x, t1, hx, rfl⟩ := kit hu
    obtain ⟨b1, b2⟩ := best_ok (fun i => g (ns.getD i 0)) (its.toArray.size - 1)
    have K2 := K1.unlock hL nofrz
    rw [back] at K2
    have gx : ns.getD (PySem.argBest (fun i j => decide (g (ns.getD i 0) > g (ns.getD j 0))) (its.toArray.size - 1)) 0 = x := by
      rw [List.getD_eq_getElem?_getD, hx]
      rfl
    refine ⟨.int x, H2, K2, ⟨t1, rfl⟩, hq x _ hx fun j y hy => ?_⟩
    have jl := (List.getElem?_eq_some_iff.mp hy).1
    have gy : ns.getD j 0 = y := by
      rw [List.getD_eq_getElem?_getD, hy]
      rfl
    have z := b2 j (by rw [List.size_toArray, lsz]; omega)
    rw [gx, gy] at z
    exact z

end My
namespace My
open PySem PySem.Spec PyProof.Rows L2
/-! ### dicts with tuple keys: their values walked, listed; del d[k] -/
theorem frzTV {X : Cx} {pins : List (Addr × Obj)} {σ : L2.St} {H : Hp} {s : Shared} {d : Addr} {o : Obj} {kvs : List (List Key × V)} (I : Inv X pins σ H s) (h : H d = some (.frz o (.dT kvs))) :
    (d == sysModules) = false ∧ s.heap.get? d = some o ∧ o.ExactDict ∧ ∃ (es : Array DictEntry) (ep : Nat), o.data = .dict es ep ∧ es.size = kvs.length ∧ ∀ (i : Nat) (k : List Key) (v : V), kvs[i]? = some (k, v) → ∃ en : DictEntry, es[i]? = some en ∧ RelV v en.val := by
  obtain ⟨hd, z, hs, xs, pr, o', es, ep, ho, hx, hdt, he, _⟩ := I.hok d _ h
  rw [hd] at ho
  cases ho
  refine ⟨hs, hd, hx, es, ep, hdt, ?_, fun i k v e => ?_⟩
  · have l1 : es.size = xs.length := size_of_entries he
    have l2 : kvs.length = xs.length := Paired.length pr
    omega
  · obtain ⟨b, hb, _, _, rv⟩ := L2.paired_get pr e
    have q := entry_at he i
    rw [hb] at q
    exact ⟨_, q, rv⟩
/-- the values of the locked dict at d, in their order -/
def Itvt (d : Addr) (o : Obj) (kvs : List (List Key × V)) : It :=
  ⟨fun i H => H d = some (.frz o (.dT kvs)) ∧ i < kvs.length, fun i H x H' => H' = H ∧ ∃ k, kvs[i]? = some (k, x), fun i H => H d = some (.frz o (.dT kvs)) ∧ kvs.length ≤ i⟩
theorem turn_valsT {P : Program} {w : World} {K : PySem.W.Frag} {tg : Expr} {d : Addr} {o : Obj} {es : Array DictEntry} {ep : Nat} {kvs : List (List Key × V)} (it : Addr) (hod : o.data = .dict es ep) (hes : es.size = kvs.length) (hx : o.ExactDict) : Turn P w K tg (Itvt d o kvs) [it] it (fun i h => h.IsValIter it d i es.size ep) where
  mem := List.mem_singleton.mpr rfl
  obj := fun i h st b hb => by
    rw [List.mem_singleton.mp hb]
    obtain ⟨oi, e, c, dd⟩ := st
    exact ⟨oi, e, fun v z => by rw [dd] at z; cases z⟩
  keep := fun i h h' st k => st.at fun oi e => k it (List.mem_singleton.mpr rfl) oi e
  item := by
    intro X eP ew eK calm i pins s σ H E I hf st hg
    subst eP ew eK
    obtain ⟨hd, hi⟩ := hg
    obtain ⟨f0, f1, f2, f3, f4, f5⟩ := hf it (List.mem_singleton.mpr rfl)
    obtain ⟨_, hgd, _, es', ep', hdt, _, ent⟩ := frzTV I hd
    obtain ⟨rfl, rfl⟩ := dict_ep hod hdt
    have hkv : kvs[i]? = some kvs[i] := List.getElem?_eq_getElem hi
    obtain ⟨en, hen, rv⟩ := ent i _ _ hkv
    obtain ⟨il, ee⟩ := Array.getElem?_eq_some_iff.mp hen
    refine wpAny_pyNext_values_item_raw st ⟨o, hgd, hx, hod⟩ il fun h' st' sb => ?_
    rw [ee]
    have I1 : Inv X pins σ H { s with heap := h' } := I.turned (t' := s.toks) (fun b ob hb e => (sb.2 b hb).trans e) f0 f1 f3 f4 f5
    obtain ⟨oi, e, c, dd⟩ := id st'
    exact ⟨en.val, rfl, go_of (s := { s with heap := h' }) e c dd (by decide) ⟨_, H, I1, rv, ⟨rfl, _, hkv⟩, st', fun b hb => (hf b hb).1⟩⟩
  done := by
    intro X eP ew eK calm i pins s σ H E I hf st hg
    subst eP ew eK
    obtain ⟨hd, hi⟩ := hg
    obtain ⟨f0, f1, f2, f3, f4, f5⟩ := hf it (List.mem_singleton.mpr rfl)
    obtain ⟨_, hgd, _, es', ep', hdt, _, _⟩ := frzTV I hd
    obtain ⟨rfl, rfl⟩ := dict_ep hod hdt
    exact wpAny_pyNext_values_end_raw (I.ok.hd calm) st ⟨o, hgd, hx, hod⟩ (by omega) fun h' eb => ⟨rfl, I.turned (t' := s.toks) (fun b ob hb e => eb b ob hb e) f0 f1 f3 f4 f5⟩
  self := fun A i s Q E st h => wpAny_pyIter_valiter st h
def iValsT (td : TE) : TI := fun σ H R => td σ H fun x H1 => ∃ d o kvs, x = .ref d ∧ H1 d = some (.frz o (.dT kvs)) ∧ R (Itvt d o kvs) H1
section
variable {X : Cx} {tg e : Expr} {td : TE} {apos cpos : Pos}
theorem pi_valuesT (he : PE X e td) (hb : attributeBase e "values" X.env (eval e X.env) = eval e X.env := by rfl) (hl : (apos.endLine == cpos.line) = true := by rfl) : PI X tg (.Call (.Attribute e "values" apos) [] [] cpos) (iValsT td) := by
  refine ⟨fun pins s σ H R I h => ?_⟩
  refine wpAny_Call_method (T := "dict") (id := "dict.values") hb rfl hl F.plainAttrs_dict F.slot_dict_values F.type_dict_values (thn (he.run pins s σ H _ I h) fun u s1 z => ?_)
  obtain ⟨x, H1, I1, rx, d, o, kvs, rfl, hd, q⟩ := z
  obtain rfl : u = Value.ref d := rx
  obtain ⟨hs, hgd, hx, es, ep, hdt, hsz, _⟩ := frzTV I1 hd
  have raw : s1.heap.DictRaw d es ep := ⟨o, hgd, hx, hdt⟩
  refine ⟨raw.typeIs, fun b e => by cases e; exact ⟨o, hgd, hx.2.1⟩, ?_⟩
  have I2 : Inv X pins σ H1 { s1 with heap := s1.heap.push { cls := .type "dict_values", data := .fields #[.ref d] } } := I1.kept (t' := s1.toks) fun b ob q => Heap.get?_push_of_some _ q
  have fin : wpAny (model X.prog X.w) X.A (pyIter (.ref s1.heap.objs.size)) (PIE X pins σ tg R) X.xe { s1 with heap := s1.heap.push { cls := .type "dict_values", data := .fields #[.ref d] } } := by
    refine wpAny_pyIter_values_raw (d := d) (es := es) (ep := ep) ⟨_, Heap.get?_push_size _ rfl, rfl, rfl⟩ (raw.at fun o e => Heap.get?_push_of_some _ e) ?_
    exact pi_one (tk := s1.toks) I2 _ (turn_valsT _ hdt hsz hx) ⟨_, Heap.get?_push_size _ rfl, rfl, rfl⟩ q
  show wpAny _ _ (callWith cpos (.builtin "dict.values") [.ref d] [] []) _ X.xe s1
  exact method_meetsIn F.slot_dict_values F.entry_dict_values rfl (PySem.evalArgs_none ⟨rfl, raw.typeIs, F.args_dict_values_1 _, _, meets_dict_values_raw d hs, ⟨es, ep, raw⟩, fin⟩)
end
/-- a view of the values, told by an object of its own -/
def viewV (a d : Addr) : HO := .ext fun h => h.IsValuesView a d
/-- e.values(), kept as a view -/
def tValsT (td : TE) : TE := fun σ H Q => td σ H fun x H1 => ∃ d kvs, x = .ref d ∧ H1 d = some (.dT kvs) ∧ ∀ a, H1 a = none → Q (.ref a) (upd H1 a (viewV a d))
theorem viewV_ok {P : Program} {w : World} {H : Hp} {h : Heap} {a d : Addr} (e : h.get? a = some { cls := .type "dict_values", data := .fields #[.ref d] }) : ObjOk P w H h a (viewV a d) := by
  refine ⟨⟨_, e, rfl, rfl⟩, ⟨_, e⟩, ?_⟩
  rintro h1 h2 ⟨o, e1, c1, d1⟩ st
  exact ⟨o, st _ e1, c1, d1⟩
section
variable {X : Cx} {e : Expr} {td : TE} {apos cpos : Pos}
theorem pe_valsT (he : PE X e td) (hb : attributeBase e "values" X.env (eval e X.env) = eval e X.env := by rfl) (hl : (apos.endLine == cpos.line) = true := by rfl) : PE X (.Call (.Attribute e "values" apos) [] [] cpos) (tValsT td) := by
  refine ⟨fun pins s σ H Q I h => ?_⟩
  refine wpAny_Call_method (T := "dict") (id := "dict.values") hb rfl hl F.plainAttrs_dict F.slot_dict_values F.type_dict_values (thn (he.run pins s σ H _ I h) fun u s1 z => ?_)
  obtain ⟨x, H1, I1, rx, d, kvs, rfl, hd, q⟩ := z
  obtain rfl : u = Value.ref d := rx
  obtain ⟨z, hs, xs, pr, o, es, ep, ho, hx, hdt, _⟩ := dt_of I1.hok hd
  have raw : s1.heap.DictRaw d es ep := ⟨o, ho, hx, hdt⟩
  refine ⟨raw.typeIs, fun b e => by cases e; exact ⟨o, ho, hx.2.1⟩, ?_⟩
  have nf : H1 s1.heap.objs.size = none := I1.hok.fresh (Nat.le_refl _)
  have I2 : Inv X pins σ (upd H1 s1.heap.objs.size (viewV s1.heap.objs.size d)) { s1 with heap := s1.heap.push { cls := .type "dict_values", data := .fields #[.ref d] } } := I1.laid (t' := s1.toks) (fun b ob q => Heap.get?_push_of_some _ q) (Nat.le_refl _) (viewV_ok (Heap.get?_push_size _ rfl))
  show wpAny _ _ (callWith cpos (.builtin "dict.values") [.ref d] [] []) _ X.xe s1
  exact method_meetsIn F.slot_dict_values F.entry_dict_values rfl (PySem.evalArgs_none ⟨rfl, raw.typeIs, F.args_dict_values_1 _, _, meets_dict_values_raw d hs, ⟨es, ep, raw⟩, ⟨.ref s1.heap.objs.size, _, I2, rfl, q _ nf⟩⟩)
/-- list(d.values()) -/
theorem call_list_valsT (calm : X.calm = true) : CallR X (.type "list") (fun xs H Q => ∃ (a d : Addr) (kvs : List (List Key × V)), xs = [V.ref a] ∧ H a = some (viewV a d) ∧ H d = some (.dT kvs) ∧ ∀ p, H p = none → Q (.ref p) (upd H p (.lst (kvs.map Prod.snd)))) := by
  intro pins s σ H xs us Q I r h
  obtain ⟨a, d, kvs, rfl, ha, hd, q⟩ := h
  obtain ⟨u, rfl, rx⟩ := r.one
  cases rx
  obtain ⟨z, hs, ks, pr, o, es, ep, ho, hx, hdt, he, hn⟩ := (show ObjOk X.prog X.w H s.heap d (.dT kvs) from I.hok d _ hd)
  have view : s.heap.IsValuesView a d := (I.hok a _ ha).1
  have l1 : es.size = ks.length := size_of_entries he
  have l2 : kvs.length = ks.length := Paired.length pr
  refine PySem.W.kdl_call (PySem.KdlSrc.rawValues (d := d) (es := es) (ep := ep)) (I.ok.hd calm) ⟨view, ⟨o, ho, hx, hdt⟩⟩ (by omega) fun h' tk acc' c' kp e it => ?_
  have rv : Vals (kvs.map Prod.snd) acc'.toList := by
    have each : ∀ (j : Nat) (v : Value), acc'.toList[j]? = some v → ∃ kv, kvs[j]? = some kv ∧ RelV kv.2 v := fun j v hj => by
      obtain ⟨hi, hv⟩ := it.2 j v (by rw [← Array.getElem?_toList]; exact hj)
      have jl : j < kvs.length := by omega
      have hkv : kvs[j]? = some kvs[j] := List.getElem?_eq_getElem jl
      obtain ⟨b, hb, _, _, rv⟩ := L2.paired_get pr hkv
      have qe := entry_at he j
      rw [hb, Array.getElem?_eq_getElem hi] at qe
      have e2 := Option.some.inj qe
      refine ⟨_, hkv, ?_⟩
      rw [hv, e2]
      exact rv
    have ln : acc'.toList.length = kvs.length := by
      rw [Array.length_toList, it.1]
      omega
    generalize acc'.toList = us at each ln
    clear pr l2 z hd q
    induction kvs generalizing us with
    | nil =>
      cases us with
      | nil => exact .nil
      | cons _ _ => exact nomatch ln
    | cons kv r ih =>
      cases us with
      | nil => exact nomatch ln
      | cons u us =>
        obtain ⟨kv', e1, rv⟩ := each 0 u rfl
        cases Option.some.inj e1
        exact .cons rv (ih us (fun j v hj => each (j + 1) v hj) (Nat.succ.inj ln))
  have hz : (kvs.map Prod.snd).length ≤ sizeLine := by rw [List.length_map]; omega
  refine ⟨.ref s.heap.objs.size, _, I.laid (t' := tk) (o := .lst (kvs.map Prod.snd)) kp (Nat.le_refl _) ?_, rfl, q _ (I.hok.fresh (Nat.le_refl _))⟩
  exact ⟨hz, acc'.toList, c', rv, by rw [Array.toArray_toList]; exact e⟩
end
/-- del d[k], k a tuple that is there -/
def sDDelT (td ty : TE) : TS := fun D σ H => td σ H fun x H1 => ty σ H1 fun y H2 => ∃ (a : Addr) (kvs : List (List Key × V)) (k : List Key) (b : Addr), x = .ref a ∧ H2 a = some (.dT kvs) ∧ y = .ref b ∧ H2 b = some (.tup (k.map kV)) ∧ (valV kvs k).isSome = true ∧ D.nx σ (upd H2 a (.dT (dropK kvs k)))
theorem ps_ddelT {X : Cx} {o i : Expr} {td ty : TE} {tpos pos : Pos} (hu : X.A.units + 1 < cLine) (ho : PE X o td) (hi : PE X i ty) : PS X (.Delete [.Subscript o i tpos] pos) (sDDelT td ty) := by
  refine ⟨fun pins s σ H D I h => ?_⟩
  refine wpAny_Delete (wpAny_deleteEach_cons (wpAny_delete_Subscript (thn (ho.run pins s σ H _ I h) fun u s1 z1 => ?_)))
  obtain ⟨x, H1, I1, rx, q1⟩ := z1
  refine thn (hi.run pins s1 σ H1 _ I1 q1) fun iv s2 z2 => ?_
  obtain ⟨y, H2, I2, ry, a, kvs, k, b, rfl, ha, rfl, hb, there, q2⟩ := z2
  obtain rfl : u = Value.ref a := rx
  obtain rfl : iv = Value.ref b := ry
  obtain ⟨z, hd, xs', rel, dd⟩ := dt_of I2.hok ha
  have hz : xs'.length ≤ sizeLine := by rw [← Paired.length rel]; exact z
  refine wpAny_delItem_slot dd.typeIs (by decide) PySem.F.slot_dict_delitem (call_meetsIn PySem.F.slot_dict_delitem dd.typeIs PySem.F.entry_dict_delitem (PySem.F.args_dict_delitem_2 _ _) (meetsH_dict_delitem (tupleKind (mixKind X.prog X.w)) a b hd) ⟨tupleKind_room_in1 hu, k, xs', key_of I2.hok hb, dd, hz, fun p hp h' dd' hs => ?_, fun hn => ?_⟩)
  · obtain ⟨o, es, ep, hq, h2, h3, h4, _, h5⟩ := dd'
    have I3 : Inv X pins σ (upd H2 a (.dT (dropK kvs k))) { s2 with heap := h', toks := s2.toks + (tupleKind (mixKind X.prog X.w)).draws k } :=
      d_write I2 (by rw [ha]; exact True.intro) hs ⟨o, hq⟩ ⟨Nat.le_trans (dropK_le kvs k) z, hd, _, (show KT H2 (dropK kvs k) (withoutH xs' k) from L2.DX.KT_drop k rel).keeps (fun c ys ec => (by rw [upd_ne (ne_of ec ha (fun z => nomatch z))]; exact ec)), o, es, ep, hq, h2, h3, h4, h5⟩
    exact wpAny_deleteEach_nil ⟨σ, _, I3, q2⟩
  · exfalso
    have r := rel.val k
    rw [hn] at r
    cases ev : valV kvs k with
    | none =>
      rw [ev] at there
      exact nomatch there
    | some v0 =>
      rw [ev] at r
      exact r

/-! ### str(x) of data -/
theorem call_strD {X : Cx} (hg : X.A.guards = some []) (hu : X.A.units + 64 < cLine) : CallR X (.type "str") (fun xs H Q => ∃ (a : Addr) (d : PyData), xs = [V.ref a] ∧ Dp X.K H (.ref a) d ∧ d.showable = true ∧ d.hasDict = false ∧ d.depth ≤ 60 ∧ d.shown.length ≤ sizeLine ∧ Q (.str d.shown) H) := by
  intro pins s σ H xs us Q I r h
  obtain ⟨a, d, rfl, hd, hs, hnd, dp, hz, q⟩ := h
  obtain ⟨u, rfl, r1⟩ := vals1 r
  obtain rfl : u = Value.ref a := r1
  obtain ⟨as, rd⟩ := Dp.reads I d _ _ hd rfl
  exact str_of_reads rd hs (fun z => by rw [hnd] at z; cases z) hg (by omega) (fun b o e => e) (fun h' u tk hk => ⟨.str d.shown, H, I.kept (t' := tk) hk, ⟨_, rfl⟩, q⟩) hz

/-! ### max, min of a list of ints, with a default of any kind -/
theorem minOf_ok : ∀ (xs : List Int) (x : Int), (PySem.W.minOf x xs = x ∨ PySem.W.minOf x xs ∈ xs) ∧ PySem.W.minOf x xs ≤ x ∧ ∀ y ∈ xs, PySem.W.minOf x xs ≤ y
  | [], x => ⟨.inl rfl, Int.le_refl _, fun y z => nomatch z⟩
  | y :: ys, x => by
    have e : PySem.W.minOf x (y :: ys) = PySem.W.minOf (if decide (y < x) = true then y else x) ys := rfl
    rw [e]
    by_cases h : y < x
    · rw [decide_eq_true h, if_pos rfl]
      obtain ⟨h1, h2, h3⟩ := minOf_ok ys y
      refine ⟨.inr (h1.elim (fun z => by rw [z]; exact List.mem_cons_self) fun z => List.mem_cons_of_mem _ z), by omega, fun u mu => ?_⟩
      rcases List.mem_cons.mp mu with rfl | mu
      · exact h2
      · exact h3 u mu
    · rw [decide_eq_false h, if_neg (by decide)]
      obtain ⟨h1, h2, h3⟩ := minOf_ok ys x
      refine ⟨h1.imp id fun z => List.mem_cons_of_mem _ z, h2, fun u mu => ?_⟩
      rcases List.mem_cons.mp mu with rfl | mu
      · omega
      · exact h3 u mu
def rMaxN (K : PySem.W.Frag) : List V → List V → Hp → VK → Prop := fun vs zs H Q => ∃ (a : Addr) (ns : List Int) (d : V), vs = [V.ref a] ∧ zs = [d] ∧ SqL K H a (ns.map V.int) ∧ (ns = [] → Q d H) ∧ ∀ m, m ∈ ns → (∀ y, y ∈ ns → y ≤ m) → Q (.int m) H
def rMinN (K : PySem.W.Frag) : List V → List V → Hp → VK → Prop := fun vs zs H Q => ∃ (a : Addr) (ns : List Int) (d : V), vs = [V.ref a] ∧ zs = [d] ∧ SqL K H a (ns.map V.int) ∧ (ns = [] → Q d H) ∧ ∀ m, m ∈ ns → (∀ y, y ∈ ns → m ≤ y) → Q (.int m) H
section
variable {X : Cx}
theorem cr_maxN (hc : X.calm = true) (hu : X.A.units + 65 < cLine) : CallRK X (.builtin "max") [Str.ofString "default"] (rMaxN X.K) := by
  intro pins s σ H vs zs us ws Q I r rz h
  obtain ⟨a, ns, d, rfl, rfl, hs, q0, q⟩ := h
  obtain ⟨its, rv, hl, _⟩ := I.list hs
  rw [Vals.ref1 r]
  obtain ⟨w1, rfl, rd1⟩ := vals1 rz
  obtain ⟨as, rd⟩ := Dp.readsAll I (ns.map PyData.int) _ its (dp_ints71 ns) rv
  refine PySem.W.max_list_datum_default (α := Int) (xs := ns) (vs := its.toArray) (d := w1) (I.ok.hd hc) hl.isList ⟨as, rd⟩ (by show X.A.units + 1 + 0 < cLine; omega) (fun e h' tk hk => ⟨d, H, I.kept hk, rd1, q0 e⟩) fun y ys i v h' tk e hi hh hk => ?_
  obtain ⟨bs, rb⟩ := hh
  have hm : ∃ t, v = Value.int (PySem.W.maxOf y ys) t := by
    cases rb with
    | int => exact ⟨_, rfl⟩
  obtain ⟨t, rfl⟩ := hm
  obtain ⟨h1, h2, h3⟩ := maxOf_ok ys y
  refine ⟨.int _, H, I.kept hk, ⟨_, rfl⟩, q _ ?_ fun u mu => ?_⟩
  · rw [e]
    exact h1.elim (fun z => by rw [z]; exact List.mem_cons_self) fun z => List.mem_cons_of_mem _ z
  · rw [e] at mu
    rcases List.mem_cons.mp mu with rfl | mu
    · exact h2
    · exact h3 u mu
theorem cr_minN (hc : X.calm = true) (hu : X.A.units + 65 < cLine) : CallRK X (.builtin "min") [Str.ofString "default"] (rMinN X.K) := by
  intro pins s σ H vs zs us ws Q I r rz h
  obtain ⟨a, ns, d, rfl, rfl, hs, q0, q⟩ := h
  obtain ⟨its, rv, hl, _⟩ := I.list hs
  rw [Vals.ref1 r]
  obtain ⟨w1, rfl, rd1⟩ := vals1 rz
  obtain ⟨as, rd⟩ := Dp.readsAll I (ns.map PyData.int) _ its (dp_ints71 ns) rv
  refine PySem.W.min_list_datum_default (α := Int) (xs := ns) (vs := its.toArray) (d := w1) (I.ok.hd hc) hl.isList ⟨as, rd⟩ (by show X.A.units + 1 + 0 < cLine; omega) (fun e h' tk hk => ⟨d, H, I.kept hk, rd1, q0 e⟩) fun y ys i v h' tk e hi hh hk => ?_
  obtain ⟨bs, rb⟩ := hh
  have hm : ∃ t, v = Value.int (PySem.W.minOf y ys) t := by
    cases rb with
    | int => exact ⟨_, rfl⟩
  obtain ⟨t, rfl⟩ := hm
  obtain ⟨h1, h2, h3⟩ := minOf_ok ys y
  refine ⟨.int _, H, I.kept hk, ⟨_, rfl⟩, q _ ?_ fun u mu => ?_⟩
  · rw [e]
    exact h1.elim (fun z => by rw [z]; exact List.mem_cons_self) fun z => List.mem_cons_of_mem _ z
  · rw [e] at mu
    rcases List.mem_cons.mp mu with rfl | mu
    · exact h2
    · exact h3 u mu
end

/-! ### sorted of a list of triples -/
abbrev O3' := (Int × Int) × Int
inductive QAll (H : Hp) : List V → List O3' → Prop
  | nil : QAll H [] []
  | cons {t : Addr} {x y z : Int} {vs : List V} {ts : List O3'} : H t = some (.tup [.int z, .int x, .int y]) → QAll H vs ts → QAll H (.ref t :: vs) (((x, y), z) :: ts)
def enc3 (b : O3') : PyData := .tuple ([b.2, b.1.1, b.1.2].map .int)
theorem le3 : PySem.W.dataLe false enc3 = fun a b => decide ([a.2, a.1.1, a.1.2] ≤ [b.2, b.1.1, b.1.2]) := PySem.W.dataLe_rows fun b : O3' => [b.2, b.1.1, b.1.2]
def IsQ (H : Hp) (v : Value) (b : O3') : Prop := ∃ t, v = Value.ref t ∧ H t = some (.tup [.int b.2, .int b.1.1, .int b.1.2])
theorem q_each {H : Hp} : ∀ {xs : List V} {ts : List O3'} {its : List Value}, QAll H xs ts → Vals xs its → PySem.W.EachIs (IsQ H) its ts
  | _, _, _, .nil, .nil => .nil
  | _, _, _, .cons e k, .cons r s => .cons ⟨_, r, e⟩ (q_each k s)
theorem each_q {H : Hp} : ∀ {out : List Value} {ts : List O3'}, PySem.W.EachIs (IsQ H) out ts → ∃ ys, Vals ys out ∧ QAll H ys ts
  | _, _, .nil => ⟨[], .nil, .nil⟩
  | _, b :: bs, .cons ⟨t, e, h⟩ k => by
    obtain ⟨ys, h1, h2⟩ := each_q k
    subst e
    exact ⟨.ref t :: ys, .cons rfl h1, .cons h h2⟩
theorem QAll.length {H : Hp} : ∀ {vs : List V} {ts : List O3'}, QAll H vs ts → vs.length = ts.length
  | _, _, .nil => rfl
  | _, _, .cons _ k => congrArg (· + 1) k.length
def rSort3 (K : PySem.W.Frag) : List V → Hp → VK → Prop := fun vs H Q => ∃ (a : Addr) (xs : List V) (ts : List O3'), vs = [V.ref a] ∧ SqL K H a xs ∧ QAll H xs ts ∧
  ∀ (ys : List V) (us : List O3') (p : Addr), us.Perm ts → us.Pairwise (fun u v => u.2 ≤ v.2) → QAll H ys us → H p = none → Q (.ref p) (upd H p (.lst ys))
theorem cr_sort3 {X : Cx} (hu : X.A.units + 65 < cLine) : CallR X (.builtin "sorted") (rSort3 X.K) := by
  intro pins s σ H vs us Q I r h
  obtain ⟨a, xs, ts, rfl, hs, qa, q⟩ := h
  obtain ⟨its, rv, hl, hz⟩ := I.list hs
  rw [Vals.ref1 r]
  have each := q_each qa rv
  have rd : PySem.W.EachIs (fun v b => ∃ as, Reads s.heap v (enc3 b) as) its ts := each.mono fun v b h => by
    obtain ⟨t, rfl, ht⟩ := h
    exact Dp.reads I (enc3 b) (.ref t) _ (.tup (SqT.of ht) (.cons (.int _) (.cons (.int _) (.cons (.int _) .nil)))) rfl
  refine PySem.W.sorted_data hl.isList each rd (PySem.W.AllAlike.of fun b c => by simp [enc3, PySem.W.alike, PySem.W.alikeAll]) (PySem.W.Sortable.tuples fun b => ⟨_, _, rfl⟩) (by rw [← qa.length]; exact hz) (fun b _ => by show X.A.units + 2 + _ < cLine; have : (enc3 b).depth = 1 := rfl; omega) fun out ho ho2 => ?_
  obtain ⟨ys, v1, q1⟩ := each_q ho2
  obtain ⟨n, hn⟩ := PyProof.Rows.sortedAll_at s.heap its out.toArray
  have kp : ∀ b o, s.heap.get? b = some o → (PyProof.Rows.sortedAll s.heap its out.toArray).get? b = some o := fun b o e => PyProof.Rows.sortedAll_old e
  refine ⟨.ref (s.heap.objs.size + 1), upd H (s.heap.objs.size + 1) (.lst ys), I.laid (t' := s.toks) kp (Nat.le_succ _) ⟨?_, out, n, v1, hn⟩, rfl, q ys _ _ ?_ ?_ q1 (I.hok.fresh (Nat.le_succ _))⟩
  · rw [q1.length, List.length_mergeSort, ← qa.length]
    exact hz
  · exact List.mergeSort_perm _ _
  · have z := List.pairwise_mergeSort (le := PySem.W.dataLe false enc3) (fun a b c h1 h2 => by
      rw [le3] at h1 h2 ⊢
      exact decide_eq_true (List.le_trans (of_decide_eq_true h1) (of_decide_eq_true h2))) (fun a b => by
      rw [le3]
      rcases List.le_total [a.2, a.1.1, a.1.2] [b.2, b.1.1, b.1.2] with h | h
      · rw [Bool.or_eq_true]
        exact .inl (decide_eq_true h)
      · rw [Bool.or_eq_true]
        exact .inr (decide_eq_true h)) ts
    refine z.imp fun {u v} h => ?_
    rw [le3] at h
    have h := of_decide_eq_true h
    rw [List.cons_le_cons_iff] at h
    rcases h with h | h
    · omega
    · omega

end My
namespace My
open PySem L2
inductive Sl | pt | oth | num | plc | knd
  deriving DecidableEq
def fit : Sl → V → Prop
  | .pt, v => ∃ i, v = .int i
  | .oth, v => v = .non ∨ ∃ i, v = .int i
  | .num, v => ∃ i, v = .int i
  | .plc, v => ∃ i : Int, v = .int i ∧ 0 ≤ i
  | .knd, v => ∃ k, v = .str k ∧ k ∈ kinds
inductive FitAll : List Sl → List V → Prop
  | nil : FitAll [] []
  | cons {s : Sl} {v : V} {ss : List Sl} {vs : List V} : fit s v → FitAll ss vs → FitAll (s :: ss) (v :: vs)
def forms : List (Str × List Sl) := [("new", [.num, .knd]), ("put", [.pt, .num]), ("paint", [.pt, .knd]), ("tie", [.pt, .pt]), ("cut", [.pt, .pt]), ("add", [.pt, .pt, .num]), ("spread", [.pt, .oth, .num]),
  ("joined", [.pt, .pt]), ("way", [.pt, .pt]), ("total", [.pt, .pt]), ("many", [.pt, .pt]), ("most", [.pt, .pt]), ("first", [.pt, .pt, .knd]), ("reach", [.pt, .pt, .num]), ("kth", [.pt, .pt, .plc]), ("meet", [.pt, .pt, .pt]), ("sum", [.pt, .oth]), ("size", [.pt, .oth]), ("top", [.pt, .oth]), ("least", [.pt, .oth, .knd])]
def evs : List Str := ["new", "put", "paint", "tie", "cut", "add", "spread", "joined", "way", "total", "many", "most", "first", "reach", "kth", "meet", "sum", "size", "top", "least"]

/-! ### a written dict from texts to tuples of texts -/
def formB (K : PySem.W.Frag) : List DictEntry → List (Str × List Str) → Bool
  | [], [] => true
  | e :: es, f :: fs => e.key.isStr f.1 && ((match e.val with | .ref a => tupB K a f.2 | _ => false) && formB K es fs)
  | _, _ => false
theorem isStr_key {v : Value} {x : Str} (h : v.isStr x = true) : ∃ t, v = .str x t := by
  cases v with
  | str y t =>
    have e : (y == x) = true := h
    exact ⟨t, by rw [beq_iff_eq.mp e]⟩
  | _ => exact nomatch h
theorem formB_ns {K : PySem.W.Frag} : ∀ {es : List DictEntry} {fs : List (Str × List Str)}, formB K es fs = true → es.any (·.refKey) = false ∧ ∀ z : Str, match fs.lookup z with
    | none => es.find? (·.key.isStr z) = none
    | some ws => ∃ e a, es.find? (·.key.isStr z) = some e ∧ e.val = .ref a ∧ tupB K a ws = true
  | [], [], _ => ⟨rfl, fun _ => rfl⟩
  | [], _ :: _, h => nomatch h
  | _ :: _, [], h => nomatch h
  | e :: es, f :: fs, h => by
    unfold formB at h
    rw [Bool.and_eq_true, Bool.and_eq_true] at h
    obtain ⟨h1, h2, h3⟩ := h
    obtain ⟨r1, r2⟩ := formB_ns h3
    obtain ⟨t, ek⟩ := isStr_key h1
    refine ⟨?_, fun z => ?_⟩
    · rw [List.any_cons, r1, Bool.or_false]
      obtain ⟨hs, k, v⟩ := e
      dsimp only at ek
      subst ek
      rfl
    · have q := r2 z
      rw [List.lookup_cons, List.find?_cons]
      by_cases ez : z = f.1
      · subst ez
        rw [beq_self_eq_true]
        dsimp only
        rw [h1]
        dsimp only
        cases ev : e.val with
        | ref a =>
          rw [ev] at h2
          exact ⟨e, a, rfl, ev, h2⟩
        | _ =>
          rw [ev] at h2
          exact nomatch h2
      · have e1 : (z == f.1) = false := beq_eq_false_iff_ne.mpr ez
        have e2 : e.key.isStr z = false := by
          rw [ek]
          show (f.1 == z) = false
          exact beq_eq_false_iff_ne.mpr fun y => ez y.symm
        rw [e1, e2]
        dsimp only
        exact q
theorem formB_get {K : PySem.W.Frag} {d : Addr} {c : Value} {od : Option Addr} {es : Array DictEntry} {n : Nat} {sl : Array (Option Value)} {fs : List (Str × List Str)} (hl : K.lookup d = some ⟨c, od, .dict es n, sl⟩) (h : formB K es.toList fs = true) (z : Str) :
    match fs.lookup z with
    | none => PySem.W.nsIn K d z = some none
    | some ws => ∃ a, PySem.W.nsIn K d z = some (some (.ref a)) ∧ tupB K a ws = true := by
  obtain ⟨r1, r2⟩ := formB_ns h
  have q := r2 z
  unfold PySem.W.nsIn
  rw [hl]
  cases e : fs.lookup z with
  | none =>
    rw [e] at q
    dsimp only at q ⊢
    rw [q]
    dsimp only
    rw [r1]
    rfl
  | some ws =>
    rw [e] at q
    obtain ⟨en, a, h1, h2, h3⟩ := q
    refine ⟨a, ?_, h3⟩
    dsimp only
    rw [h1]
    dsimp only
    rw [h2]
/-! ### anything -/
inductive AnyV (H : Hp) : V → Prop
  | non : AnyV H .non
  | bl (b : Bool) : AnyV H (.bl b)
  | int (i : Int) : AnyV H (.int i)
  | str (x : Str) : AnyV H (.str x)
  | tup {a : Addr} {xs : List V} (h : H a = some (.tup xs)) : AnyV H (.ref a)
  | lst {a : Addr} {xs : List V} (h : H a = some (.lst xs)) : AnyV H (.ref a)
  | dK {a : Addr} {kvs : List (Key × V)} (h : H a = some (.dK kvs)) : AnyV H (.ref a)
/-- all but tables of code objects stays -/
def Kp (H H' : Hp) : Prop := ∀ a o, H a = some o → (∀ ps, o ≠ .tbl ps) → H' a = some o
theorem Kp.refl (H : Hp) : Kp H H := fun _ _ e _ => e
theorem Kp.trans {H H1 H2 : Hp} (x : Kp H H1) (y : Kp H1 H2) : Kp H H2 := fun a o e n => y a o (x a o e n) n
theorem Kp.of_same {H H' : Hp} (s : Same H H') : Kp H H' := fun a o e _ => s a o e
theorem Kp.of_tab {H H' : Hp} {P : Addr} (g : GxR.TabG H P) (t : GxR.Tabbed P H H') : Kp H H' := fun a o e n => by
  by_cases h : a = P
  · subst h
    obtain ⟨ps, hp, _⟩ := g
    rw [hp] at e
    exact absurd (Option.some.inj e).symm (n ps)
  · rw [t.2 a h]
    exact e
theorem AnyV.kp {H H' : Hp} (k : Kp H H') {v : V} (h : AnyV H v) : AnyV H' v := by
  cases h with
  | non => exact .non
  | bl b => exact .bl b
  | int i => exact .int i
  | str x => exact .str x
  | tup h => exact .tup (k _ _ h (by intro ps z; cases z))
  | lst h => exact .lst (k _ _ h (by intro ps z; cases z))
  | dK h => exact .dK (k _ _ h (by intro ps z; cases z))
/-- isinstance with int, bool, str, tuple -/
def isIntV : V → Bool
  | .bl _ => true
  | .int _ => true
  | _ => false
def isBoolV : V → Bool
  | .bl _ => true
  | _ => false
def isStrV : V → Bool
  | .str _ => true
  | _ => false
theorem int_ok {K : PySem.W.Frag} {H : Hp} {v : V} (h : AnyV H v) : ∃ t, TyX K H v t ∧ PySem.W.kitOne K t (.type "int") = some (isIntV v) := by
  cases h with
  | non => exact ⟨_, .base .non, kit_ty (show kitB _ _ = some false by decide +kernel)⟩
  | bl b => exact ⟨_, .base (.bl b), kit_ty (show kitB _ _ = some true by decide +kernel)⟩
  | int i => exact ⟨_, .base (.int i), kit_ty (show kitB _ _ = some true by decide +kernel)⟩
  | str x => exact ⟨_, .base (.str x), kit_ty (show kitB _ _ = some false by decide +kernel)⟩
  | tup h => exact ⟨_, .base (.tup h), kit_ty (show kitB _ _ = some false by decide +kernel)⟩
  | lst h => exact ⟨_, .base (.lst h), kit_ty (show kitB _ _ = some false by decide +kernel)⟩
  | dK h => exact ⟨_, .base (.dK h), kit_ty (show kitB _ _ = some false by decide +kernel)⟩
theorem bool_ok {K : PySem.W.Frag} {H : Hp} {v : V} (h : AnyV H v) : ∃ t, TyX K H v t ∧ PySem.W.kitOne K t (.type "bool") = some (isBoolV v) := by
  cases h with
  | non => exact ⟨_, .base .non, kit_ty (show kitB _ _ = some false by decide +kernel)⟩
  | bl b => exact ⟨_, .base (.bl b), kit_ty (show kitB _ _ = some true by decide +kernel)⟩
  | int i => exact ⟨_, .base (.int i), kit_ty (show kitB _ _ = some false by decide +kernel)⟩
  | str x => exact ⟨_, .base (.str x), kit_ty (show kitB _ _ = some false by decide +kernel)⟩
  | tup h => exact ⟨_, .base (.tup h), kit_ty (show kitB _ _ = some false by decide +kernel)⟩
  | lst h => exact ⟨_, .base (.lst h), kit_ty (show kitB _ _ = some false by decide +kernel)⟩
  | dK h => exact ⟨_, .base (.dK h), kit_ty (show kitB _ _ = some false by decide +kernel)⟩
theorem str_ok {K : PySem.W.Frag} {H : Hp} {v : V} (h : AnyV H v) : ∃ t, TyX K H v t ∧ PySem.W.kitOne K t (.type "str") = some (isStrV v) := by
  cases h with
  | non => exact ⟨_, .base .non, kit_ty (show kitB _ _ = some false by decide +kernel)⟩
  | bl b => exact ⟨_, .base (.bl b), kit_ty (show kitB _ _ = some false by decide +kernel)⟩
  | int i => exact ⟨_, .base (.int i), kit_ty (show kitB _ _ = some false by decide +kernel)⟩
  | str x => exact ⟨_, .base (.str x), kit_ty (show kitB _ _ = some true by decide +kernel)⟩
  | tup h => exact ⟨_, .base (.tup h), kit_ty (show kitB _ _ = some false by decide +kernel)⟩
  | lst h => exact ⟨_, .base (.lst h), kit_ty (show kitB _ _ = some false by decide +kernel)⟩
  | dK h => exact ⟨_, .base (.dK h), kit_ty (show kitB _ _ = some false by decide +kernel)⟩
/-! ### rows by their form -/
def wholeB : V → Bool
  | .int _ => true
  | _ => false
def kindB : V → Bool
  | .str k => decide (k ∈ kinds)
  | _ => false
def fitB : Sl → V → Bool
  | .knd, v => kindB v
  | .oth, v => decide (v = .non) || wholeB v
  | .plc, .int i => decide (0 ≤ i)
  | .plc, _ => false
  | _, v => wholeB v
def slT : Sl → Str
  | .pt => "point"
  | .oth => "other"
  | .num => "number"
  | .plc => "place"
  | .knd => "kind"
def fitsB : List Sl → List V → Bool
  | [], [] => true
  | s :: ss, v :: vs => fitB s v && fitsB ss vs
  | _, _ => false
theorem fits_len : ∀ {ss : List Sl} {vs : List V}, vs.length ≠ ss.length → fitsB ss vs = false
  | [], [], h => absurd rfl h
  | [], _ :: _, _ => rfl
  | _ :: _, [], _ => rfl
  | s :: ss, v :: vs, h => by
    show (fitB s v && fitsB ss vs) = false
    rw [fits_len (ss := ss) (vs := vs) fun z => h (by rw [List.length_cons, List.length_cons, z]), Bool.and_false]
theorem drop_at {α : Type} {xs : List α} {i : Nat} {x : α} (h : xs[i]? = some x) : xs.drop i = x :: xs.drop (i + 1) := by
  obtain ⟨hl, e⟩ := List.getElem?_eq_some_iff.mp h
  rw [List.drop_eq_getElem_cons hl, e]
def rowB : List V → Bool
  | .str w :: ps => (match forms.lookup w with | some sl => fitsB sl ps | none => false)
  | _ => false
def formsT : List (Str × List Str) := forms.map fun f => (f.1, f.2.map slT)
theorem formsT_lookup (z : Str) : formsT.lookup z = (forms.lookup z).map fun sl => sl.map slT := by
  have g : ∀ l : List (Str × List Sl), (l.map fun f => (f.1, f.2.map slT)).lookup z = (l.lookup z).map fun sl => sl.map slT := by
    intro l
    induction l with
    | nil => rfl
    | cons f r ih =>
      obtain ⟨a, b⟩ := f
      rw [List.map_cons, List.lookup_cons, List.lookup_cons]
      cases e : z == a with
      | true => rfl
      | false => exact ih
  exact g forms
/-- a def by its body, its code object known -/
theorem okC {P : Program} {w : World} {K : PySem.W.Frag} {mg : Str → Option Value} {base : Heap} {x qual : Str} {st : Stmt} {f c : Addr} {fd : FuncData} {N ps : List Str} {k : Nat} {sp : Sp} (F : Fun K x qual st f fd) (hcd : fd.code = .ref c) (S : FnScope N ps (defScope st))
    (len : ∀ vs H Q E, sp vs H Q E → vs.length = ps.length)
    (body : ∀ (A : Around) (outer : List Env) (s : Shared) (H : Hp) (vs : List V) (Q : VK) (E : XK), Room k (A.deeper (PyProof.Rows.envOfC qual (defScope st) s.heap.objs.size f (.ref c))) → sp vs H Q E →
      ∃ t, PSs (cxOf CX0 P w K mg base N qual (defScope st) f (.ref c) A outer s H E).nox (defBody st) t ∧ t { nx := fun _ H' => Q .non H', rt := Q } (start N vs) H) : FnOk P w K mg base CX0 (k + 1) f fd ps sp := by
  obtain ⟨oc, od, kV, doc, pm, an, cdv, ct, osl, rfl, lk, hc⟩ := F.ex
  have e : cdv = .ref c := hcd
  subst e
  refine fn_of lk hc S len fun A outer s H vs Q E hr hsp => ?_
  obtain ⟨t, h, q⟩ := body A outer s H vs Q E hr hsp
  exact ⟨t, h.nox, q⟩

end My
namespace My
open PySem L2

/-! ### the text by places -/
def topS (i : Nat) : Stmt := PySem.Challenge.pw_tiedcut_k78_whole_light_and_holding.main.body.getD i (.Pass ⟨0, 0, 0, 0⟩)
abbrev s_iswhole : Stmt := topS 6
abbrev s_arewholes : Stmt := topS 7
abbrev s_isrising : Stmt := topS 8
abbrev s_hasring : Stmt := topS 10
abbrev s_topof : Stmt := topS 11
abbrev s_tieof : Stmt := topS 12
abbrev s_refusemissing : Stmt := topS 14
abbrev s_wayof : Stmt := topS 16
abbrev s_partof : Stmt := topS 17
abbrev s_stepstoward : Stmt := topS 18
abbrev s_neighbours : Stmt := topS 19
abbrev s_refuseends : Stmt := topS 21
abbrev s_asforest : Stmt := topS 22
abbrev s_offersalong : Stmt := topS 23
abbrev s_areoffers : Stmt := topS 24
abbrev s_leadson : Stmt := topS 25
abbrev s_isworded : Stmt := topS 29
abbrev s_setsapart : Stmt := topS 30
abbrev s_showsholding : Stmt := topS 32
abbrev s_isholdentry : Stmt := topS 33
abbrev s_iswayround : Stmt := topS 34
abbrev s_showslightest : Stmt := topS 38
abbrev s_arekept : Stmt := topS 39
abbrev s_islightpaper : Stmt := topS 40
abbrev s_islightentry : Stmt := topS 41
abbrev s_Lmixed : Stmt := topS 43
abbrev s_Lpot : Stmt := topS 44
abbrev s_Ltake : Stmt := topS 45
abbrev s_Loffers : Stmt := topS 46
abbrev s_Llight : Stmt := topS 47
abbrev s_Lshuffled : Stmt := topS 48
abbrev s_Lfirsts : Stmt := topS 49
abbrev s_Lheld : Stmt := topS 50
abbrev s_Lright : Stmt := topS 51
abbrev s_law : Stmt := topS 52
theorem sc_iswhole : FnScope ["thing"] ["thing"] (defScope s_iswhole) := ⟨rfl, rfl, rfl, by decide +kernel, rfl, by decide +kernel, by decide +kernel⟩
theorem sc_arewholes : FnScope ["thing", "part"] ["thing"] (defScope s_arewholes) := ⟨rfl, rfl, rfl, by decide +kernel, rfl, by decide +kernel, by decide +kernel⟩
theorem sc_isrising : FnScope ["row", "low", "high"] ["row"] (defScope s_isrising) := ⟨rfl, rfl, rfl, by decide +kernel, rfl, by decide +kernel, by decide +kernel⟩
theorem sc_hasring : FnScope ["ties", "many", "above", "a", "b", "top", "other"] ["ties", "many"] (defScope s_hasring) := ⟨rfl, rfl, rfl, by decide +kernel, rfl, by decide +kernel, by decide +kernel⟩
theorem sc_topof : FnScope ["above", "point"] ["above", "point"] (defScope s_topof) := ⟨rfl, rfl, rfl, by decide +kernel, rfl, by decide +kernel, by decide +kernel⟩
theorem sc_tieof : FnScope ["a", "b"] ["a", "b"] (defScope s_tieof) := ⟨rfl, rfl, rfl, by decide +kernel, rfl, by decide +kernel, by decide +kernel⟩
theorem sc_refusemissing : FnScope ["numbers", "many", "number"] ["numbers", "many"] (defScope s_refusemissing) := ⟨rfl, rfl, rfl, by decide +kernel, rfl, by decide +kernel, by decide +kernel⟩
theorem sc_wayof : FnScope ["forest", "a", "b", "toward", "way"] ["forest", "a", "b"] (defScope s_wayof) := ⟨rfl, rfl, rfl, by decide +kernel, rfl, by decide +kernel, by decide +kernel⟩
theorem sc_partof : FnScope ["forest", "a"] ["forest", "a"] (defScope s_partof) := ⟨rfl, rfl, rfl, by decide +kernel, rfl, by decide +kernel, by decide +kernel⟩
theorem sc_stepstoward : FnScope ["forest", "goal", "around", "toward", "waiting", "here", "there"] ["forest", "goal"] (defScope s_stepstoward) := ⟨rfl, rfl, rfl, by decide +kernel, rfl, by decide +kernel, by decide +kernel⟩
theorem sc_neighbours : FnScope ["forest", "points", "ties", "around", "point", "a", "b"] ["forest"] (defScope s_neighbours) := ⟨rfl, rfl, rfl, by decide +kernel, rfl, by decide +kernel, by decide +kernel⟩
theorem sc_refuseends : FnScope ["a", "b", "many"] ["a", "b", "many"] (defScope s_refuseends) := ⟨rfl, rfl, rfl, by decide +kernel, rfl, by decide +kernel, by decide +kernel⟩
theorem sc_asforest : FnScope ["many", "ties"] ["many", "ties"] (defScope s_asforest) := ⟨rfl, rfl, rfl, by decide +kernel, rfl, by decide +kernel, by decide +kernel⟩
theorem sc_offersalong : FnScope ["many", "by_tie", "a", "b", "way", "here", "there"] ["many", "by_tie", "a", "b"] (defScope s_offersalong) := ⟨rfl, rfl, rfl, by decide +kernel, rfl, by decide +kernel, by decide +kernel⟩
theorem sc_areoffers : FnScope ["offers", "thing", "number"] ["offers", "thing"] (defScope s_areoffers) := ⟨rfl, rfl, rfl, by decide +kernel, rfl, by decide +kernel, by decide +kernel⟩
theorem sc_leadson : FnScope ["offers", "numbers", "a", "b", "here", "number", "ends"] ["offers", "numbers", "a", "b"] (defScope s_leadson) := ⟨rfl, rfl, rfl, by decide +kernel, rfl, by decide +kernel, by decide +kernel⟩
theorem sc_isworded : FnScope ["thing"] ["thing"] (defScope s_isworded) := ⟨rfl, rfl, rfl, by decide +kernel, rfl, by decide +kernel, by decide +kernel⟩
theorem sc_setsapart : FnScope ["forest", "a", "b", "numbers", "points", "ties", "low", "high"] ["forest", "a", "b", "numbers"] (defScope s_setsapart) := ⟨rfl, rfl, rfl, by decide +kernel, rfl, by decide +kernel, by decide +kernel⟩
theorem sc_showsholding : FnScope ["many", "offers", "thing", "number", "entry"] ["many", "offers", "thing"] (defScope s_showsholding) := ⟨rfl, rfl, rfl, by decide +kernel, rfl, by decide +kernel, by decide +kernel⟩
theorem sc_isholdentry : FnScope ["many", "offers", "number", "thing", "word", "numbers", "a", "b", "others"] ["many", "offers", "number", "thing"] (defScope s_isholdentry) := ⟨rfl, rfl, rfl, by decide +kernel, rfl, by decide +kernel, by decide +kernel⟩
theorem sc_iswayround : FnScope ["offers", "number", "way", "a", "b"] ["offers", "number", "way"] (defScope s_iswayround) := ⟨rfl, rfl, rfl, by decide +kernel, rfl, by decide +kernel, by decide +kernel⟩
theorem sc_showslightest : FnScope ["many", "offers", "thing", "kept", "paper"] ["many", "offers", "thing"] (defScope s_showslightest) := ⟨rfl, rfl, rfl, by decide +kernel, rfl, by decide +kernel, by decide +kernel⟩
theorem sc_arekept : FnScope ["many", "offers", "thing", "number"] ["many", "offers", "thing"] (defScope s_arekept) := ⟨rfl, rfl, rfl, by decide +kernel, rfl, by decide +kernel, by decide +kernel⟩
theorem sc_islightpaper : FnScope ["offers", "kept", "thing", "gone", "number", "entry"] ["offers", "kept", "thing"] (defScope s_islightpaper) := ⟨rfl, rfl, rfl, by decide +kernel, rfl, by decide +kernel, by decide +kernel⟩
theorem sc_islightentry : FnScope ["offers", "kept", "number", "thing", "own", "way", "a", "b", "price", "k"] ["offers", "kept", "number", "thing"] (defScope s_islightentry) := ⟨rfl, rfl, rfl, by decide +kernel, rfl, by decide +kernel, by decide +kernel⟩
theorem sc_Lmixed : FnScope ["_law_cell", "_law_k", "_law_number", "_law_other"] ["_law_cell", "_law_k"] (defScope s_Lmixed) := ⟨rfl, rfl, rfl, by decide +kernel, rfl, by decide +kernel, by decide +kernel⟩
theorem sc_Lpot : FnScope ["_law_script", "_law_total", "_law_k", "_law_cell"] ["_law_script"] (defScope s_Lpot) := ⟨rfl, rfl, rfl, by decide +kernel, rfl, by decide +kernel, by decide +kernel⟩
theorem sc_Ltake : FnScope ["_law_pot_here", "_law_many", "_law_digit"] ["_law_pot_here", "_law_many"] (defScope s_Ltake) := ⟨rfl, rfl, rfl, by decide +kernel, rfl, by decide +kernel, by decide +kernel⟩
theorem sc_Loffers : FnScope ["_law_pot_here", "_law_many", "_law_size", "_law_far", "_law_offers_here", "_law_k", "_law_a", "_law_b"] ["_law_pot_here"] (defScope s_Loffers) := ⟨rfl, rfl, rfl, by decide +kernel, rfl, by decide +kernel, by decide +kernel⟩
theorem sc_Llight : FnScope ["_law_many", "_law_offers_here", "_law_light_here", "_law_a", "_law_b", "_law_price"] ["_law_many", "_law_offers_here"] (defScope s_Llight) := ⟨rfl, rfl, rfl, by decide +kernel, rfl, by decide +kernel, by decide +kernel⟩
theorem sc_Lshuffled : FnScope ["_law_pot_here", "_law_offers_here", "_law_found", "_law_offer"] ["_law_pot_here", "_law_offers_here"] (defScope s_Lshuffled) := ⟨rfl, rfl, rfl, by decide +kernel, rfl, by decide +kernel, by decide +kernel⟩
theorem sc_Lfirsts : FnScope ["_law_many", "_law_offers_here", "_law_parts", "_law_found", "_law_number", "_law_a", "_law_b", "_law_price", "_law_one", "_law_other", "_law_part"] ["_law_many", "_law_offers_here"] (defScope s_Lfirsts) := ⟨rfl, rfl, rfl, by decide +kernel, rfl, by decide +kernel, by decide +kernel⟩
theorem sc_Lheld : FnScope ["_law_many", "_law_offers_here", "_law_held_here", "_law_a", "_law_b", "_law_price"] ["_law_many", "_law_offers_here"] (defScope s_Lheld) := ⟨rfl, rfl, rfl, by decide +kernel, rfl, by decide +kernel, by decide +kernel⟩
theorem sc_Lright : FnScope ["_law_pot_here", "_law_many", "_law_offers_here", "_law_light_here", "_law_held_here", "_law_slacks", "_law_due", "_law_number", "_law_pair", "_law_offer", "_law_other", "_law_kept", "_law_alike", "_law_a", "_law_b", "_law_price"] ["_law_pot_here", "_law_many", "_law_offers_here"] (defScope s_Lright) := ⟨rfl, rfl, rfl, by decide +kernel, rfl, by decide +kernel, by decide +kernel⟩
theorem sc_law : FnScope ["_law_script", "_law_pot_here", "_law_turn", "_law_many", "_law_offers_here"] ["_law_script"] (defScope s_law) := ⟨rfl, rfl, rfl, by decide +kernel, rfl, by decide +kernel, by decide +kernel⟩
abbrev s_Holdinginit : Stmt := inClass (topS 27) 0
theorem sc_Holdinginit : FnScope ["self", "many"] ["self", "many"] (defScope s_Holdinginit) := ⟨rfl, rfl, rfl, by decide +kernel, rfl, by decide +kernel, by decide +kernel⟩
abbrev s_Holdingoffer : Stmt := inClass (topS 27) 1
theorem sc_Holdingoffer : FnScope ["self", "a", "b"] ["self", "a", "b"] (defScope s_Holdingoffer) := ⟨rfl, rfl, rfl, by decide +kernel, rfl, by decide +kernel, by decide +kernel⟩
abbrev s_Holdingholds : Stmt := inClass (topS 27) 2
theorem sc_Holdingholds : FnScope ["self", "number"] ["self", "number"] (defScope s_Holdingholds) := ⟨rfl, rfl, rfl, by decide +kernel, rfl, by decide +kernel, by decide +kernel⟩
abbrev s_Holdingholding : Stmt := inClass (topS 27) 3
theorem sc_Holdingholding : FnScope ["self", "number"] ["self"] (defScope s_Holdingholding) := ⟨rfl, rfl, rfl, by decide +kernel, rfl, by decide +kernel, by decide +kernel⟩
abbrev s_Holdingpaper : Stmt := inClass (topS 27) 4
theorem sc_Holdingpaper : FnScope ["self", "number"] ["self"] (defScope s_Holdingpaper) := ⟨rfl, rfl, rfl, by decide +kernel, rfl, by decide +kernel, by decide +kernel⟩
abbrev s_Holdingentry : Stmt := inClass (topS 27) 5
theorem sc_Holdingentry : FnScope ["self", "number", "way", "a"] ["self", "number"] (defScope s_Holdingentry) := ⟨rfl, rfl, rfl, by decide +kernel, rfl, by decide +kernel, by decide +kernel⟩
abbrev s_Holdingwayround : Stmt := inClass (topS 27) 6
theorem sc_Holdingwayround : FnScope ["self", "number", "a", "b"] ["self", "number"] (defScope s_Holdingwayround) := ⟨rfl, rfl, rfl, by decide +kernel, rfl, by decide +kernel, by decide +kernel⟩
abbrev s_Holdingothers : Stmt := inClass (topS 27) 7
theorem sc_Holdingothers : FnScope ["self", "number", "k", "a", "b"] ["self", "number"] (defScope s_Holdingothers) := ⟨rfl, rfl, rfl, by decide +kernel, rfl, by decide +kernel, by decide +kernel⟩
abbrev s_Lightestinit : Stmt := inClass (topS 36) 0
theorem sc_Lightestinit : FnScope ["self", "many"] ["self", "many"] (defScope s_Lightestinit) := ⟨rfl, rfl, rfl, by decide +kernel, rfl, by decide +kernel, by decide +kernel⟩
abbrev s_Lightestoffer : Stmt := inClass (topS 36) 1
theorem sc_Lightestoffer : FnScope ["self", "a", "b", "price", "number", "way", "gone"] ["self", "a", "b", "price"] (defScope s_Lightestoffer) := ⟨rfl, rfl, rfl, by decide +kernel, rfl, by decide +kernel, by decide +kernel⟩
abbrev s_Lightesttie : Stmt := inClass (topS 36) 2
theorem sc_Lightesttie : FnScope ["self", "number"] ["self", "number"] (defScope s_Lightesttie) := ⟨rfl, rfl, rfl, by decide +kernel, rfl, by decide +kernel, by decide +kernel⟩
abbrev s_Lightestkeep : Stmt := inClass (topS 36) 3
theorem sc_Lightestkeep : FnScope ["self", "number"] ["self", "number"] (defScope s_Lightestkeep) := ⟨rfl, rfl, rfl, by decide +kernel, rfl, by decide +kernel, by decide +kernel⟩
abbrev s_Lightestkept : Stmt := inClass (topS 36) 4
theorem sc_Lightestkept : FnScope ["self"] ["self"] (defScope s_Lightestkept) := ⟨rfl, rfl, rfl, by decide +kernel, rfl, by decide +kernel, by decide +kernel⟩
abbrev s_Lightestprice : Stmt := inClass (topS 36) 5
theorem sc_Lightestprice : FnScope ["self", "number"] ["self"] (defScope s_Lightestprice) := ⟨rfl, rfl, rfl, by decide +kernel, rfl, by decide +kernel, by decide +kernel⟩
abbrev s_Lightestslacks : Stmt := inClass (topS 36) 6
theorem sc_Lightestslacks : FnScope ["self", "found", "offer", "number", "way", "price", "k"] ["self"] (defScope s_Lightestslacks) := ⟨rfl, rfl, rfl, by decide +kernel, rfl, by decide +kernel, by decide +kernel⟩
abbrev s_Lightestpaper : Stmt := inClass (topS 36) 7
theorem sc_Lightestpaper : FnScope ["self", "kept", "gone", "number"] ["self"] (defScope s_Lightestpaper) := ⟨rfl, rfl, rfl, by decide +kernel, rfl, by decide +kernel, by decide +kernel⟩
abbrev s_Lightestwayofoffer : Stmt := inClass (topS 36) 8
theorem sc_Lightestwayofoffer : FnScope ["self", "number"] ["self", "number"] (defScope s_Lightestwayofoffer) := ⟨rfl, rfl, rfl, by decide +kernel, rfl, by decide +kernel, by decide +kernel⟩
/-- what the top has left -/
structure Top (K : PySem.W.Frag) (mg : Str → Option Value) where
  a_iswhole : Addr
  d_iswhole : FuncData
  F_iswhole : Fun K "is_whole" "is_whole" s_iswhole a_iswhole d_iswhole
  b_iswhole : Binds K d_iswhole ["thing"] []
  g_iswhole : mg "is_whole" = some (.ref a_iswhole)
  a_arewholes : Addr
  d_arewholes : FuncData
  F_arewholes : Fun K "are_wholes" "are_wholes" s_arewholes a_arewholes d_arewholes
  b_arewholes : Binds K d_arewholes ["thing"] []
  g_arewholes : mg "are_wholes" = some (.ref a_arewholes)
  a_isrising : Addr
  d_isrising : FuncData
  F_isrising : Fun K "is_rising" "is_rising" s_isrising a_isrising d_isrising
  b_isrising : Binds K d_isrising ["row"] []
  g_isrising : mg "is_rising" = some (.ref a_isrising)
  a_hasring : Addr
  d_hasring : FuncData
  F_hasring : Fun K "has_ring" "has_ring" s_hasring a_hasring d_hasring
  b_hasring : Binds K d_hasring ["ties", "many"] []
  g_hasring : mg "has_ring" = some (.ref a_hasring)
  a_topof : Addr
  d_topof : FuncData
  F_topof : Fun K "top_of" "top_of" s_topof a_topof d_topof
  b_topof : Binds K d_topof ["above", "point"] []
  g_topof : mg "top_of" = some (.ref a_topof)
  a_tieof : Addr
  d_tieof : FuncData
  F_tieof : Fun K "tie_of" "tie_of" s_tieof a_tieof d_tieof
  b_tieof : Binds K d_tieof ["a", "b"] []
  g_tieof : mg "tie_of" = some (.ref a_tieof)
  a_refusemissing : Addr
  d_refusemissing : FuncData
  F_refusemissing : Fun K "refuse_missing" "refuse_missing" s_refusemissing a_refusemissing d_refusemissing
  b_refusemissing : Binds K d_refusemissing ["numbers", "many"] []
  g_refusemissing : mg "refuse_missing" = some (.ref a_refusemissing)
  a_wayof : Addr
  d_wayof : FuncData
  F_wayof : Fun K "way_of" "way_of" s_wayof a_wayof d_wayof
  b_wayof : Binds K d_wayof ["forest", "a", "b"] []
  g_wayof : mg "way_of" = some (.ref a_wayof)
  a_partof : Addr
  d_partof : FuncData
  F_partof : Fun K "part_of" "part_of" s_partof a_partof d_partof
  b_partof : Binds K d_partof ["forest", "a"] []
  g_partof : mg "part_of" = some (.ref a_partof)
  a_stepstoward : Addr
  d_stepstoward : FuncData
  F_stepstoward : Fun K "steps_toward" "steps_toward" s_stepstoward a_stepstoward d_stepstoward
  b_stepstoward : Binds K d_stepstoward ["forest", "goal"] []
  g_stepstoward : mg "steps_toward" = some (.ref a_stepstoward)
  a_neighbours : Addr
  d_neighbours : FuncData
  F_neighbours : Fun K "neighbours" "neighbours" s_neighbours a_neighbours d_neighbours
  b_neighbours : Binds K d_neighbours ["forest"] []
  g_neighbours : mg "neighbours" = some (.ref a_neighbours)
  a_refuseends : Addr
  d_refuseends : FuncData
  F_refuseends : Fun K "refuse_ends" "refuse_ends" s_refuseends a_refuseends d_refuseends
  b_refuseends : Binds K d_refuseends ["a", "b", "many"] []
  g_refuseends : mg "refuse_ends" = some (.ref a_refuseends)
  a_asforest : Addr
  d_asforest : FuncData
  F_asforest : Fun K "as_forest" "as_forest" s_asforest a_asforest d_asforest
  b_asforest : Binds K d_asforest ["many", "ties"] []
  g_asforest : mg "as_forest" = some (.ref a_asforest)
  a_offersalong : Addr
  d_offersalong : FuncData
  F_offersalong : Fun K "offers_along" "offers_along" s_offersalong a_offersalong d_offersalong
  b_offersalong : Binds K d_offersalong ["many", "by_tie", "a", "b"] []
  g_offersalong : mg "offers_along" = some (.ref a_offersalong)
  a_areoffers : Addr
  d_areoffers : FuncData
  F_areoffers : Fun K "are_offers" "are_offers" s_areoffers a_areoffers d_areoffers
  b_areoffers : Binds K d_areoffers ["offers", "thing"] []
  g_areoffers : mg "are_offers" = some (.ref a_areoffers)
  a_leadson : Addr
  d_leadson : FuncData
  F_leadson : Fun K "leads_on" "leads_on" s_leadson a_leadson d_leadson
  b_leadson : Binds K d_leadson ["offers", "numbers", "a", "b"] []
  g_leadson : mg "leads_on" = some (.ref a_leadson)
  a_isworded : Addr
  d_isworded : FuncData
  F_isworded : Fun K "is_worded" "is_worded" s_isworded a_isworded d_isworded
  b_isworded : Binds K d_isworded ["thing"] []
  g_isworded : mg "is_worded" = some (.ref a_isworded)
  a_setsapart : Addr
  d_setsapart : FuncData
  F_setsapart : Fun K "sets_apart" "sets_apart" s_setsapart a_setsapart d_setsapart
  b_setsapart : Binds K d_setsapart ["forest", "a", "b", "numbers"] []
  g_setsapart : mg "sets_apart" = some (.ref a_setsapart)
  a_showsholding : Addr
  d_showsholding : FuncData
  F_showsholding : Fun K "shows_holding" "shows_holding" s_showsholding a_showsholding d_showsholding
  b_showsholding : Binds K d_showsholding ["many", "offers", "thing"] []
  g_showsholding : mg "shows_holding" = some (.ref a_showsholding)
  a_isholdentry : Addr
  d_isholdentry : FuncData
  F_isholdentry : Fun K "is_hold_entry" "is_hold_entry" s_isholdentry a_isholdentry d_isholdentry
  b_isholdentry : Binds K d_isholdentry ["many", "offers", "number", "thing"] []
  g_isholdentry : mg "is_hold_entry" = some (.ref a_isholdentry)
  a_iswayround : Addr
  d_iswayround : FuncData
  F_iswayround : Fun K "is_way_round" "is_way_round" s_iswayround a_iswayround d_iswayround
  b_iswayround : Binds K d_iswayround ["offers", "number", "way"] []
  g_iswayround : mg "is_way_round" = some (.ref a_iswayround)
  a_showslightest : Addr
  d_showslightest : FuncData
  F_showslightest : Fun K "shows_lightest" "shows_lightest" s_showslightest a_showslightest d_showslightest
  b_showslightest : Binds K d_showslightest ["many", "offers", "thing"] []
  g_showslightest : mg "shows_lightest" = some (.ref a_showslightest)
  a_arekept : Addr
  d_arekept : FuncData
  F_arekept : Fun K "are_kept" "are_kept" s_arekept a_arekept d_arekept
  b_arekept : Binds K d_arekept ["many", "offers", "thing"] []
  g_arekept : mg "are_kept" = some (.ref a_arekept)
  a_islightpaper : Addr
  d_islightpaper : FuncData
  F_islightpaper : Fun K "is_light_paper" "is_light_paper" s_islightpaper a_islightpaper d_islightpaper
  b_islightpaper : Binds K d_islightpaper ["offers", "kept", "thing"] []
  g_islightpaper : mg "is_light_paper" = some (.ref a_islightpaper)
  a_islightentry : Addr
  d_islightentry : FuncData
  F_islightentry : Fun K "is_light_entry" "is_light_entry" s_islightentry a_islightentry d_islightentry
  b_islightentry : Binds K d_islightentry ["offers", "kept", "number", "thing"] []
  g_islightentry : mg "is_light_entry" = some (.ref a_islightentry)
  a_Lmixed : Addr
  d_Lmixed : FuncData
  F_Lmixed : Fun K "_law_mixed" "_law_mixed" s_Lmixed a_Lmixed d_Lmixed
  b_Lmixed : Binds K d_Lmixed ["_law_cell", "_law_k"] []
  g_Lmixed : mg "_law_mixed" = some (.ref a_Lmixed)
  a_Lpot : Addr
  d_Lpot : FuncData
  F_Lpot : Fun K "_law_pot" "_law_pot" s_Lpot a_Lpot d_Lpot
  b_Lpot : Binds K d_Lpot ["_law_script"] []
  g_Lpot : mg "_law_pot" = some (.ref a_Lpot)
  a_Ltake : Addr
  d_Ltake : FuncData
  F_Ltake : Fun K "_law_take" "_law_take" s_Ltake a_Ltake d_Ltake
  b_Ltake : Binds K d_Ltake ["_law_pot_here", "_law_many"] []
  g_Ltake : mg "_law_take" = some (.ref a_Ltake)
  a_Loffers : Addr
  d_Loffers : FuncData
  F_Loffers : Fun K "_law_offers" "_law_offers" s_Loffers a_Loffers d_Loffers
  b_Loffers : Binds K d_Loffers ["_law_pot_here"] []
  g_Loffers : mg "_law_offers" = some (.ref a_Loffers)
  a_Llight : Addr
  d_Llight : FuncData
  F_Llight : Fun K "_law_light" "_law_light" s_Llight a_Llight d_Llight
  b_Llight : Binds K d_Llight ["_law_many", "_law_offers_here"] []
  g_Llight : mg "_law_light" = some (.ref a_Llight)
  a_Lshuffled : Addr
  d_Lshuffled : FuncData
  F_Lshuffled : Fun K "_law_shuffled" "_law_shuffled" s_Lshuffled a_Lshuffled d_Lshuffled
  b_Lshuffled : Binds K d_Lshuffled ["_law_pot_here", "_law_offers_here"] []
  g_Lshuffled : mg "_law_shuffled" = some (.ref a_Lshuffled)
  a_Lfirsts : Addr
  d_Lfirsts : FuncData
  F_Lfirsts : Fun K "_law_firsts" "_law_firsts" s_Lfirsts a_Lfirsts d_Lfirsts
  b_Lfirsts : Binds K d_Lfirsts ["_law_many", "_law_offers_here"] []
  g_Lfirsts : mg "_law_firsts" = some (.ref a_Lfirsts)
  a_Lheld : Addr
  d_Lheld : FuncData
  F_Lheld : Fun K "_law_held" "_law_held" s_Lheld a_Lheld d_Lheld
  b_Lheld : Binds K d_Lheld ["_law_many", "_law_offers_here"] []
  g_Lheld : mg "_law_held" = some (.ref a_Lheld)
  a_Lright : Addr
  d_Lright : FuncData
  F_Lright : Fun K "_law_right" "_law_right" s_Lright a_Lright d_Lright
  b_Lright : Binds K d_Lright ["_law_pot_here", "_law_many", "_law_offers_here"] []
  g_Lright : mg "_law_right" = some (.ref a_Lright)
  a_law : Addr
  d_law : FuncData
  F_law : Fun K "law" "law" s_law a_law d_law
  b_law : Binds K d_law ["_law_script"] []
  g_law : mg "law" = some (.ref a_law)
  C_Lightest : Addr
  cl_Lightest : Cls K C_Lightest
  mg_Lightest : mg "Lightest" = some (.ref C_Lightest)
  na_Lightest_many : NoAttr K C_Lightest "many"
  na_Lightest_offers : NoAttr K C_Lightest "offers"
  na_Lightest_by_tie : NoAttr K C_Lightest "by_tie"
  a_Lightestinit : Addr
  d_Lightestinit : FuncData
  F_Lightestinit : Fun K "__init__" "Lightest.__init__" s_Lightestinit a_Lightestinit d_Lightestinit
  b_Lightestinit : Binds K d_Lightestinit ["self", "many"] []
  mk_Lightest : Mk K C_Lightest a_Lightestinit
  a_Lightestoffer : Addr
  d_Lightestoffer : FuncData
  F_Lightestoffer : Fun K "offer" "Lightest.offer" s_Lightestoffer a_Lightestoffer d_Lightestoffer
  b_Lightestoffer : Binds K d_Lightestoffer ["self", "a", "b", "price"] []
  me_Lightestoffer : Meth K C_Lightest "offer" a_Lightestoffer
  a_Lightesttie : Addr
  d_Lightesttie : FuncData
  F_Lightesttie : Fun K "tie" "Lightest.tie" s_Lightesttie a_Lightesttie d_Lightesttie
  b_Lightesttie : Binds K d_Lightesttie ["self", "number"] []
  me_Lightesttie : Meth K C_Lightest "tie" a_Lightesttie
  a_Lightestkeep : Addr
  d_Lightestkeep : FuncData
  F_Lightestkeep : Fun K "keep" "Lightest.keep" s_Lightestkeep a_Lightestkeep d_Lightestkeep
  b_Lightestkeep : Binds K d_Lightestkeep ["self", "number"] []
  me_Lightestkeep : Meth K C_Lightest "keep" a_Lightestkeep
  a_Lightestkept : Addr
  d_Lightestkept : FuncData
  F_Lightestkept : Fun K "kept" "Lightest.kept" s_Lightestkept a_Lightestkept d_Lightestkept
  b_Lightestkept : Binds K d_Lightestkept ["self"] []
  me_Lightestkept : Meth K C_Lightest "kept" a_Lightestkept
  a_Lightestprice : Addr
  d_Lightestprice : FuncData
  F_Lightestprice : Fun K "price" "Lightest.price" s_Lightestprice a_Lightestprice d_Lightestprice
  b_Lightestprice : Binds K d_Lightestprice ["self"] []
  me_Lightestprice : Meth K C_Lightest "price" a_Lightestprice
  a_Lightestslacks : Addr
  d_Lightestslacks : FuncData
  F_Lightestslacks : Fun K "slacks" "Lightest.slacks" s_Lightestslacks a_Lightestslacks d_Lightestslacks
  b_Lightestslacks : Binds K d_Lightestslacks ["self"] []
  me_Lightestslacks : Meth K C_Lightest "slacks" a_Lightestslacks
  a_Lightestpaper : Addr
  d_Lightestpaper : FuncData
  F_Lightestpaper : Fun K "paper" "Lightest.paper" s_Lightestpaper a_Lightestpaper d_Lightestpaper
  b_Lightestpaper : Binds K d_Lightestpaper ["self"] []
  me_Lightestpaper : Meth K C_Lightest "paper" a_Lightestpaper
  a_Lightestwayofoffer : Addr
  d_Lightestwayofoffer : FuncData
  F_Lightestwayofoffer : Fun K "way_of_offer" "Lightest.way_of_offer" s_Lightestwayofoffer a_Lightestwayofoffer d_Lightestwayofoffer
  b_Lightestwayofoffer : Binds K d_Lightestwayofoffer ["self", "number"] []
  me_Lightestwayofoffer : Meth K C_Lightest "way_of_offer" a_Lightestwayofoffer
  C_Holding : Addr
  cl_Holding : Cls K C_Holding
  mg_Holding : mg "Holding" = some (.ref C_Holding)
  na_Holding_many : NoAttr K C_Holding "many"
  na_Holding_offers : NoAttr K C_Holding "offers"
  a_Holdinginit : Addr
  d_Holdinginit : FuncData
  F_Holdinginit : Fun K "__init__" "Holding.__init__" s_Holdinginit a_Holdinginit d_Holdinginit
  b_Holdinginit : Binds K d_Holdinginit ["self", "many"] []
  mk_Holding : Mk K C_Holding a_Holdinginit
  a_Holdingoffer : Addr
  d_Holdingoffer : FuncData
  F_Holdingoffer : Fun K "offer" "Holding.offer" s_Holdingoffer a_Holdingoffer d_Holdingoffer
  b_Holdingoffer : Binds K d_Holdingoffer ["self", "a", "b"] []
  me_Holdingoffer : Meth K C_Holding "offer" a_Holdingoffer
  a_Holdingholds : Addr
  d_Holdingholds : FuncData
  F_Holdingholds : Fun K "holds" "Holding.holds" s_Holdingholds a_Holdingholds d_Holdingholds
  b_Holdingholds : Binds K d_Holdingholds ["self", "number"] []
  me_Holdingholds : Meth K C_Holding "holds" a_Holdingholds
  a_Holdingholding : Addr
  d_Holdingholding : FuncData
  F_Holdingholding : Fun K "holding" "Holding.holding" s_Holdingholding a_Holdingholding d_Holdingholding
  b_Holdingholding : Binds K d_Holdingholding ["self"] []
  me_Holdingholding : Meth K C_Holding "holding" a_Holdingholding
  a_Holdingpaper : Addr
  d_Holdingpaper : FuncData
  F_Holdingpaper : Fun K "paper" "Holding.paper" s_Holdingpaper a_Holdingpaper d_Holdingpaper
  b_Holdingpaper : Binds K d_Holdingpaper ["self"] []
  me_Holdingpaper : Meth K C_Holding "paper" a_Holdingpaper
  a_Holdingentry : Addr
  d_Holdingentry : FuncData
  F_Holdingentry : Fun K "entry" "Holding.entry" s_Holdingentry a_Holdingentry d_Holdingentry
  b_Holdingentry : Binds K d_Holdingentry ["self", "number"] []
  me_Holdingentry : Meth K C_Holding "entry" a_Holdingentry
  a_Holdingwayround : Addr
  d_Holdingwayround : FuncData
  F_Holdingwayround : Fun K "way_round" "Holding.way_round" s_Holdingwayround a_Holdingwayround d_Holdingwayround
  b_Holdingwayround : Binds K d_Holdingwayround ["self", "number"] []
  me_Holdingwayround : Meth K C_Holding "way_round" a_Holdingwayround
  a_Holdingothers : Addr
  d_Holdingothers : FuncData
  F_Holdingothers : Fun K "others" "Holding.others" s_Holdingothers a_Holdingothers d_Holdingothers
  b_Holdingothers : Binds K d_Holdingothers ["self", "number"] []
  me_Holdingothers : Meth K C_Holding "others" a_Holdingothers
  m_abs : mg "abs" = none
  m_all : mg "all" = none
  m_bool : mg "bool" = none
  m_enumerate : mg "enumerate" = none
  m_int : mg "int" = none
  m_isinstance : mg "isinstance" = none
  m_len : mg "len" = none
  m_list : mg "list" = none
  m_max : mg "max" = none
  m_min : mg "min" = none
  m_range : mg "range" = none
  m_set : mg "set" = none
  m_sorted : mg "sorted" = none
  m_str : mg "str" = none
  m_sum : mg "sum" = none
  m_tuple : mg "tuple" = none
  m_zip : mg "zip" = none
  cA : Addr
  PA : Addr
  hcA : d_arewholes.code = .ref cA
  cR : Addr
  PR : Addr
  hcR : d_isrising.code = .ref cR
  cO : Addr
  PO : Addr
  hcO : d_areoffers.code = .ref cO
  cP : Addr
  PP : Addr
  hcP : d_islightpaper.code = .ref cP
  cE : Addr
  PE : Addr
  hcE : d_islightentry.code = .ref cE
  cS : Addr
  PS : Addr
  hcS : d_setsapart.code = .ref cS
  cH : Addr
  PH : Addr
  hcH : d_showsholding.code = .ref cH
  cM : Addr
  PM : Addr
  hcM : d_refusemissing.code = .ref cM
  cL : Addr
  PL : Addr
  hcL : d_Lightestoffer.code = .ref cL
  neP : ([PA, PR, PO, PP, PE, PS, PH, PM, PL] : List Addr).Nodup
end My
namespace My
open PySem L2
theorem tabg_same {H H' : Hp} {P : Addr} (s : Same H H') (g : GxR.TabG H P) : GxR.TabG H' P := by
  obtain ⟨ps, h, t⟩ := g
  exact ⟨ps, s _ _ h, t⟩
/-! ### the tables of code made on the way: what is no table stays -/
theorem But.of_same {P : Addr} {H H' : Hp} (s : Same H H') : But P H H' := fun a o e _ => s a o e
theorem But.of_tab {P : Addr} {H H' : Hp} (t : GxR.Tabbed P H H') : But P H H' := fun a o e n => (t.2 a n).trans e
theorem Kp.of_but {P : Addr} {H H' : Hp} (g : GxR.TabG H P) (k : But P H H') : Kp H H' := fun a o e n => by
  refine k a o e fun h => ?_
  subst h
  obtain ⟨ps, hp, _⟩ := g
  rw [hp] at e
  exact n ps (Option.some.inj e).symm
theorem TabG.ne {P a : Addr} {H : Hp} {o : HO} (g : GxR.TabG H P) (e : H a = some o) (n : ∀ ps, o ≠ .tbl ps) : a ≠ P := fun h => by
  subst h
  obtain ⟨ps, hp, _⟩ := g
  rw [hp] at e
  exact n ps (Option.some.inj e).symm
/-! ### tables kept -/
theorem tabs_same {H H' : Hp} {P : Addr} {q : Str} (s : Same H H') (g : LamX.TabS H P q) : LamX.TabS H' P q := g.ext s
/-- the other table's writing -/
theorem tabs_other {H H' : Hp} {P R : Addr} {q : Str} (n : P ≠ R) (gR : GxR.TabG H R) (k : But R H H') (g : LamX.TabS H P q) : LamX.TabS H' P q := by
  obtain ⟨ps, hp, t, e⟩ := g
  refine ⟨ps, k _ _ hp n, t, fun pos cv hc => ?_⟩
  obtain ⟨c, e1, e2⟩ := e pos cv hc
  exact ⟨c, e1, k _ _ e2 (TabG.ne gR e2 LamX.codeO_ne)⟩
theorem tabg_other {H H' : Hp} {P R : Addr} (n : R ≠ P) (k : But P H H') (g : GxR.TabG H R) : GxR.TabG H' R := by
  obtain ⟨ps, hp, t⟩ := g
  exact ⟨ps, k _ _ hp n, t⟩
theorem TabS.g {H : Hp} {P : Addr} {q : Str} (g : LamX.TabS H P q) : GxR.TabG H P := by
  obtain ⟨ps, hp, t, _⟩ := g
  exact ⟨ps, hp, t⟩
theorem Tups.of_tab {K : PySem.W.Frag} {H H' : Hp} {P : Addr} (g : GxR.TabG H P) (k : But P H H') : Tups K H H' := fun a xs h => by
  rcases h with h | h
  · rcases h with h | ⟨o, h⟩
    · exact .inl (.inl (k _ _ h (TabG.ne g h (by intro ps z; cases z))))
    · exact .inl (.inr ⟨o, k _ _ h (TabG.ne g h (by intro ps z; cases z))⟩)
  · exact .inr h

theorem Tups.of_kp {K : PySem.W.Frag} {H H' : Hp} (k : Kp H H') : Tups K H H' := fun a xs h => by
  rcases h with h | h
  · rcases h with h | ⟨o, h⟩
    · exact .inl (.inl (k _ _ h (by intro ps z; cases z)))
    · exact .inl (.inr ⟨o, k _ _ h (by intro ps z; cases z)⟩)
  · exact .inr h
theorem Kp.same {H H1 H2 : Hp} (k : Kp H H1) (s : Same H1 H2) : Kp H H2 := k.trans (Kp.of_same s)
/-- each table as it has to be: of generators (none), of lambdas that stand in one def (its name) -/
def Tb (ts : List (Addr × Option Str)) (H : Hp) : Prop := ∀ t ∈ ts, match t.2 with | none => GxR.TabG H t.1 | some q => LamX.TabS H t.1 q
section
variable {ts : List (Addr × Option Str)} {H H' : Hp}
theorem Tb.g {P : Addr} (h : Tb ts H) (m : (P, none) ∈ ts) : GxR.TabG H P := h _ m
theorem Tb.s {P : Addr} {q : Str} (h : Tb ts H) (m : (P, some q) ∈ ts) : LamX.TabS H P q := h _ m
theorem Tb.mk (h : ∀ P, (P, none) ∈ ts → GxR.TabG H P) (k : ∀ P q, (P, some q) ∈ ts → LamX.TabS H P q) : Tb ts H := fun t m => by
  obtain ⟨P, o⟩ := t
  cases o with
  | none => exact h P m
  | some q => exact k P q m
theorem Tb.same (h : Tb ts H) (s : Same H H') : Tb ts H' := .mk (fun P m => tabg_same s (h.g m)) (fun P q m => tabs_same s (h.s m))
theorem nd_fst : ∀ {ts : List (Addr × Option Str)}, (ts.map (·.1)).Nodup → ∀ {x y : Addr × Option Str}, x ∈ ts → y ∈ ts → x.1 = y.1 → x = y
  | [], _, _, _, hx, _, _ => nomatch hx
  | t :: r, nd, x, y, hx, hy, e => by
    rw [List.map_cons, List.nodup_cons] at nd
    rcases List.mem_cons.mp hx with e1 | h1
    · rcases List.mem_cons.mp hy with e2 | h2
      · rw [e1, e2]
      · exact absurd (List.mem_map.mpr ⟨y, h2, by rw [← e, e1]⟩) nd.1
    · rcases List.mem_cons.mp hy with e2 | h2
      · exact absurd (List.mem_map.mpr ⟨x, h1, by rw [e, e2]⟩) nd.1
      · exact nd_fst nd.2 h1 h2 e
/-- one of generators was written -/
theorem Tb.tab {P : Addr} (h : Tb ts H) (nd : (ts.map (·.1)).Nodup) (m : (P, none) ∈ ts) (k : But P H H') (g : GxR.TabG H' P) : Tb ts H' := by
  refine .mk (fun R mR => ?_) (fun R q mR => ?_)
  · by_cases e : R = P
    · subst e
      exact g
    · exact tabg_other e k (h.g mR)
  · refine tabs_other (fun e => ?_) (h.g m) k (h.s mR)
    subst e
    cases nd_fst nd m mR rfl
/-- one of lambdas was written -/
theorem Tb.lam {P : Addr} {q : Str} (h : Tb ts H) (nd : (ts.map (·.1)).Nodup) (m : (P, some q) ∈ ts) (k : But P H H') (g : LamX.TabS H' P q) : Tb ts H' := by
  refine .mk (fun R mR => ?_) (fun R q2 mR => ?_)
  · refine tabg_other (fun e => ?_) k (h.g mR)
    subst e
    cases nd_fst nd m mR rfl
  · by_cases e : R = P
    · subst e
      cases nd_fst nd m mR rfl
      exact g
    · exact tabs_other e (TabS.g (h.s m)) k (h.s mR)
end

section
variable {K : PySem.W.Frag} {mg : Str → Option Value}
def Top.tbs (T : Top K mg) : List (Addr × Option Str) := [(T.PA, none), (T.PR, none), (T.PO, none), (T.PP, none), (T.PE, none), (T.PS, none), (T.PH, none), (T.PM, none), (T.PL, some ("Lightest.offer.<locals>.<lambda>" : Str))]
theorem Top.mA (T : Top K mg) : (T.PA, none) ∈ T.tbs := List.mem_cons_self
theorem Top.mR (T : Top K mg) : (T.PR, none) ∈ T.tbs := (List.mem_cons_of_mem _ List.mem_cons_self)
theorem Top.mO (T : Top K mg) : (T.PO, none) ∈ T.tbs := (List.mem_cons_of_mem _ (List.mem_cons_of_mem _ List.mem_cons_self))
theorem Top.mP (T : Top K mg) : (T.PP, none) ∈ T.tbs := (List.mem_cons_of_mem _ (List.mem_cons_of_mem _ (List.mem_cons_of_mem _ List.mem_cons_self)))
theorem Top.mE (T : Top K mg) : (T.PE, none) ∈ T.tbs := (List.mem_cons_of_mem _ (List.mem_cons_of_mem _ (List.mem_cons_of_mem _ (List.mem_cons_of_mem _ List.mem_cons_self))))
theorem Top.mS (T : Top K mg) : (T.PS, none) ∈ T.tbs := (List.mem_cons_of_mem _ (List.mem_cons_of_mem _ (List.mem_cons_of_mem _ (List.mem_cons_of_mem _ (List.mem_cons_of_mem _ List.mem_cons_self)))))
theorem Top.mH (T : Top K mg) : (T.PH, none) ∈ T.tbs := (List.mem_cons_of_mem _ (List.mem_cons_of_mem _ (List.mem_cons_of_mem _ (List.mem_cons_of_mem _ (List.mem_cons_of_mem _ (List.mem_cons_of_mem _ List.mem_cons_self))))))
theorem Top.mM (T : Top K mg) : (T.PM, none) ∈ T.tbs := (List.mem_cons_of_mem _ (List.mem_cons_of_mem _ (List.mem_cons_of_mem _ (List.mem_cons_of_mem _ (List.mem_cons_of_mem _ (List.mem_cons_of_mem _ (List.mem_cons_of_mem _ List.mem_cons_self)))))))
theorem Top.mL (T : Top K mg) : (T.PL, some ("Lightest.offer.<locals>.<lambda>" : Str)) ∈ T.tbs := (List.mem_cons_of_mem _ (List.mem_cons_of_mem _ (List.mem_cons_of_mem _ (List.mem_cons_of_mem _ (List.mem_cons_of_mem _ (List.mem_cons_of_mem _ (List.mem_cons_of_mem _ (List.mem_cons_of_mem _ List.mem_cons_self))))))))
theorem Top.nd (T : Top K mg) : (T.tbs.map (·.1)).Nodup := T.neP
structure TBs (T : Top K mg) (base : Heap) : Prop where
  A : GxR.TabB base mg T.cA T.PA
  R : GxR.TabB base mg T.cR T.PR
  O : GxR.TabB base mg T.cO T.PO
  P : GxR.TabB base mg T.cP T.PP
  E : GxR.TabB base mg T.cE T.PE
  S : GxR.TabB base mg T.cS T.PS
  H : GxR.TabB base mg T.cH T.PH
  M : GxR.TabB base mg T.cM T.PM
  L : LamX.TabB base mg T.cL T.PL
theorem tbs0 (T : Top K mg) {H : Hp} (hA : H T.PA = some (.tbl #[])) (hR : H T.PR = some (.tbl #[])) (hO : H T.PO = some (.tbl #[])) (hP : H T.PP = some (.tbl #[])) (hE : H T.PE = some (.tbl #[])) (hS : H T.PS = some (.tbl #[])) (hH : H T.PH = some (.tbl #[])) (hM : H T.PM = some (.tbl #[])) (hL : H T.PL = some (.tbl #[])) : Tb T.tbs H := by
  intro t m
  rcases List.mem_cons.mp m with rfl | m
  · exact ⟨#[], hA, True.intro⟩
  rcases List.mem_cons.mp m with rfl | m
  · exact ⟨#[], hR, True.intro⟩
  rcases List.mem_cons.mp m with rfl | m
  · exact ⟨#[], hO, True.intro⟩
  rcases List.mem_cons.mp m with rfl | m
  · exact ⟨#[], hP, True.intro⟩
  rcases List.mem_cons.mp m with rfl | m
  · exact ⟨#[], hE, True.intro⟩
  rcases List.mem_cons.mp m with rfl | m
  · exact ⟨#[], hS, True.intro⟩
  rcases List.mem_cons.mp m with rfl | m
  · exact ⟨#[], hH, True.intro⟩
  rcases List.mem_cons.mp m with rfl | m
  · exact ⟨#[], hM, True.intro⟩
  rw [List.mem_singleton.mp m]
  exact LamX.TabS.nil hL
end
theorem mem1 {α : Type} {p a : α} (h : p ∈ [a]) : p = a := List.mem_singleton.mp h
theorem mem2 {α : Type} {p a0 a1 : α} (h : p ∈ [a0, a1]) : p = a0 ∨ p = a1 := (List.mem_cons.mp h).imp id mem1
theorem mem3 {α : Type} {p a0 a1 a2 : α} (h : p ∈ [a0, a1, a2]) : p = a0 ∨ p = a1 ∨ p = a2 := (List.mem_cons.mp h).imp id mem2
theorem mem4 {α : Type} {p a0 a1 a2 a3 : α} (h : p ∈ [a0, a1, a2, a3]) : p = a0 ∨ p = a1 ∨ p = a2 ∨ p = a3 := (List.mem_cons.mp h).imp id mem3
theorem mem5 {α : Type} {p a0 a1 a2 a3 a4 : α} (h : p ∈ [a0, a1, a2, a3, a4]) : p = a0 ∨ p = a1 ∨ p = a2 ∨ p = a3 ∨ p = a4 := (List.mem_cons.mp h).imp id mem4
theorem mem6 {α : Type} {p a0 a1 a2 a3 a4 a5 : α} (h : p ∈ [a0, a1, a2, a3, a4, a5]) : p = a0 ∨ p = a1 ∨ p = a2 ∨ p = a3 ∨ p = a4 ∨ p = a5 := (List.mem_cons.mp h).imp id mem5
theorem mem7 {α : Type} {p a0 a1 a2 a3 a4 a5 a6 : α} (h : p ∈ [a0, a1, a2, a3, a4, a5, a6]) : p = a0 ∨ p = a1 ∨ p = a2 ∨ p = a3 ∨ p = a4 ∨ p = a5 ∨ p = a6 := (List.mem_cons.mp h).imp id mem6
theorem mem8 {α : Type} {p a0 a1 a2 a3 a4 a5 a6 a7 : α} (h : p ∈ [a0, a1, a2, a3, a4, a5, a6, a7]) : p = a0 ∨ p = a1 ∨ p = a2 ∨ p = a3 ∨ p = a4 ∨ p = a5 ∨ p = a6 ∨ p = a7 := (List.mem_cons.mp h).imp id mem7
theorem mem9 {α : Type} {p a0 a1 a2 a3 a4 a5 a6 a7 a8 : α} (h : p ∈ [a0, a1, a2, a3, a4, a5, a6, a7, a8]) : p = a0 ∨ p = a1 ∨ p = a2 ∨ p = a3 ∨ p = a4 ∨ p = a5 ∨ p = a6 ∨ p = a7 ∨ p = a8 := (List.mem_cons.mp h).imp id mem8
end My
namespace My
open PySem L2
/-! ### pairs of whole numbers in the heap -/
inductive PAll (H : Hp) : List V → List (Int × Int) → Prop
  | nil : PAll H [] []
  | cons {t : Addr} {x y : Int} {vs : List V} {ts : List (Int × Int)} : H t = some (.tup [.int x, .int y]) → PAll H vs ts → PAll H (.ref t :: vs) ((x, y) :: ts)
theorem PAll.mono {H H' : Hp} (s : ∀ t x y, H t = some (.tup [.int x, .int y]) → H' t = some (.tup [.int x, .int y])) : ∀ {vs : List V} {ts : List (Int × Int)}, PAll H vs ts → PAll H' vs ts
  | _, _, .nil => .nil
  | _, _, .cons h k => .cons (s _ _ _ h) (PAll.mono s k)
theorem PAll.same {H H' : Hp} (s : Same H H') {vs : List V} {ts : List (Int × Int)} (h : PAll H vs ts) : PAll H' vs ts := h.mono fun _ _ _ e => s _ _ e
theorem PAll.kp {H H' : Hp} (k : Kp H H') {vs : List V} {ts : List (Int × Int)} (h : PAll H vs ts) : PAll H' vs ts := h.mono fun _ _ _ e => k _ _ e (by intro ps z; cases z)
theorem PAll.put {H : Hp} {l : Addr} {xs : List V} {o : HO} (e : H l = some (.lst xs)) {vs : List V} {ts : List (Int × Int)} (h : PAll H vs ts) : PAll (upd H l o) vs ts := h.mono fun t _ _ z => by
  rw [upd_ne (ne_of z e (by intro z; cases z))]
  exact z
theorem PAll.snoc {H : Hp} {t : Addr} {x y : Int} (e : H t = some (.tup [.int x, .int y])) : ∀ {vs : List V} {ts : List (Int × Int)}, PAll H vs ts → PAll H (vs ++ [.ref t]) (ts ++ [(x, y)])
  | _, _, .nil => .cons e .nil
  | _, _, .cons h k => .cons h (PAll.snoc e k)
theorem PAll.append {H : Hp} : ∀ {vs us : List V} {ts ss : List (Int × Int)}, PAll H vs ts → PAll H us ss → PAll H (vs ++ us) (ts ++ ss)
  | _, _, _, _, .nil, k => k
  | _, _, _, _, .cons h k, z => .cons h (k.append z)
theorem PAll.take {H : Hp} : ∀ {vs : List V} {ts : List (Int × Int)}, PAll H vs ts → ∀ n : Nat, PAll H (vs.take n) (ts.take n)
  | _, _, .nil, n => by
    rw [List.take_nil, List.take_nil]
    exact .nil
  | _, _, .cons h k, 0 => .nil
  | _, _, .cons h k, n + 1 => .cons h (k.take n)
theorem PAll.drop {H : Hp} : ∀ {vs : List V} {ts : List (Int × Int)}, PAll H vs ts → ∀ n : Nat, PAll H (vs.drop n) (ts.drop n)
  | _, _, .nil, n => by
    rw [List.drop_nil, List.drop_nil]
    exact .nil
  | _, _, .cons h k, 0 => .cons h k
  | _, _, .cons h k, n + 1 => k.drop n
theorem PAll.length {H : Hp} : ∀ {vs : List V} {ts : List (Int × Int)}, PAll H vs ts → vs.length = ts.length
  | _, _, .nil => rfl
  | _, _, .cons _ k => congrArg (· + 1) k.length
theorem PAll.at {H : Hp} : ∀ {vs : List V} {ts : List (Int × Int)}, PAll H vs ts → ∀ {i : Nat} {v : V}, vs[i]? = some v → ∃ t u, v = .ref t ∧ ts[i]? = some u ∧ H t = some (.tup [.int u.1, .int u.2])
  | _, _, .nil, i, v, h => by
    rw [List.getElem?_nil] at h
    cases h
  | _, _, .cons (t := t) (x := x) (y := y) e r, 0, v, h => ⟨t, (x, y), (Option.some.inj h).symm, rfl, e⟩
  | _, _, .cons e r, i + 1, v, h => PAll.at r (i := i) h
theorem PAll.get {H : Hp} : ∀ {vs : List V} {ts : List (Int × Int)}, PAll H vs ts → ∀ {i : Nat} {u : Int × Int}, ts[i]? = some u → ∃ t, vs[i]? = some (.ref t) ∧ H t = some (.tup [.int u.1, .int u.2])
  | _, _, .nil, i, u, h => by
    rw [List.getElem?_nil] at h
    cases h
  | _, _, .cons (t := t) e r, 0, u, h => by
    cases Option.some.inj h
    exact ⟨t, rfl, e⟩
  | _, _, .cons e r, i + 1, u, h => PAll.get r (i := i) h
/-- the pair at a number -/
theorem PAll.ix {H : Hp} {vs : List V} {ts : List (Int × Int)} (h : PAll H vs ts) {n : Int} {u : Int × Int} (n0 : 0 ≤ n) (hu : ts[n.toNat]? = some u) : ∃ t, atI vs n = some (.ref t) ∧ H t = some (.tup [.int u.1, .int u.2]) := by
  obtain ⟨t, h1, h2⟩ := h.get hu
  have e : n = ((n.toNat : Nat) : Int) := (Int.toNat_of_nonneg n0).symm
  exact ⟨t, by rw [e]; exact atI_nat h1, h2⟩
theorem Kp.of_tabd {P : Addr} {H H' : Hp} (g : GxR.TabG H P) (t : GxR.Tabbed P H H') : Kp H H' := Kp.of_but g (But.of_tab t)
theorem Kp.tup {H H' : Hp} (k : Kp H H') {t : Addr} {xs : List V} (e : H t = some (.tup xs)) : H' t = some (.tup xs) := k _ _ e (by intro ps z; cases z)
theorem Kp.lst {H H' : Hp} (k : Kp H H') {t : Addr} {xs : List V} (e : H t = some (.lst xs)) : H' t = some (.lst xs) := k _ _ e (by intro ps z; cases z)
theorem same_refl {H : Hp} : Same H H := fun _ _ e => e
theorem same_put {H H1 : Hp} {d : Addr} {o : HO} (s : Same H H1) (n : H d = none) : Same H (upd H1 d o) := fun b u z => by
  rw [upd_ne (ne_of_none z n)]
  exact s b u z
theorem take_at {α : Type} {xs : List α} {i : Nat} {x : α} (h : xs[i]? = some x) : xs.take (i + 1) = xs.take i ++ [x] := by
  rw [List.take_succ, h]
  rfl
theorem ne_int {x y : Int} (z : (!decide (V.int x = V.int y)) = true) : x ≠ y := fun e => by
  subst e
  rw [decide_eq_true rfl] at z
  cases z
theorem eq_int {x y : Int} (z : ¬ (!decide (V.int x = V.int y)) = true) : x = y := by
  by_cases e : x = y
  · exact e
  · exact absurd (by rw [decide_eq_false fun h => e (V.int.inj h)]; rfl) z
theorem nil_whole : HT.sIx ([] : List V).length 0 (some 1) = 0 ∧ HT.sIx ([] : List V).length ([] : List V).length none = ([] : List V).length := by decide
theorem not_whole {x : V} {ps : List V} : ¬ (HT.sIx (x :: ps).length 0 (some 1) = 0 ∧ HT.sIx (x :: ps).length (x :: ps).length none = (x :: ps).length) := by
  rintro ⟨z1, _⟩
  have e1 : HT.sIx (x :: ps).length 0 (some 1) = 1 := by
    rw [show (1 : Int) = ((1 : Nat) : Int) from rfl, HT.sIx_nat, List.length_cons]
    omega
  rw [e1] at z1
  exact nomatch z1
theorem no_part {σ : L2.St} {H : Hp} {Q : Option Int → Hp → Prop} (h : Q none H) : tNoPart σ H Q := h
theorem cutV_whole {xs : List V} {lo hi : Option Int} (h : HT.sIx xs.length 0 lo = 0 ∧ HT.sIx xs.length xs.length hi = xs.length) : cutV xs lo hi = xs := by
  unfold cutV
  rw [h.1, h.2, List.drop_zero, Nat.sub_zero, List.take_length]
theorem slA {K : PySem.W.Frag} {x : V} {lo hi : Option Int} {H : Hp} {Q : VK} {t : Addr} {xs : List V} (ex : x = .ref t) (h : H t = some (.tup xs)) (k : ∀ (p : Addr) (H' : Hp), Same H H' → H' p = some (.tup (cutV xs lo hi)) → Q (.ref p) H') : rSlA K x lo hi H Q :=
  ⟨t, xs, ex, SqT.of h, fun wh => k t H (fun _ _ e => e) (by rw [cutV_whole wh]; exact h), fun _ p np => k p _ (same_new np) upd_same⟩
theorem catA {K : PySem.W.Frag} {x y : V} {H : Hp} {Q : VK} {a b : Addr} {xs ys : List V} (ex : x = .ref a) (ey : y = .ref b) (h1 : H a = some (.tup xs)) (h2 : H b = some (.tup ys)) (l : xs.length + ys.length ≤ sizeLine) (k : ∀ (p : Addr) (H' : Hp), Same H H' → H' p = some (.tup (xs ++ ys)) → Q (.ref p) H') : rCatA K x y H Q :=
  ⟨a, b, xs, ys, ex, ey, SqT.of h1, SqT.of h2, l, fun e => k b H (fun _ _ e => e) (by rw [e]; exact h2), fun _ e => k a H (fun _ _ e => e) (by rw [e, List.append_nil]; exact h1), fun _ _ p np => k p _ (same_new np) upd_same⟩
/-- true just where p is so -/
noncomputable def dcd (p : Prop) : Bool := @decide p (Classical.propDecidable p)
theorem dcd_t {p : Prop} (h : p) : dcd p = true := by
  classical
  unfold dcd
  exact decide_eq_true h
theorem dcd_f {p : Prop} (h : ¬ p) : dcd p = false := by
  classical
  unfold dcd
  exact decide_eq_false h
theorem dcd_iff {p q : Prop} (h : p ↔ q) : dcd p = dcd q := by
  by_cases a : p
  · rw [dcd_t a, dcd_t (h.mp a)]
  · rw [dcd_f a, dcd_f fun z => a (h.mpr z)]
theorem of_dcd {p : Prop} (h : dcd p = true) : p := by
  by_cases a : p
  · exact a
  · rw [dcd_f a] at h
    cases h
theorem dcd_dec {p : Prop} [Decidable p] : dcd p = decide p := by
  by_cases a : p
  · rw [dcd_t a, decide_eq_true a]
  · rw [dcd_f a, decide_eq_false a]

theorem inV_ints (x : Int) : ∀ l : List Int, inV (.int x) (l.map V.int) = decide (x ∈ l)
  | [] => rfl
  | y :: r => by
    have ih := inV_ints x r
    unfold inV at ih ⊢
    rw [List.map_cons, List.any_cons, ih]
    by_cases e : y = x
    · subst e
      simp [eqV]
    · have e2 : ¬ x = y := fun z => e z.symm
      simp [eqV, e, e2]
theorem flat_ints : ∀ l : List Int, (l.map V.int).all flatV = true
  | [] => rfl
  | _ :: r => by
    rw [List.map_cons, List.all_cons, flat_ints r]
    rfl

end My
namespace My
open PySem L2
/-! ### offers, ways along them, banks -/
abbrev Ofs := List (Int × Int)
def endO (t : Int × Int) (h : Int) : Int := if h = t.1 then t.2 else t.1
inductive Leads (os : Ofs) (b : Int) : Int → List Int → Prop
  | nil : Leads os b b []
  | cons {h n : Int} {t : Int × Int} {r : List Int} (n0 : 0 ≤ n) (e : os[n.toNat]? = some t) (m : h = t.1 ∨ h = t.2) (k : Leads os b (endO t h) r) : Leads os b h (n :: r)
theorem leads_nil {os : Ofs} {b h : Int} : Leads os b h [] ↔ h = b := ⟨fun z => by cases z; rfl, fun z => z ▸ .nil⟩
theorem leads_cons {os : Ofs} {b h n : Int} {t : Int × Int} {r : List Int} (n0 : 0 ≤ n) (e : os[n.toNat]? = some t) (m : h = t.1 ∨ h = t.2) : Leads os b h (n :: r) ↔ Leads os b (endO t h) r := ⟨fun z => by
  cases z with
  | cons n0' e' m' k =>
    rw [e] at e'
    cases Option.some.inj e'
    exact k, fun k => .cons n0 e m k⟩
theorem leads_no {os : Ofs} {b h n : Int} {t : Int × Int} {r : List Int} (e : os[n.toNat]? = some t) (m : ¬ (h = t.1 ∨ h = t.2)) : ¬ Leads os b h (n :: r) := fun z => by
  cases z with
  | cons n0' e' m' k =>
    rw [e] at e'
    cases Option.some.inj e'
    exact m m'
theorem endO_sum {t : Int × Int} {h : Int} (m : h = t.1 ∨ h = t.2) : t.1 + t.2 - h = endO t h := by
  unfold endO
  by_cases e : h = t.1
  · rw [if_pos e]
    omega
  · rw [if_neg e]
    have := m.resolve_left e
    omega
structure GoodR (os : Ofs) (k : Int) (a b : Int) (ns : List Int) : Prop where
  nd : ns.Nodup
  rg : ∀ x ∈ ns, 0 ≤ x ∧ x < (os.length : Int)
  nk : k ∉ ns
  ld : Leads os b a ns
structure Apart (m : Int) (os : Ofs) (a b : Int) (ns : List Int) : Prop where
  up : ns.Pairwise (· < ·)
  ma : a ∈ ns
  mb : b ∉ ns
  rg : ∀ x ∈ ns, 0 ≤ x ∧ x < m
  ct : ∀ t ∈ os, (t.1 ∈ ns ↔ t.2 ∈ ns)
/-- a row of a paper: holds (with the points of a bank), or round (with a way) -/
abbrev Rw := Bool × List Int
def wordR (h : Bool) : Str := if h then "holds" else "round"
def othersO (os : Ofs) (k : Nat) : Ofs := os.take k ++ os.drop (k + 1)
def Good (m : Int) (os : Ofs) (k : Nat) (ab : Int × Int) (r : Rw) : Prop := if r.1 then Apart m (othersO os k) ab.1 ab.2 r.2 else GoodR os (k : Int) ab.1 ab.2 r.2
theorem mem_others {os : Ofs} {k : Nat} {t : Int × Int} : t ∈ othersO os k ↔ ∃ j, j ≠ k ∧ os[j]? = some t := by
  unfold othersO
  rw [List.mem_append, List.mem_iff_getElem?, List.mem_iff_getElem?]
  constructor
  · rintro (⟨j, h⟩ | ⟨j, h⟩)
    · have l := (List.getElem?_eq_some_iff.mp h).1
      rw [List.length_take] at l
      rw [List.getElem?_take_of_lt (by omega)] at h
      exact ⟨j, by omega, h⟩
    · rw [List.getElem?_drop] at h
      exact ⟨_, by omega, h⟩
  · rintro ⟨j, ne, h⟩
    by_cases l : j < k
    · exact .inl ⟨j, by rw [List.getElem?_take_of_lt l]; exact h⟩
    · refine .inr ⟨j - (k + 1), ?_⟩
      rw [List.getElem?_drop, show k + 1 + (j - (k + 1)) = j by omega]
      exact h
theorem good_h {m : Int} {os : Ofs} {k : Nat} {ab : Int × Int} {ns : List Int} : Good m os k ab (true, ns) ↔ Apart m (othersO os k) ab.1 ab.2 ns := Iff.rfl
theorem good_r {m : Int} {os : Ofs} {k : Nat} {ab : Int × Int} {ns : List Int} : Good m os k ab (false, ns) ↔ GoodR os (k : Int) ab.1 ab.2 ns := by
  unfold Good
  simp
def AllGood (m : Int) (os : Ofs) (rs : List Rw) : Prop := ∀ (k : Nat) (t : Int × Int) (r : Rw), os[k]? = some t → rs[k]? = some r → Good m os k t r
/-- rows in the heap -/
inductive RAll (H : Hp) : List V → List Rw → Prop
  | nil : RAll H [] []
  | cons {p t : Addr} {h : Bool} {ns : List Int} {vs : List V} {rs : List Rw} : H p = some (.tup [.str (wordR h), .ref t]) → H t = some (.tup (ns.map V.int)) → RAll H vs rs → RAll H (.ref p :: vs) ((h, ns) :: rs)
theorem RAll.mono {H H' : Hp} (s : ∀ t xs, H t = some (.tup xs) → H' t = some (.tup xs)) : ∀ {vs : List V} {rs : List Rw}, RAll H vs rs → RAll H' vs rs
  | _, _, .nil => .nil
  | _, _, .cons a b k => .cons (s _ _ a) (s _ _ b) (k.mono s)
theorem RAll.same {H H' : Hp} (s : Same H H') {vs : List V} {rs : List Rw} (h : RAll H vs rs) : RAll H' vs rs := h.mono fun _ _ e => s _ _ e
theorem RAll.kp {H H' : Hp} (k : Kp H H') {vs : List V} {rs : List Rw} (h : RAll H vs rs) : RAll H' vs rs := h.mono fun _ _ e => k.tup e
theorem RAll.length {H : Hp} : ∀ {vs : List V} {rs : List Rw}, RAll H vs rs → vs.length = rs.length
  | _, _, .nil => rfl
  | _, _, .cons _ _ k => congrArg (· + 1) k.length
theorem RAll.append {H : Hp} : ∀ {vs us : List V} {ts ss : List Rw}, RAll H vs ts → RAll H us ss → RAll H (vs ++ us) (ts ++ ss)
  | _, _, _, _, .nil, k => k
  | _, _, _, _, .cons a b k, z => .cons a b (k.append z)
theorem RAll.take {H : Hp} : ∀ {vs : List V} {ts : List Rw}, RAll H vs ts → ∀ n : Nat, RAll H (vs.take n) (ts.take n)
  | _, _, .nil, n => by
    rw [List.take_nil, List.take_nil]
    exact .nil
  | _, _, .cons _ _ _, 0 => .nil
  | _, _, .cons a b k, n + 1 => .cons a b (k.take n)
theorem RAll.drop {H : Hp} : ∀ {vs : List V} {ts : List Rw}, RAll H vs ts → ∀ n : Nat, RAll H (vs.drop n) (ts.drop n)
  | _, _, .nil, n => by
    rw [List.drop_nil, List.drop_nil]
    exact .nil
  | _, _, .cons a b k, 0 => .cons a b k
  | _, _, .cons _ _ k, n + 1 => k.drop n
theorem RAll.at {H : Hp} : ∀ {vs : List V} {rs : List Rw}, RAll H vs rs → ∀ {i : Nat} {v : V}, vs[i]? = some v → ∃ p t r, v = .ref p ∧ rs[i]? = some r ∧ H p = some (.tup [.str (wordR r.1), .ref t]) ∧ H t = some (.tup (r.2.map V.int))
  | _, _, .nil, i, v, h => by
    rw [List.getElem?_nil] at h
    cases h
  | _, _, .cons a b k, 0, v, h => ⟨_, _, _, (Option.some.inj h).symm, rfl, a, b⟩
  | _, _, .cons a b k, i + 1, v, h => RAll.at k (i := i) h

/-! ### offers with a price; what is light -/
abbrev O3 := (Int × Int) × Int
abbrev O3s := List O3
def prs (os : O3s) : List (Int × Int) := os.map Prod.fst
def prO (os : O3s) (k : Int) : Int × Int := ((os[k.toNat]?).map Prod.fst).getD (0, 0)
def pcO (os : O3s) (k : Int) : Int := ((os[k.toNat]?).map Prod.snd).getD 0
def tiesO (os : O3s) (ks : List Int) : Ties := ks.map (prO os)
def BdO (os : O3s) (n : Nat) : Prop := ∀ t ∈ os, 0 ≤ t.1.1 ∧ 0 ≤ t.1.2 ∧ t.1.1 < (n : Int) ∧ t.1.2 < (n : Int)
theorem prO_at {os : O3s} {k : Int} {o : O3} (e : os[k.toNat]? = some o) : prO os k = o.1 ∧ pcO os k = o.2 := by
  unfold prO pcO
  rw [e]
  exact ⟨rfl, rfl⟩
theorem prO_of {os : O3s} {k : Int} {t : Int × Int} (e : (prs os)[k.toNat]? = some t) : prO os k = t := by
  unfold prs at e
  rw [List.getElem?_map] at e
  unfold prO
  rw [e]
  rfl
theorem prs_at {os : O3s} {k : Nat} {o : O3} (e : os[k]? = some o) : (prs os)[k]? = some o.1 := by
  unfold prs
  rw [List.getElem?_map, e]
  rfl
theorem prs_len {os : O3s} : (prs os).length = os.length := List.length_map ..
theorem in_os {os : O3s} {k : Int} (k0 : 0 ≤ k) (k1 : k < (os.length : Int)) : ∃ o, os[k.toNat]? = some o ∧ o ∈ os := by
  have l : k.toNat < os.length := by omega
  exact ⟨os[k.toNat], List.getElem?_eq_getElem l, List.getElem_mem l⟩
theorem bd_ties {os : O3s} {n : Nat} (B : BdO os n) {ks : List Int} (rg : ∀ k ∈ ks, 0 ≤ k ∧ k < (os.length : Int)) : ∀ t ∈ tiesO os ks, 0 ≤ t.1 ∧ 0 ≤ t.2 ∧ t.1 < (n : Int) ∧ t.2 < (n : Int) := fun t mt => by
  obtain ⟨k, mk, rfl⟩ := List.mem_map.mp mt
  obtain ⟨o, e, mo⟩ := in_os (rg k mk).1 (rg k mk).2
  rw [(prO_at e).1]
  exact B o mo
theorem ties_sub {os : O3s} {ks us : List Int} (h : ∀ k ∈ ks, k ∈ us) : ∀ t ∈ tiesO os ks, t ∈ tiesO os us := fun t mt => by
  obtain ⟨k, mk, rfl⟩ := List.mem_map.mp mt
  exact List.mem_map.mpr ⟨k, h k mk, rfl⟩
theorem ring_perm {n : Nat} {ts us : Ties} (h : ∀ t ∈ ts, 0 ≤ t.1 ∧ 0 ≤ t.2 ∧ t.1 < (n : Int) ∧ t.2 < (n : Int)) (p : ts.Perm us) : Ring us → Ring ts := fun g => by
  have c : cntP us n = cntP ts n := cnt_same n fun x y => ⟨rch_perm fun t => p.mem_iff.symm, rch_perm fun t => p.mem_iff⟩
  have a := (cnt_ring (n := n) ts.length rfl h).2.2
  have b := (cnt_ring (n := n) us.length rfl fun t m => h t (p.mem_iff.mpr m)).2.2
  rw [c, ← p.length_eq] at b
  exact Classical.byContradiction fun z => b.mp (a.mpr z) g
theorem ring_erase {os : O3s} {n : Nat} (B : BdO os n) {ks : List Int} (rg : ∀ k ∈ ks, 0 ≤ k ∧ k < (os.length : Int)) {e : Int} (m : e ∈ ks) (nr : ¬ Ring (tiesO os ks)) : ¬ Ring (tiesO os (ks.erase e)) ∧ ¬ Rch (tiesO os (ks.erase e)) (prO os e).1 (prO os e).2 := by
  have p : (tiesO os ks).Perm (tiesO os (ks.erase e) ++ [prO os e]) := ((List.perm_cons_erase m).map (prO os)).trans (List.perm_append_singleton _ _).symm
  have z : ¬ Ring (tiesO os (ks.erase e) ++ [prO os e]) := fun g => nr (ring_perm (bd_ties B rg) p g)
  exact ⟨fun g => z (ring_snoc.mpr (.inl g)), fun g => z (ring_snoc.mpr (.inr g))⟩
theorem ring_nd {os : O3s} {ks : List Int} (nr : ¬ Ring (tiesO os ks)) : ks.Nodup := by
  refine List.pairwise_iff_getElem.mpr fun i j hi hj lt e => nr ?_
  refine ⟨j, prO os ks[j], ?_, Rch.one (.inl ?_)⟩
  · unfold tiesO
    rw [List.getElem?_map, List.getElem?_eq_getElem hj]
    rfl
  · unfold tiesO
    rw [← List.map_take]
    refine List.mem_map.mpr ⟨ks[j], ?_, rfl⟩
    rw [← e]
    exact List.mem_of_getElem? (i := i) (by rw [List.getElem?_take_of_lt lt, List.getElem?_eq_getElem hi])
theorem adj_end {ts : Ties} {t : Int × Int} {h : Int} (m : h = t.1 ∨ h = t.2) (mt : t ∈ ts) : Adj ts h (endO t h) := by
  unfold endO
  by_cases e : h = t.1
  · rw [if_pos e, e]
    exact .inl mt
  · rw [if_neg e, m.resolve_left e]
    exact .inr mt
theorem end_back {ts : Ties} {t : Int × Int} {x : Int} (m : x = t.1 ∨ x = t.2) (r : Rch ts x (endO t x)) : Rch ts t.1 t.2 := by
  unfold endO at r
  by_cases e : x = t.1
  · rw [if_pos e, e] at r
    exact r
  · rw [if_neg e, m.resolve_left e] at r
    exact r.symm
theorem leads_rch {os : O3s} {b : Int} {ks : List Int} {a : Int} {ws : List Int} (h : Leads (prs os) b a ws) : (∀ k ∈ ws, k ∈ ks) → Rch (tiesO os ks) a b := by
  induction h with
  | nil => exact fun _ => .refl
  | @cons h n t r n0 e m k ih =>
    intro s
    have mt : t ∈ tiesO os ks := List.mem_map.mpr ⟨n, s n List.mem_cons_self, prO_of e⟩
    exact (Rch.one (adj_end m mt)).trans (ih fun k mk => s k (List.mem_cons_of_mem _ mk))
theorem leads_split {ps : Ofs} {b e : Int} {w2 : List Int} : ∀ {w1 : List Int} {a : Int}, Leads ps b a (w1 ++ e :: w2) → ∃ x t, ps[e.toNat]? = some t ∧ (x = t.1 ∨ x = t.2) ∧ Leads ps x a w1 ∧ Leads ps b (endO t x) w2
  | [], a, h => by
    cases h with
    | cons n0 e' m k => exact ⟨a, _, e', m, .nil, k⟩
  | y :: r, a, h => by
    cases h with
    | cons n0 e' m k =>
      obtain ⟨x, t, h1, h2, h3, h4⟩ := leads_split k
      exact ⟨x, t, h1, h2, .cons n0 e' m h3, h4⟩
theorem way_cut {os : O3s} {a b e : Int} {ws us : List Int} (ld : Leads (prs os) b a ws) (nd : ws.Nodup) (me : e ∈ ws) (h : ∀ k ∈ ws, k ≠ e → k ∈ us) : ∃ x, (x = (prO os e).1 ∨ x = (prO os e).2) ∧ Rch (tiesO os us) a x ∧ Rch (tiesO os us) (endO (prO os e) x) b := by
  obtain ⟨w1, w2, rfl⟩ := List.append_of_mem me
  obtain ⟨x, t, et, mx, l1, l2⟩ := leads_split ld
  have pe := prO_of et
  subst pe
  have nd2 := List.pairwise_append.mp nd
  have nd3 := List.pairwise_cons.mp nd2.2.1
  exact ⟨x, mx, leads_rch l1 fun k mk => h k (List.mem_append_left _ mk) fun z => nd2.2.2 k mk e List.mem_cons_self z, leads_rch l2 fun k mk => h k (List.mem_append_right _ (List.mem_cons_of_mem _ mk)) fun z => nd3.1 k mk z.symm⟩
theorem no_join {os : O3s} {a b e : Int} {ws us : List Int} (ld : Leads (prs os) b a ws) (nd : ws.Nodup) (me : e ∈ ws) (h : ∀ k ∈ ws, k ≠ e → k ∈ us) (nr : ¬ Rch (tiesO os us) (prO os e).1 (prO os e).2) : ¬ Rch (tiesO os us) a b := fun r => by
  obtain ⟨x, mx, r1, r2⟩ := way_cut ld nd me h
  exact nr (end_back mx (r1.symm.trans (r.trans r2.symm)))
theorem rch_bind {ts us : Ties} (h : ∀ t ∈ ts, Rch us t.1 t.2) {a b : Int} (r : Rch ts a b) : Rch us a b := by
  induction r with
  | refl => exact .refl
  | step _ e ih =>
    rcases e with e | e
    · exact ih.trans (h _ e)
    · exact ih.trans (h _ e).symm
def upTo (os : O3s) (p : Int) (ks : List Int) : List Int := ks.filter fun k => decide (pcO os k ≤ p)
theorem mem_upTo {os : O3s} {p k : Int} {ks : List Int} : k ∈ upTo os p ks ↔ k ∈ ks ∧ pcO os k ≤ p := by
  unfold upTo
  rw [List.mem_filter, decide_eq_true_eq]
def Lgt (os : O3s) (ks : List Int) (j : Int) : Prop := Rch (tiesO os (upTo os (pcO os j) ks)) (prO os j).1 (prO os j).2
theorem lgt_rch {os : O3s} {ks : List Int} {j : Int} (h : Lgt os ks j) : Rch (tiesO os ks) (prO os j).1 (prO os j).2 := h.mono (ties_sub fun _ mk => (mem_upTo.mp mk).1)
structure Kru (os : O3s) (i : Nat) (ks : List Int) : Prop where
  nr : ¬ Ring (tiesO os ks)
  rg : ∀ k ∈ ks, 0 ≤ k ∧ k < (i : Int)
  lt : ∀ j : Int, 0 ≤ j → j < (i : Int) → j ∉ ks → Lgt os ks j
section
variable {os : O3s} {n i : Nat} {ks ws : List Int} {e : Int}
theorem ties_app {us : List Int} : tiesO os (ks ++ us) = tiesO os ks ++ tiesO os us := List.map_append
theorem kru_new (Y : Kru os i ks) (no : ¬ Rch (tiesO os ks) (prO os i).1 (prO os i).2) : Kru os (i + 1) (ks ++ [(i : Int)]) := by
  refine ⟨?_, fun k mk => ?_, fun j j0 j1 nj => ?_⟩
  · rw [ties_app]
    exact fun g => (ring_snoc.mp g).elim Y.nr no
  · rcases List.mem_append.mp mk with mk | mk
    · have := Y.rg k mk
      omega
    · rw [List.mem_singleton.mp mk]
      omega
  · have ji : j ≠ (i : Int) := fun z => nj (List.mem_append_right _ (by rw [z]; exact List.mem_cons_self))
    refine (Y.lt j j0 (by omega) fun z => nj (List.mem_append_left _ z)).mono (ties_sub fun k mk => ?_)
    obtain ⟨m1, m2⟩ := mem_upTo.mp mk
    exact mem_upTo.mpr ⟨List.mem_append_left _ m1, m2⟩
theorem kru_drop (Y : Kru os i ks) (ld : Leads (prs os) (prO os i).2 (prO os i).1 ws) (sub : ∀ k ∈ ws, k ∈ ks) (le : ∀ k ∈ ws, pcO os k ≤ pcO os i) : Kru os (i + 1) ks := by
  refine ⟨Y.nr, fun k mk => ?_, fun j j0 j1 nj => ?_⟩
  · have := Y.rg k mk
    omega
  · by_cases e : j = (i : Int)
    · rw [e]
      exact leads_rch ld fun k mk => mem_upTo.mpr ⟨sub k mk, le k mk⟩
    · exact Y.lt j j0 (by omega) nj
theorem kru_swap (B : BdO os n) (il : i < os.length) (Y : Kru os i ks) (ld : Leads (prs os) (prO os i).2 (prO os i).1 ws) (nd : ws.Nodup) (sub : ∀ k ∈ ws, k ∈ ks) (me : e ∈ ws) (mx : ∀ k ∈ ws, pcO os k ≤ pcO os e) (lt : pcO os i < pcO os e) : Kru os (i + 1) (ks.erase e ++ [(i : Int)]) := by
  have rg : ∀ k ∈ ks, 0 ≤ k ∧ k < (os.length : Int) := fun k mk => by
    have := Y.rg k mk
    omega
  obtain ⟨n1, n2⟩ := ring_erase B rg (sub e me) Y.nr
  have inE : ∀ k, k ∈ ks → k ≠ e → k ∈ ks.erase e := fun k mk ne => (List.mem_erase_of_ne ne).mpr mk
  have nj := no_join ld nd me (fun k mk ne => inE k (sub k mk) ne) n2
  have mi : (i : Int) ∈ ks.erase e ++ [(i : Int)] := List.mem_append_right _ List.mem_cons_self
  have chain : ∀ p, pcO os e ≤ p → Rch (tiesO os (upTo os p (ks.erase e ++ [(i : Int)]))) (prO os e).1 (prO os e).2 := fun p hp => by
    obtain ⟨x, hx, r1, r2⟩ := way_cut (us := upTo os p (ks.erase e ++ [(i : Int)])) ld nd me fun k mk ne => mem_upTo.mpr ⟨List.mem_append_left _ (inE k (sub k mk) ne), by have := mx k mk; omega⟩
    refine end_back hx (r1.symm.trans (Rch.trans (Rch.one (.inl ?_)) r2.symm))
    exact List.mem_map.mpr ⟨(i : Int), mem_upTo.mpr ⟨mi, by omega⟩, rfl⟩
  refine ⟨?_, fun k mk => ?_, fun j j0 j1 nmj => ?_⟩
  · rw [ties_app]
    exact fun g => (ring_snoc.mp g).elim n1 nj
  · rcases List.mem_append.mp mk with mk | mk
    · have := Y.rg k (List.mem_of_mem_erase mk)
      omega
    · rw [List.mem_singleton.mp mk]
      omega
  · have ji : j ≠ (i : Int) := fun z => nmj (z ▸ mi)
    by_cases je : j = e
    · rw [je]
      exact chain _ (Int.le_refl _)
    · refine rch_bind (fun t mt => ?_) (Y.lt j j0 (by omega) fun z => nmj (List.mem_append_left _ (inE j z je)))
      obtain ⟨k, mk, rfl⟩ := List.mem_map.mp mt
      obtain ⟨m1, m2⟩ := mem_upTo.mp mk
      by_cases ke : k = e
      · rw [ke] at m2 ⊢
        exact chain _ m2
      · exact Rch.one (.inl (List.mem_map.mpr ⟨k, mem_upTo.mpr ⟨List.mem_append_left _ (inE k m1 ke), m2⟩, rfl⟩))
theorem kru_pay (B : BdO os n) (Y : Kru os os.length ks) {j : Int} (j0 : 0 ≤ j) (j1 : j < (os.length : Int)) (nj : j ∉ ks) (ld : Leads (prs os) (prO os j).2 (prO os j).1 ws) (nd : ws.Nodup) (sub : ∀ k ∈ ws, k ∈ ks) : ∀ k ∈ ws, pcO os k ≤ pcO os j := fun e me => by
  by_cases z : pcO os e ≤ pcO os j
  · exact z
  exfalso
  obtain ⟨n1, n2⟩ := ring_erase B Y.rg (sub e me) Y.nr
  refine no_join ld nd me (fun k mk ne => (List.mem_erase_of_ne ne).mpr (sub k mk)) n2 ((Y.lt j j0 j1 nj).mono (ties_sub fun k mk => ?_))
  obtain ⟨m1, m2⟩ := mem_upTo.mp mk
  exact (List.mem_erase_of_ne (fun ke : k = e => z (ke ▸ m2))).mpr m1
end
/-! what a paper must show -/
abbrev NR := Int × List Int
def GoodW (os : O3s) (ks : List Int) (j : Int) (ws : List Int) : Prop := ws.Nodup ∧ (∀ k ∈ ws, k ∈ ks ∧ pcO os k ≤ pcO os j) ∧ Leads (prs os) (prO os j).2 (prO os j).1 ws
def goneO (m : Nat) (ks : List Int) : List Int := ((List.range m).map fun i : Nat => (i : Int)).filter fun j => !decide (j ∈ ks)
theorem mem_gone {m : Nat} {ks : List Int} {j : Int} : j ∈ goneO m ks ↔ (0 ≤ j ∧ j < (m : Int)) ∧ j ∉ ks := by
  unfold goneO
  rw [List.mem_filter, List.mem_map]
  constructor
  · rintro ⟨⟨i, mi, rfl⟩, h⟩
    have := List.mem_range.mp mi
    exact ⟨by omega, fun z => by rw [decide_eq_true z] at h; cases h⟩
  · rintro ⟨h, nj⟩
    exact ⟨⟨j.toNat, List.mem_range.mpr (by omega), by omega⟩, by rw [decide_eq_false nj]; rfl⟩
structure Shw (os : O3s) (ks : List Int) (rs : List NR) : Prop where
  up : ks.Pairwise (· < ·)
  nr : ¬ Ring (tiesO os ks)
  hd : rs.map Prod.fst = goneO os.length ks
  ok : ∀ r ∈ rs, GoodW os ks r.1 r.2

/-! ### offers in the heap -/
inductive OAll (H : Hp) : List V → List O3 → Prop
  | nil : OAll H [] []
  | cons {t : Addr} {x y z : Int} {vs : List V} {ts : List O3} : H t = some (.tup [.int x, .int y, .int z]) → OAll H vs ts → OAll H (.ref t :: vs) (((x, y), z) :: ts)
theorem OAll.mono {H H' : Hp} (s : ∀ t x y z, H t = some (.tup [.int x, .int y, .int z]) → H' t = some (.tup [.int x, .int y, .int z])) : ∀ {vs : List V} {ts : List O3}, OAll H vs ts → OAll H' vs ts
  | _, _, .nil => .nil
  | _, _, .cons h k => .cons (s _ _ _ _ h) (OAll.mono s k)
theorem OAll.same {H H' : Hp} (s : Same H H') {vs : List V} {ts : List O3} (h : OAll H vs ts) : OAll H' vs ts := h.mono fun _ _ _ _ e => s _ _ e
theorem OAll.kp {H H' : Hp} (k : Kp H H') {vs : List V} {ts : List O3} (h : OAll H vs ts) : OAll H' vs ts := h.mono fun _ _ _ _ e => k _ _ e (by intro ps z; cases z)
theorem OAll.put {H : Hp} {l : Addr} {xs : List V} {o : HO} (e : H l = some (.lst xs)) {vs : List V} {ts : List O3} (h : OAll H vs ts) : OAll (upd H l o) vs ts := h.mono fun t _ _ _ z => by
  rw [upd_ne (ne_of z e (by intro z; cases z))]
  exact z
theorem OAll.snoc {H : Hp} {t : Addr} {x y z : Int} (e : H t = some (.tup [.int x, .int y, .int z])) : ∀ {vs : List V} {ts : List O3}, OAll H vs ts → OAll H (vs ++ [.ref t]) (ts ++ [((x, y), z)])
  | _, _, .nil => .cons e .nil
  | _, _, .cons h k => .cons h (OAll.snoc e k)
theorem OAll.append {H : Hp} : ∀ {vs us : List V} {ts ss : List O3}, OAll H vs ts → OAll H us ss → OAll H (vs ++ us) (ts ++ ss)
  | _, _, _, _, .nil, k => k
  | _, _, _, _, .cons h k, z => .cons h (k.append z)
theorem OAll.take {H : Hp} : ∀ {vs : List V} {ts : List O3}, OAll H vs ts → ∀ n : Nat, OAll H (vs.take n) (ts.take n)
  | _, _, .nil, n => by
    rw [List.take_nil, List.take_nil]
    exact .nil
  | _, _, .cons h k, 0 => .nil
  | _, _, .cons h k, n + 1 => .cons h (k.take n)
theorem OAll.drop {H : Hp} : ∀ {vs : List V} {ts : List O3}, OAll H vs ts → ∀ n : Nat, OAll H (vs.drop n) (ts.drop n)
  | _, _, .nil, n => by
    rw [List.drop_nil, List.drop_nil]
    exact .nil
  | _, _, .cons h k, 0 => .cons h k
  | _, _, .cons h k, n + 1 => k.drop n
theorem OAll.length {H : Hp} : ∀ {vs : List V} {ts : List O3}, OAll H vs ts → vs.length = ts.length
  | _, _, .nil => rfl
  | _, _, .cons _ k => congrArg (· + 1) k.length
theorem OAll.at {H : Hp} : ∀ {vs : List V} {ts : List O3}, OAll H vs ts → ∀ {i : Nat} {v : V}, vs[i]? = some v → ∃ t u, v = .ref t ∧ ts[i]? = some u ∧ H t = some (.tup [.int u.1.1, .int u.1.2, .int u.2])
  | _, _, .nil, i, v, h => by
    rw [List.getElem?_nil] at h
    cases h
  | _, _, .cons (t := t) (x := x) (y := y) (z := z) e r, 0, v, h => ⟨t, ((x, y), z), (Option.some.inj h).symm, rfl, e⟩
  | _, _, .cons e r, i + 1, v, h => OAll.at r (i := i) h
theorem OAll.get {H : Hp} : ∀ {vs : List V} {ts : List O3}, OAll H vs ts → ∀ {i : Nat} {u : O3}, ts[i]? = some u → ∃ t, vs[i]? = some (.ref t) ∧ H t = some (.tup [.int u.1.1, .int u.1.2, .int u.2])
  | _, _, .nil, i, u, h => by
    rw [List.getElem?_nil] at h
    cases h
  | _, _, .cons (t := t) e r, 0, u, h => by
    cases Option.some.inj h
    exact ⟨t, rfl, e⟩
  | _, _, .cons e r, i + 1, u, h => OAll.get r (i := i) h
/-- the pair at a number -/
theorem OAll.ix {H : Hp} {vs : List V} {ts : List O3} (h : OAll H vs ts) {n : Int} {u : O3} (n0 : 0 ≤ n) (hu : ts[n.toNat]? = some u) : ∃ t, atI vs n = some (.ref t) ∧ H t = some (.tup [.int u.1.1, .int u.1.2, .int u.2]) := by
  obtain ⟨t, h1, h2⟩ := h.get hu
  have e : n = ((n.toNat : Nat) : Int) := (Int.toNat_of_nonneg n0).symm
  exact ⟨t, by rw [e]; exact atI_nat h1, h2⟩
/-- rows in the heap -/
inductive NAll (H : Hp) : List V → List NR → Prop
  | nil : NAll H [] []
  | cons {p t : Addr} {h : Int} {ns : List Int} {vs : List V} {rs : List NR} : H p = some (.tup [.int h, .ref t]) → H t = some (.tup (ns.map V.int)) → NAll H vs rs → NAll H (.ref p :: vs) ((h, ns) :: rs)
theorem NAll.mono {H H' : Hp} (s : ∀ t xs, H t = some (.tup xs) → H' t = some (.tup xs)) : ∀ {vs : List V} {rs : List NR}, NAll H vs rs → NAll H' vs rs
  | _, _, .nil => .nil
  | _, _, .cons a b k => .cons (s _ _ a) (s _ _ b) (k.mono s)
theorem NAll.same {H H' : Hp} (s : Same H H') {vs : List V} {rs : List NR} (h : NAll H vs rs) : NAll H' vs rs := h.mono fun _ _ e => s _ _ e
theorem NAll.kp {H H' : Hp} (k : Kp H H') {vs : List V} {rs : List NR} (h : NAll H vs rs) : NAll H' vs rs := h.mono fun _ _ e => k.tup e
theorem NAll.length {H : Hp} : ∀ {vs : List V} {rs : List NR}, NAll H vs rs → vs.length = rs.length
  | _, _, .nil => rfl
  | _, _, .cons _ _ k => congrArg (· + 1) k.length
theorem NAll.append {H : Hp} : ∀ {vs us : List V} {ts ss : List NR}, NAll H vs ts → NAll H us ss → NAll H (vs ++ us) (ts ++ ss)
  | _, _, _, _, .nil, k => k
  | _, _, _, _, .cons a b k, z => .cons a b (k.append z)
theorem NAll.take {H : Hp} : ∀ {vs : List V} {ts : List NR}, NAll H vs ts → ∀ n : Nat, NAll H (vs.take n) (ts.take n)
  | _, _, .nil, n => by
    rw [List.take_nil, List.take_nil]
    exact .nil
  | _, _, .cons _ _ _, 0 => .nil
  | _, _, .cons a b k, n + 1 => .cons a b (k.take n)
theorem NAll.drop {H : Hp} : ∀ {vs : List V} {ts : List NR}, NAll H vs ts → ∀ n : Nat, NAll H (vs.drop n) (ts.drop n)
  | _, _, .nil, n => by
    rw [List.drop_nil, List.drop_nil]
    exact .nil
  | _, _, .cons a b k, 0 => .cons a b k
  | _, _, .cons _ _ k, n + 1 => k.drop n
theorem NAll.at {H : Hp} : ∀ {vs : List V} {rs : List NR}, NAll H vs rs → ∀ {i : Nat} {v : V}, vs[i]? = some v → ∃ p t r, v = .ref p ∧ rs[i]? = some r ∧ H p = some (.tup [.int r.1, .ref t]) ∧ H t = some (.tup (r.2.map V.int))
  | _, _, .nil, i, v, h => by
    rw [List.getElem?_nil] at h
    cases h
  | _, _, .cons a b k, 0, v, h => ⟨_, _, _, (Option.some.inj h).symm, rfl, a, b⟩
  | _, _, .cons a b k, i + 1, v, h => NAll.at k (i := i) h

end My
namespace My
open PySem L2
/-! ### light sets of offers -/
def upS (p : Int) (S : O3s) : Ties := (S.filter fun u => decide (u.2 ≤ p)).map Prod.fst
structure Lit (S T : O3s) : Prop where
  sub : ∀ o ∈ T, o ∈ S
  nr : ¬ Ring (T.map Prod.fst)
  lt : ∀ o ∈ S, Rch (upS o.2 T) o.1.1 o.1.2
theorem mem_upS {p : Int} {S : O3s} {t : Int × Int} : t ∈ upS p S ↔ ∃ o ∈ S, o.2 ≤ p ∧ o.1 = t := by
  unfold upS
  rw [List.mem_map]
  constructor
  · rintro ⟨o, mo, e⟩
    obtain ⟨h1, h2⟩ := List.mem_filter.mp mo
    exact ⟨o, h1, of_decide_eq_true h2, e⟩
  · rintro ⟨o, h1, h2, e⟩
    exact ⟨o, List.mem_filter.mpr ⟨h1, decide_eq_true h2⟩, e⟩
theorem upS_mono {p q : Int} {S T : O3s} (s : ∀ o ∈ S, o ∈ T) (l : p ≤ q) {a b : Int} (r : Rch (upS p S) a b) : Rch (upS q T) a b := r.mono fun t mt => by
  obtain ⟨o, h1, h2, h3⟩ := mem_upS.mp mt
  exact mem_upS.mpr ⟨o, s o h1, by omega, h3⟩
theorem lit_rch {S T : O3s} (h : Lit S T) (p a b : Int) : Rch (upS p T) a b ↔ Rch (upS p S) a b := by
  constructor
  · exact upS_mono h.sub (Int.le_refl _)
  · exact rch_bind fun t mt => by
      obtain ⟨o, h1, h2, h3⟩ := mem_upS.mp mt
      rw [← h3]
      exact upS_mono (fun _ m => m) h2 (h.lt o h1)
theorem lit_all {S T : O3s} (h : Lit S T) (a b : Int) : Rch (T.map Prod.fst) a b ↔ Rch (S.map Prod.fst) a b := by
  constructor
  · exact fun r => r.mono fun t mt => by
      obtain ⟨o, mo, e⟩ := List.mem_map.mp mt
      exact List.mem_map.mpr ⟨o, h.sub o mo, e⟩
  · exact rch_bind fun t mt => by
      obtain ⟨o, mo, e⟩ := List.mem_map.mp mt
      rw [← e]
      exact (h.lt o mo).mono fun u mu => by
        obtain ⟨o2, h1, _, h3⟩ := mem_upS.mp mu
        exact List.mem_map.mpr ⟨o2, h1, h3⟩
theorem ring_left : ∀ {us ts : Ties}, Ring ts → Ring (ts ++ us)
  | [], ts, h => by
    rw [List.append_nil]
    exact h
  | u :: us, ts, h => by
    have z : Ring (ts ++ [u]) := ring_snoc.mpr (.inl h)
    have z2 := ring_left (us := us) z
    rw [List.append_assoc] at z2
    exact z2
theorem bd3_ties {S : O3s} {n : Nat} (B : BdO S n) : ∀ t ∈ S.map Prod.fst, 0 ≤ t.1 ∧ 0 ≤ t.2 ∧ t.1 < (n : Int) ∧ t.2 < (n : Int) := fun t mt => by
  obtain ⟨o, mo, rfl⟩ := List.mem_map.mp mt
  exact B o mo
theorem ring_upS {T : O3s} {n : Nat} (B : BdO T n) (nr : ¬ Ring (T.map Prod.fst)) (p : Int) : ¬ Ring (upS p T) := fun g => by
  have pm : (T.map Prod.fst).Perm (upS p T ++ (T.filter fun u => !decide (u.2 ≤ p)).map Prod.fst) := by
    unfold upS
    rw [← List.map_append]
    exact (List.filter_append_perm _ T).symm.map _
  exact nr (ring_perm (bd3_ties B) pm (ring_left g))
theorem lit_len {S S' T T' : O3s} {n : Nat} (B : BdO S n) (h : Lit S T) (h' : Lit S' T') (e : ∀ o, o ∈ S ↔ o ∈ S') (p : Int) : (upS p T).length = (upS p T').length := by
  have BT : BdO T n := fun o mo => B o (h.sub o mo)
  have BT' : BdO T' n := fun o mo => B o ((e o).mpr (h'.sub o mo))
  have b : ∀ {U : O3s}, BdO U n → ∀ t ∈ upS p U, 0 ≤ t.1 ∧ 0 ≤ t.2 ∧ t.1 < (n : Int) ∧ t.2 < (n : Int) := fun {U} bu t mt => by
    obtain ⟨o, h1, _, h3⟩ := mem_upS.mp mt
    rw [← h3]
    exact bu o h1
  have c1 := (cnt_ring (n := n) _ rfl (b BT)).2.2.mpr (ring_upS BT h.nr p)
  have c2 := (cnt_ring (n := n) _ rfl (b BT')).2.2.mpr (ring_upS BT' h'.nr p)
  have c3 : cntP (upS p T') n = cntP (upS p T) n := cnt_same n fun x y => by
    rw [lit_rch h', lit_rch h]
    constructor
    · exact upS_mono (fun o m => (e o).mpr m) (Int.le_refl _)
    · exact upS_mono (fun o m => (e o).mp m) (Int.le_refl _)
  omega
theorem cnt_le : ∀ (xs : List Int) (a : Int), xs.countP (fun x => decide (x ≤ a)) = xs.countP (fun x => decide (x ≤ a - 1)) + xs.count a
  | [], _ => rfl
  | x :: xs, a => by
    rw [List.countP_cons, List.countP_cons, List.count_cons, cnt_le xs a]
    by_cases h1 : x = a
    · subst h1
      have z : ¬ x ≤ x - 1 := by omega
      simp [z]
      omega
    · by_cases h2 : x ≤ a
      · have z : x ≤ a - 1 := by omega
        simp [h1, h2, z]
        omega
      · have z : ¬ x ≤ a - 1 := by omega
        simp [h1, h2, z]
theorem sum_perm {xs ys : List Int} (p : xs.Perm ys) : xs.sum = ys.sum := by
  induction p with
  | nil => rfl
  | cons x _ ih => rw [List.sum_cons, List.sum_cons, ih]
  | swap x y l =>
    rw [List.sum_cons, List.sum_cons, List.sum_cons, List.sum_cons]
    omega
  | trans _ _ h1 h2 => exact h1.trans h2
theorem lit_price {S S' T T' : O3s} {n : Nat} (B : BdO S n) (h : Lit S T) (h' : Lit S' T') (e : ∀ o, o ∈ S ↔ o ∈ S') : (T.map Prod.snd).sum = (T'.map Prod.snd).sum := by
  refine sum_perm (List.perm_iff_count.mpr fun a => ?_)
  have k : ∀ (U : O3s) (p : Int), (U.map Prod.snd).countP (fun x => decide (x ≤ p)) = (upS p U).length := fun U p => by
    unfold upS
    rw [List.length_map, List.countP_map, List.countP_eq_length_filter]
    rfl
  have z1 := cnt_le (T.map Prod.snd) a
  have z2 := cnt_le (T'.map Prod.snd) a
  rw [k, k] at z1 z2
  rw [lit_len B h h' e, lit_len B h h' e] at z1
  omega
/-! ### the kept ones are light -/
def getO (F : O3s) (k : Int) : O3 := (prO F k, pcO F k)
theorem kru_lit {F : O3s} {ks : List Int} (Y : Kru F F.length ks) : Lit F (ks.map (getO F)) := by
  have up : ∀ p, upS p (ks.map (getO F)) = tiesO F (upTo F p ks) := fun p => by
    unfold upS upTo tiesO
    rw [List.filter_map, List.map_map]
    rfl
  refine ⟨fun o mo => ?_, ?_, fun o mo => ?_⟩
  · obtain ⟨k, mk, rfl⟩ := List.mem_map.mp mo
    obtain ⟨o, ho, mo2⟩ := in_os (Y.rg k mk).1 (Y.rg k mk).2
    have e := prO_at ho
    have z : getO F k = o := Prod.ext e.1 e.2
    rw [z]
    exact mo2
  · rw [List.map_map]
    exact Y.nr
  · obtain ⟨j, hj⟩ := List.mem_iff_getElem?.mp mo
    have lj := (List.getElem?_eq_some_iff.mp hj).1
    have e := prO_at (k := (j : Int)) (os := F) (o := o) (by rw [Int.toNat_natCast]; exact hj)
    rw [up, ← e.1, ← e.2]
    by_cases mk : (j : Int) ∈ ks
    · exact .one (.inl (List.mem_map.mpr ⟨(j : Int), mem_upTo.mpr ⟨mk, Int.le_refl _⟩, rfl⟩))
    · exact Y.lt j (by omega) (by omega) mk
theorem kept_sum {F : O3s} {ks : List Int} : ((ks.map (getO F)).map Prod.snd).sum = (ks.map (pcO F)).sum := by
  rw [List.map_map]
  rfl
theorem lit_self {T : O3s} (nr : ¬ Ring (T.map Prod.fst)) : Lit T T := ⟨fun _ m => m, nr, fun o mo => .one (.inl (mem_upS.mpr ⟨o, mo, Int.le_refl _, rfl⟩))⟩
/-! ### least points of parts -/
structure LabM (ts : Ties) (n : Nat) (ls : List Int) : Prop where
  len : ls.length = n
  at_ : ∀ i : Nat, i < n → ls[i]? = some ((rpOf ts i : Nat) : Int)
theorem LabM.det {ts us : Ties} {n : Nat} {ls ms : List Int} (e : ∀ x y, Rch ts x y ↔ Rch us x y) (h1 : LabM ts n ls) (h2 : LabM us n ms) : ls = ms := by
  refine List.ext_getElem? fun i => ?_
  by_cases l : i < n
  · rw [h1.at_ i l, h2.at_ i l]
    have z : rpOf ts i = rpOf us i := by
      obtain ⟨r1, _, m1⟩ := rp_spec (ts := ts) i
      obtain ⟨r2, _, m2⟩ := rp_spec (ts := us) i
      rcases Nat.lt_trichotomy (rpOf ts i) (rpOf us i) with c | c | c
      · exact absurd ((e _ _).mp r1) (m2 _ c)
      · exact c
      · exact absurd ((e _ _).mpr r2) (m1 _ c)
    rw [z]
  · rw [List.getElem?_eq_none (by rw [h1.len]; omega), List.getElem?_eq_none (by rw [h2.len]; omega)]
theorem rp_uniq {ts : Ties} {i v : Nat} (r : Rch ts (i : Int) (v : Int)) (m : ∀ u, u < v → ¬ Rch ts (i : Int) (u : Int)) : rpOf ts i = v := by
  obtain ⟨r1, _, m1⟩ := rp_spec (ts := ts) i
  rcases Nat.lt_trichotomy (rpOf ts i) v with c | c | c
  · exact absurd r1 (m _ c)
  · exact c
  · exact absurd r (m1 _ c)
theorem rch0 {x y : Int} (h : Rch [] x y) : x = y := by
  induction h with
  | refl => rfl
  | step _ e _ => rcases e with m | m <;> cases m
theorem labM0 (n : Nat) : LabM [] n ((List.range n).map fun i : Nat => (i : Int)) := by
  refine ⟨by rw [List.length_map, List.length_range], fun i hi => ?_⟩
  rw [List.getElem?_map, List.getElem?_range hi]
  have e : rpOf [] i = i := rp_uniq .refl fun u lt r => by
    have := rch0 r
    omega
  rw [e]
  rfl
theorem labM_join {ts : Ties} {n a b p q : Nat} {ls : List Int} (L : LabM ts n ls) (ea : rpOf ts a = p ∧ rpOf ts b = q ∨ rpOf ts a = q ∧ rpOf ts b = p) (lt : p < q) : LabM (ts ++ [((a : Int), (b : Int))]) n (ls.map fun x => if x = (q : Int) then (p : Int) else x) := by
  have pp : rpOf ts p = p := by
    rcases ea with ⟨h, _⟩ | ⟨_, h⟩
    · rw [← h, rp_idem]
    · rw [← h, rp_idem]
  have qq : rpOf ts q = q := by
    rcases ea with ⟨_, h⟩ | ⟨h, _⟩
    · rw [← h, rp_idem]
    · rw [← h, rp_idem]
  have key : ∀ x y : Nat, Rch (ts ++ [((a : Int), (b : Int))]) (x : Int) (y : Int) ↔ rpOf ts x = rpOf ts y ∨ (rpOf ts x = p ∧ rpOf ts y = q) ∨ (rpOf ts x = q ∧ rpOf ts y = p) := fun x y => by
    rw [rch_snoc, ← rp_iff, ← rp_iff, ← rp_iff, ← rp_iff, ← rp_iff]
    rcases ea with ⟨h1, h2⟩ | ⟨h1, h2⟩
    · rw [h1, h2]
      omega
    · rw [h1, h2]
      omega
  refine ⟨by rw [List.length_map]; exact L.len, fun i hi => ?_⟩
  rw [List.getElem?_map, L.at_ i hi]
  show some (if ((rpOf ts i : Nat) : Int) = (q : Int) then (p : Int) else ((rpOf ts i : Nat) : Int)) = _
  have li := rp_le (ts := ts)
  by_cases c : rpOf ts i = q
  · rw [if_pos (by omega)]
    have e : rpOf (ts ++ [((a : Int), (b : Int))]) i = p := rp_uniq ((key i p).mpr (.inr (.inr ⟨c, pp⟩))) fun u lu r => by
      have := li u
      rcases (key i u).mp r with h | h | h <;> omega
    rw [e]
  · rw [if_neg (by omega)]
    have e : rpOf (ts ++ [((a : Int), (b : Int))]) i = rpOf ts i := rp_uniq ((key i _).mpr (.inl (rp_idem i).symm)) fun u lu r => by
      have := li u
      rcases (key i u).mp r with h | h | h <;> omega
    rw [e]
/-! ### a run of Kruskal's -/
structure Krs (us : O3s) (i : Nat) (T : O3s) : Prop where
  sub : ∀ o ∈ T, o ∈ us.take i
  nr : ¬ Ring (T.map Prod.fst)
  lt : ∀ o ∈ us.take i, Rch (upS o.2 T) o.1.1 o.1.2
theorem krs0 {us : O3s} : Krs us 0 [] := ⟨(fun o m => nomatch m), ring_nil, fun o m => nomatch m⟩
theorem krs_skip {us T : O3s} {i : Nat} {o : O3} (srt : us.Pairwise (fun u v => u.2 ≤ v.2)) (hi : us[i]? = some o) (K : Krs us i T) (r : Rch (T.map Prod.fst) o.1.1 o.1.2) : Krs us (i + 1) T := by
  have e := take_at hi
  have before : ∀ u ∈ us.take i, u.2 ≤ o.2 := fun u mu => by
    have z : (us.take (i + 1)).Pairwise (fun u v => u.2 ≤ v.2) := srt.sublist (List.take_sublist _ _)
    rw [e] at z
    exact (List.pairwise_append.mp z).2.2 u mu o List.mem_cons_self
  refine ⟨fun u mu => by rw [e]; exact List.mem_append_left _ (K.sub u mu), K.nr, fun u mu => ?_⟩
  rw [e] at mu
  rcases List.mem_append.mp mu with mu | mu
  · exact K.lt u mu
  · rw [List.mem_singleton.mp mu]
    exact r.mono fun t mt => by
      obtain ⟨v, mv, ev⟩ := List.mem_map.mp mt
      exact mem_upS.mpr ⟨v, mv, before v (K.sub v mv), ev⟩
theorem krs_take {us T : O3s} {i : Nat} {o : O3} (hi : us[i]? = some o) (K : Krs us i T) (nr : ¬ Rch (T.map Prod.fst) o.1.1 o.1.2) : Krs us (i + 1) (T ++ [o]) := by
  have e := take_at hi
  refine ⟨fun u mu => ?_, ?_, fun u mu => ?_⟩
  · rw [e]
    rcases List.mem_append.mp mu with mu | mu
    · exact List.mem_append_left _ (K.sub u mu)
    · exact List.mem_append_right _ mu
  · rw [List.map_append]
    exact fun g => (ring_snoc.mp g).elim K.nr nr
  · rw [e] at mu
    rcases List.mem_append.mp mu with mu | mu
    · exact upS_mono (fun v mv => List.mem_append_left _ mv) (Int.le_refl _) (K.lt u mu)
    · rw [List.mem_singleton.mp mu]
      exact .one (.inl (mem_upS.mpr ⟨o, List.mem_append_right _ List.mem_cons_self, Int.le_refl _, rfl⟩))
theorem krs_end {us S T : O3s} (K : Krs us us.length T) (e : ∀ o, o ∈ us ↔ o ∈ S) : Lit S T := by
  have t : us.take us.length = us := List.take_length
  refine ⟨fun o mo => (e o).mp (t ▸ K.sub o mo), K.nr, fun o mo => K.lt o (by rw [t]; exact (e o).mpr mo)⟩
/-! ### one price otherwise -/
theorem setp {F : O3s} {j : Nat} {o : O3} (hj : F[j]? = some o) (v : Int) (k : Int) (k0 : 0 ≤ k) : prO (F.set j (o.1, v)) k = prO F k ∧ pcO (F.set j (o.1, v)) k = if k = (j : Int) then v else pcO F k := by
  have l := (List.getElem?_eq_some_iff.mp hj).1
  by_cases e : k.toNat = j
  · have ek : k = (j : Int) := by omega
    rw [if_pos ek]
    have h1 : (F.set j (o.1, v))[k.toNat]? = some (o.1, v) := by
      rw [e, List.getElem?_set_self l]
    have h2 : F[k.toNat]? = some o := by rw [e]; exact hj
    rw [(prO_at h1).1, (prO_at h1).2, (prO_at h2).1]
    exact ⟨rfl, rfl⟩
  · have ek : ¬ k = (j : Int) := fun z => e (by omega)
    rw [if_neg ek]
    unfold prO pcO
    rw [List.getElem?_set_ne fun z => e z.symm]
    exact ⟨rfl, rfl⟩

end My
namespace My
open PySem L2
/-! ### what is found from a point: each one with the next toward it -/
abbrev Tw := List (Int × Option Int)
def keysT (l : Tw) : List Int := l.map Prod.fst
inductive Tow (ts : Ties) (g : Int) : Tw → Prop
  | base : Tow ts g [(g, none)]
  | snoc {l : Tw} {p v : Int} : Tow ts g l → p ∈ keysT l → v ∉ keysT l → Adj ts p v → Tow ts g (l ++ [(v, some p)])
theorem keysT_snoc (l : Tw) (v : Int) (o : Option Int) : keysT (l ++ [(v, o)]) = keysT l ++ [v] := by
  unfold keysT
  rw [List.map_append]
  rfl
theorem Tow.nd {ts : Ties} {g : Int} {l : Tw} (h : Tow ts g l) : (keysT l).Nodup := by
  induction h with
  | base => exact List.nodup_cons.mpr ⟨List.not_mem_nil, List.nodup_nil⟩
  | snoc _ _ nv _ ih =>
    rw [keysT_snoc]
    exact List.nodup_append.mpr ⟨ih, List.nodup_cons.mpr ⟨List.not_mem_nil, List.nodup_nil⟩, fun x m y k z => by
      rw [List.mem_singleton.mp k] at z
      exact nv (z ▸ m)⟩
theorem Tow.rch {ts : Ties} {g : Int} {l : Tw} (h : Tow ts g l) : ∀ v ∈ keysT l, Rch ts g v := by
  induction h with
  | base =>
    intro v m
    rw [List.mem_singleton.mp (show v ∈ [g] from m)]
    exact .refl
  | snoc _ hp _ e ih =>
    intro v m
    rw [keysT_snoc] at m
    rcases List.mem_append.mp m with m | m
    · exact ih v m
    · rw [List.mem_singleton.mp m]
      exact .step (ih _ hp) e
theorem Tow.mem {ts : Ties} {g : Int} {l : Tw} (h : Tow ts g l) : g ∈ keysT l := by
  induction h with
  | base => exact List.mem_cons_self
  | snoc _ _ _ _ ih =>
    rw [keysT_snoc]
    exact List.mem_append_left _ ih
/-- a way that goes on as it is told -/
inductive Fol (l : Tw) (g : Int) : List Int → Prop
  | one : Fol l g [g]
  | cons {v p : Int} {w : List Int} : (v, some p) ∈ l → v ≠ g → Fol l g (p :: w) → Fol l g (v :: p :: w)
theorem Fol.mono {l m : Tw} {g : Int} (s : ∀ x ∈ l, x ∈ m) {w : List Int} (h : Fol l g w) : Fol m g w := by
  induction h with
  | one => exact .one
  | cons e n _ ih => exact .cons (s _ e) n ih
theorem Tow.way {ts : Ties} {g : Int} {l : Tw} (h : Tow ts g l) : ∀ v ∈ keysT l, ∃ w, Way ts v g w ∧ Fol l g w ∧ ∀ x ∈ w, x ∈ keysT l := by
  induction h with
  | base =>
    intro v m
    have e := List.mem_singleton.mp (show v ∈ [g] from m)
    subst e
    refine ⟨[v], ⟨.one v, List.nodup_cons.mpr ⟨List.not_mem_nil, List.nodup_nil⟩⟩, .one, fun x hx => ?_⟩
    rw [List.mem_singleton.mp hx]
    exact List.mem_cons_self
  | @snoc l p v hl hp nv e ih =>
    intro u m
    rw [keysT_snoc] at m
    rcases List.mem_append.mp m with m | m
    · obtain ⟨w, h1, h2, h3⟩ := ih u m
      refine ⟨w, h1, h2.mono fun x hx => List.mem_append_left _ hx, fun x hx => ?_⟩
      rw [keysT_snoc]
      exact List.mem_append_left _ (h3 x hx)
    · have eu := List.mem_singleton.mp m
      subst eu
      obtain ⟨w, h1, h2, h3⟩ := ih p hp
      have nw : u ∉ w := fun z => nv (h3 u z)
      have ng : u ≠ g := fun z => nv (z ▸ hl.mem)
      refine ⟨u :: w, ⟨.cons e.symm h1.wk, List.nodup_cons.mpr ⟨nw, h1.nd⟩⟩, ?_, fun x hx => ?_⟩
      · have h2' := h2.mono fun x hx => List.mem_append_left [(u, some p)] hx
        cases w with
        | nil => exact absurd rfl h1.wk.ne_nil
        | cons y w =>
          have ey : y = p := Option.some.inj h1.wk.head
          subst ey
          exact .cons (List.mem_append_right _ List.mem_cons_self) ng h2'
      · rw [keysT_snoc]
        rcases List.mem_cons.mp hx with rfl | hx
        · exact List.mem_append_right _ List.mem_cons_self
        · exact List.mem_append_left _ (h3 x hx)
theorem closed_rch {ts : Ties} {g : Int} {S : List Int} (hg : g ∈ S) (cl : ∀ v ∈ S, ∀ u, Adj ts v u → u ∈ S) {v : Int} (h : Rch ts g v) : v ∈ S := by
  induction h with
  | refl => exact hg
  | step _ e ih => exact cl _ ih _ e
/-- as Python has it -/
def optV : Option Int → V
  | none => .non
  | some i => .int i
def kvT (l : Tw) : List (Key × V) := l.map fun x => (Sum.inl x.1, optV x.2)
theorem kvT_none {l : Tw} {v : Int} (h : v ∉ keysT l) : valV (kvT l) (Sum.inl v) = none := by
  induction l with
  | nil => rfl
  | cons x l ih =>
    obtain ⟨a, o⟩ := x
    have n1 : ¬ (Sum.inl a : Key) = Sum.inl v := fun z => h (by rw [Sum.inl.inj z]; exact List.mem_cons_self)
    show valV ((Sum.inl a, optV o) :: kvT l) (Sum.inl v) = none
    rw [valV_neg n1]
    exact ih fun z => h (List.mem_cons_of_mem _ z)
theorem kvT_some {l : Tw} {v : Int} {o : Option Int} (nd : (keysT l).Nodup) (h : (v, o) ∈ l) : valV (kvT l) (Sum.inl v) = some (optV o) := by
  induction l with
  | nil => exact nomatch h
  | cons x l ih =>
    obtain ⟨a, o'⟩ := x
    have nd : (a :: keysT l).Nodup := nd
    rw [List.nodup_cons] at nd
    show valV ((Sum.inl a, optV o') :: kvT l) (Sum.inl v) = _
    rcases List.mem_cons.mp h with e | h
    · cases e
      exact valV_pos (p := (Sum.inl v, optV o)) rfl
    · have n1 : ¬ (Sum.inl a : Key) = Sum.inl v := fun z => nd.1 (by rw [Sum.inl.inj z]; exact List.mem_map.mpr ⟨_, h, rfl⟩)
      rw [valV_neg n1]
      exact ih nd.2 h
theorem kvT_get {l : Tw} {v : Int} (nd : (keysT l).Nodup) : (valV (kvT l) (Sum.inl v)).isSome = decide (v ∈ keysT l) := by
  by_cases h : v ∈ keysT l
  · obtain ⟨x, hx, e⟩ := List.mem_map.mp h
    obtain ⟨a, o⟩ := x
    have e : a = v := e
    subst e
    rw [kvT_some nd hx, decide_eq_true h]
    rfl
  · rw [kvT_none h, decide_eq_false h]
    rfl
theorem kvT_put {l : Tw} {v : Int} {o : Option Int} (h : v ∉ keysT l) : putK (kvT l) (Sum.inl v) (optV o) = kvT (l ++ [(v, o)]) := by
  unfold putK
  rw [valV_any, kvT_none h, if_neg (by decide)]
  unfold kvT
  rw [List.map_append]
  rfl
theorem filter_ne_length {a : Int} : ∀ {l : List Int}, l.Nodup → l.length ≤ (l.filter fun x => decide (x ≠ a)).length + 1
  | [], _ => Nat.zero_le _
  | x :: l, nd => by
    rw [List.nodup_cons] at nd
    by_cases e : x = a
    · subst e
      have h : (l.filter fun y => decide (y ≠ x)) = l := List.filter_eq_self.mpr fun y hy => decide_eq_true fun z => nd.1 (z ▸ hy)
      rw [List.filter_cons_of_neg (by simp), h, List.length_cons]
      omega
    · rw [List.filter_cons_of_pos (by simpa using e), List.length_cons, List.length_cons]
      have := filter_ne_length (a := a) nd.2
      omega
/-- as many as are below n, and unlike -/
theorem nodup_le : ∀ {n : Nat} {l : List Int}, l.Nodup → (∀ x ∈ l, 0 ≤ x ∧ x < (n : Int)) → l.length ≤ n
  | 0, [], _, _ => Nat.le_refl _
  | 0, x :: l, _, h => by
    have := h x List.mem_cons_self
    omega
  | n + 1, l, nd, h => by
    have h1 := filter_ne_length (a := (n : Int)) nd
    have h2 := nodup_le (n := n) (l := l.filter fun x => decide (x ≠ (n : Int))) (nd.filter _) fun x hx => by
      obtain ⟨m1, m2⟩ := List.mem_filter.mp hx
      have := h x m1
      have := of_decide_eq_true m2
      omega
    omega

end My
namespace My
open PySem L2
/-! ### just what is made, step by step -/
def addNb (nbs : List (List Int)) (t : Int × Int) : List (List Int) := (nbs.set t.1.toNat ((nbs[t.1.toNat]?).getD [] ++ [t.2])).set t.2.toNat (((nbs.set t.1.toNat ((nbs[t.1.toNat]?).getD [] ++ [t.2]))[t.2.toNat]?).getD [] ++ [t.1])
def nbF (n : Nat) (ts : Ties) : List (List Int) := ts.foldl addNb (List.replicate n [])
def inn (h : Int) (s : Tw × List Int) (u : Int) : Tw × List Int := if u ∈ keysT s.1 then s else (s.1 ++ [(u, some h)], s.2 ++ [u])
inductive Run (nbs : List (List Int)) : Tw → List Int → Tw → Prop
  | done {l : Tw} : Run nbs l [] l
  | go {l lf : Tw} {ws nb : List Int} {h : Int} : nbs[h.toNat]? = some nb → Run nbs (nb.foldl (inn h) (l, ws)).1 (nb.foldl (inn h) (l, ws)).2 lf → Run nbs l (ws ++ [h]) lf
theorem Run.det {nbs : List (List Int)} {l l1 l2 : Tw} {ws : List Int} (h1 : Run nbs l ws l1) : Run nbs l ws l2 → l1 = l2 := by
  induction h1 with
  | done =>
    intro h2
    generalize e : ([] : List Int) = ws at h2
    cases h2 with
    | done => rfl
    | go _ _ => exact absurd e (by simp)
  | @go l lf ws nb h en k ih =>
    intro h2
    generalize e : ws ++ [h] = ws2 at h2
    cases h2 with
    | done => exact absurd e (by simp)
    | @go _ _ ws3 nb3 h3 en3 k3 =>
      obtain ⟨e1, e2⟩ := List.append_inj' e rfl
      obtain rfl : h = h3 := List.head_eq_of_cons_eq e2
      subst e1
      rw [en] at en3
      obtain rfl := Option.some.inj en3
      exact ih k3
theorem keysT_un {l : Tw} (nd : (keysT l).Nodup) {v : Int} {o p : Option Int} (h1 : (v, o) ∈ l) (h2 : (v, p) ∈ l) : o = p := by
  have e := (kvT_some nd h1).symm.trans (kvT_some nd h2)
  have e := Option.some.inj e
  cases o <;> cases p
  · rfl
  · cases e
  · cases e
  · rw [V.int.inj e]
theorem Fol.det {l : Tw} {g : Int} (nd : (keysT l).Nodup) {w u : List Int} (h1 : Fol l g w) : Fol l g u → w.head? = u.head? → w = u := by
  induction h1 generalizing u with
  | one =>
    intro h2 e
    cases h2 with
    | one => rfl
    | cons _ n _ => exact absurd (Option.some.inj e).symm n
  | @cons v p r m n k ih =>
    intro h2 e
    cases h2 with
    | one => exact absurd (Option.some.inj e) n
    | @cons v2 p2 r2 m2 n2 k2 =>
      obtain rfl : v = v2 := Option.some.inj e
      obtain rfl : p = p2 := Option.some.inj (keysT_un nd m m2)
      rw [ih k2 rfl]
/-- the way that way_of tells -/
def WayX (n : Nat) (ts : Ties) (a b : Int) (wy : List Int) : Prop := ∃ l : Tw, Run (nbF n ts) [(b, none)] [b] l ∧ (keysT l).Nodup ∧ Fol l b wy ∧ wy.head? = some a
theorem WayX.det {n : Nat} {ts : Ties} {a b : Int} {wy wz : List Int} (h1 : WayX n ts a b wy) (h2 : WayX n ts a b wz) : wy = wz := by
  obtain ⟨l, r1, nd, f1, e1⟩ := h1
  obtain ⟨m, r2, _, f2, e2⟩ := h2
  have e := r1.det r2
  subst e
  exact f1.det nd f2 (e1.trans e2.symm)
/-! ### neighbours -/
def nbOk (ts : Ties) (nbs : List (List Int)) : Prop := ∀ (i : Nat) (nb : List Int), nbs[i]? = some nb → ∀ j, j ∈ nb ↔ Adj ts (i : Int) j
/-- the lists of neighbours stand in H, all of them new since H0 -/
structure Arnd (H0 H : Hp) (L : Addr) (nbs : List (List Int)) : Prop where
  ex : ∃ ls : List Addr, H L = some (.lst (ls.map V.ref)) ∧ ls.Nodup ∧ ls.length = nbs.length ∧ H0 L = none ∧ (∀ a ∈ ls, H0 a = none ∧ a ≠ L) ∧ ∀ (i : Nat) (a : Addr), ls[i]? = some a → ∃ nb : List Int, nbs[i]? = some nb ∧ H a = some (.lst (nb.map V.int))
theorem Arnd.same {H0 H H' : Hp} {L : Addr} {nbs : List (List Int)} (h : Arnd H0 H L nbs) (s : Same H H') : Arnd H0 H' L nbs := by
  obtain ⟨ls, h1, h2, h3, h4, h5, h6⟩ := h.ex
  refine ⟨ls, s _ _ h1, h2, h3, h4, h5, fun i a e => ?_⟩
  obtain ⟨nb, e1, e2⟩ := h6 i a e
  exact ⟨nb, e1, s _ _ e2⟩
theorem nd_inj {α : Type} : ∀ {l : List α} {i j : Nat} {x : α}, l.Nodup → l[i]? = some x → l[j]? = some x → i = j
  | [], _, _, _, _, h, _ => nomatch h
  | y :: l, 0, 0, x, _, _, _ => rfl
  | y :: l, 0, j + 1, x, nd, h1, h2 => by
    have e : y = x := Option.some.inj h1
    subst e
    exact absurd (List.mem_of_getElem? (show l[j]? = some y from h2)) (List.nodup_cons.mp nd).1
  | y :: l, i + 1, 0, x, nd, h1, h2 => by
    have e : y = x := Option.some.inj h2
    subst e
    exact absurd (List.mem_of_getElem? (show l[i]? = some y from h1)) (List.nodup_cons.mp nd).1
  | y :: l, i + 1, j + 1, x, nd, h1, h2 => congrArg (· + 1) (nd_inj (l := l) (List.nodup_cons.mp nd).2 h1 h2)
def NB (nbs : List (List Int)) (R : Nat → Int → Prop) : Prop := ∀ (k : Nat) (nb : List Int), nbs[k]? = some nb → ∀ j, j ∈ nb ↔ R k j
theorem NB.put {nbs : List (List Int)} {R : Nat → Int → Prop} {i : Nat} {nb : List Int} {j : Int} (h : NB nbs R) (hn : nbs[i]? = some nb) : NB (nbs.set i (nb ++ [j])) (fun k m => R k m ∨ (k = i ∧ m = j)) := by
  intro k nb' e m
  by_cases hk : i = k
  · subst hk
    rw [List.getElem?_set_self (List.getElem?_eq_some_iff.mp hn).1] at e
    have e := Option.some.inj e
    subst e
    rw [List.mem_append, List.mem_singleton, h i nb hn m]
    constructor
    · rintro (z | z)
      · exact .inl z
      · exact .inr ⟨rfl, z⟩
    · rintro (z | ⟨_, z⟩)
      · exact .inl z
      · exact .inr z
  · rw [List.getElem?_set_ne hk] at e
    rw [h k nb' e m]
    constructor
    · exact .inl
    · rintro (z | ⟨z, _⟩)
      · exact z
      · exact absurd z.symm hk
theorem get_at {α : Type} {xs : List α} {i : Nat} (h : i < xs.length) : ∃ x, xs[i]? = some x := ⟨xs[i], List.getElem?_eq_getElem h⟩
/-- one list of them longer by one -/
theorem Arnd.put {H0 H : Hp} {L : Addr} {nbs : List (List Int)} {i : Nat} {a : Addr} {nb : List Int} {j : Int} (h : Arnd H0 H L nbs) (ls : List Addr) (hL : H L = some (.lst (ls.map V.ref))) (ha : ls[i]? = some a) (hn : nbs[i]? = some nb) (hA : H a = some (.lst (nb.map V.int))) :
    Arnd H0 (upd H a (.lst (nb.map V.int ++ [.int j]))) L (nbs.set i (nb ++ [j])) ∧ H0 a = none := by
  obtain ⟨ls', h1, h2, h3, h4, h5, h6⟩ := h.ex
  have eas : ls' = ls := by
    rw [hL] at h1
    have z := HO.lst.inj (Option.some.inj h1)
    have inj : ∀ {x y : List Addr}, x.map V.ref = y.map V.ref → x = y := by
      intro x
      induction x with
      | nil =>
        intro y e
        cases y with
        | nil => rfl
        | cons _ _ => exact nomatch e
      | cons b x ih =>
        intro y e
        cases y with
        | nil => exact nomatch e
        | cons c y =>
          obtain ⟨e1, e2⟩ := List.cons.inj e
          rw [V.ref.inj e1, ih e2]
    exact (inj z).symm
  subst eas
  have ma := List.mem_of_getElem? ha
  have il : i < nbs.length := (List.getElem?_eq_some_iff.mp hn).1
  refine ⟨⟨ls', ?_, h2, by rw [List.length_set]; exact h3, h4, h5, fun k b e => ?_⟩, (h5 a ma).1⟩
  · rw [upd_ne (h5 a ma).2.symm]
    exact h1
  · by_cases eb : b = a
    · subst eb
      have ek : k = i := nd_inj h2 e ha
      subst ek
      exact ⟨nb ++ [j], by rw [List.getElem?_set_self il], by rw [upd_same, List.map_append]; rfl⟩
    · obtain ⟨nb', e1, e2⟩ := h6 k b e
      have nk : i ≠ k := fun z => eb (by subst z; rw [ha] at e; exact (Option.some.inj e).symm)
      exact ⟨nb', by rw [List.getElem?_set_ne nk]; exact e1, by rw [upd_ne eb]; exact e2⟩
theorem Arnd.at_ {H0 H : Hp} {L : Addr} {nbs : List (List Int)} (h : Arnd H0 H L nbs) {i : Int} (h0 : 0 ≤ i) (h1 : i < (nbs.length : Int)) : ∃ (ls : List Addr) (a : Addr) (nb : List Int), H L = some (.lst (ls.map V.ref)) ∧ ls[i.toNat]? = some a ∧ atI (ls.map V.ref) i = some (.ref a) ∧ nbs[i.toNat]? = some nb ∧ H a = some (.lst (nb.map V.int)) := by
  obtain ⟨ls, g1, g2, g3, g4, g5, g6⟩ := h.ex
  obtain ⟨a, ha⟩ := get_at (xs := ls) (i := i.toNat) (by omega)
  obtain ⟨nb, e1, e2⟩ := g6 _ _ ha
  refine ⟨ls, a, nb, g1, ha, ?_, e1, e2⟩
  have ei : i = ((i.toNat : Nat) : Int) := by omega
  rw [ei]
  refine atI_nat ?_
  rw [List.getElem?_map, ha]
  rfl
def Fr74 (H : Hp) (f : V) (n : Nat) (ts : Ties) : Prop := ∃ (fa pa ta : Addr) (ys : List V), f = .ref fa ∧ H fa = some (.tup [.ref pa, .ref ta]) ∧ H pa = some (.tup (rgV 0 (n : Int))) ∧ H ta = some (.lst ys) ∧ PAll H ys ts
structure Bd74 (n : Nat) (ts : Ties) : Prop where
  few : n ≤ 40
  tl : ts.length ≤ 100
  tok : ∀ t ∈ ts, 0 ≤ t.1 ∧ 0 ≤ t.2 ∧ t.1 < (n : Int) ∧ t.2 < (n : Int)
def spNb : Sp := fun vs H Q _ => ∃ (f : V) (n : Nat) (ts : Ties), vs = [f] ∧ Fr74 H f n ts ∧ Bd74 n ts ∧
  ∀ (L : Addr) (nbs : List (List Int)) (H' : Hp), Same H H' → Arnd H H' L nbs → nbs.length = n → nbOk ts nbs → nbs = nbF n ts → Q (.ref L) H'
section
variable {P : Program} {w : World} {K : PySem.W.Frag} {mg : Str → Option Value} {base : Heap}
theorem ok_nb (T : Top K mg) : FnOk P w K mg base CX0 1 T.a_neighbours T.d_neighbours ["forest"] (spNb) := by
  refine T.F_neighbours.ok sc_neighbours (fun vs H Q E h => ?_) (fun cdv A outer s H vs Q E hr h => ?_)
  · obtain ⟨f, n, ts, rfl, _⟩ := h
    rfl
  · obtain ⟨f, n, ts, rfl, hf, fok, q⟩ := h
    obtain ⟨fa, pa, ta, ys, rfl, f1, f2, f4, f5⟩ := hf
    have lxs : (rgV 0 (n : Int)).length = n := by
      rw [rgV_length]
      omega
    have lys : ys.length = ts.length := f5.length
    refine ⟨_, (pss_cons (ps_asg (pv 0) (pg_tup rfl (pgs_cons (pg_name (i := 1) sc_neighbours.nd rfl (.inl rfl)) (pgs_cons (pg_name (i := 2) sc_neighbours.nd rfl (.inl rfl)) pgs_nil))))
      (pss_cons (ps_setLc (i := 3) (own := [("point", 4)]) (g := gName 4) (tt := tYes) (by rfl) sc_neighbours.nd rfl rfl (sw_true rfl rfl rfl (by decide +kernel)) (pi_tup (pv 1)) (blkOk_by (own := [("point", 4)]) (N := ["forest", "points", "ties", "around", "point", "a", "b"]) (sc := defScope s_neighbours) (by decide +kernel)) (fun _ _ _ _ _ => (pg_name (i := 4) sc_neighbours.nd rfl (.inl rfl))) (fun _ _ _ _ _ => pts_nil) (fun _ _ _ _ _ => (pe_lst pa_nil)))
      (pss_cons (ps_for PassesOwn.never rfl (pi_list (pv 2)) (pg_tup rfl (pgs_cons (pg_name (i := 5) sc_neighbours.nd rfl (.inl rfl)) (pgs_cons (pg_name (i := 6) sc_neighbours.nd rfl (.inl rfl)) pgs_nil))) (pss_cons (ps_expr (pe_bm PySem.F.plainAttrs_list PySem.F.slot_list_append PySem.F.type_list_append mt_append (pe_ix ix_list (pv 3) (pv 5) (fun _ _ => rfl)) (pa_cons (pv 6) pa_nil)))
      (pss_one (ps_expr (pe_bm PySem.F.plainAttrs_list PySem.F.slot_list_append PySem.F.type_list_append mt_append (pe_ix ix_list (pv 3) (pv 6) (fun _ _ => rfl)) (pa_cons (pv 5) pa_nil))))))
      (pss_one (ps_ret (pv 3)))))), ?_⟩
    refine ⟨_, rfl, fa, _, rfl, SqT.of f1, rfl, _, _, rfl, _, _, rfl, rfl, ?_⟩
    refine ⟨_, rfl, pa, rfl, ⟨_, SqT.of f2⟩, fun D nD => ?_⟩
    have few := fok.few
    have tl := fok.tl
    refine lc_tup (xs := rgV 0 (n : Int)) (fun i H' => Same H H' ∧ Arnd H H' D (List.replicate i [])) ⟨same_new nD, ⟨[], upd_same, List.nodup_nil, rfl, nD, (fun a m => nomatch m), (fun i a e => nomatch e)⟩⟩ (fun i H' hi hq => SqT.of (hq.1 _ _ f2)) (fun i x H' hx hq => ?_) (fun H' hq => ?_)
    · obtain ⟨s1, ls, h1, h2, h3, h4, h5, h6⟩ := hq
      refine ⟨rfl, yes_ite ?_⟩
      refine ⟨Nat.zero_le _, fun p np => ?_⟩
      have sp := same_new (o := .lst []) np
      have nDp : D ≠ p := ne_of_none h1 np
      have hil := (List.getElem?_eq_some_iff.mp hx).1
      refine ⟨_, sp _ _ h1, szl (by rw [List.length_map, h3, List.length_replicate]; omega), ?_, ?_⟩
      · intro c o e
        rw [upd_ne (ne_of_none e nD)]
        exact sp _ _ (s1 _ _ e)
      · have np0 : H p = none := s1.free np
        have npas : p ∉ ls := fun m => by
          obtain ⟨k, hk⟩ := List.mem_iff_getElem?.mp m
          obtain ⟨nb, _, e2⟩ := h6 k p hk
          rw [np] at e2
          cases e2
        refine ⟨ls ++ [p], ?_, List.nodup_append.mpr ⟨h2, List.nodup_cons.mpr ⟨List.not_mem_nil, List.nodup_nil⟩, fun x m y k z => by rw [List.mem_singleton.mp k] at z; exact npas (z ▸ m)⟩, ?_, nD, ?_, ?_⟩
        · rw [upd_same, List.map_append]
          rfl
        · rw [List.length_append, h3, List.length_replicate, List.length_replicate]
          rfl
        · intro a m
          rcases List.mem_append.mp m with m | m
          · exact h5 a m
          · rw [List.mem_singleton.mp m]
            exact ⟨np0, nDp.symm⟩
        · intro k a e
          by_cases hk : k < ls.length
          · rw [List.getElem?_append_left hk] at e
            obtain ⟨nb, e1, e2⟩ := h6 k a e
            have e3 := List.eq_of_mem_replicate (List.mem_of_getElem? e1)
            subst e3
            refine ⟨[], ?_, ?_⟩
            · rw [List.getElem?_replicate, if_pos (by rw [h3, List.length_replicate] at hk; omega)]
            · rw [upd_ne (h5 a (List.mem_of_getElem? e)).2, upd_ne (show a ≠ p from fun z => npas (by rw [← z]; exact List.mem_of_getElem? e))]
              exact e2
          · rw [List.getElem?_append_right (by omega)] at e
            cases hk2 : k - ls.length with
            | zero =>
              rw [hk2] at e
              have ea : p = a := Option.some.inj e
              subst ea
              refine ⟨[], ?_, ?_⟩
              · rw [List.getElem?_replicate, if_pos (by rw [h3, List.length_replicate] at hk2 hk; omega)]
              · rw [upd_ne nDp.symm, upd_same]
                rfl
            | succ n =>
              rw [hk2] at e
              cases e
    · obtain ⟨s1, har⟩ := hq
      rw [lxs] at har
      refine ⟨_, rfl, ta, rfl, ⟨_, SqL.of (s1 _ _ f4)⟩, for_list (xs := ys) (fun i σ H2 => (∃ y4 y5 y6, σ = [some (.ref fa), some (.ref pa), some (.ref ta), some (.ref D), y4, y5, y6]) ∧ Same H H2 ∧ ∃ nbs, Arnd H H2 D nbs ∧ nbs.length = n ∧ nbOk (ts.take i) nbs ∧ nbs = nbF n (ts.take i) ∧ ∀ nb ∈ nbs, nb.length ≤ 2 * i) ⟨⟨_, _, _, rfl⟩, s1, _, har, List.length_replicate, ?_, rfl, ?_⟩ (fun i σ H2 _ h => SqL.of (h.2.1 _ _ f4)) ?_ ?_⟩
      · intro k nb e j
        rw [List.eq_of_mem_replicate (List.mem_of_getElem? e), List.take_zero]
        constructor
        · intro z
          cases z
        · rintro (z | z)
          · cases z
          · cases z
      · intro nb m
        rw [List.eq_of_mem_replicate m]
        exact Nat.zero_le _
      · rintro i x σ H2 hx ⟨⟨y4, y5, y6, rfl⟩, s2, nbs, har2, hlen2, hnb2, hex2, hsm2⟩
        have hil := (List.getElem?_eq_some_iff.mp hx).1
        obtain ⟨tp, t0, rfl, ht0, htp⟩ := (f5.same s2).at hx
        obtain ⟨ta0, ta1, tb0, tb1⟩ : 0 ≤ t0.1 ∧ t0.1 < (nbs.length : Int) ∧ 0 ≤ t0.2 ∧ t0.2 < (nbs.length : Int) := by
          have z := fok.tok t0 (List.mem_of_getElem? ht0)
          rw [hlen2]
          exact ⟨z.1, z.2.2.1, z.2.1, z.2.2.2⟩
        refine ⟨tp, _, rfl, SqT.of htp, rfl, _, _, rfl, _, _, rfl, rfl, ?_⟩
        obtain ⟨ls, a, nb, hL, ha, hat, hn, hA⟩ := har2.at_ ta0 ta1
        have hs1 := hsm2 nb (List.mem_of_getElem? hn)
        refine ⟨_, rfl, _, rfl, D, _, _, _, rfl, rfl, SqL.of hL, hat, .inl ⟨rfl, _, SqL.of hA⟩, _, rfl, a, _, _, rfl, rfl, hA, szl (by rw [List.length_map]; omega), ?_⟩
        obtain ⟨har3, na⟩ := har2.put (j := t0.2) ls hL ha hn hA
        have s3 : Same H (upd H2 a (.lst (nb.map V.int ++ [.int t0.2]))) := fun c o e => by
          rw [upd_ne (ne_of_none e na)]
          exact s2 _ _ e
        have hnb3 := NB.put (j := t0.2) hnb2 hn
        obtain ⟨ls', a', nb', hL', ha', hat', hn', hA'⟩ := har3.at_ (i := t0.2) tb0 (by rw [List.length_set]; exact tb1)
        have hs2 : nb'.length ≤ 2 * i + 1 := by
          by_cases ek : t0.1.toNat = t0.2.toNat
          · rw [← ek, List.getElem?_set_self (List.getElem?_eq_some_iff.mp hn).1] at hn'
            rw [← Option.some.inj hn', List.length_append, List.length_singleton]
            omega
          · rw [List.getElem?_set_ne ek] at hn'
            have := hsm2 nb' (List.mem_of_getElem? hn')
            omega
        refine ⟨_, rfl, _, rfl, D, _, _, _, rfl, rfl, SqL.of hL', hat', .inl ⟨rfl, _, SqL.of hA'⟩, _, rfl, a', _, _, rfl, rfl, hA', szl (by rw [List.length_map]; omega), ?_⟩
        obtain ⟨har4, na'⟩ := har3.put (j := t0.1) ls' hL' ha' hn' hA'
        have hnb4 := NB.put (j := t0.1) hnb3 hn'
        refine ⟨⟨_, _, _, rfl⟩, ?_, _, har4, by rw [List.length_set, List.length_set]; exact hlen2, ?_, ?_, ?_⟩
        · intro c o e
          rw [upd_ne (ne_of_none e na')]
          exact s3 _ _ e
        · intro k nb2 e j
          rw [hnb4 k nb2 e j, take_at ht0]
          unfold Adj
          rw [List.mem_append, List.mem_append, List.mem_singleton, List.mem_singleton]
          constructor
          · rintro ((z | ⟨z1, z2⟩) | ⟨z1, z2⟩)
            · rcases z with z | z
              · exact .inl (.inl z)
              · exact .inr (.inl z)
            · refine .inl (.inr ?_)
              have : (k : Int) = t0.1 := by omega
              rw [this, z2]
            · refine .inr (.inr ?_)
              have : (k : Int) = t0.2 := by omega
              rw [this, z2]
          · rintro ((z | z) | (z | z))
            · exact .inl (.inl (.inl z))
            · refine .inl (.inr ?_)
              rw [← z]
              exact ⟨by simp, rfl⟩
            · exact .inl (.inl (.inr z))
            · refine .inr ?_
              rw [← z]
              exact ⟨by simp, rfl⟩
        · rw [take_at ht0]
          unfold nbF
          rw [List.foldl_append, ← (show nbs = (ts.take i).foldl addNb (List.replicate n []) from hex2)]
          show _ = addNb nbs t0
          unfold addNb
          rw [hn, Option.getD_some, hn', Option.getD_some]
        · intro nb2 m
          have len1 : ∀ x ∈ nbs.set t0.1.toNat (nb ++ [t0.2]), x.length ≤ 2 * i + 1 := fun x hx => by
            rcases List.mem_or_eq_of_mem_set hx with z | z
            · have := hsm2 x z
              omega
            · rw [z, List.length_append, List.length_singleton]
              omega
          rcases List.mem_or_eq_of_mem_set m with z | z
          · have := len1 nb2 z
            omega
          · rw [z, List.length_append, List.length_singleton]
            omega
      · rintro σ H2 ⟨⟨y4, y5, y6, rfl⟩, s2, nbs, har2, hlen2, hnb2, hex2, _⟩
        rw [List.take_of_length_le (by omega)] at hnb2 hex2
        exact ⟨_, rfl, q D nbs H2 s2 har2 hlen2 hnb2 hex2⟩
end
/-! ### steps_toward -/
def spSteps : Sp := fun vs H Q _ => ∃ (f : V) (g : Int) (n : Nat) (ts : Ties), vs = [f, .int g] ∧ Fr74 H f n ts ∧ Bd74 n ts ∧ 0 ≤ g ∧ g < (n : Int) ∧
  ∀ (d : Addr) (l : Tw) (H' : Hp), Same H H' → H d = none → H' d = some (.dK (kvT l)) → Tow ts g l → (∀ v, v ∈ keysT l ↔ Rch ts g v) → (∀ v ∈ keysT l, 0 ≤ v ∧ v < (n : Int)) → Run (nbF n ts) [(g, none)] [g] l → Q (.ref d) H'
theorem adj_in {n : Nat} {ts : Ties} (fok : Bd74 n ts) {a b : Int} (h : Adj ts a b) : 0 ≤ b ∧ b < (n : Int) := by
  rcases h with h | h
  · have := fok.tok _ h
    exact ⟨this.2.1, this.2.2.2⟩
  · have := fok.tok _ h
    exact ⟨this.1, this.2.2.1⟩
section
variable {P : Program} {w : World} {K : PySem.W.Frag} {mg : Str → Option Value} {base : Heap}
theorem ok_steps (T : Top K mg) : FnOk P w K mg base CX0 2 T.a_stepstoward T.d_stepstoward ["forest", "goal"] (spSteps) := by
  have G_neighbours : FnOk P w K mg base CX0 1 _ _ _ _ := ok_nb T
  refine T.F_stepstoward.ok sc_stepstoward (fun vs H Q E h => ?_) (fun cdv A outer s H vs Q E hr h => ?_)
  · obtain ⟨f, g, n, ts, rfl, _⟩ := h
    rfl
  · obtain ⟨f, g, n, ts, rfl, hf, fok, g0, g1, q⟩ := h
    have few := fok.few
    refine ⟨_, (pss_cons (ps_set (i := 2) sc_stepstoward.nd rfl (.inl rfl) (pe_call G_neighbours hr (by rfl) T.g_neighbours T.F_neighbours.kp T.b_neighbours .nil pass0 (pa_cons (pv 0) pa_nil)))
      (pss_cons (ps_set (i := 3) sc_stepstoward.nd rfl (.inl rfl) (pe_disp (pps_cons (pv 1) pe_non pps_nil) (by rfl) (by rfl) (fun z => by cases z) (by decide)))
      (pss_cons (ps_set (i := 4) sc_stepstoward.nd rfl (.inl rfl) (pe_lst (pa_cons (pv 1) pa_nil)))
      (pss_cons (ps_while PassesOwn.never (pt_truth (pv 4) (by intro _; rfl)) (pss_cons (ps_set (i := 5) sc_stepstoward.nd rfl (.inl rfl) (pe_bm0 PySem.F.plainAttrs_list PySem.F.slot_list_pop PySem.F.type_list_pop mt_pop (pv 4)))
      (pss_one (ps_for PassesOwn.never rfl (pi_list (pe_ix ix_list (pv 2) (pv 5) (fun _ _ => rfl))) (pg_name (i := 6) sc_stepstoward.nd rfl (.inl rfl)) (pss_one (ps_if (pt_cmp (pc_dnotin (u1 hr) (pv 6) (pv 3))) (pss_cons (ps_dput (u1 hr) (pv 3) (pv 6) (pv 5) rfl)
      (pss_one (ps_expr (pe_bm PySem.F.plainAttrs_list PySem.F.slot_list_append PySem.F.type_list_append mt_append (pv 4) (pa_cons (pv 6) pa_nil))))) pss_nil))))))
      (pss_one (ps_ret (pv 3))))))), ?_⟩
    refine ⟨_, rfl, f, n, ts, rfl, hf, fok, fun L nbs H1 s1 har hlen hnb hex => ?_⟩
    refine fun d nd => ⟨_, rfl, upd_same, [(Sum.inl g, .non)], rfl, (by show 1 ≤ 15; decide), ?_⟩
    rw [upd_upd]
    have ekv : mergeK [] [((Sum.inl g : Key), V.non)] = kvT [(g, none)] := rfl
    rw [ekv]
    have s2 : Same H1 (upd H1 d (.dK (kvT [(g, none)]))) := same_new nd
    have hd2 : upd H1 d (.dK (kvT [(g, none)])) d = some (.dK (kvT [(g, none)])) := upd_same
    generalize upd H1 d (.dK (kvT [(g, none)])) = H2 at s2 hd2 ⊢
    have nd0 : H d = none := s1.free nd
    refine ⟨_, rfl, (by show 1 ≤ sizeLine; decide), fun W nW => ?_⟩
    have nW1 : H1 W = none := s2.free nW
    have nW0 : H W = none := s1.free nW1
    have dW : d ≠ W := ne_of_none hd2 nW
    have s3 := same_new (o := .lst [.int g]) nW
    have hd3 := s3 _ _ hd2
    have har3 : Arnd H (upd H2 W (.lst [.int g])) L nbs := (har.same s2).same s3
    -- what stands but d and W
    refine ⟨fun m σ H4 => ∃ (l : Tw) (ws : List Int) (y5 y6 : Option V), σ = [some f, some (.int g), some (.ref L), some (.ref d), some (.ref W), y5, y6] ∧ (∀ c o, H1 c = some o → H4 c = some o) ∧ H4 d = some (.dK (kvT l)) ∧ H4 W = some (.lst (ws.map V.int)) ∧ Tow ts g l ∧ (∀ v ∈ ws, v ∈ keysT l) ∧ (∀ v ∈ keysT l, v ∉ ws → ∀ u, Adj ts v u → u ∈ keysT l) ∧ (∀ v ∈ keysT l, 0 ≤ v ∧ v < (n : Int)) ∧ m = 2 * (n - l.length) + ws.length ∧ l.length ≤ n ∧ ws.length ≤ l.length ∧ ∀ lf, Run nbs l ws lf → Run nbs [(g, none)] [g] lf, ⟨_, [(g, none)], [g], none, none, rfl, ?_, hd3, upd_same, .base, ?_, ?_, ?_, rfl, ?_, ?_, fun lf z => z⟩, ?_⟩
    · exact fun c o e => s3 _ _ (s2 _ _ e)
    · exact fun v m => m
    · intro v m n
      exact absurd m n
    · intro v m
      rw [List.mem_singleton.mp (show v ∈ [g] from m)]
      exact ⟨g0, g1⟩
    · show 1 ≤ n
      omega
    · exact Nat.le_refl _
    · rintro m σ H4 ⟨l, ws, y5, y6, rfl, k4, hd4, hW4, tow, hws, hcl, hin, rfl, hlp, hwl, hrun⟩
      refine ⟨_, rfl, !ws.isEmpty, .inl ⟨_, SqL.of hW4, by cases ws <;> rfl⟩, ?_⟩
      rcases List.eq_nil_or_concat ws with rfl | ⟨ws', h0, rfl⟩
      · refine iteF ?_
        refine ⟨_, rfl, ?_⟩
        have hrch : ∀ v, v ∈ keysT l ↔ Rch ts g v := fun v => ⟨tow.rch v, closed_rch tow.mem fun v hv u e => hcl v hv (fun z => nomatch z) u e⟩
        exact q d l H4 (fun c o e => k4 _ _ (s1 _ _ e)) nd0 hd4 tow hrch hin (hex ▸ hrun l .done)
      · have ne : (!(ws' ++ [h0]).isEmpty) = true := by cases ws' <;> rfl
        rw [List.concat_eq_append] at *
        rw [ne]
        refine iteT ?_
        have hh : h0 ∈ keysT l := hws h0 (List.mem_append_right _ List.mem_cons_self)
        obtain ⟨hh0, hh1⟩ := hin h0 hh
        refine ⟨fun σ' H5 => ∃ (l' : Tw) (ws2 : List Int) (y6 : Option V), σ' = [some f, some (.int g), some (.ref L), some (.ref d), some (.ref W), some (.int h0), y6] ∧ (∀ c o, H1 c = some o → H5 c = some o) ∧ H5 d = some (.dK (kvT l')) ∧ H5 W = some (.lst (ws2.map V.int)) ∧ Tow ts g l' ∧ (∀ v ∈ ws2, v ∈ keysT l') ∧ (∀ v ∈ keysT l', v ∉ ws2 → ∀ u, Adj ts v u → u ∈ keysT l') ∧ (∀ v ∈ keysT l', 0 ≤ v ∧ v < (n : Int)) ∧ (ws2.length + l.length = ws'.length + l'.length ∧ l.length ≤ l'.length) ∧ l'.length ≤ n ∧ ws2.length ≤ l'.length ∧ ∀ lf, Run nbs l' ws2 lf → Run nbs [(g, none)] [g] lf, ?_, ?_⟩
        · rintro σ' H5 ⟨l', ws2, y6, rfl, k5, hd5, hW5, tow5, hws5, hcl5, hin5, hm5, hlp5, hwl5, hrun5⟩
          refine ⟨_, ?_, l', ws2, _, _, rfl, k5, hd5, hW5, tow5, hws5, hcl5, hin5, rfl, hlp5, hwl5, hrun5⟩
          rw [List.length_append, List.length_singleton]
          omega
        · have epop : ((ws' ++ [h0]).map V.int)[((ws' ++ [h0]).map V.int).length - 1]? = some (.int h0) := by
            rw [List.map_append, List.length_append]
            show ((ws'.map V.int) ++ [V.int h0])[(ws'.map V.int).length + 1 - 1]? = _
            rw [Nat.add_sub_cancel, List.getElem?_append_right (Nat.le_refl _), Nat.sub_self]
            rfl
          refine ⟨_, rfl, .inl ⟨rfl, _, SqL.of hW4⟩, W, _, _, rfl, rfl, hW4, epop, ?_⟩
          have edrop : ((ws' ++ [h0]).map V.int).dropLast = ws'.map V.int := by
            rw [List.map_append]
            exact List.dropLast_concat
          rw [edrop]
          have k5 : ∀ c o, H1 c = some o → upd H4 W (.lst (ws'.map V.int)) c = some o := fun c o e => by
            rw [upd_ne (ne_of_none e nW1)]
            exact k4 _ _ e
          have hd5 : upd H4 W (.lst (ws'.map V.int)) d = some (.dK (kvT l)) := by
            rw [upd_ne dW]
            exact hd4
          have hW5 : upd H4 W (.lst (ws'.map V.int)) W = some (.lst (ws'.map V.int)) := upd_same
          generalize upd H4 W (.lst (ws'.map V.int)) = H5 at k5 hd5 hW5 ⊢
          obtain ⟨ls, a, nb, hL, ha, hat, hn, hA⟩ := (har.same k5).at_ (i := h0) hh0 (by omega)
          have hnb0 : ∀ j, j ∈ nb ↔ Adj ts h0 j := fun j => by
            have z := hnb _ _ hn j
            have e : ((h0.toNat : Nat) : Int) = h0 := by omega
            rw [e] at z
            exact z
          have hA1 : ∃ o, H1 a = some o ∧ o = .lst (nb.map V.int) := by
            obtain ⟨ls1, g1', g2', g3', g4', g5', g6'⟩ := har.ex
            have e1 := k5 _ _ g1'
            rw [hL] at e1
            have inj : ls.map V.ref = ls1.map V.ref := HO.lst.inj (Option.some.inj e1)
            have e2 : (ls1.map V.ref)[h0.toNat]? = some (.ref a) := by
              rw [← inj, List.getElem?_map, ha]
              rfl
            rw [List.getElem?_map] at e2
            obtain ⟨a1, e3, e4⟩ := Option.map_eq_some_iff.mp e2
            cases e4
            obtain ⟨nb1, e5, e6⟩ := g6' _ _ e3
            rw [hn] at e5
            cases e5
            exact ⟨_, e6, rfl⟩
          obtain ⟨oA, hA1, rfl⟩ := hA1
          refine ⟨_, rfl, _, rfl, L, _, _, _, rfl, rfl, SqL.of hL, hat, a, rfl, ⟨_, SqL.of hA⟩, for_list (xs := nb.map V.int) (fun j σ' H6 => ∃ (l' : Tw) (ws2 : List Int) (y6 : Option V), σ' = [some f, some (.int g), some (.ref L), some (.ref d), some (.ref W), some (.int h0), y6] ∧ (∀ c o, H1 c = some o → H6 c = some o) ∧ H6 d = some (.dK (kvT l')) ∧ H6 W = some (.lst (ws2.map V.int)) ∧ Tow ts g l' ∧ h0 ∈ keysT l' ∧ (∀ v ∈ ws2, v ∈ keysT l') ∧ (∀ v ∈ keysT l', v ∉ ws2 → v ≠ h0 → ∀ u, Adj ts v u → u ∈ keysT l') ∧ (∀ u ∈ nb.take j, u ∈ keysT l') ∧ (∀ v ∈ keysT l', 0 ≤ v ∧ v < (n : Int)) ∧ (ws2.length + l.length = ws'.length + l'.length ∧ l.length ≤ l'.length) ∧ l'.length ≤ n ∧ ws2.length ≤ l'.length ∧ ∀ lf, Run nbs ((nb.drop j).foldl (inn h0) (l', ws2)).1 ((nb.drop j).foldl (inn h0) (l', ws2)).2 lf → Run nbs [(g, none)] [g] lf)
            ⟨l, ws', _, rfl, k5, hd5, hW5, tow, hh, fun v m => hws v (List.mem_append_left _ m), ?_, (fun u z => nomatch z), hin, ⟨rfl, Nat.le_refl _⟩, hlp, ?_, fun lf z => hrun lf (.go hn z)⟩ (fun j σ' H6 _ hq => ?_) ?_ ?_⟩
          · intro v hv nv nh u e
            refine hcl v hv (fun z => ?_) u e
            rcases List.mem_append.mp z with z | z
            · exact nv z
            · exact nh (List.mem_singleton.mp z)
          · rw [List.length_append, List.length_singleton] at hwl
            omega
          · obtain ⟨l', ws2, y6, rfl, k6, _⟩ := hq
            exact SqL.of (k6 _ _ hA1)
          · rintro j x σ' H6 hx ⟨l', ws2, y6, rfl, k6, hd6, hW6, tow6, hh6, hws6, hcl6, hpr6, hin6, hm6, hlp6, hwl6, hrun6⟩
            rw [List.getElem?_map] at hx
            obtain ⟨u, hu, rfl⟩ := Option.map_eq_some_iff.mp hx
            have adj : Adj ts h0 u := (hnb0 u).mp (List.mem_of_getElem? hu)
            have hget := kvT_get (v := u) tow6.nd
            rw [drop_at hu, List.foldl_cons] at hrun6
            unfold inn at hrun6
            dsimp only at hrun6
            refine ⟨_, rfl, _, rfl, d, _, rfl, DGet.k (k := Sum.inl u) hd6, _, rfl, ?_⟩
            rw [hget]
            by_cases mu : u ∈ keysT l'
            · rw [decide_eq_true mu]
              refine iteF ?_
              rw [if_pos mu] at hrun6
              refine ⟨l', ws2, _, rfl, k6, hd6, hW6, tow6, hh6, hws6, hcl6, ?_, hin6, hm6, hlp6, hwl6, hrun6⟩
              intro v m
              rw [take_at hu] at m
              rcases List.mem_append.mp m with m | m
              · exact hpr6 v m
              · rw [List.mem_singleton.mp m]
                exact mu
            · rw [decide_eq_false mu]
              refine iteT ?_
              have ll : (kvT l').length = l'.length := List.length_map ..
              refine ⟨_, rfl, _, rfl, _, rfl, d, _, rfl, DPut.k (k := Sum.inl u) (v := .int h0) hd6 (szl (by omega)), ?_⟩
              have eput : putK (kvT l') (Sum.inl u) (V.int h0) = kvT (l' ++ [(u, some h0)]) := kvT_put (o := some h0) mu
              rw [eput]
              have hd7 : upd H6 d (.dK (kvT (l' ++ [(u, some h0)]))) d = some (.dK (kvT (l' ++ [(u, some h0)]))) := upd_same
              have hW7 : upd H6 d (.dK (kvT (l' ++ [(u, some h0)]))) W = some (.lst (ws2.map V.int)) := by
                rw [upd_ne dW.symm]
                exact hW6
              have k7 : ∀ c o, H1 c = some o → upd H6 d (.dK (kvT (l' ++ [(u, some h0)]))) c = some o := fun c o e => by
                rw [upd_ne (ne_of_none e nd)]
                exact k6 _ _ e
              generalize upd H6 d (.dK (kvT (l' ++ [(u, some h0)]))) = H7 at hd7 hW7 k7 ⊢
              refine ⟨_, rfl, .inl ⟨rfl, _, SqL.of hW7⟩, _, rfl, W, _, _, rfl, rfl, hW7, szl (by rw [List.length_map]; omega), ?_⟩
              have tow8 : Tow ts g (l' ++ [(u, some h0)]) := .snoc tow6 hh6 mu adj
              have hin8 : ∀ v ∈ keysT (l' ++ [(u, some h0)]), 0 ≤ v ∧ v < (n : Int) := fun v m => by
                rw [keysT_snoc] at m
                rcases List.mem_append.mp m with m | m
                · exact hin6 v m
                · rw [List.mem_singleton.mp m]
                  exact adj_in fok adj
              have hlp8 : (l' ++ [(u, some h0)]).length ≤ n := by
                have z := nodup_le tow8.nd hin8
                have e : (keysT (l' ++ [(u, some h0)])).length = (l' ++ [(u, some h0)]).length := List.length_map ..
                omega
              rw [if_neg mu] at hrun6
              refine ⟨l' ++ [(u, some h0)], ws2 ++ [u], _, rfl, ?_, ?_, ?_, tow8, ?_, ?_, ?_, ?_, hin8, ?_, hlp8, ?_, hrun6⟩
              · intro c o e
                rw [upd_ne (ne_of_none e nW1)]
                exact k7 _ _ e
              · rw [upd_ne dW]
                exact hd7
              · rw [upd_same, List.map_append]
                rfl
              · rw [keysT_snoc]
                exact List.mem_append_left _ hh6
              · intro v m
                rw [keysT_snoc]
                rcases List.mem_append.mp m with m | m
                · exact List.mem_append_left _ (hws6 v m)
                · exact List.mem_append_right _ m
              · intro v hv nv nh y e
                rw [keysT_snoc] at hv ⊢
                rcases List.mem_append.mp hv with hv | hv
                · exact List.mem_append_left _ (hcl6 v hv (fun z => nv (List.mem_append_left _ z)) nh y e)
                · exact absurd (List.mem_append_right _ hv) nv
              · intro v m
                rw [keysT_snoc]
                rw [take_at hu] at m
                rcases List.mem_append.mp m with m | m
                · exact List.mem_append_left _ (hpr6 v m)
                · exact List.mem_append_right _ m
              · rw [List.length_append, List.length_append, List.length_singleton, List.length_singleton]
                omega
              · rw [List.length_append, List.length_append, List.length_singleton, List.length_singleton]
                omega
          · rintro σ' H6 ⟨l', ws2, y6, rfl, k6, hd6, hW6, tow6, hh6, hws6, hcl6, hpr6, hin6, hm6, hlp6, hwl6, hrun6⟩
            rw [List.length_map, List.take_of_length_le (Nat.le_refl _)] at hpr6
            rw [List.length_map, List.drop_length] at hrun6
            refine ⟨l', ws2, _, rfl, k6, hd6, hW6, tow6, hws6, fun v hv nv u e => ?_, hin6, hm6, hlp6, hwl6, hrun6⟩
            by_cases ev : v = h0
            · subst ev
              exact hpr6 u ((hnb0 u).mpr e)
            · exact hcl6 v hv nv ev u e
end
/-! ### way_of -/
def spWayOf : Sp := fun vs H Q _ => ∃ (f : V) (a b : Int) (n : Nat) (ts : Ties), vs = [f, .int a, .int b] ∧ Fr74 H f n ts ∧ Bd74 n ts ∧ 0 ≤ a ∧ a < (n : Int) ∧ 0 ≤ b ∧ b < (n : Int) ∧
  (∀ H', Same H H' → ¬ Rch ts a b → Q .non H') ∧ ∀ (t : Addr) (l : List Int) (H' : Hp), Same H H' → H t = none → Way ts a b l → WayX n ts a b l → l.length ≤ n → H' t = some (.tup (l.map V.int)) → Q (.ref t) H'
section
variable {P : Program} {w : World} {K : PySem.W.Frag} {mg : Str → Option Value} {base : Heap}
theorem ok_wayof (T : Top K mg) : FnOk P w K mg base CX0 3 T.a_wayof T.d_wayof ["forest", "a", "b"] (spWayOf) := by
  have G_stepstoward : FnOk P w K mg base CX0 2 _ _ _ _ := ok_steps T
  refine T.F_wayof.ok sc_wayof (fun vs H Q E h => ?_) (fun cdv A outer s H vs Q E hr h => ?_)
  · obtain ⟨f, a, b, n, ts, rfl, _⟩ := h
    rfl
  · obtain ⟨f, a, b, n, ts, rfl, hf, fok, a0, a1, b0, b1, qn, qw⟩ := h
    have few := fok.few
    refine ⟨_, (pss_cons (ps_set (i := 3) sc_wayof.nd rfl (.inl rfl) (pe_call G_stepstoward hr (by rfl) T.g_stepstoward T.F_stepstoward.kp T.b_stepstoward .nil pass0 (pa_cons (pv 0) (pa_cons (pv 2) pa_nil))))
      (pss_cons (ps_if (pt_cmp (pc_dnotin (u1 hr) (pv 1) (pv 3))) (pss_one (ps_ret pe_non)) pss_nil)
      (pss_cons (ps_set (i := 4) sc_wayof.nd rfl (.inl rfl) (pe_lst (pa_cons (pv 1) pa_nil)))
      (pss_cons (ps_while PassesOwn.never (pt_cmpR op_ne (pe_ix ix_list (pv 4) (pe_un un_neg pe_int) (fun _ _ => rfl)) (pv 2) (nomark _)) (pss_one (ps_expr (pe_bm PySem.F.plainAttrs_list PySem.F.slot_list_append PySem.F.type_list_append mt_append (pv 4) (pa_cons (pe_dget (u1 hr) (pv 3) (pe_ix ix_list (pv 4) (pe_un un_neg pe_int) (fun _ _ => rfl)) (fun _ _ => rfl)) pa_nil)))))
      (pss_one (ps_ret (pe_callTy call_tuple_of (by rfl) T.m_tuple (by decide +kernel) (pa_cons (pv 4) pa_nil)))))))), ?_⟩
    refine ⟨_, rfl, _, rfl, f, b, n, ts, rfl, hf, fok, b0, b1, fun d l H1 s1 nd hd tow hk hin hrun => ?_⟩
    have hget := kvT_get (v := a) tow.nd
    refine ⟨_, rfl, _, rfl, d, _, rfl, DGet.k (k := Sum.inl a) hd, _, rfl, ?_⟩
    rw [hget]
    by_cases ma : a ∈ keysT l
    · rw [decide_eq_true ma]
      refine iteF ?_
      obtain ⟨wy, hway, hfol, hwk⟩ := tow.way a ma
      have hwl : wy.length ≤ n := nodup_le hway.nd fun x hx => hin x (hwk x hx)
      refine ⟨_, rfl, (by show 1 ≤ sizeLine; decide), fun W nW => ?_⟩
      have dW : d ≠ W := ne_of_none hd nW
      have nW0 : H W = none := s1.free nW
      refine ⟨fun m σ H2 => ∃ (pre : List Int) (cur : Int) (rest : List Int), σ = [some f, some (.int a), some (.int b), some (.ref d), some (.ref W)] ∧ (∀ c o, H1 c = some o → H2 c = some o) ∧ H2 W = some (.lst (pre.map V.int ++ [.int cur])) ∧ wy = pre ++ cur :: rest ∧ Fol l b (cur :: rest) ∧ m = rest.length, ⟨_, [], a, wy.tail, rfl, fun c o e => same_new nW _ _ e, upd_same, ?_, ?_, rfl⟩, ?_⟩
      · cases wy with
        | nil => exact absurd rfl hway.wk.ne_nil
        | cons y r =>
          have ey : y = a := Option.some.inj hway.wk.head
          rw [ey]
          rfl
      · cases wy with
        | nil => exact absurd rfl hway.wk.ne_nil
        | cons y r =>
          have ey : y = a := Option.some.inj hway.wk.head
          rw [← ey]
          exact hfol
      · rintro m σ H2 ⟨pre, cur, rest, rfl, k2, hW2, ewy, fol, rfl⟩
        have hat : atI (pre.map V.int ++ [V.int cur]) (-1) = some (.int cur) := atI_last _ _
        refine ⟨_, rfl, _, rfl, W, _, _, _, rfl, rfl, SqL.of hW2, hat, _, rfl, rfl, _, rfl, ?_⟩
        by_cases ec : cur = b
        · have er : rest = [] := by
            cases fol with
            | one => rfl
            | cons _ n _ => exact absurd ec n
          subst er
          rw [ec]
          refine ite2 (fun e => absurd e (by simp)) (fun _ => ?_)
          refine ⟨_, rfl, W, _, rfl, .inl ⟨SqL.of hW2, fun t nt => ?_⟩⟩
          have st := same_new (o := .tup (pre.map V.int ++ [V.int cur])) nt
          have s13 : Same H (upd H2 t (.tup (pre.map V.int ++ [V.int cur]))) := fun c o e => st _ _ (k2 _ _ (s1 _ _ e))
          refine qw t wy _ s13 ?_ hway ⟨l, hrun, tow.nd, hfol, hway.wk.head⟩ hwl ?_
          · cases hq : H t with
            | none => rfl
            | some o =>
              rw [k2 _ _ (s1 _ _ hq)] at nt
              cases nt
          · rw [upd_same, ewy, List.map_append]
            rfl
        · refine ite2 (fun _ => ?_) (fun e => absurd (show (!decide (V.int cur = V.int b)) = true by rw [decide_eq_false fun z => ec (V.int.inj z)]; rfl) e)
          cases fol with
          | one => exact absurd rfl ec
          | @cons _ p w' mem _ fol' =>
            have hval := kvT_some tow.nd mem
            have hl : pre.length + 1 ≤ n := by
              rw [ewy, List.length_append, List.length_cons] at hwl
              omega
            refine ⟨fun σ' H3 => ∃ (pre : List Int) (cur : Int) (rest : List Int), σ' = [some f, some (.int a), some (.int b), some (.ref d), some (.ref W)] ∧ (∀ c o, H1 c = some o → H3 c = some o) ∧ H3 W = some (.lst (pre.map V.int ++ [.int cur])) ∧ wy = pre ++ cur :: rest ∧ Fol l b (cur :: rest) ∧ rest.length = w'.length, ?_, ?_⟩
            · rintro σ' H3 ⟨pre, cur, rest, rfl, k3, hW3, ewy3, fol3, hlen3⟩
              refine ⟨rest.length, ?_, pre, cur, rest, rfl, k3, hW3, ewy3, fol3, rfl⟩
              rw [hlen3, List.length_cons]
              omega
            · have hd2 := k2 _ _ hd
              have hdg : DGet H2 d (.int cur) (some (.int p)) := by
                have z := DGet.k (k := Sum.inl cur) hd2
                rw [hval] at z
                exact z
              have hsz : (pre.map V.int ++ [V.int cur]).length < sizeLine := szl (by rw [List.length_append, List.length_map, List.length_singleton]; omega)
              refine ⟨_, rfl, .inl ⟨rfl, _, SqL.of hW2⟩, _, rfl, _, rfl, _, rfl, W, _, _, _, rfl, rfl, SqL.of hW2, hat, d, _, rfl, hdg, W, _, _, rfl, rfl, hW2, hsz, ?_⟩
              refine ⟨pre ++ [cur], p, w', rfl, ?_, ?_, ?_, fol', rfl⟩
              · intro c o e
                rw [upd_ne (ne_of_none e nW)]
                exact k2 _ _ e
              · rw [upd_same, List.map_append]
                rfl
              · rw [ewy, List.append_assoc]
                rfl
    · rw [decide_eq_false ma]
      refine iteT ?_
      refine qn H1 s1 fun r => ma ?_
      exact (hk a).mpr r.symm
end

end My
namespace My
open PySem L2
/-! ### a dict of ties -/
theorem dcT_it {J : It} {n : Nat} {G : Hp → Prop} {Y : Nat → Hp → V → Hp → Prop} (w : Walk J n G Y) {g : TG} {tt : TT} {tk tv : TE} {vs : List Nat} {σ : L2.St} {H1 : Hp} {D : Addr} {Qd : Hp → Prop} (Pv : Nat → Hp → Prop) (h0 : Pv 0 (upd H1 D (.dT []))) (hG : ∀ i H, i ≤ n → Pv i H → G H)
    (hs : ∀ i x H H', i < n → Pv i H → Y i H x H' → g x (wipe σ vs) H' fun σ2 H2 => wipe σ2 vs = wipe σ vs ∧ tt σ2 H2 fun b H3 =>
      if b = true then tk σ2 H3 fun y H4 => tv σ2 H4 fun z H5 => ∃ kvs k b, y = .ref b ∧ H5 b = some (.tup (k.map kV)) ∧ H5 D = some (.dT kvs) ∧ kvs.length < sizeLine ∧ Pv (i + 1) (upd H5 D (.dT (putK kvs k z))) else Pv (i + 1) H3) (hd : ∀ H, Pv n H → Qd H) :
    ∃ W : Nat → Nat → Hp → Prop, (∃ m, W 0 m (upd H1 D (.dT []))) ∧ ∀ i m H, W i m H →
      (J.stop i H ∧ Qd H) ∨ (J.go i H ∧ ∃ Nx : Hp → Prop, (∀ H', Nx H' → ∃ m', m' < m ∧ W (i + 1) m' H') ∧ ∀ x H', J.yld i H x H' → g x (wipe σ vs) H' fun σ2 H2 => wipe σ2 vs = wipe σ vs ∧ tt σ2 H2 fun b H3 =>
        if b = true then tk σ2 H3 fun y H4 => tv σ2 H4 fun z H5 => ∃ kvs k b, y = .ref b ∧ H5 b = some (.tup (k.map kV)) ∧ H5 D = some (.dT kvs) ∧ kvs.length < sizeLine ∧ Nx (upd H5 D (.dT (putK kvs k z))) else Nx H3) := by
  refine ⟨fun i m H => m = n - i ∧ i ≤ n ∧ Pv i H, ⟨n, by simp, Nat.zero_le _, h0⟩, ?_⟩
  rintro i m H ⟨rfl, hi, p⟩
  have q := hG i H hi p
  by_cases hlt : i < n
  · refine .inr ⟨w.goes i H hlt q, Pv (i + 1), fun H' p' => ⟨n - (i + 1), by omega, rfl, hlt, p'⟩, fun x H' y => hs i x H H' hlt p (w.yields i H x H' hlt q y)⟩
  · have e : i = n := by omega
    subst e
    exact .inl ⟨w.stops H q, hd H p⟩
abbrev Dt := List ((Int × Int) × Int)
def keyT (p : Int × Int) : List Key := [Sum.inl p.1, Sum.inl p.2]
def kvD (l : Dt) : List (List Key × V) := l.map fun x => (keyT x.1, .int x.2)
def keysD (l : Dt) : Ties := l.map Prod.fst
theorem keyT_inj {p q : Int × Int} (h : keyT p = keyT q) : p = q := by
  obtain ⟨a, b⟩ := p
  obtain ⟨c, d⟩ := q
  have h1 := List.cons.inj h
  have h2 := List.cons.inj h1.2
  have e1 : a = c := Sum.inl.inj h1.1
  have e2 : b = d := Sum.inl.inj h2.1
  rw [e1, e2]
theorem kvD_none {p : Int × Int} : ∀ {l : Dt}, p ∉ keysD l → valV (kvD l) (keyT p) = none
  | [], _ => rfl
  | (q, v) :: r, h => by
    have ne : ¬ keyT q = keyT p := fun e => h (by rw [keyT_inj e]; exact List.mem_cons_self)
    show valV ((keyT q, V.int v) :: kvD r) (keyT p) = none
    rw [valV_neg ne]
    exact kvD_none fun z => h (List.mem_cons_of_mem _ z)
theorem kvD_some {p : Int × Int} : ∀ {l : Dt}, p ∈ keysD l → ∃ v, valV (kvD l) (keyT p) = some (.int v)
  | (q, v) :: r, h => by
    by_cases e : q = p
    · subst e
      exact ⟨v, valV_pos (p := (keyT q, V.int v)) rfl⟩
    · have ne : ¬ keyT q = keyT p := fun z => e (keyT_inj z)
      obtain ⟨u, hu⟩ := kvD_some ((List.mem_cons.mp h).resolve_left fun z => e z.symm)
      refine ⟨u, ?_⟩
      show valV ((keyT q, V.int v) :: kvD r) (keyT p) = _
      rw [valV_neg ne]
      exact hu
def putD (l : Dt) (p : Int × Int) (v : Int) : Dt := if p ∈ keysD l then l.map fun x => if x.1 = p then (x.1, v) else x else l ++ [(p, v)]
theorem kvD_put (l : Dt) (p : Int × Int) (v : Int) : putK (kvD l) (keyT p) (.int v) = kvD (putD l p v) := by
  unfold putK putD
  by_cases h : p ∈ keysD l
  · obtain ⟨u, hu⟩ := kvD_some h
    rw [valV_any, hu, if_pos (show (some (V.int u)).isSome = true from rfl), if_pos h]
    unfold kvD
    rw [List.map_map, List.map_map]
    refine List.map_congr_left fun x _ => ?_
    show (if keyT x.1 = keyT p then (keyT x.1, V.int v) else (keyT x.1, V.int x.2)) = (keyT (if x.1 = p then (x.1, v) else x).1, V.int (if x.1 = p then (x.1, v) else x).2)
    by_cases e : x.1 = p
    · rw [if_pos e, if_pos (by rw [e])]
    · rw [if_neg e, if_neg fun z => e (keyT_inj z)]
  · rw [valV_any, kvD_none h, if_neg (by decide), if_neg h]
    unfold kvD
    rw [List.map_append]
    rfl
theorem putD_keys (l : Dt) (p : Int × Int) (v : Int) (q : Int × Int) : q ∈ keysD (putD l p v) ↔ q ∈ keysD l ∨ q = p := by
  unfold putD
  by_cases h : p ∈ keysD l
  · rw [if_pos h]
    have ek : keysD (l.map fun x => if x.1 = p then (x.1, v) else x) = keysD l := by
      unfold keysD
      rw [List.map_map]
      refine List.map_congr_left fun x _ => ?_
      show (if x.1 = p then (x.1, v) else x).1 = x.1
      split <;> rfl
    rw [ek]
    exact ⟨.inl, fun z => z.elim id fun e => e ▸ h⟩
  · rw [if_neg h]
    unfold keysD
    rw [List.map_append, List.mem_append]
    exact or_congr Iff.rfl List.mem_singleton
theorem putD_len (l : Dt) (p : Int × Int) (v : Int) : (putD l p v).length ≤ l.length + 1 := by
  unfold putD
  split
  · rw [List.length_map]
    omega
  · rw [List.length_append]
    exact Nat.le_refl _
theorem putD_mem {l : Dt} {p : Int × Int} {v : Int} {x : (Int × Int) × Int} (h : x ∈ putD l p v) : x ∈ l ∨ x = (p, v) := by
  unfold putD at h
  split at h
  · obtain ⟨y, m, e⟩ := List.mem_map.mp h
    by_cases c : y.1 = p
    · rw [if_pos c, c] at e
      exact .inr e.symm
    · rw [if_neg c] at e
      exact .inl (e ▸ m)
  · exact (List.mem_append.mp h).imp id List.mem_singleton.mp
theorem kvD_mem {l : Dt} {p : Int × Int} {v : Int} (h : valV (kvD l) (keyT p) = some (.int v)) : (p, v) ∈ l := by
  induction l with
  | nil => exact nomatch h
  | cons x r ih =>
    obtain ⟨q, u⟩ := x
    by_cases e : q = p
    · subst e
      have z : valV (kvD ((q, u) :: r)) (keyT q) = some (.int u) := valV_pos (p := (keyT q, V.int u)) rfl
      rw [z] at h
      rw [V.int.inj (Option.some.inj h)]
      exact List.mem_cons_self
    · have ne : ¬ keyT q = keyT p := fun z => e (keyT_inj z)
      have h : valV ((keyT q, V.int u) :: kvD r) (keyT p) = some (.int v) := h
      rw [valV_neg ne] at h
      exact List.mem_cons_of_mem _ (ih h)
def mm (t : Int × Int) : Int × Int := (if t.2 < t.1 then t.2 else t.1, if t.2 > t.1 then t.2 else t.1)
theorem mm_or (t : Int × Int) : mm t = t ∨ mm t = (t.2, t.1) := by
  unfold mm
  by_cases h : t.2 < t.1
  · rw [if_pos h, if_neg (by omega)]
    exact .inr rfl
  · rw [if_neg h]
    by_cases g : t.2 > t.1
    · rw [if_pos g]
      exact .inl rfl
    · rw [if_neg g]
      have e : t.1 = t.2 := by omega
      left
      show (t.1, t.1) = t
      rw [e]
      show (t.2, t.2) = t
      rw [show t = (t.1, t.2) from rfl, e]
theorem mm_adj {ts us : Ties} (h : ∀ q, q ∈ us ↔ ∃ t ∈ ts, q = mm t) {a b : Int} : Adj us a b ↔ Adj ts a b := by
  have key : ∀ {x y : Int}, (x, y) ∈ us → Adj ts x y := fun {x y} m => by
    obtain ⟨t, mt, e⟩ := (h _).mp m
    rcases mm_or t with z | z
    · rw [z] at e
      rw [← e] at mt
      exact .inl mt
    · rw [z] at e
      refine .inr ?_
      have e1 := congrArg Prod.fst e
      have e2 := congrArg Prod.snd e
      dsimp only at e1 e2
      rw [e1, e2]
      exact mt
  have key2 : ∀ {x y : Int}, (x, y) ∈ ts → Adj us x y := fun {x y} m => by
    have z := (h (mm (x, y))).mpr ⟨_, m, rfl⟩
    rcases mm_or (x, y) with e | e
    · rw [e] at z
      exact .inl z
    · rw [e] at z
      exact .inr z
  exact ⟨fun z => z.elim key fun m => (key m).symm, fun z => z.elim key2 fun m => (key2 m).symm⟩
theorem mm_rch {ts us : Ties} (h : ∀ q, q ∈ us ↔ ∃ t ∈ ts, q = mm t) {a b : Int} : Rch us a b ↔ Rch ts a b := by
  constructor
  · intro r
    induction r with
    | refl => exact .refl
    | step _ e ih => exact .step ih ((mm_adj h).mp e)
  · intro r
    induction r with
    | refl => exact .refl
    | step _ e ih => exact .step ih ((mm_adj h).mpr e)
/-- the numbers along a way -/
structure NumsOf (l : Dt) (wy ws : List Int) : Prop where
  len : ws.length + 1 = wy.length
  num : ∀ (i : Nat) (u v : Int), wy[i]? = some u → wy[i + 1]? = some v → ∃ x, ws[i]? = some x ∧ valV (kvD l) (keyT (mm (u, v))) = some (.int x)
theorem NumsOf.det {l : Dt} {wy ws us : List Int} (h1 : NumsOf l wy ws) (h2 : NumsOf l wy us) : ws = us := by
  have e1 := h1.len
  have e2 := h2.len
  refine List.ext_getElem? fun i => ?_
  by_cases lt : i < ws.length
  · obtain ⟨x, hx, vx⟩ := h1.num i wy[i] wy[i + 1] (List.getElem?_eq_getElem (by omega)) (List.getElem?_eq_getElem (by omega))
    obtain ⟨y, hy, vy⟩ := h2.num i wy[i] wy[i + 1] (List.getElem?_eq_getElem (by omega)) (List.getElem?_eq_getElem (by omega))
    rw [vx] at vy
    rw [hx, hy, V.int.inj (Option.some.inj vy)]
  · rw [List.getElem?_eq_none (by omega), List.getElem?_eq_none (by omega)]
def spTieOf : Sp := fun vs H Q _ => ∃ p : Int × Int, vs = [.int p.1, .int p.2] ∧ ∀ (t : Addr) (H' : Hp), Same H H' → H t = none → H' t = some (.tup ((keyT (mm p)).map kV)) → Q (.ref t) H'
section
variable {P : Program} {w : World} {K : PySem.W.Frag} {mg : Str → Option Value} {base : Heap}
theorem ok_tieof (T : Top K mg) : FnOk P w K mg base CX0 1 T.a_tieof T.d_tieof ["a", "b"] spTieOf := by
  refine T.F_tieof.ok sc_tieof (fun vs H Q E h => ?_) (fun cdv A outer s H vs Q E hr h => ?_)
  · obtain ⟨p, rfl, _⟩ := h
    rfl
  · obtain ⟨p, rfl, q⟩ := h
    refine ⟨_, (pss_one (ps_ret (pe_tup (pa_cons (pe_callB (call_min2 rfl) (by rfl) T.m_min (by decide +kernel) (pa_cons (pv 0) (pa_cons (pv 1) pa_nil))) (pa_cons (pe_callB (call_max2 rfl) (by rfl) T.m_max (by decide +kernel) (pa_cons (pv 0) (pa_cons (pv 1) pa_nil))) pa_nil))))), ?_⟩
    refine ⟨_, rfl, _, rfl, _, _, rfl, _, rfl, _, rfl, _, _, rfl, (by show 2 ≤ sizeLine; decide), fun t nt => ?_⟩
    exact q t _ (same_new nt) nt upd_same
def spAsF74 : Sp := fun vs H Q _ => ∃ (n : Nat) (d : Addr) (l : Dt), vs = [.int (n : Int), .ref d] ∧ n ≤ 100 ∧ H d = some (.dT (kvD l)) ∧ ∀ (f : V) (H' : Hp), Same H H' → Fr74 H' f n (keysD l) → Q f H'
theorem keys_pall {H : Hp} : ∀ {l : Dt} {bs : List Addr}, IsKeys H (kvD l) bs → PAll H (bs.map V.ref) (keysD l)
  | [], [], _ => .nil
  | [], b :: r, h => by cases h
  | x :: l, [], h => by cases h
  | x :: l, b :: r, h => by
    cases h with
    | cons h1 h2 => exact .cons h1 (keys_pall h2)
theorem ok_asforest (T : Top K mg) : FnOk P w K mg base CX0 1 T.a_asforest T.d_asforest ["many", "ties"] spAsF74 := by
  refine T.F_asforest.ok sc_asforest (fun vs H Q E h => ?_) (fun cdv A outer s H vs Q E hr h => ?_)
  · obtain ⟨n, d, l, rfl, _⟩ := h
    rfl
  · obtain ⟨n, d, l, rfl, n1, hd, q⟩ := h
    refine ⟨_, (pss_one (ps_ret (pe_tup (pa_cons (pe_tupRg rfl (by rfl) T.m_tuple (prg_1 (by rfl) T.m_range (pv 0))) (pa_cons (pe_callTy (call_list_dT rfl) (by rfl) T.m_list (by decide +kernel) (pa_cons (pv 1) pa_nil)) pa_nil))))), ?_⟩
    refine ⟨_, rfl, _, rfl, RgOk.of_le (by omega) (by omega) (by omega) (by omega), fun p np => ?_⟩
    have sp := same_new (o := .tup (rgV 0 (n : Int))) np
    have hp : upd H p (.tup (rgV 0 (n : Int))) p = some (.tup (rgV 0 (n : Int))) := upd_same
    generalize upd H p (.tup (rgV 0 (n : Int))) = H1 at sp hp ⊢
    refine ⟨_, rfl, d, _, rfl, .inl (sp _ _ hd), fun t bs nt ik => ?_⟩
    have st := same_new (o := .lst (bs.map V.ref)) nt
    have pa := keys_pall ik
    refine ⟨(by show 2 ≤ sizeLine; decide), fun f nf => ?_⟩
    have sf := same_new (o := .tup [V.ref p, V.ref t]) nf
    exact q (.ref f) _ (sp.trans (st.trans sf)) ⟨f, p, t, _, rfl, upd_same, sf _ _ (st _ _ hp), sf _ _ upd_same, (pa.same st).same sf⟩
theorem wlk_at {ts : Ties} {a b : Int} {l : List Int} (h : Wlk ts a b l) : ∀ {i : Nat} {x y : Int}, l[i]? = some x → l[i + 1]? = some y → Adj ts x y := by
  induction h with
  | one a => intro i x y _ h2; exact nomatch h2
  | @cons a b c l e w ih =>
    intro i x y h1 h2
    cases i with
    | zero =>
      cases Option.some.inj h1
      have hh := w.head
      cases l with
      | nil => exact nomatch h2
      | cons z r =>
        have e1 : z = b := Option.some.inj hh
        have e2 : z = y := Option.some.inj h2
        rw [← e2, e1]
        exact e
    | succ i => exact ih h1 h2
theorem mm_mm (t : Int × Int) : mm (mm t) = mm t := by
  unfold mm
  dsimp only
  congr 1
  · repeat' split
    all_goals omega
  · repeat' split
    all_goals omega
theorem mm_swap (a b : Int) : mm (b, a) = mm (a, b) := by
  unfold mm
  dsimp only
  congr 1
  · split <;> split <;> omega
  · split <;> split <;> omega
theorem mm_in {us : Ties} (h : ∀ q ∈ us, mm q = q) {x y : Int} (a : Adj us x y) : mm (x, y) ∈ us := by
  rcases a with a | a
  · rw [h _ a]
    exact a
  · rw [← mm_swap, h _ a]
    exact a
def spAlong : Sp := fun vs H Q _ => ∃ (n : Nat) (d : Addr) (l : Dt) (a b : Int), vs = [.int (n : Int), .ref d, .int a, .int b] ∧ H d = some (.dT (kvD l)) ∧ Bd74 n (keysD l) ∧ (∀ q ∈ keysD l, mm q = q) ∧ 0 ≤ a ∧ a < (n : Int) ∧ 0 ≤ b ∧ b < (n : Int) ∧
  (∀ H', Same H H' → ¬ Rch (keysD l) a b → Q .non H') ∧ ∀ (t : Addr) (wy ws : List Int) (H' : Hp), Same H H' → Way (keysD l) a b wy → WayX n (keysD l) a b wy → NumsOf l wy ws → H' t = some (.tup (ws.map V.int)) → Q (.ref t) H'
theorem ok_along (T : Top K mg) : FnOk P w K mg base CX0 4 T.a_offersalong T.d_offersalong ["many", "by_tie", "a", "b"] spAlong := by
  have G_tieof : FnOk P w K mg base CX0 1 _ _ _ _ := ok_tieof T
  have G_asforest : FnOk P w K mg base CX0 1 _ _ _ _ := ok_asforest T
  have G_wayof : FnOk P w K mg base CX0 3 _ _ _ _ := ok_wayof T
  refine T.F_offersalong.ok sc_offersalong (fun vs H Q E h => ?_) (fun cdv A outer s H vs Q E hr h => ?_)
  · obtain ⟨n, d, l, a, b, rfl, _⟩ := h
    rfl
  · obtain ⟨n, d, l, a, b, rfl, hd, bd, nrm, a0, a1, b0, b1, qn, qw⟩ := h
    have few := bd.few
    refine ⟨_, (pss_cons (ps_set (i := 4) sc_offersalong.nd rfl (.inl rfl) (pe_call G_wayof hr (by rfl) T.g_wayof T.F_wayof.kp T.b_wayof .nil pass0 (pa_cons (pe_call G_asforest (hr.mono (by decide)) (by rfl) T.g_asforest T.F_asforest.kp T.b_asforest .nil pass0 (pa_cons (pv 0) (pa_cons (pv 1) pa_nil))) (pa_cons (pv 2) (pa_cons (pv 3) pa_nil)))))
      (pss_cons (ps_if (pt_cmpR op_isN (pv 4) pe_non (nomark _)) (pss_one (ps_ret pe_non)) pss_nil)
      (pss_one (ps_ret (pe_callTy call_tuple_of (by rfl) T.m_tuple (by decide +kernel) (pa_cons (pe_lc (own := [("here", 5), ("there", 6)]) (tt := tYes) (by rfl) sc_offersalong.nd (RZ.pi_zipA (by rfl) T.m_zip (pa_cons (pv 4) (pa_cons (pe_slice sl_tupA (pv 4) (po_some pe_int) po_none) pa_nil))) (blkOk_by (own := [("here", 5), ("there", 6)]) (N := ["many", "by_tie", "a", "b", "way", "here", "there"]) (sc := defScope s_offersalong) (by decide +kernel)) (fun _ _ _ _ _ => (pg_tupK (K := K) (n := 2) rfl rfl (pgs_cons (pg_name (i := 5) sc_offersalong.nd rfl (.inl rfl)) (pgs_cons (pg_name (i := 6) sc_offersalong.nd rfl (.inl rfl)) pgs_nil)) rfl)) (fun _ _ _ _ _ => pts_nil) (fun _ _ _ _ _ => (pe_dget (u1 hr) (pv 1) (pe_call G_tieof (hr.mono (by decide)) (by rfl) T.g_tieof T.F_tieof.kp T.b_tieof .nil pass0 (pa_cons (pv 5) (pa_cons (pv 6) pa_nil))) (fun _ _ => rfl)))) pa_nil)))))), ?_⟩
    refine ⟨_, rfl, _, rfl, n, d, l, rfl, by omega, hd, fun f H1 s1 fr => ⟨_, rfl, _, rfl, f, a, b, n, keysD l, rfl, fr, bd, a0, a1, b0, b1, fun H2 s2 nr => ?_, fun t wy H2 s2 nt hw wx lw ht => ?_⟩⟩
    · refine ⟨_, rfl, rfl, _, rfl, iteT ?_⟩
      exact qn _ (s1.trans s2) nr
    refine ⟨_, rfl, rfl, _, rfl, iteF ?_⟩
    have hd2 := (s1.trans s2) _ _ hd
    have rch : Rch (keysD l) a b := hw.wk.rch
    obtain ⟨x0, r, ew⟩ : ∃ x0 r, wy = x0 :: r := by
      cases wy with
      | nil => exact absurd rfl hw.wk.ne_nil
      | cons x0 r => exact ⟨x0, r, rfl⟩
    refine ⟨_, rfl, _, rfl, 1, rfl, no_part (slA rfl ht fun p H3 s3 hp => ?_)⟩
    have ec : cutV (wy.map V.int) (some 1) none = r.map V.int := by
      rw [ew]
      exact cut_tail _ _
    rw [ec] at hp
    have ht3 := s3 _ _ ht
    have hd3 := s3 _ _ hd2
    have lr : r.length + 1 = wy.length := by rw [ew]; rfl
    refine ⟨t, p, _, _, rfl, .inr ⟨SqT.of ht3, SqT.of hp, fun M nM => ?_⟩⟩
    refine lc_it (walk_zipT (xs := wy.map V.int) (ys := r.map V.int) (n := r.length) (by rw [List.length_map, List.length_map]; omega)) (fun i H4 => Same H3 H4 ∧ ∃ ws : List Int, H4 M = some (.lst (ws.map V.int)) ∧ ws.length = i ∧ ∀ (j : Nat) (u v : Int), j < i → wy[j]? = some u → wy[j + 1]? = some v → ∃ x, ws[j]? = some x ∧ valV (kvD l) (keyT (mm (u, v))) = some (.int x)) ⟨same_new nM, [], upd_same, rfl, fun j u v z => absurd z (Nat.not_lt_zero _)⟩ (fun i H4 _ z => ⟨SqT.of (z.1 _ _ ht3), SqT.of (z.1 _ _ hp)⟩) ?_ ?_
    · rintro i x H4 H5 hi ⟨s4, ws, hM, lws, nws⟩ ⟨T0, x, y, rfl, nT, rfl, hx, hy⟩
      dsimp only at hx hy
      rw [List.getElem?_map] at hx hy
      obtain ⟨u, hu, rfl⟩ := Option.map_eq_some_iff.mp hx
      obtain ⟨v, hv, rfl⟩ := Option.map_eq_some_iff.mp hy
      have hv2 : wy[i + 1]? = some v := by rw [ew]; exact hv
      have mk := mm_in nrm (wlk_at hw.wk hu hv2)
      obtain ⟨num, hnum⟩ := kvD_some mk
      have sT := same_new (o := .tup [V.int u, V.int v]) nT
      refine ⟨T0, _, rfl, SqT.of upd_same, rfl, _, _, rfl, _, _, rfl, rfl, ?_⟩
      refine ⟨rfl, yes_ite ?_⟩
      refine ⟨_, rfl, _, rfl, _, rfl, (u, v), rfl, fun tk H6 s6 ntk htk => ?_⟩
      have s46 := sT.trans s6
      have dg := DGet.t (s46 _ _ (s4 _ _ hd3)) htk
      rw [hnum] at dg
      refine ⟨d, _, rfl, dg, ws.map V.int, s46 _ _ hM, szl (by rw [List.length_map]; omega), same_put (s4.trans s46) nM, ws ++ [num], by rw [upd_same, List.map_append]; rfl, by rw [List.length_append, lws]; rfl, fun j u2 v2 lj h1 h2 => ?_⟩
      by_cases ej : j < i
      · obtain ⟨x, hx, vx⟩ := nws j u2 v2 ej h1 h2
        exact ⟨x, by rw [List.getElem?_append_left (by omega)]; exact hx, vx⟩
      · have ej : j = i := by omega
        subst ej
        rw [hu] at h1
        rw [hv2] at h2
        cases Option.some.inj h1
        cases Option.some.inj h2
        exact ⟨num, by rw [List.getElem?_append_right (by omega), lws, Nat.sub_self]; rfl, hnum⟩
    · rintro H4 ⟨s4, ws, hM, lws, nws⟩
      refine ⟨M, _, rfl, .inl ⟨SqL.of hM, fun t2 nt2 => ?_⟩⟩
      exact qw t2 wy ws _ (((s1.trans s2).trans s3).trans (s4.trans (same_new nt2))) hw wx ⟨by omega, fun j u v h1 h2 => nws j u v (by have := (List.getElem?_eq_some_iff.mp h2).1; omega) h1 h2⟩ upd_same
end

end My
namespace My
open PySem L2
/-! ### the kept ones by their ties -/
theorem mem_er {ks ws : List Int} {e x : Int} (ne : e ∉ ws) (mx : x ∈ ws) (h : x ∈ ks) : x ∈ ks.erase e := (List.mem_erase_of_ne fun z => ne (by rw [← z]; exact mx)).mpr h
def dtOf (os : O3s) (ks : List Int) : Dt := ks.map fun k => (mm (prO os k), k)
theorem mm_two {a b c d : Int} (h : mm (a, b) = mm (c, d)) : a = c ∧ b = d ∨ a = d ∧ b = c := by
  rcases mm_or (a, b) with z | z <;> rcases mm_or (c, d) with y | y <;> rw [z, y] at h
  · exact .inl ⟨congrArg Prod.fst h, congrArg Prod.snd h⟩
  · exact .inr ⟨congrArg Prod.fst h, congrArg Prod.snd h⟩
  · exact .inr ⟨congrArg Prod.snd h, congrArg Prod.fst h⟩
  · exact .inl ⟨congrArg Prod.snd h, congrArg Prod.fst h⟩
theorem mm_adj2 {ts : Ties} {t u : Int × Int} (m : u ∈ ts) (h : mm t = mm u) : Adj ts t.1 t.2 := by
  obtain ⟨a, b⟩ := t
  obtain ⟨c, d⟩ := u
  rcases mm_two h with ⟨rfl, rfl⟩ | ⟨rfl, rfl⟩
  · exact .inl m
  · exact .inr m
section
variable {os : O3s} {ks : List Int}
theorem dt_len : (dtOf os ks).length = ks.length := List.length_map ..
theorem dt_keys (q : Int × Int) : q ∈ keysD (dtOf os ks) ↔ ∃ t ∈ tiesO os ks, q = mm t := by
  unfold keysD dtOf tiesO
  rw [List.map_map, List.mem_map]
  constructor
  · rintro ⟨k, mk, e⟩
    exact ⟨prO os k, List.mem_map.mpr ⟨k, mk, rfl⟩, e.symm⟩
  · rintro ⟨t, mt, e⟩
    obtain ⟨k, mk, rfl⟩ := List.mem_map.mp mt
    exact ⟨k, mk, e.symm⟩
theorem dt_rch {a b : Int} : Rch (keysD (dtOf os ks)) a b ↔ Rch (tiesO os ks) a b := mm_rch dt_keys
theorem dt_mem {q : Int × Int} {x : Int} (h : (q, x) ∈ dtOf os ks) : x ∈ ks ∧ mm (prO os x) = q := by
  obtain ⟨k, mk, e⟩ := List.mem_map.mp h
  cases e
  exact ⟨mk, rfl⟩
theorem dt_new {i : Int} (nr : ¬ Rch (tiesO os ks) (prO os i).1 (prO os i).2) : mm (prO os i) ∉ keysD (dtOf os ks) := fun m => by
  obtain ⟨t, mt, e⟩ := (dt_keys _).mp m
  exact nr (.one (mm_adj2 mt e))
theorem dt_put {i : Int} (h : mm (prO os i) ∉ keysD (dtOf os ks)) : putD (dtOf os ks) (mm (prO os i)) i = dtOf os (ks ++ [i]) := by
  unfold putD
  rw [if_neg h]
  unfold dtOf
  rw [List.map_append]
  rfl
theorem dt_uniq {n : Nat} (B : BdO os n) (rg : ∀ k ∈ ks, 0 ≤ k ∧ k < (os.length : Int)) (nr : ¬ Ring (tiesO os ks)) {e k : Int} (me : e ∈ ks) (mk : k ∈ ks) (ne : k ≠ e) : mm (prO os k) ≠ mm (prO os e) := fun h => by
  have z := (ring_erase B rg me nr).2
  exact z (.one (mm_adj2 (List.mem_map.mpr ⟨k, (List.mem_erase_of_ne ne).mpr mk, rfl⟩) h.symm))
theorem dt_drop {e : Int} (nd : ks.Nodup) (me : e ∈ ks) (un : ∀ k ∈ ks, k ≠ e → mm (prO os k) ≠ mm (prO os e)) : dropK (kvD (dtOf os ks)) (keyT (mm (prO os e))) = kvD (dtOf os (ks.erase e)) := by
  rw [nd.erase_eq_filter]
  clear nd me
  induction ks with
  | nil => rfl
  | cons k r ih =>
    have ih := ih fun x mx => un x (List.mem_cons_of_mem _ mx)
    by_cases c : k = e
    · rw [List.filter_cons_of_neg (by simp [c])]
      refine Eq.trans ?_ ih
      unfold dropK
      show List.filter _ ((keyT (mm (prO os k)), V.int k) :: kvD (dtOf os r)) = _
      rw [List.filter_cons_of_neg (by simp [c])]
    · rw [List.filter_cons_of_pos (by simp [c])]
      show List.filter _ ((keyT (mm (prO os k)), V.int k) :: kvD (dtOf os r)) = (keyT (mm (prO os k)), V.int k) :: kvD (dtOf os (r.filter _))
      have nk : keyT (mm (prO os k)) ≠ keyT (mm (prO os e)) := fun z => un k List.mem_cons_self c (keyT_inj z)
      rw [List.filter_cons_of_pos (by simp [nk])]
      exact congrArg _ ih
theorem dt_vals : (kvD (dtOf os ks)).map Prod.snd = ks.map V.int := by
  unfold kvD dtOf
  rw [List.map_map, List.map_map]
  rfl
end
/-! ### ways by numbers -/
section
variable {l : Dt} {ps : Ofs} {wy ws : List Int}
theorem NumsOf.rest {u v : Int} {r : List Int} {x : Int} (N : NumsOf l (u :: v :: r) (x :: ws)) : NumsOf l (v :: r) ws := by
  refine ⟨?_, fun i a b ha hb => ?_⟩
  · have := N.len
    rw [List.length_cons, List.length_cons] at this
    omega
  · obtain ⟨y, hy, vy⟩ := N.num (i + 1) a b ha hb
    exact ⟨y, hy, vy⟩
theorem endO_two {t : Int × Int} {u v : Int} (h : mm t = mm (u, v)) : (u = t.1 ∨ u = t.2) ∧ endO t u = v := by
  obtain ⟨p, q⟩ := t
  unfold endO
  dsimp only
  rcases mm_two h with ⟨e1, e2⟩ | ⟨e1, e2⟩
  · rw [if_pos e1.symm]
    exact ⟨.inl e1.symm, e2⟩
  · by_cases e : u = p
    · rw [if_pos e]
      exact ⟨.inl e, by omega⟩
    · rw [if_neg e]
      exact ⟨.inr e2.symm, e1⟩
theorem num_leads (hl : ∀ q x, (q, x) ∈ l → 0 ≤ x ∧ ∃ t, ps[x.toNat]? = some t ∧ mm t = q) {ts : Ties} : ∀ {wy ws : List Int} {a b : Int}, Wlk ts a b wy → NumsOf l wy ws → Leads ps b a ws
  | _, ws, _, _, .one a, N => by
    have := N.len
    rw [List.length_singleton] at this
    cases ws with
    | nil => exact .nil
    | cons _ _ => rw [List.length_cons] at this; omega
  | _, ws, _, _, .cons (a := a) (b := c) (c := b) (l := r0) e w, N => by
    cases r0 with
    | nil => exact absurd rfl w.ne_nil
    | cons c' r =>
      obtain rfl : c' = c := Option.some.inj w.head
      have ln := N.len
      cases ws with
      | nil => rw [List.length_cons, List.length_cons, List.length_nil] at ln; omega
      | cons x ws =>
        obtain ⟨x', hx, vx⟩ := N.num 0 _ _ rfl rfl
        obtain rfl : x = x' := Option.some.inj hx
        obtain ⟨x0, t, ht, et⟩ := hl _ _ (kvD_mem vx)
        obtain ⟨m, en⟩ := endO_two et
        refine .cons (t := t) x0 ht m ?_
        rw [en]
        exact num_leads hl w N.rest
theorem num_sub (N : NumsOf l wy ws) : ∀ x ∈ ws, ∃ q, (q, x) ∈ l := fun x mx => by
  obtain ⟨i, hi⟩ := List.mem_iff_getElem?.mp mx
  have li := (List.getElem?_eq_some_iff.mp hi).1
  have ln := N.len
  obtain ⟨y, hy, vy⟩ := N.num i wy[i] wy[i + 1] (List.getElem?_eq_getElem (by omega)) (List.getElem?_eq_getElem (by omega))
  rw [hi] at hy
  cases Option.some.inj hy
  exact ⟨_, kvD_mem vy⟩
theorem num_nd (hl : ∀ q x, (q, x) ∈ l → 0 ≤ x ∧ ∃ t, ps[x.toNat]? = some t ∧ mm t = q) (wd : wy.Nodup) (N : NumsOf l wy ws) : ws.Nodup := by
  have ln := N.len
  rw [List.nodup_iff_pairwise_ne, List.pairwise_iff_getElem]
  intro i i' li li' lt e
  have hu : wy[i]? = some wy[i] := List.getElem?_eq_getElem (by omega)
  have hv : wy[i + 1]? = some wy[i + 1] := List.getElem?_eq_getElem (by omega)
  have hu' : wy[i']? = some wy[i'] := List.getElem?_eq_getElem (by omega)
  have hv' : wy[i' + 1]? = some wy[i' + 1] := List.getElem?_eq_getElem (by omega)
  obtain ⟨y, hy, vy⟩ := N.num i _ _ hu hv
  obtain ⟨y', hy', vy'⟩ := N.num i' _ _ hu' hv'
  rw [List.getElem?_eq_getElem li] at hy
  rw [List.getElem?_eq_getElem li'] at hy'
  have ey : y = y' := by rw [← Option.some.inj hy, ← Option.some.inj hy', e]
  subst ey
  obtain ⟨_, t, ht, et⟩ := hl _ _ (kvD_mem vy)
  obtain ⟨_, t', ht', et'⟩ := hl _ _ (kvD_mem vy')
  rw [ht] at ht'
  cases Option.some.inj ht'
  rcases mm_two (et.symm.trans et') with ⟨e1, _⟩ | ⟨e1, e2⟩
  · rw [← e1] at hu'
    have := nd_inj wd hu hu'
    omega
  · rw [← e1] at hv'
    have := nd_inj wd hu hv'
    omega
end
section
variable {os : O3s} {n : Nat} {ks : List Int}
theorem dt_ofs (rg : ∀ k ∈ ks, 0 ≤ k ∧ k < (os.length : Int)) : ∀ q x, (q, x) ∈ dtOf os ks → 0 ≤ x ∧ ∃ t, (prs os)[x.toNat]? = some t ∧ mm t = q := fun q x m => by
  obtain ⟨mx, e⟩ := dt_mem m
  obtain ⟨o, ho, _⟩ := in_os (rg x mx).1 (rg x mx).2
  refine ⟨(rg x mx).1, o.1, prs_at ho, ?_⟩
  rw [← (prO_at ho).1]
  exact e
/-- a way along kept ones that ends where it begins is none -/
theorem lead_closed (B : BdO os n) (rg : ∀ k ∈ ks, 0 ≤ k ∧ k < (os.length : Int)) (nr : ¬ Ring (tiesO os ks)) {ws : List Int} {a : Int} (ld : Leads (prs os) a a ws) (nd : ws.Nodup) (sub : ∀ k ∈ ws, k ∈ ks) : ws = [] := by
  cases ws with
  | nil => rfl
  | cons f r =>
    exfalso
    cases ld with
    | @cons _ _ t _ f0 ht m k =>
      have mf := sub f List.mem_cons_self
      have nf := (List.nodup_cons.mp nd).1
      have er := (ring_erase B rg mf nr).2
      rw [prO_of ht] at er
      have r1 := leads_rch (ks := ks.erase f) k fun x mx => mem_er nf mx (sub x (List.mem_cons_of_mem _ mx))
      exact er (end_back m r1.symm)
theorem lead_uniq (B : BdO os n) (rg : ∀ k ∈ ks, 0 ≤ k ∧ k < (os.length : Int)) (nr : ¬ Ring (tiesO os ks)) : ∀ {ws us : List Int} {a b : Int}, Leads (prs os) b a ws → ws.Nodup → (∀ k ∈ ws, k ∈ ks) → Leads (prs os) b a us → us.Nodup → (∀ k ∈ us, k ∈ ks) → ws = us
  | [], us, a, b, ld, _, _, lu, nu, su => by
    cases ld
    exact (lead_closed B rg nr lu nu su).symm
  | e :: r, us, a, b, ld, nd, sub, lu, nu, su => by
    cases ld with
    | @cons _ _ t _ e0 ht m k =>
      have me := sub e List.mem_cons_self
      have nd' := List.nodup_cons.mp nd
      have er := (ring_erase B rg me nr).2
      rw [prO_of ht] at er
      have r1 := leads_rch (ks := ks.erase e) k fun x mx => mem_er nd'.1 mx (sub x (List.mem_cons_of_mem _ mx))
      have mu : e ∈ us := by
        by_cases c : e ∈ us
        · exact c
        · have r2 := leads_rch (ks := ks.erase e) lu fun x mx => mem_er c mx (su x mx)
          exact absurd (end_back m (r2.trans r1.symm)) er
      obtain ⟨w1, w2, rfl⟩ := List.append_of_mem mu
      obtain ⟨x, t', ht', mx, l1, l2⟩ := leads_split lu
      rw [ht] at ht'
      cases Option.some.inj ht'
      obtain ⟨n1, n2, n3⟩ := List.nodup_append.mp nu
      have s1 : ∀ k ∈ w1, k ∈ ks := fun k mk => su k (List.mem_append_left _ mk)
      have s2 : ∀ k ∈ w2, k ∈ ks := fun k mk => su k (List.mem_append_right _ (List.mem_cons_of_mem _ mk))
      by_cases c : x = a
      · subst c
        have e1 := lead_closed B rg nr l1 n1 s1
        subst e1
        rw [List.nil_append, lead_uniq B rg nr k nd'.2 (fun y my => sub y (List.mem_cons_of_mem _ my)) l2 (List.nodup_cons.mp n2).2 s2]
      · exfalso
        have ex : x = endO t a := by
          unfold endO
          by_cases g : a = t.1
          · rw [if_pos g]
            exact mx.resolve_left fun z => c (z.trans g.symm)
          · rw [if_neg g]
            exact mx.resolve_right fun z => c (z.trans (m.resolve_left g).symm)
        have r2 := leads_rch (ks := ks.erase e) l1 fun y my => (List.mem_erase_of_ne fun z => n3 y my e List.mem_cons_self z).mpr (s1 y my)
        rw [ex] at r2
        exact er (end_back m r2)
end
/-! ### what is taken -/
/-- the first of the dearest -/
def Dear (os : O3s) (ws : List Int) (e : Int) : Prop := ∃ j : Nat, ws[j]? = some e ∧ ∀ (i : Nat) (y : Int), ws[i]? = some y → pcO os y ≤ pcO os e ∧ (i < j → pcO os y < pcO os e)
theorem Dear.det {os : O3s} {ws : List Int} {e f : Int} (h1 : Dear os ws e) (h2 : Dear os ws f) : e = f := by
  obtain ⟨j, hj, a1⟩ := h1
  obtain ⟨k, hk, a2⟩ := h2
  by_cases c : j = k
  · subst c
    rw [hj] at hk
    exact Option.some.inj hk
  · exfalso
    have z1 := a1 k f hk
    have z2 := a2 j e hj
    by_cases lt : j < k
    · have := z2.2 lt
      omega
    · have := z1.2 (by omega)
      omega
theorem Dear.mem {os : O3s} {ws : List Int} {e : Int} (h : Dear os ws e) : e ∈ ws ∧ ∀ k ∈ ws, pcO os k ≤ pcO os e := by
  obtain ⟨j, hj, a1⟩ := h
  refine ⟨List.mem_of_getElem? hj, fun k mk => ?_⟩
  obtain ⟨i, hi⟩ := List.mem_iff_getElem?.mp mk
  exact (a1 i k hi).1
def Tak (os : O3s) (ks : List Int) (i : Nat) (v : V) (us : List Int) : Prop :=
  (¬ Rch (tiesO os ks) (prO os i).1 (prO os i).2 ∧ v = .non ∧ us = ks ++ [(i : Int)]) ∨ ∃ ws, Leads (prs os) (prO os i).2 (prO os i).1 ws ∧ ws.Nodup ∧ (∀ k ∈ ws, k ∈ ks) ∧
    ((∀ k ∈ ws, pcO os k ≤ pcO os i) ∧ v = .int (i : Int) ∧ us = ks ∨ ∃ e, Dear os ws e ∧ pcO os i < pcO os e ∧ v = .int e ∧ us = ks.erase e ++ [(i : Int)])
section
variable {os : O3s} {n i : Nat} {ks us : List Int} {v : V}
theorem Tak.det (B : BdO os n) (rg : ∀ k ∈ ks, 0 ≤ k ∧ k < (os.length : Int)) (nr : ¬ Ring (tiesO os ks)) {v' : V} {us' : List Int} (h1 : Tak os ks i v us) (h2 : Tak os ks i v' us') : v = v' ∧ us = us' := by
  rcases h1 with ⟨no, rfl, rfl⟩ | ⟨ws, ld, nd, sub, c1⟩
  · rcases h2 with ⟨_, rfl, rfl⟩ | ⟨ws, ld, nd, sub, _⟩
    · exact ⟨rfl, rfl⟩
    · exact absurd (leads_rch ld sub) no
  · rcases h2 with ⟨no, _⟩ | ⟨ws', ld', nd', sub', c2⟩
    · exact absurd (leads_rch ld sub) no
    · have e := lead_uniq B rg nr ld nd sub ld' nd' sub'
      subst e
      rcases c1 with ⟨le, rfl, rfl⟩ | ⟨e, de, lt, rfl, rfl⟩
      · rcases c2 with ⟨_, rfl, rfl⟩ | ⟨e', de', lt', _⟩
        · exact ⟨rfl, rfl⟩
        · have := le e' de'.mem.1
          omega
      · rcases c2 with ⟨le', _⟩ | ⟨e', de', lt', rfl, rfl⟩
        · have := le' e de.mem.1
          omega
        · rw [de.det de']
          exact ⟨rfl, rfl⟩
theorem Tak.kru (B : BdO os n) (il : i < os.length) (Y : Kru os i ks) (h : Tak os ks i v us) : Kru os (i + 1) us := by
  rcases h with ⟨no, _, rfl⟩ | ⟨ws, ld, nd, sub, c1⟩
  · exact kru_new Y no
  · rcases c1 with ⟨le, _, rfl⟩ | ⟨e, de, lt, _, rfl⟩
    · exact kru_drop Y ld sub le
    · exact kru_swap B il Y ld nd sub de.mem.1 de.mem.2 lt
end

end My
namespace My
open PySem L2
/-! ### the object of the offers -/
def fldsK (n : Int) (O D : Addr) : List (Str × V) := putF "by_tie" (.ref D) (putF "offers" (.ref O) (putF "many" (.int n) []))
theorem n67a : ¬ (("many" : Str) = "offers") := by decide +kernel
theorem n67b : ¬ (("many" : Str) = "by_tie") := by decide +kernel
theorem n67c : ¬ (("offers" : Str) = "by_tie") := by decide +kernel
theorem flds_many (n : Int) (O D : Addr) : (fldsK n O D).lookup ("many" : Str) = some (.int n) := by
  unfold fldsK
  rw [lookup_putF, if_neg n67b, lookup_putF, if_neg n67a, lookup_putF, if_pos rfl]
theorem flds_offers (n : Int) (O D : Addr) : (fldsK n O D).lookup ("offers" : Str) = some (.ref O) := by
  unfold fldsK
  rw [lookup_putF, if_neg n67c, lookup_putF, if_pos rfl]
theorem flds_tie (n : Int) (O D : Addr) : (fldsK n O D).lookup ("by_tie" : Str) = some (.ref D) := by
  unfold fldsK
  rw [lookup_putF, if_pos rfl]
theorem flds_no (n : Int) (O D : Addr) {m : Str} (h1 : ¬ m = "offers") (h2 : ¬ m = "many") (h3 : ¬ m = "by_tie") : (fldsK n O D).lookup m = none := by
  unfold fldsK
  rw [lookup_putF, if_neg h3, lookup_putF, if_neg h1, lookup_putF, if_neg h2]
  all_goals rfl
structure LightAt (C : Addr) (H : Hp) (h O D : Addr) (n : Nat) (ys : List V) (os : O3s) (l : Dt) : Prop where
  ob : ∃ dx, H h = some (.ins C dx (fldsK (n : Int) O D))
  lo : H O = some (.lst ys)
  pa : OAll H ys os
  ld : H D = some (.dT (kvD l))
section
variable {C : Addr} {H H' : Hp} {h O D : Addr} {n : Nat} {ys : List V} {os : O3s} {l : Dt}
theorem LightAt.same (A : LightAt C H h O D n ys os l) (s : Same H H') : LightAt C H' h O D n ys os l := by
  obtain ⟨dx, e⟩ := A.ob
  exact ⟨⟨dx, s _ _ e⟩, s _ _ A.lo, A.pa.same s, s _ _ A.ld⟩
theorem LightAt.kp (A : LightAt C H h O D n ys os l) (k : Kp H H') : LightAt C H' h O D n ys os l := by
  obtain ⟨dx, e⟩ := A.ob
  exact ⟨⟨dx, k _ _ e (by intro ps z; cases z)⟩, k.lst A.lo, A.pa.kp k, k _ _ A.ld (by intro ps z; cases z)⟩
theorem LightAt.hO (A : LightAt C H h O D n ys os l) : h ≠ O := by
  obtain ⟨dx, e⟩ := A.ob
  exact ne_of e A.lo (by intro z; cases z)
theorem LightAt.hD (A : LightAt C H h O D n ys os l) : h ≠ D := by
  obtain ⟨dx, e⟩ := A.ob
  exact ne_of e A.ld (by intro z; cases z)
theorem LightAt.OD (A : LightAt C H h O D n ys os l) : O ≠ D := ne_of A.lo A.ld (by intro z; cases z)
theorem OAll.putT {D : Addr} {kvs : List (List Key × V)} {o : HO} (e : H D = some (.dT kvs)) {vs : List V} {ts : List O3} (h : OAll H vs ts) : OAll (upd H D o) vs ts := h.mono fun t _ _ _ z => by
  rw [upd_ne (ne_of z e (by intro z; cases z))]
  exact z
theorem LightAt.putD (A : LightAt C H h O D n ys os l) (l' : Dt) : LightAt C (upd H D (.dT (kvD l'))) h O D n ys os l' := by
  obtain ⟨dx, e⟩ := A.ob
  exact ⟨⟨dx, by rw [upd_ne A.hD]; exact e⟩, by rw [upd_ne A.OD]; exact A.lo, A.pa.putT A.ld, upd_same⟩
/-- all but what an offer changes stays -/
def KpX (O D : Addr) (H H' : Hp) : Prop := ∀ a o, H a = some o → (∀ ps, o ≠ .tbl ps) → a ≠ O → a ≠ D → H' a = some o
theorem KpX.of_kp (k : Kp H H') : KpX O D H H' := fun a o e n _ _ => k a o e n
theorem KpX.trans {H2 : Hp} (x : KpX O D H H') (y : KpX O D H' H2) : KpX O D H H2 := fun a o e n n1 n2 => y a o (x a o e n n1 n2) n n1 n2
theorem KpX.putO {o' : HO} : KpX O D H (upd H O o') := fun a o e _ n _ => by
  rw [upd_ne n]
  exact e
theorem KpX.putD {o' : HO} : KpX O D H (upd H D o') := fun a o e _ _ n => by
  rw [upd_ne n]
  exact e
end
section
variable {K : PySem.W.Frag} {mg : Str → Option Value} {H H' : Hp}
/-- the tables stay where all but one list, one dict and one object does -/
theorem tbs_keep {ts : List (Addr × Option Str)} {a : Addr} {o u : HO} (h : Tb ts H) (e : H a = some u) (n1 : ∀ ps, u ≠ .tbl ps) (n2 : ∀ c q, u ≠ LamX.CodeO c q) : Tb ts (upd H a o) := by
  refine .mk (fun P m => ?_) (fun P q m => ?_)
  · obtain ⟨ps, e1, t⟩ := h.g m
    refine ⟨ps, ?_, t⟩
    rw [upd_ne fun z => ?_]
    · exact e1
    · rw [z, e] at e1
      exact n1 ps (Option.some.inj e1)
  · obtain ⟨ps, e1, t, c⟩ := h.s m
    refine ⟨ps, ?_, t, fun pos cv hc => ?_⟩
    · rw [upd_ne fun z => ?_]
      · exact e1
      · rw [z, e] at e1
        exact n1 ps (Option.some.inj e1)
    · obtain ⟨c0, e2, e3⟩ := c pos cv hc
      refine ⟨c0, e2, ?_⟩
      rw [upd_ne fun z => ?_]
      · exact e3
      · rw [z, e] at e3
        exact n2 _ q (Option.some.inj e3)
theorem tbs_put {ts : List (Addr × Option Str)} {O : Addr} {ys : List V} {o : HO} (h : Tb ts H) (e : H O = some (.lst ys)) : Tb ts (upd H O o) := tbs_keep h e (by intro ps z; cases z) (by intro c q z; cases z)
theorem tbs_putT {ts : List (Addr × Option Str)} {D : Addr} {kvs : List (List Key × V)} {o : HO} (h : Tb ts H) (e : H D = some (.dT kvs)) : Tb ts (upd H D o) := tbs_keep h e (by intro ps z; cases z) (by intro c q z; cases z)
end
theorem walk_valuesT {d : Addr} {o : Obj} {kvs : List (List Key × V)} : Walk (Itvt d o kvs) kvs.length (fun H => H d = some (.frz o (.dT kvs))) (fun i H x H' => H' = H ∧ ∃ k, kvs[i]? = some (k, x)) :=
  ⟨fun i H hi g => ⟨g, hi⟩, fun H g => ⟨g, Nat.le_refl _⟩, fun i H x H' _ _ y => y⟩
theorem kru_len {os : O3s} {i : Nat} {ks : List Int} (Y : Kru os i ks) : ks.length ≤ i := nodup_le (ring_nd Y.nr) Y.rg
theorem ifF {c : Bool} {A B : Prop} (h : c = false) (b : B) : if c = true then A else B := by
  rw [h, if_neg (by decide)]
  exact b
theorem ifT {c : Bool} {A B : Prop} (h : c = true) (a : A) : if c = true then A else B := by
  rw [h, if_pos rfl]
  exact a
theorem take_get {α : Type} {xs : List α} {i j : Nat} {x : α} (lt : j < i) (h : xs[j]? = some x) : (xs.take i)[j]? = some x := by
  rw [List.getElem?_take, if_pos lt]
  exact h
section
variable {P : Program} {w : World} {K : PySem.W.Frag} {mg : Str → Option Value} {base : Heap}
def spWholeI : Sp := fun vs H Q _ => ∃ i : Int, vs = [.int i] ∧ Q (.bl true) H
theorem ok_wholeI (T : Top K mg) : FnOk P w K mg base CX0 1 T.a_iswhole T.d_iswhole ["thing"] spWholeI := by
  refine T.F_iswhole.ok sc_iswhole (fun vs H Q E h => ?_) (fun cdv A outer s H vs Q E hr h => ?_)
  · obtain ⟨i, rfl, _⟩ := h
    rfl
  · obtain ⟨i, rfl, q⟩ := h
    refine ⟨_, (pss_one (ps_ret (pe_and (pe_callB call_isi (by rfl) T.m_isinstance (by decide +kernel) (pa_cons (pv 0) (pa_cons (pe_bltn (v := .ty "int") (by rfl) T.m_int (by decide +kernel) rfl) pa_nil))) (pe_one (pe_not (pe_callB call_isi (by rfl) T.m_isinstance (by decide +kernel) (pa_cons (pv 0) (pa_cons (pe_bltn (v := .ty "bool") (by rfl) T.m_bool (by decide +kernel) rfl) pa_nil)))))))), ?_⟩
    refine ⟨_, rfl, _, _, _, _, true, rfl, ClsV.ty _, .base (.int i), kit_ty (by decide +kernel), _, rfl, iteT ?_⟩
    exact ⟨_, rfl, _, _, _, _, false, rfl, ClsV.ty _, .base (.int i), kit_ty (by decide +kernel), _, rfl, q⟩
def spRefM (T : Top K mg) : Sp := fun vs H Q _ => ∃ (l : Addr) (ns : List Int) (m : Int), vs = [.ref l, .int m] ∧ H l = some (.lst (ns.map V.int)) ∧ (∀ x ∈ ns, 0 ≤ x ∧ x < m) ∧ Tb T.tbs H ∧ ∀ H', Kp H H' → Tb T.tbs H' → Q .non H'
theorem ok_refM (T : Top K mg) (TB : GxR.TabB base mg T.cM T.PM) : FnOk P w K mg base CX0 2 T.a_refusemissing T.d_refusemissing ["numbers", "many"] (spRefM T) := by
  refine okC T.F_refusemissing T.hcM sc_refusemissing (fun vs H Q E h => ?_) (fun A outer s H vs Q E hr h => ?_)
  · obtain ⟨l, ns, m, rfl, _⟩ := h
    rfl
  · obtain ⟨l, ns, m, rfl, hl, rg, tb, q⟩ := h
    refine ⟨_, (pss_one (ps_if (pt_not (pt_val (pe_allG (own := [("number", 2)]) hr rfl sc_refusemissing.nd (by rfl) T.m_all (by decide +kernel) TB rfl (blkOk_by (own := [("number", 2)]) (N := ["numbers", "many", "number"]) (sc := defScope s_refusemissing) (by decide +kernel)) (by rfl) (by decide +kernel) (by rfl) (pi_list (pv 0)) (fun _ _ _ _ _ _ _ => (pg_name (i := 2) sc_refusemissing.nd rfl (.inl rfl) (hf := Or.inr rfl))) (fun _ _ _ _ _ _ _ hr' => (pe_chain op_le op_lt pe_int (pv 2) (pv 1)))))) (pss_one ps_never) pss_nil)), ?_⟩
    refine ⟨_, rfl, l, rfl, ⟨_, SqL.of hl⟩, tb.g T.mM, fun H2 tab => ?_⟩
    have k2 := Kp.of_tabd (tb.g T.mM) tab
    have tb2 := tb.tab T.nd T.mM (But.of_tab tab) tab.1
    refine gturns_it (walk_list (xs := ns.map V.int)) (fun i H3 => Kp H H3 ∧ Tb T.tbs H3) ⟨k2, tb2⟩ (fun i H3 _ z => SqL.of (z.1.lst hl)) ?_ (fun H3 z => ?_)
    · rintro i x H3 H4 N hi ⟨k3, tb3⟩ ⟨rfl, hx⟩ nx
      rw [List.getElem?_map] at hx
      obtain ⟨u, hu, rfl⟩ := Option.map_eq_some_iff.mp hx
      obtain ⟨u0, u1⟩ := rg u (List.mem_of_getElem? hu)
      refine ⟨rfl, _, rfl, _, _, rfl, rfl, decide (0 ≤ u), rfl, ?_⟩
      rw [decide_eq_true u0]
      refine iteT ?_
      refine ⟨_, rfl, _, _, rfl, rfl, decide (u < m), rfl, ?_⟩
      rw [decide_eq_true u1]
      exact iteT (nx _ ⟨k3, tb3⟩)
    · exact ⟨_, rfl, iteF (q H3 z.1 z.2)⟩
def spRefE (T : Top K mg) : Sp := fun vs H Q _ => ∃ (a b m : Int), vs = [.int a, .int b, .int m] ∧ 0 ≤ a ∧ a < m ∧ 0 ≤ b ∧ b < m ∧ Tb T.tbs H ∧ ∀ H', Kp H H' → Tb T.tbs H' → Q .non H'
theorem ok_refE (T : Top K mg) (TB : GxR.TabB base mg T.cM T.PM) : FnOk P w K mg base CX0 3 T.a_refuseends T.d_refuseends ["a", "b", "many"] (spRefE T) := by
  have G_iswhole : FnOk P w K mg base CX0 1 _ _ _ _ := ok_wholeI T
  have G_refusemissing : FnOk P w K mg base CX0 2 _ _ _ _ := ok_refM T TB
  refine T.F_refuseends.ok sc_refuseends (fun vs H Q E h => ?_) (fun cdv A outer s H vs Q E hr h => ?_)
  · obtain ⟨a, b, m, rfl, _⟩ := h
    rfl
  · obtain ⟨a, b, m, rfl, a0, a1, b0, b1, tb, q⟩ := h
    refine ⟨_, (pss_cons (ps_if (PW.pt (pw_or (pt_not (pt_val (pe_call G_iswhole (hr.mono (by decide)) (by rfl) T.g_iswhole T.F_iswhole.kp T.b_iswhole .nil pass0 (pa_cons (pv 0) pa_nil)))) (pw_or1 (pt_not (pt_val (pe_call G_iswhole (hr.mono (by decide)) (by rfl) T.g_iswhole T.F_iswhole.kp T.b_iswhole .nil pass0 (pa_cons (pv 1) pa_nil))))))) (pss_one ps_never) pss_nil)
      (pss_one (ps_expr (pe_call G_refusemissing hr (by rfl) T.g_refusemissing T.F_refusemissing.kp T.b_refusemissing .nil pass0 (pa_cons (pe_lst (pa_cons (pv 0) (pa_cons (pv 1) pa_nil))) (pa_cons (pv 2) pa_nil)))))), ?_⟩
    refine ⟨_, rfl, a, rfl, _, rfl, iteF ?_⟩
    refine ⟨_, rfl, b, rfl, _, rfl, iteF ?_⟩
    refine ⟨_, rfl, _, rfl, (by show 2 ≤ sizeLine; decide), fun l nl => ?_⟩
    have sl := same_new (o := .lst ([a, b].map V.int)) nl
    refine ⟨_, rfl, l, [a, b], m, rfl, upd_same, fun x mx => ?_, tb.same sl, fun H1 k1 tb1 => q H1 ((Kp.of_same sl).trans k1) tb1⟩
    rcases List.mem_cons.mp mx with rfl | mx
    · exact ⟨a0, a1⟩
    · rw [List.mem_singleton.mp mx]
      exact ⟨b0, b1⟩
def spInit (C : Addr) : Sp := fun vs H Q _ => ∃ (p dx : Addr) (n : Nat), vs = [.ref p, .int (n : Int)] ∧ H p = some (.ins C dx []) ∧ ∀ (O D : Addr) (H' : Hp), H O = none → H D = none → LightAt C H' p O D n [] [] [] → (∀ c o, H c = some o → c ≠ p → H' c = some o) → Q .non H'
theorem ok_init (T : Top K mg) : FnOk P w K mg base CX0 1 T.a_Lightestinit T.d_Lightestinit ["self", "many"] (spInit T.C_Lightest) := by
  refine T.F_Lightestinit.ok sc_Lightestinit (fun vs H Q E h => ?_) (fun cdv A outer s H vs Q E hr h => ?_)
  · obtain ⟨p, dx, n, rfl, _⟩ := h
    rfl
  · obtain ⟨p, dx, n, rfl, hp, q⟩ := h
    refine ⟨_, (pss_cons (ps_fld (pv 0) (pv 1) rfl)
      (pss_cons (ps_fld (pv 0) (pe_lst pa_nil) rfl)
      (pss_one (ps_fld (pv 0) pe_dnewT rfl)))), ?_⟩
    refine ⟨_, rfl, _, rfl, p, T.C_Lightest, dx, [], rfl, hp, T.cl_Lightest, T.na_Lightest_many, (by show 0 < 1000; decide), ?_⟩
    refine ⟨Nat.zero_le _, fun O nO => ?_⟩
    have Op : O ≠ p := fun z => by
      rw [z, upd_same] at nO
      cases nO
    have nO0 : H O = none := by
      rw [upd_ne Op] at nO
      exact nO
    refine ⟨_, rfl, p, T.C_Lightest, dx, _, rfl, (by rw [upd_ne Op.symm]; exact upd_same), T.cl_Lightest, T.na_Lightest_offers, (by show 1 < 1000; decide), ?_⟩
    refine fun D nD => ?_
    have Dp : D ≠ p := fun z => by
      rw [z, upd_same] at nD
      cases nD
    have DO : D ≠ O := fun z => by
      rw [upd_ne Dp, z, upd_same] at nD
      cases nD
    have nD0 : H D = none := by
      rw [upd_ne Dp, upd_ne DO, upd_ne Dp] at nD
      exact nD
    refine ⟨_, rfl, p, T.C_Lightest, dx, _, rfl, (by rw [upd_ne Dp.symm]; exact upd_same), T.cl_Lightest, T.na_Lightest_by_tie, (by show 2 < 1000; decide), ?_⟩
    refine q O D _ nO0 nD0 ⟨⟨dx, upd_same⟩, by rw [upd_ne Op, upd_ne DO.symm, upd_ne Op, upd_same], .nil, by rw [upd_ne Dp, upd_same]; rfl⟩ fun c o e ne => ?_
    rw [upd_ne ne, upd_ne (ne_of_none e nD0), upd_ne ne, upd_ne (ne_of_none e nO0), upd_ne ne]
    exact e
def spTie (C : Addr) : Sp := fun vs H Q _ => ∃ (h O D : Addr) (n : Nat) (j : Int) (ys : List V) (os : O3s) (l : Dt) (o : O3), vs = [.ref h, .int j] ∧ LightAt C H h O D n ys os l ∧ 0 ≤ j ∧ os[j.toNat]? = some o ∧ ∀ (t : Addr) (H' : Hp), Same H H' → H' t = some (.tup ((keyT (mm o.1)).map kV)) → Q (.ref t) H'
theorem ok_tie (T : Top K mg) : FnOk P w K mg base CX0 2 T.a_Lightesttie T.d_Lightesttie ["self", "number"] (spTie T.C_Lightest) := by
  have G_tieof : FnOk P w K mg base CX0 1 _ _ _ _ := ok_tieof T
  refine T.F_Lightesttie.ok sc_Lightesttie (fun vs H Q E h => ?_) (fun cdv A outer s H vs Q E hr h => ?_)
  · obtain ⟨h, O, D, n, j, ys, os, l, o, rfl, _⟩ := h
    rfl
  · obtain ⟨h, O, D, n, j, ys, os, l, o, rfl, A, j0, hj, q⟩ := h
    obtain ⟨dx, hh⟩ := A.ob
    obtain ⟨tp, e1, htp⟩ := A.pa.ix j0 hj
    refine ⟨_, (pss_one (ps_ret (pe_call G_tieof hr (by rfl) T.g_tieof T.F_tieof.kp T.b_tieof .nil pass0 (pa_cons (pe_ix ix_tup (pe_ix ix_list (pe_fld (pv 0) rfl) (pv 1) (fun _ _ => rfl)) pe_int (fun _ _ => rfl)) (pa_cons (pe_ix ix_tup (pe_ix ix_list (pe_fld (pv 0) rfl) (pv 1) (fun _ _ => rfl)) pe_int (fun _ _ => rfl)) pa_nil))))), ?_⟩
    refine ⟨_, rfl, h, T.C_Lightest, dx, _, _, rfl, hh, T.cl_Lightest, T.na_Lightest_offers, flds_offers _ _ _, _, rfl, O, _, _, _, rfl, rfl, SqL.of A.lo, e1, tp, _, _, _, rfl, rfl, SqT.of htp, atI_nat (j := 0) rfl, ?_⟩
    refine ⟨_, rfl, h, T.C_Lightest, dx, _, _, rfl, hh, T.cl_Lightest, T.na_Lightest_offers, flds_offers _ _ _, _, rfl, O, _, _, _, rfl, rfl, SqL.of A.lo, e1, tp, _, _, _, rfl, rfl, SqT.of htp, atI_nat (j := 1) rfl, ?_⟩
    exact ⟨o.1, rfl, fun t H' s _ ht => q t H' s ht⟩
def spKeep (C : Addr) : Sp := fun vs H Q _ => ∃ (h O D : Addr) (n : Nat) (j : Int) (ys : List V) (os : O3s) (l : Dt) (o : O3), vs = [.ref h, .int j] ∧ LightAt C H h O D n ys os l ∧ l.length ≤ 1000 ∧ 0 ≤ j ∧ os[j.toNat]? = some o ∧
  ∀ (H1 : Hp), Same H H1 → LightAt C (upd H1 D (.dT (kvD (putD l (mm o.1) j)))) h O D n ys os (putD l (mm o.1) j) → Q .non (upd H1 D (.dT (kvD (putD l (mm o.1) j))))
theorem ok_keep (T : Top K mg) : FnOk P w K mg base CX0 3 T.a_Lightestkeep T.d_Lightestkeep ["self", "number"] (spKeep T.C_Lightest) := by
  have G_Lightesttie : FnOk P w K mg base CX0 2 _ _ _ _ := ok_tie T
  refine T.F_Lightestkeep.ok sc_Lightestkeep (fun vs H Q E h => ?_) (fun cdv A outer s H vs Q E hr h => ?_)
  · obtain ⟨h, O, D, n, j, ys, os, l, o, rfl, _⟩ := h
    rfl
  · obtain ⟨h, O, D, n, j, ys, os, l, o, rfl, A, ll, j0, hj, q⟩ := h
    obtain ⟨dx, hh⟩ := A.ob
    refine ⟨_, (pss_one (ps_dput (u1 hr) (pe_fld (pv 0) rfl) (pe_meth (pv 0) T.cl_Lightest T.me_Lightesttie G_Lightesttie hr T.b_Lightesttie .nil pass0 (pa_cons (pv 1) pa_nil)) (pv 1) rfl)), ?_⟩
    refine ⟨_, rfl, _, rfl, h, T.C_Lightest, dx, _, _, rfl, hh, T.cl_Lightest, T.na_Lightest_by_tie, flds_tie _ _ _, ?_⟩
    refine ⟨_, rfl, h, dx, _, rfl, hh, flds_no _ _ _ (by decide +kernel) (by decide +kernel) (by decide +kernel), _, rfl, h, O, D, n, j, ys, os, l, o, rfl, A, j0, hj, fun t H1 s1 ht => ?_⟩
    have A1 := A.same s1
    refine ⟨D, _, rfl, DPut.t A1.ld ht (szl (by unfold kvD; rw [List.length_map]; omega)), ?_⟩
    rw [kvD_put]
    exact q H1 s1 (A1.putD _)
def spKept (C : Addr) : Sp := fun vs H Q _ => ∃ (h O D : Addr) (n : Nat) (ys : List V) (os F : O3s) (ks : List Int), vs = [.ref h] ∧ LightAt C H h O D n ys os (dtOf F ks) ∧ ∀ (t : Addr) (us : List Int) (H' : Hp), Same H H' → us.Perm ks → us.Pairwise (· ≤ ·) → H' t = some (.tup (us.map V.int)) → Q (.ref t) H'
theorem ok_kept (T : Top K mg) : FnOk P w K mg base CX0 1 T.a_Lightestkept T.d_Lightestkept ["self"] (spKept T.C_Lightest) := by
  refine T.F_Lightestkept.ok sc_Lightestkept (fun vs H Q E h => ?_) (fun cdv A outer s H vs Q E hr h => ?_)
  · obtain ⟨h, O, D, n, ys, os, F, ks, rfl, _⟩ := h
    rfl
  · obtain ⟨h, O, D, n, ys, os, F, ks, rfl, A, q⟩ := h
    obtain ⟨dx, hh⟩ := A.ob
    refine ⟨_, (pss_one (ps_ret (pe_callTy call_tuple_of (by rfl) T.m_tuple (by decide +kernel) (pa_cons (pe_callB cr_sortedI (by rfl) T.m_sorted (by decide +kernel) (pa_cons (pe_callTy (call_list_valsT rfl) (by rfl) T.m_list (by decide +kernel) (pa_cons (pe_valsT (pe_fld (pv 0) rfl)) pa_nil)) pa_nil)) pa_nil)))), ?_⟩
    refine ⟨_, rfl, h, T.C_Lightest, dx, _, _, rfl, hh, T.cl_Lightest, T.na_Lightest_by_tie, flds_tie _ _ _, D, _, rfl, A.ld, fun v nv => ?_⟩
    have s1 := same_new (o := viewV v D) nv
    refine ⟨v, D, _, rfl, upd_same, s1 _ _ A.ld, fun p np => ?_⟩
    rw [dt_vals]
    have s2 := same_new (o := .lst (ks.map V.int)) np
    refine ⟨p, ks, rfl, SqL.of upd_same, fun us p2 pm srt np2 => ?_⟩
    have s3 := same_new (o := .lst (us.map V.int)) np2
    refine ⟨p2, _, rfl, .inl ⟨SqL.of upd_same, fun p3 np3 => ?_⟩⟩
    have s4 := same_new (o := .tup (us.map V.int)) np3
    exact q p3 us _ (((s1.trans s2).trans s3).trans s4) pm srt upd_same
def spPrice (C : Addr) : Sp := fun vs H Q _ => ∃ (h O D : Addr) (n : Nat) (ys : List V) (os F : O3s) (ks : List Int), vs = [.ref h] ∧ LightAt C H h O D n ys os (dtOf F ks) ∧ ks.length ≤ 1000 ∧ (∀ k ∈ ks, 0 ≤ k ∧ ∃ o, os[k.toNat]? = some o ∧ F[k.toNat]? = some o) ∧ ∀ (H' : Hp), Same H H' → Q (.int ((ks.map (pcO F)).sum)) H'
theorem ok_price (T : Top K mg) : FnOk P w K mg base CX0 1 T.a_Lightestprice T.d_Lightestprice ["self"] (spPrice T.C_Lightest) := by
  refine T.F_Lightestprice.ok sc_Lightestprice (fun vs H Q E h => ?_) (fun cdv A outer s H vs Q E hr h => ?_)
  · obtain ⟨h, O, D, n, ys, os, F, ks, rfl, _⟩ := h
    rfl
  · obtain ⟨h, O, D, n, ys, os, F, ks, rfl, A, lk, ok, q⟩ := h
    obtain ⟨dx, hh⟩ := A.ob
    have hD := A.hD
    have OD := A.OD
    refine ⟨_, (pss_one (ps_ret (pe_callB (cr_sum rfl) (by rfl) T.m_sum (by decide +kernel) (pa_cons (pe_lock (pe_lc (own := [("number", 1)]) (g := gName 1) (tt := tYes) (by rfl) sc_Lightestprice.nd (pi_valuesT (pe_fld (pv 0) rfl)) (blkOk_by (own := [("number", 1)]) (N := ["self", "number"]) (sc := defScope s_Lightestprice) (by decide +kernel)) (fun _ _ _ _ _ => (pg_name (i := 1) sc_Lightestprice.nd rfl (.inl rfl))) (fun _ _ _ _ _ => pts_nil) (fun _ _ _ _ _ => (pe_ix (ix_tupK (K := K) rfl) (pe_ix (ix_listK (K := K) rfl) (pe_fldK (K := K) rfl (pv 0) rfl) (pv 1) (fun _ _ => rfl)) pe_int (fun _ _ => rfl))))) pa_nil)))), ?_⟩
    refine ⟨D, _, A.ld, trivial, fun od => ?_⟩
    have sL : ∀ c o, c ≠ D → H c = some o → upd H D (.frz od (.dT (kvD (dtOf F ks)))) c = some o := fun c o ne e => by
      rw [upd_ne ne]
      exact e
    have hL : upd H D (.frz od (.dT (kvD (dtOf F ks)))) D = some (.frz od (.dT (kvD (dtOf F ks)))) := upd_same
    generalize upd H D (.frz od (.dT (kvD (dtOf F ks)))) = HL at sL hL ⊢
    refine ⟨_, rfl, h, T.C_Lightest, dx, _, _, rfl, sL _ _ hD hh, T.cl_Lightest, T.na_Lightest_by_tie, flds_tie _ _ _, D, od, _, rfl, hL, fun M nM => ?_⟩
    refine lc_it (walk_valuesT (kvs := kvD (dtOf F ks))) (fun i H1 => Same HL H1 ∧ H1 M = some (.lst (((ks.take i).map (pcO F)).map V.int))) ⟨same_new nM, upd_same⟩ (fun i H1 _ z => z.1 _ _ hL) ?_ ?_
    · rintro i x H1 H2 hi ⟨s1, hM⟩ ⟨rfl, kk, hx⟩
      have hx2 : (ks.map V.int)[i]? = some x := by
        rw [← dt_vals (os := F), List.getElem?_map, hx]
        rfl
      rw [List.getElem?_map] at hx2
      obtain ⟨k, hk, rfl⟩ := Option.map_eq_some_iff.mp hx2
      obtain ⟨k0, o, ho, hF⟩ := ok k (List.mem_of_getElem? hk)
      obtain ⟨tp, e1, htp⟩ := A.pa.ix k0 ho
      have li := (List.getElem?_eq_some_iff.mp hk).1
      refine ⟨rfl, yes_ite ?_⟩
      refine ⟨_, rfl, h, T.C_Lightest, dx, _, _, rfl, s1 _ _ (sL _ _ hD hh), T.cl_Lightest, T.na_Lightest_offers, flds_offers _ _ _, _, rfl, O, _, _, _, rfl, rfl, SqL.of (s1 _ _ (sL _ _ OD A.lo)), e1, tp, _, _, _, rfl, rfl, SqT.of (s1 _ _ (sL _ _ (ne_of htp A.ld (by intro z; cases z)) htp)), atI_nat (j := 2) rfl, _, hM, ?_, same_put s1 nM, ?_⟩
      · rw [List.length_map, List.length_map, List.length_take]
        exact szl (by omega)
      · rw [upd_same, take_at hk, List.map_append, List.map_append, List.map_singleton, (prO_at hF).2]
        rfl
    · rintro H1 ⟨s1, hM⟩
      have ek : (kvD (dtOf F ks)).length = ks.length := by
        unfold kvD
        rw [List.length_map, dt_len]
      rw [ek, List.take_length] at hM
      have hD1 := s1 _ _ hL
      have MD : M ≠ D := ne_of hM hD1 (by intro z; cases z)
      refine ⟨hD1, M, _, rfl, SqL.of (by rw [upd_ne MD]; exact hM), ?_⟩
      refine q _ fun c o e => ?_
      by_cases cD : c = D
      · rw [cD, upd_same]
        rw [cD, A.ld] at e
        exact e
      · rw [upd_ne cD]
        exact s1 _ _ (sL _ _ cD e)
end
section
variable {P : Program} {w : World} {K : PySem.W.Frag} {mg : Str → Option Value} {base : Heap}
theorem dt_nrm {os : O3s} {ks : List Int} : ∀ q ∈ keysD (dtOf os ks), mm q = q := fun q m => by
  obtain ⟨t, _, rfl⟩ := (dt_keys q).mp m
  exact mm_mm t
theorem dt_bd {os : O3s} {n : Nat} {ks : List Int} (B : BdO os n) (n40 : n ≤ 40) (l100 : ks.length ≤ 100) (rg : ∀ k ∈ ks, 0 ≤ k ∧ k < (os.length : Int)) : Bd74 n (keysD (dtOf os ks)) := by
  refine ⟨n40, by unfold keysD; rw [List.length_map, dt_len]; exact l100, fun q m => ?_⟩
  obtain ⟨t, mt, rfl⟩ := (dt_keys q).mp m
  have z := bd_ties B rg t mt
  rcases mm_or t with e | e
  · rw [e]
    exact z
  · rw [e]
    exact ⟨z.2.1, z.1, z.2.2.2, z.2.2.1⟩
def nmsOff : List Str := ["self", "a", "b", "price", "number", "way", "gone"]
theorem nv_off {σ : L2.St} (h : σ.length = 7) : NoVal "k" nmsOff σ := by
  match σ, h with
  | [_, _, _, _, _, _, _], _ =>
    refine ⟨fun z => ?_, fun z => ?_, fun z => ?_, fun z => ?_, fun z => ?_, fun z => ?_, fun z => ?_, trivial⟩ <;> exact absurd z (by decide +kernel)
def spOffer (T : Top K mg) : Sp := fun vs H Q _ => ∃ (h O D : Addr) (n i : Nat) (a b p : Int) (ys : List V) (F : O3s) (ks : List Int), vs = [.ref h, .int a, .int b, .int p] ∧ LightAt T.C_Lightest H h O D n ys (F.take i) (dtOf F ks) ∧ BdO F n ∧ F[i]? = some ((a, b), p) ∧ 0 ≤ p ∧ n ≤ 40 ∧ F.length ≤ 63 ∧ Kru F i ks ∧ Tb T.tbs H ∧
  ∀ (v : V) (us : List Int) (ys' : List V) (H' : Hp), KpX O D H H' → LightAt T.C_Lightest H' h O D n ys' (F.take (i + 1)) (dtOf F us) → Tak F ks i v us → Tb T.tbs H' → Q v H'
theorem ok_offer (T : Top K mg) (TB : TBs T base) : FnOk P w K mg base CX0 5 T.a_Lightestoffer T.d_Lightestoffer ["self", "a", "b", "price"] (spOffer T) := by
  have G_iswhole : FnOk P w K mg base CX0 1 _ _ _ _ := ok_wholeI T
  have G_refuseends : FnOk P w K mg base CX0 3 _ _ _ _ := ok_refE T TB.M
  have G_offersalong : FnOk P w K mg base CX0 4 _ _ _ _ := ok_along T
  have G_Lightestkeep : FnOk P w K mg base CX0 3 _ _ _ _ := ok_keep T
  have G_Lightesttie : FnOk P w K mg base CX0 2 _ _ _ _ := ok_tie T
  have TL := TB.L
  refine okC T.F_Lightestoffer T.hcL sc_Lightestoffer (fun vs H Q E h => ?_) (fun A outer s H vs Q E hr h => ?_)
  · obtain ⟨h, O, D, n, i, a, b, p, ys, F, ks, rfl, _⟩ := h
    rfl
  · obtain ⟨h, O, D, n, i, a, b, p, ys, F, ks, rfl, A, B, hu, p0, n40, lF, Y, tb, q⟩ := h
    have il := (List.getElem?_eq_some_iff.mp hu).1
    have bu := B _ (List.mem_of_getElem? hu)
    have hu2 : F[((i : Nat) : Int).toNat]? = some ((a, b), p) := by rw [Int.toNat_natCast]; exact hu
    have eo := prO_at hu2
    have ly : ys.length = i := by rw [A.pa.length, List.length_take]; omega
    have lk := kru_len Y
    have rk : ∀ k ∈ ks, 0 ≤ k ∧ k < (F.length : Int) := fun k mk => by
      have := Y.rg k mk
      omega
    obtain ⟨dx, hh⟩ := A.ob
    refine ⟨_, (pss_cons (ps_if (PW.pt (pw_or (pt_not (pt_val (pe_call G_iswhole (hr.mono (by decide)) (by rfl) T.g_iswhole T.F_iswhole.kp T.b_iswhole .nil pass0 (pa_cons (pv 3) pa_nil)))) (pw_or1 (pt_cmpR op_lt (pv 3) pe_int (nomark _))))) (pss_one ps_never) pss_nil)
      (pss_cons (ps_expr (pe_call G_refuseends (hr.mono (by decide)) (by rfl) T.g_refuseends T.F_refuseends.kp T.b_refuseends .nil pass0 (pa_cons (pv 1) (pa_cons (pv 2) (pa_cons (pe_fld (pv 0) rfl) pa_nil)))))
      (pss_cons (ps_set (i := 4) sc_Lightestoffer.nd rfl (.inl rfl) (pe_callB call_len_seq (by rfl) T.m_len PySem.boot_len (pa_cons (pe_fld (pv 0) rfl) pa_nil)))
      (pss_cons (ps_expr (pe_bm PySem.F.plainAttrs_list PySem.F.slot_list_append PySem.F.type_list_append mt_append (pe_fld (pv 0) rfl) (pa_cons (pe_tup (pa_cons (pv 1) (pa_cons (pv 2) (pa_cons (pv 3) pa_nil)))) pa_nil)))
      (pss_cons (ps_set (i := 5) sc_Lightestoffer.nd rfl (.inl rfl) (pe_call G_offersalong hr (by rfl) T.g_offersalong T.F_offersalong.kp T.b_offersalong .nil pass0 (pa_cons (pe_fld (pv 0) rfl) (pa_cons (pe_fld (pv 0) rfl) (pa_cons (pv 1) (pa_cons (pv 2) pa_nil))))))
      (pss_cons (ps_if (pt_cmpR op_isN (pv 5) pe_non (nomark _)) (pss_cons (ps_expr (pe_meth (pv 0) T.cl_Lightest T.me_Lightestkeep G_Lightestkeep (hr.mono (by decide)) T.b_Lightestkeep .nil pass0 (pa_cons (pv 4) pa_nil)))
      (pss_one (ps_ret pe_non))) pss_nil)
      (pss_cons (ps_set (i := 6) sc_Lightestoffer.nd rfl (.inl rfl) (pe_maxKey (k := 2) (p := "k") (by rfl) T.m_max rfl TL rfl hr (lamP_by (sc := defScope s_Lightestoffer) (by decide +kernel)) (by rfl) (fun _ _ _ _ _ _ => by rfl) (fun _ _ _ _ _ _ _ hrb => (pe_ix (ix_tupK (K := K) rfl) (pe_ix (ix_listK (K := K) rfl) (pe_fldK (K := K) rfl (pv 0) rfl) (pv 7) (fun _ _ => rfl)) pe_int (fun _ _ => rfl))) (pe_lst (pa_cons (pv 4) (StX.pa_star (pv 5) pa_nil)))))
      (pss_cons (ps_if (pt_cmpR op_ne (pv 6) (pv 4) (nomark _)) (pss_cons (ps_ddelT (u1 hr) (pe_fld (pv 0) rfl) (pe_meth (pv 0) T.cl_Lightest T.me_Lightesttie G_Lightesttie (hr.mono (by decide)) T.b_Lightesttie .nil pass0 (pa_cons (pv 6) pa_nil)))
      (pss_one (ps_expr (pe_meth (pv 0) T.cl_Lightest T.me_Lightestkeep G_Lightestkeep (hr.mono (by decide)) T.b_Lightestkeep .nil pass0 (pa_cons (pv 4) pa_nil))))) pss_nil)
      (pss_one (ps_ret (pv 6))))))))))), ?_⟩
    -- refused it isn't
    refine ⟨_, rfl, p, rfl, _, rfl, iteF ?_⟩
    refine ⟨_, rfl, _, _, rfl, rfl, _, rfl, ite2 (fun z => absurd (of_decide_eq_true z) (by omega)) (fun _ => ?_)⟩
    refine ⟨_, rfl, _, rfl, _, rfl, h, T.C_Lightest, dx, _, _, rfl, hh, T.cl_Lightest, T.na_Lightest_many, flds_many _ _ _, a, b, (n : Int), rfl, bu.1, bu.2.2.1, bu.2.1, bu.2.2.2, tb, fun H1 k1 tb1 => ?_⟩
    have A1 := A.kp k1
    have hh1 : H1 h = some (.ins T.C_Lightest dx (fldsK (n : Int) O D)) := k1 _ _ hh (by intro ps z; cases z)
    -- its number
    refine ⟨_, rfl, h, T.C_Lightest, dx, _, _, rfl, hh1, T.cl_Lightest, T.na_Lightest_offers, flds_offers _ _ _, O, _, rfl, .inl (SqL.of A1.lo), ?_⟩
    rw [ly]
    refine ⟨_, rfl, h, T.C_Lightest, dx, _, _, rfl, hh1, T.cl_Lightest, T.na_Lightest_offers, flds_offers _ _ _, .inl ⟨rfl, _, SqL.of A1.lo⟩, _, rfl, _, rfl, _, rfl, (by show 3 ≤ sizeLine; decide), fun t nt => ?_⟩
    have st := same_new (o := .tup [V.int a, V.int b, V.int p]) nt
    have ht : upd H1 t (.tup [V.int a, V.int b, V.int p]) t = some (.tup [V.int a, V.int b, V.int p]) := upd_same
    generalize upd H1 t (.tup [V.int a, V.int b, V.int p]) = H2 at st ht ⊢
    have A2 := A1.same st
    have tb2 := tb1.same st
    have kx2 : KpX O D H H2 := .of_kp (k1.trans (Kp.of_same st))
    refine ⟨O, _, _, rfl, rfl, A2.lo, szl (by omega), ?_⟩
    have A3 : LightAt T.C_Lightest (upd H2 O (.lst (ys ++ [.ref t]))) h O D n (ys ++ [.ref t]) (F.take (i + 1)) (dtOf F ks) := by
      refine ⟨⟨dx, by rw [upd_ne A2.hO]; exact st _ _ hh1⟩, upd_same, ?_, by rw [upd_ne A2.OD.symm]; exact A2.ld⟩
      rw [take_at hu]
      exact (OAll.snoc ht A2.pa).put A2.lo
    have tb3 := tbs_put (o := .lst (ys ++ [.ref t])) tb2 A2.lo
    have kx3 : KpX O D H (upd H2 O (.lst (ys ++ [.ref t]))) := kx2.trans .putO
    have hh3 : upd H2 O (.lst (ys ++ [.ref t])) h = some (.ins T.C_Lightest dx (fldsK (n : Int) O D)) := by
      rw [upd_ne A2.hO]
      exact st _ _ hh1
    clear A A1 A2 tb tb1 tb2 hh hh1 k1 st ht kx2 nt
    generalize ys ++ [V.ref t] = zs at A3 tb3 kx3 hh3 ⊢
    generalize upd H2 O (.lst zs) = H3 at A3 tb3 kx3 hh3 ⊢
    have at_ : ∀ k o, 0 ≤ k → k ≤ (i : Int) → F[k.toNat]? = some o → (F.take (i + 1))[k.toNat]? = some o := fun k o k0 k1 e => take_get (by omega) e
    have hi3 := at_ _ _ (by omega) (Int.le_refl _) hu2
    -- the way
    refine ⟨_, rfl, h, T.C_Lightest, dx, _, _, rfl, hh3, T.cl_Lightest, T.na_Lightest_many, flds_many _ _ _, ?_⟩
    refine ⟨_, rfl, h, T.C_Lightest, dx, _, _, rfl, hh3, T.cl_Lightest, T.na_Lightest_by_tie, flds_tie _ _ _, _, rfl, _, rfl, ?_⟩
    refine ⟨n, D, dtOf F ks, a, b, rfl, A3.ld, dt_bd B n40 (by omega) rk, dt_nrm, bu.1, bu.2.2.1, bu.2.1, bu.2.2.2, fun H4 s4 nr => ?_, fun t4 wy ws H4 s4 hw _ nm ht4 => ?_⟩
    · -- none
      have A4 := A3.same s4
      have nr2 : ¬ Rch (tiesO F ks) (prO F i).1 (prO F i).2 := by
        rw [eo.1]
        exact fun r => nr (dt_rch.mpr r)
      refine ⟨_, rfl, rfl, _, rfl, iteT ?_⟩
      refine ⟨_, rfl, h, dx, _, rfl, s4 _ _ hh3, flds_no _ _ _ (by decide +kernel) (by decide +kernel) (by decide +kernel), _, rfl, h, O, D, n, (i : Int), zs, F.take (i + 1), dtOf F ks, ((a, b), p), rfl, A4, by rw [dt_len]; omega, by omega, hi3, fun H5 s5 A5 => ?_⟩
      have e := dt_put (dt_new nr2)
      rw [eo.1] at e
      rw [e] at A5 ⊢
      exact q .non (ks ++ [(i : Int)]) zs _ ((kx3.trans (.of_kp (Kp.of_same (s4.trans s5)))).trans .putD) A5 (.inl ⟨nr2, rfl, rfl⟩) (tbs_putT ((tb3.same s4).same s5) (s5 _ _ A4.ld))
    have A4 := A3.same s4
    have hl := dt_ofs rk
    have ld : Leads (prs F) b a ws := num_leads hl hw.wk nm
    have nd : ws.Nodup := num_nd hl hw.nd nm
    have sub : ∀ k ∈ ws, k ∈ ks := fun k mk => by
      obtain ⟨q0, mq⟩ := num_sub nm k mk
      exact (dt_mem mq).1
    have ld' : Leads (prs F) (prO F i).2 (prO F i).1 ws := by
      rw [eo.1]
      exact ld
    have lw := nodup_le (n := F.length) nd fun k mk => rk k (sub k mk)
    have hh4 := s4 _ _ hh3
    have tb4 := tb3.same s4
    have kx4 := kx3.trans (.of_kp (Kp.of_same s4))
    refine ⟨_, rfl, rfl, _, rfl, iteF ?_⟩
    -- the dearest
    refine ⟨nv_off rfl, ?_⟩
    refine ⟨_, rfl, _, rfl, t4, _, rfl, .inl (SqT.of ht4), ?_, fun N nN => ?_⟩
    · rw [List.append_nil, List.length_cons, List.length_map]
      exact szl (by omega)
    rw [List.append_nil]
    have sN := same_new (o := .lst (((i : Int) :: ws).map V.int)) nN
    have hN : upd H4 N (.lst (((i : Int) :: ws).map V.int)) N = some (.lst (((i : Int) :: ws).map V.int)) := upd_same
    have tbN := tb4.same sN
    refine ⟨N, (i : Int) :: ws, pcO F, rfl, hN, (fun z => nomatch z), tbN.s T.mL, fun H5 but tabs => ?_⟩
    have kb := Kp.of_but (TabS.g (tbN.s T.mL)) but
    have tb5 := tbN.lam T.nd T.mL but tabs
    have A5 := (A4.same sN).kp kb
    have hN5 := kb.lst hN
    have hh5 := kb _ _ (sN _ _ hh4) (by intro ps z; cases z)
    have kx5 := kx4.trans (.of_kp ((Kp.of_same sN).trans kb))
    have ON : O ≠ N := ne_of_none A4.lo nN
    have okn : ∀ x ∈ (i : Int) :: ws, 0 ≤ x ∧ x ≤ (i : Int) ∧ ∃ o, F[x.toNat]? = some o := fun x mx => by
      rcases List.mem_cons.mp mx with rfl | mx
      · exact ⟨by omega, Int.le_refl _, _, hu2⟩
      · have z := Y.rg x (sub x mx)
        obtain ⟨o, ho, _⟩ := in_os (rk x (sub x mx)).1 (rk x (sub x mx)).2
        exact ⟨z.1, by omega, o, ho⟩
    refine ⟨fun HL keep x mx => ?_, fun m j hm best => ?_⟩
    · obtain ⟨x0, x1, o, ho⟩ := okn x mx
      obtain ⟨tp, e1, htp⟩ := A5.pa.ix x0 (at_ x o x0 x1 ho)
      have kl : ∀ b o, H5 b = some o → b ≠ N → HL b = some o := fun b o e n => keep b o n e
      refine ⟨_, rfl, h, T.C_Lightest, dx, _, _, rfl, kl _ _ hh5 (ne_of hh5 hN5 (by intro z; cases z)), T.cl_Lightest, T.na_Lightest_offers, flds_offers _ _ _, _, rfl, O, _, _, _, rfl, rfl, SqL.of (kl _ _ A5.lo ON), e1, tp, _, _, _, rfl, rfl, SqT.of (kl _ _ htp (ne_of htp hN5 (by intro z; cases z))), atI_nat (j := 2) rfl, ?_⟩
      exact ⟨by rw [(prO_at ho).2], rfl⟩
    cases j with
    | zero =>
      obtain rfl : (i : Int) = m := Option.some.inj hm
      refine ⟨_, rfl, _, rfl, rfl, _, rfl, ifF (by simp) ?_⟩
      refine ⟨_, rfl, q (.int (i : Int)) ks zs _ kx5 A5 (.inr ⟨ws, ld', nd, sub, .inl ⟨fun k mk => ?_, rfl, rfl⟩⟩) tb5⟩
      obtain ⟨x, hx⟩ := List.mem_iff_getElem?.mp mk
      exact (best (x + 1) k hx).1
    | succ j =>
      have hj : ws[j]? = some m := hm
      have mw := List.mem_of_getElem? hj
      have mk := sub m mw
      have ne : m ≠ (i : Int) := by
        have := Y.rg m mk
        omega
      have lt : pcO F i < pcO F m := (best 0 (i : Int) rfl).2 (Nat.succ_pos _)
      have de : Dear F ws m := ⟨j, hj, fun x y hy => ⟨(best (x + 1) y hy).1, fun l => (best (x + 1) y hy).2 (by omega)⟩⟩
      refine ⟨_, rfl, _, rfl, rfl, _, rfl, ifT (by simpa using ne) ?_⟩
      obtain ⟨x0, x1, o, ho⟩ := okn m (List.mem_cons_of_mem _ mw)
      have eO := (prO_at ho).1
      refine ⟨_, rfl, h, T.C_Lightest, dx, _, _, rfl, hh5, T.cl_Lightest, T.na_Lightest_by_tie, flds_tie _ _ _, ?_⟩
      refine ⟨_, rfl, h, dx, _, rfl, hh5, flds_no _ _ _ (by decide +kernel) (by decide +kernel) (by decide +kernel), _, rfl, h, O, D, n, m, zs, F.take (i + 1), dtOf F ks, o, rfl, A5, x0, at_ m o x0 x1 ho, fun t6 H6 s6 ht6 => ?_⟩
      have A6 := A5.same s6
      have un : ∀ k ∈ ks, k ≠ m → mm (prO F k) ≠ mm (prO F m) := fun k mk' ne' => dt_uniq B rk Y.nr mk mk' ne'
      rw [← eO] at ht6
      refine ⟨D, _, _, t6, rfl, A6.ld, rfl, ht6, ?_, ?_⟩
      · obtain ⟨v, hv⟩ := kvD_some (l := dtOf F ks) ((dt_keys _).mpr ⟨prO F m, List.mem_map.mpr ⟨m, mk, rfl⟩, rfl⟩)
        rw [hv]
        rfl
      rw [dt_drop (ring_nd Y.nr) mk un]
      have A7 := A6.putD (dtOf F (ks.erase m))
      have hh7 : upd H6 D (.dT (kvD (dtOf F (ks.erase m)))) h = some (.ins T.C_Lightest dx (fldsK (n : Int) O D)) := by
        rw [upd_ne A6.hD]
        exact s6 _ _ hh5
      have tb7 := tbs_putT (o := .dT (kvD (dtOf F (ks.erase m)))) (tb5.same s6) A6.ld
      have kx7 : KpX O D H (upd H6 D (.dT (kvD (dtOf F (ks.erase m))))) := (kx5.trans (.of_kp (Kp.of_same s6))).trans .putD
      generalize upd H6 D (.dT (kvD (dtOf F (ks.erase m)))) = H7 at A7 hh7 tb7 kx7 ⊢
      have lke := List.length_erase_of_mem mk
      refine ⟨_, rfl, h, dx, _, rfl, hh7, flds_no _ _ _ (by decide +kernel) (by decide +kernel) (by decide +kernel), _, rfl, h, O, D, n, (i : Int), zs, F.take (i + 1), dtOf F (ks.erase m), ((a, b), p), rfl, A7, by rw [dt_len]; omega, by omega, hi3, fun H8 s8 A8 => ?_⟩
      have nj : ¬ Rch (tiesO F (ks.erase m)) (prO F i).1 (prO F i).2 := no_join ld' nd mw (fun k mk' ne' => (List.mem_erase_of_ne ne').mpr (sub k mk')) (ring_erase B rk mk Y.nr).2
      have e := dt_put (ks := ks.erase m) (dt_new nj)
      rw [eo.1] at e
      rw [e] at A8 ⊢
      exact ⟨_, rfl, q (.int m) (ks.erase m ++ [(i : Int)]) zs _ ((kx7.trans (.of_kp (Kp.of_same s8))).trans .putD) A8 (.inr ⟨ws, ld', nd, sub, .inr ⟨m, de, lt, rfl, rfl⟩⟩) (tbs_putT (tb7.same s8) (s8 _ _ A7.ld))⟩
end

end My
namespace My
open PySem L2
/-! ### the pot of draws -/
theorem emod_small {x m j : Int} (h : 0 < m) (h2 : m < 2 ^ 64) : CMul (x % m) j := .inl ⟨by have := Int.emod_nonneg x (show m ≠ 0 by omega); omega, by have := Int.emod_lt_of_pos x h; omega⟩
theorem lay_ints : ∀ l : List Int, PyData.canLayAll0 (l.map .int) = true ∧ PyData.depthAll (l.map .int) ≤ 1
  | [] => ⟨rfl, Nat.zero_le _⟩
  | x :: r => by
    have ih := lay_ints r
    refine ⟨?_, ?_⟩
    · show (PyData.canLay0 (.int x) && PyData.canLayAll0 (r.map .int)) = true
      rw [ih.1, Bool.and_true]
      rfl
    · show max (PyData.depth (.int x)) (PyData.depthAll (r.map .int)) ≤ 1
      exact Nat.max_le.mpr ⟨Nat.zero_le _, ih.2⟩
theorem dp_intsL {K : PySem.W.Frag} {H : Hp} : ∀ l : List Int, DpAll K H (l.map V.int) (l.map PyData.int)
  | [] => .nil
  | x :: l => .cons (.int x) (dp_intsL l)
theorem shp_ints (l : List Int) : SeqAt.shaped (.list (l.map .int)) = true := by
  have h := lay_ints l
  unfold SeqAt.shaped
  rw [show PyData.canLay0 (.list (l.map .int)) = true from h.1, decide_eq_true (show PyData.depth (.list (l.map .int)) ≤ 64 by show PyData.depthAll _ + 1 ≤ 64; omega)]
  rfl
theorem eq_nilL : ∀ l : List Int, PyData.eqv (.list (l.map .int)) (.list []) = l.isEmpty
  | [] => by decide +kernel
  | x :: l => by
    show PyData.eqv (.list (.int x :: l.map .int)) (.list []) = false
    simp [PyData.eqv, PyData.eqvAll]
theorem ix0 (n : Nat) : ixN (n + 1) 0 = some 0 := by
  unfold ixN
  simp
  try omega
/-- all but b and L as it was -/
def But2 (b L : Addr) (H H' : Hp) : Prop := ∀ a o, H a = some o → a ≠ b → a ≠ L → H' a = some o
theorem But2.refl {b L : Addr} {H : Hp} : But2 b L H H := fun _ _ e _ _ => e
theorem But2.same {b L : Addr} {H H1 H2 : Hp} (k : But2 b L H H1) (s : Same H1 H2) : But2 b L H H2 := fun a o e n1 n2 => s _ _ (k a o e n1 n2)
theorem But2.trans {b L : Addr} {H H1 H2 : Hp} (k : But2 b L H H1) (g : But2 b L H1 H2) : But2 b L H H2 := fun a o e n1 n2 => g a o (k a o e n1 n2) n1 n2
theorem But2.putL {b L : Addr} {H H1 : Hp} {o : HO} (k : But2 b L H H1) : But2 b L H (upd H1 L o) := fun a x e n1 n2 => by
  rw [upd_ne n2]
  exact k a x e n1 n2
theorem But2.putB {b L : Addr} {H H1 : Hp} {o : HO} (k : But2 b L H H1) : But2 b L H (upd H1 b o) := fun a x e n1 n2 => by
  rw [upd_ne n1]
  exact k a x e n1 n2
/-- the pot: at most m times stirred -/
structure Pot (H : Hp) (b L : Addr) (ns : List Int) (tot n : Int) : Prop where
  hb : H b = some (.lst [.ref L, .int tot, .int n])
  hL : H L = some (.lst (ns.map V.int))
  ne : L ≠ b
def PotAt (H : Hp) (b L : Addr) (m : Int) : Prop := ∃ ns tot n, Pot H b L ns tot n ∧ 0 ≤ n ∧ n ≤ m
theorem Pot.same {H H' : Hp} {b L : Addr} {ns : List Int} {tot n : Int} (h : Pot H b L ns tot n) (s : Same H H') : Pot H' b L ns tot n := ⟨s _ _ h.hb, s _ _ h.hL, h.ne⟩
theorem PotAt.same {H H' : Hp} {b L : Addr} {m : Int} (h : PotAt H b L m) (s : Same H H') : PotAt H' b L m := by
  obtain ⟨ns, tot, n, h1, h2⟩ := h
  exact ⟨ns, tot, n, h1.same s, h2⟩
section
variable {P : Program} {w : World} {K : PySem.W.Frag} {mg : Str → Option Value} {base : Heap}
def spMixed : Sp := fun vs H Q _ => ∃ (c k : Int), vs = [.int c, .int k] ∧ 0 ≤ k ∧ k < 2 ^ 60 ∧ ∀ v : Int, Q (.int v) H
theorem ok_mixed (T : Top K mg) : FnOk P w K mg base CX0 1 T.a_Lmixed T.d_Lmixed ["_law_cell", "_law_k"] spMixed := by
  refine T.F_Lmixed.ok sc_Lmixed (fun vs H Q E h => ?_) (fun cdv A outer s H vs Q E hr h => ?_)
  · obtain ⟨c, k, rfl, _⟩ := h
    rfl
  · obtain ⟨c, k, rfl, k0, k1, q⟩ := h
    refine ⟨_, (pss_cons (ps_set (i := 2) sc_Lmixed.nd rfl (.inl rfl) (pe_op op_mod (pe_op op_add (pe_op op_add (pe_op op_mul (pe_op op_mod (pv 0) pe_int) (pe_op op_add pe_int (pe_op op_mul (pe_op op_mul pe_int (pv 1)) (pv 1)))) (pe_op op_mul pe_int (pv 1))) pe_int) pe_int))
      (pss_cons (ps_set (i := 2) sc_Lmixed.nd rfl (.inl rfl) (pe_op op_fdivW (pe_op op_mod (pe_op op_mul (pv 2) (pv 2)) pe_int) pe_int))
      (pss_cons (ps_set (i := 3) sc_Lmixed.nd rfl (.inl rfl) (pe_op op_mod (pe_op op_add (pe_op op_add (pe_op op_mul (pv 2) pe_int) (pe_op op_mul pe_int (pv 1))) pe_int) pe_int))
      (pss_one (ps_ret (pe_op op_fdivW (pe_op op_mod (pe_op op_mul (pv 3) (pe_op op_add (pe_op op_mod (pv 2) pe_int) pe_int)) pe_int) pe_int)))))), ?_⟩
    refine ⟨_, rfl, _, _, rfl, rfl, (by show (0 : Int) < 2147483647; decide), ?_⟩
    refine ⟨_, rfl, _, _, rfl, rfl, .inl ⟨by decide, by decide⟩, _, rfl, _, _, rfl, rfl, .inr ⟨by omega, by omega⟩, ?_⟩
    refine ⟨_, _, rfl, rfl, ?_⟩
    refine ⟨_, _, rfl, rfl, emod_small (m := 2147483647) (by decide) (by decide), ?_⟩
    refine ⟨_, rfl, _, _, rfl, rfl, .inl ⟨by decide, by decide⟩, ?_⟩
    refine ⟨_, _, rfl, rfl, ?_⟩
    refine ⟨_, _, rfl, rfl, ?_⟩
    refine ⟨_, _, rfl, rfl, (by show (0 : Int) < 2147483629; decide), ?_⟩
    refine ⟨_, rfl, _, rfl, _, _, rfl, rfl, emod_small (m := 2147483629) (by decide) (by decide), _, _, rfl, rfl, (by show (0 : Int) < 2147483587; decide), _, _, rfl, rfl, wide_ok (by decide) (by decide), ?_⟩
    refine ⟨_, rfl, _, _, rfl, rfl, .inr ⟨by decide, by decide⟩, ?_⟩
    refine ⟨_, rfl, _, _, rfl, rfl, .inl ⟨by decide, by decide⟩, ?_⟩
    refine ⟨_, _, rfl, rfl, ?_⟩
    refine ⟨_, _, rfl, rfl, ?_⟩
    refine ⟨_, _, rfl, rfl, (by show (0 : Int) < 2147483579; decide), ?_⟩
    refine ⟨_, rfl, _, rfl, ?_⟩
    refine ⟨_, _, rfl, rfl, (by show (0 : Int) < 65521; decide), ?_⟩
    refine ⟨_, _, rfl, rfl, ?_⟩
    refine ⟨_, _, rfl, rfl, emod_small (m := 2147483579) (by decide) (by decide), ?_⟩
    refine ⟨_, _, rfl, rfl, (by show (0 : Int) < 2147483563; decide), ?_⟩
    exact ⟨_, _, rfl, rfl, wide_ok (by decide) (by decide), q _⟩
def spTake : Sp := fun vs H Q _ => ∃ (b L : Addr) (m many : Int), vs = [.ref b, .int many] ∧ PotAt H b L m ∧ m < 2 ^ 50 ∧ 0 < many ∧ many < 2 ^ 90 ∧ ∀ (x : Int) (H' : Hp), 0 ≤ x → x < many → PotAt H' b L (m + 1) → But2 b L H H' → Q (.int x) H'
theorem ok_take (T : Top K mg) : FnOk P w K mg base CX0 2 T.a_Ltake T.d_Ltake ["_law_pot_here", "_law_many"] spTake := by
  have G_Lmixed : FnOk P w K mg base CX0 1 _ _ _ _ := ok_mixed T
  refine T.F_Ltake.ok sc_Ltake (fun vs H Q E h => ?_) (fun cdv A outer s H vs Q E hr h => ?_)
  · obtain ⟨b, L, m, many, rfl, _⟩ := h
    rfl
  · obtain ⟨b, L, m, many, rfl, ⟨ns, tot, n, pt, n0, nm⟩, hm, m0, m1, q⟩ := h
    refine ⟨_, (pss_cons (ps_while PassesOwn.never (PW.pt (pw_and (pt_cmpR (op_neD hr.units) (pe_ix ix_list (pv 0) pe_int (fun _ _ => rfl)) (pe_lst pa_nil) (nomark _)) (pw_and1 (pt_cmpR op_eq (pe_ix ix_list (pe_ix ix_list (pv 0) pe_int (fun _ _ => rfl)) pe_int (fun _ _ => rfl)) pe_int (nomark _))))) (pss_one (ps_expr (pe_bm PySem.F.plainAttrs_list PySem.F.slot_list_pop PySem.F.type_list_pop mt_popAt (pe_ix ix_list (pv 0) pe_int (fun _ _ => rfl)) (pa_cons pe_int pa_nil)))))
      (pss_cons (ps_if (pt_cmpR (op_neD hr.units) (pe_ix ix_list (pv 0) pe_int (fun _ _ => rfl)) (pe_lst pa_nil) (nomark _)) (pss_cons (ps_set (i := 2) sc_Ltake.nd rfl (.inl rfl) (pe_op op_mod (pe_ix ix_list (pe_ix ix_list (pv 0) pe_int (fun _ _ => rfl)) pe_int (fun _ _ => rfl)) (pv 1)))
      (pss_cons (ps_asg (pe_op op_fdivW (pe_ix ix_list (pe_ix ix_list (pv 0) pe_int (fun _ _ => rfl)) pe_int (fun _ _ => rfl)) (pv 1)) (pg_sub (pe_ix ix_list (pv 0) pe_int (fun _ _ => rfl)) pe_int set_list))
      (pss_one (ps_ret (pv 2))))) pss_nil)
      (pss_cons (ps_augS (pv 0) pe_int get_list pe_int ip_add set_list)
      (pss_one (ps_ret (pe_op op_mod (pe_call G_Lmixed hr (by rfl) T.g_Lmixed T.F_Lmixed.kp T.b_Lmixed .nil pass0 (pa_cons (pe_op op_add (pe_ix ix_list (pv 0) pe_int (fun _ _ => rfl)) (pe_op op_mul pe_int (pe_ix ix_list (pv 0) pe_int (fun _ _ => rfl)))) (pa_cons (pe_ix ix_list (pv 0) pe_int (fun _ _ => rfl)) pa_nil))) (pv 1))))))), ?_⟩
    have fin : ∀ (x : Int) (H' : Hp) (ns' : List Int) (n' : Int), Pot H' b L ns' tot n' → 0 ≤ n' → n' ≤ m + 1 → But2 b L H H' → Q (.int (x % many)) H' := fun x H' ns' n' p' h1 h2 k => q _ _ (Int.emod_nonneg x (by omega)) (Int.emod_lt_of_pos x m0) ⟨ns', tot, n', p', h1, h2⟩ k
    refine ⟨fun k σ H2 => ∃ ns, k = ns.length ∧ σ = [some (.ref b), some (.int many), none] ∧ Pot H2 b L ns tot n ∧ But2 b L H H2, ⟨ns.length, ns, rfl, rfl, pt, .refl⟩, ?_⟩
    rintro k σ H2 ⟨ns, rfl, rfl, p2, k2⟩
    refine ⟨_, rfl, b, _, _, _, rfl, rfl, SqL.of p2.hb, atI_nat (j := 0) rfl, Nat.zero_le _, fun e ne => ?_⟩
    have se := same_new (o := .lst []) ne
    have he : upd H2 e (.lst []) e = some (.lst []) := upd_same
    generalize upd H2 e (.lst []) = H3 at se he ⊢
    have p3 := p2.same se
    have k3 := k2.same se
    refine ⟨_, _, .lst (SqL.of p3.hL) (dp_intsL ns), .lst (SqL.of he) .nil, shp_ints ns, rfl, ?_⟩
    rw [eq_nilL]
    cases ns with
    | nil =>
      refine ⟨_, rfl, iteF ?_⟩
      refine iteF ?_
      refine ⟨_, rfl, b, _, _, _, rfl, rfl, SqL.of p3.hb, atI_nat (j := 0) rfl, Nat.zero_le _, fun e2 ne2 => ?_⟩
      have se2 := same_new (o := .lst []) ne2
      have he2 : upd H3 e2 (.lst []) e2 = some (.lst []) := upd_same
      generalize upd H3 e2 (.lst []) = H4 at se2 he2 ⊢
      have p4 := p3.same se2
      have k4 := k3.same se2
      refine ⟨.list [], .list [], .lst (SqL.of p4.hL) .nil, .lst (SqL.of he2) .nil, rfl, rfl, ?_⟩
      rw [show PyData.eqv (.list []) (.list []) = true by decide +kernel]
      refine ⟨_, rfl, iteF ?_⟩
      refine ⟨_, rfl, b, _, _, _, rfl, rfl, SqL.of p4.hb, atI_nat (j := 2) rfl, _, _, rfl, rfl, b, _, _, 2, rfl, rfl, p4.hb, rfl, ?_⟩
      have p5 : Pot (upd H4 b (.lst ([V.ref L, V.int tot, V.int n].set 2 (.int (n + 1))))) b L [] tot (n + 1) := ⟨upd_same, by rw [upd_ne p4.ne]; exact p4.hL, p4.ne⟩
      have k5 : But2 b L H (upd H4 b (.lst ([V.ref L, V.int tot, V.int n].set 2 (.int (n + 1))))) := k4.putB
      generalize upd H4 b (.lst ([V.ref L, V.int tot, V.int n].set 2 (.int (n + 1)))) = H5 at p5 k5 ⊢
      refine ⟨_, rfl, b, _, _, _, rfl, rfl, SqL.of p5.hb, atI_nat (j := 1) rfl, ?_⟩
      refine ⟨_, rfl, b, _, _, _, rfl, rfl, SqL.of p5.hb, atI_nat (j := 2) rfl, _, _, rfl, rfl, .inl ⟨by decide, by decide⟩, ?_⟩
      refine ⟨_, _, rfl, rfl, ?_⟩
      refine ⟨_, rfl, b, _, _, _, rfl, rfl, SqL.of p5.hb, atI_nat (j := 2) rfl, ?_⟩
      refine ⟨_, _, rfl, by omega, by omega, fun v => ?_⟩
      exact ⟨_, rfl, _, _, rfl, rfl, m0, fin _ _ _ _ p5 (by omega) (by omega) k5⟩
    | cons x r =>
      refine ⟨_, rfl, iteT ?_⟩
      refine ⟨_, rfl, b, _, _, _, rfl, rfl, SqL.of p3.hb, atI_nat (j := 0) rfl, L, _, _, _, rfl, rfl, SqL.of p3.hL, atI_nat (j := 0) rfl, rfl, _, rfl, ite2 (fun _ => ?_) (fun _ => ?_)⟩
      · refine ⟨fun σ' H' => σ' = [some (.ref b), some (.int many), none] ∧ Pot H' b L r tot n ∧ But2 b L H H', fun σ' H' z => ⟨r.length, by rw [List.length_cons]; omega, r, rfl, z.1, z.2.1, z.2.2⟩, ?_⟩
        refine ⟨_, rfl, b, _, _, _, rfl, rfl, SqL.of p3.hb, atI_nat (j := 0) rfl, .inl ⟨rfl, _, SqL.of p3.hL⟩, L, _, 0, 0, _, rfl, rfl, p3.hL, by decide, by decide, ?_, rfl, rfl, ⟨?_, upd_same, p3.ne⟩, k3.putL⟩
        · simp [seqIndex?]
        · rw [upd_ne p3.ne.symm]
          exact p3.hb
      · refine ⟨_, rfl, b, _, _, _, rfl, rfl, SqL.of p3.hb, atI_nat (j := 0) rfl, Nat.zero_le _, fun e2 ne2 => ?_⟩
        have se2 := same_new (o := .lst []) ne2
        have he2 : upd H3 e2 (.lst []) e2 = some (.lst []) := upd_same
        generalize upd H3 e2 (.lst []) = H4 at se2 he2 ⊢
        have p4 := p3.same se2
        have k4 := k3.same se2
        refine ⟨_, _, .lst (SqL.of p4.hL) (dp_intsL (x :: r)), .lst (SqL.of he2) .nil, shp_ints (x :: r), rfl, ?_⟩
        rw [eq_nilL]
        refine ⟨_, rfl, iteT ?_⟩
        refine ⟨_, rfl, b, _, _, _, rfl, rfl, SqL.of p4.hb, atI_nat (j := 0) rfl, L, _, _, _, rfl, rfl, SqL.of p4.hL, atI_nat (j := 0) rfl, _, rfl, _, _, rfl, rfl, m0, ?_⟩
        refine ⟨_, rfl, b, _, _, _, rfl, rfl, SqL.of p4.hb, atI_nat (j := 0) rfl, L, _, _, _, rfl, rfl, SqL.of p4.hL, atI_nat (j := 0) rfl, _, rfl, _, _, rfl, rfl, wide_ok m0 (by omega), ?_⟩
        refine ⟨_, rfl, b, _, _, _, rfl, rfl, SqL.of p4.hb, atI_nat (j := 0) rfl, L, _, 0, 0, rfl, rfl, p4.hL, (by rw [List.length_map, List.length_cons]; exact ix0 _), ?_⟩
        exact ⟨_, rfl, fin x _ ((x / many) :: r) n ⟨by rw [upd_ne p4.ne.symm]; exact p4.hb, upd_same, p4.ne⟩ n0 (by omega) k4.putL⟩
def spPot (K : PySem.W.Frag) : Sp := fun vs H Q _ => ∃ (a : Addr) (ns : List Int), vs = [.ref a] ∧ SqL K H a (ns.map V.int) ∧ ∀ (b L : Addr) (H' : Hp), Same H H' → H b = none → H L = none → PotAt H' b L 0 → Q (.ref b) H'
theorem ok_pot (T : Top K mg) : FnOk P w K mg base CX0 1 T.a_Lpot T.d_Lpot ["_law_script"] (spPot K) := by
  refine T.F_Lpot.ok sc_Lpot (fun vs H Q E h => ?_) (fun cdv A outer s H vs Q E hr h => ?_)
  · obtain ⟨a, ns, rfl, _⟩ := h
    rfl
  · obtain ⟨a, ns, rfl, hS, q⟩ := h
    refine ⟨_, (pss_cons (ps_set (i := 1) sc_Lpot.nd rfl (.inl rfl) pe_int)
      (pss_cons (ps_for PassesOwn.never rfl (pi_enum (by rfl) T.m_enumerate (pa_cons (pe_slice sl_list (pv 0) po_none (po_some pe_int)) pa_nil)) (pg_tup rfl (pgs_cons (pg_name (i := 2) sc_Lpot.nd rfl (.inl rfl)) (pgs_cons (pg_name (i := 3) sc_Lpot.nd rfl (.inl rfl)) pgs_nil))) (pss_one (ps_set (i := 1) sc_Lpot.nd rfl (.inl rfl) (pe_op op_mod (pe_op op_add (pe_op op_add (pe_op op_add (pe_op op_mul (pv 1) pe_int) (pv 3)) (pe_op op_mul pe_int (pv 2))) pe_int) (pe_op op_add (pe_op op_pow pe_int pe_int) pe_int)))))
      (pss_one (ps_ret (pe_lst (pa_cons (pe_lc (own := [("_law_cell", 3)]) (g := gName 3) (by rfl) sc_Lpot.nd (pi_list (pe_slice sl_list (pv 0) po_none (po_some pe_int))) (blkOk_by (own := [("_law_cell", 3)]) (N := ["_law_script", "_law_total", "_law_k", "_law_cell"]) (sc := defScope s_Lpot) (by decide +kernel)) (fun _ _ _ _ _ => (pg_name (i := 3) sc_Lpot.nd rfl (.inl rfl))) (fun _ _ _ _ _ => (pts_one (pt_cmpR op_ge (pe_callB call_abs (by rfl) T.m_abs (by decide +kernel) (pa_cons (pv 3) pa_nil)) (pe_op op_pow pe_int pe_int) (nomark _)))) (fun _ _ _ _ _ => (pe_callB call_abs (by rfl) T.m_abs (by decide +kernel) (pa_cons (pv 3) pa_nil)))) (pa_cons (pv 1) (pa_cons pe_int pa_nil)))))))), ?_⟩
    have hints : ∀ v ∈ cutV (ns.map V.int) none (some 63), ∃ c, v = .int c := fun v m => by
      have m : v ∈ ns.map V.int := by
        unfold cutV at m
        exact List.mem_of_mem_drop (List.mem_of_mem_take m)
      obtain ⟨c, _, rfl⟩ := List.mem_map.mp m
      exact ⟨c, rfl⟩
    have cl : (cutV (ns.map V.int) none (some 63)).length ≤ 63 := by
      unfold cutV
      rw [List.length_take]
      have : HT.sIx (ns.map V.int).length (ns.map V.int).length (some 63) ≤ 63 := by
        rw [show (63 : Int) = ((63 : Nat) : Int) from rfl, HT.sIx_nat]
        omega
      omega
    refine ⟨_, rfl, 63, rfl, a, _, rfl, hS, fun p np => ?_⟩
    have sp := same_new (o := .lst (cutV (ns.map V.int) none (some 63))) np
    have hp : upd H p (.lst (cutV (ns.map V.int) none (some 63))) p = some (.lst (cutV (ns.map V.int) none (some 63))) := upd_same
    generalize upd H p (.lst (cutV (ns.map V.int) none (some 63))) = H1 at sp hp ⊢
    refine ⟨p, _, rfl, SqL.of hp, for_it walk_enum (fun i σ H2 => ∃ (t : Int) (y2 y3 : Option V), σ = [some (.ref a), some (.int t), y2, y3] ∧ Same H1 H2) ⟨0, none, none, rfl, fun _ _ e => e⟩ (fun i σ H2 _ z => by obtain ⟨_, _, _, _, z⟩ := z; exact SqL.of (z _ _ hp)) ?_ ?_⟩
    · rintro i v σ H2 H3 hi ⟨t, y2, y3, rfl, s2⟩ ⟨T0, x, y, rfl, nT, rfl, hx, hy⟩
      dsimp only at hx hy
      obtain ⟨c, rfl⟩ := hints y (List.mem_of_getElem? hy)
      obtain rfl : V.int (i : Int) = x := Option.some.inj hx
      have sT := same_new (o := .tup [V.int (i : Int), V.int c]) nT
      refine ⟨T0, _, rfl, SqT.of upd_same, rfl, _, _, rfl, _, _, rfl, rfl, ?_⟩
      refine ⟨_, rfl, _, _, rfl, rfl, .inr ⟨by decide, by decide⟩, ?_⟩
      refine ⟨_, rfl, _, _, rfl, rfl, ?_⟩
      refine ⟨_, rfl, _, _, rfl, rfl, .inl ⟨by decide, by decide⟩, ?_⟩
      refine ⟨_, _, rfl, rfl, ?_⟩
      refine ⟨_, _, rfl, rfl, ?_⟩
      refine ⟨_, _, rfl, rfl, ⟨by decide, by decide, by decide⟩, ?_⟩
      refine ⟨_, _, rfl, rfl, ?_⟩
      exact ⟨_, _, rfl, rfl, (by show (0 : Int) < 10 ^ (18 : Int).toNat + 9; decide +kernel), _, _, _, rfl, s2.trans sT⟩
    · rintro σ H2 ⟨t, y2, y3, rfl, s2⟩
      refine ⟨_, rfl, 63, rfl, a, _, rfl, (sp.trans s2).seq hS, fun p2 np2 => ?_⟩
      have sp2 := same_new (o := .lst (cutV (ns.map V.int) none (some 63))) np2
      have hp2 : upd H2 p2 (.lst (cutV (ns.map V.int) none (some 63))) p2 = some (.lst (cutV (ns.map V.int) none (some 63))) := upd_same
      generalize upd H2 p2 (.lst (cutV (ns.map V.int) none (some 63))) = H3 at sp2 hp2 ⊢
      have s03 : Same H H3 := (sp.trans s2).trans sp2
      refine ⟨p2, rfl, ⟨_, SqL.of hp2⟩, fun D nD => ?_⟩
      refine lc_list (xs := cutV (ns.map V.int) none (some 63)) (fun i H4 => Same H3 H4 ∧ ∃ ms : List Int, H4 D = some (.lst (ms.map V.int)) ∧ ms.length ≤ i) ⟨same_new nD, [], upd_same, Nat.le_refl _⟩ (fun i H4 _ z => SqL.of (z.1 _ _ hp2)) ?_ ?_
      · rintro i v H4 hv ⟨s4, ms, hD, lm⟩
        obtain ⟨c, rfl⟩ := hints v (List.mem_of_getElem? hv)
        have hi := (List.getElem?_eq_some_iff.mp hv).1
        refine ⟨rfl, _, rfl, _, rfl, ?_⟩
        refine ⟨_, _, rfl, rfl, ⟨by decide, by decide, by decide⟩, ?_⟩
        refine ⟨_, _, rfl, rfl, _, rfl, ite2 (fun _ => ?_) (fun _ => ⟨s4, ms, hD, by omega⟩)⟩
        refine ⟨_, rfl, _, rfl, _, hD, szl (by rw [List.length_map]; omega), ?_, ms ++ [if c < 0 then -c else c], ?_, by rw [List.length_append]; show ms.length + 1 ≤ i + 1; omega⟩
        · intro b o e
          rw [upd_ne (ne_of_none e nD)]
          exact s4 _ _ e
        · rw [upd_same, List.map_append]
          rfl
      · rintro H4 ⟨s4, ms, hD, lm⟩
        refine ⟨_, rfl, (by show 3 ≤ sizeLine; decide), fun b nb => ?_⟩
        have sb := same_new (o := .lst [.ref D, .int t, .int 0]) nb
        have s0 : Same H (upd H4 b (.lst [.ref D, .int t, .int 0])) := s03.trans (s4.trans sb)
        have none_of : ∀ {X : Hp} {c : Addr}, Same H X → X c = none → H c = none := fun {X c} sx n => by
          cases e : H c with
          | none => rfl
          | some o =>
            rw [sx _ _ e] at n
            cases n
        refine q b D _ s0 (none_of (s03.trans s4) nb) (none_of s03 nD) ⟨ms, t, 0, ⟨upd_same, sb _ _ hD, ?_⟩, Int.le_refl _, Int.le_refl _⟩
        intro e
        rw [← e, hD] at nb
        cases nb
end

end My
namespace My
open PySem L2
/-! ### offers drawn -/
def td3 (t : O3) : PyData := .tuple [.int t.1.1, .int t.1.2, .int t.2]
theorem OAll.dp {K : PySem.W.Frag} {H : Hp} : ∀ {vs : List V} {ts : O3s}, OAll H vs ts → DpAll K H vs (ts.map td3)
  | _, _, .nil => .nil
  | _, _, .cons h k => .cons (.tup (SqT.of h) (.cons (.int _) (.cons (.int _) (.cons (.int _) .nil)))) k.dp
theorem lay_td3 : ∀ ts : O3s, PyData.canLayAll0 (ts.map td3) = true ∧ PyData.depthAll (ts.map td3) ≤ 1
  | [] => ⟨rfl, Nat.zero_le _⟩
  | t :: r => by
    have ih := lay_td3 r
    obtain ⟨⟨a, b⟩, c⟩ := t
    refine ⟨?_, ?_⟩
    · show (PyData.canLay0 (td3 ((a, b), c)) && PyData.canLayAll0 (r.map td3)) = true
      rw [ih.1, Bool.and_true]
      rfl
    · show max (PyData.depth (td3 ((a, b), c))) (PyData.depthAll (r.map td3)) ≤ 1
      exact Nat.max_le.mpr ⟨Nat.le_refl _, ih.2⟩
theorem shp_td3 (ts : O3s) : SeqAt.shaped (.list (ts.map td3)) = true := by
  obtain ⟨h1, h2⟩ := lay_td3 ts
  show (PyData.canLayAll0 (ts.map td3) && decide (PyData.depthAll (ts.map td3) + 1 ≤ 64)) = true
  rw [h1, decide_eq_true (show PyData.depthAll (ts.map td3) + 1 ≤ 64 by omega)]
  rfl
theorem eq_nil3 : ∀ l : O3s, PyData.eqv (.list (l.map td3)) (.list []) = l.isEmpty
  | [] => by decide +kernel
  | x :: l => by
    show PyData.eqv (.list (td3 x :: l.map td3)) (.list []) = false
    simp [PyData.eqv, PyData.eqvAll]
theorem pick2 {u v x : Int} (h0 : 0 ≤ x) (h1 : x < 4) : ∃ w, atI [V.int u, V.int v] (x / 3) = some (.int w) ∧ (w = u ∨ w = v) := by
  have hc : x / 3 = 0 ∨ x / 3 = 1 := by omega
  rcases hc with e | e
  · rw [e]
    exact ⟨u, rfl, .inl rfl⟩
  · rw [e]
    exact ⟨v, rfl, .inr rfl⟩
section
variable {H H' : Hp} {b L p : Addr} {m : Int}
theorem PotAt.le {m' : Int} (h : PotAt H b L m) (l : m ≤ m') : PotAt H b L m' := by
  obtain ⟨ns, tot, n, p, h1, h2⟩ := h
  exact ⟨ns, tot, n, p, h1, by omega⟩
theorem PotAt.kp (h : PotAt H b L m) (k : Kp H H') : PotAt H' b L m := by
  obtain ⟨ns, tot, n, p, hn⟩ := h
  exact ⟨ns, tot, n, ⟨k _ _ p.hb (by intro ps z; cases z), k _ _ p.hL (by intro ps z; cases z), p.ne⟩, hn⟩
theorem PotAt.ne (h : PotAt H b L m) (n : H p = none) : p ≠ b ∧ p ≠ L := by
  obtain ⟨ns, tot, k, q, _⟩ := h
  exact ⟨(ne_of_none q.hb n).symm, (ne_of_none q.hL n).symm⟩
theorem PotAt.put {o : HO} (h : PotAt H b L m) (n1 : p ≠ b) (n2 : p ≠ L) : PotAt (upd H p o) b L m := by
  obtain ⟨ns, tot, n, q, hn⟩ := h
  exact ⟨ns, tot, n, ⟨by rw [upd_ne n1.symm]; exact q.hb, by rw [upd_ne n2.symm]; exact q.hL, q.ne⟩, hn⟩
theorem But2.tup (k : But2 b L H H') (P : PotAt H b L m) {xs : List V} (h : H p = some (.tup xs)) : H' p = some (.tup xs) := by
  obtain ⟨ns, tot, n, q, _⟩ := P
  exact k _ _ h (ne_of h q.hb (by intro z; cases z)) (ne_of h q.hL (by intro z; cases z))
theorem But2.of_same (s : Same H H') : But2 b L H H' := fun a o e _ _ => s a o e
theorem But2.put {H1 : Hp} {D : Addr} {o : HO} (k : But2 b L H H1) (n : H D = none) : But2 b L H (upd H1 D o) := fun a x e n1 n2 => by
  rw [upd_ne (ne_of_none e n)]
  exact k a x e n1 n2
theorem OAll.but2 (k : But2 b L H H') (P : PotAt H b L m) {vs : List V} {ts : O3s} (h : OAll H vs ts) : OAll H' vs ts := h.mono fun _ _ _ _ e => k.tup P e
theorem NAll.but2 (k : But2 b L H H') (P : PotAt H b L m) {vs : List V} {ts : List NR} (h : NAll H vs ts) : NAll H' vs ts := h.mono fun _ _ e => k.tup P e
end
theorem pick4 {x : Int} (h0 : 0 ≤ x) (h1 : x < 4) : ∃ w, atI [V.int 3, V.int 7, V.int 100, V.int (10 ^ (18 : Int).toNat)] x = some (.int w) ∧ 0 < w ∧ w < 2 ^ 90 := by
  have hc : x = 0 ∨ x = 1 ∨ x = 2 ∨ x = 3 := by omega
  rcases hc with e | e | e | e <;> subst e
  · exact ⟨3, rfl, by decide, by decide⟩
  · exact ⟨7, rfl, by decide, by decide⟩
  · exact ⟨100, rfl, by decide, by decide⟩
  · exact ⟨_, rfl, by decide, by decide⟩
def spOffers : Sp := fun vs H Q _ => ∃ (b L : Addr) (m : Int), vs = [.ref b] ∧ PotAt H b L m ∧ m < 2 ^ 40 ∧ ∀ (f D : Addr) (vs : List V) (os : O3s) (n : Nat) (H' : Hp), PotAt H' b L (m + 400) → But2 b L H H' → H' f = some (.tup [.int (n : Int), .ref D]) → H' D = some (.lst vs) → D ≠ b → D ≠ L → OAll H' vs os → 1 ≤ n → n ≤ 40 → os.length ≤ 63 → BdO os n → (∀ t ∈ os, 0 ≤ t.2 ∧ t.2 < 2 ^ 90) → Q (.ref f) H'
section
variable {P : Program} {w : World} {K : PySem.W.Frag} {mg : Str → Option Value} {base : Heap}
theorem ok_offers (T : Top K mg) : FnOk P w K mg base CX0 3 T.a_Loffers T.d_Loffers ["_law_pot_here"] spOffers := by
  have G_Ltake : FnOk P w K mg base CX0 2 _ _ _ _ := ok_take T
  refine T.F_Loffers.ok sc_Loffers (fun vs H Q E h => ?_) (fun cdv A outer s H vs Q E hr h => ?_)
  · obtain ⟨b, L, m, rfl, _⟩ := h
    rfl
  · obtain ⟨b, L, m, rfl, P0, mm, q⟩ := h
    refine ⟨_, (pss_cons (ps_set (i := 1) sc_Loffers.nd rfl (.inl rfl) (pe_ix ix_list (pe_lst (pa_cons (pe_op op_add pe_int (pe_call G_Ltake hr (by rfl) T.g_Ltake T.F_Ltake.kp T.b_Ltake .nil pass0 (pa_cons (pv 0) (pa_cons pe_int pa_nil)))) (pa_cons (pe_op op_add pe_int (pe_call G_Ltake hr (by rfl) T.g_Ltake T.F_Ltake.kp T.b_Ltake .nil pass0 (pa_cons (pv 0) (pa_cons pe_int pa_nil)))) pa_nil))) (pe_op op_fdivW (pe_call G_Ltake hr (by rfl) T.g_Ltake T.F_Ltake.kp T.b_Ltake .nil pass0 (pa_cons (pv 0) (pa_cons pe_int pa_nil))) pe_int) (fun _ _ => rfl)))
      (pss_cons (ps_set (i := 2) sc_Loffers.nd rfl (.inl rfl) (pe_ix ix_list (pe_lst (pa_cons (pe_call G_Ltake hr (by rfl) T.g_Ltake T.F_Ltake.kp T.b_Ltake .nil pass0 (pa_cons (pv 0) (pa_cons pe_int pa_nil))) (pa_cons (pe_call G_Ltake hr (by rfl) T.g_Ltake T.F_Ltake.kp T.b_Ltake .nil pass0 (pa_cons (pv 0) (pa_cons pe_int pa_nil))) pa_nil))) (pe_op op_fdivW (pe_call G_Ltake hr (by rfl) T.g_Ltake T.F_Ltake.kp T.b_Ltake .nil pass0 (pa_cons (pv 0) (pa_cons pe_int pa_nil))) pe_int) (fun _ _ => rfl)))
      (pss_cons (ps_set (i := 3) sc_Loffers.nd rfl (.inl rfl) (pe_ix ix_list (pe_lst (pa_cons pe_int (pa_cons pe_int (pa_cons pe_int (pa_cons (pe_op op_pow pe_int pe_int) pa_nil))))) (pe_call G_Ltake hr (by rfl) T.g_Ltake T.F_Ltake.kp T.b_Ltake .nil pass0 (pa_cons (pv 0) (pa_cons pe_int pa_nil))) (fun _ _ => rfl)))
      (pss_cons (ps_set (i := 4) sc_Loffers.nd rfl (.inl rfl) (pe_lst pa_nil))
      (pss_cons (ps_for PassesOwn.never rfl (pi_range1 (by rfl) T.m_range (pa_cons (pv 2) pa_nil)) (pg_name (i := 5) sc_Loffers.nd rfl (.inl rfl)) (pss_cons (ps_par (i := 6) (j := 7) (by rfl) sc_Loffers.nd rfl rfl (by decide) rfl rfl (pa_cons (pe_call G_Ltake hr (by rfl) T.g_Ltake T.F_Ltake.kp T.b_Ltake .nil pass0 (pa_cons (pv 0) (pa_cons (pv 1) pa_nil))) (pa_cons (pe_call G_Ltake hr (by rfl) T.g_Ltake T.F_Ltake.kp T.b_Ltake .nil pass0 (pa_cons (pv 0) (pa_cons (pv 1) pa_nil))) pa_nil)) (by rfl))
      (pss_cons (ps_mid (ps_if (PW.pt (pw_and (pt_cmpR (op_neD hr.units) (pv 4) (pe_lst pa_nil) (nomark _)) (pw_and1 (pt_cmpR op_eq (pe_call G_Ltake hr (by rfl) T.g_Ltake T.F_Ltake.kp T.b_Ltake .nil pass0 (pa_cons (pv 0) (pa_cons pe_int pa_nil))) pe_int (nomark _))))) (pss_one (ps_asg (pe_revT (pe_slice sl_tupA (pe_ix ix_list (pv 4) (pe_call G_Ltake hr (by rfl) T.g_Ltake T.F_Ltake.kp T.b_Ltake .nil pass0 (pa_cons (pv 0) (pa_cons (pe_callB call_len_seq (by rfl) T.m_len PySem.boot_len (pa_cons (pv 4) pa_nil)) pa_nil))) (fun _ _ => rfl)) po_none (po_some pe_int))) (pg_tup rfl (pgs_cons (pg_name (i := 6) sc_Loffers.nd rfl (.inl rfl)) (pgs_cons (pg_name (i := 7) sc_Loffers.nd rfl (.inl rfl)) pgs_nil))))) pss_nil))
      (pss_one (ps_expr (pe_bm PySem.F.plainAttrs_list PySem.F.slot_list_append PySem.F.type_list_append mt_append (pv 4) (pa_cons (pe_tup (pa_cons (pv 6) (pa_cons (pv 7) (pa_cons (pe_call G_Ltake hr (by rfl) T.g_Ltake T.F_Ltake.kp T.b_Ltake .nil pass0 (pa_cons (pv 0) (pa_cons (pv 3) pa_nil))) pa_nil)))) pa_nil)))))))
      (pss_one (ps_ret (pe_tup (pa_cons (pv 1) (pa_cons (pv 4) pa_nil)))))))))), ?_⟩
    refine ⟨_, rfl, b, L, m, 9, rfl, P0, by omega, by decide, by decide, fun x1 H1 a1 c1 P1 k1 => ⟨_, _, rfl, rfl, ?_⟩⟩
    refine ⟨_, rfl, b, L, m + 1, 40, rfl, P1, by omega, by decide, by decide, fun x2 H2 a2 c2 P2 k2 => ⟨_, _, rfl, rfl, (by show 2 ≤ sizeLine; decide), fun p np => ?_⟩⟩
    have sp := same_new (o := .lst [V.int (1 + x1), V.int (1 + x2)]) np
    have hp : upd H2 p (.lst [V.int (1 + x1), V.int (1 + x2)]) p = some (.lst [V.int (1 + x1), V.int (1 + x2)]) := upd_same
    obtain ⟨e1, e2⟩ := P2.ne np
    have P2 := P2.same sp
    generalize upd H2 p (.lst [V.int (1 + x1), V.int (1 + x2)]) = H2' at sp hp P2 ⊢
    refine ⟨_, rfl, b, L, _, 4, rfl, P2, by omega, by decide, by decide, fun x3 H3 a3 c3 P3 k3 => ⟨_, _, rfl, rfl, wide_ok (by decide) (by decide), ?_⟩⟩
    obtain ⟨n, hn, hn2⟩ := pick2 (u := 1 + x1) (v := 1 + x2) a3 c3
    have n1 : 1 ≤ n := by rcases hn2 with e | e <;> omega
    have n40 : n ≤ 40 := by rcases hn2 with e | e <;> omega
    refine ⟨p, _, _, _, rfl, rfl, SqL.of (k3 _ _ hp e1 e2), hn, ?_⟩
    have k13 : But2 b L H H3 := ((k1.trans k2).same sp).trans k3
    clear hn2 hn hp sp k1 k2 k3 P1 P2 e1 e2 np
    -- how many
    refine ⟨_, rfl, b, L, _, 16, rfl, P3, by omega, by decide, by decide, fun x4 H4 a4 c4 P4 k4 => ?_⟩
    refine ⟨_, rfl, b, L, _, 64, rfl, P4, by omega, by decide, by decide, fun x5 H5 a5 c5 P5 k5 => ⟨(by show 2 ≤ sizeLine; decide), fun p np => ?_⟩⟩
    have sp := same_new (o := .lst [V.int x4, V.int x5]) np
    have hp : upd H5 p (.lst [V.int x4, V.int x5]) p = some (.lst [V.int x4, V.int x5]) := upd_same
    obtain ⟨e1, e2⟩ := P5.ne np
    have P5 := P5.same sp
    generalize upd H5 p (.lst [V.int x4, V.int x5]) = H5' at sp hp P5 ⊢
    refine ⟨_, rfl, b, L, _, 4, rfl, P5, by omega, by decide, by decide, fun x6 H6 a6 c6 P6 k6 => ⟨_, _, rfl, rfl, wide_ok (by decide) (by decide), ?_⟩⟩
    obtain ⟨z, hz, hz2⟩ := pick2 (u := x4) (v := x5) a6 c6
    have z0 : 0 ≤ z := by rcases hz2 with e | e <;> omega
    have z63 : z ≤ 63 := by rcases hz2 with e | e <;> omega
    refine ⟨p, _, _, _, rfl, rfl, SqL.of (k6 _ _ hp e1 e2), hz, ?_⟩
    have k16 : But2 b L H H6 := ((k13.trans (k4.trans k5)).same sp).trans k6
    clear hz2 hz hp sp k4 k5 k6 P3 P4 P5 e1 e2 np k13
    -- how dear
    refine ⟨_, _, rfl, rfl, ⟨by decide, by decide, by decide⟩, ?_⟩
    refine ⟨(by show 4 ≤ sizeLine; decide), fun p np => ?_⟩
    have hp0 : ∃ H7, H7 = upd H6 p (.lst [V.int 3, V.int 7, V.int 100, V.int (10 ^ (18 : Int).toNat)]) := ⟨_, rfl⟩
    have sp := same_new (o := .lst [V.int 3, V.int 7, V.int 100, V.int (10 ^ (18 : Int).toNat)]) np
    have hp : upd H6 p (.lst [V.int 3, V.int 7, V.int 100, V.int (10 ^ (18 : Int).toNat)]) p = some (.lst [V.int 3, V.int 7, V.int 100, V.int (10 ^ (18 : Int).toNat)]) := upd_same
    obtain ⟨e1, e2⟩ := P6.ne np
    have P6 := P6.same sp
    have k16 := k16.same sp
    generalize upd H6 p (.lst [V.int 3, V.int 7, V.int 100, V.int (10 ^ (18 : Int).toNat)]) = H6' at sp hp P6 k16 ⊢
    refine ⟨_, rfl, b, L, _, 4, rfl, P6, by omega, by decide, by decide, fun x7 H6 a7 c7 P6b k7 => ?_⟩
    obtain ⟨far, hfar, f0, f1⟩ := pick4 a7 c7
    refine ⟨p, _, _, _, rfl, rfl, SqL.of (k7 _ _ hp e1 e2), hfar, ?_⟩
    have k16 := k16.trans k7
    have P6 := P6b
    clear hfar hp0 hp sp P6b k7 e1 e2 np a7 c7
    refine ⟨Nat.zero_le _, fun D nD => ?_⟩
    obtain ⟨d1, d2⟩ := P6.ne nD
    have nDH : H D = none := by
      cases e : H D with
      | none => rfl
      | some o =>
        rw [k16 _ _ e d1 d2] at nD
        cases nD
    have sD := same_new (o := .lst ([] : List V)) nD
    have hD : upd H6 D (.lst ([] : List V)) D = some (.lst []) := upd_same
    have P7 := (P6.same sD).le (m' := m + 7) (by omega)
    have k17 := k16.same sD
    generalize upd H6 D (.lst ([] : List V)) = H7 at sD hD P7 k17 ⊢
    refine ⟨_, rfl, _, rfl, by omega, by omega, for_range (lo := 0) (n := z.toNat) (fun i σ G => ∃ (vs : List V) (os : O3s) (y5 y6 y7 : Option V), σ = [some (.ref b), some (.int n), some (.int z), some (.int far), some (.ref D), y5, y6, y7] ∧ PotAt G b L (m + 7 + 5 * (i : Int)) ∧ G D = some (.lst vs) ∧ OAll G vs os ∧ os.length = i ∧ (∀ t ∈ os, 0 ≤ t.1.1 ∧ t.1.1 < n ∧ 0 ≤ t.1.2 ∧ t.1.2 < n ∧ 0 ≤ t.2 ∧ t.2 < 2 ^ 90) ∧ But2 b L H G) ⟨[], [], none, none, none, rfl, P7.le (by omega), hD, .nil, rfl, (fun t z => nomatch z), k17⟩ ?_ ?_⟩
    · rintro i σ G hi ⟨vs, os, y5, y6, y7, rfl, Pg, hDg, pa, lo, bd, kg⟩
      have ly := pa.length
      refine ⟨_, rfl, _, rfl, b, L, _, n, rfl, Pg, by omega, by omega, by omega, fun a G1 a0 a1 Pg1 g1 => ?_⟩
      refine ⟨_, rfl, _, rfl, b, L, _, n, rfl, Pg1, by omega, by omega, by omega, fun c G2 b0 b1 Pg2 g2 => ⟨_, _, rfl, ?_⟩⟩
      have g12 := g1.trans g2
      have hD2 := g12 _ _ hDg d1 d2
      have pa2 := pa.but2 g12 Pg
      refine ⟨fun σ' G' => ∃ a c : Int, σ' = [some (.ref b), some (.int n), some (.int z), some (.int far), some (.ref D), some (.int (0 + (i : Int))), some (.int a), some (.int c)] ∧ 0 ≤ a ∧ a < n ∧ 0 ≤ c ∧ c < n ∧ PotAt G' b L (m + 7 + 5 * (i : Int) + 4) ∧ G' D = some (.lst vs) ∧ OAll G' vs os ∧ But2 b L H G', ?_, ?_⟩
      · refine ⟨_, rfl, Nat.zero_le _, fun e ne => ?_⟩
        have se := same_new (o := .lst ([] : List V)) ne
        have he : upd G2 e (.lst ([] : List V)) e = some (.lst []) := upd_same
        have Pg3 := Pg2.same se
        have hD3 := se _ _ hD2
        have pa3 := pa2.same se
        have kg3 := (kg.trans g12).same se
        generalize upd G2 e (.lst ([] : List V)) = G3 at se he Pg3 hD3 pa3 kg3 ⊢
        refine ⟨_, _, .lst (SqL.of hD3) pa3.dp, .lst (SqL.of he) .nil, shp_td3 os, rfl, ?_⟩
        rw [eq_nil3]
        cases os with
        | nil => exact ⟨_, rfl, iteF (iteF ⟨a, c, rfl, a0, a1, b0, b1, Pg3.le (by omega), hD3, pa3, kg3⟩)⟩
        | cons o1 or =>
        refine ⟨_, rfl, iteT ?_⟩
        refine ⟨_, rfl, b, L, _, 6, rfl, Pg3, by omega, by decide, by decide, fun x G4 x0 x1' Pg4 g4 => ⟨rfl, _, rfl, ?_⟩⟩
        have hD4 := g4 _ _ hD3 d1 d2
        have pa4 := pa3.but2 g4 Pg3
        refine ite2 (fun _ => ?_) (fun _ => ⟨a, c, rfl, a0, a1, b0, b1, Pg4.le (by omega), hD4, pa4, kg3.trans g4⟩)
        have lv : (vs.length : Int) = ((o1 :: or).length : Nat) := by omega
        rw [List.length_cons] at lo lv
        refine ⟨_, rfl, _, rfl, _, rfl, D, _, rfl, .inl (SqL.of hD4), b, L, _, (vs.length : Int), rfl, Pg4, by omega, by omega, by omega, fun x G5 x50 x51 Pg5 g5 => ?_⟩
        have hD5 := g5 _ _ hD4 d1 d2
        have pa5 := pa4.but2 g5 Pg4
        have hu : (o1 :: or)[x.toNat]? = some (o1 :: or)[x.toNat] := List.getElem?_eq_getElem (by rw [List.length_cons]; omega)
        have bu := bd _ (List.mem_of_getElem? hu)
        generalize (o1 :: or)[x.toNat] = u at hu bu
        obtain ⟨tp, e1, htp⟩ := pa5.ix x50 hu
        refine ⟨D, _, _, _, rfl, rfl, SqL.of hD5, e1, 2, rfl, slA rfl htp fun p2 G6 s6 hp2 => ?_⟩
        have hp2 : G6 p2 = some (.tup [V.int u.1.1, V.int u.1.2]) := hp2
        refine ⟨p2, _, rfl, SqT.of hp2, fun r nr => ?_⟩
        have sr := s6.trans (same_new (o := .tup [V.int u.1.1, V.int u.1.2].reverse) nr)
        refine ⟨r, [.int u.1.2, .int u.1.1], rfl, SqT.of upd_same, rfl, _, _, rfl, _, _, rfl, rfl, ?_⟩
        exact ⟨u.1.2, u.1.1, rfl, bu.2.2.1, bu.2.2.2.1, bu.1, bu.2.1, (Pg5.same sr).le (by omega), sr _ _ hD5, pa5.same sr, ((kg3.trans g4).trans g5).same sr⟩
      clear y5 y6 y7 Pg Pg1 Pg2 hDg hD2 pa pa2 g1 g2 g12 a0 a1 b0 b1 a c kg
      rintro σ' G3 ⟨a, c, rfl, a0, a1, c0, c1, Pg3, hD3, pa3, kg3⟩
      refine ⟨_, rfl, .inl ⟨rfl, _, SqL.of hD3⟩, _, rfl, _, rfl, _, rfl, _, rfl, b, L, _, far, rfl, Pg3, by omega, f0, f1, fun pz G4 pz0 pz1 Pg4 g4 => ⟨(by show 3 ≤ sizeLine; decide), fun t nt => ?_⟩⟩
      have hD4 := g4 _ _ hD3 d1 d2
      have pa4 := pa3.but2 g4 Pg3
      have kg4 := kg3.trans g4
      have st := same_new (o := .tup [V.int a, V.int c, V.int pz]) nt
      have ht : upd G4 t (.tup [V.int a, V.int c, V.int pz]) t = some (.tup [V.int a, V.int c, V.int pz]) := upd_same
      have hD5 := st _ _ hD4
      have Pg5 := Pg4.same st
      have pa5 := pa4.same st
      have kg5 := kg4.same st
      generalize upd G4 t (.tup [V.int a, V.int c, V.int pz]) = G5 at st ht hD5 Pg5 pa5 kg5 ⊢
      refine ⟨D, _, _, rfl, rfl, hD5, szl (by omega), ?_⟩
      refine ⟨vs ++ [.ref t], os ++ [((a, c), pz)], _, _, _, rfl, (Pg5.put d1 d2).le (by omega), upd_same, (OAll.snoc ht pa5).put hD5, by rw [List.length_append, lo]; rfl, fun u mu => ?_, kg5.put nDH⟩
      rcases List.mem_append.mp mu with mu | mu
      · exact bd u mu
      · rw [List.mem_singleton.mp mu]
        exact ⟨a0, a1, c0, c1, pz0, by show pz < 2 ^ 90; omega⟩
    · rintro σ G ⟨vs, os, y5, y6, y7, rfl, Pg, hDg, pa, lo, bd, kg⟩
      refine ⟨_, rfl, _, rfl, (by show 2 ≤ sizeLine; decide), fun f nf => ?_⟩
      have sf := same_new (o := .tup [V.int n, V.ref D]) nf
      obtain ⟨n', rfl⟩ : ∃ k : Nat, n = (k : Int) := ⟨n.toNat, by omega⟩
      exact q f D vs os n' _ ((Pg.same sf).le (by omega)) (kg.same sf) upd_same (sf _ _ hDg) d1 d2 (pa.same sf) (by omega) (by omega) (by omega) (fun t mt => (by have := bd t mt; omega)) fun t mt => (bd t mt).2.2.2.2
end

end My
namespace My
open PySem L2
/-! ### isinstance within a suite -/
theorem call_isCK {X : Cx} {K : PySem.W.Frag} (hK : X.K = K) : CallR X (.builtin "isinstance") (rIsC K) := by
  subst hK
  exact call_isC
/-! ### what is kept, as a set -/
theorem rising_nd {ns ys : List Int} (nd : ns.Nodup) (pm : ys.Perm ns) (srt : ys.Pairwise (· ≤ ·)) : ys.Pairwise (· < ·) := by
  have nd2 : ys.Nodup := pm.nodup_iff.mpr nd
  exact (srt.and nd2).imp fun ⟨h1, h2⟩ => Int.lt_iff_le_and_ne.mpr ⟨h1, h2⟩
theorem kru_perm {os : O3s} {n i : Nat} {ks us : List Int} (B : BdO os n) (il : i ≤ os.length) (Y : Kru os i ks) (p : us.Perm ks) : Kru os i us := by
  refine ⟨fun g => Y.nr (ring_perm (bd_ties B fun k mk => ?_) (p.symm.map (prO os)) g), fun k mk => Y.rg k (p.mem_iff.mp mk), fun j j0 j1 nj => ?_⟩
  · have := Y.rg k mk
    omega
  · refine (Y.lt j j0 j1 fun z => nj (p.mem_iff.mpr z)).mono (ties_sub fun k mk => ?_)
    obtain ⟨m1, m2⟩ := mem_upTo.mp mk
    exact mem_upTo.mpr ⟨p.mem_iff.mpr m1, m2⟩
theorem kru_nil {os : O3s} : Kru os 0 [] := ⟨ring_nil, (fun k z => nomatch z), fun j j0 j1 => by omega⟩

/-! ### the first so many offers -/
section
variable {F : O3s} {m : Nat} {ks : List Int}
theorem pr_take {k : Int} (h : k.toNat < m) : prO (F.take m) k = prO F k ∧ pcO (F.take m) k = pcO F k := by
  unfold prO pcO
  rw [List.getElem?_take, if_pos h]
  exact ⟨rfl, rfl⟩
theorem ties_take (rg : ∀ k ∈ ks, 0 ≤ k ∧ k < (m : Int)) : tiesO (F.take m) ks = tiesO F ks := List.map_congr_left fun k mk => (pr_take (by have := rg k mk; omega)).1
theorem dt_take (rg : ∀ k ∈ ks, 0 ≤ k ∧ k < (m : Int)) : dtOf (F.take m) ks = dtOf F ks := List.map_congr_left fun k mk => by rw [(pr_take (F := F) (m := m) (k := k) (by have := rg k mk; omega)).1]
theorem kru_take (Y : Kru F m ks) : Kru (F.take m) m ks := by
  refine ⟨by rw [ties_take Y.rg]; exact Y.nr, Y.rg, fun j j0 j1 nj => ?_⟩
  have e := pr_take (F := F) (m := m) (k := j) (by omega)
  have z := Y.lt j j0 j1 nj
  unfold Lgt at z ⊢
  rw [e.1, e.2]
  have eu : upTo (F.take m) (pcO F j) ks = upTo F (pcO F j) ks := List.filter_congr fun k mk => by rw [(pr_take (F := F) (m := m) (k := k) (by have := Y.rg k mk; omega)).2]
  rw [eu, ties_take fun k mk => Y.rg k (mem_upTo.mp mk).1]
  exact z
end
/-! ### papers -/
theorem gone_succ {i : Nat} {ks : List Int} : goneO (i + 1) ks = if (i : Int) ∈ ks then goneO i ks else goneO i ks ++ [(i : Int)] := by
  unfold goneO
  rw [List.range_succ, List.map_append, List.filter_append]
  by_cases h : (i : Int) ∈ ks
  · rw [if_pos h]
    simp [h]
  · rw [if_neg h]
    simp [h]
theorem gone_len {i : Nat} {ks : List Int} : (goneO i ks).length ≤ i := by
  have z := List.length_filter_le (fun j => !decide (j ∈ ks)) ((List.range i).map fun i : Nat => (i : Int))
  rw [List.length_map, List.length_range] at z
  exact z
structure GoodL (os : O3s) (ks : List Int) (r : NR) : Prop where
  nd : r.2.Nodup
  sub : ∀ k ∈ r.2, k ∈ ks
  ld : Leads (prs os) (prO os r.1).2 (prO os r.1).1 r.2
structure PapL (os : O3s) (ks : List Int) (rs : List NR) : Prop where
  hd : rs.map Prod.fst = goneO os.length ks
  ok : ∀ r ∈ rs, GoodL os ks r
theorem PapL.det {os : O3s} {n : Nat} {ks : List Int} {rs us : List NR} (B : BdO os n) (Y : Kru os os.length ks) (h1 : PapL os ks rs) (h2 : PapL os ks us) : rs = us := by
  have e := h1.hd.trans h2.hd.symm
  have o1 := h1.ok
  have o2 := h2.ok
  clear h1 h2
  induction rs generalizing us with
  | nil =>
    cases us with
    | nil => rfl
    | cons _ _ => exact nomatch e
  | cons r rs ih =>
    cases us with
    | nil => exact nomatch e
    | cons u us =>
      have e1 : r.1 = u.1 := (List.cons.inj e).1
      have e2 := (List.cons.inj e).2
      have g1 := o1 r List.mem_cons_self
      have g2 := o2 u List.mem_cons_self
      have e3 : r.2 = u.2 := by
        have l2 := g2.ld
        rw [← e1] at l2
        exact lead_uniq B Y.rg Y.nr g1.ld g1.nd g1.sub l2 g2.nd g2.sub
      rw [ih e2 (fun x m => o1 x (List.mem_cons_of_mem _ m)) (fun x m => o2 x (List.mem_cons_of_mem _ m)), Prod.ext e1 e3]
section
variable {P : Program} {w : World} {K : PySem.W.Frag} {mg : Str → Option Value} {base : Heap}
def spWayO (C : Addr) : Sp := fun vs H Q _ => ∃ (h O D : Addr) (n : Nat) (j : Int) (ys : List V) (os : O3s) (ks : List Int), vs = [.ref h, .int j] ∧ LightAt C H h O D n ys os (dtOf os ks) ∧ BdO os n ∧ n ≤ 40 ∧ os.length ≤ 63 ∧ Kru os os.length ks ∧ 0 ≤ j ∧ j < (os.length : Int) ∧ j ∉ ks ∧
  ∀ (t : Addr) (ws : List Int) (H' : Hp), Same H H' → H' t = some (.tup (ws.map V.int)) → GoodL os ks (j, ws) → Q (.ref t) H'
theorem ok_wayo (T : Top K mg) : FnOk P w K mg base CX0 5 T.a_Lightestwayofoffer T.d_Lightestwayofoffer ["self", "number"] (spWayO T.C_Lightest) := by
  have G_offersalong : FnOk P w K mg base CX0 4 _ _ _ _ := ok_along T
  refine T.F_Lightestwayofoffer.ok sc_Lightestwayofoffer (fun vs H Q E h => ?_) (fun cdv A outer s H vs Q E hr h => ?_)
  · obtain ⟨h, O, D, n, j, ys, os, ks, rfl, _⟩ := h
    rfl
  · obtain ⟨h, O, D, n, j, ys, os, ks, rfl, A, B, n40, lo, Y, j0, j1, nj, q⟩ := h
    obtain ⟨dx, hh⟩ := A.ob
    have lk := kru_len Y
    have rk := Y.rg
    obtain ⟨o, ho, mo⟩ := in_os j0 j1
    have eo := (prO_at ho).1
    have bo := B o mo
    obtain ⟨tp, e1, htp⟩ := A.pa.ix j0 ho
    have rch := lgt_rch (Y.lt j j0 j1 nj)
    rw [eo] at rch
    refine ⟨_, (pss_one (ps_ret (pe_call G_offersalong hr (by rfl) T.g_offersalong T.F_offersalong.kp T.b_offersalong .nil pass0 (pa_cons (pe_fld (pv 0) rfl) (pa_cons (pe_fld (pv 0) rfl) (pa_cons (pe_ix ix_tup (pe_ix ix_list (pe_fld (pv 0) rfl) (pv 1) (fun _ _ => rfl)) pe_int (fun _ _ => rfl)) (pa_cons (pe_ix ix_tup (pe_ix ix_list (pe_fld (pv 0) rfl) (pv 1) (fun _ _ => rfl)) pe_int (fun _ _ => rfl)) pa_nil))))))), ?_⟩
    refine ⟨_, rfl, h, T.C_Lightest, dx, _, _, rfl, hh, T.cl_Lightest, T.na_Lightest_many, flds_many _ _ _, ?_⟩
    refine ⟨_, rfl, h, T.C_Lightest, dx, _, _, rfl, hh, T.cl_Lightest, T.na_Lightest_by_tie, flds_tie _ _ _, ?_⟩
    refine ⟨_, rfl, h, T.C_Lightest, dx, _, _, rfl, hh, T.cl_Lightest, T.na_Lightest_offers, flds_offers _ _ _, _, rfl, O, _, _, _, rfl, rfl, SqL.of A.lo, e1, tp, _, _, _, rfl, rfl, SqT.of htp, atI_nat (j := 0) rfl, ?_⟩
    refine ⟨_, rfl, h, T.C_Lightest, dx, _, _, rfl, hh, T.cl_Lightest, T.na_Lightest_offers, flds_offers _ _ _, _, rfl, O, _, _, _, rfl, rfl, SqL.of A.lo, e1, tp, _, _, _, rfl, rfl, SqT.of htp, atI_nat (j := 1) rfl, ?_⟩
    refine ⟨n, D, dtOf os ks, o.1.1, o.1.2, rfl, A.ld, dt_bd B n40 (by omega) rk, dt_nrm, bo.1, bo.2.2.1, bo.2.1, bo.2.2.2, fun H4 s4 nr => absurd (dt_rch.mpr rch) nr, fun t4 wy ws H4 s4 hw _ nm ht4 => ?_⟩
    have hl := dt_ofs rk
    refine q t4 ws H4 s4 ht4 ⟨num_nd hl hw.nd nm, fun k mk => ?_, ?_⟩
    · obtain ⟨q0, mq⟩ := num_sub nm k mk
      exact (dt_mem mq).1
    · show Leads (prs os) (prO os j).2 (prO os j).1 ws
      rw [eo]
      exact num_leads hl hw.wk nm
def spPaperO (C : Addr) : Sp := fun vs H Q _ => ∃ (h O D : Addr) (n : Nat) (ys : List V) (os : O3s) (ks : List Int), vs = [.ref h] ∧ LightAt C H h O D n ys os (dtOf os ks) ∧ BdO os n ∧ n ≤ 40 ∧ os.length ≤ 63 ∧ Kru os os.length ks ∧
  ∀ (p : Addr) (xs : List V) (rs : List NR) (H' : Hp), Same H H' → H' p = some (.tup xs) → NAll H' xs rs → PapL os ks rs → Q (.ref p) H'
theorem ok_papero (T : Top K mg) : FnOk P w K mg base CX0 6 T.a_Lightestpaper T.d_Lightestpaper ["self"] (spPaperO T.C_Lightest) := by
  have G_Lightestkept : FnOk P w K mg base CX0 1 _ _ _ _ := ok_kept T
  have G_Lightestwayofoffer : FnOk P w K mg base CX0 5 _ _ _ _ := ok_wayo T
  refine T.F_Lightestpaper.ok sc_Lightestpaper (fun vs H Q E h => ?_) (fun cdv A outer s H vs Q E hr h => ?_)
  · obtain ⟨h, O, D, n, ys, os, ks, rfl, _⟩ := h
    rfl
  · obtain ⟨h, O, D, n, ys, os, ks, rfl, A, B, n40, lo, Y, q⟩ := h
    obtain ⟨dx, hh⟩ := A.ob
    have ly := A.pa.length
    refine ⟨_, (pss_cons (ps_set (i := 1) sc_Lightestpaper.nd rfl (.inr rfl) (pe_meth0 (pv 0) T.cl_Lightest T.me_Lightestkept G_Lightestkept (hr.mono (by decide)) T.b_Lightestkept .nil pass0))
      (pss_cons (ps_setLc (i := 2) (own := [("number", 3)]) (g := gName 3) (by rfl) sc_Lightestpaper.nd rfl rfl (sw_true rfl rfl rfl (by decide +kernel)) (pi_range1 (by rfl) T.m_range (pa_cons (pe_callB call_len_seq (by rfl) T.m_len PySem.boot_len (pa_cons (pe_fld (pv 0) rfl) pa_nil)) pa_nil)) (blkOk_by (own := [("number", 3)]) (N := ["self", "kept", "gone", "number"]) (sc := defScope s_Lightestpaper) (by decide +kernel)) (fun _ _ _ _ _ => (pg_name (i := 3) sc_Lightestpaper.nd rfl (.inl rfl))) (fun _ _ _ _ _ => (pts_one (pt_cmpR (op_notIn_seqK (K := K) rfl) (pv 3) (pv 1) (by rfl)))) (fun _ _ _ _ _ => (pv 3)))
      (pss_one (ps_ret (pe_callTy call_tuple_of (by rfl) T.m_tuple (by decide +kernel) (pa_cons (pe_lc (own := [("number", 3)]) (g := gName 3) (tt := tYes) (by rfl) sc_Lightestpaper.nd (pi_list (pv 2)) (blkOk_by (own := [("number", 3)]) (N := ["self", "kept", "gone", "number"]) (sc := defScope s_Lightestpaper) (by decide +kernel)) (fun _ _ _ _ _ => (pg_name (i := 3) sc_Lightestpaper.nd rfl (.inl rfl))) (fun _ _ _ _ _ => pts_nil) (fun _ _ _ _ _ => (pe_tup (pa_cons (pv 3) (pa_cons (pe_meth (pv 0) T.cl_Lightest T.me_Lightestwayofoffer G_Lightestwayofoffer hr T.b_Lightestwayofoffer .nil pass0 (pa_cons (pv 3) pa_nil)) pa_nil))))) pa_nil)))))), ?_⟩
    refine ⟨_, rfl, h, dx, _, rfl, hh, flds_no _ _ _ (by decide +kernel) (by decide +kernel) (by decide +kernel), h, O, D, n, ys, os, os, ks, rfl, A, fun t us H1 s1 pm _ ht => ?_⟩
    have hh1 := s1 _ _ hh
    have A1 := A.same s1
    refine ⟨_, rfl, h, T.C_Lightest, dx, _, _, rfl, hh1, T.cl_Lightest, T.na_Lightest_offers, flds_offers _ _ _, O, _, rfl, .inl (SqL.of A1.lo), _, rfl, by omega, by omega, fun M nM => ?_⟩
    refine lc_range (lo := 0) (n := ys.length) (fun i H2 => Same H1 H2 ∧ H2 M = some (.lst ((goneO i ks).map V.int))) ⟨same_new nM, upd_same⟩ ?_ ?_
    · rintro i H2 hi ⟨s2, hM⟩
      rw [Int.zero_add]
      have gs := gone_succ (i := i) (ks := ks)
      have gl := gone_len (i := i) (ks := ks)
      have dm : decide ((i : Int) ∈ us) = decide ((i : Int) ∈ ks) := decide_eq_decide.mpr pm.mem_iff
      refine ⟨rfl, _, rfl, _, rfl, t, _, rfl, .inr (SqT.of (s2 _ _ ht)), rfl, flat_ints _, !decide ((i : Int) ∈ us), congrArg (fun z => V.bl (!z)) (inV_ints (i : Int) us), ?_⟩
      rw [dm]
      by_cases mk : (i : Int) ∈ ks
      · rw [if_pos mk] at gs
        rw [decide_eq_true mk]
        exact iteF ⟨s2, by rw [gs]; exact hM⟩
      rw [if_neg mk] at gs
      rw [decide_eq_false mk]
      refine iteT ⟨_, rfl, _, hM, ?_, same_put s2 nM, ?_⟩
      · rw [List.length_map]
        exact szl (by omega)
      · rw [upd_same, gs, List.map_append]
        rfl
    rintro H2 ⟨s2, hM⟩
    rw [ly] at hM
    have s12 := s1.trans s2
    have A2 := A1.same s2
    have hh2 := s2 _ _ hh1
    have gl := gone_len (i := os.length) (ks := ks)
    refine ⟨_, rfl, M, rfl, ⟨_, SqL.of hM⟩, fun N nN => ?_⟩
    refine lc_list (xs := (goneO os.length ks).map V.int) (fun j H3 => Same H2 H3 ∧ ∃ (xs : List V) (rs : List NR), H3 N = some (.lst xs) ∧ NAll H3 xs rs ∧ rs.map Prod.fst = (goneO os.length ks).take j ∧ ∀ r ∈ rs, GoodL os ks r) ⟨same_new nN, [], [], upd_same, .nil, rfl, fun r z => nomatch z⟩ (fun j H3 _ z => SqL.of (z.1 _ _ hM)) ?_ ?_
    · rintro j x H3 hx ⟨s3, xs, rs, hN, ra, hd, ok⟩
      rw [List.getElem?_map] at hx
      obtain ⟨k, hk, rfl⟩ := Option.map_eq_some_iff.mp hx
      obtain ⟨⟨k0, k1⟩, nk⟩ := mem_gone.mp (List.mem_of_getElem? hk)
      have lj := (List.getElem?_eq_some_iff.mp hk).1
      refine ⟨rfl, yes_ite ?_⟩
      refine ⟨_, rfl, _, rfl, h, dx, _, rfl, s3 _ _ hh2, flds_no _ _ _ (by decide +kernel) (by decide +kernel) (by decide +kernel), _, rfl, h, O, D, n, k, ys, os, ks, rfl, A2.same s3, B, n40, lo, Y, k0, k1, nk, fun t4 ws H4 s4 ht4 gd => ?_⟩
      refine ⟨(by show 2 ≤ sizeLine; decide), fun r nr => ?_⟩
      have sr := same_new (o := .tup [V.int k, V.ref t4]) nr
      have hr : upd H4 r (.tup [V.int k, V.ref t4]) r = some (.tup [V.int k, V.ref t4]) := upd_same
      have ht5 := sr _ _ ht4
      have s45 := s4.trans sr
      generalize upd H4 r (.tup [V.int k, V.ref t4]) = H5 at s45 hr ht5 ⊢
      have hN5 := s45 _ _ hN
      have lw := ra.length
      have lr : rs.length ≤ j := by
        have z := congrArg List.length hd
        rw [List.length_map, List.length_take] at z
        omega
      refine ⟨_, hN5, szl (by omega), same_put (s3.trans s45) nN, xs ++ [.ref r], rs ++ [(k, ws)], upd_same, ?_, ?_, fun r' mr => ?_⟩
      · have z : NAll H5 (xs ++ [.ref r]) (rs ++ [(k, ws)]) := (ra.same s45).append (.cons hr ht5 .nil)
        exact z.mono fun c zs e => by
          rw [upd_ne (ne_of e hN5 (by intro z; cases z))]
          exact e
      · rw [List.map_append, hd, take_at hk]
        rfl
      · rcases List.mem_append.mp mr with mr | mr
        · exact ok r' mr
        · rw [List.mem_singleton.mp mr]
          exact gd
    · rintro H3 ⟨s3, xs, rs, hN, ra, hd, ok⟩
      rw [List.length_map, List.take_length] at hd
      refine ⟨N, _, rfl, .inl ⟨SqL.of hN, fun p np => ?_⟩⟩
      have sp := same_new (o := .tup xs) np
      exact q p xs rs _ ((s12.trans s3).trans sp) upd_same (ra.same sp) ⟨hd, ok⟩
end

end My
namespace My
open PySem L2
/-! ### the program: papers of what holds -/
theorem risP {ns : List Int} {i : Nat} {u v : Int} (hu : ns[i]? = some u) (hv : ns[i + 1]? = some v) (h : ¬ u < v) : ¬ ns.Pairwise (· < ·) := fun pw => by
  obtain ⟨l1, e1⟩ := List.getElem?_eq_some_iff.mp hu
  obtain ⟨l2, e2⟩ := List.getElem?_eq_some_iff.mp hv
  have lt := List.pairwise_iff_getElem.mp pw i (i + 1) l1 l2 (by omega)
  rw [e1, e2] at lt
  exact h lt
theorem ris_all : ∀ {l : List Int}, (∀ (i : Nat) (s t : Int), l[i]? = some s → l[i + 1]? = some t → s < t) → l.Pairwise (· < ·)
  | [], _ => .nil
  | [x], _ => List.pairwise_singleton ..
  | x :: y :: r, h => by
    have ih : (y :: r).Pairwise (· < ·) := ris_all fun i s t h1 h2 => h (i + 1) s t h1 h2
    have xy : x < y := h 0 x y rfl rfl
    refine List.pairwise_cons.mpr ⟨fun z hz => ?_, ih⟩
    rcases List.mem_cons.mp hz with rfl | hz
    · exact xy
    · have := (List.pairwise_cons.mp ih).1 z hz
      omega
theorem nd_le : ∀ {out ns : List Int}, out.Nodup → (∀ k ∈ out, k ∈ ns) → out.length ≤ ns.length
  | [], _, _, _ => Nat.zero_le _
  | x :: r, ns, nd, h => by
    have nd' := List.nodup_cons.mp nd
    have mx := h x List.mem_cons_self
    have z := nd_le (ns := ns.erase x) nd'.2 fun k hk => (List.mem_erase_of_ne (a := k) (b := x) (fun e : k = x => nd'.1 (e ▸ hk))).mpr (h k (List.mem_cons_of_mem _ hk))
    have z2 := List.length_erase_of_mem mx
    have z3 : 0 < ns.length := List.length_pos_of_mem mx
    rw [List.length_cons]
    omega
theorem nd_dup : ∀ {ns : List Int}, ¬ ns.Nodup → ∃ l : List Int, l.length + 1 = ns.length ∧ ∀ k ∈ ns, k ∈ l
  | [], h => absurd List.nodup_nil h
  | x :: r, h => by
    by_cases m : x ∈ r
    · exact ⟨r, rfl, fun k hk => (List.mem_cons.mp hk).elim (fun e => e ▸ m) id⟩
    · obtain ⟨l, ll, hl⟩ := nd_dup (fun z => h (List.nodup_cons.mpr ⟨m, z⟩))
      exact ⟨x :: l, by rw [List.length_cons, List.length_cons, ← ll], fun k hk => (List.mem_cons.mp hk).elim (fun e => e ▸ List.mem_cons_self) fun z => List.mem_cons_of_mem _ (hl k z)⟩
theorem nd_len {out ns : List Int} (nd : out.Nodup) (mem : ∀ k, k ∈ out ↔ k ∈ ns) : out.length = ns.length ↔ ns.Nodup := by
  constructor
  · intro e
    by_cases h : ns.Nodup
    · exact h
    · obtain ⟨l, ll, hl⟩ := nd_dup h
      have := nd_le nd fun k hk => hl k ((mem k).mp hk)
      omega
  · intro h
    exact Nat.le_antisymm (nd_le nd fun k hk => (mem k).mp hk) (nd_le h fun k hk => (mem k).mpr hk)
theorem atI_up {ab : List Int} {q x : Int} (q0 : 0 ≤ q) (h : ab[q.toNat]? = some x) : atI (ab.map V.int) q = some (.int x) := by
  have e : q = ((q.toNat : Nat) : Int) := (Int.toNat_of_nonneg q0).symm
  rw [e]
  refine atI_nat ?_
  rw [List.getElem?_map, h]
  rfl
theorem ix_up {n : Nat} {q : Int} (q0 : 0 ≤ q) (h : q.toNat < n) : ixN n q = some q.toNat := by
  unfold ixN
  rw [if_pos q0]
  simp
  omega
theorem ringB_t {ts : Ties} (h : Ring ts) : ringB ts = true := by
  classical
  unfold ringB
  exact decide_eq_true h
theorem ringB_f {ts : Ties} (h : ¬ Ring ts) : ringB ts = false := by
  classical
  unfold ringB
  exact decide_eq_false h
section
variable {P : Program} {w : World} {K : PySem.W.Frag} {mg : Str → Option Value} {base : Heap}
def spWholes (T : Top K mg) : Sp := fun vs H Q _ => ∃ (a : Addr) (ns : List Int), vs = [.ref a] ∧ H a = some (.tup (ns.map V.int)) ∧ Tb T.tbs H ∧ ∀ H', Kp H H' → Tb T.tbs H' → Q (.bl true) H'
theorem ok_wholes (T : Top K mg) (TB : GxR.TabB base mg T.cA T.PA) : FnOk P w K mg base CX0 3 T.a_arewholes T.d_arewholes ["thing"] (spWholes T) := by
  have G_iswhole : FnOk P w K mg base CX0 1 _ _ _ _ := ok_wholeI T
  refine okC T.F_arewholes T.hcA sc_arewholes (fun vs H Q E h => ?_) (fun A outer s H vs Q E hr h => ?_)
  · obtain ⟨a, ns, rfl, _⟩ := h
    rfl
  · obtain ⟨a, ns, rfl, ha, tb, q⟩ := h
    refine ⟨_, (pss_one (ps_ret (pe_and (pe_callB call_isi (by rfl) T.m_isinstance (by decide +kernel) (pa_cons (pv 0) (pa_cons (pe_bltn (v := .ty "tuple") (by rfl) T.m_tuple (by decide +kernel) rfl) pa_nil))) (pe_one (pe_allG (own := [("part", 1)]) hr rfl sc_arewholes.nd (by rfl) T.m_all (by decide +kernel) TB rfl (blkOk_by (own := [("part", 1)]) (N := ["thing", "part"]) (sc := defScope s_arewholes) (by decide +kernel)) (by rfl) (by decide +kernel) (by rfl) (pi_tup (pv 0)) (fun _ _ _ _ _ _ _ => (pg_name (i := 1) sc_arewholes.nd rfl (.inl rfl) (hf := Or.inr rfl))) (fun _ _ _ _ _ _ _ hr' => (pe_call G_iswhole hr' (by rfl) T.g_iswhole T.F_iswhole.kp T.b_iswhole .nil pass0 (pa_cons (pv 1) pa_nil)))))))), ?_⟩
    refine ⟨_, rfl, _, _, _, _, true, rfl, ClsV.ty _, .base (.tup ha), kit_ty (by decide +kernel), _, rfl, iteT ?_⟩
    refine ⟨_, rfl, a, rfl, ⟨_, SqT.of ha⟩, tb.g T.mA, fun H2 tab => ?_⟩
    have k2 := Kp.of_tabd (tb.g T.mA) tab
    have tb2 := tb.tab T.nd T.mA (But.of_tab tab) tab.1
    refine gturns_it (walk_tup (xs := ns.map V.int)) (fun i H3 => Kp H H3 ∧ Tb T.tbs H3) ⟨k2, tb2⟩ (fun i H3 _ z => SqT.of (z.1.tup ha)) ?_ (fun H3 z => q H3 z.1 z.2)
    rintro i x H3 H4 N hi ⟨k3, tb3⟩ ⟨rfl, hx⟩ nx
    rw [List.getElem?_map] at hx
    obtain ⟨u, hu, rfl⟩ := Option.map_eq_some_iff.mp hx
    exact ⟨rfl, _, rfl, u, rfl, true, rfl, iteT (nx _ ⟨k3, tb3⟩)⟩
def spRis (T : Top K mg) : Sp := fun vs H Q _ => ∃ (a : Addr) (ns : List Int), vs = [.ref a] ∧ H a = some (.tup (ns.map V.int)) ∧ Tb T.tbs H ∧ ∀ H', Kp H H' → Tb T.tbs H' → Q (.bl (decide (ns.Pairwise (· < ·)))) H'
theorem ok_ris (T : Top K mg) (TB : GxR.TabB base mg T.cR T.PR) : FnOk P w K mg base CX0 2 T.a_isrising T.d_isrising ["row"] (spRis T) := by
  refine okC T.F_isrising T.hcR sc_isrising (fun vs H Q E h => ?_) (fun A outer s H vs Q E hr h => ?_)
  · obtain ⟨a, ns, rfl, _⟩ := h
    rfl
  · obtain ⟨a, ns, rfl, ha, tb, q⟩ := h
    refine ⟨_, (pss_one (ps_ret (pe_allG (own := [("low", 1), ("high", 2)]) hr rfl sc_isrising.nd (by rfl) T.m_all (by decide +kernel) TB rfl (blkOk_by (own := [("low", 1), ("high", 2)]) (N := ["row", "low", "high"]) (sc := defScope s_isrising) (by decide +kernel)) (by rfl) (by decide +kernel) (by rfl) (RZ.pi_zipA (by rfl) T.m_zip (pa_cons (pv 0) (pa_cons (pe_slice sl_tupA (pv 0) (po_some pe_int) po_none) pa_nil))) (fun _ _ _ _ _ _ _ => (pg_tupK (K := K) (n := 2) rfl rfl (pgs_cons (pg_name (i := 1) sc_isrising.nd rfl (.inl rfl) (hf := Or.inr rfl)) (pgs_cons (pg_name (i := 2) sc_isrising.nd rfl (.inl rfl) (hf := Or.inr rfl)) pgs_nil)) rfl)) (fun _ _ _ _ _ _ _ hr' => (pe_cmpR op_lt (pv 1) (pv 2) (nomark _)))))), ?_⟩
    cases ns with
    | nil =>
      refine ⟨_, rfl, _, rfl, 1, rfl, a, _, rfl, SqT.of ha, fun _ => ?_, fun nw => absurd nil_whole nw⟩
      refine ⟨a, a, _, _, rfl, .inr ⟨SqT.of ha, SqT.of ha, tb.g T.mR, fun H2 tab => ?_⟩⟩
      have k2 := Kp.of_tabd (tb.g T.mR) tab
      have tb2 := tb.tab T.nd T.mR (But.of_tab tab) tab.1
      refine gturns_it (walk_zipT (xs := []) (ys := []) (n := 0) rfl) (fun i H3 => Kp H H3 ∧ Tb T.tbs H3) ⟨k2, tb2⟩ (fun i H3 _ z => ⟨SqT.of (z.1.tup ha), SqT.of (z.1.tup ha)⟩) (fun i x H3 H4 N hi => absurd hi (Nat.not_lt_zero _)) (fun H3 z => ?_)
      have y := q H3 z.1 z.2
      rw [decide_eq_true List.Pairwise.nil] at y
      exact y
    | cons n0 nr =>
    refine ⟨_, rfl, _, rfl, 1, rfl, a, _, rfl, SqT.of ha, fun wh => absurd wh not_whole, fun _ p np => ?_⟩
    have ec : cutV ((n0 :: nr).map V.int) (some 1) none = nr.map V.int := cut_tail _ _
    rw [ec]
    have sp := same_new (o := .tup (nr.map V.int)) np
    have hp : upd H p (.tup (nr.map V.int)) p = some (.tup (nr.map V.int)) := upd_same
    have ha1 := sp _ _ ha
    have tb1 := tb.same sp
    have k1 := Kp.of_same sp
    generalize upd H p (.tup (nr.map V.int)) = H1 at sp hp ha1 tb1 k1 ⊢
    refine ⟨a, p, _, _, rfl, .inr ⟨SqT.of ha1, SqT.of hp, tb1.g T.mR, fun H2 tab => ?_⟩⟩
    have k2 := Kp.of_tabd (tb1.g T.mR) tab
    have tb2 := tb1.tab T.nd T.mR (But.of_tab tab) tab.1
    refine gturns_it (walk_zipT (xs := (n0 :: nr).map V.int) (ys := nr.map V.int) (n := nr.length) (by rw [List.length_map, List.length_map, List.length_cons]; omega)) (fun i H3 => Kp H1 H3 ∧ Tb T.tbs H3 ∧ ∀ (j : Nat) (s t : Int), j < i → (n0 :: nr)[j]? = some s → (n0 :: nr)[j + 1]? = some t → s < t) ⟨k2, tb2, fun j s t z => absurd z (Nat.not_lt_zero _)⟩ (fun i H3 _ z => ⟨SqT.of (z.1.tup ha1), SqT.of (z.1.tup hp)⟩) ?_ (fun H3 z => ?_)
    · rintro i x H3 H4 N hi ⟨k3, tb3, c3⟩ ⟨t, x, y, rfl, nt, rfl, hx, hy⟩ nx
      dsimp only at hx hy
      rw [List.getElem?_map] at hx hy
      obtain ⟨u, hu, rfl⟩ := Option.map_eq_some_iff.mp hx
      obtain ⟨v, hv, rfl⟩ := Option.map_eq_some_iff.mp hy
      have st := same_new (o := .tup [V.int u, V.int v]) nt
      have hv' : (n0 :: nr)[i + 1]? = some v := hv
      refine ⟨t, _, rfl, SqT.of upd_same, rfl, _, _, rfl, _, _, rfl, rfl, rfl, _, rfl, _, rfl, _, _, rfl, rfl, decide (u < v), rfl, ?_⟩
      by_cases e : u < v
      · rw [decide_eq_true e]
        refine iteT (nx _ ⟨k3.same st, tb3.same st, fun j s t z h1 h2 => ?_⟩)
        by_cases ej : j < i
        · exact c3 j s t ej h1 h2
        · have ej : j = i := by omega
          subst ej
          rw [hu] at h1
          rw [hv'] at h2
          cases Option.some.inj h1
          cases Option.some.inj h2
          exact e
      · rw [decide_eq_false e]
        refine iteF ?_
        have z := q _ (k1.trans (k3.same st)) (tb3.same st)
        rw [decide_eq_false (risP hu hv' e)] at z
        exact z
    · obtain ⟨k3, tb3, c3⟩ := z
      have z := q H3 (k1.trans k3) tb3
      rw [decide_eq_true (ris_all fun i s t h1 h2 => ?_)] at z
      · exact z
      · have l2 := (List.getElem?_eq_some_iff.mp h2).1
        rw [List.length_cons] at l2
        exact c3 i s t (by omega) h1 h2
def spOffs (T : Top K mg) : Sp := fun vs H Q _ => ∃ (o t : Addr) (ys : List V) (ns : List Int), vs = [.ref o, .ref t] ∧ H o = some (.tup ys) ∧ H t = some (.tup (ns.map V.int)) ∧ ns.length ≤ 1000 ∧ Tb T.tbs H ∧ ∀ H', Kp H H' → Tb T.tbs H' → Q (.bl (dcd (ns.Nodup ∧ ∀ x ∈ ns, 0 ≤ x ∧ x < (ys.length : Int)))) H'
theorem ok_areoffers (T : Top K mg) (TBA : GxR.TabB base mg T.cA T.PA) (TB : GxR.TabB base mg T.cO T.PO) : FnOk P w K mg base CX0 4 T.a_areoffers T.d_areoffers ["offers", "thing"] (spOffs T) := by
  have G_arewholes : FnOk P w K mg base CX0 3 _ _ _ _ := ok_wholes T TBA
  refine okC T.F_areoffers T.hcO sc_areoffers (fun vs H Q E h => ?_) (fun A outer s H vs Q E hr h => ?_)
  · obtain ⟨o, t, ys, ns, rfl, _⟩ := h
    rfl
  · obtain ⟨o, t, ys, ns, rfl, ho, ht, len, tb, q⟩ := h
    refine ⟨_, (pss_cons (ps_if (PW.pt (pw_or (pt_not (pt_val (pe_call G_arewholes hr (by rfl) T.g_arewholes T.F_arewholes.kp T.b_arewholes .nil pass0 (pa_cons (pv 1) pa_nil)))) (pw_or1 (pt_cmpR op_ne (pe_lenSetT rfl (by rfl) T.m_len (by rfl) T.m_set (pv 1)) (pe_callB call_len_seq (by rfl) T.m_len PySem.boot_len (pa_cons (pv 1) pa_nil)) (nomark _))))) (pss_one (ps_ret pe_bl)) pss_nil)
      (pss_one (ps_ret (pe_allG (own := [("number", 2)]) hr rfl sc_areoffers.nd (by rfl) T.m_all (by decide +kernel) TB rfl (blkOk_by (own := [("number", 2)]) (N := ["offers", "thing", "number"]) (sc := defScope s_areoffers) (by decide +kernel)) (by rfl) (by decide +kernel) (by rfl) (pi_tup (pv 1)) (fun _ _ _ _ _ _ _ => (pg_name (i := 2) sc_areoffers.nd rfl (.inl rfl) (hf := Or.inr rfl))) (fun _ _ _ _ _ _ _ hr' => (pe_chain op_le op_lt pe_int (pv 2) (pe_callB (call_len_seqK (K := K) rfl) (by rfl) T.m_len PySem.boot_len (pa_cons (pv 0) pa_nil)))))))), ?_⟩
    refine ⟨_, rfl, t, ns, rfl, ht, tb, fun H1 k1 tb1 => ⟨_, rfl, iteF ?_⟩⟩
    have ht1 := k1.tup ht
    have ho1 := k1.tup ho
    have no : ∀ {H'}, Kp H1 H' → Tb T.tbs H' → ¬ (ns.Nodup ∧ ∀ x ∈ ns, 0 ≤ x ∧ x < (ys.length : Int)) → Q (.bl false) H' := fun {H'} k t' z => by
      have y := q H' (k1.trans k) t'
      rw [dcd_f z] at y
      exact y
    refine ⟨_, rfl, t, ns, rfl, SqT.of ht1, len, fun out nod mem => ⟨_, rfl, t, _, rfl, .inr (SqT.of ht1), rfl, _, rfl, ite2 (fun z => ?_) (fun z => ?_)⟩⟩
    · refine no (Kp.refl H1) tb1 fun y => ne_int z ?_
      rw [List.length_map, (nd_len nod mem).mpr y.1]
    have nd : ns.Nodup := (nd_len nod mem).mp (by
      have := eq_int z
      rw [List.length_map] at this
      omega)
    clear z
    refine ⟨_, rfl, t, rfl, ⟨_, SqT.of ht1⟩, tb1.g T.mO, fun H2 tab => ?_⟩
    have k2 := Kp.of_tabd (tb1.g T.mO) tab
    have tb2 := tb1.tab T.nd T.mO (But.of_tab tab) tab.1
    refine gturns_it (walk_tup (xs := ns.map V.int)) (fun i H3 => Kp H1 H3 ∧ Tb T.tbs H3 ∧ ∀ x ∈ ns.take i, 0 ≤ x ∧ x < (ys.length : Int)) ⟨k2, tb2, fun x z => nomatch z⟩ (fun i H3 _ z => SqT.of (z.1.tup ht1)) ?_ (fun H3 z => ?_)
    · rintro i x H3 H4 N hi ⟨k3, tb3, al3⟩ ⟨rfl, hx⟩ nx
      rw [List.getElem?_map] at hx
      obtain ⟨u, hu, rfl⟩ := Option.map_eq_some_iff.mp hx
      have mu := List.mem_of_getElem? hu
      refine ⟨rfl, _, rfl, _, _, rfl, rfl, decide (0 ≤ u), rfl, ?_⟩
      by_cases g0 : 0 ≤ u
      · rw [decide_eq_true g0]
        refine iteT ?_
        refine ⟨_, rfl, o, _, rfl, .inr (SqT.of (k3.tup ho1)), _, _, rfl, rfl, decide (u < (ys.length : Int)), rfl, ?_⟩
        by_cases g1 : u < (ys.length : Int)
        · rw [decide_eq_true g1]
          refine iteT (nx _ ⟨k3, tb3, fun x mx => ?_⟩)
          rw [take_at hu] at mx
          rcases List.mem_append.mp mx with mx | mx
          · exact al3 x mx
          · rw [List.mem_singleton.mp mx]
            exact ⟨g0, g1⟩
        · rw [decide_eq_false g1]
          exact iteF (no k3 tb3 fun y => g1 (y.2 u mu).2)
      · rw [decide_eq_false g0]
        exact iteF ⟨false, rfl, iteF (no k3 tb3 fun y => g0 (y.2 u mu).1)⟩
    · obtain ⟨k3, tb3, al3⟩ := z
      rw [List.length_map, List.take_length] at al3
      have z := q H3 (k1.trans k3) tb3
      rw [dcd_t ⟨nd, al3⟩] at z
      exact z
def spLeads : Sp := fun vs H Q _ => ∃ (o t : Addr) (a b : Int) (ys : List V) (os : O3s) (ns : List Int), vs = [.ref o, .ref t, .int a, .int b] ∧ H o = some (.tup ys) ∧ OAll H ys os ∧ H t = some (.tup (ns.map V.int)) ∧ (∀ x ∈ ns, 0 ≤ x ∧ x < (os.length : Int)) ∧ ∀ H', Same H H' → Q (.bl (dcd (Leads (prs os) b a ns))) H'
theorem ok_leadson (T : Top K mg) : FnOk P w K mg base CX0 1 T.a_leadson T.d_leadson ["offers", "numbers", "a", "b"] spLeads := by
  refine T.F_leadson.ok sc_leadson (fun vs H Q E h => ?_) (fun cdv A outer s H vs Q E hr h => ?_)
  · obtain ⟨o, t, a, b, ys, os, ns, rfl, _⟩ := h
    rfl
  · obtain ⟨o, t, a, b, ys, os, ns, rfl, ho, pa, ht, rg, q⟩ := h
    refine ⟨_, (pss_cons (ps_set (i := 4) sc_leadson.nd rfl (.inl rfl) (pv 2))
      (pss_cons (ps_for PassesOwn.never rfl (pi_tup (pv 1)) (pg_name (i := 5) sc_leadson.nd rfl (.inl rfl)) (pss_cons (ps_set (i := 6) sc_leadson.nd rfl (.inl rfl) (pe_slice sl_tupA (pe_ix ix_tup (pv 0) (pv 5) (fun _ _ => rfl)) po_none (po_some pe_int)))
      (pss_cons (ps_if (pt_cmpR op_notIn_seq (pv 4) (pv 6) (by rfl)) (pss_one (ps_ret pe_bl)) pss_nil)
      (pss_one (ps_set (i := 4) sc_leadson.nd rfl (.inl rfl) (pe_ifExp (pt_cmpR op_eq (pv 4) (pe_ix ix_tup (pv 6) pe_int (fun _ _ => rfl)) (nomark _)) (pe_ix ix_tup (pv 6) pe_int (fun _ _ => rfl)) (pe_ix ix_tup (pv 6) pe_int (fun _ _ => rfl))))))))
      (pss_one (ps_ret (pe_cmpR op_eq (pv 4) (pv 3) (nomark _)))))), ?_⟩
    refine ⟨_, rfl, ?_⟩
    refine ⟨_, rfl, t, rfl, ⟨_, SqT.of ht⟩, for_tup (xs := ns.map V.int) (fun i σ H2 => ∃ (h : Int) (y5 y6 : Option V), σ = [some (.ref o), some (.ref t), some (.int a), some (.int b), some (.int h), y5, y6] ∧ Same H H2 ∧ (Leads (prs os) b a ns ↔ Leads (prs os) b h (ns.drop i))) ⟨a, none, none, rfl, same_refl, Iff.rfl⟩ (fun i σ H2 _ z => by obtain ⟨_, _, _, _, z, _⟩ := z; exact SqT.of (z _ _ ht)) ?_ ?_⟩
    · rintro i v σ H2 hv ⟨h, y5, y6, rfl, s2, iff⟩
      rw [List.getElem?_map] at hv
      obtain ⟨n, hn, rfl⟩ := Option.map_eq_some_iff.mp hv
      obtain ⟨n0, n1⟩ := rg n (List.mem_of_getElem? hn)
      have l : n.toNat < os.length := by omega
      have hu : os[n.toNat]? = some os[n.toNat] := List.getElem?_eq_getElem l
      generalize os[n.toNat] = u at hu
      obtain ⟨tp, e1, htp⟩ := (pa.same s2).ix n0 hu
      have ed : ns.drop i = n :: ns.drop (i + 1) := drop_at hn
      rw [ed] at iff
      refine ⟨_, rfl, _, rfl, o, _, _, _, rfl, rfl, SqT.of (s2 _ _ ho), e1, 2, rfl, slA rfl htp fun p H3 s3 hp => ?_⟩
      have ec : cutV [V.int u.1.1, V.int u.1.2, V.int u.2] none (some 2) = [u.1.1, u.1.2].map V.int := by rfl
      rw [ec] at hp
      have s23 := s2.trans s3
      refine ⟨_, rfl, _, rfl, p, _, rfl, .inr (SqT.of hp), rfl, flat_ints _, !decide (h ∈ [u.1.1, u.1.2]), congrArg (fun z => V.bl (!z)) (inV_ints h [u.1.1, u.1.2]), ?_⟩
      by_cases m : h ∈ [u.1.1, u.1.2]
      case neg =>
        rw [decide_eq_false m]
        have y := q H3 s23
        rw [dcd_f fun z => ?_] at y
        · exact iteT y
        · refine leads_no (prs_at hu) (fun z => m ?_) (iff.mp z)
          rcases z with rfl | rfl
          · exact List.mem_cons_self
          · exact List.mem_cons_of_mem _ List.mem_cons_self
      have m2 : h = u.1.1 ∨ h = u.1.2 := by
        rcases List.mem_cons.mp m with z | z
        · exact .inl z
        · exact .inr (List.mem_singleton.mp z)
      rw [decide_eq_true m]
      refine iteF ?_
      have iff2 := iff.trans (leads_cons n0 (prs_at hu) m2)
      refine ⟨_, rfl, _, rfl, p, _, _, _, rfl, rfl, SqT.of hp, atI_nat (j := 0) rfl, rfl, _, rfl, ite2 (fun z => ?_) (fun z => ?_)⟩
      · have z : h = u.1.1 := V.int.inj (of_decide_eq_true z)
        refine ⟨_, rfl, p, _, _, _, rfl, rfl, SqT.of hp, atI_nat (j := 1) rfl, _, _, _, rfl, s23, ?_⟩
        unfold endO at iff2
        rw [if_pos z] at iff2
        exact iff2
      · have z : h ≠ u.1.1 := fun e => z (decide_eq_true (congrArg V.int e))
        refine ⟨_, rfl, p, _, _, _, rfl, rfl, SqT.of hp, atI_nat (j := 0) rfl, _, _, _, rfl, s23, ?_⟩
        unfold endO at iff2
        rw [if_neg z] at iff2
        exact iff2
    · rintro σ H2 ⟨h, y5, y6, rfl, s2, iff⟩
      rw [List.length_map, List.drop_length, leads_nil] at iff
      have y := q H2 s2
      rw [dcd_iff iff, dcd_dec] at y
      refine ⟨_, rfl, _, rfl, rfl, ?_⟩
      have e : decide (V.int h = V.int b) = decide (h = b) := decide_eq_decide.mpr ⟨V.int.inj, congrArg V.int⟩
      show Q (.bl (decide (V.int h = V.int b))) H2
      rw [e]
      exact y
def spTopOf : Sp := fun vs H Q _ => ∃ (l : Addr) (ab : List Int) (p t : Int) (n : Nat), vs = [.ref l, .int p] ∧ H l = some (.lst (ab.map V.int)) ∧ Up ab p t n ∧ Q (.int t) H
theorem ok_topof (T : Top K mg) : FnOk P w K mg base CX0 1 T.a_topof T.d_topof ["above", "point"] spTopOf := by
  refine T.F_topof.ok sc_topof (fun vs H Q E h => ?_) (fun cdv A outer s H vs Q E hr h => ?_)
  · obtain ⟨l, ab, p, t, n, rfl, _⟩ := h
    rfl
  · obtain ⟨l, ab, p, t, n, rfl, hl, up, q⟩ := h
    refine ⟨_, (pss_cons (ps_while PassesOwn.never (pt_cmpR op_ne (pe_ix ix_list (pv 0) (pv 1) (fun _ _ => rfl)) (pv 1) (nomark _)) (pss_one (ps_set (i := 1) sc_topof.nd rfl (.inl rfl) (pe_ix ix_list (pv 0) (pv 1) (fun _ _ => rfl)))))
      (pss_one (ps_ret (pv 1)))), ?_⟩
    refine ⟨fun m σ H2 => ∃ x, σ = [some (.ref l), some (.int x)] ∧ H2 = H ∧ Up ab x t m, ⟨n, p, rfl, rfl, up⟩, ?_⟩
    rintro m σ H2 ⟨x, rfl, rfl, ux⟩
    cases ux with
    | root p0 h =>
      refine ⟨_, rfl, _, rfl, l, _, _, _, rfl, rfl, SqL.of hl, atI_up p0 h, _, rfl, rfl, _, rfl, iteNS rfl ?_⟩
      exact ⟨_, rfl, q⟩
    | @step _ y _ m p0 h ne u =>
      refine ⟨_, rfl, _, rfl, l, _, _, _, rfl, rfl, SqL.of hl, atI_up p0 h, _, rfl, rfl, _, rfl, ite2 (fun _ => ?_) (fun z => ?_)⟩
      · refine ⟨fun σ' H' => σ' = [some (.ref l), some (.int y)] ∧ H' = H2, fun σ' H' z => ⟨m, Nat.lt_succ_self m, y, z.1, z.2, u⟩, ?_⟩
        exact ⟨_, rfl, _, rfl, l, _, _, _, rfl, rfl, SqL.of hl, atI_up p0 h, rfl, rfl⟩
      · exfalso
        apply z
        have : decide (V.int y = V.int x) = false := decide_eq_false fun e => ne (V.int.inj e)
        show (!decide (V.int y = V.int x)) = true
        rw [this]
        rfl
def spRing : Sp := fun vs H Q _ => ∃ (t : Addr) (ys : List V) (ts : Ties) (m : Nat), vs = [.ref t, .int (m : Int)] ∧ H t = some (.lst ys) ∧ PAll H ys ts ∧ m ≤ 100 ∧ (∀ u ∈ ts, 0 ≤ u.1 ∧ u.1 < (m : Int) ∧ 0 ≤ u.2 ∧ u.2 < (m : Int)) ∧ ∀ H', Same H H' → Q (.bl (ringB ts)) H'
theorem ok_ring (T : Top K mg) : FnOk P w K mg base CX0 2 T.a_hasring T.d_hasring ["ties", "many"] spRing := by
  have G_topof : FnOk P w K mg base CX0 1 _ _ _ _ := ok_topof T
  refine T.F_hasring.ok sc_hasring (fun vs H Q E h => ?_) (fun cdv A outer s H vs Q E hr h => ?_)
  · obtain ⟨t, ys, ts, m, rfl, _⟩ := h
    rfl
  · obtain ⟨t, ys, ts, m, rfl, ht, pa, hm, bd, q⟩ := h
    refine ⟨_, (pss_cons (ps_set (i := 2) sc_hasring.nd rfl (.inl rfl) (pe_listRg rfl (by rfl) T.m_list (prg_1 (by rfl) T.m_range (pv 1))))
      (pss_cons (ps_for PassesOwn.never rfl (pi_list (pv 0)) (pg_tup rfl (pgs_cons (pg_name (i := 3) sc_hasring.nd rfl (.inl rfl)) (pgs_cons (pg_name (i := 4) sc_hasring.nd rfl (.inl rfl)) pgs_nil))) (pss_cons (ps_set (i := 5) sc_hasring.nd rfl (.inl rfl) (pe_call G_topof hr (by rfl) T.g_topof T.F_topof.kp T.b_topof .nil pass0 (pa_cons (pv 2) (pa_cons (pv 3) pa_nil))))
      (pss_cons (ps_set (i := 6) sc_hasring.nd rfl (.inl rfl) (pe_call G_topof hr (by rfl) T.g_topof T.F_topof.kp T.b_topof .nil pass0 (pa_cons (pv 2) (pa_cons (pv 4) pa_nil))))
      (pss_cons (ps_if (pt_cmpR op_eq (pv 5) (pv 6) (nomark _)) (pss_one (ps_ret pe_bl)) pss_nil)
      (pss_one (ps_asg (pv 5) (pg_sub (pv 2) (pv 6) set_list)))))))
      (pss_one (ps_ret pe_bl)))), ?_⟩
    refine ⟨_, rfl, _, rfl, RgOk.of_le (by omega) (by omega) (by omega) (by omega), fun l nl => ?_⟩
    have e0 : rgV 0 (m : Int) = ((List.range m).map fun (i : Nat) => (i : Int)).map V.int := by
      unfold rgV
      rw [List.map_map, show ((m : Int) - 0).toNat = m by omega]
      refine List.map_congr_left fun i _ => ?_
      show V.int (0 + (i : Int)) = V.int (i : Int)
      rw [Int.zero_add]
    rw [e0]
    have lts : ys.length = ts.length := pa.length
    refine ⟨_, rfl, t, rfl, ⟨_, SqL.of (same_new nl _ _ ht)⟩, for_list (xs := ys) (fun i σ H2 => ∃ (ab : List Int) (y3 y4 y5 y6 : Option V), σ = [some (.ref t), some (.int (m : Int)), some (.ref l), y3, y4, y5, y6] ∧ Same H H2 ∧ H2 l = some (.lst (ab.map V.int)) ∧ Uf2 (ts.take i) m ab ∧ ¬ Ring (ts.take i)) ⟨_, none, none, none, none, rfl, same_new nl, upd_same, uf20 m, ring_nil⟩ (fun i σ H2 _ z => by obtain ⟨_, _, _, _, _, _, z, _⟩ := z; exact SqL.of (z _ _ ht)) ?_ ?_⟩
    · rintro i v σ H2 hv ⟨ab, y3, y4, y5, y6, rfl, s2, hl2, U2, nr⟩
      obtain ⟨tt, u, rfl, hu, htt⟩ := pa.at hv
      obtain ⟨a, b⟩ := u
      have mu := bd _ (List.mem_of_getElem? hu)
      dsimp only at mu
      refine ⟨tt, _, rfl, SqT.of (s2 _ _ htt), rfl, _, _, rfl, _, _, rfl, rfl, ?_⟩
      have U := U2.uf
      obtain ⟨x1, n1, up1, r1⟩ := U.ex a mu.1 mu.2.1
      obtain ⟨x2, n2, up2, r2⟩ := U.ex b mu.2.2.1 mu.2.2.2
      refine ⟨_, rfl, _, rfl, l, ab, a, x1, n1, rfl, hl2, up1, ?_⟩
      refine ⟨_, rfl, _, rfl, l, ab, b, x2, n2, rfl, hl2, up2, ?_⟩
      have e1 : ts.take (i + 1) = ts.take i ++ [(a, b)] := by
        rw [List.take_succ, hu]
        rfl
      refine ⟨_, rfl, _, rfl, rfl, _, rfl, ite2 (fun z => ?_) (fun z => ?_)⟩
      · have e := V.int.inj (of_decide_eq_true z)
        have z := q H2 s2
        have rr : Ring ts := ring_take (i := i + 1) (by
          rw [e1]
          exact ring_snoc.mpr (.inr (r1.trans (e ▸ r2.symm))))
        rw [ringB_t rr] at z
        exact z
      have ne : x1 ≠ x2 := fun e => z (decide_eq_true (congrArg V.int e))
      have l2 : x2.toNat < ab.length := (List.getElem?_eq_some_iff.mp up2.top.2).1
      have upR : Uf2 (ts.take (i + 1)) m (ab.set x2.toNat x1) := by
        rw [e1]
        exact uf2_snoc U2 up1 r1 up2 r2 ne
      have nr' : ¬ Ring (ts.take (i + 1)) := by
        rw [e1]
        intro z
        rcases ring_snoc.mp z with z | z
        · exact nr z
        · exact U2.ne up1 up2 ne z
      refine ⟨_, rfl, _, rfl, _, rfl, l, _, x2, x2.toNat, rfl, rfl, hl2, ix_up up2.top.1 (by rw [List.length_map]; exact l2), ?_⟩
      refine ⟨ab.set x2.toNat x1, _, _, _, _, rfl, ?_, ?_, upR, nr'⟩
      · intro c o e
        rw [upd_ne (ne_of_none e nl)]
        exact s2 _ _ e
      · rw [upd_same, List.map_set]
    · rintro σ H2 ⟨ab, y3, y4, y5, y6, rfl, s2, hl2, U, nr⟩
      rw [lts, List.take_of_length_le (Nat.le_refl _)] at nr
      have z := q H2 s2
      rw [ringB_f nr] at z
      exact z

def spKept71 (T : Top K mg) : Sp := fun vs H Q _ => ∃ (m : Nat) (o t : Addr) (ys : List V) (os : O3s) (ks : List Int), vs = [.int (m : Int), .ref o, .ref t] ∧ H o = some (.tup ys) ∧ OAll H ys os ∧ H t = some (.tup (ks.map V.int)) ∧ ks.length ≤ 1000 ∧ (∀ k ∈ ks, 0 ≤ k ∧ k < (os.length : Int)) ∧ BdO os m ∧ m ≤ 100 ∧ Tb T.tbs H ∧ ∀ H', Kp H H' → Tb T.tbs H' → Q (.bl (dcd (ks.Pairwise (· < ·) ∧ ¬ Ring (tiesO os ks)))) H'
theorem ok_kept71 (T : Top K mg) (TBA : GxR.TabB base mg T.cA T.PA) (TBR : GxR.TabB base mg T.cR T.PR) (TBO : GxR.TabB base mg T.cO T.PO) : FnOk P w K mg base CX0 5 T.a_arekept T.d_arekept ["many", "offers", "thing"] (spKept71 T) := by
  have G_areoffers : FnOk P w K mg base CX0 4 _ _ _ _ := ok_areoffers T TBA TBO
  have G_isrising : FnOk P w K mg base CX0 2 _ _ _ _ := ok_ris T TBR
  have G_hasring : FnOk P w K mg base CX0 2 _ _ _ _ := ok_ring T
  refine T.F_arekept.ok sc_arekept (fun vs H Q E h => ?_) (fun cdv A outer s H vs Q E hr h => ?_)
  · obtain ⟨m, o, t, ys, os, ks, rfl, _⟩ := h
    rfl
  · obtain ⟨m, o, t, ys, os, ks, rfl, ho, oa, ht, len, rg, B, hm, tb, q⟩ := h
    have lo := oa.length
    refine ⟨_, (pss_cons (ps_if (PW.pt (pw_or (pt_not (pt_val (pe_call G_areoffers hr (by rfl) T.g_areoffers T.F_areoffers.kp T.b_areoffers .nil pass0 (pa_cons (pv 1) (pa_cons (pv 2) pa_nil))))) (pw_or1 (pt_not (pt_val (pe_call G_isrising (hr.mono (by decide)) (by rfl) T.g_isrising T.F_isrising.kp T.b_isrising .nil pass0 (pa_cons (pv 2) pa_nil))))))) (pss_one (ps_ret pe_bl)) pss_nil)
      (pss_one (ps_ret (pe_not (pe_call G_hasring (hr.mono (by decide)) (by rfl) T.g_hasring T.F_hasring.kp T.b_hasring .nil pass0 (pa_cons (pe_lc (own := [("number", 3)]) (g := gName 3) (tt := tYes) (by rfl) sc_arekept.nd (pi_tup (pv 2)) (blkOk_by (own := [("number", 3)]) (N := ["many", "offers", "thing", "number"]) (sc := defScope s_arekept) (by decide +kernel)) (fun _ _ _ _ _ => (pg_name (i := 3) sc_arekept.nd rfl (.inl rfl))) (fun _ _ _ _ _ => pts_nil) (fun _ _ _ _ _ => (pe_slice (sl_tupAK (K := K) rfl) (pe_ix (ix_tupK (K := K) rfl) (pv 1) (pv 3) (fun _ _ => rfl)) po_none (po_some pe_int)))) (pa_cons (pv 0) pa_nil))))))), ?_⟩
    refine ⟨_, rfl, _, rfl, o, t, ys, ks, rfl, ho, ht, len, tb, fun H1 k1 tb1 => ⟨_, rfl, ?_⟩⟩
    have no : ∀ {H'}, Kp H1 H' → Tb T.tbs H' → ¬ (ks.Pairwise (· < ·) ∧ ¬ Ring (tiesO os ks)) → Q (.bl false) H' := fun {H'} k' t' z => by
      have y := q H' (k1.trans k') t'
      rw [dcd_f z] at y
      exact y
    by_cases nd : ks.Nodup
    case neg =>
      rw [dcd_f fun z => nd z.1]
      exact iteT (iteT (no (Kp.refl H1) tb1 fun z => nd (ring_nd z.2)))
    rw [dcd_t ⟨nd, fun x mx => by rw [lo]; exact rg x mx⟩]
    refine iteF ?_
    refine ⟨_, rfl, t, ks, rfl, k1.tup ht, tb1, fun H2 k2 tb2 => ⟨_, rfl, ?_⟩⟩
    by_cases up : ks.Pairwise (· < ·)
    case neg =>
      rw [decide_eq_false up]
      exact iteT (no k2 tb2 fun z => up z.1)
    rw [decide_eq_true up]
    refine iteF ?_
    have k12 := k1.trans k2
    have ht2 := k12.tup ht
    have ho2 := k12.tup ho
    have oa2 := oa.kp k12
    refine ⟨_, rfl, t, rfl, ⟨_, SqT.of ht2⟩, fun D nD => ?_⟩
    refine lc_tup (xs := ks.map V.int) (fun i H3 => Same H2 H3 ∧ ∃ ws : List V, H3 D = some (.lst ws) ∧ PAll H3 ws (tiesO os (ks.take i)) ∧ ws.length = i) ⟨same_new nD, [], upd_same, .nil, rfl⟩ (fun i H3 _ z => SqT.of (z.1 _ _ ht2)) ?_ ?_
    · rintro i x H3 hx ⟨s3, ws, hD, pa, lw⟩
      rw [List.getElem?_map] at hx
      obtain ⟨n, hn, rfl⟩ := Option.map_eq_some_iff.mp hx
      obtain ⟨n0, n1⟩ := rg n (List.mem_of_getElem? hn)
      have hi : i < ks.length := (List.getElem?_eq_some_iff.mp hn).1
      obtain ⟨u, hu, _⟩ := in_os n0 n1
      obtain ⟨tp, e1, htp⟩ := (oa2.same s3).ix n0 hu
      refine ⟨rfl, yes_ite ?_⟩
      refine ⟨_, rfl, _, rfl, o, _, _, _, rfl, rfl, SqT.of (s3 _ _ ho2), e1, 2, rfl, slA rfl htp fun p H4 s4 hp => ?_⟩
      have hD4 := s4 _ _ hD
      refine ⟨ws, hD4, szl (by omega), same_put (s3.trans s4) nD, ws ++ [.ref p], upd_same, ?_, by rw [List.length_append, lw]; rfl⟩
      have z : PAll H4 (ws ++ [.ref p]) (tiesO os (ks.take (i + 1))) := by
        have hp2 : H4 p = some (.tup [.int u.1.1, .int u.1.2]) := hp
        rw [take_at hn, ties_app]
        have e2 : tiesO os [n] = [(u.1.1, u.1.2)] := by
          show [prO os n] = _
          rw [(prO_at hu).1]
        rw [e2]
        exact PAll.snoc hp2 (pa.same s4)
      exact z.put hD4
    · rintro H3 ⟨s3, ws, hD, pa, lw⟩
      rw [List.length_map, List.take_length] at pa
      refine ⟨_, rfl, D, ws, tiesO os ks, m, rfl, hD, pa, hm, fun u mu => ?_, fun H4 s4 => ?_⟩
      · have := bd_ties B rg u mu
        omega
      · have y := q H4 (k12.trans (Kp.of_same (s3.trans s4))) ((tb2.same s3).same s4)
        refine ⟨_, rfl, ?_⟩
        by_cases g : Ring (tiesO os ks)
        · rw [ringB_t g]
          rw [dcd_f fun z => z.2 g] at y
          exact y
        · rw [ringB_f g]
          rw [dcd_t ⟨up, g⟩] at y
          exact y
def spEnt71 (T : Top K mg) : Sp := fun vs H Q _ => ∃ (o c p t : Addr) (j : Int) (ys : List V) (os : O3s) (ks : List Int) (r : NR), vs = [.ref o, .ref c, .int j, .ref p] ∧ H o = some (.tup ys) ∧ OAll H ys os ∧ H c = some (.tup (ks.map V.int)) ∧ 0 ≤ j ∧ j < (os.length : Int) ∧ H p = some (.tup [.int r.1, .ref t]) ∧ H t = some (.tup (r.2.map V.int)) ∧ r.2.length ≤ 1000 ∧ (∀ k ∈ r.2, 0 ≤ k ∧ k < (os.length : Int)) ∧ Tb T.tbs H ∧ ∀ H', Kp H H' → Tb T.tbs H' → Q (.bl (dcd (r.1 = j ∧ GoodW os ks j r.2))) H'
theorem ok_ent71 (T : Top K mg) (TBA : GxR.TabB base mg T.cA T.PA) (TBO : GxR.TabB base mg T.cO T.PO) (TB : GxR.TabB base mg T.cE T.PE) : FnOk P w K mg base CX0 5 T.a_islightentry T.d_islightentry ["offers", "kept", "number", "thing"] (spEnt71 T) := by
  have G_iswhole : FnOk P w K mg base CX0 1 _ _ _ _ := ok_wholeI T
  have G_areoffers : FnOk P w K mg base CX0 4 _ _ _ _ := ok_areoffers T TBA TBO
  have G_leadson : FnOk P w K mg base CX0 1 _ _ _ _ := ok_leadson T
  refine okC T.F_islightentry T.hcE sc_islightentry (fun vs H Q E h => ?_) (fun A outer s H vs Q E hr h => ?_)
  · obtain ⟨o, c, p, t, j, ys, os, ks, r, rfl, _⟩ := h
    rfl
  · obtain ⟨o, c, p, t, j, ys, os, ks, ⟨r1, ns⟩, rfl, ho, oa, hc, j0, j1, hp, ht, len, rg, tb, q⟩ := h
    dsimp only at hp ht len rg q
    have lo := oa.length
    refine ⟨_, (pss_cons (ps_if (PW.pt (pw_or (pt_not (pt_val (pe_callB call_isi (by rfl) T.m_isinstance (by decide +kernel) (pa_cons (pv 3) (pa_cons (pe_bltn (v := .ty "tuple") (by rfl) T.m_tuple (by decide +kernel) rfl) pa_nil))))) (pw_or1 (pt_cmpR op_ne (pe_callB call_len_seq (by rfl) T.m_len PySem.boot_len (pa_cons (pv 3) pa_nil)) pe_int (nomark _))))) (pss_one (ps_ret pe_bl)) pss_nil)
      (pss_cons (ps_asg (pv 3) (pg_tup rfl (pgs_cons (pg_name (i := 4) sc_islightentry.nd rfl (.inl rfl)) (pgs_cons (pg_name (i := 5) sc_islightentry.nd rfl (.inl rfl)) pgs_nil))))
      (pss_cons (ps_if (PW.pt (pw_or (pt_not (pt_val (pe_call G_iswhole (hr.mono (by decide)) (by rfl) T.g_iswhole T.F_iswhole.kp T.b_iswhole .nil pass0 (pa_cons (pv 4) pa_nil)))) (pw_or (pt_cmpR op_ne (pv 4) (pv 2) (nomark _)) (pw_or1 (pt_not (pt_val (pe_call G_areoffers hr (by rfl) T.g_areoffers T.F_areoffers.kp T.b_areoffers .nil pass0 (pa_cons (pv 0) (pa_cons (pv 5) pa_nil))))))))) (pss_one (ps_ret pe_bl)) pss_nil)
      (pss_cons (ps_asg (pe_ix ix_tup (pv 0) (pv 2) (fun _ _ => rfl)) (pg_tup rfl (pgs_cons (pg_name (i := 6) sc_islightentry.nd rfl (.inl rfl)) (pgs_cons (pg_name (i := 7) sc_islightentry.nd rfl (.inl rfl)) (pgs_cons (pg_name (i := 8) sc_islightentry.nd rfl (.inr rfl)) pgs_nil)))))
      (pss_cons (ps_if (pt_not (pt_val (pe_allG (own := [("k", 9)]) hr rfl sc_islightentry.nd (by rfl) T.m_all (by decide +kernel) TB rfl (blkOk_by (own := [("k", 9)]) (N := ["offers", "kept", "number", "thing", "own", "way", "a", "b", "price", "k"]) (sc := defScope s_islightentry) (by decide +kernel)) (by rfl) (by decide +kernel) (by rfl) (pi_tup (pv 5)) (fun _ _ _ _ _ _ _ => (pg_name (i := 9) sc_islightentry.nd rfl (.inl rfl) (hf := Or.inr rfl))) (fun _ _ _ _ _ _ _ hr' => (pe_and (pe_cmpR (op_in_seqK (K := K) rfl) (pv 9) (pv 1) (by rfl)) (pe_one (pe_cmpR op_le (pe_ix (ix_tupK (K := K) rfl) (pe_ix (ix_tupK (K := K) rfl) (pv 0) (pv 9) (fun _ _ => rfl)) pe_int (fun _ _ => rfl)) (pv 8) (nomark _)))))))) (pss_one (ps_ret pe_bl)) pss_nil)
      (pss_one (ps_ret (pe_call G_leadson (hr.mono (by decide)) (by rfl) T.g_leadson T.F_leadson.kp T.b_leadson .nil pass0 (pa_cons (pv 0) (pa_cons (pv 5) (pa_cons (pv 6) (pa_cons (pv 7) pa_nil)))))))))))), ?_⟩
    have no : ∀ {H'}, Kp H H' → Tb T.tbs H' → ¬ (r1 = j ∧ GoodW os ks j ns) → Q (.bl false) H' := fun {H'} k' t' z => by
      have y := q H' k' t'
      rw [dcd_f z] at y
      exact y
    refine ⟨_, rfl, _, _, _, _, true, rfl, ClsV.ty _, .base (.tup hp), kit_ty (by decide +kernel), _, rfl, iteF ?_⟩
    refine ⟨_, rfl, p, _, rfl, .inr (SqT.of hp), rfl, _, rfl, iteF ?_⟩
    refine ⟨_, rfl, p, _, rfl, SqT.of hp, rfl, _, _, rfl, _, _, rfl, rfl, ?_⟩
    refine ⟨_, rfl, r1, rfl, _, rfl, iteF ?_⟩
    refine ⟨_, rfl, _, rfl, rfl, _, rfl, ite2 (fun z => iteT (no (Kp.refl H) tb fun y => ne_int z y.1)) (fun z => ?_)⟩
    obtain rfl : r1 = j := eq_int z
    clear z
    refine ⟨_, rfl, _, rfl, o, t, ys, ns, rfl, ho, ht, len, tb, fun H1 k1 tb1 => ⟨_, rfl, ?_⟩⟩
    by_cases nd : ns.Nodup
    case neg =>
      rw [dcd_f fun z => nd z.1]
      exact iteT (no k1 tb1 fun y => nd y.2.1)
    rw [dcd_t ⟨nd, fun x mx => by rw [lo]; exact rg x mx⟩]
    refine iteF ?_
    obtain ⟨u, hu, _⟩ := in_os j0 j1
    have ho1 := k1.tup ho
    have oa1 := oa.kp k1
    have hc1 := k1.tup hc
    have ht1 := k1.tup ht
    obtain ⟨tp, e1, htp⟩ := oa1.ix j0 hu
    have eo := prO_at hu
    refine ⟨_, rfl, _, rfl, o, _, _, _, rfl, rfl, SqT.of ho1, e1, tp, _, rfl, SqT.of htp, rfl, _, _, rfl, _, _, rfl, _, _, rfl, rfl, ?_⟩
    refine ⟨_, rfl, t, rfl, ⟨_, SqT.of ht1⟩, tb1.g T.mE, fun H2 tab => ?_⟩
    have k2 := Kp.of_tabd (tb1.g T.mE) tab
    have tb2 := tb1.tab T.nd T.mE (But.of_tab tab) tab.1
    refine gturns_it (walk_tup (xs := ns.map V.int)) (fun i H3 => Kp H1 H3 ∧ Tb T.tbs H3 ∧ ∀ x ∈ ns.take i, x ∈ ks ∧ pcO os x ≤ u.2) ⟨k2, tb2, fun x z => nomatch z⟩ (fun i H3 _ z => SqT.of (z.1.tup ht1)) ?_ (fun H3 z => ?_)
    · rintro i x H3 H4 N hi ⟨k3, tb3, al3⟩ ⟨rfl, hx⟩ nx
      rw [List.getElem?_map] at hx
      obtain ⟨e, he, rfl⟩ := Option.map_eq_some_iff.mp hx
      clear hx
      have mx := List.mem_of_getElem? he
      obtain ⟨x0, x1⟩ := rg e mx
      have no3 : ¬ (e ∈ ks ∧ pcO os e ≤ u.2) → ¬ (r1 = r1 ∧ GoodW os ks r1 ns) := fun z y => z (by rw [← eo.2]; exact y.2.2.1 e mx)
      refine ⟨rfl, _, rfl, _, rfl, c, _, rfl, .inr (SqT.of (k3.tup hc1)), rfl, flat_ints _, decide (e ∈ ks), congrArg V.bl (inV_ints e ks), ?_⟩
      by_cases mk : e ∈ ks
      case neg =>
        rw [decide_eq_false mk]
        exact iteF ⟨false, rfl, iteF ⟨_, rfl, iteT (no (k1.trans k3) tb3 (no3 fun z => mk z.1))⟩⟩
      rw [decide_eq_true mk]
      refine iteT ?_
      obtain ⟨v, hv, _⟩ := in_os x0 x1
      have ev := (prO_at hv).2
      obtain ⟨tq, e2, htq⟩ := (oa1.kp k3).ix x0 hv
      refine ⟨_, rfl, _, rfl, o, _, _, _, rfl, rfl, SqT.of (k3.tup ho1), e2, tq, _, _, _, rfl, rfl, SqT.of htq, atI_nat (j := 2) rfl, _, rfl, _, _, rfl, rfl, decide (v.2 ≤ u.2), rfl, ?_⟩
      by_cases le : v.2 ≤ u.2
      · rw [decide_eq_true le]
        refine iteT (nx _ ⟨k3, tb3, fun y my => ?_⟩)
        rw [take_at he] at my
        rcases List.mem_append.mp my with my | my
        · exact al3 y my
        · rw [List.mem_singleton.mp my, ev]
          exact ⟨mk, le⟩
      · rw [decide_eq_false le]
        exact iteF ⟨_, rfl, iteT (no (k1.trans k3) tb3 (no3 fun z => le (by rw [← ev]; exact z.2)))⟩
    · obtain ⟨k3, tb3, al3⟩ := z
      rw [List.length_map, List.take_length] at al3
      refine ⟨_, rfl, iteF ?_⟩
      refine ⟨_, rfl, _, rfl, _, rfl, _, rfl, o, t, _, _, ys, os, ns, rfl, k3.tup ho1, oa1.kp k3, k3.tup ht1, rg, fun H4 s4 => ?_⟩
      have y := q H4 ((k1.trans k3).trans (Kp.of_same s4)) (tb3.same s4)
      have e : (r1 = r1 ∧ GoodW os ks r1 ns) ↔ Leads (prs os) u.1.2 u.1.1 ns := by
        unfold GoodW
        rw [eo.1, eo.2]
        exact ⟨fun z => z.2.2.2, fun z => ⟨rfl, nd, al3, z⟩⟩
      rw [dcd_iff e] at y
      exact y
def GoodP (os : O3s) (ks : List Int) (rs : List NR) : Prop := rs.map Prod.fst = goneO os.length ks ∧ ∀ r ∈ rs, GoodW os ks r.1 r.2
def spPap71 (T : Top K mg) : Sp := fun vs H Q _ => ∃ (o c p : Addr) (ys xs : List V) (os : O3s) (ks : List Int) (rs : List NR), vs = [.ref o, .ref c, .ref p] ∧ H o = some (.tup ys) ∧ OAll H ys os ∧ os.length ≤ 100 ∧ H c = some (.tup (ks.map V.int)) ∧ H p = some (.tup xs) ∧ NAll H xs rs ∧ (∀ r ∈ rs, r.2.length ≤ 1000 ∧ ∀ k ∈ r.2, 0 ≤ k ∧ k < (os.length : Int)) ∧ Tb T.tbs H ∧ ∀ H', Kp H H' → Tb T.tbs H' → Q (.bl (dcd (GoodP os ks rs))) H'
theorem ok_pap71 (T : Top K mg) (TBA : GxR.TabB base mg T.cA T.PA) (TBO : GxR.TabB base mg T.cO T.PO) (TBE : GxR.TabB base mg T.cE T.PE) (TB : GxR.TabB base mg T.cP T.PP) : FnOk P w K mg base CX0 8 T.a_islightpaper T.d_islightpaper ["offers", "kept", "thing"] (spPap71 T) := by
  have G_islightentry : FnOk P w K mg base CX0 5 _ _ _ _ := ok_ent71 T TBA TBO TBE
  refine okC T.F_islightpaper T.hcP sc_islightpaper (fun vs H Q E h => ?_) (fun A outer s H vs Q E hr h => ?_)
  · obtain ⟨o, c, p, ys, xs, os, ks, rs, rfl, _⟩ := h
    rfl
  · obtain ⟨o, c, p, ys, xs, os, ks, rs, rfl, ho, oa, lo100, hc, hp, ra, rok, tb, q⟩ := h
    have lo := oa.length
    have lr := ra.length
    refine ⟨_, (pss_cons (ps_setLc (i := 3) (own := [("number", 4)]) (g := gName 4) (by rfl) sc_islightpaper.nd rfl rfl (sw_true rfl rfl rfl (by decide +kernel)) (pi_range1 (by rfl) T.m_range (pa_cons (pe_callB call_len_seq (by rfl) T.m_len PySem.boot_len (pa_cons (pv 0) pa_nil)) pa_nil)) (blkOk_by (own := [("number", 4)]) (N := ["offers", "kept", "thing", "gone", "number", "entry"]) (sc := defScope s_islightpaper) (by decide +kernel)) (fun _ _ _ _ _ => (pg_name (i := 4) sc_islightpaper.nd rfl (.inl rfl))) (fun _ _ _ _ _ => (pts_one (pt_cmpR (op_notIn_seqK (K := K) rfl) (pv 4) (pv 1) (by rfl)))) (fun _ _ _ _ _ => (pv 4)))
      (pss_cons (ps_if (PW.pt (pw_or (pt_not (pt_val (pe_callB call_isi (by rfl) T.m_isinstance (by decide +kernel) (pa_cons (pv 2) (pa_cons (pe_bltn (v := .ty "tuple") (by rfl) T.m_tuple (by decide +kernel) rfl) pa_nil))))) (pw_or1 (pt_cmpR op_ne (pe_callB call_len_seq (by rfl) T.m_len PySem.boot_len (pa_cons (pv 2) pa_nil)) (pe_callB call_len_seq (by rfl) T.m_len PySem.boot_len (pa_cons (pv 3) pa_nil)) (nomark _))))) (pss_one (ps_ret pe_bl)) pss_nil)
      (pss_one (ps_ret (pe_allG (own := [("number", 4), ("entry", 5)]) hr rfl sc_islightpaper.nd (by rfl) T.m_all (by decide +kernel) TB rfl (blkOk_by (own := [("number", 4), ("entry", 5)]) (N := ["offers", "kept", "thing", "gone", "number", "entry"]) (sc := defScope s_islightpaper) (by decide +kernel)) (by rfl) (by decide +kernel) (by rfl) (pi_zipM (by rfl) T.m_zip (pa_cons (pv 3) (pa_cons (pv 2) pa_nil))) (fun _ _ _ _ _ _ _ => (pg_tupK (K := K) (n := 2) rfl rfl (pgs_cons (pg_name (i := 4) sc_islightpaper.nd rfl (.inl rfl) (hf := Or.inr rfl)) (pgs_cons (pg_name (i := 5) sc_islightpaper.nd rfl (.inl rfl) (hf := Or.inr rfl)) pgs_nil)) rfl)) (fun _ _ _ _ _ _ _ hr' => (pe_call G_islightentry (hr'.mono (by decide)) (by rfl) T.g_islightentry T.F_islightentry.kp T.b_islightentry .nil pass0 (pa_cons (pv 0) (pa_cons (pv 1) (pa_cons (pv 4) (pa_cons (pv 5) pa_nil))))))))))), ?_⟩
    refine ⟨_, rfl, o, _, rfl, .inr (SqT.of ho), _, rfl, by omega, by omega, fun D nD => ?_⟩
    refine lc_range (lo := 0) (n := ys.length) (fun i H1 => Same H H1 ∧ H1 D = some (.lst ((goneO i ks).map V.int))) ⟨same_new nD, upd_same⟩ ?_ ?_
    · rintro i H1 hi ⟨s1, hD⟩
      rw [Int.zero_add]
      refine ⟨rfl, _, rfl, _, rfl, c, _, rfl, .inr (SqT.of (s1 _ _ hc)), rfl, flat_ints _, !decide ((i : Int) ∈ ks), congrArg (fun z => V.bl (!z)) (inV_ints (i : Int) ks), ?_⟩
      rw [gone_succ]
      by_cases mk : (i : Int) ∈ ks
      · rw [decide_eq_true mk, if_pos mk]
        exact iteF ⟨s1, hD⟩
      · rw [decide_eq_false mk, if_neg mk]
        refine iteT ⟨_, rfl, _, hD, ?_, same_put s1 nD, ?_⟩
        · rw [List.length_map]
          have := gone_len (i := i) (ks := ks)
          exact szl (by omega)
        · rw [upd_same, List.map_append]
          rfl
    rintro H1 ⟨s1, hD⟩
    rw [lo] at hD
    have hp1 := s1 _ _ hp
    have no : ∀ {H'}, Kp H1 H' → Tb T.tbs H' → ¬ GoodP os ks rs → Q (.bl false) H' := fun {H'} k' t' z => by
      have y := q H' ((Kp.of_same s1).trans k') t'
      rw [dcd_f z] at y
      exact y
    have tb1 := tb.same s1
    refine ⟨_, rfl, _, _, _, _, true, rfl, ClsV.ty _, .base (.tup hp1), kit_ty (by decide +kernel), _, rfl, iteF ?_⟩
    refine ⟨_, rfl, p, _, rfl, .inr (SqT.of hp1), _, rfl, D, _, rfl, .inl (SqL.of hD), rfl, _, rfl, ite2 (fun z => ?_) (fun z => ?_)⟩
    · refine no (Kp.refl H1) tb1 fun y => ne_int z ?_
      have := congrArg List.length y.1
      rw [List.length_map] at this ⊢
      omega
    have len := eq_int z
    clear z
    rw [List.length_map] at len
    refine ⟨_, rfl, _, rfl, D, p, _, xs, rfl, SqL.of hD, SqT.of hp1, tb1.g T.mP, fun H2 tab => ?_⟩
    have k2 := Kp.of_tabd (tb1.g T.mP) tab
    have tb2 := tb1.tab T.nd T.mP (But.of_tab tab) tab.1
    refine gturns_it (walk_zipM (xs := (goneO os.length ks).map V.int) (ys := xs) (n := xs.length) (by rw [List.length_map]; omega)) (fun i H3 => Kp H1 H3 ∧ Tb T.tbs H3 ∧ ∀ (k : Nat) (r : NR), k < i → rs[k]? = some r → (goneO os.length ks)[k]? = some r.1 ∧ GoodW os ks r.1 r.2) ⟨k2, tb2, fun k r z => absurd z (Nat.not_lt_zero _)⟩ (fun i H3 _ z => ⟨SqL.of (z.1.lst hD), SqT.of (z.1.tup hp1)⟩) ?_ (fun H3 z => ?_)
    · rintro i x H3 H4 N hi ⟨k3, tb3, al3⟩ ⟨g, x, y, rfl, ng, rfl, hx, hy⟩ nx
      dsimp only at hx hy
      rw [List.getElem?_map] at hx
      obtain ⟨j, hj, rfl⟩ := Option.map_eq_some_iff.mp hx
      have ra3 := (ra.same s1).kp k3
      obtain ⟨e, t, r, rfl, hr', he, ht⟩ := ra3.at hy
      have mr := List.mem_of_getElem? hr'
      have mj := (mem_gone.mp (List.mem_of_getElem? hj)).1
      have sg := same_new (o := .tup [V.int j, V.ref e]) ng
      refine ⟨g, _, rfl, SqT.of upd_same, rfl, _, _, rfl, _, _, rfl, rfl, rfl, _, rfl, _, rfl, _, rfl, _, rfl, o, c, e, t, j, ys, os, ks, r, rfl, sg _ _ (k3.tup (s1 _ _ ho)), ((oa.same s1).kp k3).same sg, sg _ _ (k3.tup (s1 _ _ hc)), mj.1, mj.2, sg _ _ he, sg _ _ ht, (rok r mr).1, (rok r mr).2, tb3.same sg, fun H5 k5 tb5 => ⟨_, rfl, ?_⟩⟩
      have k35 := (k3.same sg).trans k5
      by_cases gd : r.1 = j ∧ GoodW os ks j r.2
      · rw [dcd_t gd]
        refine iteT (nx _ ⟨k35, tb5, fun k r' lt h2 => ?_⟩)
        by_cases ek : k < i
        · exact al3 k r' ek h2
        · have ek : k = i := by omega
          subst ek
          rw [hr'] at h2
          cases Option.some.inj h2
          rw [gd.1]
          exact ⟨hj, gd.2⟩
      · rw [dcd_f gd]
        refine iteF (no k35 tb5 fun z => gd ?_)
        have e2 : (rs.map Prod.fst)[i]? = some r.1 := by rw [List.getElem?_map, hr']; rfl
        rw [z.1, hj] at e2
        have e3 := Option.some.inj e2
        refine ⟨e3.symm, ?_⟩
        have y := z.2 r mr
        rw [← e3] at y
        exact y
    · obtain ⟨k3, tb3, al3⟩ := z
      have y := q H3 ((Kp.of_same s1).trans k3) tb3
      rw [dcd_t (show GoodP os ks rs from ⟨List.ext_getElem? fun k => ?_, fun r mr => ?_⟩)] at y
      · exact y
      · rw [List.getElem?_map]
        by_cases lk : k < rs.length
        · have e := List.getElem?_eq_getElem lk
          rw [e]
          exact (al3 k _ (by omega) e).1.symm
        · rw [List.getElem?_eq_none (by omega), List.getElem?_eq_none (by omega)]
          rfl
      · obtain ⟨k, lk, e⟩ := List.getElem_of_mem mr
        have e := (List.getElem?_eq_getElem lk).trans (congrArg some e)
        exact (al3 k r (by omega) e).2
theorem shw_iff {os : O3s} {ks : List Int} {rs : List NR} : Shw os ks rs ↔ (ks.Pairwise (· < ·) ∧ ¬ Ring (tiesO os ks)) ∧ GoodP os ks rs := ⟨fun z => ⟨⟨z.up, z.nr⟩, z.hd, z.ok⟩, fun z => ⟨z.1.1, z.1.2, z.2.1, z.2.2⟩⟩
def spShows71 (T : Top K mg) : Sp := fun vs H Q _ => ∃ (m : Nat) (o f c p : Addr) (ys xs : List V) (os : O3s) (ks : List Int) (rs : List NR), vs = [.int (m : Int), .ref o, .ref f] ∧ H f = some (.tup [.ref c, .ref p]) ∧ BdO os m ∧ m ≤ 100 ∧ H o = some (.tup ys) ∧ OAll H ys os ∧ os.length ≤ 100 ∧ H c = some (.tup (ks.map V.int)) ∧ ks.length ≤ 1000 ∧ (∀ k ∈ ks, 0 ≤ k ∧ k < (os.length : Int)) ∧ H p = some (.tup xs) ∧ NAll H xs rs ∧ (∀ r ∈ rs, r.2.length ≤ 1000 ∧ ∀ k ∈ r.2, 0 ≤ k ∧ k < (os.length : Int)) ∧ Tb T.tbs H ∧ ∀ H', Kp H H' → Tb T.tbs H' → Q (.bl (dcd (Shw os ks rs))) H'
theorem ok_shows71 (T : Top K mg) (TBA : GxR.TabB base mg T.cA T.PA) (TBR : GxR.TabB base mg T.cR T.PR) (TBO : GxR.TabB base mg T.cO T.PO) (TBE : GxR.TabB base mg T.cE T.PE) (TBP : GxR.TabB base mg T.cP T.PP) : FnOk P w K mg base CX0 9 T.a_showslightest T.d_showslightest ["many", "offers", "thing"] (spShows71 T) := by
  have G_arekept : FnOk P w K mg base CX0 5 _ _ _ _ := ok_kept71 T TBA TBR TBO
  have G_islightpaper : FnOk P w K mg base CX0 8 _ _ _ _ := ok_pap71 T TBA TBO TBE TBP
  refine T.F_showslightest.ok sc_showslightest (fun vs H Q E h => ?_) (fun cdv A outer s H vs Q E hr h => ?_)
  · obtain ⟨m, o, f, c, p, ys, xs, os, ks, rs, rfl, _⟩ := h
    rfl
  · obtain ⟨m, o, f, c, p, ys, xs, os, ks, rs, rfl, hf, B, hm, ho, oa, lo100, hc, lk, rk, hp, ra, rok, tb, q⟩ := h
    refine ⟨_, (pss_cons (ps_if (PW.pt (pw_or (pt_not (pt_val (pe_callB call_isi (by rfl) T.m_isinstance (by decide +kernel) (pa_cons (pv 2) (pa_cons (pe_bltn (v := .ty "tuple") (by rfl) T.m_tuple (by decide +kernel) rfl) pa_nil))))) (pw_or1 (pt_cmpR op_ne (pe_callB call_len_seq (by rfl) T.m_len PySem.boot_len (pa_cons (pv 2) pa_nil)) pe_int (nomark _))))) (pss_one (ps_ret pe_bl)) pss_nil)
      (pss_cons (ps_asg (pv 2) (pg_tup rfl (pgs_cons (pg_name (i := 3) sc_showslightest.nd rfl (.inl rfl)) (pgs_cons (pg_name (i := 4) sc_showslightest.nd rfl (.inl rfl)) pgs_nil))))
      (pss_one (ps_ret (pe_and (pe_call G_arekept (hr.mono (by decide)) (by rfl) T.g_arekept T.F_arekept.kp T.b_arekept .nil pass0 (pa_cons (pv 0) (pa_cons (pv 1) (pa_cons (pv 3) pa_nil)))) (pe_one (pe_call G_islightpaper hr (by rfl) T.g_islightpaper T.F_islightpaper.kp T.b_islightpaper .nil pass0 (pa_cons (pv 1) (pa_cons (pv 3) (pa_cons (pv 4) pa_nil)))))))))), ?_⟩
    refine ⟨_, rfl, _, _, _, _, true, rfl, ClsV.ty _, .base (.tup hf), kit_ty (by decide +kernel), _, rfl, iteF ?_⟩
    refine ⟨_, rfl, f, _, rfl, .inr (SqT.of hf), rfl, _, rfl, iteF ?_⟩
    refine ⟨_, rfl, f, _, rfl, SqT.of hf, rfl, _, _, rfl, _, _, rfl, rfl, ?_⟩
    refine ⟨_, rfl, _, rfl, _, rfl, m, o, c, ys, os, ks, rfl, ho, oa, hc, lk, rk, B, hm, tb, fun H1 k1 tb1 => ⟨_, rfl, ?_⟩⟩
    by_cases g : ks.Pairwise (· < ·) ∧ ¬ Ring (tiesO os ks)
    · rw [dcd_t g]
      refine iteT ?_
      refine ⟨_, rfl, _, rfl, _, rfl, o, c, p, ys, xs, os, ks, rs, rfl, k1.tup ho, oa.kp k1, lo100, k1.tup hc, k1.tup hp, ra.kp k1, rok, tb1, fun H2 k2 tb2 => ?_⟩
      have y := q H2 (k1.trans k2) tb2
      rw [dcd_iff (shw_iff.trans ⟨fun z => z.2, fun z => ⟨g, z⟩⟩)] at y
      exact y
    · rw [dcd_f g]
      refine iteF ?_
      have y := q H1 k1 tb1
      rw [dcd_f fun z => g (shw_iff.mp z).1] at y
      exact y
end

end My
namespace My
open PySem L2
/-! ### a dict of ties -/
def upO (os : Ofs) (k i : Nat) : Ofs := ((List.range i).filter fun j => decide (j ≠ k)).map fun j => (os[j]?).getD (0, 0)
theorem mem_upO {os : Ofs} {k i : Nat} {t : Int × Int} (hi : i ≤ os.length) : t ∈ upO os k i ↔ ∃ j, j < i ∧ j ≠ k ∧ os[j]? = some t := by
  unfold upO
  rw [List.mem_map]
  constructor
  · rintro ⟨j, mj, e⟩
    obtain ⟨m1, m2⟩ := List.mem_filter.mp mj
    have l := List.mem_range.mp m1
    refine ⟨j, l, of_decide_eq_true m2, ?_⟩
    rw [List.getElem?_eq_getElem (by omega)] at e ⊢
    exact congrArg some e
  · rintro ⟨j, l, ne, e⟩
    exact ⟨j, List.mem_filter.mpr ⟨List.mem_range.mpr l, decide_eq_true ne⟩, by rw [e]; rfl⟩
def othF (os : Ofs) (k : Nat) : Nat → Dt
  | 0 => []
  | i + 1 => if i = k then othF os k i else putD (othF os k i) (mm ((os[i]?).getD (0, 0))) (i : Int)
theorem othF_len (os : Ofs) (k : Nat) : ∀ i, (othF os k i).length ≤ i
  | 0 => Nat.le_refl _
  | i + 1 => by
    have ih := othF_len os k i
    unfold othF
    split
    · omega
    · exact Nat.le_trans (putD_len _ _ _) (Nat.succ_le_succ ih)
theorem othF_keys {os : Ofs} {k : Nat} : ∀ {i}, i ≤ os.length → ∀ q, q ∈ keysD (othF os k i) ↔ ∃ t ∈ upO os k i, q = mm t
  | 0, _, q => ⟨(fun z => nomatch z), fun ⟨t, m, _⟩ => by
    obtain ⟨j, lj, _⟩ := (mem_upO (Nat.zero_le _)).mp m
    exact absurd lj (Nat.not_lt_zero _)⟩
  | i + 1, hi, q => by
    have ih := othF_keys (os := os) (k := k) (i := i) (by omega) q
    have hu : os[i]? = some os[i] := List.getElem?_eq_getElem (by omega)
    have up1 : ∀ t, t ∈ upO os k (i + 1) ↔ t ∈ upO os k i ∨ (i ≠ k ∧ t = os[i]) := fun t => by
      rw [mem_upO (by omega), mem_upO (by omega)]
      constructor
      · rintro ⟨j, lj, ne, e⟩
        by_cases ej : j = i
        · subst ej
          rw [hu] at e
          exact .inr ⟨ne, (Option.some.inj e).symm⟩
        · exact .inl ⟨j, by omega, ne, e⟩
      · rintro (⟨j, lj, ne, e⟩ | ⟨ne, e⟩)
        · exact ⟨j, by omega, ne, e⟩
        · exact ⟨i, by omega, ne, by rw [e]; exact hu⟩
    unfold othF
    by_cases ek : i = k
    · rw [if_pos ek, ih]
      exact ⟨fun ⟨t, m, e⟩ => ⟨t, (up1 t).mpr (.inl m), e⟩, fun ⟨t, m, e⟩ => ((up1 t).mp m).elim (fun m => ⟨t, m, e⟩) fun z => absurd ek z.1⟩
    · rw [if_neg ek, putD_keys, ih, hu]
      constructor
      · rintro (⟨t, m, e⟩ | e)
        · exact ⟨t, (up1 t).mpr (.inl m), e⟩
        · exact ⟨_, (up1 _).mpr (.inr ⟨ek, rfl⟩), e⟩
      · rintro ⟨t, m, e⟩
        rcases (up1 t).mp m with m | ⟨_, et⟩
        · exact .inl ⟨t, m, e⟩
        · exact .inr (by rw [e, et]; rfl)
theorem othF_at {os : Ofs} {k : Nat} {q : Int × Int} {v : Int} : ∀ {i}, i ≤ os.length → (q, v) ∈ othF os k i → ∃ (j : Nat) (t : Int × Int), v = (j : Int) ∧ j ≠ k ∧ os[j]? = some t ∧ mm t = q
  | 0, _, h => nomatch h
  | i + 1, hi, h => by
    unfold othF at h
    split at h
    · exact othF_at (i := i) (by omega) h
    · rename_i ne
      rcases putD_mem h with h | h
      · exact othF_at (i := i) (by omega) h
      · have hu : os[i]? = some os[i] := List.getElem?_eq_getElem (by omega)
        rw [hu] at h
        exact ⟨i, os[i], (congrArg Prod.snd h), ne, hu, (congrArg Prod.fst h).symm⟩
structure RndX (n : Nat) (os : Ofs) (k : Nat) (ab : Int × Int) (ws : List Int) : Prop where
  ex : ∃ wy, Way (keysD (othF os k os.length)) ab.1 ab.2 wy ∧ WayX n (keysD (othF os k os.length)) ab.1 ab.2 wy ∧ NumsOf (othF os k os.length) wy ws
theorem RndX.det {n : Nat} {os : Ofs} {k : Nat} {ab : Int × Int} {ws us : List Int} (h1 : RndX n os k ab ws) (h2 : RndX n os k ab us) : ws = us := by
  obtain ⟨wy, _, x1, n1⟩ := h1.ex
  obtain ⟨wz, _, x2, n2⟩ := h2.ex
  have e := x1.det x2
  subst e
  exact n1.det n2
theorem RndX.rch {n : Nat} {os : Ofs} {k : Nat} {ab : Int × Int} {ws : List Int} (h : RndX n os k ab ws) : Rch (upO os k os.length) ab.1 ab.2 := by
  obtain ⟨wy, x1, _⟩ := h.ex
  exact (mm_rch (othF_keys (Nat.le_refl _))).mp x1.wk.rch
section
variable {P : Program} {w : World} {K : PySem.W.Frag} {mg : Str → Option Value} {base : Heap}
def fldsH (n : Int) (O : Addr) : List (Str × V) := putF "offers" (.ref O) (putF "many" (.int n) [])
theorem mo : ¬ (("many" : Str) = "offers") := by decide +kernel
theorem fldh_many (n : Int) (O : Addr) : (fldsH n O).lookup ("many" : Str) = some (.int n) := by
  unfold fldsH
  rw [lookup_putF, if_neg mo, lookup_putF, if_pos rfl]
theorem fldh_offers (n : Int) (O : Addr) : (fldsH n O).lookup ("offers" : Str) = some (.ref O) := by
  unfold fldsH
  rw [lookup_putF, if_pos rfl]
theorem fldh_no (n : Int) (O : Addr) {m : Str} (h1 : ¬ m = "offers") (h2 : ¬ m = "many") : (fldsH n O).lookup m = none := by
  unfold fldsH
  rw [lookup_putF, if_neg h1, lookup_putF, if_neg h2]
  all_goals rfl
structure HoldAt (C : Addr) (H : Hp) (h O : Addr) (n : Nat) (ys : List V) (os : Ofs) : Prop where
  ob : ∃ dx, H h = some (.ins C dx (fldsH (n : Int) O))
  lo : H O = some (.lst ys)
  pa : PAll H ys os
theorem HoldAt.same {C : Addr} {H H' : Hp} {h O : Addr} {n : Nat} {ys : List V} {os : Ofs} (A : HoldAt C H h O n ys os) (s : Same H H') : HoldAt C H' h O n ys os := by
  obtain ⟨dx, e⟩ := A.ob
  exact ⟨⟨dx, s _ _ e⟩, s _ _ A.lo, A.pa.same s⟩
def spOthers (C : Addr) : Sp := fun vs H Q _ => ∃ (h O : Addr) (n k : Nat) (ys : List V) (os : Ofs), vs = [.ref h, .int (k : Int)] ∧ HoldAt C H h O n ys os ∧ os.length ≤ 63 ∧ ∀ (d : Addr) (l : Dt) (H' : Hp), Same H H' → H' d = some (.dT (kvD l)) → l = othF os k os.length → Q (.ref d) H'
theorem ok_others (T : Top K mg) : FnOk P w K mg base CX0 2 T.a_Holdingothers T.d_Holdingothers ["self", "number"] (spOthers T.C_Holding) := by
  have G_tieof : FnOk P w K mg base CX0 1 _ _ _ _ := ok_tieof T
  refine T.F_Holdingothers.ok sc_Holdingothers (fun vs H Q E h => ?_) (fun cdv A outer s H vs Q E hr h => ?_)
  · obtain ⟨h, O, n, k, ys, os, rfl, _⟩ := h
    rfl
  · obtain ⟨h, O, n, k, ys, os, rfl, A, lo, q⟩ := h
    obtain ⟨dx, hh⟩ := A.ob
    have ly := A.pa.length
    refine ⟨_, (pss_one (ps_ret (pe_dcT rfl (u0 hr) sc_Holdingothers.nd (pi_enum (by rfl) T.m_enumerate (pa_cons (pe_fld (pv 0) rfl) pa_nil)) (blkOk_by (own := [("k", 2), ("a", 3), ("b", 4)]) (N := ["self", "number", "k", "a", "b"]) (sc := defScope s_Holdingothers) (by decide +kernel)) (fun _ _ _ _ _ => (pg_tupK (K := K) (n := 2) rfl rfl (pgs_cons (pg_name (i := 2) sc_Holdingothers.nd rfl (.inl rfl)) (pgs_cons (pg_tupK (K := K) (n := 2) rfl rfl (pgs_cons (pg_name (i := 3) sc_Holdingothers.nd rfl (.inl rfl)) (pgs_cons (pg_name (i := 4) sc_Holdingothers.nd rfl (.inl rfl)) pgs_nil)) rfl) pgs_nil)) rfl)) (fun _ _ _ _ _ => (pts_one (pt_cmpR op_ne (pv 2) (pv 1) (nomark _)))) (fun _ _ _ _ _ => (pe_call G_tieof hr (by rfl) T.g_tieof T.F_tieof.kp T.b_tieof .nil pass0 (pa_cons (pv 3) (pa_cons (pv 4) pa_nil)))) (fun _ _ _ _ _ => (pv 2))))), ?_⟩
    refine ⟨_, rfl, h, T.C_Holding, dx, _, _, rfl, hh, T.cl_Holding, T.na_Holding_offers, fldh_offers _ _, O, _, rfl, SqL.of A.lo, fun D nD => ?_⟩
    refine dcT_it (walk_enum (xs := ys)) (fun i H1 => Same H H1 ∧ H1 D = some (.dT (kvD (othF os k i)))) ⟨same_new nD, upd_same⟩ (fun i H1 _ z => SqL.of (z.1 _ _ A.lo)) ?_ ?_
    · rintro i x H1 H2 hi ⟨s1, hD⟩ ⟨T0, x, y, rfl, nT, rfl, hx, hy⟩
      dsimp only at hx hy
      obtain rfl : V.int (i : Int) = x := Option.some.inj hx
      obtain ⟨tp, u, rfl, hu, htp⟩ := (A.pa.same s1).at hy
      have sT := same_new (o := .tup [V.int (i : Int), V.ref tp]) nT
      have ul : i < os.length := (List.getElem?_eq_some_iff.mp hu).1
      have ll := othF_len os k i
      refine ⟨T0, _, rfl, SqT.of upd_same, rfl, _, _, rfl, _, _, rfl, ⟨tp, _, rfl, SqT.of (sT _ _ htp), rfl, _, _, rfl, _, _, rfl, rfl, rfl, ?_⟩⟩
      refine ⟨rfl, _, rfl, _, rfl, rfl, !decide (V.int (i : Int) = V.int (k : Int)), rfl, ?_⟩
      have hD2 := sT _ _ hD
      have s2 := s1.trans sT
      unfold othF
      by_cases ek : i = k
      · have c : (!decide (V.int (i : Int) = V.int (k : Int))) = false := by simp [ek]
        rw [c, if_pos ek]
        exact iteF ⟨s2, hD2⟩
      · have c : (!decide (V.int (i : Int) = V.int (k : Int))) = true := by
          rw [decide_eq_false fun z => ek (by have := V.int.inj z; omega)]
          rfl
        rw [c, if_neg ek]
        refine iteT ?_
        refine ⟨_, rfl, _, rfl, u, rfl, fun t H4 s4 nt ht => ?_⟩
        have hD4 := s4 _ _ hD2
        refine ⟨_, rfl, kvD (othF os k i), keyT (mm u), t, rfl, ht, hD4, szl (by unfold kvD; rw [List.length_map]; omega), same_put (s2.trans s4) nD, ?_⟩
        rw [upd_same, kvD_put, hu]
        rfl
    · rintro H1 ⟨s1, hD⟩
      rw [ly] at hD
      exact q D _ H1 s1 hD rfl
def BdO2 (os : Ofs) (n : Nat) : Prop := ∀ t ∈ os, 0 ≤ t.1 ∧ t.1 < (n : Int) ∧ 0 ≤ t.2 ∧ t.2 < (n : Int)
def spWayR (C : Addr) : Sp := fun vs H Q _ => ∃ (h O : Addr) (n k : Nat) (ys : List V) (os : Ofs) (ab : Int × Int), vs = [.ref h, .int (k : Int)] ∧ HoldAt C H h O n ys os ∧ BdO2 os n ∧ n ≤ 40 ∧ os.length ≤ 63 ∧ os[k]? = some ab ∧ ∀ (v : V) (H' : Hp), Same H H' → (v = .non ∧ ¬ Rch (upO os k os.length) ab.1 ab.2 ∨ ∃ (t : Addr) (ws : List Int), v = .ref t ∧ H' t = some (.tup (ws.map V.int)) ∧ RndX n os k ab ws) → Q v H'
theorem ok_wayround (T : Top K mg) : FnOk P w K mg base CX0 5 T.a_Holdingwayround T.d_Holdingwayround ["self", "number"] (spWayR T.C_Holding) := by
  have G_offersalong : FnOk P w K mg base CX0 4 _ _ _ _ := ok_along T
  have G_Holdingothers : FnOk P w K mg base CX0 2 _ _ _ _ := ok_others T
  refine T.F_Holdingwayround.ok sc_Holdingwayround (fun vs H Q E h => ?_) (fun cdv A outer s H vs Q E hr h => ?_)
  · obtain ⟨h, O, n, k, ys, os, ab, rfl, _⟩ := h
    rfl
  · obtain ⟨h, O, n, k, ys, os, ab, rfl, A, B, n40, lo, hab, q⟩ := h
    obtain ⟨dx, hh⟩ := A.ob
    have mab := B _ (List.mem_of_getElem? hab)
    obtain ⟨tp, e1, htp⟩ := A.pa.get hab
    refine ⟨_, (pss_cons (ps_asg (pe_ix ix_list (pe_fld (pv 0) rfl) (pv 1) (fun _ _ => rfl)) (pg_tup rfl (pgs_cons (pg_name (i := 2) sc_Holdingwayround.nd rfl (.inl rfl)) (pgs_cons (pg_name (i := 3) sc_Holdingwayround.nd rfl (.inl rfl)) pgs_nil))))
      (pss_one (ps_ret (pe_call G_offersalong hr (by rfl) T.g_offersalong T.F_offersalong.kp T.b_offersalong .nil pass0 (pa_cons (pe_fld (pv 0) rfl) (pa_cons (pe_meth (pv 0) T.cl_Holding T.me_Holdingothers G_Holdingothers (hr.mono (by decide)) T.b_Holdingothers .nil pass0 (pa_cons (pv 1) pa_nil)) (pa_cons (pv 2) (pa_cons (pv 3) pa_nil)))))))), ?_⟩
    refine ⟨_, rfl, h, T.C_Holding, dx, _, _, rfl, hh, T.cl_Holding, T.na_Holding_offers, fldh_offers _ _, _, rfl, O, _, _, _, rfl, rfl, SqL.of A.lo, atI_nat e1, tp, _, rfl, SqT.of htp, rfl, _, _, rfl, _, _, rfl, rfl, ?_⟩
    refine ⟨_, rfl, h, T.C_Holding, dx, _, _, rfl, hh, T.cl_Holding, T.na_Holding_many, fldh_many _ _, ?_⟩
    refine ⟨_, rfl, h, dx, _, rfl, hh, fldh_no _ _ (by decide +kernel) (by decide +kernel), _, rfl, h, O, n, k, ys, os, rfl, A, lo, fun d l H1 s1 hd el => ?_⟩
    have ll : l.length ≤ os.length := el ▸ othF_len os k os.length
    have mem : ∀ q, q ∈ keysD l ↔ ∃ t ∈ upO os k os.length, q = mm t := el ▸ othF_keys (Nat.le_refl _)
    have rr : Rch (keysD l) ab.1 ab.2 ↔ Rch (upO os k os.length) ab.1 ab.2 := mm_rch mem
    have tok : ∀ t ∈ keysD l, 0 ≤ t.1 ∧ 0 ≤ t.2 ∧ t.1 < (n : Int) ∧ t.2 < (n : Int) := fun t mt => by
      obtain ⟨u, mu, e⟩ := (mem t).mp mt
      obtain ⟨j, _, _, ej⟩ := (mem_upO (Nat.le_refl _)).mp mu
      have b := B u (List.mem_of_getElem? ej)
      rcases mm_or u with z | z
      · rw [e, z]
        omega
      · rw [e, z]
        dsimp only
        omega
    refine ⟨_, rfl, _, rfl, n, d, l, ab.1, ab.2, rfl, hd, ⟨n40, by unfold keysD; rw [List.length_map]; omega, tok⟩, fun t mt => ?_, mab.1, mab.2.1, mab.2.2.1, mab.2.2.2, fun H2 s2 nr => ?_, fun t wy ws H2 s2 hw wx nm ht => ?_⟩
    · obtain ⟨u, _, e⟩ := (mem t).mp mt
      rw [e, mm_mm]
    · exact q _ _ (s1.trans s2) (.inl ⟨rfl, fun z => nr (rr.mpr z)⟩)
    · subst el
      exact q _ _ (s1.trans s2) (.inr ⟨t, ws, rfl, ht, ⟨wy, hw, wx, nm⟩⟩)
def spHolds74 (C : Addr) : Sp := fun vs H Q _ => ∃ (h O : Addr) (n k : Nat) (ys : List V) (os : Ofs) (ab : Int × Int), vs = [.ref h, .int (k : Int)] ∧ HoldAt C H h O n ys os ∧ BdO2 os n ∧ n ≤ 40 ∧ os.length ≤ 63 ∧ os[k]? = some ab ∧ ∀ (H' : Hp), Same H H' → Q (.bl (dcd (¬ Rch (upO os k os.length) ab.1 ab.2))) H'
theorem ok_holds (T : Top K mg) : FnOk P w K mg base CX0 6 T.a_Holdingholds T.d_Holdingholds ["self", "number"] (spHolds74 T.C_Holding) := by
  have G_iswhole : FnOk P w K mg base CX0 1 _ _ _ _ := ok_wholeI T
  have G_Holdingwayround : FnOk P w K mg base CX0 5 _ _ _ _ := ok_wayround T
  refine T.F_Holdingholds.ok sc_Holdingholds (fun vs H Q E h => ?_) (fun cdv A outer s H vs Q E hr h => ?_)
  · obtain ⟨h, O, n, k, ys, os, ab, rfl, _⟩ := h
    rfl
  · obtain ⟨h, O, n, k, ys, os, ab, rfl, A, B, n40, lo, hab, q⟩ := h
    obtain ⟨dx, hh⟩ := A.ob
    have lk : k < os.length := (List.getElem?_eq_some_iff.mp hab).1
    have ly := A.pa.length
    refine ⟨_, (pss_cons (ps_if (PW.pt (pw_or (pt_not (pt_val (pe_call G_iswhole (hr.mono (by decide)) (by rfl) T.g_iswhole T.F_iswhole.kp T.b_iswhole .nil pass0 (pa_cons (pv 1) pa_nil)))) (pw_or1 (pt_not (pt_chain op_le op_lt pe_int (pv 1) (pe_callB call_len_seq (by rfl) T.m_len PySem.boot_len (pa_cons (pe_fld (pv 0) rfl) pa_nil))))))) (pss_one ps_never) pss_nil)
      (pss_one (ps_ret (pe_cmpR op_isN (pe_meth (pv 0) T.cl_Holding T.me_Holdingwayround G_Holdingwayround hr T.b_Holdingwayround .nil pass0 (pa_cons (pv 1) pa_nil)) pe_non (nomark _))))), ?_⟩
    refine ⟨_, rfl, (k : Int), rfl, _, rfl, iteF ?_⟩
    refine ⟨_, rfl, _, _, rfl, rfl, decide ((0 : Int) ≤ (k : Int)), rfl, ?_⟩
    rw [decide_eq_true (show (0 : Int) ≤ (k : Int) by omega)]
    refine iteT ?_
    refine ⟨_, rfl, h, T.C_Holding, dx, _, _, rfl, hh, T.cl_Holding, T.na_Holding_offers, fldh_offers _ _, O, _, rfl, .inl (SqL.of A.lo), _, _, rfl, rfl, ?_⟩
    refine ⟨true, congrArg V.bl (decide_eq_true (show (k : Int) < (ys.length : Int) by omega)), iteF ?_⟩
    refine ⟨_, rfl, h, dx, _, rfl, hh, fldh_no _ _ (by decide +kernel) (by decide +kernel), _, rfl, h, O, n, k, ys, os, ab, rfl, A, B, n40, lo, hab, fun v H1 s1 ev => ⟨rfl, ?_⟩⟩
    have e : decide (v = .non) = dcd (¬ Rch (upO os k os.length) ab.1 ab.2) := by
      rcases ev with ⟨rfl, nr⟩ | ⟨t, ws, rfl, _, rx⟩
      · rw [dcd_t nr]
        rfl
      · rw [dcd_f fun z => z rx.rch]
        rfl
    rw [e]
    exact q H1 s1
noncomputable def holdsL (os : Ofs) (m : Nat) : List Int := ((List.range m).filter fun k => dcd (¬ Rch (upO os k os.length) ((os[k]?).getD (0, 0)).1 ((os[k]?).getD (0, 0)).2)).map fun k : Nat => (k : Int)
theorem holdsL_succ {os : Ofs} {i : Nat} {ab : Int × Int} (e : os[i]? = some ab) : holdsL os (i + 1) = if dcd (¬ Rch (upO os i os.length) ab.1 ab.2) = true then holdsL os i ++ [(i : Int)] else holdsL os i := by
  unfold holdsL
  rw [List.range_succ, List.filter_append, List.map_append]
  have eg : (os[i]?).getD (0, 0) = ab := by rw [e]; rfl
  by_cases c : dcd (¬ Rch (upO os i os.length) ab.1 ab.2) = true
  · rw [if_pos c, List.filter_cons_of_pos (by rw [eg]; exact c)]
    rfl
  · rw [if_neg c, List.filter_cons_of_neg (by rw [eg]; exact c), List.filter_nil, List.map_nil, List.append_nil]
theorem holdsL_len {os : Ofs} {i : Nat} : (holdsL os i).length ≤ i := by
  unfold holdsL
  rw [List.length_map]
  have z := List.length_filter_le (fun k => dcd (¬ Rch (upO os k os.length) ((os[k]?).getD (0, 0)).1 ((os[k]?).getD (0, 0)).2)) (List.range i)
  rw [List.length_range] at z
  exact z
def spHolding (C : Addr) : Sp := fun vs H Q _ => ∃ (h O : Addr) (n : Nat) (ys : List V) (os : Ofs), vs = [.ref h] ∧ HoldAt C H h O n ys os ∧ BdO2 os n ∧ n ≤ 40 ∧ os.length ≤ 63 ∧ ∀ (t : Addr) (H' : Hp), Same H H' → H' t = some (.tup ((holdsL os os.length).map V.int)) → Q (.ref t) H'
theorem ok_holding (T : Top K mg) : FnOk P w K mg base CX0 7 T.a_Holdingholding T.d_Holdingholding ["self"] (spHolding T.C_Holding) := by
  have G_Holdingholds : FnOk P w K mg base CX0 6 _ _ _ _ := ok_holds T
  refine T.F_Holdingholding.ok sc_Holdingholding (fun vs H Q E h => ?_) (fun cdv A outer s H vs Q E hr h => ?_)
  · obtain ⟨h, O, n, ys, os, rfl, _⟩ := h
    rfl
  · obtain ⟨h, O, n, ys, os, rfl, A, B, n40, lo, q⟩ := h
    obtain ⟨dx, hh⟩ := A.ob
    have ly := A.pa.length
    refine ⟨_, (pss_one (ps_ret (pe_callTy call_tuple_of (by rfl) T.m_tuple (by decide +kernel) (pa_cons (pe_lc (own := [("number", 1)]) (g := gName 1) (by rfl) sc_Holdingholding.nd (pi_range1 (by rfl) T.m_range (pa_cons (pe_callB call_len_seq (by rfl) T.m_len PySem.boot_len (pa_cons (pe_fld (pv 0) rfl) pa_nil)) pa_nil)) (blkOk_by (own := [("number", 1)]) (N := ["self", "number"]) (sc := defScope s_Holdingholding) (by decide +kernel)) (fun _ _ _ _ _ => (pg_name (i := 1) sc_Holdingholding.nd rfl (.inl rfl))) (fun _ _ _ _ _ => (pts_one (pt_val (pe_meth (pv 0) T.cl_Holding T.me_Holdingholds G_Holdingholds hr T.b_Holdingholds .nil pass0 (pa_cons (pv 1) pa_nil))))) (fun _ _ _ _ _ => (pv 1))) pa_nil)))), ?_⟩
    refine ⟨_, rfl, h, T.C_Holding, dx, _, _, rfl, hh, T.cl_Holding, T.na_Holding_offers, fldh_offers _ _, O, _, rfl, .inl (SqL.of A.lo), _, rfl, by omega, by omega, fun M nM => ?_⟩
    refine lc_range (lo := 0) (n := ys.length) (fun i H1 => Same H H1 ∧ H1 M = some (.lst ((holdsL os i).map V.int))) ⟨same_new nM, upd_same⟩ ?_ ?_
    · rintro i H1 hi ⟨s1, hM⟩
      rw [Int.zero_add]
      have hab : os[i]? = some os[i] := List.getElem?_eq_getElem (by omega)
      generalize os[i] = ab at hab
      refine ⟨rfl, _, rfl, h, dx, _, rfl, s1 _ _ hh, fldh_no _ _ (by decide +kernel) (by decide +kernel), _, rfl, h, O, n, i, ys, os, ab, rfl, A.same s1, B, n40, lo, hab, fun H2 s2 => ⟨_, rfl, ?_⟩⟩
      rw [holdsL_succ hab]
      by_cases c : dcd (¬ Rch (upO os i os.length) ab.1 ab.2) = true
      · rw [if_pos c, c]
        refine iteT ⟨_, rfl, _, s2 _ _ hM, ?_, same_put (s1.trans s2) nM, ?_⟩
        · rw [List.length_map]
          have := holdsL_len (os := os) (i := i)
          exact szl (by omega)
        · rw [upd_same, List.map_append]
          rfl
      · rw [if_neg c, eq_false_of_ne_true c]
        exact iteF ⟨s1.trans s2, s2 _ _ hM⟩
    · rintro H1 ⟨s1, hM⟩
      refine ⟨M, _, rfl, .inl ⟨SqL.of hM, fun t nt => ?_⟩⟩
      exact q t _ (s1.trans (same_new nt)) (by rw [upd_same, ly])
/-! ### part_of, entry, paper -/
structure PtsX (os : Ofs) (k : Nat) (a : Int) (ns : List Int) : Prop where
  up : ns.Pairwise (· < ·)
  mem : ∀ v, v ∈ ns ↔ Rch (upO os k os.length) a v
def EntX (n : Nat) (os : Ofs) (k : Nat) (ab : Int × Int) (r : Rw) : Prop := if r.1 then ¬ Rch (upO os k os.length) ab.1 ab.2 ∧ PtsX os k ab.1 r.2 else RndX n os k ab r.2
theorem ent_h {n : Nat} {os : Ofs} {k : Nat} {ab : Int × Int} {ns : List Int} : EntX n os k ab (true, ns) ↔ ¬ Rch (upO os k os.length) ab.1 ab.2 ∧ PtsX os k ab.1 ns := Iff.rfl
theorem ent_r {n : Nat} {os : Ofs} {k : Nat} {ab : Int × Int} {ns : List Int} : EntX n os k ab (false, ns) ↔ RndX n os k ab ns := by
  unfold EntX
  simp
theorem EntX.det {n : Nat} {os : Ofs} {k : Nat} {ab : Int × Int} {r r' : Rw} (h1 : EntX n os k ab r) (h2 : EntX n os k ab r') : r = r' := by
  obtain ⟨b, ns⟩ := r
  obtain ⟨c, ms⟩ := r'
  cases b <;> cases c
  · rw [(ent_r.mp h1).det (ent_r.mp h2)]
  · exact absurd (ent_r.mp h1).rch (ent_h.mp h2).1
  · exact absurd (ent_r.mp h2).rch (ent_h.mp h1).1
  · have z1 := (ent_h.mp h1).2
    have z2 := (ent_h.mp h2).2
    rw [rising_ext z1.up z2.up fun v => (z1.mem v).trans (z2.mem v).symm]
def spPart74 : Sp := fun vs H Q _ => ∃ (f : V) (a : Int) (n : Nat) (ts : Ties), vs = [f, .int a] ∧ Fr74 H f n ts ∧ Bd74 n ts ∧ 0 ≤ a ∧ a < (n : Int) ∧
  ∀ (t : Addr) (l : List Int) (H' : Hp), Same H H' → l.Pairwise (· < ·) → (∀ v, v ∈ l ↔ Rch ts a v) → H' t = some (.tup (l.map V.int)) → Q (.ref t) H'
theorem ok_partof (T : Top K mg) : FnOk P w K mg base CX0 3 T.a_partof T.d_partof ["forest", "a"] spPart74 := by
  have G_stepstoward : FnOk P w K mg base CX0 2 _ _ _ _ := ok_steps T
  refine T.F_partof.ok sc_partof (fun vs H Q E h => ?_) (fun cdv A outer s H vs Q E hr h => ?_)
  · obtain ⟨f, a, n, ts, rfl, _⟩ := h
    rfl
  · obtain ⟨f, a, n, ts, rfl, hf, fok, a0, a1, q⟩ := h
    refine ⟨_, (pss_one (ps_ret (pe_callTy call_tuple_of (by rfl) T.m_tuple (by decide +kernel) (pa_cons (pe_callB cr_sortedI (by rfl) T.m_sorted (by decide +kernel) (pa_cons (pe_callTy (call_listD rfl) (by rfl) T.m_list (by decide +kernel) (pa_cons (pe_call G_stepstoward hr (by rfl) T.g_stepstoward T.F_stepstoward.kp T.b_stepstoward .nil pass0 (pa_cons (pv 0) (pa_cons (pv 1) pa_nil))) pa_nil)) pa_nil)) pa_nil)))), ?_⟩
    refine ⟨_, rfl, _, rfl, f, a, n, ts, rfl, hf, fok, a0, a1, fun d l H1 s1 nd hd tow hk hin hrun => ?_⟩
    refine ⟨d, _, rfl, .inl hd, fun p np => ?_⟩
    have ek : (kvT l).map (fun kv => kV kv.1) = (keysT l).map V.int := by
      unfold kvT keysT
      rw [List.map_map, List.map_map]
      rfl
    rw [ek]
    have s2 := same_new (o := .lst ((keysT l).map V.int)) np
    refine ⟨p, keysT l, rfl, SqL.of upd_same, fun ns p2 pm srt np2 => ?_⟩
    have s3 := same_new (o := .lst (ns.map V.int)) np2
    refine ⟨p2, _, rfl, .inl ⟨SqL.of upd_same, fun p3 np3 => ?_⟩⟩
    have s4 := same_new (o := .tup (ns.map V.int)) np3
    exact q p3 ns _ (((s1.trans s2).trans s3).trans s4) (rising_nd tow.nd pm srt) (fun v => (pm.mem_iff).trans (hk v)) upd_same
def spEntryX (C : Addr) : Sp := fun vs H Q _ => ∃ (h O : Addr) (n k : Nat) (ys : List V) (os : Ofs) (ab : Int × Int), vs = [.ref h, .int (k : Int)] ∧ HoldAt C H h O n ys os ∧ BdO2 os n ∧ n ≤ 40 ∧ os.length ≤ 63 ∧ os[k]? = some ab ∧
  ∀ (p t : Addr) (r : Rw) (H' : Hp), Same H H' → EntX n os k ab r → H' p = some (.tup [.str (wordR r.1), .ref t]) → H' t = some (.tup (r.2.map V.int)) → Q (.ref p) H'
theorem ok_entryX (T : Top K mg) : FnOk P w K mg base CX0 6 T.a_Holdingentry T.d_Holdingentry ["self", "number"] (spEntryX T.C_Holding) := by
  have G_Holdingwayround : FnOk P w K mg base CX0 5 _ _ _ _ := ok_wayround T
  have G_Holdingothers : FnOk P w K mg base CX0 2 _ _ _ _ := ok_others T
  have G_partof : FnOk P w K mg base CX0 3 _ _ _ _ := ok_partof T
  have G_asforest : FnOk P w K mg base CX0 1 _ _ _ _ := ok_asforest T
  refine T.F_Holdingentry.ok sc_Holdingentry (fun vs H Q E h => ?_) (fun cdv A outer s H vs Q E hr h => ?_)
  · obtain ⟨h, O, n, k, ys, os, ab, rfl, _⟩ := h
    rfl
  · obtain ⟨h, O, n, k, ys, os, ab, rfl, A, B, n40, lo, hab, q⟩ := h
    obtain ⟨dx, hh⟩ := A.ob
    have mab := B _ (List.mem_of_getElem? hab)
    obtain ⟨tp, e1, htp⟩ := A.pa.get hab
    refine ⟨_, (pss_cons (ps_set (i := 2) sc_Holdingentry.nd rfl (.inl rfl) (pe_meth (pv 0) T.cl_Holding T.me_Holdingwayround G_Holdingwayround hr T.b_Holdingwayround .nil pass0 (pa_cons (pv 1) pa_nil)))
      (pss_cons (ps_if (pt_cmpR op_isN (pv 2) pe_non (nomark _)) (pss_cons (ps_set (i := 3) sc_Holdingentry.nd rfl (.inl rfl) (pe_ix ix_tup (pe_ix ix_list (pe_fld (pv 0) rfl) (pv 1) (fun _ _ => rfl)) pe_int (fun _ _ => rfl)))
      (pss_one (ps_ret (pe_tup (pa_cons pe_str (pa_cons (pe_call G_partof (hr.mono (by decide)) (by rfl) T.g_partof T.F_partof.kp T.b_partof .nil pass0 (pa_cons (pe_call G_asforest (hr.mono (by decide)) (by rfl) T.g_asforest T.F_asforest.kp T.b_asforest .nil pass0 (pa_cons (pe_fld (pv 0) rfl) (pa_cons (pe_meth (pv 0) T.cl_Holding T.me_Holdingothers G_Holdingothers (hr.mono (by decide)) T.b_Holdingothers .nil pass0 (pa_cons (pv 1) pa_nil)) pa_nil))) (pa_cons (pv 3) pa_nil))) pa_nil)))))) pss_nil)
      (pss_one (ps_ret (pe_tup (pa_cons pe_str (pa_cons (pv 2) pa_nil))))))), ?_⟩
    refine ⟨_, rfl, h, dx, _, rfl, hh, fldh_no _ _ (by decide +kernel) (by decide +kernel), _, rfl, h, O, n, k, ys, os, ab, rfl, A, B, n40, lo, hab, fun v H1 s1 ev => ?_⟩
    rcases ev with ⟨rfl, nr⟩ | ⟨t, ws, rfl, ht, rx⟩
    · refine ⟨_, rfl, rfl, _, rfl, iteT ?_⟩
      have A1 := A.same s1
      refine ⟨_, rfl, h, T.C_Holding, dx, _, _, rfl, s1 _ _ hh, T.cl_Holding, T.na_Holding_offers, fldh_offers _ _, _, rfl, O, _, _, _, rfl, rfl, SqL.of A1.lo, atI_nat e1, tp, _, _, _, rfl, rfl, SqT.of (s1 _ _ htp), atI_nat (j := 0) rfl, ?_⟩
      refine ⟨_, rfl, h, T.C_Holding, dx, _, _, rfl, s1 _ _ hh, T.cl_Holding, T.na_Holding_many, fldh_many _ _, ?_⟩
      refine ⟨_, rfl, h, dx, _, rfl, s1 _ _ hh, fldh_no _ _ (by decide +kernel) (by decide +kernel), _, rfl, h, O, n, k, ys, os, rfl, A1, lo, fun d l H2 s2 hd el => ?_⟩
      have ll : l.length ≤ os.length := el ▸ othF_len os k os.length
      have mem : ∀ q, q ∈ keysD l ↔ ∃ t ∈ upO os k os.length, q = mm t := el ▸ othF_keys (Nat.le_refl _)
      have tok : ∀ t ∈ keysD l, 0 ≤ t.1 ∧ 0 ≤ t.2 ∧ t.1 < (n : Int) ∧ t.2 < (n : Int) := fun t mt => by
        obtain ⟨u, mu, e⟩ := (mem t).mp mt
        obtain ⟨j, _, _, ej⟩ := (mem_upO (Nat.le_refl _)).mp mu
        have b := B u (List.mem_of_getElem? ej)
        rcases mm_or u with z | z
        · rw [e, z]
          omega
        · rw [e, z]
          dsimp only
          omega
      refine ⟨n, d, l, rfl, by omega, hd, fun f H3 s3 fr => ?_⟩
      refine ⟨_, rfl, f, ab.1, n, keysD l, rfl, fr, ⟨n40, by unfold keysD; rw [List.length_map]; omega, tok⟩, mab.1, mab.2.1, fun t pts H4 s4 up mm4 ht => ?_⟩
      refine ⟨(by show 2 ≤ sizeLine; decide), fun p np => ?_⟩
      have sp := same_new (o := .tup [V.str "holds", V.ref t]) np
      exact q p t (true, pts) _ ((s1.trans (s2.trans (s3.trans s4))).trans sp) (ent_h.mpr ⟨nr, up, fun v => (mm4 v).trans (mm_rch mem)⟩) upd_same (sp _ _ ht)
    · refine ⟨_, rfl, rfl, _, rfl, iteF ?_⟩
      refine ⟨_, rfl, (by show 2 ≤ sizeLine; decide), fun p np => ?_⟩
      have sp := same_new (o := .tup [V.str "round", V.ref t]) np
      exact q p t (false, ws) _ (s1.trans sp) (ent_r.mpr rx) upd_same (sp _ _ ht)
structure PapX (n : Nat) (os : Ofs) (m : Nat) (rs : List Rw) : Prop where
  len : rs.length = m
  ent : ∀ (k : Nat) (ab : Int × Int) (r : Rw), os[k]? = some ab → rs[k]? = some r → EntX n os k ab r
theorem PapX.det {n : Nat} {os : Ofs} {rs us : List Rw} (h1 : PapX n os os.length rs) (h2 : PapX n os os.length us) : rs = us := by
  have e1 := h1.len
  have e2 := h2.len
  refine List.ext_getElem? fun i => ?_
  by_cases lt : i < os.length
  · have r1 : rs[i]? = some rs[i] := List.getElem?_eq_getElem (by omega)
    have r2 : us[i]? = some us[i] := List.getElem?_eq_getElem (by omega)
    have ab : os[i]? = some os[i] := List.getElem?_eq_getElem lt
    rw [r1, r2, (h1.ent i _ _ ab r1).det (h2.ent i _ _ ab r2)]
  · rw [List.getElem?_eq_none (by omega), List.getElem?_eq_none (by omega)]
theorem RAll.snoc {H : Hp} {p t : Addr} {r : Rw} (e : H p = some (.tup [.str (wordR r.1), .ref t])) (e2 : H t = some (.tup (r.2.map V.int))) {vs : List V} {ts : List Rw} (h : RAll H vs ts) : RAll H (vs ++ [.ref p]) (ts ++ [r]) := h.append (.cons e e2 .nil)
def spPaper (C : Addr) : Sp := fun vs H Q _ => ∃ (h O : Addr) (n : Nat) (ys : List V) (os : Ofs), vs = [.ref h] ∧ HoldAt C H h O n ys os ∧ BdO2 os n ∧ n ≤ 40 ∧ os.length ≤ 63 ∧
  ∀ (t : Addr) (xs : List V) (rs : List Rw) (H' : Hp), Same H H' → H' t = some (.tup xs) → RAll H' xs rs → PapX n os os.length rs → Q (.ref t) H'
theorem ok_paper (T : Top K mg) : FnOk P w K mg base CX0 7 T.a_Holdingpaper T.d_Holdingpaper ["self"] (spPaper T.C_Holding) := by
  have G_Holdingentry : FnOk P w K mg base CX0 6 _ _ _ _ := ok_entryX T
  refine T.F_Holdingpaper.ok sc_Holdingpaper (fun vs H Q E h => ?_) (fun cdv A outer s H vs Q E hr h => ?_)
  · obtain ⟨h, O, n, ys, os, rfl, _⟩ := h
    rfl
  · obtain ⟨h, O, n, ys, os, rfl, A, B, n40, lo, q⟩ := h
    obtain ⟨dx, hh⟩ := A.ob
    have ly := A.pa.length
    refine ⟨_, (pss_one (ps_ret (pe_callTy call_tuple_of (by rfl) T.m_tuple (by decide +kernel) (pa_cons (pe_lc (own := [("number", 1)]) (g := gName 1) (tt := tYes) (by rfl) sc_Holdingpaper.nd (pi_range1 (by rfl) T.m_range (pa_cons (pe_callB call_len_seq (by rfl) T.m_len PySem.boot_len (pa_cons (pe_fld (pv 0) rfl) pa_nil)) pa_nil)) (blkOk_by (own := [("number", 1)]) (N := ["self", "number"]) (sc := defScope s_Holdingpaper) (by decide +kernel)) (fun _ _ _ _ _ => (pg_name (i := 1) sc_Holdingpaper.nd rfl (.inl rfl))) (fun _ _ _ _ _ => pts_nil) (fun _ _ _ _ _ => (pe_meth (pv 0) T.cl_Holding T.me_Holdingentry G_Holdingentry hr T.b_Holdingentry .nil pass0 (pa_cons (pv 1) pa_nil)))) pa_nil)))), ?_⟩
    refine ⟨_, rfl, h, T.C_Holding, dx, _, _, rfl, hh, T.cl_Holding, T.na_Holding_offers, fldh_offers _ _, O, _, rfl, .inl (SqL.of A.lo), _, rfl, by omega, by omega, fun M nM => ?_⟩
    refine lc_range (lo := 0) (n := ys.length) (fun i H1 => Same H H1 ∧ ∃ (xs : List V) (rs : List Rw), H1 M = some (.lst xs) ∧ RAll H1 xs rs ∧ PapX n os i rs) ⟨same_new nM, [], [], upd_same, .nil, rfl, fun k ab r _ z => nomatch z⟩ ?_ ?_
    · rintro i H1 hi ⟨s1, xs, rs, hM, ra, px⟩
      rw [Int.zero_add]
      have hab : os[i]? = some os[i] := List.getElem?_eq_getElem (by omega)
      generalize os[i] = ab at hab
      refine ⟨rfl, yes_ite ?_⟩
      refine ⟨_, rfl, h, dx, _, rfl, s1 _ _ hh, fldh_no _ _ (by decide +kernel) (by decide +kernel), _, rfl, h, O, n, i, ys, os, ab, rfl, A.same s1, B, n40, lo, hab, fun p t r H2 s2 ex hp ht => ?_⟩
      have lr := px.len
      have lx := ra.length
      have hM2 := s2 _ _ hM
      have ra2 : RAll H2 (xs ++ [.ref p]) (rs ++ [r]) := (ra.same s2).snoc hp ht
      refine ⟨_, hM2, szl (by omega), same_put (s1.trans s2) nM, xs ++ [.ref p], rs ++ [r], upd_same, ra2.mono fun a zs e => ?_, by rw [List.length_append, lr]; rfl, fun k ab' r' h1 h2 => ?_⟩
      · rw [upd_ne (ne_of e hM2 (by intro z; cases z))]
        exact e
      · by_cases ek : k < i
        · rw [List.getElem?_append_left (by omega)] at h2
          exact px.ent k ab' r' h1 h2
        · have l2 := (List.getElem?_eq_some_iff.mp h2).1
          rw [List.length_append, List.length_singleton] at l2
          have ek : k = i := by omega
          subst ek
          rw [hab] at h1
          cases Option.some.inj h1
          rw [List.getElem?_append_right (by omega), lr, Nat.sub_self] at h2
          cases Option.some.inj h2
          exact ex
    · rintro H1 ⟨s1, xs, rs, hM, ra, px⟩
      rw [ly] at px
      refine ⟨M, _, rfl, .inl ⟨SqL.of hM, fun t nt => ?_⟩⟩
      exact q t xs rs _ (s1.trans (same_new nt)) upd_same (ra.same (same_new nt)) px
def sphInit (C : Addr) : Sp := fun vs H Q _ => ∃ (p dx : Addr) (n : Nat), vs = [.ref p, .int (n : Int)] ∧ H p = some (.ins C dx []) ∧ ∀ (O : Addr) (H' : Hp), H O = none → HoldAt C H' p O n [] [] → (∀ c o, H c = some o → c ≠ p → H' c = some o) → Q .non H'
theorem okh_init (T : Top K mg) : FnOk P w K mg base CX0 1 T.a_Holdinginit T.d_Holdinginit ["self", "many"] (sphInit T.C_Holding) := by
  refine T.F_Holdinginit.ok sc_Holdinginit (fun vs H Q E h => ?_) (fun cdv A outer s H vs Q E hr h => ?_)
  · obtain ⟨p, dx, n, rfl, _⟩ := h
    rfl
  · obtain ⟨p, dx, n, rfl, hp, q⟩ := h
    refine ⟨_, (pss_cons (ps_fld (pv 0) (pv 1) rfl)
      (pss_one (ps_fld (pv 0) (pe_lst pa_nil) rfl))), ?_⟩
    refine ⟨_, rfl, _, rfl, p, T.C_Holding, dx, [], rfl, hp, T.cl_Holding, T.na_Holding_many, (by show 0 < 1000; decide), ?_⟩
    refine ⟨Nat.zero_le _, fun O nO => ?_⟩
    have Op : O ≠ p := fun z => by
      rw [z, upd_same] at nO
      cases nO
    have nO0 : H O = none := by
      rw [upd_ne Op] at nO
      exact nO
    refine ⟨_, rfl, p, T.C_Holding, dx, _, rfl, (by rw [upd_ne Op.symm]; exact upd_same), T.cl_Holding, T.na_Holding_offers, (by show 1 < 1000; decide), ?_⟩
    refine q O _ nO0 ⟨⟨dx, upd_same⟩, by rw [upd_ne Op, upd_same], .nil⟩ fun c o e ne => ?_
    rw [upd_ne ne, upd_ne (ne_of_none e nO0), upd_ne ne]
    exact e
def sphOffer (T : Top K mg) : Sp := fun vs H Q _ => ∃ (h O : Addr) (n : Nat) (a b : Int) (ys : List V) (os : Ofs), vs = [.ref h, .int a, .int b] ∧ HoldAt T.C_Holding H h O n ys os ∧ 0 ≤ a ∧ a < (n : Int) ∧ 0 ≤ b ∧ b < (n : Int) ∧ os.length ≤ 63 ∧ Tb T.tbs H ∧
  ∀ (t : Addr) (H1 : Hp), Kp H H1 → H1 O = some (.lst ys) → Tb T.tbs H1 → HoldAt T.C_Holding (upd H1 O (.lst (ys ++ [.ref t]))) h O n (ys ++ [.ref t]) (os ++ [(a, b)]) → Q .non (upd H1 O (.lst (ys ++ [.ref t])))
theorem okh_offer (T : Top K mg) (TB : GxR.TabB base mg T.cM T.PM) : FnOk P w K mg base CX0 4 T.a_Holdingoffer T.d_Holdingoffer ["self", "a", "b"] (sphOffer T) := by
  have G_refuseends : FnOk P w K mg base CX0 3 _ _ _ _ := ok_refE T TB
  refine T.F_Holdingoffer.ok sc_Holdingoffer (fun vs H Q E h => ?_) (fun cdv A outer s H vs Q E hr h => ?_)
  · obtain ⟨h, O, n, a, b, ys, os, rfl, _⟩ := h
    rfl
  · obtain ⟨h, O, n, a, b, ys, os, rfl, A, a0, a1, b0, b1, lo, tb, q⟩ := h
    obtain ⟨dx, hh⟩ := A.ob
    have ly := A.pa.length
    refine ⟨_, (pss_cons (ps_expr (pe_call G_refuseends hr (by rfl) T.g_refuseends T.F_refuseends.kp T.b_refuseends .nil pass0 (pa_cons (pv 1) (pa_cons (pv 2) (pa_cons (pe_fld (pv 0) rfl) pa_nil)))))
      (pss_one (ps_expr (pe_bm PySem.F.plainAttrs_list PySem.F.slot_list_append PySem.F.type_list_append mt_append (pe_fld (pv 0) rfl) (pa_cons (pe_tup (pa_cons (pv 1) (pa_cons (pv 2) pa_nil))) pa_nil))))), ?_⟩
    refine ⟨_, rfl, _, rfl, _, rfl, h, T.C_Holding, dx, _, _, rfl, hh, T.cl_Holding, T.na_Holding_many, fldh_many _ _, a, b, (n : Int), rfl, a0, a1, b0, b1, tb, fun H1 k1 tb1 => ?_⟩
    have hh1 : H1 h = some (.ins T.C_Holding dx (fldsH (n : Int) O)) := k1 _ _ hh (by intro ps z; cases z)
    have lo1 := k1.lst A.lo
    refine ⟨_, rfl, h, T.C_Holding, dx, _, _, rfl, hh1, T.cl_Holding, T.na_Holding_offers, fldh_offers _ _, .inl ⟨rfl, _, SqL.of lo1⟩, _, rfl, _, rfl, (by show 2 ≤ sizeLine; decide), fun t nt => ?_⟩
    have st := same_new (o := .tup [V.int a, V.int b]) nt
    have ht : upd H1 t (.tup [V.int a, V.int b]) t = some (.tup [V.int a, V.int b]) := upd_same
    generalize upd H1 t (.tup [V.int a, V.int b]) = H2 at st ht ⊢
    have lo2 := st _ _ lo1
    have k2 := k1.trans (Kp.of_same st)
    have hO : h ≠ O := ne_of hh1 lo1 (by intro z; cases z)
    refine ⟨O, _, _, rfl, rfl, lo2, szl (by omega), ?_⟩
    exact q t H2 k2 lo2 (tb1.same st) ⟨⟨dx, by rw [upd_ne hO]; exact st _ _ hh1⟩, upd_same, (PAll.snoc ht (A.pa.kp k2)).put lo2⟩
end

end My
namespace My
open PySem L2
/-! ### the program: papers of what holds -/
section
variable {P : Program} {w : World} {K : PySem.W.Frag} {mg : Str → Option Value} {base : Heap}
def spAsF : Sp := fun vs H Q _ => ∃ (m : Int) (t : Addr) (ys : List V), vs = [.int m, .ref t] ∧ 0 ≤ m ∧ m ≤ 100 ∧ H t = some (.tup ys) ∧ ∀ (f p l : Addr) (H' : Hp), Same H H' → H' f = some (.tup [.ref p, .ref l]) → H' p = some (.tup (rgV 0 m)) → H' l = some (.lst ys) → Q (.ref f) H'
theorem ok_asforestU (T : Top K mg) : FnOk P w K mg base CX0 1 T.a_asforest T.d_asforest ["many", "ties"] spAsF := by
  refine T.F_asforest.ok sc_asforest (fun vs H Q E h => ?_) (fun cdv A outer s H vs Q E hr h => ?_)
  · obtain ⟨m, t, ys, rfl, _⟩ := h
    rfl
  · obtain ⟨m, t, ys, rfl, m0, m1, ht, q⟩ := h
    refine ⟨_, (pss_one (ps_ret (pe_tup (pa_cons (pe_tupRg rfl (by rfl) T.m_tuple (prg_1 (by rfl) T.m_range (pv 0))) (pa_cons (pe_callTy call_list_of (by rfl) T.m_list (by decide +kernel) (pa_cons (pv 1) pa_nil)) pa_nil))))), ?_⟩
    refine ⟨_, rfl, _, rfl, RgOk.of_le (by omega) (by omega) (by omega) (by omega), fun p np => ?_⟩
    have sp := same_new (o := .tup (rgV 0 m)) np
    have hp : upd H p (.tup (rgV 0 m)) p = some (.tup (rgV 0 m)) := upd_same
    generalize upd H p (.tup (rgV 0 m)) = H1 at sp hp ⊢
    refine ⟨_, rfl, t, _, rfl, .inr (SqT.of (sp _ _ ht)), fun l nl => ?_⟩
    have sl := same_new (o := .lst ys) nl
    refine ⟨(by show 2 ≤ sizeLine; decide), fun f nf => ?_⟩
    have sf := same_new (o := .tup [V.ref p, V.ref l]) nf
    exact q f p l _ (sp.trans (sl.trans sf)) upd_same (sf _ _ (sl _ _ hp)) (sf _ _ upd_same)
def spApart (T : Top K mg) : Sp := fun vs H Q _ => ∃ (f p l t : Addr) (a b m : Int) (ys : List V) (os : Ofs) (ns : List Int), vs = [.ref f, .int a, .int b, .ref t] ∧ H f = some (.tup [.ref p, .ref l]) ∧ H p = some (.tup (rgV 0 m)) ∧ 0 ≤ m ∧ H l = some (.lst ys) ∧ PAll H ys os ∧ H t = some (.tup (ns.map V.int)) ∧ Tb T.tbs H ∧ ∀ H', Kp H H' → Tb T.tbs H' → Q (.bl (dcd (Apart m os a b ns))) H'
theorem ok_setsapart (T : Top K mg) (TBR : GxR.TabB base mg T.cR T.PR) (TB : GxR.TabB base mg T.cS T.PS) : FnOk P w K mg base CX0 3 T.a_setsapart T.d_setsapart ["forest", "a", "b", "numbers"] (spApart T) := by
  have G_isrising : FnOk P w K mg base CX0 2 _ _ _ _ := ok_ris T TBR
  refine okC T.F_setsapart T.hcS sc_setsapart (fun vs H Q E h => ?_) (fun A outer s H vs Q E hr h => ?_)
  · obtain ⟨f, p, l, t, a, b, m, ys, os, ns, rfl, _⟩ := h
    rfl
  · obtain ⟨f, p, l, t, a, b, m, ys, os, ns, rfl, hf, hp, m0, hl, pa, ht, tb, q⟩ := h
    have lx : ((rgV 0 m).length : Int) = m := by
      rw [rgV_length]
      omega
    have no : ∀ {H'}, Kp H H' → Tb T.tbs H' → ¬ Apart m os a b ns → Q (.bl false) H' := fun {H'} k t' z => by
      have y := q H' k t'
      rw [dcd_f z] at y
      exact y
    refine ⟨_, (pss_cons (ps_asg (pv 0) (pg_tup rfl (pgs_cons (pg_name (i := 4) sc_setsapart.nd rfl (.inl rfl)) (pgs_cons (pg_name (i := 5) sc_setsapart.nd rfl (.inl rfl)) pgs_nil))))
      (pss_cons (ps_if (PW.pt (pw_or (pt_not (pt_val (pe_call G_isrising hr (by rfl) T.g_isrising T.F_isrising.kp T.b_isrising .nil pass0 (pa_cons (pv 3) pa_nil)))) (pw_or (pt_cmpR op_notIn_seq (pv 1) (pv 3) (by rfl)) (pw_or1 (pt_cmpR op_in_seq (pv 2) (pv 3) (by rfl)))))) (pss_one (ps_ret pe_bl)) pss_nil)
      (pss_cons (ps_if (PW.pt (pw_or (pt_cmpR op_lt (pe_ix ix_tup (pv 3) pe_int (fun _ _ => rfl)) pe_int (nomark _)) (pw_or1 (pt_cmpR op_ge (pe_ix ix_tup (pv 3) (pe_un un_neg pe_int) (fun _ _ => rfl)) (pe_callB call_len_seq (by rfl) T.m_len PySem.boot_len (pa_cons (pv 4) pa_nil)) (nomark _))))) (pss_one (ps_ret pe_bl)) pss_nil)
      (pss_one (ps_ret (pe_allG (own := [("low", 6), ("high", 7)]) hr rfl sc_setsapart.nd (by rfl) T.m_all (by decide +kernel) TB rfl (blkOk_by (own := [("low", 6), ("high", 7)]) (N := ["forest", "a", "b", "numbers", "points", "ties", "low", "high"]) (sc := defScope s_setsapart) (by decide +kernel)) (by rfl) (by decide +kernel) (by rfl) (pi_list (pv 5)) (fun _ _ _ _ _ _ _ => (pg_tupK (K := K) (n := 2) rfl rfl (pgs_cons (pg_name (i := 6) sc_setsapart.nd rfl (.inl rfl) (hf := Or.inr rfl)) (pgs_cons (pg_name (i := 7) sc_setsapart.nd rfl (.inl rfl) (hf := Or.inr rfl)) pgs_nil)) rfl)) (fun _ _ _ _ _ _ _ hr' => (pe_cmpR op_eq (pe_cmpR (op_in_seqK (K := K) rfl) (pv 6) (pv 3) (by rfl)) (pe_cmpR (op_in_seqK (K := K) rfl) (pv 7) (pv 3) (by rfl)) (nomark _))))))))), ?_⟩
    refine ⟨_, rfl, f, _, rfl, SqT.of hf, rfl, _, _, rfl, _, _, rfl, rfl, ?_⟩
    refine ⟨_, rfl, t, ns, rfl, ht, tb, fun H1 k1 tb1 => ⟨_, rfl, ?_⟩⟩
    by_cases up : ns.Pairwise (· < ·)
    case neg =>
      rw [decide_eq_false up]
      exact iteT (iteT (no k1 tb1 fun y => up y.up))
    rw [decide_eq_true up]
    refine iteF ?_
    have ht1 := k1.tup ht
    refine ⟨_, rfl, _, rfl, t, _, rfl, .inr (SqT.of ht1), rfl, flat_ints _, !decide (a ∈ ns), congrArg (fun z => V.bl (!z)) (inV_ints a ns), ?_⟩
    by_cases ma : a ∈ ns
    case neg =>
      rw [decide_eq_false ma]
      exact iteT (iteT (no k1 tb1 fun y => ma y.ma))
    rw [decide_eq_true ma]
    refine iteF ?_
    refine ⟨_, rfl, _, rfl, t, _, rfl, .inr (SqT.of ht1), rfl, flat_ints _, decide (b ∈ ns), congrArg V.bl (inV_ints b ns), ?_⟩
    by_cases mb : b ∈ ns
    case pos =>
      rw [decide_eq_true mb]
      exact iteT (no k1 tb1 fun y => y.mb mb)
    rw [decide_eq_false mb]
    refine iteF ?_
    have ne : ns ≠ [] := fun z => by
      rw [z] at ma
      cases ma
    obtain ⟨n0, nr, en⟩ : ∃ n0 nr, ns = n0 :: nr := by
      cases ns with
      | nil => exact absurd rfl ne
      | cons n0 nr => exact ⟨n0, nr, rfl⟩
    obtain ⟨qq, nl, el⟩ : ∃ q l, ns = q ++ [l] := ⟨ns.dropLast, ns.getLast ne, (List.dropLast_concat_getLast ne).symm⟩
    have hfirst : atI (ns.map V.int) 0 = some (.int n0) := by
      rw [en]
      exact atI_nat (j := 0) rfl
    have hlast : atI (ns.map V.int) (-1) = some (.int nl) := by
      rw [el, List.map_append]
      exact atI_last _ _
    have m0' : n0 ∈ ns := by rw [en]; exact List.mem_cons_self
    have ml : nl ∈ ns := by rw [el]; exact List.mem_append_right _ List.mem_cons_self
    refine ⟨_, rfl, t, _, _, _, rfl, rfl, SqT.of ht1, hfirst, _, _, rfl, rfl, _, rfl, ite2 (fun z => iteT ?_) (fun z => ?_)⟩
    · refine no k1 tb1 fun y => ?_
      have z := of_decide_eq_true z
      have := y.rg n0 m0'
      omega
    have g0 : 0 ≤ n0 := by
      by_cases g : n0 < 0
      · exact absurd (decide_eq_true g) z
      · omega
    clear z
    refine ⟨_, rfl, _, rfl, t, _, _, _, rfl, rfl, SqT.of ht1, hlast, _, rfl, p, _, rfl, .inr (SqT.of (k1.tup hp)), _, _, rfl, rfl, _, rfl, ite2 (fun z => ?_) (fun z => ?_)⟩
    · refine no k1 tb1 fun y => ?_
      have z := of_decide_eq_true z
      have := y.rg nl ml
      omega
    have gl : nl < m := by
      by_cases g : nl ≥ ((rgV 0 m).length : Int)
      · exact absurd (decide_eq_true g) z
      · omega
    clear z
    have rng : ∀ x ∈ ns, 0 ≤ x ∧ x < m := fun x mx => by
      constructor
      · rw [en] at mx up
        rcases List.mem_cons.mp mx with rfl | mx
        · exact g0
        · have := (List.pairwise_cons.mp up).1 x mx
          omega
      · rw [el] at mx up
        rcases List.mem_append.mp mx with mx | mx
        · have := (List.pairwise_append.mp up).2.2 x mx nl List.mem_cons_self
          omega
        · rw [List.mem_singleton.mp mx]
          exact gl
    have hl1 := k1.lst hl
    have pa1 := pa.kp k1
    have ly := pa.length
    refine ⟨_, rfl, l, rfl, ⟨ys, SqL.of hl1⟩, tb1.g T.mS, fun H2 tab => ?_⟩
    have k2 := Kp.of_tabd (tb1.g T.mS) tab
    have tb2 := tb1.tab T.nd T.mS (But.of_tab tab) tab.1
    refine gturns_it (walk_list (xs := ys)) (fun i H3 => Kp H1 H3 ∧ Tb T.tbs H3 ∧ ∀ t ∈ os.take i, (t.1 ∈ ns ↔ t.2 ∈ ns)) ⟨k2, tb2, fun t z => nomatch z⟩ (fun i H3 _ z => SqL.of (z.1.lst hl1)) ?_ (fun H3 z => ?_)
    · rintro i x H3 H4 N hi ⟨k3, tb3, al3⟩ ⟨rfl, hx⟩ nx
      obtain ⟨tp, u, rfl, hu, htp⟩ := (pa1.kp k3).at hx
      have mu := List.mem_of_getElem? hu
      have ht3 := k3.tup ht1
      have eb : V.bl (decide (V.bl (inV (.int u.1) (ns.map V.int)) = V.bl (inV (.int u.2) (ns.map V.int)))) = V.bl (decide (u.1 ∈ ns) == decide (u.2 ∈ ns)) := by
        rw [inV_ints, inV_ints]
        cases decide (u.1 ∈ ns) <;> cases decide (u.2 ∈ ns) <;> rfl
      refine ⟨tp, _, rfl, SqT.of htp, rfl, _, _, rfl, _, _, rfl, rfl, rfl, _, rfl, _, rfl, t, _, rfl, .inr (SqT.of ht3), rfl, flat_ints _, _, rfl, _, rfl, t, _, rfl, .inr (SqT.of ht3), rfl, flat_ints _, rfl, decide (u.1 ∈ ns) == decide (u.2 ∈ ns), eb, ?_⟩
      cases e : (decide (u.1 ∈ ns) == decide (u.2 ∈ ns)) with
      | true =>
        refine iteT (nx _ ⟨k3, tb3, fun t mt => ?_⟩)
        rw [take_at hu] at mt
        rcases List.mem_append.mp mt with mt | mt
        · exact al3 t mt
        · rw [List.mem_singleton.mp mt]
          exact decide_eq_decide.mp (beq_iff_eq.mp e)
      | false =>
        refine iteF (no (k1.trans k3) tb3 fun y => ?_)
        have z2 : decide (u.1 ∈ ns) = decide (u.2 ∈ ns) := decide_eq_decide.mpr (y.ct u mu)
        rw [z2, beq_self_eq_true] at e
        cases e
    · obtain ⟨k3, tb3, al3⟩ := z
      rw [ly, List.take_length] at al3
      have z := q H3 (k1.trans k3) tb3
      rw [dcd_t ⟨up, ma, mb, rng, al3⟩] at z
      exact z
def sphOffs (T : Top K mg) : Sp := fun vs H Q _ => ∃ (o t : Addr) (ys : List V) (ns : List Int), vs = [.ref o, .ref t] ∧ H o = some (.tup ys) ∧ H t = some (.tup (ns.map V.int)) ∧ ns.length ≤ 1000 ∧ Tb T.tbs H ∧ ∀ H', Kp H H' → Tb T.tbs H' → Q (.bl (dcd (ns.Nodup ∧ ∀ x ∈ ns, 0 ≤ x ∧ x < (ys.length : Int)))) H'
theorem okh_areoffers (T : Top K mg) (TBA : GxR.TabB base mg T.cA T.PA) (TB : GxR.TabB base mg T.cO T.PO) : FnOk P w K mg base CX0 4 T.a_areoffers T.d_areoffers ["offers", "thing"] (sphOffs T) := by
  have G_arewholes : FnOk P w K mg base CX0 3 _ _ _ _ := ok_wholes T TBA
  refine okC T.F_areoffers T.hcO sc_areoffers (fun vs H Q E h => ?_) (fun A outer s H vs Q E hr h => ?_)
  · obtain ⟨o, t, ys, ns, rfl, _⟩ := h
    rfl
  · obtain ⟨o, t, ys, ns, rfl, ho, ht, len, tb, q⟩ := h
    refine ⟨_, (pss_cons (ps_if (PW.pt (pw_or (pt_not (pt_val (pe_call G_arewholes hr (by rfl) T.g_arewholes T.F_arewholes.kp T.b_arewholes .nil pass0 (pa_cons (pv 1) pa_nil)))) (pw_or1 (pt_cmpR op_ne (pe_lenSetT rfl (by rfl) T.m_len (by rfl) T.m_set (pv 1)) (pe_callB call_len_seq (by rfl) T.m_len PySem.boot_len (pa_cons (pv 1) pa_nil)) (nomark _))))) (pss_one (ps_ret pe_bl)) pss_nil)
      (pss_one (ps_ret (pe_allG (own := [("number", 2)]) hr rfl sc_areoffers.nd (by rfl) T.m_all (by decide +kernel) TB rfl (blkOk_by (own := [("number", 2)]) (N := ["offers", "thing", "number"]) (sc := defScope s_areoffers) (by decide +kernel)) (by rfl) (by decide +kernel) (by rfl) (pi_tup (pv 1)) (fun _ _ _ _ _ _ _ => (pg_name (i := 2) sc_areoffers.nd rfl (.inl rfl) (hf := Or.inr rfl))) (fun _ _ _ _ _ _ _ hr' => (pe_chain op_le op_lt pe_int (pv 2) (pe_callB (call_len_seqK (K := K) rfl) (by rfl) T.m_len PySem.boot_len (pa_cons (pv 0) pa_nil)))))))), ?_⟩
    refine ⟨_, rfl, t, ns, rfl, ht, tb, fun H1 k1 tb1 => ⟨_, rfl, iteF ?_⟩⟩
    have ht1 := k1.tup ht
    have ho1 := k1.tup ho
    have no : ∀ {H'}, Kp H1 H' → Tb T.tbs H' → ¬ (ns.Nodup ∧ ∀ x ∈ ns, 0 ≤ x ∧ x < (ys.length : Int)) → Q (.bl false) H' := fun {H'} k t' z => by
      have y := q H' (k1.trans k) t'
      rw [dcd_f z] at y
      exact y
    refine ⟨_, rfl, t, ns, rfl, SqT.of ht1, len, fun out nod mem => ⟨_, rfl, t, _, rfl, .inr (SqT.of ht1), rfl, _, rfl, ite2 (fun z => ?_) (fun z => ?_)⟩⟩
    · refine no (Kp.refl H1) tb1 fun y => ne_int z ?_
      rw [List.length_map, (nd_len nod mem).mpr y.1]
    have nd : ns.Nodup := (nd_len nod mem).mp (by
      have := eq_int z
      rw [List.length_map] at this
      omega)
    clear z
    refine ⟨_, rfl, t, rfl, ⟨_, SqT.of ht1⟩, tb1.g T.mO, fun H2 tab => ?_⟩
    have k2 := Kp.of_tabd (tb1.g T.mO) tab
    have tb2 := tb1.tab T.nd T.mO (But.of_tab tab) tab.1
    refine gturns_it (walk_tup (xs := ns.map V.int)) (fun i H3 => Kp H1 H3 ∧ Tb T.tbs H3 ∧ ∀ x ∈ ns.take i, 0 ≤ x ∧ x < (ys.length : Int)) ⟨k2, tb2, fun x z => nomatch z⟩ (fun i H3 _ z => SqT.of (z.1.tup ht1)) ?_ (fun H3 z => ?_)
    · rintro i x H3 H4 N hi ⟨k3, tb3, al3⟩ ⟨rfl, hx⟩ nx
      rw [List.getElem?_map] at hx
      obtain ⟨u, hu, rfl⟩ := Option.map_eq_some_iff.mp hx
      have mu := List.mem_of_getElem? hu
      refine ⟨rfl, _, rfl, _, _, rfl, rfl, decide (0 ≤ u), rfl, ?_⟩
      by_cases g0 : 0 ≤ u
      · rw [decide_eq_true g0]
        refine iteT ?_
        refine ⟨_, rfl, o, _, rfl, .inr (SqT.of (k3.tup ho1)), _, _, rfl, rfl, decide (u < (ys.length : Int)), rfl, ?_⟩
        by_cases g1 : u < (ys.length : Int)
        · rw [decide_eq_true g1]
          refine iteT (nx _ ⟨k3, tb3, fun x mx => ?_⟩)
          rw [take_at hu] at mx
          rcases List.mem_append.mp mx with mx | mx
          · exact al3 x mx
          · rw [List.mem_singleton.mp mx]
            exact ⟨g0, g1⟩
        · rw [decide_eq_false g1]
          exact iteF (no k3 tb3 fun y => g1 (y.2 u mu).2)
      · rw [decide_eq_false g0]
        exact iteF ⟨false, rfl, iteF (no k3 tb3 fun y => g0 (y.2 u mu).1)⟩
    · obtain ⟨k3, tb3, al3⟩ := z
      rw [List.length_map, List.take_length] at al3
      have z := q H3 (k1.trans k3) tb3
      rw [dcd_t ⟨nd, al3⟩] at z
      exact z
def sphLeads : Sp := fun vs H Q _ => ∃ (o t : Addr) (a b : Int) (ys : List V) (os : Ofs) (ns : List Int), vs = [.ref o, .ref t, .int a, .int b] ∧ H o = some (.tup ys) ∧ PAll H ys os ∧ H t = some (.tup (ns.map V.int)) ∧ (∀ x ∈ ns, 0 ≤ x ∧ x < (os.length : Int)) ∧ ∀ H', Same H H' → Q (.bl (dcd (Leads os b a ns))) H'
theorem okh_leadson (T : Top K mg) : FnOk P w K mg base CX0 1 T.a_leadson T.d_leadson ["offers", "numbers", "a", "b"] sphLeads := by
  refine T.F_leadson.ok sc_leadson (fun vs H Q E h => ?_) (fun cdv A outer s H vs Q E hr h => ?_)
  · obtain ⟨o, t, a, b, ys, os, ns, rfl, _⟩ := h
    rfl
  · obtain ⟨o, t, a, b, ys, os, ns, rfl, ho, pa, ht, rg, q⟩ := h
    refine ⟨_, (pss_cons (ps_set (i := 4) sc_leadson.nd rfl (.inl rfl) (pv 2))
      (pss_cons (ps_for PassesOwn.never rfl (pi_tup (pv 1)) (pg_name (i := 5) sc_leadson.nd rfl (.inl rfl)) (pss_cons (ps_set (i := 6) sc_leadson.nd rfl (.inl rfl) (pe_slice sl_tupA (pe_ix ix_tup (pv 0) (pv 5) (fun _ _ => rfl)) po_none (po_some pe_int)))
      (pss_cons (ps_if (pt_cmpR op_notIn_seq (pv 4) (pv 6) (by rfl)) (pss_one (ps_ret pe_bl)) pss_nil)
      (pss_one (ps_set (i := 4) sc_leadson.nd rfl (.inl rfl) (pe_ifExp (pt_cmpR op_eq (pv 4) (pe_ix ix_tup (pv 6) pe_int (fun _ _ => rfl)) (nomark _)) (pe_ix ix_tup (pv 6) pe_int (fun _ _ => rfl)) (pe_ix ix_tup (pv 6) pe_int (fun _ _ => rfl))))))))
      (pss_one (ps_ret (pe_cmpR op_eq (pv 4) (pv 3) (nomark _)))))), ?_⟩
    refine ⟨_, rfl, ?_⟩
    refine ⟨_, rfl, t, rfl, ⟨_, SqT.of ht⟩, for_tup (xs := ns.map V.int) (fun i σ H2 => ∃ (h : Int) (y5 y6 : Option V), σ = [some (.ref o), some (.ref t), some (.int a), some (.int b), some (.int h), y5, y6] ∧ Same H H2 ∧ (Leads os b a ns ↔ Leads os b h (ns.drop i))) ⟨a, none, none, rfl, same_refl, Iff.rfl⟩ (fun i σ H2 _ z => by obtain ⟨_, _, _, _, z, _⟩ := z; exact SqT.of (z _ _ ht)) ?_ ?_⟩
    · rintro i v σ H2 hv ⟨h, y5, y6, rfl, s2, iff⟩
      rw [List.getElem?_map] at hv
      obtain ⟨n, hn, rfl⟩ := Option.map_eq_some_iff.mp hv
      obtain ⟨n0, n1⟩ := rg n (List.mem_of_getElem? hn)
      have l : n.toNat < os.length := by omega
      have hu : os[n.toNat]? = some os[n.toNat] := List.getElem?_eq_getElem l
      generalize os[n.toNat] = u at hu
      obtain ⟨tp, e1, htp⟩ := (pa.same s2).ix n0 hu
      have ed : ns.drop i = n :: ns.drop (i + 1) := drop_at hn
      rw [ed] at iff
      refine ⟨_, rfl, _, rfl, o, _, _, _, rfl, rfl, SqT.of (s2 _ _ ho), e1, 2, rfl, slA rfl htp fun p H3 s3 hp => ?_⟩
      have ec : cutV [V.int u.1, V.int u.2] none (some 2) = [u.1, u.2].map V.int := by rfl
      rw [ec] at hp
      have s23 := s2.trans s3
      refine ⟨_, rfl, _, rfl, p, _, rfl, .inr (SqT.of hp), rfl, flat_ints _, !decide (h ∈ [u.1, u.2]), congrArg (fun z => V.bl (!z)) (inV_ints h [u.1, u.2]), ?_⟩
      by_cases m : h ∈ [u.1, u.2]
      case neg =>
        rw [decide_eq_false m]
        have y := q H3 s23
        rw [dcd_f fun z => ?_] at y
        · exact iteT y
        · refine leads_no hu (fun z => m ?_) (iff.mp z)
          rcases z with rfl | rfl
          · exact List.mem_cons_self
          · exact List.mem_cons_of_mem _ List.mem_cons_self
      have m2 : h = u.1 ∨ h = u.2 := by
        rcases List.mem_cons.mp m with z | z
        · exact .inl z
        · exact .inr (List.mem_singleton.mp z)
      rw [decide_eq_true m]
      refine iteF ?_
      have iff2 := iff.trans (leads_cons n0 hu m2)
      refine ⟨_, rfl, _, rfl, p, _, _, _, rfl, rfl, SqT.of hp, atI_nat (j := 0) rfl, rfl, _, rfl, ite2 (fun z => ?_) (fun z => ?_)⟩
      · have z : h = u.1 := V.int.inj (of_decide_eq_true z)
        refine ⟨_, rfl, p, _, _, _, rfl, rfl, SqT.of hp, atI_nat (j := 1) rfl, _, _, _, rfl, s23, ?_⟩
        unfold endO at iff2
        rw [if_pos z] at iff2
        exact iff2
      · have z : h ≠ u.1 := fun e => z (decide_eq_true (congrArg V.int e))
        refine ⟨_, rfl, p, _, _, _, rfl, rfl, SqT.of hp, atI_nat (j := 0) rfl, _, _, _, rfl, s23, ?_⟩
        unfold endO at iff2
        rw [if_neg z] at iff2
        exact iff2
    · rintro σ H2 ⟨h, y5, y6, rfl, s2, iff⟩
      rw [List.length_map, List.drop_length, leads_nil] at iff
      have y := q H2 s2
      rw [dcd_iff iff, dcd_dec] at y
      refine ⟨_, rfl, _, rfl, rfl, ?_⟩
      have e : decide (V.int h = V.int b) = decide (h = b) := decide_eq_decide.mpr ⟨V.int.inj, congrArg V.int⟩
      show Q (.bl (decide (V.int h = V.int b))) H2
      rw [e]
      exact y
def spWorded (T : Top K mg) : Sp := fun vs H Q _ => ∃ (p t : Addr) (x : Str) (ns : List Int), vs = [.ref p] ∧ H p = some (.tup [.str x, .ref t]) ∧ H t = some (.tup (ns.map V.int)) ∧ Tb T.tbs H ∧ ∀ H', Kp H H' → Tb T.tbs H' → Q (.bl true) H'
theorem ok_worded (T : Top K mg) (TBA : GxR.TabB base mg T.cA T.PA) : FnOk P w K mg base CX0 4 T.a_isworded T.d_isworded ["thing"] (spWorded T) := by
  have G_arewholes : FnOk P w K mg base CX0 3 _ _ _ _ := ok_wholes T TBA
  refine T.F_isworded.ok sc_isworded (fun vs H Q E h => ?_) (fun cdv A outer s H vs Q E hr h => ?_)
  · obtain ⟨p, t, x, ns, rfl, _⟩ := h
    rfl
  · obtain ⟨p, t, x, ns, rfl, hp, ht, tb, q⟩ := h
    refine ⟨_, (pss_one (ps_ret (pe_and (pe_callB call_isi (by rfl) T.m_isinstance (by decide +kernel) (pa_cons (pv 0) (pa_cons (pe_bltn (v := .ty "tuple") (by rfl) T.m_tuple (by decide +kernel) rfl) pa_nil))) (pe_and (pe_cmpR op_eq (pe_callB call_len_seq (by rfl) T.m_len PySem.boot_len (pa_cons (pv 0) pa_nil)) pe_int (nomark _)) (pe_and (pe_callB call_isi (by rfl) T.m_isinstance (by decide +kernel) (pa_cons (pe_ix ix_tup (pv 0) pe_int (fun _ _ => rfl)) (pa_cons (pe_bltn (v := .ty "str") (by rfl) T.m_str (by decide +kernel) rfl) pa_nil))) (pe_one (pe_call G_arewholes hr (by rfl) T.g_arewholes T.F_arewholes.kp T.b_arewholes .nil pass0 (pa_cons (pe_ix ix_tup (pv 0) pe_int (fun _ _ => rfl)) pa_nil)))))))), ?_⟩
    refine ⟨_, rfl, _, _, _, _, true, rfl, ClsV.ty _, .base (.tup hp), kit_ty (by decide +kernel), _, rfl, iteT ?_⟩
    refine ⟨_, rfl, p, _, rfl, .inr (SqT.of hp), rfl, _, rfl, iteT ?_⟩
    refine ⟨_, rfl, p, _, _, _, rfl, rfl, SqT.of hp, atI_nat (j := 0) rfl, _, _, _, _, true, rfl, ClsV.ty _, .base (.str x), kit_ty (by decide +kernel), _, rfl, iteT ?_⟩
    exact ⟨_, rfl, p, _, _, _, rfl, rfl, SqT.of hp, atI_nat (j := 1) rfl, t, ns, rfl, ht, tb, q⟩
def spRound (T : Top K mg) : Sp := fun vs H Q _ => ∃ (o t : Addr) (k : Nat) (ab : Int × Int) (ys : List V) (os : Ofs) (ns : List Int), vs = [.ref o, .int (k : Int), .ref t] ∧ H o = some (.tup ys) ∧ PAll H ys os ∧ os[k]? = some ab ∧ H t = some (.tup (ns.map V.int)) ∧ ns.length ≤ 1000 ∧ Tb T.tbs H ∧ ∀ H', Kp H H' → Tb T.tbs H' → Q (.bl (dcd (GoodR os (k : Int) ab.1 ab.2 ns))) H'
theorem ok_round (T : Top K mg) (TBA : GxR.TabB base mg T.cA T.PA) (TBO : GxR.TabB base mg T.cO T.PO) : FnOk P w K mg base CX0 5 T.a_iswayround T.d_iswayround ["offers", "number", "way"] (spRound T) := by
  have G_areoffers : FnOk P w K mg base CX0 4 _ _ _ _ := okh_areoffers T TBA TBO
  have G_leadson : FnOk P w K mg base CX0 1 _ _ _ _ := okh_leadson T
  refine T.F_iswayround.ok sc_iswayround (fun vs H Q E h => ?_) (fun cdv A outer s H vs Q E hr h => ?_)
  · obtain ⟨o, t, k, ab, ys, os, ns, rfl, _⟩ := h
    rfl
  · obtain ⟨o, t, k, ab, ys, os, ns, rfl, ho, pa, hab, ht, len, tb, q⟩ := h
    refine ⟨_, (pss_cons (ps_asg (pe_ix ix_tup (pv 0) (pv 1) (fun _ _ => rfl)) (pg_tup rfl (pgs_cons (pg_name (i := 3) sc_iswayround.nd rfl (.inl rfl)) (pgs_cons (pg_name (i := 4) sc_iswayround.nd rfl (.inl rfl)) pgs_nil))))
      (pss_one (ps_ret (pe_and (pe_call G_areoffers hr (by rfl) T.g_areoffers T.F_areoffers.kp T.b_areoffers .nil pass0 (pa_cons (pv 0) (pa_cons (pv 2) pa_nil))) (pe_and (pe_cmpR op_notIn_seq (pv 1) (pv 2) (by rfl)) (pe_one (pe_call G_leadson (hr.mono (by decide)) (by rfl) T.g_leadson T.F_leadson.kp T.b_leadson .nil pass0 (pa_cons (pv 0) (pa_cons (pv 2) (pa_cons (pv 3) (pa_cons (pv 4) pa_nil))))))))))), ?_⟩
    obtain ⟨tp, e1, htp⟩ := pa.get hab
    have ly := pa.length
    refine ⟨_, rfl, _, rfl, o, _, _, _, rfl, rfl, SqT.of ho, atI_nat e1, tp, _, rfl, SqT.of htp, rfl, _, _, rfl, _, _, rfl, rfl, ?_⟩
    refine ⟨_, rfl, _, rfl, o, t, ys, ns, rfl, ho, ht, len, tb, fun H1 k1 tb1 => ⟨_, rfl, ?_⟩⟩
    have no : ∀ {H'}, Kp H1 H' → Tb T.tbs H' → ¬ GoodR os (k : Int) ab.1 ab.2 ns → Q (.bl false) H' := fun {H'} k' t' z => by
      have y := q H' (k1.trans k') t'
      rw [dcd_f z] at y
      exact y
    by_cases g : ns.Nodup ∧ ∀ x ∈ ns, 0 ≤ x ∧ x < (ys.length : Int)
    case neg =>
      rw [dcd_f g]
      exact iteF (no (Kp.refl H1) tb1 fun y => g ⟨y.nd, fun x m => by rw [ly]; exact y.rg x m⟩)
    rw [dcd_t g]
    refine iteT ?_
    have g2 : ∀ x ∈ ns, 0 ≤ x ∧ x < (os.length : Int) := fun x m => ly ▸ g.2 x m
    have ht1 := k1.tup ht
    refine ⟨_, rfl, _, rfl, t, _, rfl, .inr (SqT.of ht1), rfl, flat_ints _, !decide ((k : Int) ∈ ns), congrArg (fun z => V.bl (!z)) (inV_ints (k : Int) ns), ?_⟩
    by_cases nk : (k : Int) ∈ ns
    · rw [decide_eq_true nk]
      exact iteF (no (Kp.refl H1) tb1 fun y => y.nk nk)
    rw [decide_eq_false nk]
    refine iteT ?_
    refine ⟨_, rfl, _, rfl, _, rfl, _, rfl, o, t, ab.1, ab.2, ys, os, ns, rfl, k1.tup ho, pa.kp k1, ht1, g2, fun H2 s2 => ?_⟩
    have y := q H2 (k1.same s2) (tb1.same s2)
    rw [dcd_iff (show GoodR os (k : Int) ab.1 ab.2 ns ↔ Leads os ab.2 ab.1 ns from ⟨fun y => y.ld, fun y => ⟨g.1, g2, nk, y⟩⟩)] at y
    exact y
theorem cut_to (ys : List V) (k : Nat) : cutV ys none (some (k : Int)) = ys.take k := cut_nat (α := Unit) ys k
theorem cut_from (ys : List V) (k : Nat) : cutV ys (some ((k : Int) + 1)) none = ys.drop (k + 1) := by
  unfold cutV
  rw [show ((k : Int) + 1) = ((k + 1 : Nat) : Int) by omega, HT.sIx_nat, HT.sIx_none]
  by_cases h : k + 1 ≤ ys.length
  · rw [Nat.min_eq_left h, List.take_of_length_le]
    rw [List.length_drop]
    omega
  · rw [Nat.min_eq_right (by omega), List.drop_eq_nil_of_le (Nat.le_refl _), List.drop_eq_nil_of_le (by omega)]
    exact List.take_nil
def spEntry (T : Top K mg) : Sp := fun vs H Q _ => ∃ (m : Int) (o p t : Addr) (k : Nat) (ab : Int × Int) (ys : List V) (os : Ofs) (r : Rw), vs = [.int m, .ref o, .int (k : Int), .ref p] ∧ 0 ≤ m ∧ m ≤ 100 ∧ H o = some (.tup ys) ∧ PAll H ys os ∧ os.length ≤ 100 ∧ os[k]? = some ab ∧ H p = some (.tup [.str (wordR r.1), .ref t]) ∧ H t = some (.tup (r.2.map V.int)) ∧ r.2.length ≤ 1000 ∧ Tb T.tbs H ∧ ∀ H', Kp H H' → Tb T.tbs H' → Q (.bl (dcd (Good m os k ab r))) H'
theorem ok_entry (T : Top K mg) (TBA : GxR.TabB base mg T.cA T.PA) (TBO : GxR.TabB base mg T.cO T.PO) (TBR : GxR.TabB base mg T.cR T.PR) (TBS : GxR.TabB base mg T.cS T.PS) : FnOk P w K mg base CX0 6 T.a_isholdentry T.d_isholdentry ["many", "offers", "number", "thing"] (spEntry T) := by
  have G_isworded : FnOk P w K mg base CX0 4 _ _ _ _ := ok_worded T TBA
  have G_setsapart : FnOk P w K mg base CX0 3 _ _ _ _ := ok_setsapart T TBR TBS
  have G_asforest : FnOk P w K mg base CX0 1 _ _ _ _ := ok_asforestU T
  have G_iswayround : FnOk P w K mg base CX0 5 _ _ _ _ := ok_round T TBA TBO
  refine T.F_isholdentry.ok sc_isholdentry (fun vs H Q E h => ?_) (fun cdv A outer s H vs Q E hr h => ?_)
  · obtain ⟨m, o, p, t, k, ab, ys, os, r, rfl, _⟩ := h
    rfl
  · obtain ⟨m, o, p, t, k, ab, ys, os, ⟨hb, ns⟩, rfl, m0, m1, ho, pa, lo, hab, hp, ht, len, tb, q⟩ := h
    dsimp only at hp ht len
    refine ⟨_, (pss_cons (ps_if (pt_not (pt_val (pe_call G_isworded (hr.mono (by decide)) (by rfl) T.g_isworded T.F_isworded.kp T.b_isworded .nil pass0 (pa_cons (pv 3) pa_nil)))) (pss_one (ps_ret pe_bl)) pss_nil)
      (pss_cons (ps_asg (pv 3) (pg_tup rfl (pgs_cons (pg_name (i := 4) sc_isholdentry.nd rfl (.inl rfl)) (pgs_cons (pg_name (i := 5) sc_isholdentry.nd rfl (.inl rfl)) pgs_nil))))
      (pss_cons (ps_asg (pe_ix ix_tup (pv 1) (pv 2) (fun _ _ => rfl)) (pg_tup rfl (pgs_cons (pg_name (i := 6) sc_isholdentry.nd rfl (.inl rfl)) (pgs_cons (pg_name (i := 7) sc_isholdentry.nd rfl (.inl rfl)) pgs_nil))))
      (pss_cons (ps_if (pt_cmpR op_eq (pv 4) pe_str (nomark _)) (pss_cons (ps_set (i := 8) sc_isholdentry.nd rfl (.inl rfl) (pe_op op_catA (pe_slice sl_tupA (pv 1) po_none (po_some (pv 2))) (pe_slice sl_tupA (pv 1) (po_some (pe_op op_add (pv 2) pe_int)) po_none)))
      (pss_one (ps_ret (pe_call G_setsapart (hr.mono (by decide)) (by rfl) T.g_setsapart T.F_setsapart.kp T.b_setsapart .nil pass0 (pa_cons (pe_call G_asforest (hr.mono (by decide)) (by rfl) T.g_asforest T.F_asforest.kp T.b_asforest .nil pass0 (pa_cons (pv 0) (pa_cons (pv 8) pa_nil))) (pa_cons (pv 6) (pa_cons (pv 7) (pa_cons (pv 5) pa_nil)))))))) pss_nil)
      (pss_one (ps_ret (pe_and (pe_cmpR op_eq (pv 4) pe_str (nomark _)) (pe_one (pe_call G_iswayround hr (by rfl) T.g_iswayround T.F_iswayround.kp T.b_iswayround .nil pass0 (pa_cons (pv 1) (pa_cons (pv 2) (pa_cons (pv 5) pa_nil)))))))))))), ?_⟩
    refine ⟨_, rfl, p, t, _, ns, rfl, hp, ht, tb, fun H1 k1 tb1 => ⟨_, rfl, iteF ?_⟩⟩
    have hp1 := k1.tup hp
    have ht1 := k1.tup ht
    have ho1 := k1.tup ho
    have pa1 := pa.kp k1
    have ly := pa.length
    refine ⟨_, rfl, p, _, rfl, SqT.of hp1, rfl, _, _, rfl, _, _, rfl, rfl, ?_⟩
    obtain ⟨tp, e1, htp⟩ := pa1.get hab
    refine ⟨_, rfl, _, rfl, o, _, _, _, rfl, rfl, SqT.of ho1, atI_nat e1, tp, _, rfl, SqT.of htp, rfl, _, _, rfl, _, _, rfl, rfl, ?_⟩
    cases hb with
    | true =>
      refine ⟨_, rfl, rfl, _, rfl, iteT ?_⟩
      refine ⟨_, rfl, _, rfl, _, rfl, slA rfl ho1 fun q1 H2 s2 h2 => ?_⟩
      refine ⟨_, rfl, _, rfl, _, _, rfl, rfl, _, rfl, no_part (slA rfl (s2 _ _ ho1) fun q2 H3 s3 h3 => ?_)⟩
      rw [cut_to] at h2
      rw [cut_from] at h3
      refine catA rfl rfl (s3 _ _ h2) h3 (sz (by rw [List.length_take, List.length_drop]; omega)) fun q3 H4 s4 h4 => ?_
      have s14 := (s2.trans s3).trans s4
      have pa4 : PAll H4 (ys.take k ++ ys.drop (k + 1)) (othersO os k) := ((pa1.take k).append (pa1.drop (k + 1))).same s14
      refine ⟨_, rfl, _, rfl, m, q3, _, rfl, m0, m1, h4, fun f g l H5 s5 hf hg hl => ?_⟩
      have s15 := s14.trans s5
      refine ⟨_, rfl, _, rfl, _, rfl, f, g, l, t, ab.1, ab.2, m, _, othersO os k, ns, rfl, hf, hg, m0, hl, pa4.same s5, s15 _ _ ht1, tb1.same s15, fun H6 k6 tb6 => ?_⟩
      exact q H6 ((k1.same s15).trans k6) tb6
    | false =>
      refine ⟨_, rfl, rfl, _, rfl, iteF ?_⟩
      refine ⟨_, rfl, rfl, _, rfl, iteT ?_⟩
      refine ⟨_, rfl, _, rfl, _, rfl, o, t, k, ab, ys, os, ns, rfl, ho1, pa1, hab, ht1, len, tb1, fun H2 k2 tb2 => ?_⟩
      have y := q H2 (k1.trans k2) tb2
      rw [dcd_iff good_r] at y
      exact y
def spShows (T : Top K mg) : Sp := fun vs H Q _ => ∃ (m : Int) (o p : Addr) (ys xs : List V) (os : Ofs) (rs : List Rw), vs = [.int m, .ref o, .ref p] ∧ 0 ≤ m ∧ m ≤ 100 ∧ H o = some (.tup ys) ∧ PAll H ys os ∧ os.length ≤ 100 ∧ H p = some (.tup xs) ∧ RAll H xs rs ∧ rs.length = os.length ∧ (∀ r ∈ rs, r.2.length ≤ 1000) ∧ Tb T.tbs H ∧ ∀ H', Kp H H' → Tb T.tbs H' → Q (.bl (dcd (AllGood m os rs))) H'
theorem ok_shows (T : Top K mg) (TBA : GxR.TabB base mg T.cA T.PA) (TBO : GxR.TabB base mg T.cO T.PO) (TBR : GxR.TabB base mg T.cR T.PR) (TBS : GxR.TabB base mg T.cS T.PS) (TB : GxR.TabB base mg T.cH T.PH) : FnOk P w K mg base CX0 8 T.a_showsholding T.d_showsholding ["many", "offers", "thing"] (spShows T) := by
  have G_isholdentry : FnOk P w K mg base CX0 6 _ _ _ _ := ok_entry T TBA TBO TBR TBS
  refine okC T.F_showsholding T.hcH sc_showsholding (fun vs H Q E h => ?_) (fun A outer s H vs Q E hr h => ?_)
  · obtain ⟨m, o, p, ys, xs, os, rs, rfl, _⟩ := h
    rfl
  · obtain ⟨m, o, p, ys, xs, os, rs, rfl, m0, m1, ho, pa, lo, hp, ra, ll, lr, tb, q⟩ := h
    have ly := pa.length
    have lx := ra.length
    refine ⟨_, (pss_cons (ps_if (PW.pt (pw_or (pt_not (pt_val (pe_callB call_isi (by rfl) T.m_isinstance (by decide +kernel) (pa_cons (pv 2) (pa_cons (pe_bltn (v := .ty "tuple") (by rfl) T.m_tuple (by decide +kernel) rfl) pa_nil))))) (pw_or1 (pt_cmpR op_ne (pe_callB call_len_seq (by rfl) T.m_len PySem.boot_len (pa_cons (pv 2) pa_nil)) (pe_callB call_len_seq (by rfl) T.m_len PySem.boot_len (pa_cons (pv 1) pa_nil)) (nomark _))))) (pss_one (ps_ret pe_bl)) pss_nil)
      (pss_one (ps_ret (pe_allG (own := [("number", 3), ("entry", 4)]) hr rfl sc_showsholding.nd (by rfl) T.m_all (by decide +kernel) TB rfl (blkOk_by (own := [("number", 3), ("entry", 4)]) (N := ["many", "offers", "thing", "number", "entry"]) (sc := defScope s_showsholding) (by decide +kernel)) (by rfl) (by decide +kernel) (by rfl) (pi_enumT (by rfl) T.m_enumerate (pa_cons (pv 2) pa_nil)) (fun _ _ _ _ _ _ _ => (pg_tupK (K := K) (n := 2) rfl rfl (pgs_cons (pg_name (i := 3) sc_showsholding.nd rfl (.inl rfl) (hf := Or.inr rfl)) (pgs_cons (pg_name (i := 4) sc_showsholding.nd rfl (.inl rfl) (hf := Or.inr rfl)) pgs_nil)) rfl)) (fun _ _ _ _ _ _ _ hr' => (pe_call G_isholdentry hr' (by rfl) T.g_isholdentry T.F_isholdentry.kp T.b_isholdentry .nil pass0 (pa_cons (pv 0) (pa_cons (pv 1) (pa_cons (pv 3) (pa_cons (pv 4) pa_nil)))))))))), ?_⟩
    refine ⟨_, rfl, _, _, _, _, true, rfl, ClsV.ty _, .base (.tup hp), kit_ty (by decide +kernel), _, rfl, iteF ?_⟩
    refine ⟨_, rfl, p, _, rfl, .inr (SqT.of hp), _, rfl, o, _, rfl, .inr (SqT.of ho), rfl, _, rfl, ite2 (fun z => absurd (by omega) (ne_int z)) (fun _ => ?_)⟩
    refine ⟨_, rfl, p, _, rfl, SqT.of hp, tb.g T.mH, fun H2 tab => ?_⟩
    have k2 := Kp.of_tabd (tb.g T.mH) tab
    have tb2 := tb.tab T.nd T.mH (But.of_tab tab) tab.1
    refine gturns_it (walk_enumT (xs := xs)) (fun i H3 => Kp H H3 ∧ Tb T.tbs H3 ∧ ∀ (k : Nat) (t : Int × Int) (r : Rw), k < i → os[k]? = some t → rs[k]? = some r → Good m os k t r) ⟨k2, tb2, fun k t r z => absurd z (Nat.not_lt_zero _)⟩ (fun i H3 _ z => SqT.of (z.1.tup hp)) ?_ (fun H3 z => ?_)
    · rintro i x H3 H4 N hi ⟨k3, tb3, al3⟩ ⟨g, x, y, rfl, ng, rfl, hx, hy⟩ nx
      dsimp only at hx hy
      obtain rfl : V.int (i : Int) = x := Option.some.inj hx
      obtain ⟨e, t, r, rfl, hr', he, ht⟩ := (ra.kp k3).at hy
      have hi2 : i < os.length := by
        have := (List.getElem?_eq_some_iff.mp hr').1
        omega
      have hab : os[i]? = some os[i] := List.getElem?_eq_getElem hi2
      have sg := same_new (o := .tup [V.int (i : Int), V.ref e]) ng
      refine ⟨g, _, rfl, SqT.of upd_same, rfl, _, _, rfl, _, _, rfl, rfl, rfl, _, rfl, _, rfl, _, rfl, _, rfl, m, o, e, t, i, _, ys, os, r, rfl, m0, m1, sg _ _ (k3.tup ho), (pa.kp k3).same sg, lo, hab, sg _ _ he, sg _ _ ht, lr r (List.mem_of_getElem? hr'), tb3.same sg, fun H5 k5 tb5 => ⟨_, rfl, ?_⟩⟩
      have k35 := (k3.same sg).trans k5
      by_cases gd : Good m os i os[i] r
      · rw [dcd_t gd]
        refine iteT (nx _ ⟨k35, tb5, fun k t r' lt h1 h2 => ?_⟩)
        by_cases ek : k < i
        · exact al3 k t r' ek h1 h2
        · have ek : k = i := by omega
          subst ek
          rw [hab] at h1
          rw [hr'] at h2
          cases Option.some.inj h1
          cases Option.some.inj h2
          exact gd
      · rw [dcd_f gd]
        refine iteF ?_
        have y := q H5 k35 tb5
        rw [dcd_f fun z => gd (z i _ r hab hr')] at y
        exact y
    · obtain ⟨k3, tb3, al3⟩ := z
      have y := q H3 k3 tb3
      have ag : AllGood m os rs := fun k t r h1 h2 => al3 k t r (by
        have := (List.getElem?_eq_some_iff.mp h2).1
        omega) h1 h2
      rw [dcd_t ag] at y
      exact y
end

end My
namespace My
open PySem L2
/-! ### slacks -/
def MinV (xs : List Int) (v : V) : Prop := xs = [] ∧ v = .non ∨ ∃ m, v = .int m ∧ m ∈ xs ∧ ∀ y ∈ xs, m ≤ y
def MaxV (xs : List Int) (v : V) : Prop := xs = [] ∧ v = .non ∨ ∃ m, v = .int m ∧ m ∈ xs ∧ ∀ y ∈ xs, y ≤ m
theorem MinV.det {xs : List Int} {v u : V} (h1 : MinV xs v) (h2 : MinV xs u) : v = u := by
  rcases h1 with ⟨e, rfl⟩ | ⟨m, rfl, mm, lm⟩
  · rcases h2 with ⟨_, rfl⟩ | ⟨k, _, mk, _⟩
    · rfl
    · rw [e] at mk
      cases mk
  · rcases h2 with ⟨e, _⟩ | ⟨k, rfl, mk, lk⟩
    · rw [e] at mm
      cases mm
    · have z1 := lm k mk
      have z2 := lk m mm
      rw [show m = k by omega]
theorem MaxV.det {xs : List Int} {v u : V} (h1 : MaxV xs v) (h2 : MaxV xs u) : v = u := by
  rcases h1 with ⟨e, rfl⟩ | ⟨m, rfl, mm, lm⟩
  · rcases h2 with ⟨_, rfl⟩ | ⟨k, _, mk, _⟩
    · rfl
    · rw [e] at mk
      cases mk
  · rcases h2 with ⟨e, _⟩ | ⟨k, rfl, mk, lk⟩
    · rw [e] at mm
      cases mm
    · have z1 := lm k mk
      have z2 := lk m mm
      rw [show m = k by omega]
theorem MinV.more {xs : List Int} {v : V} {p : Int} (h : MinV xs v) : (v = .non ∧ MinV (xs ++ [p]) (.int p)) ∨ ∃ m, v = .int m ∧ MinV (xs ++ [p]) (.int (if p < m then p else m)) := by
  rcases h with ⟨rfl, rfl⟩ | ⟨m, rfl, mm, lm⟩
  · exact .inl ⟨rfl, .inr ⟨p, rfl, List.mem_cons_self, fun y my => by rw [List.mem_singleton.mp my]; exact Int.le_refl _⟩⟩
  · refine .inr ⟨m, rfl, .inr ⟨_, rfl, ?_, fun y my => ?_⟩⟩
    · split
      · exact List.mem_append_right _ List.mem_cons_self
      · exact List.mem_append_left _ mm
    · rcases List.mem_append.mp my with my | my
      · have := lm y my
        split <;> omega
      · rw [List.mem_singleton.mp my]
        split <;> omega
def paidBy (os : O3s) (rs : List NR) (j : Int) : List Int := (rs.filter fun r => decide (j ∈ r.2)).map fun r => pcO os r.1
structure Slk (os : O3s) (ks : List Int) (rs : List NR) (fs : List V) : Prop where
  len : fs.length = os.length
  kept : ∀ (j : Nat) (v : V), (j : Int) ∈ ks → fs[j]? = some v → MinV (paidBy os rs (j : Int)) v
  gone : ∀ (j : Nat) (v : V) (ws : List Int), ((j : Int), ws) ∈ rs → fs[j]? = some v → MaxV (ws.map (pcO os)) v
theorem PapL.row {os : O3s} {ks : List Int} {rs : List NR} (h : PapL os ks rs) {j : Int} (j0 : 0 ≤ j) (j1 : j < (os.length : Int)) (nj : j ∉ ks) : ∃ ws, (j, ws) ∈ rs := by
  have z : j ∈ rs.map Prod.fst := by
    rw [h.hd]
    exact mem_gone.mpr ⟨⟨j0, j1⟩, nj⟩
  obtain ⟨r, mr, e⟩ := List.mem_map.mp z
  exact ⟨r.2, by rw [← e]; exact mr⟩
theorem Slk.det {os : O3s} {ks : List Int} {rs : List NR} {fs gs : List V} (h : PapL os ks rs) (h1 : Slk os ks rs fs) (h2 : Slk os ks rs gs) : fs = gs := by
  have e1 := h1.len
  have e2 := h2.len
  refine List.ext_getElem? fun i => ?_
  by_cases lt : i < os.length
  · have r1 : fs[i]? = some fs[i] := List.getElem?_eq_getElem (by omega)
    have r2 : gs[i]? = some gs[i] := List.getElem?_eq_getElem (by omega)
    rw [r1, r2]
    congr 1
    by_cases mk : (i : Int) ∈ ks
    · exact (h1.kept i _ mk r1).det (h2.kept i _ mk r2)
    · obtain ⟨ws, m⟩ := h.row (by omega) (by omega) mk
      exact (h1.gone i _ ws m r1).det (h2.gone i _ ws m r2)
  · rw [List.getElem?_eq_none (by omega), List.getElem?_eq_none (by omega)]
theorem paid_snoc {os : O3s} {rs : List NR} {r : NR} {j : Int} : paidBy os (rs ++ [r]) j = paidBy os rs j ++ if j ∈ r.2 then [pcO os r.1] else [] := by
  unfold paidBy
  rw [List.filter_append, List.map_append]
  congr 1
  by_cases c : j ∈ r.2
  · rw [if_pos c, List.filter_cons_of_pos (by simp [c])]
    rfl
  · rw [if_neg c, List.filter_cons_of_neg (by simp [c])]
    rfl
theorem ixN_nat {n k : Nat} (h : k < n) : ixN n (k : Int) = some k := by
  unfold ixN
  rw [if_pos (by omega), if_pos (by omega)]
  simp
theorem repl_non {n i : Nat} {v : V} (h : (List.replicate n V.non)[i]? = some v) : v = .non := List.eq_of_mem_replicate (List.mem_of_getElem? h)
/-- within a row: its first so many numbers are told -/
structure SlkP (os : O3s) (ks : List Int) (rs : List NR) (ws : List Int) (pr : Int) (p : Nat) (gs : List V) : Prop where
  len : gs.length = os.length
  kept : ∀ (j : Nat) (v : V), (j : Int) ∈ ks → gs[j]? = some v → MinV (paidBy os rs (j : Int) ++ if (j : Int) ∈ ws.take p then [pr] else []) v
  gone : ∀ (j : Nat) (v : V) (us : List Int), ((j : Int), us) ∈ rs → gs[j]? = some v → MaxV (us.map (pcO os)) v
section
variable {os : O3s} {ks ws : List Int} {rs : List NR} {gs : List V} {pr : Int} {p kn : Nat}
theorem not_before (nd : ws.Nodup) {k : Int} (hk : ws[p]? = some k) : k ∉ ws.take p := fun m => by
  have z : (ws.take (p + 1)).Nodup := nd.sublist (List.take_sublist _ _)
  rw [take_at hk] at z
  exact (List.nodup_append.mp z).2.2 k m k List.mem_cons_self rfl
theorem SlkP.old (S : SlkP os ks rs ws pr p gs) (nd : ws.Nodup) (hk : ws[p]? = some (kn : Int)) (mk : (kn : Int) ∈ ks) {v : V} (hv : gs[kn]? = some v) : MinV (paidBy os rs (kn : Int)) v := by
  have z := S.kept kn v mk hv
  rw [if_neg (not_before nd hk), List.append_nil] at z
  exact z
theorem SlkP.step (S : SlkP os ks rs ws pr p gs) (hk : ws[p]? = some (kn : Int)) (mk : (kn : Int) ∈ ks) (ng : ∀ (j : Int) (us : List Int), (j, us) ∈ rs → j ∉ ks) {u : V} (hu : MinV (paidBy os rs (kn : Int) ++ [pr]) u) : SlkP os ks rs ws pr (p + 1) (gs.set kn u) := by
  refine ⟨by rw [List.length_set]; exact S.len, fun j v mj hv => ?_, fun j v us m hv => ?_⟩
  · rw [take_at hk]
    by_cases e : j = kn
    · subst e
      rw [if_pos (List.mem_append_right _ List.mem_cons_self)]
      have l := (List.getElem?_eq_some_iff.mp hv).1
      rw [List.length_set] at l
      rw [List.getElem?_set_self l] at hv
      rw [← Option.some.inj hv]
      exact hu
    · rw [List.getElem?_set_ne fun z => e z.symm] at hv
      have z := S.kept j v mj hv
      have iff : (j : Int) ∈ ws.take p ++ [(kn : Int)] ↔ (j : Int) ∈ ws.take p := by
        rw [List.mem_append, List.mem_singleton]
        exact ⟨fun y => y.elim id fun y => absurd y (by omega), .inl⟩
      by_cases c : (j : Int) ∈ ws.take p
      · rw [if_pos c] at z
        rw [if_pos (iff.mpr c)]
        exact z
      · rw [if_neg c] at z
        rw [if_neg fun y => c (iff.mp y)]
        exact z
  · have e : kn ≠ j := fun z => ng _ us m (by rw [← z]; exact mk)
    rw [List.getElem?_set_ne e] at hv
    exact S.gone j v us m hv
theorem SlkP.end {xn : Nat} (S : SlkP os ks rs ws (pcO os (xn : Int)) ws.length gs) (nx : (xn : Int) ∉ ks) (un : ∀ us, ((xn : Int), us) ∈ rs → us = ws) {v : V} (hv : MaxV (ws.map (pcO os)) v) : Slk os ks (rs ++ [((xn : Int), ws)]) (gs.set xn v) := by
  refine ⟨by rw [List.length_set]; exact S.len, fun j u mj hu => ?_, fun j u us m hu => ?_⟩
  · have e : xn ≠ j := fun z => nx (by rw [z]; exact mj)
    rw [List.getElem?_set_ne e] at hu
    have z := S.kept j u mj hu
    rw [List.take_length] at z
    rw [paid_snoc]
    exact z
  · by_cases e : j = xn
    · subst e
      have l := (List.getElem?_eq_some_iff.mp hu).1
      rw [List.length_set] at l
      rw [List.getElem?_set_self l] at hu
      have eu : us = ws := by
        rcases List.mem_append.mp m with m | m
        · exact un us m
        · exact congrArg Prod.snd (List.mem_singleton.mp m)
      rw [eu, ← Option.some.inj hu]
      exact hv
    · rw [List.getElem?_set_ne fun z => e z.symm] at hu
      rcases List.mem_append.mp m with m | m
      · exact S.gone j u us m hu
      · have z := congrArg Prod.fst (List.mem_singleton.mp m)
        exact absurd z (by show ¬ ((j : Int) = (xn : Int)); omega)
end
section
variable {P : Program} {w : World} {K : PySem.W.Frag} {mg : Str → Option Value} {base : Heap}
def spSlacks (C : Addr) : Sp := fun vs H Q _ => ∃ (h O D : Addr) (n : Nat) (ys : List V) (os : O3s) (ks : List Int), vs = [.ref h] ∧ LightAt C H h O D n ys os (dtOf os ks) ∧ BdO os n ∧ n ≤ 40 ∧ os.length ≤ 63 ∧ Kru os os.length ks ∧
  ∀ (p : Addr) (fs : List V) (rs : List NR) (H' : Hp), Same H H' → H' p = some (.tup fs) → PapL os ks rs → Slk os ks rs fs → Q (.ref p) H'
theorem ok_slacks (T : Top K mg) : FnOk P w K mg base CX0 7 T.a_Lightestslacks T.d_Lightestslacks ["self"] (spSlacks T.C_Lightest) := by
  have G_Lightestpaper : FnOk P w K mg base CX0 6 _ _ _ _ := ok_papero T
  refine T.F_Lightestslacks.ok sc_Lightestslacks (fun vs H Q E h => ?_) (fun cdv A outer s H vs Q E hr h => ?_)
  · obtain ⟨h, O, D, n, ys, os, ks, rfl, _⟩ := h
    rfl
  · obtain ⟨h, O, D, n, ys, os, ks, rfl, A, B, n40, lo, Y, q⟩ := h
    obtain ⟨dx, hh⟩ := A.ob
    have ly := A.pa.length
    have rk := Y.rg
    refine ⟨_, (pss_cons (ps_setLc (i := 1) (own := [("offer", 2)]) (g := gName 2) (tt := tYes) (by rfl) sc_Lightestslacks.nd rfl rfl (sw_true rfl rfl rfl (by decide +kernel)) (pi_list (pe_fld (pv 0) rfl)) (blkOk_by (own := [("offer", 2)]) (N := ["self", "found", "offer", "number", "way", "price", "k"]) (sc := defScope s_Lightestslacks) (by decide +kernel)) (fun _ _ _ _ _ => (pg_name (i := 2) sc_Lightestslacks.nd rfl (.inl rfl))) (fun _ _ _ _ _ => pts_nil) (fun _ _ _ _ _ => pe_non))
      (pss_cons (ps_for PassesOwn.never rfl (pi_tup (pe_meth0 (pv 0) T.cl_Lightest T.me_Lightestpaper G_Lightestpaper hr T.b_Lightestpaper .nil pass0)) (pg_tup rfl (pgs_cons (pg_name (i := 3) sc_Lightestslacks.nd rfl (.inl rfl)) (pgs_cons (pg_name (i := 4) sc_Lightestslacks.nd rfl (.inl rfl)) pgs_nil))) (pss_cons (ps_set (i := 5) sc_Lightestslacks.nd rfl (.inl rfl) (pe_ix ix_tup (pe_ix ix_list (pe_fld (pv 0) rfl) (pv 3) (fun _ _ => rfl)) pe_int (fun _ _ => rfl)))
      (pss_cons (ps_for PassesOwn.never rfl (pi_tup (pv 4)) (pg_name (i := 6) sc_Lightestslacks.nd rfl (.inl rfl)) (pss_one (ps_asg (pe_ifExp (pt_cmpR op_isN (pe_ix ix_list (pv 1) (pv 6) (fun _ _ => rfl)) pe_non (nomark _)) (pv 5) (pe_callB (call_min2 rfl) (by rfl) T.m_min (by decide +kernel) (pa_cons (pe_ix ix_list (pv 1) (pv 6) (fun _ _ => rfl)) (pa_cons (pv 5) pa_nil)))) (pg_sub (pv 1) (pv 6) set_list))))
      (pss_one (ps_asg (pe_callBK (cr_maxN rfl (u65 hr)) (by rfl) T.m_max (by decide +kernel) (pa_cons (pe_lc (own := [("k", 6)]) (g := gName 6) (tt := tYes) (by rfl) sc_Lightestslacks.nd (pi_tup (pv 4)) (blkOk_by (own := [("k", 6)]) (N := ["self", "found", "offer", "number", "way", "price", "k"]) (sc := defScope s_Lightestslacks) (by decide +kernel)) (fun _ _ _ _ _ => (pg_name (i := 6) sc_Lightestslacks.nd rfl (.inl rfl))) (fun _ _ _ _ _ => pts_nil) (fun _ _ _ _ _ => (pe_ix (ix_tupK (K := K) rfl) (pe_ix (ix_listK (K := K) rfl) (pe_fldK (K := K) rfl (pv 0) rfl) (pv 6) (fun _ _ => rfl)) pe_int (fun _ _ => rfl)))) pa_nil) (pk_cons pe_non pk_nil)) (pg_sub (pv 1) (pv 3) set_list))))))
      (pss_one (ps_ret (pe_callTy call_tuple_of (by rfl) T.m_tuple (by decide +kernel) (pa_cons (pv 1) pa_nil)))))), ?_⟩
    refine ⟨_, rfl, h, T.C_Lightest, dx, _, _, rfl, hh, T.cl_Lightest, T.na_Lightest_offers, flds_offers _ _ _, O, rfl, ⟨_, SqL.of A.lo⟩, fun M nM => ?_⟩
    refine lc_list (xs := ys) (fun j H2 => Same H H2 ∧ H2 M = some (.lst (List.replicate j V.non))) ⟨same_new nM, upd_same⟩ (fun j H2 _ z => SqL.of (z.1 _ _ A.lo)) ?_ ?_
    · rintro j x H2 hx ⟨s2, hM⟩
      have lj := (List.getElem?_eq_some_iff.mp hx).1
      refine ⟨rfl, yes_ite ?_⟩
      refine ⟨_, hM, ?_, same_put s2 nM, ?_⟩
      · rw [List.length_replicate]
        exact szl (by omega)
      · rw [upd_same, List.replicate_succ']
    rintro H2 ⟨s2, hM⟩
    rw [ly] at hM
    have A2 := A.same s2
    -- the paper
    refine ⟨_, rfl, h, dx, _, rfl, s2 _ _ hh, flds_no _ _ _ (by decide +kernel) (by decide +kernel) (by decide +kernel), h, O, D, n, ys, os, ks, rfl, A2, B, n40, lo, Y, fun p xs rs H3 s3 hp ra pl => ?_⟩
    have s23 := s2.trans s3
    have nMp : p ≠ M := fun z => by
      rw [z, s3 _ _ hM] at hp
      cases hp
    have hM3 := s3 _ _ hM
    refine ⟨p, rfl, ⟨_, SqT.of hp⟩, for_tup (K := K) (a := p) (xs := xs) (fun i σ G => ∃ (fs : List V) (y2 y3 y4 y5 y6 : Option V), σ = [some (.ref h), some (.ref M), y2, y3, y4, y5, y6] ∧ (∀ c o, c ≠ M → H3 c = some o → G c = some o) ∧ G M = some (.lst fs) ∧ Slk os ks (rs.take i) fs) ⟨_, _, _, _, _, _, rfl, fun c o _ e => e, hM3, ⟨List.length_replicate, fun j v mk e => .inl ⟨rfl, repl_non e⟩, fun j v ws m => nomatch m⟩⟩ (fun i σ G _ h => ?_) ?_ ?_⟩
    · obtain ⟨_, _, _, _, _, _, _, k, _⟩ := h
      exact SqT.of (k p _ nMp hp)
    · rintro i v σ G hx ⟨fs, y2, y3, y4, y5, y6, rfl, kG, hG, S⟩
      obtain ⟨pr, t, ⟨x, ws⟩, rfl, hri, hpr, ht⟩ := ra.at hx
      have mr := List.mem_of_getElem? hri
      have g := pl.ok _ mr
      have mg : x ∈ goneO os.length ks := by
        rw [← pl.hd]
        exact List.mem_map.mpr ⟨_, mr, rfl⟩
      obtain ⟨⟨x0, x1⟩, nx⟩ := mem_gone.mp mg
      obtain ⟨xn, rfl⟩ : ∃ xn : Nat, x = (xn : Int) := ⟨x.toNat, by omega⟩
      obtain ⟨o, ho, _⟩ := in_os x0 x1
      obtain ⟨tp, e1, htp⟩ := A.pa.ix x0 ho
      have ngr : ∀ (j : Int) (us : List Int), (j, us) ∈ rs.take i → j ∉ ks := fun j us m => by
        have z : j ∈ rs.map Prod.fst := List.mem_map.mpr ⟨_, List.mem_of_mem_take m, rfl⟩
        rw [pl.hd] at z
        exact (mem_gone.mp z).2
      have lw : ws.length ≤ os.length := nodup_le (n := os.length) g.nd fun k mk => rk k (g.sub k mk)
      -- where things stand
      have kk : ∀ G2 : Hp, (∀ c o, c ≠ M → H3 c = some o → G2 c = some o) → G2 h = some (.ins T.C_Lightest dx (fldsK (n : Int) O D)) ∧ G2 O = some (.lst ys) ∧ (∀ (c : Addr) (zs : List V), H3 c = some (.tup zs) → G2 c = some (.tup zs)) := fun G2 k => by
        refine ⟨k _ _ (ne_of (s23 _ _ hh) hM3 (by intro z; cases z)) (s23 _ _ hh), k _ _ (ne_of_none A.lo nM) (s23 _ _ A.lo), fun c zs e => k _ _ (ne_of e hM3 (by intro z; cases z)) e⟩
      obtain ⟨hhG, loG, tuG⟩ := kk G kG
      refine ⟨pr, _, rfl, SqT.of (tuG _ _ hpr), rfl, _, _, rfl, _, _, rfl, rfl, ?_⟩
      refine ⟨_, rfl, h, T.C_Lightest, dx, _, _, rfl, hhG, T.cl_Lightest, T.na_Lightest_offers, flds_offers _ _ _, _, rfl, O, _, _, _, rfl, rfl, SqL.of loG, e1, tp, _, _, _, rfl, rfl, SqT.of (tuG _ _ (s23 _ _ htp)), atI_nat (j := 2) rfl, ?_⟩
      rw [← (prO_at ho).2]
      refine ⟨_, rfl, t, rfl, ⟨_, SqT.of (tuG _ _ ht)⟩, for_tup (K := K) (a := t) (xs := ws.map V.int) (fun p σ G2 => ∃ (gs : List V) (y6 : Option V), σ = [some (.ref h), some (.ref M), y2, some (.int (xn : Int)), some (.ref t), some (.int (pcO os (xn : Int))), y6] ∧ (∀ c o, c ≠ M → H3 c = some o → G2 c = some o) ∧ G2 M = some (.lst gs) ∧ SlkP os ks (rs.take i) ws (pcO os (xn : Int)) p gs) ⟨fs, _, rfl, kG, hG, S.len, fun j v mj hv => ?_, S.gone⟩ (fun p σ G2 _ h => ?_) ?_ ?_⟩
      · have z := S.kept j v mj hv
        rw [if_neg (by rw [List.take_zero]; exact List.not_mem_nil), List.append_nil]
        exact z
      · obtain ⟨_, _, _, k, _⟩ := h
        exact SqT.of ((kk G2 k).2.2 _ _ ht)
      · rintro p v σ G2 hx2 ⟨gs, y6, rfl, k2, hG2, S2⟩
        rw [List.getElem?_map] at hx2
        obtain ⟨k, hk, rfl⟩ := Option.map_eq_some_iff.mp hx2
        have mk := g.sub k (List.mem_of_getElem? hk)
        have rgk := rk k mk
        obtain ⟨kn, rfl⟩ : ∃ kn : Nat, k = (kn : Int) := ⟨k.toNat, by omega⟩
        have lk : kn < gs.length := by
          rw [S2.len]
          omega
        have hv : gs[kn]? = some gs[kn] := List.getElem?_eq_getElem lk
        generalize gs[kn] = v0 at hv
        have fin : ∀ u, MinV (paidBy os (rs.take i) (kn : Int) ++ [pcO os (xn : Int)]) u → SlkP os ks (rs.take i) ws (pcO os (xn : Int)) (p + 1) (gs.set kn u) := fun u hu => S2.step hk mk ngr hu
        have k3 : ∀ (u : V) (c : Addr) (o : HO), c ≠ M → H3 c = some o → upd G2 M (.lst (gs.set kn u)) c = some o := fun u c o n e => by
          rw [upd_ne n]
          exact k2 c o n e
        refine ⟨_, rfl, _, rfl, M, _, _, _, rfl, rfl, SqL.of hG2, atI_nat hv, ?_⟩
        rcases (S2.old g.nd hk mk hv).more (p := pcO os (xn : Int)) with ⟨rfl, hu⟩ | ⟨m, rfl, hu⟩
        · refine ⟨rfl, _, rfl, iteT ?_⟩
          exact ⟨_, rfl, _, rfl, _, rfl, M, _, _, kn, rfl, rfl, hG2, ixN_nat lk, _, _, rfl, k3 _, upd_same, fin _ hu⟩
        · refine ⟨rfl, _, rfl, iteF ?_⟩
          exact ⟨_, rfl, _, rfl, M, _, _, _, rfl, rfl, SqL.of hG2, atI_nat hv, _, rfl, _, _, rfl, _, rfl, _, rfl, M, _, _, kn, rfl, rfl, hG2, ixN_nat lk, _, _, rfl, k3 _, upd_same, fin _ hu⟩
      · rintro σ G2 ⟨gs, y6, rfl, k2, hG2, S2⟩
        rw [List.length_map] at S2
        obtain ⟨hh2, lo2, tu2⟩ := kk G2 k2
        have fin : ∀ u, MaxV (ws.map (pcO os)) u → Slk os ks (rs.take (i + 1)) (gs.set xn u) := fun u hu => by
          rw [take_at hri]
          refine S2.end nx (fun us m => ?_) hu
          have g2 := pl.ok _ (List.mem_of_mem_take m)
          exact lead_uniq B rk Y.nr g2.ld g2.nd g2.sub g.ld g.nd g.sub
        refine ⟨_, rfl, t, rfl, ⟨_, SqT.of (tu2 _ _ ht)⟩, fun N nN => ?_⟩
        refine lc_tup (xs := ws.map V.int) (fun j H5 => Same G2 H5 ∧ H5 N = some (.lst (((ws.take j).map (pcO os)).map V.int))) ⟨same_new nN, upd_same⟩ (fun j H5 _ z => SqT.of (z.1 _ _ (tu2 _ _ ht))) ?_ ?_
        · rintro j z H5 hx5 ⟨s5, hN⟩
          rw [List.getElem?_map] at hx5
          obtain ⟨k, hk, rfl⟩ := Option.map_eq_some_iff.mp hx5
          have mk := g.sub k (List.mem_of_getElem? hk)
          obtain ⟨o3, ho3, _⟩ := in_os (rk k mk).1 (rk k mk).2
          obtain ⟨tq, e2, htq⟩ := A.pa.ix (rk k mk).1 ho3
          refine ⟨rfl, yes_ite ?_⟩
          refine ⟨_, rfl, h, T.C_Lightest, dx, _, _, rfl, s5 _ _ hh2, T.cl_Lightest, T.na_Lightest_offers, flds_offers _ _ _, _, rfl, O, _, _, _, rfl, rfl, SqL.of (s5 _ _ lo2), e2, tq, _, _, _, rfl, rfl, SqT.of (s5 _ _ (tu2 _ _ (s23 _ _ htq))), atI_nat (j := 2) rfl, _, hN, ?_, same_put s5 nN, ?_⟩
          · rw [List.length_map, List.length_map, List.length_take]
            exact szl (by omega)
          · rw [upd_same, take_at hk, List.map_append, List.map_append, List.map_singleton, (prO_at ho3).2]
            rfl
        rintro H5 ⟨s5, hN⟩
        rw [List.length_map, List.take_length] at hN
        have hG5 := s5 _ _ hG2
        have lx : xn < gs.length := by
          rw [S2.len]
          omega
        have k5 : ∀ (u : V) (c : Addr) (o : HO), c ≠ M → H3 c = some o → upd H5 M (.lst (gs.set xn u)) c = some o := fun u c o n e => by
          rw [upd_ne n]
          exact s5 _ _ (k2 c o n e)
        refine ⟨N, _, .non, rfl, rfl, SqL.of hN, fun en => ?_, fun m mm ml => ?_⟩
        · exact ⟨_, rfl, _, rfl, M, _, _, xn, rfl, rfl, hG5, ixN_nat lx, _, _, _, _, _, _, rfl, k5 _, upd_same, fin _ (.inl ⟨en, rfl⟩)⟩
        · exact ⟨_, rfl, _, rfl, M, _, _, xn, rfl, rfl, hG5, ixN_nat lx, _, _, _, _, _, _, rfl, k5 _, upd_same, fin _ (.inr ⟨m, rfl, mm, ml⟩)⟩
    · rintro σ G ⟨fs, y2, y3, y4, y5, y6, rfl, kG, hG, S⟩
      rw [ra.length, List.take_length] at S
      refine ⟨_, rfl, M, _, rfl, .inl ⟨SqL.of hG, fun t nt => ?_⟩⟩
      refine q t fs rs _ (fun c o e => ?_) upd_same pl S
      exact same_new nt _ _ (kG _ _ (ne_of_none e nM) (s23 _ _ e))
end

/-! ### the kept ones, told by what was taken -/
inductive Chn (os : O3s) : Nat → List Int → Prop
  | nil : Chn os 0 []
  | step {i : Nat} {ks us : List Int} {v : V} : Chn os i ks → i < os.length → Tak os ks i v us → Chn os (i + 1) us
theorem Chn.kru {os : O3s} {n i : Nat} {ks : List Int} (B : BdO os n) (h : Chn os i ks) : Kru os i ks := by
  induction h with
  | nil => exact kru_nil
  | step _ il tk ih => exact tk.kru B il ih
theorem Chn.det {os : O3s} {n i : Nat} {ks us : List Int} (B : BdO os n) (h1 : Chn os i ks) (h2 : Chn os i us) : ks = us := by
  induction h1 generalizing us with
  | nil =>
    cases h2
    rfl
  | step c il tk ih =>
    cases h2 with
    | step c2 _ tk2 =>
      have e := ih c2
      subst e
      have Y := c.kru B
      exact (tk.det B (fun k mk => by have := Y.rg k mk; omega) Y.nr tk2).2
theorem gone_perm {m : Nat} {ks us : List Int} (p : us.Perm ks) : goneO m us = goneO m ks := by
  unfold goneO
  refine List.filter_congr fun j _ => ?_
  rw [decide_eq_decide.mpr (p.mem_iff (a := j))]
theorem PapL.perm {os : O3s} {ks us : List Int} {rs : List NR} (p : us.Perm ks) (h : PapL os us rs) : PapL os ks rs :=
  ⟨by rw [h.hd, gone_perm p], fun r mr => ⟨(h.ok r mr).nd, fun k mk => p.mem_iff.mp ((h.ok r mr).sub k mk), (h.ok r mr).ld⟩⟩
theorem Slk.perm {os : O3s} {ks us : List Int} {rs : List NR} {fs : List V} (p : us.Perm ks) (h : Slk os us rs fs) : Slk os ks rs fs :=
  ⟨h.len, fun j v mk hv => h.kept j v (p.mem_iff.mpr mk) hv, h.gone⟩
section
variable {P : Program} {w : World} {K : PySem.W.Frag} {mg : Str → Option Value} {base : Heap}
def spLightL (T : Top K mg) : Sp := fun vs H Q _ => ∃ (D : Addr) (n : Nat) (ys : List V) (os : O3s), vs = [.int (n : Int), .ref D] ∧ H D = some (.lst ys) ∧ OAll H ys os ∧ BdO os n ∧ (∀ t ∈ os, 0 ≤ t.2) ∧ n ≤ 40 ∧ os.length ≤ 63 ∧ Tb T.tbs H ∧
  ∀ (x O Y : Addr) (zs : List V) (ks : List Int) (H' : Hp), H O = none → Kp H H' → Tb T.tbs H' → LightAt T.C_Lightest H' x O Y n zs os (dtOf os ks) → Chn os os.length ks → Q (.ref x) H'
theorem ok_lightL (T : Top K mg) (TB : TBs T base) : FnOk P w K mg base CX0 6 T.a_Llight T.d_Llight ["_law_many", "_law_offers_here"] (spLightL T) := by
  have G_Lightestinit : FnOk P w K mg base CX0 1 _ _ _ _ := ok_init T
  have G_Lightestoffer : FnOk P w K mg base CX0 5 _ _ _ _ := ok_offer T TB
  refine T.F_Llight.ok sc_Llight (fun vs H Q E h => ?_) (fun cdv A outer s H vs Q E hr h => ?_)
  · obtain ⟨D, n, ys, os, rfl, _⟩ := h
    rfl
  · obtain ⟨D, n, ys, os, rfl, hD, oa, B, pz, n40, lo, tb, q⟩ := h
    have ly := oa.length
    refine ⟨_, (pss_cons (ps_set (i := 2) sc_Llight.nd rfl (.inl rfl) (pe_make T.mk_Lightest G_Lightestinit (hr.mono (by decide)) (by rfl) T.mg_Lightest T.b_Lightestinit .nil pass0 (pa_cons (pv 0) pa_nil)))
      (pss_cons (ps_for PassesOwn.never rfl (pi_list (pv 1)) (pg_tup rfl (pgs_cons (pg_name (i := 3) sc_Llight.nd rfl (.inl rfl)) (pgs_cons (pg_name (i := 4) sc_Llight.nd rfl (.inl rfl)) (pgs_cons (pg_name (i := 5) sc_Llight.nd rfl (.inl rfl)) pgs_nil)))) (pss_one (ps_expr (pe_meth (pv 2) T.cl_Lightest T.me_Lightestoffer G_Lightestoffer hr T.b_Lightestoffer .nil pass0 (pa_cons (pv 3) (pa_cons (pv 4) (pa_cons (pv 5) pa_nil)))))))
      (pss_one (ps_ret (pv 2))))), ?_⟩
    refine ⟨_, rfl, fun x dx nx ndx ne => ⟨x, dx, n, rfl, upd_same, fun O Y H4 nO nY A kp => ⟨rfl, ?_⟩⟩⟩
    have s0 : Same H (upd (upd H dx (.own x)) x (.ins T.C_Lightest dx [])) := fun b o e => by
      rw [upd_ne (ne_of_none e nx), upd_ne (ne_of_none e ndx)]
      exact e
    have s4 : Same H H4 := fun c o e => kp c o (s0 c o e) (ne_of_none e nx)
    have nO0 : H O = none := Same.free s0 nO
    have nY0 : H Y = none := Same.free s0 nY
    refine ⟨_, rfl, D, rfl, ⟨_, SqL.of (s4 _ _ hD)⟩, for_list (K := K) (a := D) (xs := ys) (fun i σ G => ∃ (zs : List V) (ks : List Int) (y3 y4 y5 : Option V), σ = [some (.int (n : Int)), some (.ref D), some (.ref x), y3, y4, y5] ∧ Kp H G ∧ Tb T.tbs G ∧ LightAt T.C_Lightest G x O Y n zs (os.take i) (dtOf os ks) ∧ Chn os i ks) ⟨[], [], _, _, _, rfl, Kp.of_same s4, tb.same s4, A, .nil⟩ (fun i σ G _ h => ?_) ?_ ?_⟩
    · obtain ⟨_, _, _, _, _, _, k, _⟩ := h
      exact SqL.of (k.lst hD)
    · rintro i v σ G hx ⟨zs, ks, y3, y4, y5, rfl, kG, tG, A2, C2⟩
      obtain ⟨tp, u, rfl, hu, htp⟩ := oa.at hx
      obtain ⟨⟨ua, ub⟩, up⟩ := u
      have pu := pz _ (List.mem_of_getElem? hu)
      have il := (List.getElem?_eq_some_iff.mp hu).1
      obtain ⟨dx3, hx3⟩ := A2.ob
      refine ⟨tp, _, rfl, SqT.of (kG.tup htp), rfl, _, _, rfl, _, _, rfl, _, _, rfl, rfl, ?_⟩
      refine ⟨_, rfl, x, dx3, _, rfl, hx3, flds_no _ _ _ (by decide +kernel) (by decide +kernel) (by decide +kernel), _, rfl, _, rfl, _, rfl, x, O, Y, n, i, ua, ub, up, zs, os, ks, rfl, A2, B, hu, pu, n40, lo, C2.kru B, tG, fun v us zs' G3 kx A3 tk tb3 => ?_⟩
      exact ⟨zs', us, _, _, _, rfl, fun c o e n => kx c o (kG c o e n) n (ne_of_none e nO0) (ne_of_none e nY0), tb3, A3, .step C2 il tk⟩
    · rintro σ G ⟨zs, ks, y3, y4, y5, rfl, kG, tG, A2, C2⟩
      rw [ly, List.take_length] at A2
      rw [ly] at C2
      exact ⟨_, rfl, q x O Y zs ks G nO0 kG tG A2 C2⟩
end

end My
namespace My
open PySem L2
/-! ### _law_shuffled -/
section
variable {P : Program} {w : World} {K : PySem.W.Frag} {mg : Str → Option Value} {base : Heap}
def spShuf : Sp := fun vs H Q _ => ∃ (b L : Addr) (m : Int) (D : Addr) (ys : List V) (S : O3s), vs = [.ref b, .ref D] ∧ PotAt H b L m ∧ m < 2 ^ 40 ∧ H D = some (.lst ys) ∧ OAll H ys S ∧ S.length ≤ 63 ∧ D ≠ b ∧ D ≠ L ∧
  ∀ (E : Addr) (zs : List V) (U : O3s) (H' : Hp), PotAt H' b L (m + 63) → But2 b L H H' → H' E = some (.lst zs) → OAll H' zs U → U.Perm S → Q (.ref E) H'
theorem ok_shuf (T : Top K mg) : FnOk P w K mg base CX0 3 T.a_Lshuffled T.d_Lshuffled ["_law_pot_here", "_law_offers_here"] spShuf := by
  have G_Ltake : FnOk P w K mg base CX0 2 _ _ _ _ := ok_take T
  refine T.F_Lshuffled.ok sc_Lshuffled (fun vs H Q E h => ?_) (fun cdv A outer s H vs Q E hr h => ?_)
  · obtain ⟨b, L, m, D, ys, S, rfl, _⟩ := h
    rfl
  · obtain ⟨b, L, m, D, ys, S, rfl, P1, mm, hD, oa, lo, d1, d2, q⟩ := h
    have ly := oa.length
    refine ⟨_, (pss_cons (ps_set (i := 2) sc_Lshuffled.nd rfl (.inl rfl) (pe_lst pa_nil))
      (pss_cons (ps_for PassesOwn.never rfl (pi_list (pv 1)) (pg_name (i := 3) sc_Lshuffled.nd rfl (.inl rfl)) (pss_one (ps_expr (pe_bm PySem.F.plainAttrs_list PySem.F.slot_list_insert PySem.F.type_list_insert mt_insert (pv 2) (pa_cons (pe_call G_Ltake hr (by rfl) T.g_Ltake T.F_Ltake.kp T.b_Ltake .nil pass0 (pa_cons (pv 0) (pa_cons (pe_op op_add (pe_callB call_len_seq (by rfl) T.m_len PySem.boot_len (pa_cons (pv 2) pa_nil)) pe_int) pa_nil))) (pa_cons (pv 3) pa_nil))))))
      (pss_one (ps_ret (pv 2))))), ?_⟩
    refine ⟨Nat.zero_le _, fun E nE => ?_⟩
    obtain ⟨e1, e2⟩ := P1.ne nE
    have sE := same_new (o := .lst ([] : List V)) nE
    refine ⟨_, rfl, D, rfl, ⟨_, SqL.of (sE _ _ hD)⟩, for_list (K := K) (a := D) (xs := ys) (fun i σ G => ∃ (zs : List V) (U : O3s) (y3 : Option V), σ = [some (.ref b), some (.ref D), some (.ref E), y3] ∧ PotAt G b L (m + (i : Int)) ∧ But2 b L H G ∧ G E = some (.lst zs) ∧ OAll G zs U ∧ U.Perm (S.take i)) ⟨[], [], _, rfl, (P1.same sE).le (by omega), But2.of_same sE, upd_same, .nil, List.Perm.refl _⟩ (fun i σ G _ h => ?_) ?_ ?_⟩
    · obtain ⟨_, _, _, _, _, k, _⟩ := h
      exact SqL.of (k _ _ hD d1 d2)
    · rintro i v σ G hx ⟨zs, U, y3, rfl, Pg, kg, hE, za, pm⟩
      obtain ⟨tp, u, rfl, hu, htp⟩ := oa.at hx
      have li := (List.getElem?_eq_some_iff.mp hx).1
      have lz := za.length
      have lU := pm.length_eq
      rw [List.length_take] at lU
      refine ⟨_, rfl, .inl ⟨rfl, _, SqL.of hE⟩, _, rfl, _, rfl, E, _, rfl, .inl (SqL.of hE), _, _, rfl, rfl, b, L, _, ((zs.length : Int) + 1), rfl, Pg, by omega, by omega, by omega, fun x G2 x0 x1 P2 k2 => ⟨_, rfl, ?_⟩⟩
      have hE2 := k2 _ _ hE e1 e2
      have za2 := za.but2 k2 Pg
      have kg2 := kg.trans k2
      have htp2 := kg2.tup P1 htp
      refine ⟨E, _, x, .ref tp, rfl, rfl, hE2, szl (by omega), x0, by omega, ?_⟩
      refine ⟨_, U.take x.toNat ++ [u] ++ U.drop x.toNat, _, rfl, (P2.put e1 e2).le (by omega), kg2.put nE, upd_same, ?_, ?_⟩
      · have z : OAll G2 (zs.take x.toNat ++ [.ref tp] ++ zs.drop x.toNat) (U.take x.toNat ++ [u] ++ U.drop x.toNat) := ((za2.take _).append (.cons htp2 .nil)).append (za2.drop _)
        exact z.put hE2
      · rw [take_at hu]
        have p1 : (U.take x.toNat ++ [u] ++ U.drop x.toNat).Perm (U ++ [u]) := by
          have p2 : (U.take x.toNat ++ [u] ++ U.drop x.toNat).Perm (U.take x.toNat ++ U.drop x.toNat ++ [u]) := by
            rw [List.append_assoc, List.append_assoc]
            exact List.Perm.append_left _ List.perm_append_comm
          rw [List.take_append_drop] at p2
          exact p2
        exact p1.trans (pm.append_right _)
    · rintro σ G ⟨zs, U, y3, rfl, Pg, kg, hE, za, pm⟩
      rw [ly, List.take_length] at pm
      exact ⟨_, rfl, q E zs U G (Pg.le (by omega)) kg hE za pm⟩
end

end My
namespace My
open PySem L2
/-! ### what is held by all, what is kept first -/
section
variable {F : O3s} {n k : Nat} {ks : List Int} {rs : List NR} {ts : Ties}
/-- the ties of the offers but one -/
def Oth (F : O3s) (k : Nat) (ts : Ties) : Prop := ∀ t, t ∈ ts ↔ ∃ j : Nat, j < F.length ∧ j ≠ k ∧ t = prO F (j : Int)
theorem oth_ks (O : Oth F k ts) (rg : ∀ j ∈ ks, 0 ≤ j ∧ j < (F.length : Int)) (nk : (k : Int) ∉ ks) {a b : Int} (r : Rch (tiesO F ks) a b) : Rch ts a b := r.mono fun t mt => by
  obtain ⟨j, mj, rfl⟩ := List.mem_map.mp mt
  have z := rg j mj
  refine (O _).mpr ⟨j.toNat, by omega, fun e => nk ?_, ?_⟩
  · have ej : j = (k : Int) := by omega
    rw [← ej]
    exact mj
  · have ej : ((j.toNat : Nat) : Int) = j := by omega
    rw [ej]
theorem held_kept (O : Oth F k ts) (Y : Kru F F.length ks) (lk : k < F.length) (h : ¬ Rch ts (prO F (k : Int)).1 (prO F (k : Int)).2) : (k : Int) ∈ ks := by
  by_cases m : (k : Int) ∈ ks
  · exact m
  · exact absurd (oth_ks O Y.rg m (lgt_rch (Y.lt (k : Int) (by omega) (by omega) m))) h
theorem held_free (B : BdO F n) (O : Oth F k ts) (Y : Kru F F.length ks) (pl : PapL F ks rs) (h : ¬ Rch ts (prO F (k : Int)).1 (prO F (k : Int)).2) {r : NR} (mr : r ∈ rs) : (k : Int) ∉ r.2 := fun m => by
  have g := pl.ok r mr
  have mg : r.1 ∈ goneO F.length ks := by
    rw [← pl.hd]
    exact List.mem_map.mpr ⟨r, mr, rfl⟩
  obtain ⟨⟨g0, g1⟩, ng⟩ := mem_gone.mp mg
  have mk := g.sub _ m
  obtain ⟨x, hx, r1, r2⟩ := way_cut (us := ks.erase (k : Int)) g.ld g.nd m fun j mj ne => (List.mem_erase_of_ne ne).mpr (g.sub j mj)
  have rgE : ∀ j ∈ ks.erase (k : Int), 0 ≤ j ∧ j < (F.length : Int) := fun j mj => Y.rg j (List.mem_of_mem_erase mj)
  have nE : (k : Int) ∉ ks.erase (k : Int) := fun z => (List.Nodup.mem_erase_iff (ring_nd Y.nr)).mp z |>.1 rfl
  have ner : r.1.toNat ≠ k := fun e => ng (by
    have e1 : r.1 = (k : Int) := by omega
    rw [e1]
    exact mk)
  have t1 : prO F r.1 ∈ ts := (O _).mpr ⟨r.1.toNat, by omega, ner, by rw [show ((r.1.toNat : Nat) : Int) = r.1 by omega]⟩
  refine h (end_back hx ?_)
  have s1 := oth_ks O rgE nE r1
  have s2 := oth_ks O rgE nE r2
  exact s1.symm.trans ((Rch.one (.inl t1)).trans s2.symm)
theorem free_held (B : BdO F n) (O : Oth F k ts) (Y : Kru F F.length ks) (pl : PapL F ks rs) (mk : (k : Int) ∈ ks) (h : ∀ r ∈ rs, (k : Int) ∉ r.2) : ¬ Rch ts (prO F (k : Int)).1 (prO F (k : Int)).2 := fun r => by
  refine (ring_erase B Y.rg mk Y.nr).2 (rch_bind (fun t mt => ?_) r)
  obtain ⟨j, lj, ne, rfl⟩ := (O t).mp mt
  have nj : (j : Int) ≠ (k : Int) := fun z => ne (by omega)
  by_cases mj : (j : Int) ∈ ks
  · exact .one (.inl (List.mem_map.mpr ⟨(j : Int), (List.mem_erase_of_ne nj).mpr mj, rfl⟩))
  · obtain ⟨ws, mw⟩ := pl.row (j := (j : Int)) (by omega) (by omega) mj
    have g := pl.ok _ mw
    exact leads_rch g.ld fun x mx => (List.mem_erase_of_ne fun e => h _ mw (by rw [← e]; exact mx)).mpr (g.sub x mx)
end
/-- the numbers taken while not yet joined -/
noncomputable def frs (F : O3s) : Nat → List Int
  | 0 => []
  | i + 1 => if dcd (Rch (tiesO F (frs F i)) (prO F (i : Int)).1 (prO F (i : Int)).2) = true then frs F i else frs F i ++ [(i : Int)]
theorem chn_frs {F : O3s} {c : Int} (eq : ∀ o ∈ F, o.2 = c) {i : Nat} {ks : List Int} (h : Chn F i ks) : ks = frs F i ∧ ∀ k ∈ ks, 0 ≤ k ∧ k < (i : Int) := by
  have pc : ∀ k : Int, 0 ≤ k → k < (F.length : Int) → pcO F k = c := fun k k0 k1 => by
    obtain ⟨o, ho, mo⟩ := in_os k0 k1
    rw [(prO_at ho).2]
    exact eq o mo
  induction h with
  | nil => exact ⟨rfl, fun k m => nomatch m⟩
  | @step i ks us v _ il tk ih =>
    obtain ⟨e, rg⟩ := ih
    subst e
    have e2 : frs F (i + 1) = if dcd (Rch (tiesO F (frs F i)) (prO F (i : Int)).1 (prO F (i : Int)).2) = true then frs F i else frs F i ++ [(i : Int)] := rfl
    rcases tk with ⟨no, _, rfl⟩ | ⟨ws, ld, nd, sub, ⟨_, _, rfl⟩ | ⟨e, de, lt, _, _⟩⟩
    · rw [e2, dcd_f no, if_neg (by decide)]
      refine ⟨rfl, fun k mk => ?_⟩
      rcases List.mem_append.mp mk with mk | mk
      · have := rg k mk
        omega
      · rw [List.mem_singleton.mp mk]
        omega
    · rw [e2, dcd_t (leads_rch ld sub), if_pos rfl]
      exact ⟨rfl, fun k mk => by have := rg k mk; omega⟩
    · have z := rg e (sub e de.mem.1)
      rw [pc _ (by omega) (by omega), pc e z.1 (by omega)] at lt
      omega
theorem frs_up (F : O3s) : ∀ i : Nat, (frs F i).Pairwise (· < ·) ∧ ∀ k ∈ frs F i, 0 ≤ k ∧ k < (i : Int)
  | 0 => ⟨List.Pairwise.nil, fun k m => nomatch m⟩
  | i + 1 => by
    obtain ⟨h1, h2⟩ := frs_up F i
    have e2 : frs F (i + 1) = if dcd (Rch (tiesO F (frs F i)) (prO F (i : Int)).1 (prO F (i : Int)).2) = true then frs F i else frs F i ++ [(i : Int)] := rfl
    rw [e2]
    split
    · exact ⟨h1, fun k mk => by have := h2 k mk; omega⟩
    · refine ⟨List.pairwise_append.mpr ⟨h1, List.pairwise_singleton _ _, fun x mx y my => ?_⟩, fun k mk => ?_⟩
      · rw [List.mem_singleton.mp my]
        exact (h2 x mx).2
      · rcases List.mem_append.mp mk with mk | mk
        · have := h2 k mk
          omega
        · rw [List.mem_singleton.mp mk]
          omega

end My
namespace My
open PySem L2
/-! ### _law_held, _law_firsts -/
structure Lab (ts : Ties) (n : Nat) (ls : List Int) : Prop where
  len : ls.length = n
  eq : ∀ a b : Nat, a < n → b < n → (ls[a]? = ls[b]? ↔ Rch ts (a : Int) (b : Int))
theorem lab0 (n : Nat) : Lab [] n ((List.range n).map fun i : Nat => (i : Int)) := by
  refine ⟨by rw [List.length_map, List.length_range], fun a b ha hb => ?_⟩
  rw [List.getElem?_map, List.getElem?_map, List.getElem?_range ha, List.getElem?_range hb]
  constructor
  · intro e
    have e : (a : Int) = (b : Int) := Option.some.inj e
    rw [e]
    exact .refl
  · intro r
    have key : ∀ {x y : Int}, Rch [] x y → x = y := fun {x y} h => by
      induction h with
      | refl => rfl
      | step _ e _ => rcases e with e | e <;> cases e
    have := key r
    show some (a : Int) = some (b : Int)
    rw [this]
theorem lab_snoc {ts : Ties} {n : Nat} {ls : List Int} (L : Lab ts n ls) {a b : Nat} (ha : a < n) (hb : b < n) {la lb : Int} (ea : ls[a]? = some la) (eb : ls[b]? = some lb) (ne : la ≠ lb) : Lab (ts ++ [((a : Int), (b : Int))]) n (ls.map fun x => if x = lb then la else x) := by
  refine ⟨by rw [List.length_map]; exact L.len, fun x y hx hy => ?_⟩
  have lx : ∃ u, ls[x]? = some u := ⟨ls[x]'(by rw [L.len]; exact hx), List.getElem?_eq_getElem _⟩
  have ly : ∃ u, ls[y]? = some u := ⟨ls[y]'(by rw [L.len]; exact hy), List.getElem?_eq_getElem _⟩
  obtain ⟨u, eu⟩ := lx
  obtain ⟨v, ev⟩ := ly
  have k : ∀ {p q : Nat} {s t : Int}, p < n → q < n → ls[p]? = some s → ls[q]? = some t → (s = t ↔ Rch ts (p : Int) (q : Int)) := fun {p q s t} hp hq ep eq => by
    rw [← L.eq p q hp hq, ep, eq]
    exact ⟨congrArg some, Option.some.inj⟩
  rw [List.getElem?_map, List.getElem?_map, eu, ev, rch_snoc, ← k hx hy eu ev, ← k hx ha eu ea, ← k hb hy eb ev, ← k hx hb eu eb, ← k ha hy ea ev]
  show some (if u = lb then la else u) = some (if v = lb then la else v) ↔ _
  rw [Option.some_inj]
  by_cases c1 : u = lb
  · by_cases c2 : v = lb
    · rw [if_pos c1, if_pos c2]
      exact ⟨fun _ => .inl (c1.trans c2.symm), fun _ => rfl⟩
    · rw [if_pos c1, if_neg c2]
      exact ⟨fun z => .inr (.inr ⟨c1, z⟩), fun z => by
        rcases z with z | ⟨z, z2⟩ | ⟨z, z2⟩
        · exact absurd (z.symm.trans c1) c2
        · exact absurd (z.symm.trans c1) ne
        · exact z2⟩
  · by_cases c2 : v = lb
    · rw [if_neg c1, if_pos c2]
      exact ⟨fun z => .inr (.inl ⟨z, c2.symm⟩), fun z => by
        rcases z with z | ⟨z, z2⟩ | ⟨z, z2⟩
        · exact absurd (z.trans c2) c1
        · exact z
        · exact absurd z c1⟩
    · rw [if_neg c1, if_neg c2]
      exact ⟨.inl, fun z => by
        rcases z with z | ⟨z, z2⟩ | ⟨z, z2⟩
        · exact z
        · exact absurd z2.symm c2
        · exact absurd z c1⟩

theorem prs_snoc {F : O3s} {i : Nat} {u : O3} (h : F[i]? = some u) : prs (F.take (i + 1)) = prs (F.take i) ++ [u.1] := by
  unfold prs
  rw [take_at h, List.map_append]
  rfl
section
variable {P : Program} {w : World} {K : PySem.W.Frag} {mg : Str → Option Value} {base : Heap}
def spHeld (T : Top K mg) : Sp := fun vs H Q _ => ∃ (D : Addr) (n : Nat) (ys : List V) (F : O3s), vs = [.int (n : Int), .ref D] ∧ H D = some (.lst ys) ∧ OAll H ys F ∧ BdO F n ∧ n ≤ 40 ∧ F.length ≤ 63 ∧ Tb T.tbs H ∧
  ∀ (x O : Addr) (zs : List V) (H' : Hp), H O = none → Kp H H' → Tb T.tbs H' → HoldAt T.C_Holding H' x O n zs (prs F) → Q (.ref x) H'
theorem ok_held (T : Top K mg) (TB : GxR.TabB base mg T.cM T.PM) : FnOk P w K mg base CX0 5 T.a_Lheld T.d_Lheld ["_law_many", "_law_offers_here"] (spHeld T) := by
  have G_Holdinginit : FnOk P w K mg base CX0 1 _ _ _ _ := okh_init T
  have G_Holdingoffer : FnOk P w K mg base CX0 4 _ _ _ _ := okh_offer T TB
  refine T.F_Lheld.ok sc_Lheld (fun vs H Q E h => ?_) (fun cdv A outer s H vs Q E hr h => ?_)
  · obtain ⟨D, n, ys, F, rfl, _⟩ := h
    rfl
  · obtain ⟨D, n, ys, F, rfl, hD, oa, B, n40, lo, tb, q⟩ := h
    have ly := oa.length
    refine ⟨_, (pss_cons (ps_set (i := 2) sc_Lheld.nd rfl (.inl rfl) (pe_make T.mk_Holding G_Holdinginit (hr.mono (by decide)) (by rfl) T.mg_Holding T.b_Holdinginit .nil pass0 (pa_cons (pv 0) pa_nil)))
      (pss_cons (ps_for PassesOwn.never rfl (pi_list (pv 1)) (pg_tup rfl (pgs_cons (pg_name (i := 3) sc_Lheld.nd rfl (.inl rfl)) (pgs_cons (pg_name (i := 4) sc_Lheld.nd rfl (.inl rfl)) (pgs_cons (pg_name (i := 5) sc_Lheld.nd rfl (.inl rfl)) pgs_nil)))) (pss_one (ps_expr (pe_meth (pv 2) T.cl_Holding T.me_Holdingoffer G_Holdingoffer hr T.b_Holdingoffer .nil pass0 (pa_cons (pv 3) (pa_cons (pv 4) pa_nil))))))
      (pss_one (ps_ret (pv 2))))), ?_⟩
    refine ⟨_, rfl, fun x dx nx ndx ne => ⟨x, dx, n, rfl, upd_same, fun O H4 nO A kp => ⟨rfl, ?_⟩⟩⟩
    have s0 : Same H (upd (upd H dx (.own x)) x (.ins T.C_Holding dx [])) := fun b o e => by
      rw [upd_ne (ne_of_none e nx), upd_ne (ne_of_none e ndx)]
      exact e
    have s4 : Same H H4 := fun c o e => kp c o (s0 c o e) (ne_of_none e nx)
    have nO0 : H O = none := Same.free s0 nO
    refine ⟨_, rfl, D, rfl, ⟨_, SqL.of (s4 _ _ hD)⟩, for_list (K := K) (a := D) (xs := ys) (fun i σ G => ∃ (zs : List V) (y3 y4 y5 : Option V), σ = [some (.int (n : Int)), some (.ref D), some (.ref x), y3, y4, y5] ∧ Kp H G ∧ Tb T.tbs G ∧ HoldAt T.C_Holding G x O n zs (prs (F.take i))) ⟨[], _, _, _, rfl, Kp.of_same s4, tb.same s4, A⟩ (fun i σ G _ h => ?_) ?_ ?_⟩
    · obtain ⟨_, _, _, _, _, k, _⟩ := h
      exact SqL.of (k.lst hD)
    · rintro i v σ G hx ⟨zs, y3, y4, y5, rfl, kG, tG, A2⟩
      obtain ⟨tp, u, rfl, hu, htp⟩ := oa.at hx
      have bu := B u (List.mem_of_getElem? hu)
      have il := (List.getElem?_eq_some_iff.mp hu).1
      obtain ⟨dx3, hx3⟩ := A2.ob
      refine ⟨tp, _, rfl, SqT.of (kG.tup htp), rfl, _, _, rfl, _, _, rfl, _, _, rfl, rfl, ?_⟩
      refine ⟨_, rfl, x, dx3, _, rfl, hx3, fldh_no _ _ (by decide +kernel) (by decide +kernel), _, rfl, _, rfl, x, O, n, u.1.1, u.1.2, zs, prs (F.take i), rfl, A2, bu.1, bu.2.2.1, bu.2.1, bu.2.2.2, by rw [prs_len, List.length_take]; omega, tG, fun t G3 k3 lo3 tb3 A3 => ?_⟩
      have ep := prs_snoc hu
      rw [show [((u.1.1 : Int), (u.1.2 : Int))] = [u.1] from rfl, ← ep] at A3
      refine ⟨_, _, _, _, rfl, fun c o e nt => ?_, tbs_put tb3 lo3, A3⟩
      rw [upd_ne (ne_of_none e nO0)]
      exact k3 _ _ (kG c o e nt) nt
    · rintro σ G ⟨zs, y3, y4, y5, rfl, kG, tG, A2⟩
      rw [ly, List.take_length] at A2
      exact ⟨_, rfl, q x O zs G nO0 kG tG A2⟩
def spFirsts : Sp := fun vs H Q _ => ∃ (n : Nat) (D : Addr) (ys : List V) (F : O3s), vs = [.int (n : Int), .ref D] ∧ H D = some (.lst ys) ∧ OAll H ys F ∧ BdO F n ∧ n ≤ 40 ∧ F.length ≤ 63 ∧
  ∀ (t : Addr) (H' : Hp), Same H H' → H' t = some (.tup ((frs F F.length).map V.int)) → Q (.ref t) H'
theorem ok_firsts (T : Top K mg) : FnOk P w K mg base CX0 1 T.a_Lfirsts T.d_Lfirsts ["_law_many", "_law_offers_here"] spFirsts := by
  refine T.F_Lfirsts.ok sc_Lfirsts (fun vs H Q E h => ?_) (fun cdv A outer s H vs Q E hr h => ?_)
  · obtain ⟨n, D, ys, F, rfl, _⟩ := h
    rfl
  · obtain ⟨n, D, ys, F, rfl, hD, oa, B, n40, lo, q⟩ := h
    have ly := oa.length
    refine ⟨_, (pss_cons (ps_set (i := 2) sc_Lfirsts.nd rfl (.inl rfl) (pe_listRg rfl (by rfl) T.m_list (prg_1 (by rfl) T.m_range (pv 0))))
      (pss_cons (ps_set (i := 3) sc_Lfirsts.nd rfl (.inl rfl) (pe_lst pa_nil))
      (pss_cons (ps_for PassesOwn.never rfl (pi_enum (by rfl) T.m_enumerate (pa_cons (pv 1) pa_nil)) (pg_tup rfl (pgs_cons (pg_name (i := 4) sc_Lfirsts.nd rfl (.inl rfl)) (pgs_cons (pg_tup rfl (pgs_cons (pg_name (i := 5) sc_Lfirsts.nd rfl (.inl rfl)) (pgs_cons (pg_name (i := 6) sc_Lfirsts.nd rfl (.inl rfl)) (pgs_cons (pg_name (i := 7) sc_Lfirsts.nd rfl (.inl rfl)) pgs_nil)))) pgs_nil))) (pss_cons (ps_asg (pe_tup (pa_cons (pe_ix ix_list (pv 2) (pv 5) (fun _ _ => rfl)) (pa_cons (pe_ix ix_list (pv 2) (pv 6) (fun _ _ => rfl)) pa_nil))) (pg_tup rfl (pgs_cons (pg_name (i := 8) sc_Lfirsts.nd rfl (.inr rfl)) (pgs_cons (pg_name (i := 9) sc_Lfirsts.nd rfl (.inr rfl)) pgs_nil))))
      (pss_one (ps_if (pt_cmpR op_ne (pv 8) (pv 9) (nomark _)) (pss_cons (ps_expr (pe_bm PySem.F.plainAttrs_list PySem.F.slot_list_append PySem.F.type_list_append mt_append (pv 3) (pa_cons (pv 4) pa_nil)))
      (pss_one (ps_setLc (i := 2) (own := [("_law_part", 10)]) (g := gName 10) (tt := tYes) (by rfl) sc_Lfirsts.nd rfl rfl (sw_true rfl rfl rfl (by decide +kernel)) (pi_list (pv 2)) (blkOk_by (own := [("_law_part", 10)]) (N := ["_law_many", "_law_offers_here", "_law_parts", "_law_found", "_law_number", "_law_a", "_law_b", "_law_price", "_law_one", "_law_other", "_law_part"]) (sc := defScope s_Lfirsts) (by decide +kernel)) (fun _ _ _ _ _ => (pg_name (i := 10) sc_Lfirsts.nd rfl (.inl rfl))) (fun _ _ _ _ _ => pts_nil) (fun _ _ _ _ _ => (pe_ifExp (pt_cmpR op_eq (pv 10) (pv 9) (nomark _)) (pv 8) (pv 10)))))) pss_nil))))
      (pss_one (ps_ret (pe_callTy call_tuple_of (by rfl) T.m_tuple (by decide +kernel) (pa_cons (pv 3) pa_nil))))))), ?_⟩
    refine ⟨_, rfl, _, rfl, RgOk.of_le (by omega) (by omega) (by omega) (by omega), fun P0 nP0 => ?_⟩
    have e0 : rgV 0 (n : Int) = ((List.range n).map fun (i : Nat) => (i : Int)).map V.int := by
      unfold rgV
      rw [List.map_map, show ((n : Int) - 0).toNat = n by omega]
      refine List.map_congr_left fun i _ => ?_
      show V.int (0 + (i : Int)) = V.int (i : Int)
      rw [Int.zero_add]
    rw [e0]
    have s0 := same_new (o := .lst (((List.range n).map fun (i : Nat) => (i : Int)).map V.int)) nP0
    have hP0 : upd H P0 (.lst (((List.range n).map fun (i : Nat) => (i : Int)).map V.int)) P0 = some (.lst (((List.range n).map fun (i : Nat) => (i : Int)).map V.int)) := upd_same
    generalize upd H P0 (.lst (((List.range n).map fun (i : Nat) => (i : Int)).map V.int)) = H1 at s0 hP0 ⊢
    refine ⟨Nat.zero_le _, fun FD nF => ?_⟩
    have sF := same_new (o := .lst ([] : List V)) nF
    have nFH : H FD = none := s0.free nF
    have s1F := s0.trans sF
    refine ⟨_, rfl, D, _, rfl, SqL.of (s1F _ _ hD), for_it (walk_enum (xs := ys)) (fun i σ G => ∃ (P1 : Addr) (ls : List Int) (y4 y5 y6 y7 y8 y9 y10 : Option V), σ = [some (.int (n : Int)), some (.ref D), some (.ref P1), some (.ref FD), y4, y5, y6, y7, y8, y9, y10] ∧ Same H G ∧ P1 ≠ FD ∧ G P1 = some (.lst (ls.map V.int)) ∧ G FD = some (.lst ((frs F i).map V.int)) ∧ Lab (tiesO F (frs F i)) n ls) ⟨P0, _, _, _, _, _, _, _, _, rfl, s1F, ne_of_none hP0 nF, sF _ _ hP0, upd_same, lab0 n⟩ (fun i σ G _ h => ?_) ?_ ?_⟩
    · obtain ⟨_, _, _, _, _, _, _, _, _, _, k, _⟩ := h
      exact SqL.of (k _ _ hD)
    · rintro i v σ G G' hi ⟨P1, ls, y4, y5, y6, y7, y8, y9, y10, rfl, sG, PF, hP, hF, L⟩ ⟨T0, z1, z2, rfl, nT, rfl, hz1, hz2⟩
      dsimp only at hz1 hz2
      obtain rfl : V.int (i : Int) = z1 := Option.some.inj hz1
      obtain ⟨tp, u, rfl, hu, htp⟩ := (oa.same sG).at hz2
      have bu := B u (List.mem_of_getElem? hu)
      have epr := (prO_at (os := F) (k := (i : Int)) (o := u) (by rw [Int.toNat_natCast]; exact hu)).1
      obtain ⟨⟨a, b⟩, pc⟩ := u
      dsimp only at bu htp epr
      obtain ⟨a, rfl⟩ : ∃ z : Nat, a = (z : Int) := ⟨a.toNat, by omega⟩
      obtain ⟨b, rfl⟩ : ∃ z : Nat, b = (z : Int) := ⟨b.toNat, by omega⟩
      have ha : a < n := by omega
      have hb : b < n := by omega
      obtain ⟨la, ela⟩ : ∃ u, ls[a]? = some u := ⟨ls[a]'(by rw [L.len]; exact ha), List.getElem?_eq_getElem _⟩
      obtain ⟨lb, elb⟩ : ∃ u, ls[b]? = some u := ⟨ls[b]'(by rw [L.len]; exact hb), List.getElem?_eq_getElem _⟩
      have ata : atI (ls.map V.int) (a : Int) = some (.int la) := atI_nat (by rw [List.getElem?_map, ela]; rfl)
      have atb : atI (ls.map V.int) (b : Int) = some (.int lb) := atI_nat (by rw [List.getElem?_map, elb]; rfl)
      have sT := same_new (o := .tup [V.int (i : Int), V.ref tp]) nT
      refine ⟨T0, _, rfl, SqT.of upd_same, rfl, _, _, rfl, _, _, rfl, ⟨tp, _, rfl, SqT.of (sT _ _ htp), rfl, _, _, rfl, _, _, rfl, _, _, rfl, rfl, rfl, ?_⟩⟩
      have sG1 := sG.trans sT
      have hP1 := sT _ _ hP
      have hF1 := sT _ _ hF
      generalize upd G T0 (.tup [V.int (i : Int), V.ref tp]) = G1 at sG1 hP1 hF1 ⊢
      refine ⟨_, rfl, _, rfl, P1, _, _, _, rfl, rfl, SqL.of hP1, ata, _, rfl, _, rfl, P1, _, _, _, rfl, rfl, SqL.of hP1, atb, (by show 2 ≤ sizeLine; decide), fun T1 nT1 => ?_⟩
      have sT1 := same_new (o := .tup [V.int la, V.int lb]) nT1
      refine ⟨T1, _, rfl, SqT.of upd_same, rfl, _, _, rfl, _, _, rfl, rfl, ?_⟩
      have sG2 := sG1.trans sT1
      have hP2 := sT1 _ _ hP1
      have hF2 := sT1 _ _ hF1
      generalize upd G1 T1 (.tup [V.int la, V.int lb]) = G2 at sG2 hP2 hF2 ⊢
      clear sT sT1 nT nT1 hP hF hP1 hF1 sG sG1 ata atb htp
      have rab : la = lb ↔ Rch (tiesO F (frs F i)) (a : Int) (b : Int) := by
        rw [← L.eq a b ha hb, ela, elb]
        exact ⟨congrArg some, Option.some.inj⟩
      have ef : frs F (i + 1) = if dcd (Rch (tiesO F (frs F i)) (prO F (i : Int)).1 (prO F (i : Int)).2) = true then frs F i else frs F i ++ [(i : Int)] := rfl
      rw [epr] at ef
      have lfr := nodup_le (n := i) ((frs_up F i).1.imp fun h => by omega) (frs_up F i).2
      refine ⟨_, rfl, _, rfl, rfl, _, rfl, ite2 (fun z => ?_) (fun z => ?_)⟩
      case refine_2 =>
        have e : la = lb := by
          by_cases c : la = lb
          · exact c
          · exact absurd (by simp [c]) z
        rw [dcd_t (rab.mp e), if_pos rfl] at ef
        rw [ef]
        exact ⟨P1, ls, _, _, _, _, _, _, _, rfl, sG2, PF, hP2, hF2, L⟩
      have ne : la ≠ lb := fun e => by simp [e] at z
      rw [dcd_f fun r => ne (rab.mpr r), if_neg (by decide)] at ef
      have li : i < F.length := by omega
      refine ⟨_, rfl, .inl ⟨rfl, _, SqL.of hF2⟩, _, rfl, FD, _, _, rfl, rfl, hF2, szl (by rw [List.length_map]; omega), ?_⟩
      have hP3 : upd G2 FD (.lst ((frs F i).map V.int ++ [V.int (i : Int)])) P1 = some (.lst (ls.map V.int)) := by
        rw [upd_ne PF]
        exact hP2
      have hF3 : upd G2 FD (.lst ((frs F i).map V.int ++ [V.int (i : Int)])) FD = some (.lst ((frs F (i + 1)).map V.int)) := by
        rw [upd_same, ef, List.map_append]
        rfl
      have sG3 : Same H (upd G2 FD (.lst ((frs F i).map V.int ++ [V.int (i : Int)]))) := same_put sG2 nFH
      generalize upd G2 FD (.lst ((frs F i).map V.int ++ [V.int (i : Int)])) = G3 at hP3 hF3 sG3 ⊢
      refine ⟨_, rfl, P1, rfl, ⟨_, SqL.of hP3⟩, fun M nM => ?_⟩
      refine lc_list (xs := ls.map V.int) (fun j G4 => Same G3 G4 ∧ G4 M = some (.lst (((ls.take j).map fun x => if x = lb then la else x).map V.int))) ⟨same_new nM, upd_same⟩ (fun j G4 _ z => SqL.of (z.1 _ _ hP3)) ?_ ?_
      · rintro j x G4 hx2 ⟨s2, hM⟩
        rw [List.getElem?_map] at hx2
        obtain ⟨u, hu2, rfl⟩ := Option.map_eq_some_iff.mp hx2
        have fin : ∀ v : Int, v = (if u = lb then la else u) → ∃ acc, G4 M = some (.lst acc) ∧ acc.length < sizeLine ∧ (Same G3 (upd G4 M (.lst (acc ++ [V.int v]))) ∧ upd G4 M (.lst (acc ++ [V.int v])) M = some (.lst (((ls.take (j + 1)).map fun x => if x = lb then la else x).map V.int))) := fun v ev => by
          refine ⟨_, hM, ?_, same_put s2 nM, ?_⟩
          · rw [List.length_map, List.length_map, List.length_take]
            have := L.len
            exact szl (by omega)
          · rw [upd_same, take_at hu2, List.map_append, List.map_append, ev]
            rfl
        refine ⟨rfl, yes_ite ?_⟩
        refine ⟨_, rfl, _, rfl, rfl, _, rfl, ite2 (fun z => ?_) (fun z => ?_)⟩
        · have z : u = lb := V.int.inj (of_decide_eq_true z)
          exact ⟨_, rfl, fin la (by rw [if_pos z])⟩
        · have z : u ≠ lb := fun e => z (decide_eq_true (congrArg V.int e))
          exact ⟨_, rfl, fin u (by rw [if_neg z])⟩
      rintro G4 ⟨s2, hM⟩
      rw [List.length_map, List.take_length] at hM
      refine ⟨M, _, _, _, _, _, _, _, _, rfl, sG3.trans s2, (ne_of_none hF3 nM).symm, hM, s2 _ _ hF3, ?_⟩
      rw [ef, ties_app]
      have e1 : tiesO F [(i : Int)] = [((a : Int), (b : Int))] := by
        show [prO F (i : Int)] = _
        rw [epr]
      rw [e1]
      exact lab_snoc L ha hb ela elb ne
    · rintro σ G ⟨P1, ls, y4, y5, y6, y7, y8, y9, y10, rfl, sG, PF, hP, hF, L⟩
      refine ⟨_, rfl, FD, _, rfl, .inl ⟨SqL.of hF, fun t nt => ?_⟩⟩
      exact q t _ (sG.trans (same_new nt)) (by rw [upd_same, ly])
end

end My
namespace My
open PySem L2
/-! ### the law -/
theorem shp_refl {d : PyData} (h : SeqAt.shaped d = true) : (!PyData.eqv d d) = false := by
  have h : (PyData.canLay0 d && decide (PyData.depth d ≤ 64)) = true := h
  rw [Bool.and_eq_true] at h
  rw [SeqAt.eqv_refl d h.1]
  rfl
section
variable {H H' : Hp}
theorem tbs_but2 {ts : List (Addr × Option Str)} {b L : Addr} {m : Int} (h : Tb ts H) (p : PotAt H b L m) (k : But2 b L H H') : Tb ts H' := by
  obtain ⟨ns, tot, n, p, _⟩ := p
  refine .mk (fun P mP => ?_) (fun P q mP => ?_)
  · obtain ⟨ps, e, t⟩ := h.g mP
    exact ⟨ps, k _ _ e (ne_of e p.hb (by intro z; cases z)) (ne_of e p.hL (by intro z; cases z)), t⟩
  · obtain ⟨ps, e, t, c⟩ := h.s mP
    refine ⟨ps, k _ _ e (ne_of e p.hb (by intro z; cases z)) (ne_of e p.hL (by intro z; cases z)), t, fun pos cv hc => ?_⟩
    obtain ⟨c0, e2, e3⟩ := c pos cv hc
    exact ⟨c0, e2, k _ _ e3 (ne_of e3 p.hb (by intro z; cases z)) (ne_of e3 p.hL (by intro z; cases z))⟩
end
theorem LightAt.but2 {C : Addr} {H H' : Hp} {b L : Addr} {m : Int} {h O D : Addr} {n : Nat} {ys : List V} {os : O3s} {l : Dt} (A : LightAt C H h O D n ys os l) (k : But2 b L H H') (P : PotAt H b L m) (o1 : O ≠ b) (o2 : O ≠ L) : LightAt C H' h O D n ys os l := by
  obtain ⟨dx, e⟩ := A.ob
  have oa := A.pa.but2 k P
  obtain ⟨ns, tot, nn, q, _⟩ := P
  exact ⟨⟨dx, k _ _ e (ne_of e q.hb (by intro z; cases z)) (ne_of e q.hL (by intro z; cases z))⟩, k _ _ A.lo o1 o2, oa, k _ _ A.ld (ne_of A.ld q.hb (by intro z; cases z)) (ne_of A.ld q.hL (by intro z; cases z))⟩
theorem shw_own {os : O3s} {n : Nat} {ks : List Int} {rs : List NR} (B : BdO os n) (Y : Kru os os.length ks) (up : ks.Pairwise (· < ·)) (hd : rs.map Prod.fst = goneO os.length ks) (ok : ∀ r ∈ rs, GoodL os ks r) : Shw os ks rs := by
  refine ⟨up, Y.nr, hd, fun r mr => ?_⟩
  have g := ok r mr
  have mg : r.1 ∈ goneO os.length ks := by
    rw [← hd]
    exact List.mem_map.mpr ⟨r, mr, rfl⟩
  obtain ⟨⟨g0, g1⟩, nk⟩ := mem_gone.mp mg
  exact ⟨g.nd, fun k mk => ⟨g.sub k mk, kru_pay B Y g0 g1 nk g.ld g.nd g.sub k mk⟩, g.ld⟩
/-! ### rows of a holding -/
/-! ### what a paper tells is right -/
theorem mm_two78 {a b c d : Int} (h : mm (a, b) = mm (c, d)) : a = c ∧ b = d ∨ a = d ∧ b = c := by
  rcases mm_or (a, b) with z | z <;> rcases mm_or (c, d) with y | y <;> rw [z, y] at h
  · have e1 := congrArg Prod.fst h
    have e2 := congrArg Prod.snd h
    exact .inl ⟨e1, e2⟩
  · have e1 := congrArg Prod.fst h
    have e2 := congrArg Prod.snd h
    exact .inr ⟨e1, e2⟩
  · have e1 := congrArg Prod.fst h
    have e2 := congrArg Prod.snd h
    exact .inr ⟨e2, e1⟩
  · have e1 := congrArg Prod.fst h
    have e2 := congrArg Prod.snd h
    exact .inl ⟨e2, e1⟩
section
variable {n : Nat} {os : Ofs} {k : Nat} {ab : Int × Int} {ws : List Int}
/-- a number along the way -/
theorem num_of {wy : List Int} (N : NumsOf (othF os k os.length) wy ws) {i : Nat} {u v : Int} (hu : wy[i]? = some u) (hv : wy[i + 1]? = some v) : ∃ (j : Nat) (t : Int × Int), ws[i]? = some (j : Int) ∧ j ≠ k ∧ os[j]? = some t ∧ mm t = mm (u, v) := by
  obtain ⟨x, hx, vx⟩ := N.num i u v hu hv
  obtain ⟨j, t, e, jk, ht, et⟩ := othF_at (Nat.le_refl _) (kvD_mem vx)
  exact ⟨j, t, by rw [hx, e], jk, ht, et⟩
theorem NumsOf.rest78 {l : Dt} {u v : Int} {r : List Int} {x : Int} (N : NumsOf l (u :: v :: r) (x :: ws)) : NumsOf l (v :: r) ws := by
  refine ⟨?_, fun i a b ha hb => ?_⟩
  · have := N.len
    rw [List.length_cons, List.length_cons] at this
    omega
  · obtain ⟨y, hy, vy⟩ := N.num (i + 1) a b ha hb
    exact ⟨y, hy, vy⟩
theorem endO_two78 {t : Int × Int} {u v : Int} (h : mm t = mm (u, v)) : (u = t.1 ∨ u = t.2) ∧ endO t u = v := by
  obtain ⟨p, q⟩ := t
  unfold endO
  dsimp only
  rcases mm_two h with ⟨e1, e2⟩ | ⟨e1, e2⟩
  · rw [if_pos e1.symm]
    exact ⟨.inl e1.symm, e2⟩
  · by_cases e : u = p
    · rw [if_pos e]
      exact ⟨.inl e, by omega⟩
    · rw [if_neg e]
      exact ⟨.inr e2.symm, e1⟩
theorem leads_of {ts : Ties} : ∀ {wy ws : List Int} {a b : Int}, Wlk ts a b wy → NumsOf (othF os k os.length) wy ws → Leads os b a ws
  | _, ws, _, _, .one a, N => by
    have := N.len
    rw [List.length_singleton] at this
    cases ws with
    | nil => exact .nil
    | cons _ _ => rw [List.length_cons] at this; omega
  | _, ws, _, _, .cons (a := a) (b := c) (c := b) (l := l) e w, N => by
    cases l with
    | nil => exact absurd rfl w.ne_nil
    | cons c' r =>
      obtain rfl : c' = c := Option.some.inj w.head
      have ln := N.len
      cases ws with
      | nil => rw [List.length_cons, List.length_cons, List.length_nil] at ln; omega
      | cons x ws =>
        obtain ⟨j, t, hx, jk, ht, et⟩ := num_of N (i := 0) rfl rfl
        obtain rfl : x = (j : Int) := Option.some.inj hx
        obtain ⟨m, en⟩ := endO_two et
        refine .cons (t := t) (by omega) (by rw [Int.toNat_natCast]; exact ht) m ?_
        rw [en]
        exact leads_of w N.rest
theorem rnd_good (h : RndX n os k ab ws) : GoodR os (k : Int) ab.1 ab.2 ws ∧ (ab.1 = ab.2 → ws = []) := by
  obtain ⟨wy, wa, _, N⟩ := h.ex
  have ln := N.len
  have at_ : ∀ {i : Nat} {x : Int}, ws[i]? = some x → ∃ (u v : Int) (j : Nat) (t : Int × Int), wy[i]? = some u ∧ wy[i + 1]? = some v ∧ x = (j : Int) ∧ j ≠ k ∧ os[j]? = some t ∧ mm t = mm (u, v) := fun {i x} hx => by
    have li := (List.getElem?_eq_some_iff.mp hx).1
    have hu : wy[i]? = some wy[i] := List.getElem?_eq_getElem (by omega)
    have hv : wy[i + 1]? = some wy[i + 1] := List.getElem?_eq_getElem (by omega)
    obtain ⟨j, t, hj, jk, ht, et⟩ := num_of N hu hv
    rw [hx] at hj
    exact ⟨_, _, j, t, hu, hv, Option.some.inj hj, jk, ht, et⟩
  refine ⟨⟨?_, fun x mx => ?_, fun m => ?_, leads_of wa.wk N⟩, fun e => ?_⟩
  · rw [List.nodup_iff_pairwise_ne, List.pairwise_iff_getElem]
    intro i i' li li' lt e
    obtain ⟨u, v, j, t, hu, hv, ej, _, ht, et⟩ := at_ (List.getElem?_eq_getElem li)
    obtain ⟨u', v', j', t', hu', hv', ej', _, ht', et'⟩ := at_ (List.getElem?_eq_getElem li')
    have ejj : j = j' := by omega
    subst ejj
    rw [ht] at ht'
    cases Option.some.inj ht'
    rcases mm_two (et.symm.trans et') with ⟨e1, _⟩ | ⟨e1, e2⟩
    · subst e1
      have := nd_inj wa.nd hu hu'
      omega
    · subst e1 e2
      have z1 := nd_inj wa.nd hu hv'
      omega
  · obtain ⟨i, hi⟩ := List.mem_iff_getElem?.mp mx
    obtain ⟨_, _, j, t, _, _, ej, _, ht, _⟩ := at_ hi
    have := (List.getElem?_eq_some_iff.mp ht).1
    omega
  · obtain ⟨i, hi⟩ := List.mem_iff_getElem?.mp m
    obtain ⟨_, _, j, _, _, _, ej, jk, _, _⟩ := at_ hi
    omega
  · rw [e] at wa
    have := wa.self
    rw [this, List.length_singleton] at ln
    cases ws with
    | nil => rfl
    | cons _ _ => rw [List.length_cons] at ln; omega
theorem pts_good (B : BdO2 os n) (hab : os[k]? = some ab) (nr : ¬ Rch (upO os k os.length) ab.1 ab.2) (px : PtsX os k ab.1 ws) : Apart n (othersO os k) ab.1 ab.2 ws := by
  have mab := B _ (List.mem_of_getElem? hab)
  refine ⟨px.up, (px.mem _).mpr .refl, fun m => nr ((px.mem _).mp m), fun x mx => ?_, fun t mt => ?_⟩
  · have r := (px.mem x).mp mx
    cases r with
    | refl => exact ⟨mab.1, mab.2.1⟩
    | step r e =>
      rcases e with e | e
      · obtain ⟨j, _, _, ej⟩ := (mem_upO (Nat.le_refl _)).mp e
        have z := B _ (List.mem_of_getElem? ej)
        exact ⟨z.2.2.1, z.2.2.2⟩
      · obtain ⟨j, _, _, ej⟩ := (mem_upO (Nat.le_refl _)).mp e
        have z := B _ (List.mem_of_getElem? ej)
        exact ⟨z.1, z.2.1⟩
  · obtain ⟨j, jk, ej⟩ := mem_others.mp mt
    have mu : (t.1, t.2) ∈ upO os k os.length := (mem_upO (Nat.le_refl _)).mpr ⟨j, (List.getElem?_eq_some_iff.mp ej).1, jk, ej⟩
    rw [px.mem, px.mem]
    exact ⟨fun r => .step r (.inl mu), fun r => .step r (.inr mu)⟩
theorem ent_good {r : Rw} (B : BdO2 os n) (hab : os[k]? = some ab) (h : EntX n os k ab r) : Good n os k ab r := by
  obtain ⟨hb, ws⟩ := r
  cases hb with
  | true =>
    obtain ⟨nr, px⟩ := ent_h.mp h
    exact good_h.mpr (pts_good B hab nr px)
  | false => exact good_r.mpr (rnd_good (ent_r.mp h)).1
theorem ent_len {r : Rw} (B : BdO2 os n) (n40 : n ≤ 40) (lo : os.length ≤ 63) (hab : os[k]? = some ab) (h : EntX n os k ab r) : r.2.length ≤ 100 := by
  obtain ⟨hb, ws⟩ := r
  cases hb with
  | true =>
    have g := good_h.mp (ent_good B hab h)
    have nd : ws.Nodup := g.up.imp fun z => by omega
    have := nodup_le nd fun x mx => (g.rg x mx)
    show ws.length ≤ 100
    omega
  | false =>
    have g := good_r.mp (ent_good B hab h)
    have := nodup_le (n := os.length) g.nd fun x mx => g.rg x mx
    show ws.length ≤ 100
    omega
end

theorem bd2_of {F : O3s} {n : Nat} (B : BdO F n) : BdO2 (prs F) n := fun t mt => by
  obtain ⟨o, mo, rfl⟩ := List.mem_map.mp mt
  have z := B o mo
  exact ⟨z.1, z.2.2.1, z.2.1, z.2.2.2⟩
theorem oth_up {F : O3s} {k : Nat} : Oth F k (upO (prs F) k (prs F).length) := fun t => by
  rw [mem_upO (Nat.le_refl _), prs_len]
  constructor
  · rintro ⟨j, h1, h2, h3⟩
    refine ⟨j, h1, h2, ?_⟩
    rw [prO_of (k := (j : Int)) (by rw [Int.toNat_natCast]; exact h3)]
  · rintro ⟨j, h1, h2, rfl⟩
    refine ⟨j, h1, h2, ?_⟩
    have h : F[j]? = some F[j] := List.getElem?_eq_getElem h1
    have e := (prO_at (os := F) (k := (j : Int)) (o := F[j]) (by rw [Int.toNat_natCast]; exact h)).1
    rw [e]
    exact prs_at h
theorem holds_mem {F : O3s} {k : Int} : k ∈ holdsL (prs F) (prs F).length ↔ ∃ j : Nat, k = (j : Int) ∧ j < F.length ∧ ¬ Rch (upO (prs F) j (prs F).length) (prO F (j : Int)).1 (prO F (j : Int)).2 := by
  unfold holdsL
  rw [List.mem_map]
  have ex : ∀ j : Nat, ((prs F)[j]?).getD (0, 0) = prO F (j : Int) := fun j => by
    unfold prO prs
    rw [Int.toNat_natCast, List.getElem?_map]
  constructor
  · rintro ⟨j, mj, e⟩
    obtain ⟨h1, h2⟩ := List.mem_filter.mp mj
    rw [ex] at h2
    refine ⟨j, e.symm, by rw [← prs_len (os := F)]; exact List.mem_range.mp h1, ?_⟩
    by_cases c : Rch (upO (prs F) j (prs F).length) (prO F (j : Int)).1 (prO F (j : Int)).2
    · rw [dcd_f fun z => z c] at h2
      exact nomatch h2
    · exact c
  · rintro ⟨j, e, h1, h2⟩
    refine ⟨j, List.mem_filter.mpr ⟨List.mem_range.mpr (by rw [prs_len]; exact h1), ?_⟩, e.symm⟩
    rw [ex, dcd_t h2]
theorem holds_up {F : O3s} (m : Nat) : (holdsL (prs F) m).Pairwise (· < ·) := by
  unfold holdsL
  rw [List.pairwise_map]
  refine (List.Pairwise.filter _ List.pairwise_lt_range).imp fun h => ?_
  omega
/-- a kept one without slack -/
noncomputable def freeB (fs : List V) (k : Int) : Bool := dcd (fs[k.toNat]? = some V.non)
theorem due_is {F : O3s} {n : Nat} {ks us : List Int} {rs : List NR} {fs : List V} (B : BdO F n) (Y : Kru F F.length ks) (pl : PapL F ks rs) (sl : Slk F ks rs fs) (pm : us.Perm ks) (up : us.Pairwise (· < ·)) : us.filter (freeB fs) = holdsL (prs F) (prs F).length := by
  refine rising_ext (up.filter _) (holds_up _) fun k => ?_
  rw [List.mem_filter, holds_mem]
  have mv : ∀ j : Nat, (j : Int) ∈ ks → ((fs[j]? = some V.non) ↔ ∀ r ∈ rs, (j : Int) ∉ r.2) := fun j mj => by
    have lj := (Y.rg _ mj).2
    have hj : fs[j]? = some (fs[j]'(by rw [sl.len]; omega)) := List.getElem?_eq_getElem _
    have z := sl.kept j _ mj hj
    rw [hj]
    constructor
    · intro e r mr m
      rw [Option.some.inj e] at z
      rcases z with ⟨emp, _⟩ | ⟨_, e2, _⟩
      · have y : pcO F r.1 ∈ paidBy F rs (j : Int) := List.mem_map.mpr ⟨r, List.mem_filter.mpr ⟨mr, decide_eq_true m⟩, rfl⟩
        rw [emp] at y
        cases y
      · cases e2
    · intro h
      rcases z with ⟨_, e⟩ | ⟨m, _, mm2, _⟩
      · rw [e]
      · obtain ⟨r, mr, _⟩ := List.mem_map.mp mm2
        obtain ⟨m1, m2⟩ := List.mem_filter.mp mr
        exact absurd (of_decide_eq_true m2) (h r m1)
  constructor
  · rintro ⟨m1, m2⟩
    have mk := pm.mem_iff.mp m1
    have rg := Y.rg k mk
    obtain ⟨j, rfl⟩ : ∃ j : Nat, k = (j : Int) := ⟨k.toNat, by omega⟩
    have fr : fs[j]? = some V.non := by
      by_cases c : fs[j]? = some V.non
      · exact c
      · unfold freeB at m2
        rw [Int.toNat_natCast, dcd_f c] at m2
        exact nomatch m2
    exact ⟨j, rfl, by omega, free_held B oth_up Y pl mk ((mv j mk).mp fr)⟩
  · rintro ⟨j, rfl, lj, nr⟩
    have mk := held_kept oth_up Y lj nr
    refine ⟨pm.mem_iff.mpr mk, ?_⟩
    unfold freeB
    rw [Int.toNat_natCast, dcd_t ((mv j mk).mpr fun r mr => held_free B oth_up Y pl nr mr)]
theorem shp_ints78 (l : List Int) : SeqAt.shaped (.tuple (l.map .int)) = true := by
  have h := lay_ints l
  unfold SeqAt.shaped
  rw [show PyData.canLay0 (.tuple (l.map .int)) = true from h.1, decide_eq_true (show PyData.depth (.tuple (l.map .int)) ≤ 64 by show PyData.depthAll _ + 1 ≤ 64; omega)]
  rfl
theorem eqv_ints78 (l : List Int) : PyData.eqv (.tuple (l.map .int)) (.tuple (l.map .int)) = true := by
  have h := shp_refl (shp_ints78 l)
  cases e : PyData.eqv (.tuple (l.map .int)) (.tuple (l.map .int)) with
  | true => rfl
  | false =>
    rw [e] at h
    exact nomatch h
theorem HoldAt.kp {C : Addr} {H H' : Hp} (k : Kp H H') {h O : Addr} {n : Nat} {ys : List V} {os : Ofs} (A : HoldAt C H h O n ys os) : HoldAt C H' h O n ys os := by
  obtain ⟨dx, e⟩ := A.ob
  exact ⟨⟨dx, k _ _ e (by intro ps z; cases z)⟩, k.lst A.lo, A.pa.kp k⟩
section
variable {P : Program} {w : World} {K : PySem.W.Frag} {mg : Str → Option Value} {base : Heap}
def spRight (T : Top K mg) : Sp := fun vs H Q _ => ∃ (b L : Addr) (m : Int) (n : Nat) (D : Addr) (ys : List V) (F : O3s), vs = [.ref b, .int (n : Int), .ref D] ∧ PotAt H b L m ∧ m < 2 ^ 40 ∧ H D = some (.lst ys) ∧ D ≠ b ∧ D ≠ L ∧ OAll H ys F ∧ BdO F n ∧ n ≤ 40 ∧ F.length ≤ 63 ∧ (∀ t ∈ F, 0 ≤ t.2 ∧ t.2 < 2 ^ 90) ∧ Tb T.tbs H ∧
  ∀ (H' : Hp), PotAt H' b L (m + 63) → Tb T.tbs H' → Q (.bl true) H'
theorem ok_right (T : Top K mg) (TB : TBs T base) : FnOk P w K mg base CX0 10 T.a_Lright T.d_Lright ["_law_pot_here", "_law_many", "_law_offers_here"] (spRight T) := by
  have G_Llight : FnOk P w K mg base CX0 6 _ _ _ _ := ok_lightL T TB
  have G_Lheld : FnOk P w K mg base CX0 5 _ _ _ _ := ok_held T TB.M
  have G_Lfirsts : FnOk P w K mg base CX0 1 _ _ _ _ := ok_firsts T
  have G_Lshuffled : FnOk P w K mg base CX0 3 _ _ _ _ := ok_shuf T
  have G_Lightestkept : FnOk P w K mg base CX0 1 _ _ _ _ := ok_kept T
  have G_Lightestpaper : FnOk P w K mg base CX0 6 _ _ _ _ := ok_papero T
  have G_Lightestslacks : FnOk P w K mg base CX0 7 _ _ _ _ := ok_slacks T
  have G_Holdingholding : FnOk P w K mg base CX0 7 _ _ _ _ := ok_holding T
  have G_Holdingpaper : FnOk P w K mg base CX0 7 _ _ _ _ := ok_paper T
  have G_showslightest : FnOk P w K mg base CX0 9 _ _ _ _ := ok_shows71 T TB.A TB.R TB.O TB.E TB.P
  have G_showsholding : FnOk P w K mg base CX0 8 _ _ _ _ := ok_shows T TB.A TB.O TB.R TB.S TB.H
  refine T.F_Lright.ok sc_Lright (fun vs H Q E h => ?_) (fun cdv A outer s H vs Q E hr h => ?_)
  · obtain ⟨b, L, m, n, D, ys, F, rfl, _⟩ := h
    rfl
  · obtain ⟨b, L, m, n, D, ys, F, rfl, P0, mm, hD, d1, d2, oa, B, n40, lo, pz, tb, q⟩ := h
    have pz0 : ∀ t ∈ F, 0 ≤ t.2 := fun t mt => (pz t mt).1
    have ly := oa.length
    refine ⟨_, (pss_cons (ps_par (i := 3) (j := 4) (by rfl) sc_Lright.nd rfl rfl (by decide) rfl rfl (pa_cons (pe_call G_Llight (hr.mono (by decide)) (by rfl) T.g_Llight T.F_Llight.kp T.b_Llight .nil pass0 (pa_cons (pv 1) (pa_cons (pv 2) pa_nil))) (pa_cons (pe_call G_Lheld (hr.mono (by decide)) (by rfl) T.g_Lheld T.F_Lheld.kp T.b_Lheld .nil pass0 (pa_cons (pv 1) (pa_cons (pv 2) pa_nil))) pa_nil)) (by rfl))
      (pss_cons (ps_set (i := 5) sc_Lright.nd rfl (.inr rfl) (pe_meth0 (pv 3) T.cl_Lightest T.me_Lightestslacks G_Lightestslacks (hr.mono (by decide)) T.b_Lightestslacks .nil pass0))
      (pss_cons (ps_set (i := 6) sc_Lright.nd rfl (.inl rfl) (pe_callTy call_tuple_of (by rfl) T.m_tuple (by decide +kernel) (pa_cons (pe_lc (own := [("_law_number", 7)]) (g := gName 7) (by rfl) sc_Lright.nd (pi_tup (pe_meth0 (pv 3) T.cl_Lightest T.me_Lightestkept G_Lightestkept (hr.mono (by decide)) T.b_Lightestkept .nil pass0)) (blkOk_by (own := [("_law_number", 7)]) (N := ["_law_pot_here", "_law_many", "_law_offers_here", "_law_light_here", "_law_held_here", "_law_slacks", "_law_due", "_law_number", "_law_pair", "_law_offer", "_law_other", "_law_kept", "_law_alike", "_law_a", "_law_b", "_law_price"]) (sc := defScope s_Lright) (by decide +kernel)) (fun _ _ _ _ _ => (pg_name (i := 7) sc_Lright.nd rfl (.inl rfl))) (fun _ _ _ _ _ => (pts_one (pt_cmpR op_isN (pe_ix (ix_tupK (K := K) rfl) (pv 5) (pv 7) (fun _ _ => rfl)) pe_non (nomark _)))) (fun _ _ _ _ _ => (pv 7))) pa_nil)))
      (pss_cons (ps_set (i := 8) sc_Lright.nd rfl (.inl rfl) (pe_tup (pa_cons (pe_meth0 (pv 3) T.cl_Lightest T.me_Lightestkept G_Lightestkept (hr.mono (by decide)) T.b_Lightestkept .nil pass0) (pa_cons (pe_meth0 (pv 3) T.cl_Lightest T.me_Lightestpaper G_Lightestpaper (hr.mono (by decide)) T.b_Lightestpaper .nil pass0) pa_nil))))
      (pss_cons (ps_if (PW.pt (pw_or (pt_cmpR (op_neD hr.units) (pe_meth0 (pv 4) T.cl_Holding T.me_Holdingholding G_Holdingholding (hr.mono (by decide)) T.b_Holdingholding .nil pass0) (pv 6) (nomark _)) (pw_or1 (pt_cmpR op_isnot_bl (pe_call G_showslightest hr (by rfl) T.g_showslightest T.F_showslightest.kp T.b_showslightest .nil pass0 (pa_cons (pv 1) (pa_cons (pe_callTy call_tuple_of (by rfl) T.m_tuple (by decide +kernel) (pa_cons (pv 2) pa_nil)) (pa_cons (pv 8) pa_nil)))) pe_bl (nomark _))))) (pss_one (ps_ret pe_bl)) pss_nil)
      (pss_cons (ps_if (pt_cmpR op_isnot_bl (pe_call G_showsholding (hr.mono (by decide)) (by rfl) T.g_showsholding T.F_showsholding.kp T.b_showsholding .nil pass0 (pa_cons (pv 1) (pa_cons (pe_callTy call_tuple_of (by rfl) T.m_tuple (by decide +kernel) (pa_cons (pe_lc (own := [("_law_offer", 9)]) (g := gName 9) (tt := tYes) (by rfl) sc_Lright.nd (pi_list (pv 2)) (blkOk_by (own := [("_law_offer", 9)]) (N := ["_law_pot_here", "_law_many", "_law_offers_here", "_law_light_here", "_law_held_here", "_law_slacks", "_law_due", "_law_number", "_law_pair", "_law_offer", "_law_other", "_law_kept", "_law_alike", "_law_a", "_law_b", "_law_price"]) (sc := defScope s_Lright) (by decide +kernel)) (fun _ _ _ _ _ => (pg_name (i := 9) sc_Lright.nd rfl (.inl rfl))) (fun _ _ _ _ _ => pts_nil) (fun _ _ _ _ _ => (pe_slice (sl_tupAK (K := K) rfl) (pv 9) po_none (po_some pe_int)))) pa_nil)) (pa_cons (pe_meth0 (pv 4) T.cl_Holding T.me_Holdingpaper G_Holdingpaper (hr.mono (by decide)) T.b_Holdingpaper .nil pass0) pa_nil)))) pe_bl (nomark _)) (pss_one (ps_ret pe_bl)) pss_nil)
      (pss_cons (ps_set (i := 10) sc_Lright.nd rfl (.inl rfl) (pe_call G_Lshuffled (hr.mono (by decide)) (by rfl) T.g_Lshuffled T.F_Lshuffled.kp T.b_Lshuffled .nil pass0 (pa_cons (pv 0) (pa_cons (pv 2) pa_nil))))
      (pss_cons (ps_set (i := 11) sc_Lright.nd rfl (.inr rfl) (pe_meth0 (pe_call G_Llight (hr.mono (by decide)) (by rfl) T.g_Llight T.F_Llight.kp T.b_Llight .nil pass0 (pa_cons (pv 1) (pa_cons (pv 10) pa_nil))) T.cl_Lightest T.me_Lightestkept G_Lightestkept (hr.mono (by decide)) T.b_Lightestkept .nil pass0))
      (pss_cons (ps_mid (ps_if (pt_not (pt_val (pe_callB (cr_all rfl) (by rfl) T.m_all (by decide +kernel) (pa_cons (pe_lc (own := [("_law_number", 7)]) (g := gName 7) (tt := tYes) (by rfl) sc_Lright.nd (pi_tup (pe_meth0 (pe_call G_Lheld (hr.mono (by decide)) (by rfl) T.g_Lheld T.F_Lheld.kp T.b_Lheld .nil pass0 (pa_cons (pv 1) (pa_cons (pv 10) pa_nil))) T.cl_Holding T.me_Holdingholding G_Holdingholding (hr.mono (by decide)) T.b_Holdingholding .nil pass0)) (blkOk_by (own := [("_law_number", 7)]) (N := ["_law_pot_here", "_law_many", "_law_offers_here", "_law_light_here", "_law_held_here", "_law_slacks", "_law_due", "_law_number", "_law_pair", "_law_offer", "_law_other", "_law_kept", "_law_alike", "_law_a", "_law_b", "_law_price"]) (sc := defScope s_Lright) (by decide +kernel)) (fun _ _ _ _ _ => (pg_name (i := 7) sc_Lright.nd rfl (.inl rfl))) (fun _ _ _ _ _ => pts_nil) (fun _ _ _ _ _ => (pe_cmpR (op_in_seqK (K := K) rfl) (pv 7) (pv 11) (by rfl)))) pa_nil)))) (pss_one (ps_ret pe_bl)) pss_nil))
      (pss_cons (ps_setLc (i := 12) (own := [("_law_a", 13), ("_law_b", 14), ("_law_price", 15)]) (tt := tYes) (by rfl) sc_Lright.nd rfl rfl (sw_true rfl rfl rfl (by decide +kernel)) (pi_list (pv 2)) (blkOk_by (own := [("_law_a", 13), ("_law_b", 14), ("_law_price", 15)]) (N := ["_law_pot_here", "_law_many", "_law_offers_here", "_law_light_here", "_law_held_here", "_law_slacks", "_law_due", "_law_number", "_law_pair", "_law_offer", "_law_other", "_law_kept", "_law_alike", "_law_a", "_law_b", "_law_price"]) (sc := defScope s_Lright) (by decide +kernel)) (fun _ _ _ _ _ => (pg_tupK (K := K) (n := 3) rfl rfl (pgs_cons (pg_name (i := 13) sc_Lright.nd rfl (.inl rfl)) (pgs_cons (pg_name (i := 14) sc_Lright.nd rfl (.inl rfl)) (pgs_cons (pg_name (i := 15) sc_Lright.nd rfl (.inl rfl)) pgs_nil))) rfl)) (fun _ _ _ _ _ => pts_nil) (fun _ _ _ _ _ => (pe_tup (pa_cons (pv 13) (pa_cons (pv 14) (pa_cons pe_int pa_nil))))))
      (pss_one (ps_ret (pe_cmpR (op_eqD hr.units) (pe_meth0 (pe_call G_Llight (hr.mono (by decide)) (by rfl) T.g_Llight T.F_Llight.kp T.b_Llight .nil pass0 (pa_cons (pv 1) (pa_cons (pv 12) pa_nil))) T.cl_Lightest T.me_Lightestkept G_Lightestkept (hr.mono (by decide)) T.b_Lightestkept .nil pass0) (pe_call G_Lfirsts (hr.mono (by decide)) (by rfl) T.g_Lfirsts T.F_Lfirsts.kp T.b_Lfirsts .nil pass0 (pa_cons (pv 1) (pa_cons (pv 12) pa_nil))) (nomark _)))))))))))))), ?_⟩
    refine ⟨_, rfl, _, rfl, D, n, ys, F, rfl, hD, oa, B, pz0, n40, lo, tb, fun x O Y zs ks H1 nO k1 tb1 A1 C1 => ?_⟩
    have hD1 := k1.lst hD
    have oa1 := oa.kp k1
    have P1 := P0.kp k1
    refine ⟨_, rfl, _, rfl, D, n, ys, F, rfl, hD1, oa1, B, n40, lo, tb1, fun h OH zsh H2 nOH k2 tb2 AH => ⟨_, _, rfl, ?_⟩⟩
    have KR := C1.kru B
    have rk := KR.rg
    have lk := kru_len KR
    have A2 := A1.kp k2
    have hD2 := k2.lst hD1
    have oa2 := oa1.kp k2
    have P2 := P1.kp k2
    obtain ⟨dx, hx⟩ := A2.ob
    obtain ⟨dxh, hh⟩ := AH.ob
    have B2 := bd2_of B
    clear P0 hD oa tb k1 A1 hD1 oa1 P1 k2 tb1
    refine ⟨_, rfl, x, dx, _, rfl, hx, flds_no _ _ _ (by decide +kernel) (by decide +kernel) (by decide +kernel), x, O, Y, n, zs, F, ks, rfl, A2, B, n40, lo, KR, fun p9 fs rs H3 s3 hp9 pl sl => ?_⟩
    -- due
    refine ⟨_, rfl, x, dx, _, rfl, s3 _ _ hx, flds_no _ _ _ (by decide +kernel) (by decide +kernel) (by decide +kernel), x, O, Y, n, zs, F, F, ks, rfl, A2.same s3, fun t1 us H4 s4 pm up h1 => ?_⟩
    have nd := ring_nd KR.nr
    have upS := rising_nd nd pm up
    have ru : ∀ k ∈ us, 0 ≤ k ∧ k < (F.length : Int) := fun k mk => rk k (pm.mem_iff.mp mk)
    have lus : us.length ≤ 63 := by
      have := pm.length_eq
      omega
    have hp4 := s4 _ _ hp9
    refine ⟨t1, rfl, ⟨_, SqT.of h1⟩, fun M nM => ?_⟩
    refine lc_tup (xs := us.map V.int) (fun j G => Same H4 G ∧ G M = some (.lst (((us.take j).filter (freeB fs)).map V.int))) ⟨same_new nM, upd_same⟩ (fun j G _ z => SqT.of (z.1 _ _ h1)) ?_ ?_
    · rintro j z G hx2 ⟨s2, hM⟩
      rw [List.getElem?_map] at hx2
      obtain ⟨k, hk, rfl⟩ := Option.map_eq_some_iff.mp hx2
      have rgk := ru k (List.mem_of_getElem? hk)
      obtain ⟨k, rfl⟩ : ∃ z : Nat, k = (z : Int) := ⟨k.toNat, by omega⟩
      obtain ⟨v, hfk⟩ : ∃ v, fs[k]? = some v := ⟨fs[k]'(by rw [sl.len]; omega), List.getElem?_eq_getElem _⟩
      have et : (us.take (j + 1)).filter (freeB fs) = if freeB fs (k : Int) = true then (us.take j).filter (freeB fs) ++ [(k : Int)] else (us.take j).filter (freeB fs) := by
        rw [take_at hk, List.filter_append]
        by_cases c : freeB fs (k : Int) = true
        · rw [if_pos c, List.filter_cons_of_pos c]
          rfl
        · rw [if_neg c, List.filter_cons_of_neg c, List.filter_nil, List.append_nil]
      rw [et]
      refine ⟨rfl, _, rfl, _, rfl, p9, _, _, _, rfl, rfl, SqT.of (s2 _ _ hp4), atI_nat hfk, rfl, _, rfl, ite2 (fun c => ?_) (fun c => ?_)⟩
      · have c := of_decide_eq_true c
        have fb : freeB fs (k : Int) = true := by
          unfold freeB
          rw [Int.toNat_natCast, dcd_t (by rw [hfk, c])]
        rw [if_pos fb]
        refine ⟨_, rfl, _, hM, ?_, same_put s2 nM, ?_⟩
        · have z := List.length_filter_le (freeB fs) (us.take j)
          rw [List.length_take] at z
          rw [List.length_map]
          exact szl (by omega)
        · rw [upd_same, List.map_append]
          rfl
      · have nb : ¬ freeB fs (k : Int) = true := fun e => c (by
          unfold freeB at e
          rw [Int.toNat_natCast] at e
          have z : fs[k]? = some V.non := by
            by_cases y : fs[k]? = some V.non
            · exact y
            · rw [dcd_f y] at e
              exact nomatch e
          rw [hfk] at z
          exact decide_eq_true (Option.some.inj z))
        rw [if_neg nb]
        exact ⟨s2, hM⟩
    rintro H5 ⟨s5, hM⟩
    rw [List.length_map, List.take_length, due_is B KR pl sl pm upS] at hM
    refine ⟨M, _, rfl, .inl ⟨SqL.of hM, fun t2 nt2 => ?_⟩⟩
    have s6 := same_new (o := .tup ((holdsL (prs F) (prs F).length).map V.int)) nt2
    have h2 : upd H5 t2 (.tup ((holdsL (prs F) (prs F).length).map V.int)) t2 = some (.tup ((holdsL (prs F) (prs F).length).map V.int)) := upd_same
    have s26 := s3.trans (s4.trans (s5.trans s6))
    generalize upd H5 t2 (.tup ((holdsL (prs F) (prs F).length).map V.int)) = H6 at h2 s26 ⊢
    clear hM s6 nt2 s5 hp4 h1 s4 hp9 s3 nM
    -- the pair
    refine ⟨_, rfl, x, dx, _, rfl, s26 _ _ hx, flds_no _ _ _ (by decide +kernel) (by decide +kernel) (by decide +kernel), x, O, Y, n, zs, F, F, ks, rfl, A2.same s26, fun t3 us3 H7 s7 pm3 up3 h3 => ?_⟩
    have eu : us = us3 := rising_ext upS (rising_nd nd pm3 up3) fun j => pm.mem_iff.trans pm3.mem_iff.symm
    subst eu
    have s27 := s26.trans s7
    refine ⟨_, rfl, x, dx, _, rfl, s27 _ _ hx, flds_no _ _ _ (by decide +kernel) (by decide +kernel) (by decide +kernel), x, O, Y, n, zs, F, ks, rfl, A2.same s27, B, n40, lo, KR, fun p xs rs' H8 s8 hp ra pl' => ?_⟩
    refine ⟨(by show 2 ≤ sizeLine; decide), fun f nf => ?_⟩
    have sf := same_new (o := .tup [V.ref t3, V.ref p]) nf
    have hf : upd H8 f (.tup [V.ref t3, V.ref p]) f = some (.tup [V.ref t3, V.ref p]) := upd_same
    have h3 := sf _ _ (s8 _ _ h3)
    have hp := sf _ _ hp
    have ra := ra.same sf
    have s29 := s27.trans (s8.trans sf)
    have h2 := sf _ _ (s8 _ _ (s7 _ _ h2))
    generalize upd H8 f (.tup [V.ref t3, V.ref p]) = H9 at hf h3 hp ra s29 h2 ⊢
    have plu : PapL F us rs' := pl'.perm pm.symm
    have KU : Kru F F.length us := kru_perm B (Nat.le_refl _) KR pm
    have own : Shw F us rs' := shw_own B KU upS plu.hd plu.ok
    have rok : ∀ r ∈ rs', r.2.length ≤ 1000 ∧ ∀ k ∈ r.2, 0 ≤ k ∧ k < (F.length : Int) := fun r mr => by
      have g := plu.ok r mr
      have z : ∀ k ∈ r.2, 0 ≤ k ∧ k < (F.length : Int) := fun k mk => ru k (g.sub k mk)
      have := nodup_le (n := F.length) g.nd z
      exact ⟨by omega, z⟩
    have A9 := AH.same s29
    -- held
    refine ⟨_, rfl, h, dxh, _, rfl, s29 _ _ hh, fldh_no _ _ (by decide +kernel) (by decide +kernel), h, OH, n, zsh, prs F, rfl, A9, B2, n40, by rw [prs_len]; exact lo, fun t4 H10 s10 h4 => ?_⟩
    refine ⟨_, rfl, _, _, .tup (SqT.of h4) (dp_intsL _), .tup (SqT.of (s10 _ _ h2)) (dp_intsL _), shp_ints78 _, shp_ints78 _, _, rfl, ifF (shp_refl (shp_ints78 _)) ?_⟩
    have s210 := s29.trans s10
    refine ⟨_, rfl, _, rfl, D, _, rfl, .inl ⟨SqL.of (s210 _ _ hD2), fun o no => ?_⟩⟩
    have s11 := s10.trans (same_new (o := .tup ys) no)
    have s211 := s29.trans s11
    refine ⟨_, rfl, n, o, f, t3, p, ys, xs, F, us, rs', rfl, s11 _ _ hf, B, by omega, upd_same, oa2.same s211, by omega, s11 _ _ h3, by omega, ru, s11 _ _ hp, ra.same s11, rok, tb2.same s211, fun H12 k12 tb12 => ?_⟩
    rw [dcd_t own]
    refine ⟨true, true, rfl, rfl, _, rfl, ifF (by decide) ?_⟩
    have k212 : Kp H2 H12 := (Kp.of_same s211).trans k12
    have AH12 := AH.kp k212
    have P12 := P2.kp k212
    have hD12 := k212.lst hD2
    have oa12 := oa2.kp k212
    clear A2 A9 s29 s210 s211 s11 s10 hf h3 hp ra h2 h4 k12 k212 s26 s27 P2 hD2 oa2 hx hh tb2 AH
    -- held, shown
    obtain ⟨dxh, hh⟩ := AH12.ob
    refine ⟨_, rfl, _, rfl, D, rfl, ⟨_, SqL.of hD12⟩, fun M nM => ?_⟩
    refine lc_list (xs := ys) (fun j G => Same H12 G ∧ ∃ ws, G M = some (.lst ws) ∧ PAll G ws (prs (F.take j))) ⟨same_new nM, [], upd_same, .nil⟩ (fun j G _ z => SqL.of (z.1 _ _ hD12)) ?_ ?_
    · rintro j z G hx2 ⟨s2, ws, hM, wa⟩
      obtain ⟨tp, u, rfl, hu, htp⟩ := (oa12.same s2).at hx2
      have lj := (List.getElem?_eq_some_iff.mp hx2).1
      have lw := wa.length
      rw [prs_len, List.length_take] at lw
      refine ⟨rfl, yes_ite ?_⟩
      refine ⟨_, rfl, 2, rfl, slA rfl htp fun p2 G6 s6 hp2 => ?_⟩
      have hp2 : G6 p2 = some (.tup [V.int u.1.1, V.int u.1.2]) := hp2
      have hM6 := s6 _ _ hM
      refine ⟨_, hM6, szl (by omega), same_put (s2.trans s6) nM, ws ++ [.ref p2], upd_same, ?_⟩
      rw [prs_snoc hu]
      exact (PAll.snoc hp2 (wa.same s6)).put hM6
    rintro H13 ⟨s13, ws, hM, wa⟩
    rw [ly, List.take_length] at wa
    refine ⟨M, _, rfl, .inl ⟨SqL.of hM, fun o2 no2 => ?_⟩⟩
    have s14 := s13.trans (same_new (o := .tup ws) no2)
    have so2 := same_new (o := .tup ws) no2
    refine ⟨_, rfl, h, dxh, _, rfl, s14 _ _ hh, fldh_no _ _ (by decide +kernel) (by decide +kernel), h, OH, n, zsh, prs F, rfl, AH12.same s14, B2, n40, by rw [prs_len]; exact lo, fun t5 xs5 rs5 H15 s15 h5 ra5 px5 => ?_⟩
    have ag : AllGood (n : Int) (prs F) rs5 := fun j tj r h1 h2 => ent_good B2 h1 (px5.ent j tj r h1 h2)
    have ls5 : ∀ r ∈ rs5, r.2.length ≤ 1000 := fun r mr => by
      obtain ⟨j, hj⟩ := List.mem_iff_getElem?.mp mr
      have l := (List.getElem?_eq_some_iff.mp hj).1
      have hab : (prs F)[j]? = some ((prs F)[j]'(by have := px5.len; omega)) := List.getElem?_eq_getElem _
      have := ent_len B2 n40 (by rw [prs_len]; exact lo) hab (px5.ent j _ r hab hj)
      omega
    refine ⟨(n : Int), o2, t5, ws, xs5, prs F, rs5, rfl, by omega, by omega, s15 _ _ upd_same, (wa.same so2).same s15, by rw [prs_len]; omega, h5, ra5, px5.len, ls5, tb12.same (s14.trans s15), fun H16 k16 tb16 => ?_⟩
    rw [dcd_t ag]
    refine ⟨true, true, rfl, rfl, _, rfl, ifF (by decide) ?_⟩
    have k1216 : Kp H12 H16 := (Kp.of_same (s14.trans s15)).trans k16
    have P16 := P12.kp k1216
    have hD16 := k1216.lst hD12
    have oa16 := oa12.kp k1216
    clear AH12 P12 hD12 oa12 tb12 hh s13 s14 so2 s15 hM wa h5 ra5 k16 k1216 no2 nM
    -- in another order
    refine ⟨_, rfl, _, rfl, b, L, m, D, ys, F, rfl, P16, mm, hD16, oa16, lo, d1, d2, fun Eo es U H17 P17 k17 hE ea pmU => ?_⟩
    have tb17 := tbs_but2 tb16 P16 k17
    have hD17 := k17 _ _ hD16 d1 d2
    have oa17 := oa16.but2 k17 P16
    have BU : BdO U n := fun o mo => B o (pmU.mem_iff.mp mo)
    have lU := pmU.length_eq
    refine ⟨_, rfl, _, rfl, Eo, n, es, U, rfl, hE, ea, BU, (fun o mo => pz0 o (pmU.mem_iff.mp mo)), n40, by omega, tb17, fun x2 O2 Y2 zs2 ks2 H18 _ k18 tb18 A18 C18 => ?_⟩
    have KV := C18.kru BU
    obtain ⟨dx2, hx2⟩ := A18.ob
    refine ⟨x2, dx2, _, rfl, hx2, flds_no _ _ _ (by decide +kernel) (by decide +kernel) (by decide +kernel), x2, O2, Y2, n, zs2, U, U, ks2, rfl, A18, fun t6 us6 H19 s19 pm6 up6 h6 => ?_⟩
    refine ⟨fun σ G => σ = [some (.ref b), some (.int (n : Int)), some (.ref D), some (.ref x), some (.ref h), some (.ref p9), some (.ref t2), none, some (.ref f), none, some (.ref Eo), some (.ref t6), none, none, none, none] ∧ PotAt G b L (m + 63) ∧ G D = some (.lst ys) ∧ OAll G ys F ∧ Tb T.tbs G, ?_, ?_⟩
    rotate_left
    · rintro σ H22 ⟨rfl, P22, hD22, oa22, tb22⟩
      clear P16 hD16 oa16 tb16 P17 hD17 oa17 tb17 k17 hE ea k18 tb18 A18 hx2 s19 h6
      -- all of one price
      refine ⟨_, rfl, D, rfl, ⟨_, SqL.of hD22⟩, fun M nM => ?_⟩
      refine lc_list (xs := ys) (fun j G => Same H22 G ∧ ∃ ws, G M = some (.lst ws) ∧ OAll G ws ((F.take j).map fun o => (o.1, 7))) ⟨same_new nM, [], upd_same, .nil⟩ (fun j G _ z => SqL.of (z.1 _ _ hD22)) ?_ ?_
      · rintro j z G hx2 ⟨s2, ws, hM, wa⟩
        obtain ⟨tp, u, rfl, hu, htp⟩ := (oa22.same s2).at hx2
        have lj := (List.getElem?_eq_some_iff.mp hx2).1
        have lw := wa.length
        rw [List.length_map, List.length_take] at lw
        refine ⟨tp, _, rfl, SqT.of htp, rfl, _, _, rfl, _, _, rfl, _, _, rfl, rfl, ?_⟩
        refine ⟨rfl, yes_ite ?_⟩
        refine ⟨.int u.1.1, rfl, .int u.1.2, rfl, (by show 3 ≤ sizeLine; decide), fun t nt => ?_⟩
        have st := same_new (o := .tup [V.int u.1.1, V.int u.1.2, V.int 7]) nt
        have ht : upd G t (.tup [V.int u.1.1, V.int u.1.2, V.int 7]) t = some (.tup [V.int u.1.1, V.int u.1.2, V.int 7]) := upd_same
        generalize upd G t (.tup [V.int u.1.1, V.int u.1.2, V.int 7]) = G2 at st ht ⊢
        have hM2 := st _ _ hM
        refine ⟨_, hM2, szl (by omega), same_put (s2.trans st) nM, ws ++ [.ref t], upd_same, ?_⟩
        rw [take_at hu, List.map_append]
        exact (OAll.snoc ht (wa.same st)).put hM2
      rintro H23 ⟨s23, ws, hM, wa⟩
      rw [ly, List.take_length] at wa
      have BA : BdO (F.map fun o => (o.1, (7 : Int))) n := fun t mt => by
        obtain ⟨o, mo, rfl⟩ := List.mem_map.mp mt
        exact B o mo
      have pA : ∀ t ∈ F.map fun o => (o.1, (7 : Int)), t.2 = 7 := fun t mt => by
        obtain ⟨o, mo, rfl⟩ := List.mem_map.mp mt
        rfl
      have lA : (F.map fun o => (o.1, (7 : Int))).length = F.length := List.length_map ..
      generalize (F.map fun o => (o.1, (7 : Int))) = FA at wa BA pA lA
      refine ⟨_, rfl, _, rfl, M, n, ws, FA, rfl, hM, wa, BA, (fun t mt => by have := pA t mt; omega), n40, by omega, tb22.same s23, fun x3 O3 Y3 zs3 ks3 H24 _ k24 tb24 A24 C24 => ?_⟩
      obtain ⟨dx3, hx3⟩ := A24.ob
      refine ⟨x3, dx3, _, rfl, hx3, flds_no _ _ _ (by decide +kernel) (by decide +kernel) (by decide +kernel), x3, O3, Y3, n, zs3, FA, FA, ks3, rfl, A24, fun t8 us8 H25 s25 pm8 up8 h8 => ?_⟩
      obtain ⟨ef, _⟩ := chn_frs pA C24
      have K3 := C24.kru BA
      have e8 : us8 = frs FA FA.length := rising_ext (rising_nd (ring_nd K3.nr) pm8 up8) (frs_up FA _).1 fun k => by rw [← ef]; exact pm8.mem_iff
      subst e8
      refine ⟨_, rfl, _, rfl, n, M, ws, FA, rfl, s25 _ _ (k24.lst hM), (wa.kp k24).same s25, BA, n40, by omega, fun t9 H26 s26 h9 => ?_⟩
      refine ⟨_, _, .tup (SqT.of (s26 _ _ h8)) (dp_intsL _), .tup (SqT.of h9) (dp_intsL _), shp_ints78 _, shp_ints78 _, ?_⟩
      rw [eqv_ints78]
      exact q H26 (((((P22.same s23).kp k24).same s25).same s26)) ((tb24.same s25).same s26)
    refine ⟨_, rfl, _, rfl, Eo, n, es, U, rfl, s19 _ _ (k18.lst hE), (ea.kp k18).same s19, BU, n40, by omega, tb18.same s19, fun h2 OH2 zsh2 H20 _ k20 tb20 AH2 => ?_⟩
    obtain ⟨dxh2, hh2⟩ := AH2.ob
    refine ⟨h2, dxh2, _, rfl, hh2, fldh_no _ _ (by decide +kernel) (by decide +kernel), h2, OH2, n, zsh2, prs U, rfl, AH2, bd2_of BU, n40, by rw [prs_len]; omega, fun t7 H21 s21 h7 => ?_⟩
    have h621 := s21 _ _ (k20.tup h6)
    refine ⟨t7, rfl, ⟨_, SqT.of h7⟩, fun M nM => ?_⟩
    have lhl := holdsL_len (os := prs U) (i := (prs U).length)
    rw [prs_len] at lhl
    refine lc_tup (xs := (holdsL (prs U) (prs U).length).map V.int) (fun j G => Same H21 G ∧ G M = some (.lst (((((holdsL (prs U) (prs U).length).take j).map fun _ => true)).map V.bl))) ⟨same_new nM, upd_same⟩ (fun j G _ z => SqT.of (z.1 _ _ h7)) ?_ ?_
    · rintro j z G hx2 ⟨s2, hM⟩
      rw [List.getElem?_map] at hx2
      obtain ⟨k, hk, rfl⟩ := Option.map_eq_some_iff.mp hx2
      have mk : k ∈ us6 := by
        obtain ⟨j2, rfl, lj2, nr⟩ := holds_mem.mp (List.mem_of_getElem? hk)
        exact pm6.mem_iff.mpr (held_kept oth_up KV lj2 nr)
      have iv : inV (V.int k) (us6.map V.int) = true := by
        rw [inV_ints, decide_eq_true mk]
      refine ⟨rfl, yes_ite ?_⟩
      refine ⟨_, rfl, _, rfl, t6, _, rfl, .inr (SqT.of (s2 _ _ h621)), rfl, flat_ints us6, ?_⟩
      show ∃ acc, _
      refine ⟨_, hM, ?_, same_put s2 nM, ?_⟩
      · rw [List.length_map, List.length_map, List.length_take, prs_len]
        exact szl (by omega)
      · rw [upd_same, take_at hk, List.map_append, List.map_append]
        show some (HO.lst (_ ++ [V.bl (inV (V.int k) (us6.map V.int))])) = _
        rw [iv]
        rfl
    rintro H22 ⟨s22, hM⟩
    rw [List.length_map, List.take_length] at hM
    refine ⟨M, _, rfl, SqL.of hM, ?_⟩
    rw [show ((holdsL (prs U) (prs U).length).map fun _ => true).all id = true by rw [List.all_map]; exact List.all_eq_true.mpr fun _ _ => rfl]
    refine ⟨_, rfl, iteF ?_⟩
    have kk : Kp H17 H22 := k18.trans ((Kp.of_same s19).trans (k20.trans ((Kp.of_same s21).trans (Kp.of_same s22))))
    have P22 := P17.kp kk
    have hD22 := kk.lst hD17
    have oa22 := oa17.kp kk
    have tb22 := (tb20.same s21).same s22
    exact ⟨rfl, P22, hD22, oa22, tb22⟩
theorem run_law (T : Top K mg) {s : Shared} {H : Hp} {a : Addr} {ns : List Int} (TA : GxR.TabB base mg T.cA T.PA) (TR : GxR.TabB base mg T.cR T.PR) (TO : GxR.TabB base mg T.cO T.PO) (TP : GxR.TabB base mg T.cP T.PP) (TE : GxR.TabB base mg T.cE T.PE) (TS : GxR.TabB base mg T.cS T.PS) (TH : GxR.TabB base mg T.cH T.PH) (TM : GxR.TabB base mg T.cM T.PM) (TL : LamX.TabB base mg T.cL T.PL) (e0 : Env0 P w K mg base callerA [] s H) (hA : H T.PA = some (.tbl #[])) (hR : H T.PR = some (.tbl #[])) (hO : H T.PO = some (.tbl #[])) (hZ : H T.PP = some (.tbl #[])) (hE : H T.PE = some (.tbl #[])) (hS1 : H T.PS = some (.tbl #[])) (hH1 : H T.PH = some (.tbl #[])) (hM : H T.PM = some (.tbl #[])) (hL : H T.PL = some (.tbl #[])) (hS : SqL K H a (ns.map V.int)) (hlen : ns.length ≤ 63) (room : Room 11 callerA) (bind : ∀ (s : Shared) (u : Value), BindsTo s T.d_law ⟨[u], []⟩ [("_law_script", u)]) :
    codeAny (model P w) callerA (.call (.ref T.a_law) ⟨[.ref a], []⟩) (CR CX0 [] P w H s (fun v _ => v = .bl true) E0) s := by
  have TB : TBs T base := ⟨TA, TR, TO, TP, TE, TS, TH, TM, TL⟩
  have tb0 : Tb T.tbs H := tbs0 T hA hR hO hZ hE hS1 hH1 hM hL
  have G_Lpot : FnOk P w K mg base CX0 1 _ _ _ _ := ok_pot T
  have G_Loffers : FnOk P w K mg base CX0 3 _ _ _ _ := ok_offers T
  have G_Lright : FnOk P w K mg base CX0 10 _ _ _ _ := ok_right T TB
  obtain ⟨oc, od, kV', doc, pm, an, cdv, ct, osl, ed, lk, hcd⟩ := T.F_law.ex
  rw [ed] at lk
  refine LamX.run_ofS (k := 10) (N := ["_law_script", "_law_pot_here", "_law_turn", "_law_many", "_law_offers_here"]) (ps := ["_law_script"]) (us := [.ref a]) (vs := [.ref a]) lk hcd sc_law room e0 (by rw [← ed]; exact bind s _) (.cons rfl .nil) rfl fun hr => ?_
  refine ⟨_, PSs.nox (pss_cons (ps_set (i := 1) sc_law.nd rfl (.inl rfl) (pe_call G_Lpot (hr.mono (by decide)) (by rfl) T.g_Lpot T.F_Lpot.kp T.b_Lpot .nil pass0 (pa_cons (pv 0) pa_nil)))
      (pss_cons (ps_for PassesOwn.never rfl (pi_range1 (by rfl) T.m_range (pa_cons pe_int pa_nil)) (pg_name (i := 2) sc_law.nd rfl (.inl rfl)) (pss_cons (ps_asg (pe_call G_Loffers (hr.mono (by decide)) (by rfl) T.g_Loffers T.F_Loffers.kp T.b_Loffers .nil pass0 (pa_cons (pv 1) pa_nil)) (pg_tup rfl (pgs_cons (pg_name (i := 3) sc_law.nd rfl (.inl rfl)) (pgs_cons (pg_name (i := 4) sc_law.nd rfl (.inl rfl)) pgs_nil))))
      (pss_one (ps_if (pt_not (pt_val (pe_call G_Lright hr (by rfl) T.g_Lright T.F_Lright.kp T.b_Lright .nil pass0 (pa_cons (pv 1) (pa_cons (pv 3) (pa_cons (pv 4) pa_nil)))))) (pss_one (ps_ret pe_bl)) pss_nil))))
      (pss_one (ps_ret pe_bl)))), ?_⟩
  refine ⟨_, rfl, a, ns, rfl, hS, fun b L H1 s1 nb nL P1 => ?_⟩
  refine ⟨_, rfl, (by decide), (by decide), ?_⟩
  refine for_range (lo := 0) (n := 2) (fun i σ H2 => ∃ y2 y3 y4 : Option V, σ = [some (.ref a), some (.ref b), y2, y3, y4] ∧ PotAt H2 b L (1000 * (i : Int)) ∧ Tb T.tbs H2) ⟨none, none, none, rfl, P1.le (by omega), tb0.same s1⟩ ?_ ?_
  · rintro i σ H2 hi ⟨y2, y3, y4, rfl, P2, tb2⟩
    refine ⟨_, rfl, b, L, _, rfl, P2, by omega, fun f D vs os n H3 P3 k3 hf hD d1 d2 oa n1 n40 lo B pz => ?_⟩
    have tb3 := tbs_but2 tb2 P2 k3
    refine ⟨f, _, rfl, SqT.of hf, rfl, _, _, rfl, _, _, rfl, rfl, ?_⟩
    refine ⟨_, rfl, _, rfl, _, rfl, b, L, _, n, D, vs, os, rfl, P3, by omega, hD, d1, d2, oa, B, n40, lo, pz, tb3, fun H4 P4 tb4 => ?_⟩
    exact ⟨_, rfl, iteF ⟨_, _, _, rfl, P4.le (by omega), tb4⟩⟩
  · rintro σ H2 ⟨y2, y3, y4, rfl, P2, tb2⟩
    exact rfl
end

end My
namespace My
open PySem L2
theorem all_mk {l : PySem.W.OpenLaw} {w : World} {K : PySem.W.Frag} {h : Heap} {mg : Str → Option Value} {fa f0 f1 f2 f3 f4 f5 f6 f7 f8 f9 f10 f11 f12 f13 f14 f15 f16 f17 f18 f19 f20 f21 f22 f23 f24 f25 f26 f27 f28 f29 f30 f31 f32 f33 f34 cc0 cc1 fm0 fm1 fm2 fm3 fm4 fm5 fm6 fm7 fm8 fm9 fm10 fm11 fm12 fm13 fm14 fm15 fm16 : Addr} {ts8 : List Addr} {cA PA : Addr} {eA : Value} {ddA : Option Addr} {vsA : Array Value} {sloA : Array (Option Value)} {cR PR : Addr} {eR : Value} {ddR : Option Addr} {vsR : Array Value} {sloR : Array (Option Value)} {cO PO : Addr} {eO : Value} {ddO : Option Addr} {vsO : Array Value} {sloO : Array (Option Value)} {cP PP : Addr} {eP : Value} {ddP : Option Addr} {vsP : Array Value} {sloP : Array (Option Value)} {cE PE : Addr} {eE : Value} {ddE : Option Addr} {vsE : Array Value} {sloE : Array (Option Value)} {cS PS : Addr} {eS : Value} {ddS : Option Addr} {vsS : Array Value} {sloS : Array (Option Value)} {cH PH : Addr} {eH : Value} {ddH : Option Addr} {vsH : Array Value} {sloH : Array (Option Value)} {cM PM : Addr} {eM : Value} {ddM : Option Addr} {vsM : Array Value} {sloM : Array (Option Value)} {cL PL : Addr} {eL : Value} {ddL : Option Addr} {vsL : Array Value} {sloL : Array (Option Value)} (X : K.In h) (G : h.Ns mainGlobals mg) (hfa : mg "law" = some (.ref fa))
    {od0 an0 od1 an1 od2 an2 od3 an3 od4 an4 od5 an5 od6 an6 od7 an7 od8 an8 od9 an9 od10 an10 od11 an11 od12 an12 od13 an13 od14 an14 od15 an15 od16 an16 od17 an17 od18 an18 od19 an19 od20 an20 od21 an21 od22 an22 od23 an23 od24 an24 od25 an25 od26 an26 od27 an27 od28 an28 od29 an29 od30 an30 od31 an31 od32 an32 od33 an33 od34 an34 : Option Addr} {sl0 sl1 sl2 sl3 sl4 sl5 sl6 sl7 sl8 sl9 sl10 sl11 sl12 sl13 sl14 sl15 sl16 sl17 sl18 sl19 sl20 sl21 sl22 sl23 sl24 sl25 sl26 sl27 sl28 sl29 sl30 sl31 sl32 sl33 sl34 : Array (Option Value)} {oc0 kV0 dc0 pm0 cd0 ct0 oc1 kV1 dc1 pm1 cd1 ct1 oc2 kV2 dc2 pm2 cd2 ct2 oc3 kV3 dc3 pm3 cd3 ct3 oc4 kV4 dc4 pm4 cd4 ct4 oc5 kV5 dc5 pm5 cd5 ct5 oc6 kV6 dc6 pm6 cd6 ct6 oc7 kV7 dc7 pm7 cd7 ct7 oc8 kV8 dc8 pm8 cd8 ct8 oc9 kV9 dc9 pm9 cd9 ct9 oc10 kV10 dc10 pm10 cd10 ct10 oc11 kV11 dc11 pm11 cd11 ct11 oc12 kV12 dc12 pm12 cd12 ct12 oc13 kV13 dc13 pm13 cd13 ct13 oc14 kV14 dc14 pm14 cd14 ct14 oc15 kV15 dc15 pm15 cd15 ct15 oc16 kV16 dc16 pm16 cd16 ct16 oc17 kV17 dc17 pm17 cd17 ct17 oc18 kV18 dc18 pm18 cd18 ct18 oc19 kV19 dc19 pm19 cd19 ct19 oc20 kV20 dc20 pm20 cd20 ct20 oc21 kV21 dc21 pm21 cd21 ct21 oc22 kV22 dc22 pm22 cd22 ct22 oc23 kV23 dc23 pm23 cd23 ct23 oc24 kV24 dc24 pm24 cd24 ct24 oc25 kV25 dc25 pm25 cd25 ct25 oc26 kV26 dc26 pm26 cd26 ct26 oc27 kV27 dc27 pm27 cd27 ct27 oc28 kV28 dc28 pm28 cd28 ct28 oc29 kV29 dc29 pm29 cd29 ct29 oc30 kV30 dc30 pm30 cd30 ct30 oc31 kV31 dc31 pm31 cd31 ct31 oc32 kV32 dc32 pm32 cd32 ct32 oc33 kV33 dc33 pm33 cd33 ct33 oc34 kV34 dc34 pm34 cd34 ct34 : Value}
    {odm0 anm0 odm1 anm1 odm2 anm2 odm3 anm3 odm4 anm4 odm5 anm5 odm6 anm6 odm7 anm7 odm8 anm8 odm9 anm9 odm10 anm10 odm11 anm11 odm12 anm12 odm13 anm13 odm14 anm14 odm15 anm15 odm16 anm16 : Option Addr} {slm0 slm1 slm2 slm3 slm4 slm5 slm6 slm7 slm8 slm9 slm10 slm11 slm12 slm13 slm14 slm15 slm16 : Array (Option Value)} {ocm0 kVm0 dcm0 pmm0 cdm0 ctm0 ocm1 kVm1 dcm1 pmm1 cdm1 ctm1 ocm2 kVm2 dcm2 pmm2 cdm2 ctm2 ocm3 kVm3 dcm3 pmm3 cdm3 ctm3 ocm4 kVm4 dcm4 pmm4 cdm4 ctm4 ocm5 kVm5 dcm5 pmm5 cdm5 ctm5 ocm6 kVm6 dcm6 pmm6 cdm6 ctm6 ocm7 kVm7 dcm7 pmm7 cdm7 ctm7 ocm8 kVm8 dcm8 pmm8 cdm8 ctm8 ocm9 kVm9 dcm9 pmm9 cdm9 ctm9 ocm10 kVm10 dcm10 pmm10 cdm10 ctm10 ocm11 kVm11 dcm11 pmm11 cdm11 ctm11 ocm12 kVm12 dcm12 pmm12 cdm12 ctm12 ocm13 kVm13 dcm13 pmm13 cdm13 ctm13 ocm14 kVm14 dcm14 pmm14 cdm14 ctm14 ocm15 kVm15 dcm15 pmm15 cdm15 ctm15 ocm16 kVm16 dcm16 pmm16 cdm16 ctm16 : Value}
    (aC0 : PySem.W.nsIn K mainGlobals "Lightest" = some (some (.ref cc0))) (pgC0 : PySem.W.plainGet K cc0 Str.empty = true) (hdC0 : PySem.W.hasDictIn K cc0 = true) (poC0 : PySem.W.plainOver K cc0 = true) (saC0 : PySem.W.findIn K (.ref cc0) "__setattr__" = some (some (.builtin "object.__setattr__"))) (mkC0 : PySem.W.makesIn K cc0 = true) (kcC0 : PySem.W.keepIn K (.ref cc0) = true)
    (nC0_many : PySem.W.findIn K (.ref cc0) "many" = some none)
    (nC0_offers : PySem.W.findIn K (.ref cc0) "offers" = some none)
    (nC0_by_tie : PySem.W.findIn K (.ref cc0) "by_tie" = some none)
    (aC1 : PySem.W.nsIn K mainGlobals "Holding" = some (some (.ref cc1))) (pgC1 : PySem.W.plainGet K cc1 Str.empty = true) (hdC1 : PySem.W.hasDictIn K cc1 = true) (poC1 : PySem.W.plainOver K cc1 = true) (saC1 : PySem.W.findIn K (.ref cc1) "__setattr__" = some (some (.builtin "object.__setattr__"))) (mkC1 : PySem.W.makesIn K cc1 = true) (kcC1 : PySem.W.keepIn K (.ref cc1) = true)
    (nC1_many : PySem.W.findIn K (.ref cc1) "many" = some none)
    (nC1_offers : PySem.W.findIn K (.ref cc1) "offers" = some none)
    (am0 : PySem.W.findIn K (.ref cc1) "__init__" = some (some (.ref fm0))) (im0 : PySem.W.isFn K (.ref fm0) = true) (lm0 : K.lookup fm0 = some ⟨ocm0, odm0, .func (PySem.W.fnOf "__init__" "Holding.__init__" (defArgs s_Holdinginit) (defBody s_Holdinginit) (defScope s_Holdinginit) .none kVm0 dcm0 pmm0 anm0 cdm0 ctm0), slm0⟩) (cm0 : PySem.W.codeIn K cdm0 "Holding.__init__" = true) (km0 : PySem.W.keepIn K (.ref fm0) = true)
    (am1 : PySem.W.findIn K (.ref cc1) "offer" = some (some (.ref fm1))) (im1 : PySem.W.isFn K (.ref fm1) = true) (lm1 : K.lookup fm1 = some ⟨ocm1, odm1, .func (PySem.W.fnOf "offer" "Holding.offer" (defArgs s_Holdingoffer) (defBody s_Holdingoffer) (defScope s_Holdingoffer) .none kVm1 dcm1 pmm1 anm1 cdm1 ctm1), slm1⟩) (cm1 : PySem.W.codeIn K cdm1 "Holding.offer" = true) (km1 : PySem.W.keepIn K (.ref fm1) = true)
    (am2 : PySem.W.findIn K (.ref cc1) "holds" = some (some (.ref fm2))) (im2 : PySem.W.isFn K (.ref fm2) = true) (lm2 : K.lookup fm2 = some ⟨ocm2, odm2, .func (PySem.W.fnOf "holds" "Holding.holds" (defArgs s_Holdingholds) (defBody s_Holdingholds) (defScope s_Holdingholds) .none kVm2 dcm2 pmm2 anm2 cdm2 ctm2), slm2⟩) (cm2 : PySem.W.codeIn K cdm2 "Holding.holds" = true) (km2 : PySem.W.keepIn K (.ref fm2) = true)
    (am3 : PySem.W.findIn K (.ref cc1) "holding" = some (some (.ref fm3))) (im3 : PySem.W.isFn K (.ref fm3) = true) (lm3 : K.lookup fm3 = some ⟨ocm3, odm3, .func (PySem.W.fnOf "holding" "Holding.holding" (defArgs s_Holdingholding) (defBody s_Holdingholding) (defScope s_Holdingholding) .none kVm3 dcm3 pmm3 anm3 cdm3 ctm3), slm3⟩) (cm3 : PySem.W.codeIn K cdm3 "Holding.holding" = true) (km3 : PySem.W.keepIn K (.ref fm3) = true)
    (am4 : PySem.W.findIn K (.ref cc1) "paper" = some (some (.ref fm4))) (im4 : PySem.W.isFn K (.ref fm4) = true) (lm4 : K.lookup fm4 = some ⟨ocm4, odm4, .func (PySem.W.fnOf "paper" "Holding.paper" (defArgs s_Holdingpaper) (defBody s_Holdingpaper) (defScope s_Holdingpaper) .none kVm4 dcm4 pmm4 anm4 cdm4 ctm4), slm4⟩) (cm4 : PySem.W.codeIn K cdm4 "Holding.paper" = true) (km4 : PySem.W.keepIn K (.ref fm4) = true)
    (am5 : PySem.W.findIn K (.ref cc1) "entry" = some (some (.ref fm5))) (im5 : PySem.W.isFn K (.ref fm5) = true) (lm5 : K.lookup fm5 = some ⟨ocm5, odm5, .func (PySem.W.fnOf "entry" "Holding.entry" (defArgs s_Holdingentry) (defBody s_Holdingentry) (defScope s_Holdingentry) .none kVm5 dcm5 pmm5 anm5 cdm5 ctm5), slm5⟩) (cm5 : PySem.W.codeIn K cdm5 "Holding.entry" = true) (km5 : PySem.W.keepIn K (.ref fm5) = true)
    (am6 : PySem.W.findIn K (.ref cc1) "way_round" = some (some (.ref fm6))) (im6 : PySem.W.isFn K (.ref fm6) = true) (lm6 : K.lookup fm6 = some ⟨ocm6, odm6, .func (PySem.W.fnOf "way_round" "Holding.way_round" (defArgs s_Holdingwayround) (defBody s_Holdingwayround) (defScope s_Holdingwayround) .none kVm6 dcm6 pmm6 anm6 cdm6 ctm6), slm6⟩) (cm6 : PySem.W.codeIn K cdm6 "Holding.way_round" = true) (km6 : PySem.W.keepIn K (.ref fm6) = true)
    (am7 : PySem.W.findIn K (.ref cc1) "others" = some (some (.ref fm7))) (im7 : PySem.W.isFn K (.ref fm7) = true) (lm7 : K.lookup fm7 = some ⟨ocm7, odm7, .func (PySem.W.fnOf "others" "Holding.others" (defArgs s_Holdingothers) (defBody s_Holdingothers) (defScope s_Holdingothers) .none kVm7 dcm7 pmm7 anm7 cdm7 ctm7), slm7⟩) (cm7 : PySem.W.codeIn K cdm7 "Holding.others" = true) (km7 : PySem.W.keepIn K (.ref fm7) = true)
    (am8 : PySem.W.findIn K (.ref cc0) "__init__" = some (some (.ref fm8))) (im8 : PySem.W.isFn K (.ref fm8) = true) (lm8 : K.lookup fm8 = some ⟨ocm8, odm8, .func (PySem.W.fnOf "__init__" "Lightest.__init__" (defArgs s_Lightestinit) (defBody s_Lightestinit) (defScope s_Lightestinit) .none kVm8 dcm8 pmm8 anm8 cdm8 ctm8), slm8⟩) (cm8 : PySem.W.codeIn K cdm8 "Lightest.__init__" = true) (km8 : PySem.W.keepIn K (.ref fm8) = true)
    (am9 : PySem.W.findIn K (.ref cc0) "offer" = some (some (.ref fm9))) (im9 : PySem.W.isFn K (.ref fm9) = true) (lm9 : K.lookup fm9 = some ⟨ocm9, odm9, .func (PySem.W.fnOf "offer" "Lightest.offer" (defArgs s_Lightestoffer) (defBody s_Lightestoffer) (defScope s_Lightestoffer) .none kVm9 dcm9 pmm9 anm9 cdm9 ctm9), slm9⟩) (cm9 : PySem.W.codeIn K cdm9 "Lightest.offer" = true) (km9 : PySem.W.keepIn K (.ref fm9) = true)
    (am10 : PySem.W.findIn K (.ref cc0) "tie" = some (some (.ref fm10))) (im10 : PySem.W.isFn K (.ref fm10) = true) (lm10 : K.lookup fm10 = some ⟨ocm10, odm10, .func (PySem.W.fnOf "tie" "Lightest.tie" (defArgs s_Lightesttie) (defBody s_Lightesttie) (defScope s_Lightesttie) .none kVm10 dcm10 pmm10 anm10 cdm10 ctm10), slm10⟩) (cm10 : PySem.W.codeIn K cdm10 "Lightest.tie" = true) (km10 : PySem.W.keepIn K (.ref fm10) = true)
    (am11 : PySem.W.findIn K (.ref cc0) "keep" = some (some (.ref fm11))) (im11 : PySem.W.isFn K (.ref fm11) = true) (lm11 : K.lookup fm11 = some ⟨ocm11, odm11, .func (PySem.W.fnOf "keep" "Lightest.keep" (defArgs s_Lightestkeep) (defBody s_Lightestkeep) (defScope s_Lightestkeep) .none kVm11 dcm11 pmm11 anm11 cdm11 ctm11), slm11⟩) (cm11 : PySem.W.codeIn K cdm11 "Lightest.keep" = true) (km11 : PySem.W.keepIn K (.ref fm11) = true)
    (am12 : PySem.W.findIn K (.ref cc0) "kept" = some (some (.ref fm12))) (im12 : PySem.W.isFn K (.ref fm12) = true) (lm12 : K.lookup fm12 = some ⟨ocm12, odm12, .func (PySem.W.fnOf "kept" "Lightest.kept" (defArgs s_Lightestkept) (defBody s_Lightestkept) (defScope s_Lightestkept) .none kVm12 dcm12 pmm12 anm12 cdm12 ctm12), slm12⟩) (cm12 : PySem.W.codeIn K cdm12 "Lightest.kept" = true) (km12 : PySem.W.keepIn K (.ref fm12) = true)
    (am13 : PySem.W.findIn K (.ref cc0) "price" = some (some (.ref fm13))) (im13 : PySem.W.isFn K (.ref fm13) = true) (lm13 : K.lookup fm13 = some ⟨ocm13, odm13, .func (PySem.W.fnOf "price" "Lightest.price" (defArgs s_Lightestprice) (defBody s_Lightestprice) (defScope s_Lightestprice) .none kVm13 dcm13 pmm13 anm13 cdm13 ctm13), slm13⟩) (cm13 : PySem.W.codeIn K cdm13 "Lightest.price" = true) (km13 : PySem.W.keepIn K (.ref fm13) = true)
    (am14 : PySem.W.findIn K (.ref cc0) "slacks" = some (some (.ref fm14))) (im14 : PySem.W.isFn K (.ref fm14) = true) (lm14 : K.lookup fm14 = some ⟨ocm14, odm14, .func (PySem.W.fnOf "slacks" "Lightest.slacks" (defArgs s_Lightestslacks) (defBody s_Lightestslacks) (defScope s_Lightestslacks) .none kVm14 dcm14 pmm14 anm14 cdm14 ctm14), slm14⟩) (cm14 : PySem.W.codeIn K cdm14 "Lightest.slacks" = true) (km14 : PySem.W.keepIn K (.ref fm14) = true)
    (am15 : PySem.W.findIn K (.ref cc0) "paper" = some (some (.ref fm15))) (im15 : PySem.W.isFn K (.ref fm15) = true) (lm15 : K.lookup fm15 = some ⟨ocm15, odm15, .func (PySem.W.fnOf "paper" "Lightest.paper" (defArgs s_Lightestpaper) (defBody s_Lightestpaper) (defScope s_Lightestpaper) .none kVm15 dcm15 pmm15 anm15 cdm15 ctm15), slm15⟩) (cm15 : PySem.W.codeIn K cdm15 "Lightest.paper" = true) (km15 : PySem.W.keepIn K (.ref fm15) = true)
    (am16 : PySem.W.findIn K (.ref cc0) "way_of_offer" = some (some (.ref fm16))) (im16 : PySem.W.isFn K (.ref fm16) = true) (lm16 : K.lookup fm16 = some ⟨ocm16, odm16, .func (PySem.W.fnOf "way_of_offer" "Lightest.way_of_offer" (defArgs s_Lightestwayofoffer) (defBody s_Lightestwayofoffer) (defScope s_Lightestwayofoffer) .none kVm16 dcm16 pmm16 anm16 cdm16 ctm16), slm16⟩) (cm16 : PySem.W.codeIn K cdm16 "Lightest.way_of_offer" = true) (km16 : PySem.W.keepIn K (.ref fm16) = true)
    (a0 : PySem.W.nsIn K mainGlobals "is_whole" = some (some (.ref f0))) (l0 : K.lookup f0 = some ⟨oc0, od0, .func (PySem.W.fnOf "is_whole" "is_whole" (defArgs s_iswhole) (defBody s_iswhole) (defScope s_iswhole) .none kV0 dc0 pm0 an0 cd0 ct0), sl0⟩) (c0 : PySem.W.codeIn K cd0 "is_whole" = true) (k0 : PySem.W.keepIn K (.ref f0) = true)
    (a1 : PySem.W.nsIn K mainGlobals "are_wholes" = some (some (.ref f1))) (l1 : K.lookup f1 = some ⟨oc1, od1, .func (PySem.W.fnOf "are_wholes" "are_wholes" (defArgs s_arewholes) (defBody s_arewholes) (defScope s_arewholes) .none kV1 dc1 pm1 an1 cd1 ct1), sl1⟩) (c1 : PySem.W.codeIn K cd1 "are_wholes" = true) (k1 : PySem.W.keepIn K (.ref f1) = true)
    (a2 : PySem.W.nsIn K mainGlobals "is_rising" = some (some (.ref f2))) (l2 : K.lookup f2 = some ⟨oc2, od2, .func (PySem.W.fnOf "is_rising" "is_rising" (defArgs s_isrising) (defBody s_isrising) (defScope s_isrising) .none kV2 dc2 pm2 an2 cd2 ct2), sl2⟩) (c2 : PySem.W.codeIn K cd2 "is_rising" = true) (k2 : PySem.W.keepIn K (.ref f2) = true)
    (a3 : PySem.W.nsIn K mainGlobals "has_ring" = some (some (.ref f3))) (l3 : K.lookup f3 = some ⟨oc3, od3, .func (PySem.W.fnOf "has_ring" "has_ring" (defArgs s_hasring) (defBody s_hasring) (defScope s_hasring) .none kV3 dc3 pm3 an3 cd3 ct3), sl3⟩) (c3 : PySem.W.codeIn K cd3 "has_ring" = true) (k3 : PySem.W.keepIn K (.ref f3) = true)
    (a4 : PySem.W.nsIn K mainGlobals "top_of" = some (some (.ref f4))) (l4 : K.lookup f4 = some ⟨oc4, od4, .func (PySem.W.fnOf "top_of" "top_of" (defArgs s_topof) (defBody s_topof) (defScope s_topof) .none kV4 dc4 pm4 an4 cd4 ct4), sl4⟩) (c4 : PySem.W.codeIn K cd4 "top_of" = true) (k4 : PySem.W.keepIn K (.ref f4) = true)
    (a5 : PySem.W.nsIn K mainGlobals "tie_of" = some (some (.ref f5))) (l5 : K.lookup f5 = some ⟨oc5, od5, .func (PySem.W.fnOf "tie_of" "tie_of" (defArgs s_tieof) (defBody s_tieof) (defScope s_tieof) .none kV5 dc5 pm5 an5 cd5 ct5), sl5⟩) (c5 : PySem.W.codeIn K cd5 "tie_of" = true) (k5 : PySem.W.keepIn K (.ref f5) = true)
    (a6 : PySem.W.nsIn K mainGlobals "refuse_missing" = some (some (.ref f6))) (l6 : K.lookup f6 = some ⟨oc6, od6, .func (PySem.W.fnOf "refuse_missing" "refuse_missing" (defArgs s_refusemissing) (defBody s_refusemissing) (defScope s_refusemissing) .none kV6 dc6 pm6 an6 cd6 ct6), sl6⟩) (c6 : PySem.W.codeIn K cd6 "refuse_missing" = true) (k6 : PySem.W.keepIn K (.ref f6) = true)
    (a7 : PySem.W.nsIn K mainGlobals "way_of" = some (some (.ref f7))) (l7 : K.lookup f7 = some ⟨oc7, od7, .func (PySem.W.fnOf "way_of" "way_of" (defArgs s_wayof) (defBody s_wayof) (defScope s_wayof) .none kV7 dc7 pm7 an7 cd7 ct7), sl7⟩) (c7 : PySem.W.codeIn K cd7 "way_of" = true) (k7 : PySem.W.keepIn K (.ref f7) = true)
    (a8 : PySem.W.nsIn K mainGlobals "part_of" = some (some (.ref f8))) (l8 : K.lookup f8 = some ⟨oc8, od8, .func (PySem.W.fnOf "part_of" "part_of" (defArgs s_partof) (defBody s_partof) (defScope s_partof) .none kV8 dc8 pm8 an8 cd8 ct8), sl8⟩) (c8 : PySem.W.codeIn K cd8 "part_of" = true) (k8 : PySem.W.keepIn K (.ref f8) = true)
    (a9 : PySem.W.nsIn K mainGlobals "steps_toward" = some (some (.ref f9))) (l9 : K.lookup f9 = some ⟨oc9, od9, .func (PySem.W.fnOf "steps_toward" "steps_toward" (defArgs s_stepstoward) (defBody s_stepstoward) (defScope s_stepstoward) .none kV9 dc9 pm9 an9 cd9 ct9), sl9⟩) (c9 : PySem.W.codeIn K cd9 "steps_toward" = true) (k9 : PySem.W.keepIn K (.ref f9) = true)
    (a10 : PySem.W.nsIn K mainGlobals "neighbours" = some (some (.ref f10))) (l10 : K.lookup f10 = some ⟨oc10, od10, .func (PySem.W.fnOf "neighbours" "neighbours" (defArgs s_neighbours) (defBody s_neighbours) (defScope s_neighbours) .none kV10 dc10 pm10 an10 cd10 ct10), sl10⟩) (c10 : PySem.W.codeIn K cd10 "neighbours" = true) (k10 : PySem.W.keepIn K (.ref f10) = true)
    (a11 : PySem.W.nsIn K mainGlobals "refuse_ends" = some (some (.ref f11))) (l11 : K.lookup f11 = some ⟨oc11, od11, .func (PySem.W.fnOf "refuse_ends" "refuse_ends" (defArgs s_refuseends) (defBody s_refuseends) (defScope s_refuseends) .none kV11 dc11 pm11 an11 cd11 ct11), sl11⟩) (c11 : PySem.W.codeIn K cd11 "refuse_ends" = true) (k11 : PySem.W.keepIn K (.ref f11) = true)
    (a12 : PySem.W.nsIn K mainGlobals "as_forest" = some (some (.ref f12))) (l12 : K.lookup f12 = some ⟨oc12, od12, .func (PySem.W.fnOf "as_forest" "as_forest" (defArgs s_asforest) (defBody s_asforest) (defScope s_asforest) .none kV12 dc12 pm12 an12 cd12 ct12), sl12⟩) (c12 : PySem.W.codeIn K cd12 "as_forest" = true) (k12 : PySem.W.keepIn K (.ref f12) = true)
    (a13 : PySem.W.nsIn K mainGlobals "offers_along" = some (some (.ref f13))) (l13 : K.lookup f13 = some ⟨oc13, od13, .func (PySem.W.fnOf "offers_along" "offers_along" (defArgs s_offersalong) (defBody s_offersalong) (defScope s_offersalong) .none kV13 dc13 pm13 an13 cd13 ct13), sl13⟩) (c13 : PySem.W.codeIn K cd13 "offers_along" = true) (k13 : PySem.W.keepIn K (.ref f13) = true)
    (a14 : PySem.W.nsIn K mainGlobals "are_offers" = some (some (.ref f14))) (l14 : K.lookup f14 = some ⟨oc14, od14, .func (PySem.W.fnOf "are_offers" "are_offers" (defArgs s_areoffers) (defBody s_areoffers) (defScope s_areoffers) .none kV14 dc14 pm14 an14 cd14 ct14), sl14⟩) (c14 : PySem.W.codeIn K cd14 "are_offers" = true) (k14 : PySem.W.keepIn K (.ref f14) = true)
    (a15 : PySem.W.nsIn K mainGlobals "leads_on" = some (some (.ref f15))) (l15 : K.lookup f15 = some ⟨oc15, od15, .func (PySem.W.fnOf "leads_on" "leads_on" (defArgs s_leadson) (defBody s_leadson) (defScope s_leadson) .none kV15 dc15 pm15 an15 cd15 ct15), sl15⟩) (c15 : PySem.W.codeIn K cd15 "leads_on" = true) (k15 : PySem.W.keepIn K (.ref f15) = true)
    (a16 : PySem.W.nsIn K mainGlobals "is_worded" = some (some (.ref f16))) (l16 : K.lookup f16 = some ⟨oc16, od16, .func (PySem.W.fnOf "is_worded" "is_worded" (defArgs s_isworded) (defBody s_isworded) (defScope s_isworded) .none kV16 dc16 pm16 an16 cd16 ct16), sl16⟩) (c16 : PySem.W.codeIn K cd16 "is_worded" = true) (k16 : PySem.W.keepIn K (.ref f16) = true)
    (a17 : PySem.W.nsIn K mainGlobals "sets_apart" = some (some (.ref f17))) (l17 : K.lookup f17 = some ⟨oc17, od17, .func (PySem.W.fnOf "sets_apart" "sets_apart" (defArgs s_setsapart) (defBody s_setsapart) (defScope s_setsapart) .none kV17 dc17 pm17 an17 cd17 ct17), sl17⟩) (c17 : PySem.W.codeIn K cd17 "sets_apart" = true) (k17 : PySem.W.keepIn K (.ref f17) = true)
    (a18 : PySem.W.nsIn K mainGlobals "shows_holding" = some (some (.ref f18))) (l18 : K.lookup f18 = some ⟨oc18, od18, .func (PySem.W.fnOf "shows_holding" "shows_holding" (defArgs s_showsholding) (defBody s_showsholding) (defScope s_showsholding) .none kV18 dc18 pm18 an18 cd18 ct18), sl18⟩) (c18 : PySem.W.codeIn K cd18 "shows_holding" = true) (k18 : PySem.W.keepIn K (.ref f18) = true)
    (a19 : PySem.W.nsIn K mainGlobals "is_hold_entry" = some (some (.ref f19))) (l19 : K.lookup f19 = some ⟨oc19, od19, .func (PySem.W.fnOf "is_hold_entry" "is_hold_entry" (defArgs s_isholdentry) (defBody s_isholdentry) (defScope s_isholdentry) .none kV19 dc19 pm19 an19 cd19 ct19), sl19⟩) (c19 : PySem.W.codeIn K cd19 "is_hold_entry" = true) (k19 : PySem.W.keepIn K (.ref f19) = true)
    (a20 : PySem.W.nsIn K mainGlobals "is_way_round" = some (some (.ref f20))) (l20 : K.lookup f20 = some ⟨oc20, od20, .func (PySem.W.fnOf "is_way_round" "is_way_round" (defArgs s_iswayround) (defBody s_iswayround) (defScope s_iswayround) .none kV20 dc20 pm20 an20 cd20 ct20), sl20⟩) (c20 : PySem.W.codeIn K cd20 "is_way_round" = true) (k20 : PySem.W.keepIn K (.ref f20) = true)
    (a21 : PySem.W.nsIn K mainGlobals "shows_lightest" = some (some (.ref f21))) (l21 : K.lookup f21 = some ⟨oc21, od21, .func (PySem.W.fnOf "shows_lightest" "shows_lightest" (defArgs s_showslightest) (defBody s_showslightest) (defScope s_showslightest) .none kV21 dc21 pm21 an21 cd21 ct21), sl21⟩) (c21 : PySem.W.codeIn K cd21 "shows_lightest" = true) (k21 : PySem.W.keepIn K (.ref f21) = true)
    (a22 : PySem.W.nsIn K mainGlobals "are_kept" = some (some (.ref f22))) (l22 : K.lookup f22 = some ⟨oc22, od22, .func (PySem.W.fnOf "are_kept" "are_kept" (defArgs s_arekept) (defBody s_arekept) (defScope s_arekept) .none kV22 dc22 pm22 an22 cd22 ct22), sl22⟩) (c22 : PySem.W.codeIn K cd22 "are_kept" = true) (k22 : PySem.W.keepIn K (.ref f22) = true)
    (a23 : PySem.W.nsIn K mainGlobals "is_light_paper" = some (some (.ref f23))) (l23 : K.lookup f23 = some ⟨oc23, od23, .func (PySem.W.fnOf "is_light_paper" "is_light_paper" (defArgs s_islightpaper) (defBody s_islightpaper) (defScope s_islightpaper) .none kV23 dc23 pm23 an23 cd23 ct23), sl23⟩) (c23 : PySem.W.codeIn K cd23 "is_light_paper" = true) (k23 : PySem.W.keepIn K (.ref f23) = true)
    (a24 : PySem.W.nsIn K mainGlobals "is_light_entry" = some (some (.ref f24))) (l24 : K.lookup f24 = some ⟨oc24, od24, .func (PySem.W.fnOf "is_light_entry" "is_light_entry" (defArgs s_islightentry) (defBody s_islightentry) (defScope s_islightentry) .none kV24 dc24 pm24 an24 cd24 ct24), sl24⟩) (c24 : PySem.W.codeIn K cd24 "is_light_entry" = true) (k24 : PySem.W.keepIn K (.ref f24) = true)
    (a25 : PySem.W.nsIn K mainGlobals "_law_mixed" = some (some (.ref f25))) (l25 : K.lookup f25 = some ⟨oc25, od25, .func (PySem.W.fnOf "_law_mixed" "_law_mixed" (defArgs s_Lmixed) (defBody s_Lmixed) (defScope s_Lmixed) .none kV25 dc25 pm25 an25 cd25 ct25), sl25⟩) (c25 : PySem.W.codeIn K cd25 "_law_mixed" = true) (k25 : PySem.W.keepIn K (.ref f25) = true)
    (a26 : PySem.W.nsIn K mainGlobals "_law_pot" = some (some (.ref f26))) (l26 : K.lookup f26 = some ⟨oc26, od26, .func (PySem.W.fnOf "_law_pot" "_law_pot" (defArgs s_Lpot) (defBody s_Lpot) (defScope s_Lpot) .none kV26 dc26 pm26 an26 cd26 ct26), sl26⟩) (c26 : PySem.W.codeIn K cd26 "_law_pot" = true) (k26 : PySem.W.keepIn K (.ref f26) = true)
    (a27 : PySem.W.nsIn K mainGlobals "_law_take" = some (some (.ref f27))) (l27 : K.lookup f27 = some ⟨oc27, od27, .func (PySem.W.fnOf "_law_take" "_law_take" (defArgs s_Ltake) (defBody s_Ltake) (defScope s_Ltake) .none kV27 dc27 pm27 an27 cd27 ct27), sl27⟩) (c27 : PySem.W.codeIn K cd27 "_law_take" = true) (k27 : PySem.W.keepIn K (.ref f27) = true)
    (a28 : PySem.W.nsIn K mainGlobals "_law_offers" = some (some (.ref f28))) (l28 : K.lookup f28 = some ⟨oc28, od28, .func (PySem.W.fnOf "_law_offers" "_law_offers" (defArgs s_Loffers) (defBody s_Loffers) (defScope s_Loffers) .none kV28 dc28 pm28 an28 cd28 ct28), sl28⟩) (c28 : PySem.W.codeIn K cd28 "_law_offers" = true) (k28 : PySem.W.keepIn K (.ref f28) = true)
    (a29 : PySem.W.nsIn K mainGlobals "_law_light" = some (some (.ref f29))) (l29 : K.lookup f29 = some ⟨oc29, od29, .func (PySem.W.fnOf "_law_light" "_law_light" (defArgs s_Llight) (defBody s_Llight) (defScope s_Llight) .none kV29 dc29 pm29 an29 cd29 ct29), sl29⟩) (c29 : PySem.W.codeIn K cd29 "_law_light" = true) (k29 : PySem.W.keepIn K (.ref f29) = true)
    (a30 : PySem.W.nsIn K mainGlobals "_law_shuffled" = some (some (.ref f30))) (l30 : K.lookup f30 = some ⟨oc30, od30, .func (PySem.W.fnOf "_law_shuffled" "_law_shuffled" (defArgs s_Lshuffled) (defBody s_Lshuffled) (defScope s_Lshuffled) .none kV30 dc30 pm30 an30 cd30 ct30), sl30⟩) (c30 : PySem.W.codeIn K cd30 "_law_shuffled" = true) (k30 : PySem.W.keepIn K (.ref f30) = true)
    (a31 : PySem.W.nsIn K mainGlobals "_law_firsts" = some (some (.ref f31))) (l31 : K.lookup f31 = some ⟨oc31, od31, .func (PySem.W.fnOf "_law_firsts" "_law_firsts" (defArgs s_Lfirsts) (defBody s_Lfirsts) (defScope s_Lfirsts) .none kV31 dc31 pm31 an31 cd31 ct31), sl31⟩) (c31 : PySem.W.codeIn K cd31 "_law_firsts" = true) (k31 : PySem.W.keepIn K (.ref f31) = true)
    (a32 : PySem.W.nsIn K mainGlobals "_law_held" = some (some (.ref f32))) (l32 : K.lookup f32 = some ⟨oc32, od32, .func (PySem.W.fnOf "_law_held" "_law_held" (defArgs s_Lheld) (defBody s_Lheld) (defScope s_Lheld) .none kV32 dc32 pm32 an32 cd32 ct32), sl32⟩) (c32 : PySem.W.codeIn K cd32 "_law_held" = true) (k32 : PySem.W.keepIn K (.ref f32) = true)
    (a33 : PySem.W.nsIn K mainGlobals "_law_right" = some (some (.ref f33))) (l33 : K.lookup f33 = some ⟨oc33, od33, .func (PySem.W.fnOf "_law_right" "_law_right" (defArgs s_Lright) (defBody s_Lright) (defScope s_Lright) .none kV33 dc33 pm33 an33 cd33 ct33), sl33⟩) (c33 : PySem.W.codeIn K cd33 "_law_right" = true) (k33 : PySem.W.keepIn K (.ref f33) = true)
    (a34 : PySem.W.nsIn K mainGlobals "law" = some (some (.ref f34))) (l34 : K.lookup f34 = some ⟨oc34, od34, .func (PySem.W.fnOf "law" "law" (defArgs s_law) (defBody s_law) (defScope s_law) .none kV34 dc34 pm34 an34 cd34 ct34), sl34⟩) (c34 : PySem.W.codeIn K cd34 "law" = true) (k34 : PySem.W.keepIn K (.ref f34) = true)
    (z0 : PySem.W.nsIn K mainGlobals "abs" = some none)
    (z1 : PySem.W.nsIn K mainGlobals "all" = some none)
    (z2 : PySem.W.nsIn K mainGlobals "bool" = some none)
    (z3 : PySem.W.nsIn K mainGlobals "enumerate" = some none)
    (z4 : PySem.W.nsIn K mainGlobals "int" = some none)
    (z5 : PySem.W.nsIn K mainGlobals "isinstance" = some none)
    (z6 : PySem.W.nsIn K mainGlobals "len" = some none)
    (z7 : PySem.W.nsIn K mainGlobals "list" = some none)
    (z8 : PySem.W.nsIn K mainGlobals "max" = some none)
    (z9 : PySem.W.nsIn K mainGlobals "min" = some none)
    (z10 : PySem.W.nsIn K mainGlobals "range" = some none)
    (z11 : PySem.W.nsIn K mainGlobals "set" = some none)
    (z12 : PySem.W.nsIn K mainGlobals "sorted" = some none)
    (z13 : PySem.W.nsIn K mainGlobals "str" = some none)
    (z14 : PySem.W.nsIn K mainGlobals "sum" = some none)
    (z15 : PySem.W.nsIn K mainGlobals "tuple" = some none)
    (z16 : PySem.W.nsIn K mainGlobals "zip" = some none)
    (hcA : cd1 = .ref cA)
    (lcA : K.lookup cA = some ⟨eA, ddA, .fields vsA, sloA⟩)
    (v11A : vsA[11]? = some (.ref PA))
    (nPA : K.lookup PA = none)
    (hdA : PySem.W.codeHdIn K cA PA = true)
    (hcR : cd2 = .ref cR)
    (lcR : K.lookup cR = some ⟨eR, ddR, .fields vsR, sloR⟩)
    (v11R : vsR[11]? = some (.ref PR))
    (nPR : K.lookup PR = none)
    (hdR : PySem.W.codeHdIn K cR PR = true)
    (hcO : cd14 = .ref cO)
    (lcO : K.lookup cO = some ⟨eO, ddO, .fields vsO, sloO⟩)
    (v11O : vsO[11]? = some (.ref PO))
    (nPO : K.lookup PO = none)
    (hdO : PySem.W.codeHdIn K cO PO = true)
    (hcP : cd23 = .ref cP)
    (lcP : K.lookup cP = some ⟨eP, ddP, .fields vsP, sloP⟩)
    (v11P : vsP[11]? = some (.ref PP))
    (nPP : K.lookup PP = none)
    (hdP : PySem.W.codeHdIn K cP PP = true)
    (hcE : cd24 = .ref cE)
    (lcE : K.lookup cE = some ⟨eE, ddE, .fields vsE, sloE⟩)
    (v11E : vsE[11]? = some (.ref PE))
    (nPE : K.lookup PE = none)
    (hdE : PySem.W.codeHdIn K cE PE = true)
    (hcS : cd17 = .ref cS)
    (lcS : K.lookup cS = some ⟨eS, ddS, .fields vsS, sloS⟩)
    (v11S : vsS[11]? = some (.ref PS))
    (nPS : K.lookup PS = none)
    (hdS : PySem.W.codeHdIn K cS PS = true)
    (hcH : cd18 = .ref cH)
    (lcH : K.lookup cH = some ⟨eH, ddH, .fields vsH, sloH⟩)
    (v11H : vsH[11]? = some (.ref PH))
    (nPH : K.lookup PH = none)
    (hdH : PySem.W.codeHdIn K cH PH = true)
    (hcM : cd6 = .ref cM)
    (lcM : K.lookup cM = some ⟨eM, ddM, .fields vsM, sloM⟩)
    (v11M : vsM[11]? = some (.ref PM))
    (nPM : K.lookup PM = none)
    (hdM : PySem.W.codeHdIn K cM PM = true)
    (hcL : cdm9 = .ref cL)
    (lcL : K.lookup cL = some ⟨eL, ddL, .fields vsL, sloL⟩)
    (v11L : vsL[11]? = some (.ref PL))
    (nPL : K.lookup PL = none)
    (hdL : PySem.W.codeHdIn K cL PL = true)
    (mtL : PL ∈ ts8)
    (hneP : ([PA, PR, PO, PP, PE, PS, PH, PM, PL] : List Addr).Nodup)
    (tsf : ∀ P ∈ ts8, h.get? P = some (PySem.W.tabObj #[])) (tabs : ∀ nm ∈ (["are_wholes", "is_rising", "are_offers", "is_light_paper", "is_light_entry", "sets_apart", "shows_holding", "refuse_missing"] : List Str), TabAt mg h nm) : ∃ cs : List (Addr × Addr), (∀ p ∈ cs, h.get? p.2 = some { cls := .none, data := .fields #[] }) ∧ (∀ p ∈ cs, K.lookup p.2 = none) ∧ (∀ p ∈ cs, PySem.W.CodeHd h p.1 p.2) ∧
      ∀ (s : Shared) (H : Hp) (base : Heap) (a : Addr) (ns : List Int), ns.length ≤ 63 → (∀ z ∈ ns, Builtin.Int.intBits z ≤ 1048576) → (∀ p ∈ cs, LamX.TabB base mg p.1 p.2) → Env0 l.prog w K mg base callerA [] s H → (∀ p ∈ cs, H p.2 = some (.tbl #[])) → SqL K H a (ns.map V.int) →
        codeAny (model l.prog w) callerA (.call (.ref fa) ⟨[.ref a], []⟩) (CR CX0 [] l.prog w H s (fun v _ => v = .bl true) E0) s := by
  have e := hfa.symm.trans (PySem.W.mg_of X G a34)
  cases e
  have F0 := fun_mk (st := s_iswhole) l0 c0 k0
  have b0 := F0.binds (ps := ["thing"]) fun _ _ _ _ _ _ us hl => match us, hl with | [_], _ => rfl
  have F1 := fun_mk (st := s_arewholes) l1 c1 k1
  have b1 := F1.binds (ps := ["thing"]) fun _ _ _ _ _ _ us hl => match us, hl with | [_], _ => rfl
  have F2 := fun_mk (st := s_isrising) l2 c2 k2
  have b2 := F2.binds (ps := ["row"]) fun _ _ _ _ _ _ us hl => match us, hl with | [_], _ => rfl
  have F3 := fun_mk (st := s_hasring) l3 c3 k3
  have b3 := F3.binds (ps := ["ties", "many"]) fun _ _ _ _ _ _ us hl => match us, hl with | [_, _], _ => rfl
  have F4 := fun_mk (st := s_topof) l4 c4 k4
  have b4 := F4.binds (ps := ["above", "point"]) fun _ _ _ _ _ _ us hl => match us, hl with | [_, _], _ => rfl
  have F5 := fun_mk (st := s_tieof) l5 c5 k5
  have b5 := F5.binds (ps := ["a", "b"]) fun _ _ _ _ _ _ us hl => match us, hl with | [_, _], _ => rfl
  have F6 := fun_mk (st := s_refusemissing) l6 c6 k6
  have b6 := F6.binds (ps := ["numbers", "many"]) fun _ _ _ _ _ _ us hl => match us, hl with | [_, _], _ => rfl
  have F7 := fun_mk (st := s_wayof) l7 c7 k7
  have b7 := F7.binds (ps := ["forest", "a", "b"]) fun _ _ _ _ _ _ us hl => match us, hl with | [_, _, _], _ => rfl
  have F8 := fun_mk (st := s_partof) l8 c8 k8
  have b8 := F8.binds (ps := ["forest", "a"]) fun _ _ _ _ _ _ us hl => match us, hl with | [_, _], _ => rfl
  have F9 := fun_mk (st := s_stepstoward) l9 c9 k9
  have b9 := F9.binds (ps := ["forest", "goal"]) fun _ _ _ _ _ _ us hl => match us, hl with | [_, _], _ => rfl
  have F10 := fun_mk (st := s_neighbours) l10 c10 k10
  have b10 := F10.binds (ps := ["forest"]) fun _ _ _ _ _ _ us hl => match us, hl with | [_], _ => rfl
  have F11 := fun_mk (st := s_refuseends) l11 c11 k11
  have b11 := F11.binds (ps := ["a", "b", "many"]) fun _ _ _ _ _ _ us hl => match us, hl with | [_, _, _], _ => rfl
  have F12 := fun_mk (st := s_asforest) l12 c12 k12
  have b12 := F12.binds (ps := ["many", "ties"]) fun _ _ _ _ _ _ us hl => match us, hl with | [_, _], _ => rfl
  have F13 := fun_mk (st := s_offersalong) l13 c13 k13
  have b13 := F13.binds (ps := ["many", "by_tie", "a", "b"]) fun _ _ _ _ _ _ us hl => match us, hl with | [_, _, _, _], _ => rfl
  have F14 := fun_mk (st := s_areoffers) l14 c14 k14
  have b14 := F14.binds (ps := ["offers", "thing"]) fun _ _ _ _ _ _ us hl => match us, hl with | [_, _], _ => rfl
  have F15 := fun_mk (st := s_leadson) l15 c15 k15
  have b15 := F15.binds (ps := ["offers", "numbers", "a", "b"]) fun _ _ _ _ _ _ us hl => match us, hl with | [_, _, _, _], _ => rfl
  have F16 := fun_mk (st := s_isworded) l16 c16 k16
  have b16 := F16.binds (ps := ["thing"]) fun _ _ _ _ _ _ us hl => match us, hl with | [_], _ => rfl
  have F17 := fun_mk (st := s_setsapart) l17 c17 k17
  have b17 := F17.binds (ps := ["forest", "a", "b", "numbers"]) fun _ _ _ _ _ _ us hl => match us, hl with | [_, _, _, _], _ => rfl
  have F18 := fun_mk (st := s_showsholding) l18 c18 k18
  have b18 := F18.binds (ps := ["many", "offers", "thing"]) fun _ _ _ _ _ _ us hl => match us, hl with | [_, _, _], _ => rfl
  have F19 := fun_mk (st := s_isholdentry) l19 c19 k19
  have b19 := F19.binds (ps := ["many", "offers", "number", "thing"]) fun _ _ _ _ _ _ us hl => match us, hl with | [_, _, _, _], _ => rfl
  have F20 := fun_mk (st := s_iswayround) l20 c20 k20
  have b20 := F20.binds (ps := ["offers", "number", "way"]) fun _ _ _ _ _ _ us hl => match us, hl with | [_, _, _], _ => rfl
  have F21 := fun_mk (st := s_showslightest) l21 c21 k21
  have b21 := F21.binds (ps := ["many", "offers", "thing"]) fun _ _ _ _ _ _ us hl => match us, hl with | [_, _, _], _ => rfl
  have F22 := fun_mk (st := s_arekept) l22 c22 k22
  have b22 := F22.binds (ps := ["many", "offers", "thing"]) fun _ _ _ _ _ _ us hl => match us, hl with | [_, _, _], _ => rfl
  have F23 := fun_mk (st := s_islightpaper) l23 c23 k23
  have b23 := F23.binds (ps := ["offers", "kept", "thing"]) fun _ _ _ _ _ _ us hl => match us, hl with | [_, _, _], _ => rfl
  have F24 := fun_mk (st := s_islightentry) l24 c24 k24
  have b24 := F24.binds (ps := ["offers", "kept", "number", "thing"]) fun _ _ _ _ _ _ us hl => match us, hl with | [_, _, _, _], _ => rfl
  have F25 := fun_mk (st := s_Lmixed) l25 c25 k25
  have b25 := F25.binds (ps := ["_law_cell", "_law_k"]) fun _ _ _ _ _ _ us hl => match us, hl with | [_, _], _ => rfl
  have F26 := fun_mk (st := s_Lpot) l26 c26 k26
  have b26 := F26.binds (ps := ["_law_script"]) fun _ _ _ _ _ _ us hl => match us, hl with | [_], _ => rfl
  have F27 := fun_mk (st := s_Ltake) l27 c27 k27
  have b27 := F27.binds (ps := ["_law_pot_here", "_law_many"]) fun _ _ _ _ _ _ us hl => match us, hl with | [_, _], _ => rfl
  have F28 := fun_mk (st := s_Loffers) l28 c28 k28
  have b28 := F28.binds (ps := ["_law_pot_here"]) fun _ _ _ _ _ _ us hl => match us, hl with | [_], _ => rfl
  have F29 := fun_mk (st := s_Llight) l29 c29 k29
  have b29 := F29.binds (ps := ["_law_many", "_law_offers_here"]) fun _ _ _ _ _ _ us hl => match us, hl with | [_, _], _ => rfl
  have F30 := fun_mk (st := s_Lshuffled) l30 c30 k30
  have b30 := F30.binds (ps := ["_law_pot_here", "_law_offers_here"]) fun _ _ _ _ _ _ us hl => match us, hl with | [_, _], _ => rfl
  have F31 := fun_mk (st := s_Lfirsts) l31 c31 k31
  have b31 := F31.binds (ps := ["_law_many", "_law_offers_here"]) fun _ _ _ _ _ _ us hl => match us, hl with | [_, _], _ => rfl
  have F32 := fun_mk (st := s_Lheld) l32 c32 k32
  have b32 := F32.binds (ps := ["_law_many", "_law_offers_here"]) fun _ _ _ _ _ _ us hl => match us, hl with | [_, _], _ => rfl
  have F33 := fun_mk (st := s_Lright) l33 c33 k33
  have b33 := F33.binds (ps := ["_law_pot_here", "_law_many", "_law_offers_here"]) fun _ _ _ _ _ _ us hl => match us, hl with | [_, _, _], _ => rfl
  have F34 := fun_mk (st := s_law) l34 c34 k34
  have b34 := F34.binds (ps := ["_law_script"]) fun _ _ _ _ _ _ us hl => match us, hl with | [_], _ => rfl
  have Fm0 := fun_mk (st := s_Holdinginit) lm0 cm0 km0
  have bm0 := Fm0.binds (ps := ["self", "many"]) fun _ _ _ _ _ _ us hl => match us, hl with | [_, _], _ => rfl
  have Fm1 := fun_mk (st := s_Holdingoffer) lm1 cm1 km1
  have bm1 := Fm1.binds (ps := ["self", "a", "b"]) fun _ _ _ _ _ _ us hl => match us, hl with | [_, _, _], _ => rfl
  have Fm2 := fun_mk (st := s_Holdingholds) lm2 cm2 km2
  have bm2 := Fm2.binds (ps := ["self", "number"]) fun _ _ _ _ _ _ us hl => match us, hl with | [_, _], _ => rfl
  have Fm3 := fun_mk (st := s_Holdingholding) lm3 cm3 km3
  have bm3 := Fm3.binds (ps := ["self"]) fun _ _ _ _ _ _ us hl => match us, hl with | [_], _ => rfl
  have Fm4 := fun_mk (st := s_Holdingpaper) lm4 cm4 km4
  have bm4 := Fm4.binds (ps := ["self"]) fun _ _ _ _ _ _ us hl => match us, hl with | [_], _ => rfl
  have Fm5 := fun_mk (st := s_Holdingentry) lm5 cm5 km5
  have bm5 := Fm5.binds (ps := ["self", "number"]) fun _ _ _ _ _ _ us hl => match us, hl with | [_, _], _ => rfl
  have Fm6 := fun_mk (st := s_Holdingwayround) lm6 cm6 km6
  have bm6 := Fm6.binds (ps := ["self", "number"]) fun _ _ _ _ _ _ us hl => match us, hl with | [_, _], _ => rfl
  have Fm7 := fun_mk (st := s_Holdingothers) lm7 cm7 km7
  have bm7 := Fm7.binds (ps := ["self", "number"]) fun _ _ _ _ _ _ us hl => match us, hl with | [_, _], _ => rfl
  have Fm8 := fun_mk (st := s_Lightestinit) lm8 cm8 km8
  have bm8 := Fm8.binds (ps := ["self", "many"]) fun _ _ _ _ _ _ us hl => match us, hl with | [_, _], _ => rfl
  have Fm9 := fun_mk (st := s_Lightestoffer) lm9 cm9 km9
  have bm9 := Fm9.binds (ps := ["self", "a", "b", "price"]) fun _ _ _ _ _ _ us hl => match us, hl with | [_, _, _, _], _ => rfl
  have Fm10 := fun_mk (st := s_Lightesttie) lm10 cm10 km10
  have bm10 := Fm10.binds (ps := ["self", "number"]) fun _ _ _ _ _ _ us hl => match us, hl with | [_, _], _ => rfl
  have Fm11 := fun_mk (st := s_Lightestkeep) lm11 cm11 km11
  have bm11 := Fm11.binds (ps := ["self", "number"]) fun _ _ _ _ _ _ us hl => match us, hl with | [_, _], _ => rfl
  have Fm12 := fun_mk (st := s_Lightestkept) lm12 cm12 km12
  have bm12 := Fm12.binds (ps := ["self"]) fun _ _ _ _ _ _ us hl => match us, hl with | [_], _ => rfl
  have Fm13 := fun_mk (st := s_Lightestprice) lm13 cm13 km13
  have bm13 := Fm13.binds (ps := ["self"]) fun _ _ _ _ _ _ us hl => match us, hl with | [_], _ => rfl
  have Fm14 := fun_mk (st := s_Lightestslacks) lm14 cm14 km14
  have bm14 := Fm14.binds (ps := ["self"]) fun _ _ _ _ _ _ us hl => match us, hl with | [_], _ => rfl
  have Fm15 := fun_mk (st := s_Lightestpaper) lm15 cm15 km15
  have bm15 := Fm15.binds (ps := ["self"]) fun _ _ _ _ _ _ us hl => match us, hl with | [_], _ => rfl
  have Fm16 := fun_mk (st := s_Lightestwayofoffer) lm16 cm16 km16
  have bm16 := Fm16.binds (ps := ["self", "number"]) fun _ _ _ _ _ _ us hl => match us, hl with | [_, _], _ => rfl
  let T : Top K mg := ⟨_, _, F0, b0, PySem.W.mg_of X G a0, _, _, F1, b1, PySem.W.mg_of X G a1, _, _, F2, b2, PySem.W.mg_of X G a2, _, _, F3, b3, PySem.W.mg_of X G a3, _, _, F4, b4, PySem.W.mg_of X G a4, _, _, F5, b5, PySem.W.mg_of X G a5, _, _, F6, b6, PySem.W.mg_of X G a6, _, _, F7, b7, PySem.W.mg_of X G a7, _, _, F8, b8, PySem.W.mg_of X G a8, _, _, F9, b9, PySem.W.mg_of X G a9, _, _, F10, b10, PySem.W.mg_of X G a10, _, _, F11, b11, PySem.W.mg_of X G a11, _, _, F12, b12, PySem.W.mg_of X G a12, _, _, F13, b13, PySem.W.mg_of X G a13, _, _, F14, b14, PySem.W.mg_of X G a14, _, _, F15, b15, PySem.W.mg_of X G a15, _, _, F16, b16, PySem.W.mg_of X G a16, _, _, F17, b17, PySem.W.mg_of X G a17, _, _, F18, b18, PySem.W.mg_of X G a18, _, _, F19, b19, PySem.W.mg_of X G a19, _, _, F20, b20, PySem.W.mg_of X G a20, _, _, F21, b21, PySem.W.mg_of X G a21, _, _, F22, b22, PySem.W.mg_of X G a22, _, _, F23, b23, PySem.W.mg_of X G a23, _, _, F24, b24, PySem.W.mg_of X G a24, _, _, F25, b25, PySem.W.mg_of X G a25, _, _, F26, b26, PySem.W.mg_of X G a26, _, _, F27, b27, PySem.W.mg_of X G a27, _, _, F28, b28, PySem.W.mg_of X G a28, _, _, F29, b29, PySem.W.mg_of X G a29, _, _, F30, b30, PySem.W.mg_of X G a30, _, _, F31, b31, PySem.W.mg_of X G a31, _, _, F32, b32, PySem.W.mg_of X G a32, _, _, F33, b33, PySem.W.mg_of X G a33, _, _, F34, b34, PySem.W.mg_of X G a34, cc0, ⟨pgC0, hdC0, poC0, saC0⟩, PySem.W.mg_of X G aC0, nC0_many, nC0_offers, nC0_by_tie, _, _, Fm8, bm8, ⟨mkC0, am8, im8, kcC0⟩, _, _, Fm9, bm9, ⟨am9, im9, km9⟩, _, _, Fm10, bm10, ⟨am10, im10, km10⟩, _, _, Fm11, bm11, ⟨am11, im11, km11⟩, _, _, Fm12, bm12, ⟨am12, im12, km12⟩, _, _, Fm13, bm13, ⟨am13, im13, km13⟩, _, _, Fm14, bm14, ⟨am14, im14, km14⟩, _, _, Fm15, bm15, ⟨am15, im15, km15⟩, _, _, Fm16, bm16, ⟨am16, im16, km16⟩, cc1, ⟨pgC1, hdC1, poC1, saC1⟩, PySem.W.mg_of X G aC1, nC1_many, nC1_offers, _, _, Fm0, bm0, ⟨mkC1, am0, im0, kcC1⟩, _, _, Fm1, bm1, ⟨am1, im1, km1⟩, _, _, Fm2, bm2, ⟨am2, im2, km2⟩, _, _, Fm3, bm3, ⟨am3, im3, km3⟩, _, _, Fm4, bm4, ⟨am4, im4, km4⟩, _, _, Fm5, bm5, ⟨am5, im5, km5⟩, _, _, Fm6, bm6, ⟨am6, im6, km6⟩, _, _, Fm7, bm7, ⟨am7, im7, km7⟩, PySem.W.mg_none_of X G z0, PySem.W.mg_none_of X G z1, PySem.W.mg_none_of X G z2, PySem.W.mg_none_of X G z3, PySem.W.mg_none_of X G z4, PySem.W.mg_none_of X G z5, PySem.W.mg_none_of X G z6, PySem.W.mg_none_of X G z7, PySem.W.mg_none_of X G z8, PySem.W.mg_none_of X G z9, PySem.W.mg_none_of X G z10, PySem.W.mg_none_of X G z11, PySem.W.mg_none_of X G z12, PySem.W.mg_none_of X G z13, PySem.W.mg_none_of X G z14, PySem.W.mg_none_of X G z15, PySem.W.mg_none_of X G z16, cA, PA, hcA, cR, PR, hcR, cO, PO, hcO, cP, PP, hcP, cE, PE, hcE, cS, PS, hcS, cH, PH, hcH, cM, PM, hcM, cL, PL, hcL, hneP⟩
  refine ⟨[(cA, PA), (cR, PR), (cO, PO), (cP, PP), (cE, PE), (cS, PS), (cH, PH), (cM, PM), (cL, PL)], ?_, ?_, ?_, fun s H base a ns hlen hbits tb e0 th sq => ?_⟩
  · intro p hp
    rcases mem9 hp with rfl | rfl | rfl | rfl | rfl | rfl | rfl | rfl | rfl
    · exact tab_empty (tabs _ List.mem_cons_self) X (PySem.W.mg_of X G a1) l1 rfl hcA lcA v11A
    · exact tab_empty (tabs _ (List.mem_cons_of_mem _ List.mem_cons_self)) X (PySem.W.mg_of X G a2) l2 rfl hcR lcR v11R
    · exact tab_empty (tabs _ (List.mem_cons_of_mem _ (List.mem_cons_of_mem _ List.mem_cons_self))) X (PySem.W.mg_of X G a14) l14 rfl hcO lcO v11O
    · exact tab_empty (tabs _ (List.mem_cons_of_mem _ (List.mem_cons_of_mem _ (List.mem_cons_of_mem _ List.mem_cons_self)))) X (PySem.W.mg_of X G a23) l23 rfl hcP lcP v11P
    · exact tab_empty (tabs _ (List.mem_cons_of_mem _ (List.mem_cons_of_mem _ (List.mem_cons_of_mem _ (List.mem_cons_of_mem _ List.mem_cons_self))))) X (PySem.W.mg_of X G a24) l24 rfl hcE lcE v11E
    · exact tab_empty (tabs _ (List.mem_cons_of_mem _ (List.mem_cons_of_mem _ (List.mem_cons_of_mem _ (List.mem_cons_of_mem _ (List.mem_cons_of_mem _ List.mem_cons_self)))))) X (PySem.W.mg_of X G a17) l17 rfl hcS lcS v11S
    · exact tab_empty (tabs _ (List.mem_cons_of_mem _ (List.mem_cons_of_mem _ (List.mem_cons_of_mem _ (List.mem_cons_of_mem _ (List.mem_cons_of_mem _ (List.mem_cons_of_mem _ List.mem_cons_self))))))) X (PySem.W.mg_of X G a18) l18 rfl hcH lcH v11H
    · exact tab_empty (tabs _ (List.mem_cons_of_mem _ (List.mem_cons_of_mem _ (List.mem_cons_of_mem _ (List.mem_cons_of_mem _ (List.mem_cons_of_mem _ (List.mem_cons_of_mem _ (List.mem_cons_of_mem _ List.mem_cons_self)))))))) X (PySem.W.mg_of X G a6) l6 rfl hcM lcM v11M
    · exact tsf _ mtL
  · intro p hp
    rcases mem9 hp with rfl | rfl | rfl | rfl | rfl | rfl | rfl | rfl | rfl
    · exact nPA
    · exact nPR
    · exact nPO
    · exact nPP
    · exact nPE
    · exact nPS
    · exact nPH
    · exact nPM
    · exact nPL
  · intro p hp
    rcases mem9 hp with rfl | rfl | rfl | rfl | rfl | rfl | rfl | rfl | rfl
    · exact PySem.W.codeHd_of_K X hdA
    · exact PySem.W.codeHd_of_K X hdR
    · exact PySem.W.codeHd_of_K X hdO
    · exact PySem.W.codeHd_of_K X hdP
    · exact PySem.W.codeHd_of_K X hdE
    · exact PySem.W.codeHd_of_K X hdS
    · exact PySem.W.codeHd_of_K X hdH
    · exact PySem.W.codeHd_of_K X hdM
    · exact PySem.W.codeHd_of_K X hdL
  · exact run_law T ⟨(tb _ List.mem_cons_self).code, (tb _ List.mem_cons_self).bm, (tb _ List.mem_cons_self).gP⟩ ⟨(tb _ (List.mem_cons_of_mem _ List.mem_cons_self)).code, (tb _ (List.mem_cons_of_mem _ List.mem_cons_self)).bm, (tb _ (List.mem_cons_of_mem _ List.mem_cons_self)).gP⟩ ⟨(tb _ (List.mem_cons_of_mem _ (List.mem_cons_of_mem _ List.mem_cons_self))).code, (tb _ (List.mem_cons_of_mem _ (List.mem_cons_of_mem _ List.mem_cons_self))).bm, (tb _ (List.mem_cons_of_mem _ (List.mem_cons_of_mem _ List.mem_cons_self))).gP⟩ ⟨(tb _ (List.mem_cons_of_mem _ (List.mem_cons_of_mem _ (List.mem_cons_of_mem _ List.mem_cons_self)))).code, (tb _ (List.mem_cons_of_mem _ (List.mem_cons_of_mem _ (List.mem_cons_of_mem _ List.mem_cons_self)))).bm, (tb _ (List.mem_cons_of_mem _ (List.mem_cons_of_mem _ (List.mem_cons_of_mem _ List.mem_cons_self)))).gP⟩ ⟨(tb _ (List.mem_cons_of_mem _ (List.mem_cons_of_mem _ (List.mem_cons_of_mem _ (List.mem_cons_of_mem _ List.mem_cons_self))))).code, (tb _ (List.mem_cons_of_mem _ (List.mem_cons_of_mem _ (List.mem_cons_of_mem _ (List.mem_cons_of_mem _ List.mem_cons_self))))).bm, (tb _ (List.mem_cons_of_mem _ (List.mem_cons_of_mem _ (List.mem_cons_of_mem _ (List.mem_cons_of_mem _ List.mem_cons_self))))).gP⟩ ⟨(tb _ (List.mem_cons_of_mem _ (List.mem_cons_of_mem _ (List.mem_cons_of_mem _ (List.mem_cons_of_mem _ (List.mem_cons_of_mem _ List.mem_cons_self)))))).code, (tb _ (List.mem_cons_of_mem _ (List.mem_cons_of_mem _ (List.mem_cons_of_mem _ (List.mem_cons_of_mem _ (List.mem_cons_of_mem _ List.mem_cons_self)))))).bm, (tb _ (List.mem_cons_of_mem _ (List.mem_cons_of_mem _ (List.mem_cons_of_mem _ (List.mem_cons_of_mem _ (List.mem_cons_of_mem _ List.mem_cons_self)))))).gP⟩ ⟨(tb _ (List.mem_cons_of_mem _ (List.mem_cons_of_mem _ (List.mem_cons_of_mem _ (List.mem_cons_of_mem _ (List.mem_cons_of_mem _ (List.mem_cons_of_mem _ List.mem_cons_self))))))).code, (tb _ (List.mem_cons_of_mem _ (List.mem_cons_of_mem _ (List.mem_cons_of_mem _ (List.mem_cons_of_mem _ (List.mem_cons_of_mem _ (List.mem_cons_of_mem _ List.mem_cons_self))))))).bm, (tb _ (List.mem_cons_of_mem _ (List.mem_cons_of_mem _ (List.mem_cons_of_mem _ (List.mem_cons_of_mem _ (List.mem_cons_of_mem _ (List.mem_cons_of_mem _ List.mem_cons_self))))))).gP⟩ ⟨(tb _ (List.mem_cons_of_mem _ (List.mem_cons_of_mem _ (List.mem_cons_of_mem _ (List.mem_cons_of_mem _ (List.mem_cons_of_mem _ (List.mem_cons_of_mem _ (List.mem_cons_of_mem _ List.mem_cons_self)))))))).code, (tb _ (List.mem_cons_of_mem _ (List.mem_cons_of_mem _ (List.mem_cons_of_mem _ (List.mem_cons_of_mem _ (List.mem_cons_of_mem _ (List.mem_cons_of_mem _ (List.mem_cons_of_mem _ List.mem_cons_self)))))))).bm, (tb _ (List.mem_cons_of_mem _ (List.mem_cons_of_mem _ (List.mem_cons_of_mem _ (List.mem_cons_of_mem _ (List.mem_cons_of_mem _ (List.mem_cons_of_mem _ (List.mem_cons_of_mem _ List.mem_cons_self)))))))).gP⟩ (tb _ (List.mem_cons_of_mem _ (List.mem_cons_of_mem _ (List.mem_cons_of_mem _ (List.mem_cons_of_mem _ (List.mem_cons_of_mem _ (List.mem_cons_of_mem _ (List.mem_cons_of_mem _ (List.mem_cons_of_mem _ List.mem_cons_self))))))))) e0 (th _ List.mem_cons_self) (th _ (List.mem_cons_of_mem _ List.mem_cons_self)) (th _ (List.mem_cons_of_mem _ (List.mem_cons_of_mem _ List.mem_cons_self))) (th _ (List.mem_cons_of_mem _ (List.mem_cons_of_mem _ (List.mem_cons_of_mem _ List.mem_cons_self)))) (th _ (List.mem_cons_of_mem _ (List.mem_cons_of_mem _ (List.mem_cons_of_mem _ (List.mem_cons_of_mem _ List.mem_cons_self))))) (th _ (List.mem_cons_of_mem _ (List.mem_cons_of_mem _ (List.mem_cons_of_mem _ (List.mem_cons_of_mem _ (List.mem_cons_of_mem _ List.mem_cons_self)))))) (th _ (List.mem_cons_of_mem _ (List.mem_cons_of_mem _ (List.mem_cons_of_mem _ (List.mem_cons_of_mem _ (List.mem_cons_of_mem _ (List.mem_cons_of_mem _ List.mem_cons_self))))))) (th _ (List.mem_cons_of_mem _ (List.mem_cons_of_mem _ (List.mem_cons_of_mem _ (List.mem_cons_of_mem _ (List.mem_cons_of_mem _ (List.mem_cons_of_mem _ (List.mem_cons_of_mem _ List.mem_cons_self)))))))) (th _ (List.mem_cons_of_mem _ (List.mem_cons_of_mem _ (List.mem_cons_of_mem _ (List.mem_cons_of_mem _ (List.mem_cons_of_mem _ (List.mem_cons_of_mem _ (List.mem_cons_of_mem _ (List.mem_cons_of_mem _ List.mem_cons_self))))))))) sq hlen ⟨rfl, by decide, by decide⟩ (fun s u => .of_eq rfl)
end My
open PySem PySem.W PyProof.Rows
set_option maxRecDepth 100000 in
set_option maxHeartbeats 0 in
theorem PySem.Challenge.cw_tiedcut_k78_whole_light_and_holding_holds : PySem.Challenge.rw_tiedcut_k78_whole_light_and_holding.Holds := by
  w_on; o_law; k_head; (case hw => w_witness2)
  k_fill
  refine My.walk_law1 (l := PySem.Challenge.rw_tiedcut_k78_whole_light_and_holding) (most := 63) ["are_wholes", "is_rising", "are_offers", "is_light_paper", "is_light_entry", "sets_apart", "shows_holding", "refuse_missing"] rfl (by decide) rfl (by decide +kernel) (fun w h Y => PySem.W.km_in_of Y) (fun w h Y => PySem.W.km_tabs_of Y) ?F
  case F =>
    intro w mg fa h KX G hmg tsf tabs
    refine' My.all_mk KX G hmg ?aC0 ?pgC0 ?hdC0 ?poC0 ?saC0 ?mkC0 ?kcC0 ?nC0_many ?nC0_offers ?nC0_by_tie ?aC1 ?pgC1 ?hdC1 ?poC1 ?saC1 ?mkC1 ?kcC1 ?nC1_many ?nC1_offers ?am0 ?im0 ?lm0 ?cm0 ?km0 ?am1 ?im1 ?lm1 ?cm1 ?km1 ?am2 ?im2 ?lm2 ?cm2 ?km2 ?am3 ?im3 ?lm3 ?cm3 ?km3 ?am4 ?im4 ?lm4 ?cm4 ?km4 ?am5 ?im5 ?lm5 ?cm5 ?km5 ?am6 ?im6 ?lm6 ?cm6 ?km6 ?am7 ?im7 ?lm7 ?cm7 ?km7 ?am8 ?im8 ?lm8 ?cm8 ?km8 ?am9 ?im9 ?lm9 ?cm9 ?km9 ?am10 ?im10 ?lm10 ?cm10 ?km10 ?am11 ?im11 ?lm11 ?cm11 ?km11 ?am12 ?im12 ?lm12 ?cm12 ?km12 ?am13 ?im13 ?lm13 ?cm13 ?km13 ?am14 ?im14 ?lm14 ?cm14 ?km14 ?am15 ?im15 ?lm15 ?cm15 ?km15 ?am16 ?im16 ?lm16 ?cm16 ?km16 ?a0 ?l0 ?c0 ?k0 ?a1 ?l1 ?c1 ?k1 ?a2 ?l2 ?c2 ?k2 ?a3 ?l3 ?c3 ?k3 ?a4 ?l4 ?c4 ?k4 ?a5 ?l5 ?c5 ?k5 ?a6 ?l6 ?c6 ?k6 ?a7 ?l7 ?c7 ?k7 ?a8 ?l8 ?c8 ?k8 ?a9 ?l9 ?c9 ?k9 ?a10 ?l10 ?c10 ?k10 ?a11 ?l11 ?c11 ?k11 ?a12 ?l12 ?c12 ?k12 ?a13 ?l13 ?c13 ?k13 ?a14 ?l14 ?c14 ?k14 ?a15 ?l15 ?c15 ?k15 ?a16 ?l16 ?c16 ?k16 ?a17 ?l17 ?c17 ?k17 ?a18 ?l18 ?c18 ?k18 ?a19 ?l19 ?c19 ?k19 ?a20 ?l20 ?c20 ?k20 ?a21 ?l21 ?c21 ?k21 ?a22 ?l22 ?c22 ?k22 ?a23 ?l23 ?c23 ?k23 ?a24 ?l24 ?c24 ?k24 ?a25 ?l25 ?c25 ?k25 ?a26 ?l26 ?c26 ?k26 ?a27 ?l27 ?c27 ?k27 ?a28 ?l28 ?c28 ?k28 ?a29 ?l29 ?c29 ?k29 ?a30 ?l30 ?c30 ?k30 ?a31 ?l31 ?c31 ?k31 ?a32 ?l32 ?c32 ?k32 ?a33 ?l33 ?c33 ?k33 ?a34 ?l34 ?c34 ?k34 ?z0 ?z1 ?z2 ?z3 ?z4 ?z5 ?z6 ?z7 ?z8 ?z9 ?z10 ?z11 ?z12 ?z13 ?z14 ?z15 ?z16 ?hcA ?lcA ?v11A ?nPA ?hdA ?hcR ?lcR ?v11R ?nPR ?hdR ?hcO ?lcO ?v11O ?nPO ?hdO ?hcP ?lcP ?v11P ?nPP ?hdP ?hcE ?lcE ?v11E ?nPE ?hdE ?hcS ?lcS ?v11S ?nPS ?hdS ?hcH ?lcH ?v11H ?nPH ?hdH ?hcM ?lcM ?v11M ?nPM ?hdM ?hcL ?lcL ?v11L ?nPL ?hdL ?mtL ?hneP tsf tabs
    (case aC0 => k_is)
    (case pgC0 => k_is)
    (case hdC0 => k_is)
    (case poC0 => k_is)
    (case saC0 => k_is)
    (case mkC0 => k_is)
    (case kcC0 => k_is)
    (case nC0_many => k_is)
    (case nC0_offers => k_is)
    (case nC0_by_tie => k_is)
    (case aC1 => k_is)
    (case pgC1 => k_is)
    (case hdC1 => k_is)
    (case poC1 => k_is)
    (case saC1 => k_is)
    (case mkC1 => k_is)
    (case kcC1 => k_is)
    (case nC1_many => k_is)
    (case nC1_offers => k_is)
    (case am0 => k_is)
    (case im0 => k_is)
    (case lm0 => k_is)
    (case cm0 => k_is)
    (case km0 => k_is)
    (case am1 => k_is)
    (case im1 => k_is)
    (case lm1 => k_is)
    (case cm1 => k_is)
    (case km1 => k_is)
    (case am2 => k_is)
    (case im2 => k_is)
    (case lm2 => k_is)
    (case cm2 => k_is)
    (case km2 => k_is)
    (case am3 => k_is)
    (case im3 => k_is)
    (case lm3 => k_is)
    (case cm3 => k_is)
    (case km3 => k_is)
    (case am4 => k_is)
    (case im4 => k_is)
    (case lm4 => k_is)
    (case cm4 => k_is)
    (case km4 => k_is)
    (case am5 => k_is)
    (case im5 => k_is)
    (case lm5 => k_is)
    (case cm5 => k_is)
    (case km5 => k_is)
    (case am6 => k_is)
    (case im6 => k_is)
    (case lm6 => k_is)
    (case cm6 => k_is)
    (case km6 => k_is)
    (case am7 => k_is)
    (case im7 => k_is)
    (case lm7 => k_is)
    (case cm7 => k_is)
    (case km7 => k_is)
    (case am8 => k_is)
    (case im8 => k_is)
    (case lm8 => k_is)
    (case cm8 => k_is)
    (case km8 => k_is)
    (case am9 => k_is)
    (case im9 => k_is)
    (case lm9 => k_is)
    (case cm9 => k_is)
    (case km9 => k_is)
    (case am10 => k_is)
    (case im10 => k_is)
    (case lm10 => k_is)
    (case cm10 => k_is)
    (case km10 => k_is)
    (case am11 => k_is)
    (case im11 => k_is)
    (case lm11 => k_is)
    (case cm11 => k_is)
    (case km11 => k_is)
    (case am12 => k_is)
    (case im12 => k_is)
    (case lm12 => k_is)
    (case cm12 => k_is)
    (case km12 => k_is)
    (case am13 => k_is)
    (case im13 => k_is)
    (case lm13 => k_is)
    (case cm13 => k_is)
    (case km13 => k_is)
    (case am14 => k_is)
    (case im14 => k_is)
    (case lm14 => k_is)
    (case cm14 => k_is)
    (case km14 => k_is)
    (case am15 => k_is)
    (case im15 => k_is)
    (case lm15 => k_is)
    (case cm15 => k_is)
    (case km15 => k_is)
    (case am16 => k_is)
    (case im16 => k_is)
    (case lm16 => k_is)
    (case cm16 => k_is)
    (case km16 => k_is)
    (case a0 => k_is)
    (case l0 => k_is)
    (case c0 => k_is)
    (case k0 => k_is)
    (case a1 => k_is)
    (case l1 => k_is)
    (case c1 => k_is)
    (case k1 => k_is)
    (case a2 => k_is)
    (case l2 => k_is)
    (case c2 => k_is)
    (case k2 => k_is)
    (case a3 => k_is)
    (case l3 => k_is)
    (case c3 => k_is)
    (case k3 => k_is)
    (case a4 => k_is)
    (case l4 => k_is)
    (case c4 => k_is)
    (case k4 => k_is)
    (case a5 => k_is)
    (case l5 => k_is)
    (case c5 => k_is)
    (case k5 => k_is)
    (case a6 => k_is)
    (case l6 => k_is)
    (case c6 => k_is)
    (case k6 => k_is)
    (case a7 => k_is)
    (case l7 => k_is)
    (case c7 => k_is)
    (case k7 => k_is)
    (case a8 => k_is)
    (case l8 => k_is)
    (case c8 => k_is)
    (case k8 => k_is)
    (case a9 => k_is)
    (case l9 => k_is)
    (case c9 => k_is)
    (case k9 => k_is)
    (case a10 => k_is)
    (case l10 => k_is)
    (case c10 => k_is)
    (case k10 => k_is)
    (case a11 => k_is)
    (case l11 => k_is)
    (case c11 => k_is)
    (case k11 => k_is)
    (case a12 => k_is)
    (case l12 => k_is)
    (case c12 => k_is)
    (case k12 => k_is)
    (case a13 => k_is)
    (case l13 => k_is)
    (case c13 => k_is)
    (case k13 => k_is)
    (case a14 => k_is)
    (case l14 => k_is)
    (case c14 => k_is)
    (case k14 => k_is)
    (case a15 => k_is)
    (case l15 => k_is)
    (case c15 => k_is)
    (case k15 => k_is)
    (case a16 => k_is)
    (case l16 => k_is)
    (case c16 => k_is)
    (case k16 => k_is)
    (case a17 => k_is)
    (case l17 => k_is)
    (case c17 => k_is)
    (case k17 => k_is)
    (case a18 => k_is)
    (case l18 => k_is)
    (case c18 => k_is)
    (case k18 => k_is)
    (case a19 => k_is)
    (case l19 => k_is)
    (case c19 => k_is)
    (case k19 => k_is)
    (case a20 => k_is)
    (case l20 => k_is)
    (case c20 => k_is)
    (case k20 => k_is)
    (case a21 => k_is)
    (case l21 => k_is)
    (case c21 => k_is)
    (case k21 => k_is)
    (case a22 => k_is)
    (case l22 => k_is)
    (case c22 => k_is)
    (case k22 => k_is)
    (case a23 => k_is)
    (case l23 => k_is)
    (case c23 => k_is)
    (case k23 => k_is)
    (case a24 => k_is)
    (case l24 => k_is)
    (case c24 => k_is)
    (case k24 => k_is)
    (case a25 => k_is)
    (case l25 => k_is)
    (case c25 => k_is)
    (case k25 => k_is)
    (case a26 => k_is)
    (case l26 => k_is)
    (case c26 => k_is)
    (case k26 => k_is)
    (case a27 => k_is)
    (case l27 => k_is)
    (case c27 => k_is)
    (case k27 => k_is)
    (case a28 => k_is)
    (case l28 => k_is)
    (case c28 => k_is)
    (case k28 => k_is)
    (case a29 => k_is)
    (case l29 => k_is)
    (case c29 => k_is)
    (case k29 => k_is)
    (case a30 => k_is)
    (case l30 => k_is)
    (case c30 => k_is)
    (case k30 => k_is)
    (case a31 => k_is)
    (case l31 => k_is)
    (case c31 => k_is)
    (case k31 => k_is)
    (case a32 => k_is)
    (case l32 => k_is)
    (case c32 => k_is)
    (case k32 => k_is)
    (case a33 => k_is)
    (case l33 => k_is)
    (case c33 => k_is)
    (case k33 => k_is)
    (case a34 => k_is)
    (case l34 => k_is)
    (case c34 => k_is)
    (case k34 => k_is)
    (case z0 => k_is)
    (case z1 => k_is)
    (case z2 => k_is)
    (case z3 => k_is)
    (case z4 => k_is)
    (case z5 => k_is)
    (case z6 => k_is)
    (case z7 => k_is)
    (case z8 => k_is)
    (case z9 => k_is)
    (case z10 => k_is)
    (case z11 => k_is)
    (case z12 => k_is)
    (case z13 => k_is)
    (case z14 => k_is)
    (case z15 => k_is)
    (case z16 => k_is)
    (case hcA => rfl)
    (case lcA => k_is)
    (case v11A => rfl)
    (case nPA => kernel_rfl)
    (case hdA => kernel_rfl)
    (case hcR => rfl)
    (case lcR => k_is)
    (case v11R => rfl)
    (case nPR => kernel_rfl)
    (case hdR => kernel_rfl)
    (case hcO => rfl)
    (case lcO => k_is)
    (case v11O => rfl)
    (case nPO => kernel_rfl)
    (case hdO => kernel_rfl)
    (case hcP => rfl)
    (case lcP => k_is)
    (case v11P => rfl)
    (case nPP => kernel_rfl)
    (case hdP => kernel_rfl)
    (case hcE => rfl)
    (case lcE => k_is)
    (case v11E => rfl)
    (case nPE => kernel_rfl)
    (case hdE => kernel_rfl)
    (case hcS => rfl)
    (case lcS => k_is)
    (case v11S => rfl)
    (case nPS => kernel_rfl)
    (case hdS => kernel_rfl)
    (case hcH => rfl)
    (case lcH => k_is)
    (case v11H => rfl)
    (case nPH => kernel_rfl)
    (case hdH => kernel_rfl)
    (case hcM => rfl)
    (case lcM => k_is)
    (case v11M => rfl)
    (case nPM => kernel_rfl)
    (case hdM => kernel_rfl)
    (case hcL => rfl)
    (case lcL => k_is)
    (case v11L => rfl)
    (case nPL => kernel_rfl)
    (case hdL => kernel_rfl)
    (case mtL => first | decide | exact List.mem_cons_self)
    (case hneP => decide +kernel)
