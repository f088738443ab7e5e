import PyProof.Rows.All
import Wide.All
import OpenK.AllK
import Wide.FinOn
import HandS.ForMost
import HandS.More
import HandS.Sort
import HandS.Wide
import HandS.WideBits
import HandS.IsInst
import HandS.EndBits
import HandS.Exc
import HandS.ExcOwn
import HandS.ExcValue
import HandS.ExcInit
import HandS.ExcField
import HandS.WordsExc
import KE.KExcIs
import HandS.TupLe
import HandS.TupAny
import HandS.Zip
import HandS.Walk
import HandS.Star
import HandS.Style
import HandS.CallLocal
import HandS.Deep
import HandS.AnyAll
import HandS.GenOver
import HandS.EndTab
import HandS.Lambda
import PyProof.TupleOfGen
import PyProof.GenCompD
import PyProof.EqLayable
import HandS.SortInts
import HandS.RaiseMore
import HandS.SetFor
import HandS.Strs
import HandS.SortRule
import HandS.TryOnly
import HandS.Set
import HandS.Flow
import HandS.TupLen
import KE.KDictPairs
import KE.DataFind
import KE.GoesMore
import HandS.RevTup
import HandS.Rev
import HandS.Text
import HandS.StrMore
import HandS.Replace
import PyProof.StrLawsAffix
import PyProof.JoinWalk
import HandS.Conv
import HandS.Iter
import KE.KUnpackStar
import HandS.DictComp
import HandS.TupSets
import HandS.TupMul
import HandS.SortKw
import KE.DatumOrd
import PySem.Challenge.RW_tiedcut_k72_papers_of_anything
set_option Elab.async false
set_option linter.all false
set_option maxRecDepth 100000
set_option maxHeartbeats 4000000
namespace My
open PySem PySem.Spec PyProof.Rows L2
/-! ### a generator expression, consumed by all: its own frame -/
def gcx (X : Cx) (s : Shared) (H : Hp) (ge : Env) (fp : List Addr) (Ag : Around) : Cx :=
  { X with A := Ag, s_0 := s, H_0 := H, env := ge, outer := X.stack, stack := ge :: X.stack, ex := fp, fn := fun _ => false, pn := [], xe := fun _ _ => False }
section
variable {X : Cx} {pins : List (Addr × Obj)} {σ : L2.St} {H : Hp} {s : Shared}
theorem clo_in {scope : Scope} {own : List (Str × Nat)} (I : Inv X pins σ H s) (ok : BlkOk X.N X.env.scope scope own) {y : Str} {c : Addr} (hm : (y, c) ∈ cloFrom X.env.cells scope.names []) : X.env.cells.lookup y = some c ∧ c < s.heap.objs.size ∧ (y, NameKind.free) ∈ scope.names := by
  rcases cloFrom_mem hm with z | ⟨h1, rfl⟩
  · cases z
  · have hc : ∃ c, X.env.cells.lookup y = some c := by
      rcases ok.free _ h1 rfl with k | k
      · exact I.ok.has _ (.inl k)
      · exact I.ok.has _ (.inr k)
    obtain ⟨c, hc⟩ := hc
    obtain ⟨v, z⟩ := I.cell _ _ hc
    rw [hc]
    exact ⟨rfl, z.lt, h1⟩
theorem gen_start {scope : Scope} {own : List (Str × Nat)} {fp : List Addr} {ge : Env} {code : Value} {Ag : Around} {s5 : Shared} {m : Str → Option Value} {ga : Addr} {go : Obj} (I : Inv X pins σ H s) (ok : BlkOk X.N X.env.scope scope own) (hN : X.N.Nodup)
    (hfp : ∀ b ∈ fp, FpOk X pins H b ∧ b < s.heap.objs.size) (hge : ge = genEnv scope (cloFrom X.env.cells scope.names []) s.heap.objs.size code builtinsNs X.env) (nocell : ∀ y ∈ scope.names, y.2 ≠ .cell)
    (hA : Ag.handled = none) (hfr : Ag.frames = some (ge :: X.stack)) (k5 : ∀ b o, s.heap.get? b = some o → s5.heap.get? b = some o) (os5 : s5.os = s.os) (bare5 : AllBare s5.gens)
    (ns5 : s5.heap.Ns s.heap.objs.size m) (hga : s5.heap.get? ga = some go) (hgt : s.heap.objs.size < ga) (hgd : ∀ v, go.data ≠ .cell v) :
    Inv (gcx X s H ge fp Ag) [(ga, go)] (wipe σ (own.map (·.2))) H s5 := by
  have hL : ge.locals = s.heap.objs.size := by
    rw [hge]
    rfl
  have hC : ge.cells = cloFrom X.env.cells scope.names [] := by
    rw [hge]
    rfl
  have hS : ge.scope = scope := by
    rw [hge]
    rfl
  have inC : ∀ {y c}, ge.cells.lookup y = some c → X.env.cells.lookup y = some c ∧ c < s.heap.objs.size := fun {y c} e => by
    rw [hC] at e
    have z := clo_in I ok (PySem.mem_of_lookup e)
    exact ⟨z.1, z.2.1⟩
  have look : ∀ {y}, scope.names.lookup y = some .free → ∃ c, ge.cells.lookup y = some c ∧ X.env.cells.lookup y = some c := fun {y} hl => by
    have hm := cloFrom_has (cells := X.env.cells) (acc := []) (PySem.mem_of_lookup hl)
    obtain ⟨c, e⟩ := mem_lookup hm
    rw [← hC] at e
    exact ⟨c, e, (inC e).1⟩
  have kindF : ∀ {y k}, scope.names.lookup y = some k → (k = .cell ∨ k = .free) → scope.names.lookup y = some .free := fun {y k} e hk => by
    rcases hk with rfl | rfl
    · exact absurd rfl (nocell _ (PySem.mem_of_lookup e))
    · exact e
  have okG : (gcx X s H ge fp Ag).Ok := by
    refine ⟨I.ok.mod, ?_, ?_, ?_, ?_, ?_, ?_, ?_, fun _ => hA, hfr, .inr ⟨rfl, ?_⟩, ?_, I.bs, Nat.le_trans I.ok.bsz I.sz, ?_, ?_, I.stack, I.stkFree⟩
    · show ge.scope.kind = .function
      rw [hS]
      exact ok.kind
    · show ge.globals = mainGlobals
      rw [hge]
      exact I.ok.glob
    · show ge.builtins = builtinsNs
      rw [hge]
      rfl
    · show s.heap.objs.size ≤ ge.locals
      rw [hL]
      exact Nat.le_refl _
    · intro y z c e1 e2
      exact I.ok.inj y z c (inC e1).1 (inC e2).1
    · intro y hy
      have e : scope.names.lookup y = some .free := by
        rcases hy with hy | hy
        · have hy2 : ge.scope.names.lookup y = some .cell := hy
          rw [hS] at hy2
          exact kindF hy2 (.inl rfl)
        · have hy2 : ge.scope.names.lookup y = some .free := hy
          rw [hS] at hy2
          exact hy2
      obtain ⟨c, e1, _⟩ := look e
      exact ⟨c, e1⟩
    · intro y c z
      cases z
    · show ge.frame = some ge.locals
      rw [hge]
      rfl
    · intro b hb
      refine ⟨?_, fun y c e z => ?_⟩
      · show b ≠ ge.locals
        rw [hL]
        exact Nat.ne_of_lt (hfp b hb).2
      · exact (hfp b hb).1.2.2.2.2.1 y c (inC e).1 z
    · intro b o e hb
      rcases (hfp b hb).1.2.2.2.1 with z | z
      · exact I.ok.noex b o e z
      · exact absurd (Nat.lt_of_lt_of_le (Heap.lt_size e) (Nat.le_trans I.ok.bsz z)) (Nat.lt_irrefl _)
    · intro b hb z
      rcases List.mem_cons.mp (I.stkSub b z) with z | z
      · exact (hfp b hb).1.2.1 z
      · exact (hfp b hb).1.2.2.1 z
  have frL : H s.heap.objs.size = none := I.hok.fresh (Nat.le_refl _)
  refine ⟨okG, os5, bare5, Un.kept k5, ⟨m, ?_, fun i y av e1 e2 e3 => ?_⟩, fun y c e => ?_, ?_, fun y c e => I.freeC y c (inC e).1, fun p hp => ?_, I.hok.kept k5, by rw [wipe_length]; exact I.len⟩
  · show s5.heap.Ns ge.locals m
    rw [hL]
    exact ns5
  · obtain ⟨e2, hne⟩ := wipe_some e2
    have e3 : Vis ge.scope y := e3
    rw [hS] at e3
    have nol : scope.names.lookup y ≠ some .local := fun z => by
      rcases ok.own _ (PySem.mem_of_lookup z) (.inl rfl) with q | q
      · obtain ⟨p, hp, hpy⟩ := List.mem_map.mp q
        have e5 := ok.ix p hp
        have e6 : p.1 = y := hpy
        rw [e6] at e5
        exact hne (List.mem_map.mpr ⟨p, hp, nodup_ix hN e5 e1⟩)
      · exact q (List.mem_of_getElem? e1)
    have hf : scope.names.lookup y = some .free := by
      rcases e3 with z | z | z
      · exact absurd z nol
      · exact kindF z (.inl rfl)
      · exact z
    obtain ⟨m0, hn, hl⟩ := I.loc
    have hvis : Vis X.env.scope y := (ok.free _ (PySem.mem_of_lookup hf) rfl).elim (fun k => .inr (.inl k)) (fun k => .inr (.inr k))
    obtain ⟨u, r, q⟩ := hl i y av e1 e2 hvis
    obtain ⟨c, g1, g2⟩ := look hf
    refine ⟨u, r, .inr ⟨.inr ?_, c, g1, ?_⟩⟩
    · show ge.scope.names.lookup y = some .free
      rw [hS]
      exact hf
    · rcases q with ⟨k, _⟩ | ⟨_, c', e', z⟩
      · have k : X.env.scope.names.lookup y = some .local := k
        rcases ok.free _ (PySem.mem_of_lookup hf) rfl with k' | k'
        · have k2 : X.env.scope.names.lookup y = some .cell := k'
          rw [k2] at k
          cases k
        · have k2 : X.env.scope.names.lookup y = some .free := k'
          rw [k2] at k
          cases k
      · rw [g2] at e'
        cases e'
        exact z.keeps k5
  · obtain ⟨v, z⟩ := I.cell y c (inC e).1
    exact ⟨v, z.keeps k5⟩
  · show H ge.locals = none
    rw [hL]
    exact frL
  · have hp2 : p ∈ ([] : List (Addr × Obj)) ++ [(ga, go)] := hp
    rw [List.nil_append] at hp2
    rcases List.mem_cons.mp hp2 with e | e
    · subst e
      refine ⟨hga, I.hok.fresh (Nat.le_of_lt hgt), ?_, fun z => ?_, hgd⟩
      · show ga ≠ ge.locals
        rw [hL]
        exact Nat.ne_of_gt hgt
      · have z2 : ga ∈ frs X.stack := z
        obtain ⟨_, o, ho, _⟩ := I.stack.mem z2
        exact absurd (Nat.lt_trans (Heap.lt_size ho) hgt) (Nat.lt_irrefl _)
    · cases e
end
section
variable {X : Cx} {pins : List (Addr × Obj)} {σ : L2.St} {H : Hp} {s : Shared}
/-- the generator's object -/
def genO (X : Cx) (s4 : Shared) : Obj := { cls := .type "generator", data := .fields #[.int s4.gens.size 0, .str "<genexpr>" (s4.toks + 1), .str (X.env.qual ++ "<genexpr>") (s4.toks + 1 + 1)] }
/-- the generator is made: its source has come, the def's table may have grown -/
theorem gen_make {c P : Addr} {elt tg iter : Expr} {gpos : Pos} {scope : Scope} {own : List (Str × Nat)} {wi : TI} {k : Nat} {Q' : Value → Shared → Prop} {R : It → Hp → Prop} (hr : Room k X.A) (TB : GxR.TabB X.base X.mg c P) (hcode : X.env.code = .ref c)
    (ok : BlkOk X.N X.env.scope scope own) (hco : scope.isCoroutine = false) (nocell : ∀ y ∈ scope.names, y.2 ≠ .cell) (hdot : scope.names.lookup (".0" : Str) = some NameKind.local) (hi : PI X tg iter wi) (hs : ∀ v, genFold iter X.env v = pure v)
    (I : Inv X pins σ H s) (h : wi σ H fun J H1 => GxR.TabG H1 P ∧ R J H1)
    (hQ : ∀ (it : Addr) (fp : List Addr) (tn : Nat → Heap → Prop) (J : It) (H1 H2 : Hp) (code : Value) (s4 : Shared) (h5 : Heap), Inv X pins σ H2 s4 → GxR.Tabbed P H1 H2 → Turn X.prog X.w X.K tg J fp it tn → tn 0 s4.heap →
      (∀ b ∈ fp, FpOk X pins H2 b ∧ b < s4.heap.objs.size) → R J H1 → h5.Ns s4.heap.objs.size (fun y => if y = ".0" then some (.ref it) else none) → Heap.SameBut s4.heap.objs.size (s4.heap.push { cls := .type "frame", data := .dict #[] }) h5 →
      Q' (.ref h5.objs.size) { s4 with gens := s4.gens.push (.fresh (.compStart (.GeneratorExp elt [⟨tg, iter, [], 0⟩] scope gpos) 0 (.ref it) .none (genEnv scope (cloFrom X.env.cells scope.names []) s4.heap.objs.size code builtinsNs X.env))), toks := s4.toks + 1 + 1 + 1, heap := h5.push (genO X s4) }) :
    wpAny (model X.prog X.w) X.A (eval (.GeneratorExp elt [⟨tg, iter, [], 0⟩] scope gpos) X.env) Q' X.xe s := by
  have hfree : ∀ y ∈ scope.names, y.2 = .free → ∃ c, X.env.cells.lookup y.1 = some c := fun y hy e => by
    rcases ok.free y hy e with z | z
    · exact I.ok.has _ (.inl z)
    · exact I.ok.has _ (.inr z)
  refine wpAny_GeneratorExp_make hco (closure_ok hfree) nocell hdot ok.kind (by have := hr.dp; omega) ?_ hs
  refine thn (hi.run pins s σ H _ I h) fun xv s1 hx => thn hx fun itv s2 h2 => ?_
  obtain ⟨it, fp, tn, J, H1, rfl, I1, T, st, f1, ⟨ps, hP, ht⟩, q1⟩ := h2
  have hPs : s2.heap.get? P = some { cls := .none, data := .fields ps } := I1.hok P _ hP
  have cd : PySem.W.CodeHd s2.heap c P := TB.code.keeps fun b u e => I1.bk b u e
  have nP : ∀ b, H1 b = none → b ≠ P := fun b e z => by
    rw [z, hP] at e
    cases e
  have fsz : ∀ b ∈ fp, b < s2.heap.objs.size := fun b hb => by
    obtain ⟨o, e, _⟩ := T.obj _ _ st b hb
    exact Heap.lt_size e
  have cont : ∀ (code : Value) (h3 : Heap) (tk : Nat) (ps' : Array Value), Heap.ExtBut P s2.heap h3 → s2.heap.objs.size ≤ h3.objs.size → h3.get? P = some { cls := .none, data := .fields ps' } → (∃ more, ps' = ps ++ more) → TriplesOk ps'.toList →
      wpAny (model X.prog X.w) X.A (builtinsFor X.env.globals X.env.builtins) (fun bi s4 => ∀ h5, h5.Ns s4.heap.objs.size (fun y => if y = ".0" then some (.ref it) else none) → Heap.SameBut s4.heap.objs.size (s4.heap.push { cls := .type "frame", data := .dict #[] }) h5 →
        Q' (.ref h5.objs.size) { s4 with gens := s4.gens.push (.fresh (.compStart (.GeneratorExp elt [⟨tg, iter, [], 0⟩] scope gpos) 0 (.ref it) .none (genEnv scope (cloFrom X.env.cells scope.names []) s4.heap.objs.size code bi X.env))), toks := s4.toks + 1 + 1 + 1, heap := h5.push (genO X s4) }) X.xe { s2 with heap := h3, toks := tk } := by
    intro code h3 tk ps' hx hsz hP3 hmore ht3
    obtain ⟨bm, ob, e1, e2, e3, e4, e5, e6, e7, e8⟩ := TB.bm
    have keep3 : ∀ b u, b ≠ P → s2.heap.get? b = some u → h3.get? b = some u := fun b u hb e => hx b u hb e
    refine wpAny_builtinsFor (m := X.mg) (by rw [I1.ok.glob]; exact (I1.mod.glob.keeps I1.bk).extBut hx TB.gP) e1 e2 (keep3 _ _ e4 (I1.bk _ _ e5)) e6 e7 e8 ?_
    intro h5 n5 b5
    obtain ⟨more, em⟩ := hmore
    have J0 := GxR.inv_tab (more := more) (h' := h3) (g' := s2.gens) (d' := s2.drawn) (t' := tk) I1 hP keep3 (by rw [← em]; exact hP3) I1.bare
    refine hQ it fp tn J H1 (upd H1 P (.tbl (ps ++ more))) code { s2 with heap := h3, toks := tk } h5 J0 ⟨⟨ps ++ more, upd_same, by rw [← em]; exact ht3⟩, fun b hb => upd_ne hb⟩ T ?_ ?_ q1 n5 b5
    · refine T.keep _ _ _ st fun b hb o e => keep3 b o (nP b (f1 b hb).1) e
    · intro b hb
      refine ⟨⟨?_, (f1 b hb).2⟩, Nat.lt_of_lt_of_le (fsz b hb) hsz⟩
      rw [upd_ne (nP b (f1 b hb).1)]
      exact (f1 b hb).1
  refine ⟨I1.nolimit, ?_⟩
  cases hf : codeAmong gpos ps.toList with
  | none =>
    refine wpAny_genexprCodeX hcode (cd.code hPs ht) (cd.tab hPs) hf fun c' h' tk hx hge hlt hco' _ htab' _ => ?_
    obtain ⟨o1, vs, f1', tf, fl, tg', inF, tx, tt, op, _, _, _, _, _, _, _, _, _, htr, _⟩ := hco'
    exact cont _ h' tk _ hx (Nat.le_trans hge (Nat.le_of_lt hlt)) htab'.2 ⟨_, rfl⟩ htr
  | some cv =>
    refine wpAny_genexprCode_hit hcode (cd.code hPs ht) hf ?_
    exact cont cv s2.heap s2.toks ps (Heap.ExtBut.refl _ _) (Nat.le_refl _) hPs ⟨#[], by simp⟩ ht
end
/-- nothing but the table of generators has changed -/
structure Woke (s s2 : Shared) : Prop where
  hp : s2.heap = s.heap
  os : s2.os = s.os
  br : AllBare s2.gens
theorem inv_woke {X : Cx} {pins : List (Addr × Obj)} {σ : L2.St} {H : Hp} {s s2 : Shared} (I : Inv X pins σ H s) (k : Woke s s2) : Inv X pins σ H s2 := by
  obtain ⟨h2, g2, d2, t2, o2⟩ := s2
  obtain ⟨h1, g1, d1, t1, o1⟩ := s
  obtain ⟨e1, e2, br⟩ := k
  dsimp only at e1 e2
  subst e1 e2
  exact ⟨I.ok, I.os, br, I.base, I.loc, I.cell, I.free, I.freeC, I.pin, I.hok, I.len⟩
/-- what a generator expression under all is asked -/
def gTurns (J : It) (g : TG) (te : TE) (σw : L2.St) (vs : List Nat) (W : Nat → Nat → Hp → Prop) (Q : Bool → Hp → Prop) : Prop :=
  ∀ i m H, W i m H → (J.stop i H ∧ Q true H) ∨ (J.go i H ∧ ∀ x H', J.yld i H x H' → g x σw H' fun σ2 H2 => wipe σ2 vs = σw ∧ te σ2 H2 fun y H3 => ∃ b, y = .bl b ∧ if b = true then ∃ m', m' < m ∧ W (i + 1) m' H3 else Q false H3)
def gFin (G : Cx) (pn : Addr × Obj) (σw : L2.St) (Q : Bool → Hp → Prop) (b : Bool) (s : Shared) : Prop := ∃ H', Inv G [pn] σw H' s ∧ Q b H'
def gY (G : Cx) (pn : Addr × Obj) (σw : L2.St) (Q : Bool → Hp → Prop) : Protocol := fun _ _ v s kap =>
  ∃ b : Bool, v = .bool b ∧ (∃ H', Inv G [pn] σw H' s) ∧ (b = true → ∀ s2, Woke s s2 → kap (.send .none) s2) ∧ (b = false → gFin G pn σw Q false s)
section
variable {G : Cx} {pn : Addr × Obj} {σw : L2.St} {Q : Bool → Hp → Prop} {A2 : Around} {elt tg iter : Expr} {scope : Scope} {gpos : Pos} {it : Addr} {fp : List Addr} {tn : Nat → Heap → Prop} {J : It} {g : TG} {te : TE} {vs : List Nat} {W : Nat → Nat → Hp → Prop}
theorem gen_loop (hA : G.A = A2.over (.compLoop (.GeneratorExp elt [⟨tg, iter, [], 0⟩] scope gpos) 0 (.ref it) .none G.env) []) (hc : G.calm = true) (hex : G.ex = fp) (hpn : G.pn = []) (hxe : G.xe = fun _ _ => False) (hco : G.env.scope.isCoroutine = false)
    (T : Turn G.prog G.w G.K tg J fp it tn) (hgp : ∀ b ∈ fp, pn.1 ≠ b) (pg : PG G tg g) (pe : PE G elt te) (hsw : ∀ σ2 : L2.St, wipe σ2 vs = σw → σ2.length = σw.length ∧ ∀ (i : Nat) v, σw[i]? = some (some v) → σ2[i]? = some (some v)) (turn : gTurns J g te σw vs W Q) :
    ∀ (m n i : Nat) (s₀ s : Shared), m < n → (∃ H', Inv G [pn] σw H' s ∧ tn i s.heap ∧ (∀ b ∈ fp, H' b = none) ∧ W i m H') →
      Seg (model G.prog G.w) A2 (fun _ _ r s1 => r = .ok .next ∧ gFin G pn σw Q true s1) (gY G pn σw Q) n s₀ (.compLoop (.GeneratorExp elt [⟨tg, iter, [], 0⟩] scope gpos) 0 (.ref it) .none G.env)
        ((model G.prog G.w).den (.compLoop (.GeneratorExp elt [⟨tg, iter, [], 0⟩] scope gpos) 0 (.ref it) .none G.env)) [] s := by
  have stat : ∀ {σ' : L2.St} {H' : Hp} {s' : Shared}, Inv G [pn] σ' H' s' → (∀ b ∈ fp, H' b = none) → ∀ b ∈ fp, FpOk G [pn] H' b := fun {σ' H' s'} I' hn b hb => by
    have hb2 : b ∈ G.ex := by
      rw [hex]
      exact hb
    refine ⟨hn b hb, (I'.ok.exf b hb2).1, I'.ok.exfs b hb2, .inl hb2, fun x c e => (I'.ok.exf b hb2).2 x c e, fun p hp => ?_⟩
    rw [hpn] at hp
    have hp2 : p ∈ [pn] := hp
    rw [List.mem_singleton.mp hp2]
    exact hgp b hb
  intro m
  induction m using Nat.strongRecOn with
  | ind m ih =>
    rintro n i s₀ s hmn ⟨H', I, st, nf, w⟩
    obtain ⟨n, rfl⟩ : ∃ n', n = n' + 1 := ⟨n - 1, by omega⟩
    show Seg _ A2 _ _ _ s₀ _ ((compTurn (.GeneratorExp elt [⟨tg, iter, [], 0⟩] scope gpos) 0 (.ref it) .none G.env).onRaise (leaving G.env)) [] s
    rw [compTurn_gen, Sem.onRaise_eq_wrap]
    refine seg_bind_wrap (wpAny_standAt ?_)
    rcases turn i m H' w with ⟨stop, qq⟩ | ⟨gox, step⟩
    · have td := T.done G rfl rfl rfl hc i [pn] s σw H' (fun _ _ => False) I (stat I nf) st stop
      rw [hA] at td
      refine seg_bind_wrap (thnF td fun r s6 z => ?_)
      obtain ⟨hr, I6⟩ := z
      subst hr
      exact seg_end (.ok .next) ⟨rfl, H', I6, qq⟩
    · have ti := T.item G rfl rfl rfl hc i [pn] s σw H' (fun _ _ => False) I (stat I nf) st gox
      rw [hA] at ti
      refine seg_bind_wrap (thnF ti fun r s6 z => ?_)
      obtain ⟨u, hr, h6⟩ := z
      subst hr
      refine seg_bind_wrap (thnF h6 fun _ s7 z => ?_)
      obtain ⟨x, H7, I7, r7, y7, st7, n7⟩ := z
      have I7' := I7.pinned (stat I7 n7) (T.obj _ _ st7)
      have pr := pg.run _ s7 _ H7 x u _ I7' r7 (step x H7 y7)
      rw [hA, hxe] at pr
      refine seg_bind_wrap (thnF pr fun _ s8 z => ?_)
      obtain ⟨σ8, H8, I8, hw8, q8⟩ := z
      have hy : ∀ v, yieldOut G.env v = yieldValue v := fun v => by simp only [yieldOut, hco, Bool.false_eq_true, if_false]
      simp only [List.forIn_nil, hy]
      refine seg_bind_wrap (wpAny_pure ?_)
      simp only [if_true]
      rw [Sem.bind_eq_wrap', Sem.bind_eq_wrap', Sem.wrap_wrap, Sem.wrap_wrap]
      have er := pe.run _ s8 σ8 H8 _ I8 q8
      rw [hA, hxe] at er
      refine seg_wrap (thnF er fun z s10 zz => ?_)
      obtain ⟨yv, H10, I10, r10, b, rfl, nx⟩ := zz
      cases r10
      have pin' : ∀ b ∈ fp, ∀ o, s7.heap.get? b = some o → s10.heap.get? b = some o ∧ H10 b = none := fun b hb o e =>
        let z := I10.pin (b, o) (List.mem_append_right _ (List.mem_append_right _ (mem_pinsAt hb e)))
        ⟨z.1, z.2.1⟩
      obtain ⟨hl8, hk8⟩ := hsw σ8 hw8
      have J10 : Inv G [pn] σw H10 s10 := (I10.unpinned (pins := [pn])).weak hl8.symm hk8
      refine seg_at (seg_yield rfl rfl rfl ⟨b, rfl, ⟨H10, J10⟩, fun hb s2 wk => ?_, fun hb => ?_⟩)
      · subst hb
        rw [if_pos rfl] at nx
        obtain ⟨m', hm', w'⟩ := nx
        refine seg_again rfl (ih m' hm' n (i + 1) s2 s2 (by omega) ⟨H10, inv_woke J10 wk, ?_, fun b hb => ?_, w'⟩)
        · rw [wk.hp]
          exact T.keep _ _ _ st7 fun b hb o e => (pin' b hb o e).1
        · obtain ⟨o, e, _⟩ := T.obj _ _ st7 b hb
          exact (pin' b hb o e).2
      · subst hb
        exact ⟨H10, J10, nx⟩
end
section
variable {M : Model} {A2 : Around} {R : GenEnd} {Y : Protocol} {n : Nat} {s₀ s : Shared} {elt tg iter : Expr} {scope : Scope} {gpos : Pos} {it : Addr} {ge : Env}
/-- the first turn -/
theorem gen_first {P : Program} {w : World} (hself : ∀ (Q : Value → Shared → Prop) (E : Value → Shared → Prop), Q (.ref it) s → wpAny (model P w) (A2.over (.compStart (.GeneratorExp elt [⟨tg, iter, [], 0⟩] scope gpos) 0 (.ref it) .none ge) []) (pyIter (.ref it)) Q E s)
    (loop : Seg (model P w) A2 R Y n s₀ (.compLoop (.GeneratorExp elt [⟨tg, iter, [], 0⟩] scope gpos) 0 (.ref it) .none ge) ((model P w).den (.compLoop (.GeneratorExp elt [⟨tg, iter, [], 0⟩] scope gpos) 0 (.ref it) .none ge)) [] s) :
    Seg (model P w) A2 R Y n s₀ (.compStart (.GeneratorExp elt [⟨tg, iter, [], 0⟩] scope gpos) 0 (.ref it) .none ge) ((model P w).den (.compStart (.GeneratorExp elt [⟨tg, iter, [], 0⟩] scope gpos) 0 (.ref it) .none ge)) [] s := by
  show Seg _ A2 _ _ _ s₀ _ ((compStart (.GeneratorExp elt [⟨tg, iter, [], 0⟩] scope gpos) 0 (.ref it) .none ge).onRaise (leaving ge)) [] s
  unfold compStart
  rw [Sem.onRaise_eq_wrap]
  show Seg _ A2 _ _ _ s₀ _ ((ask >>= _).wrap _ _ _ _) [] s
  refine seg_bind_wrap (wpAny_askSetting ?_)
  split
  · exact seg_again rfl loop
  · first
      | exact seg_bind_wrap (wpAny_rule (seg_bind_wrap (wpAny_standAt (seg_bind_wrap (hself _ _ (seg_again rfl loop))))))
      | (refine seg_bind_wrap (wpAny_rule ?_)
         show Seg _ A2 _ _ _ s₀ _ ((standAt iter.pos >>= _).wrap _ _ _ _) [] s
         exact seg_bind_wrap (wpAny_standAt (seg_bind_wrap (hself _ _ (seg_again rfl loop)))))
end
theorem bare_set {gens : Array GenState} {x : GenState} (h : AllBare gens) (hx : x.bare = true) (i : Nat) : AllBare (gens.setIfInBounds i x) := fun y hy => by
  rw [Array.mem_iff_getElem?] at hy
  obtain ⟨j, hj⟩ := hy
  by_cases e : i = j
  · subst e
    by_cases hi : i < gens.size
    · rw [Array.getElem?_setIfInBounds_self_of_lt hi] at hj
      rw [← Option.some.inj hj]
      exact hx
    · rw [Array.getElem?_eq_none (by simpa using hi)] at hj
      cases hj
  · rw [Array.getElem?_setIfInBounds_ne e] at hj
    exact h y (Array.mem_iff_getElem?.mpr ⟨j, hj⟩)
/-- all over the generator at a, number gi: its turns by the protocol -/
theorem all_gen {G : Cx} {pn : Addr × Obj} {σw : L2.St} {Q : Bool → Hp → Prop} {A : Around} {gi : Nat} {RR : Result → Shared → Prop} (hh : A.handled = none) (hroom : A.depth < recursionLimit) (hgen : ∀ h : Heap, h.get? pn.1 = some pn.2 → h.IsGen pn.1 gi)
    (hR : ∀ b s1, gFin G pn σw Q b s1 → ∀ s2 : Shared, (∀ b o, s1.heap.get? b = some o → s2.heap.get? b = some o) → s2.os = s1.os → AllBare s2.gens → RR (.ok (.ret (.bool b))) s2) :
    ∀ (n : Nat) (s : Shared), (∃ H', Inv G [pn] σw H' s) → gi < s.gens.size → (∃ gs, s.gens[gi]? = some gs ∧ ∀ s2, Woke s s2 → gs.Goes (model G.prog G.w) A.in1.in1 (fun _ _ r s1 => r = .ok .next ∧ gFin G pn σw Q true s1) (gY G pn σw Q) n (.send .none) s2) →
      codeAny (model G.prog G.w) A (.builtin "all.loop" ⟨[.ref pn.1], []⟩) RR s := by
  intro n
  induction n using Nat.strongRecOn with
  | ind n ih =>
    rintro s ⟨H', I⟩ hgi ⟨gs, hgs, hgo⟩
    have hpin := (I.pin pn (List.mem_append_right _ (List.mem_singleton.mpr rfl))).1
    have brun : AllBare (s.setGen gi .running).gens := bare_set I.bare rfl gi
    refine codeAny_builtin F.entry_all_loop ?_
    rw [Around.under_plainId F.plain_all_loop _]
    show wpAny _ A.in1 (pyNext (.ref pn.1) >>= _) _ _ s
    refine wpAny_bind (GenW.wpAny_gsz (n := s.gens.size) (Nat.le_refl _) ?_)
    refine wpAny_pyNext_genexpQ (P := fun _ _ s1 => gFin G pn σw Q true s1) hh I.nolimit hroom (hgen _ hpin) hgs (hgo _ ⟨rfl, rfl, brun⟩) (fun v s₁ gs' hb hv hsz => ?_) (fun s₁ hp h' hk hsz => ?_)
    · obtain ⟨b, rfl, ⟨H1, I1⟩, ht, hf⟩ := hv
      have b1 : AllBare (s₁.setGen gi gs').gens := bare_set I1.bare hb gi
      refine wpAny_bind (wpAny_holding (wpAny_truthy_bool ?_))
      refine wpAny_bind (wpAny_letGo ?_)
      cases b with
      | false =>
        simp only [Bool.false_eq_true, if_false]
        refine wpAny_bind (wpAny_rule (wpAny_pure ?_))
        exact hR false s₁ (hf rfl) (s₁.setGen gi gs') (fun _ _ e => e) rfl b1
      | true =>
        simp only [if_true]
        have hlt : gi < (s₁.setGen gi gs').gens.size := Nat.lt_of_lt_of_le hgi hsz
        have hlt1 : gi < s₁.gens.size := by
          have e := GenW.setGen_size s₁ gi gs'
          omega
        cases n with
        | zero => exact absurd (ht rfl s₁ ⟨rfl, rfl, I1.bare⟩) id
        | succ n =>
          refine wpAny_pure ⟨plainId_quiet F.plain_all_loop _, ih n (Nat.lt_succ_self n) (s₁.setGen gi gs') ⟨H1, inv_woke I1 ⟨rfl, rfl, b1⟩⟩ hlt ⟨gs', ?_, fun s2 wk => ht rfl s2 ⟨wk.hp, wk.os, wk.br⟩⟩⟩
          show (s₁.gens.setIfInBounds gi gs')[gi]? = some gs'
          rw [Array.getElem?_setIfInBounds_self_of_lt hlt1]
    · refine wpAny_bind (wpAny_rule (wpAny_pure ?_))
      obtain ⟨H1, I1, q1⟩ := id hp
      exact hR true s₁ hp { s₁.setGen gi .finished with heap := h' } hk rfl (bare_set I1.bare rfl gi)
def tAllG (P : Addr) (wi : TI) (g : TG) (te : TE) (vs : List Nat) : TE := fun σ H Q => wi σ H fun J H1 => GxR.TabG H1 P ∧ ∀ H2, GxR.Tabbed P H1 H2 → ∃ W : Nat → Nat → Hp → Prop, (∃ m, W 0 m H2) ∧ gTurns J g te (wipe σ vs) vs W (fun b H' => Q (.bl b) H')
theorem pe_allG {X : Cx} {c P : Addr} {elt tg iter : Expr} {p pos gpos : Pos} {scope : Scope} {own : List (Str × Nat)} {wi : TI} {g : TG} {te : TE} {k : Nat} (hr : Room (k + 1) X.A) (hc : X.calm = true) (hN : X.N.Nodup) (hg : Gl X "all") (hm : X.mg "all" = none) (hb : bootBuiltins "all" = some (.builtin "all"))
    (TB : GxR.TabB X.base X.mg c P) (hcode : X.env.code = .ref c) (ok : BlkOk X.N X.env.scope scope own) (hco : scope.isCoroutine = false) (nocell : ∀ y ∈ scope.names, y.2 ≠ .cell) (hdot : scope.names.lookup (".0" : Str) = some NameKind.local) (hi : PI X tg iter wi)
    (hgt : ∀ (s : Shared) (H : Hp) (cl : List (Str × Addr)) (C : Addr) (code : Value) (fp : List Addr) (Ag : Around), PG (gcx X s H (genEnv scope cl C code builtinsNs X.env) fp Ag) tg g)
    (hel : ∀ (s : Shared) (H : Hp) (cl : List (Str × Addr)) (C : Addr) (code : Value) (fp : List Addr) (Ag : Around), Room k Ag → PE (gcx X s H (genEnv scope cl C code builtinsNs X.env) fp Ag) elt te)
    (hs : ∀ v, genFold iter X.env v = pure v := by intro _; rfl)
    (he : starEach [.GeneratorExp elt [⟨tg, iter, [], 0⟩] scope gpos] X.env = (false, eval (.GeneratorExp elt [⟨tg, iter, [], 0⟩] scope gpos) X.env) :: starEach [] X.env := by rfl) :
    PE X (.Call (.Name "all" p) [.GeneratorExp elt [⟨tg, iter, [], 0⟩] scope gpos] [] pos) (tAllG P wi g te (own.map (·.2))) := by
  constructor
  intro pins s σ H Q I h
  refine wpAny_Call_Name_kw (ld_blt I hg hm hb ?_)
  refine PyProof.Rows.callWith_builtin1 ?_ he (by rfl)
  rw [he]
  show wpAny _ _ (spliced ((false, eval (.GeneratorExp elt [⟨tg, iter, [], 0⟩] scope gpos) X.env) :: backTo pos (starEach [] X.env))) _ _ s
  refine Calls.spliced_cons (gen_make (hr.mono (Nat.le_succ k)) TB hcode ok hco nocell hdot hi hs I h fun it fp tn J H1 H2 code s4 h5 I4 tb T st f4 hR n5 b5 => ?_)
  refine Calls.spliced_nil ?_
  obtain ⟨W, ⟨m, w0⟩, turns⟩ := hR H2 tb
  show wpAny _ _ (call (.builtin "all") [.ref h5.objs.size]) _ _ _
  have sz5 : h5.objs.size = s4.heap.objs.size + 1 := by
    rw [b5.1, Heap.size_push]
  generalize hge : genEnv scope (cloFrom X.env.cells scope.names []) s4.heap.objs.size code builtinsNs X.env = ge
  have k5 : ∀ b o, s4.heap.get? b = some o → (h5.push (genO X s4)).get? b = some o := fun b o e =>
    Heap.get?_push_of_some _ (b5.extBut b o (Nat.ne_of_lt (Heap.lt_size e)) (Heap.get?_push_of_some _ e))
  have ga5 : (h5.push (genO X s4)).get? h5.objs.size = some (genO X s4) := Heap.get?_push_size _ rfl
  have hAg : (X.A.in1.in1.over (.compLoop (.GeneratorExp elt [⟨tg, iter, [], 0⟩] scope gpos) 0 (.ref it) .none ge) []).handled = none := hr.hd
  have hFr : (X.A.in1.in1.over (.compLoop (.GeneratorExp elt [⟨tg, iter, [], 0⟩] scope gpos) 0 (.ref it) .none ge) []).frames = some (ge :: X.stack) := by
    show pushEnvs [ge] (pushEnvs [] X.A.frames) = some (ge :: X.stack)
    rw [I4.ok.frames]
    rfl
  have hRm : Room k (X.A.in1.in1.over (.compLoop (.GeneratorExp elt [⟨tg, iter, [], 0⟩] scope gpos) 0 (.ref it) .none ge) []) := by
    have e1 : (X.A.in1.in1.over (.compLoop (.GeneratorExp elt [⟨tg, iter, [], 0⟩] scope gpos) 0 (.ref it) .none ge) []).depth = X.A.depth + 1 := rfl
    have e2 : (X.A.in1.in1.over (.compLoop (.GeneratorExp elt [⟨tg, iter, [], 0⟩] scope gpos) 0 (.ref it) .none ge) []).units = X.A.units + 5 := rfl
    have d1 := hr.dp
    have d2 := hr.un
    exact ⟨hr.hd, by rw [e1]; omega, by rw [e2]; omega⟩
  have I5 := gen_start (s5 := { s4 with gens := s4.gens.push (.fresh (.compStart (.GeneratorExp elt [⟨tg, iter, [], 0⟩] scope gpos) 0 (.ref it) .none ge)), toks := s4.toks + 1 + 1 + 1, heap := h5.push (genO X s4) }) I4 ok hN f4 hge.symm nocell hAg hFr k5 rfl (I4.bare.push rfl) (n5.keeps fun b o e => Heap.get?_push_of_some _ e) ga5 (by omega) (fun v z => by cases z)
  have st5 : tn 0 (h5.push (genO X s4)) := T.keep _ _ _ st fun b _ o e => k5 b o e
  refine call_function_tree F.kind_all F.plain_all F.entry_all (F.args_all1 _) ?_
  unfold Builtin.«all»
  refine wpAny_bind (m := oneArg "all" _) (wpAny_pure ?_)
  have isg : ∀ hh : Heap, hh.get? h5.objs.size = some (genO X s4) → hh.IsGen h5.objs.size s4.gens.size := fun hh e => ⟨_, _, _, e, rfl, rfl, rfl⟩
  refine wpAny_bind (wpAny_pyIter_gen (isg _ ga5) ?_)
  refine wpAny_pure ⟨plainId_quiet F.plain_all_loop _, ?_⟩
  refine all_gen (G := gcx X s4 H2 ge fp (X.A.in1.in1.over (.compLoop (.GeneratorExp elt [⟨tg, iter, [], 0⟩] scope gpos) 0 (.ref it) .none ge) [])) (pn := (h5.objs.size, genO X s4)) (σw := wipe σ (own.map (·.2))) (Q := fun b H' => Q (.bl b) H') (gi := s4.gens.size)
    hr.hd (by have := hr.dp; omega) isg (fun b s1 hf s2 hk ho hbr => ?_) (m + 1) _ ⟨H2, I5⟩ (by show s4.gens.size < (s4.gens.push _).size; rw [Array.size_push]; omega) ⟨.fresh (.compStart (.GeneratorExp elt [⟨tg, iter, [], 0⟩] scope gpos) 0 (.ref it) .none ge), by show (s4.gens.push _)[s4.gens.size]? = some _; rw [Array.getElem?_push_size], fun s2 wk => ⟨rfl, ?_⟩⟩
  · obtain ⟨H', I', q'⟩ := hf
    have un : Un (frs X.stack) fp H2 H' s4.heap s2.heap := Un.trans I'.base (Un.kept hk)
    have J' : Inv X pins σ H' s2 := I4.call' (ch := fp) (ho.trans I'.os) un (I'.hok.kept hk) hbr fun b hb => ⟨(f4 b hb).1.2.2.2.1, (f4 b hb).1.2.1, (f4 b hb).1.2.2.2.2.1, (f4 b hb).1.2.2.2.2.2⟩
    exact ⟨.bl b, H', J', rfl, q'⟩
  · have nfp : ∀ b ∈ fp, H2 b = none := fun b hb => (f4 b hb).1.1
    refine gen_first (fun Q1 E1 q1 => T.self _ 0 s2 Q1 E1 (by rw [wk.hp]; exact st5) q1) ?_
    refine gen_loop (G := gcx X s4 H2 ge fp (X.A.in1.in1.over (.compLoop (.GeneratorExp elt [⟨tg, iter, [], 0⟩] scope gpos) 0 (.ref it) .none ge) [])) (tn := tn) (vs := own.map (·.2)) (W := W) rfl hc rfl rfl rfl ?_ T (fun b hb => ?_) ?_ ?_ ?_ turns m (m + 1) 0 s2 s2 (Nat.lt_succ_self m) ⟨H2, inv_woke I5 wk, by rw [wk.hp]; exact st5, nfp, w0⟩
    · show ge.scope.isCoroutine = false
      rw [← hge]
      exact hco
    · have hb4 : b < s4.heap.objs.size := (f4 b hb).2
      intro z
      have z2 : h5.objs.size = b := z
      rw [← z2, sz5] at hb4
      exact absurd hb4 (Nat.not_lt.mpr (Nat.le_succ _))
    · rw [← hge]
      exact hgt _ _ _ _ _ _ _
    · subst hge
      exact hel _ _ _ _ _ _ _ hRm
    · intro σ2 e2
      refine ⟨?_, fun i v e3 => ?_⟩
      · rw [← wipe_length σ2 (own.map (·.2)), e2]
      · rw [← e2] at e3
        exact (wipe_some e3).1

/-- all over zip of two tuples of one length -/
theorem gturns_zipT {K : PySem.W.Frag} {a b : Addr} {xs ys : List V} {g : TG} {te : TE} {σw : L2.St} {vs : List Nat} {Q : Bool → Hp → Prop} {H : Hp} (hl : xs.length = ys.length) (Pv : Nat → Hp → Prop) (h0 : Pv 0 H) (hq : ∀ i H, Pv i H → SqT K H a xs ∧ SqT K H b ys)
    (hs : ∀ (i : Nat) (x y : V) (T : Addr) (H : Hp) (N : Hp → Prop), xs[i]? = some x → ys[i]? = some y → Pv i H → H T = none → (∀ H3, Pv (i + 1) H3 → N H3) → g (.ref T) σw (upd H T (.tup [x, y])) fun σ2 H2 => wipe σ2 vs = σw ∧ te σ2 H2 fun v H3 => ∃ b, v = .bl b ∧ if b = true then N H3 else Q false H3)
    (hd : ∀ H, Pv xs.length H → Q true H) : ∃ W : Nat → Nat → Hp → Prop, (∃ m, W 0 m H) ∧ gTurns (RZ.ItzT K a b) g te σw vs W Q := by
  refine ⟨fun i m H => m = xs.length - i ∧ i ≤ xs.length ∧ Pv i H, ⟨xs.length, rfl, Nat.zero_le _, h0⟩, fun i m H st => ?_⟩
  obtain ⟨em, le, pv⟩ := st
  have two := hq i H pv
  rcases Nat.lt_or_eq_of_le le with lt | eq
  · refine .inr ⟨⟨xs, ys, xs[i], ys[i], two.1, two.2, List.getElem?_eq_getElem lt, List.getElem?_eq_getElem (hl ▸ lt)⟩, fun v H' y => ?_⟩
    obtain ⟨tp, a1, a2, rfl, free, rfl, w1, w2⟩ := y
    exact hs i a1 a2 tp H _ (w1 xs two.1) (w2 ys two.2) pv free fun H3 p' => ⟨xs.length - (i + 1), by omega, rfl, lt, p'⟩
  · subst eq
    exact .inl ⟨⟨xs, ys, two.1, two.2, Or.inl (Nat.le_refl _)⟩, hd H pv⟩

/-! ### zip of a text and a tuple -/
def ItzS (K : PySem.W.Frag) (x : Str) (b : Addr) : It :=
  ⟨fun i H => ∃ (ys : List V) (c : Nat) (y : V), SqT K H b ys ∧ x.cps[i]? = some c ∧ ys[i]? = some y,
    fun i H v H' => ∃ (T : Addr) (c : Nat) (y : V), v = .ref T ∧ H T = none ∧ H' = upd H T (.tup [.str ⟨#[c]⟩, y]) ∧ x.cps[i]? = some c ∧ ∀ ys, SqT K H b ys → ys[i]? = some y,
    fun i H => ∃ ys : List V, SqT K H b ys ∧ i ≤ x.cps.size ∧ i ≤ ys.length ∧ (i = x.cps.size ∨ i = ys.length)⟩
theorem zip_sep {z TI TO i1 i2 b : Addr} (D : ZipApart z TI TO i1 i2 b b) : ZipSep2 z TI TO i1 i2 [i1] [i2, b] where
  TIz := D.TIz
  TOz := D.TOz
  TITO := D.TITO
  TIi1 := D.TIi1
  mem1 := List.mem_singleton.mpr rfl
  zf1 := fun h => D.i1z (List.mem_singleton.mp h).symm
  Tf1 := fun h => D.TOi1 (List.mem_singleton.mp h)
  TIi2 := D.TIi2
  mem2 := List.mem_cons_self
  zf2 := fun h => by
    rcases List.mem_cons.mp h with e | e
    · exact D.i2z e.symm
    · exact D.l1z (List.mem_singleton.mp e).symm
  Tf2 := fun h => by
    rcases List.mem_cons.mp h with e | e
    · exact D.TOi2 e
    · exact D.l1TO (List.mem_singleton.mp e).symm
  sep1_2 := fun h => by
    rcases List.mem_cons.mp h with e | e
    · exact D.i12 e
    · exact D.l1i1 (List.mem_singleton.mp e).symm
  sep2_1 := fun h => D.i12 (List.mem_singleton.mp h).symm
/-- the five cells of a running zip of the text x and the tuple at b, i turns done -/
structure ZipGo (x : Str) (t : Tok) (z TI TO i1 i2 b : Addr) (i : Nat) (h : Heap) : Prop where
  zp : IsZip h z TI TO .none
  ins : IsPair h TI (.ref i1) (.ref i2)
  out : ∃ p : Value × Value, IsPair h TO p.1 p.2
  txt : h.IsStrIter i1 (strIterType x) x t i
  tup : h.IsTupleIter i2 b i
theorem five {z TI TO i1 i2 c : Addr} {Pr : Addr → Prop} (h : c ∈ [z, TI, TO, i1, i2]) (pz : Pr z) (pI : Pr TI) (pO : Pr TO) (p1 : Pr i1) (p2 : Pr i2) : Pr c := by
  simp only [List.mem_cons, List.not_mem_nil, or_false] at h
  rcases h with rfl | rfl | rfl | rfl | rfl
  all_goals assumption
theorem apart5 {z TI TO i1 i2 c : Addr} (h : c ∉ [z, TI, TO, i1, i2]) : c ≠ z ∧ c ≠ TO ∧ c ≠ i1 ∧ c ≠ i2 := by
  simp only [List.mem_cons, List.not_mem_nil, or_false, not_or] at h
  exact ⟨h.1, h.2.2.1, h.2.2.2.1, h.2.2.2.2⟩
section
variable {x : Str} {t : Tok} {z TI TO i1 i2 b : Addr} {i : Nat} {h h' : Heap}
theorem ZipGo.obj (g : ZipGo x t z TI TO i1 i2 b i h) {c : Addr} (hc : c ∈ [z, TI, TO, i1, i2]) : ∃ o, h.get? c = some o ∧ ∀ v, o.data ≠ .cell v := by
  obtain ⟨p, hp⟩ := g.out
  obtain ⟨oa, ea, _, da⟩ := g.txt
  obtain ⟨ob, eb, _, db⟩ := g.tup
  refine five (Pr := fun c => ∃ o, h.get? c = some o ∧ ∀ v, o.data ≠ .cell v) hc ⟨_, g.zp, ?_⟩ ⟨_, g.ins, ?_⟩ ⟨_, hp, ?_⟩ ⟨oa, ea, ?_⟩ ⟨ob, eb, ?_⟩
  · intro v e; cases e
  · intro v e; cases e
  · intro v e; cases e
  · intro v e; rw [da] at e; cases e
  · intro v e; rw [db] at e; cases e
theorem ZipGo.lt (g : ZipGo x t z TI TO i1 i2 b i h) {c : Addr} (hc : c ∈ [z, TI, TO, i1, i2]) : c < h.objs.size := by
  obtain ⟨o, e, _⟩ := g.obj hc
  exact Heap.lt_size e
theorem ZipGo.on (g : ZipGo x t z TI TO i1 i2 b i h) (k : ∀ c ∈ [z, TI, TO, i1, i2], ∀ o, h.get? c = some o → h'.get? c = some o) : ZipGo x t z TI TO i1 i2 b i h' := by
  obtain ⟨p, hp⟩ := g.out
  obtain ⟨oa, ea, ra⟩ := g.txt
  exact ⟨k z (by simp) _ g.zp, k TI (by simp) _ g.ins, ⟨p, k TO (by simp) _ hp⟩, ⟨oa, k i1 (by simp) _ ea, ra⟩, g.tup.at (k i2 (by simp))⟩
end
theorem turn_zipS {P : Program} {w : World} {K : PySem.W.Frag} {elts : List Expr} {kk : Nat} {tpos : Pos} {x : Str} {t : Tok} {b z TI TO i1 i2 : Addr} (D : ZipApart z TI TO i1 i2 b b) :
    Turn P w K (.Tuple elts kk tpos) (ItzS K x b) [z, TI, TO, i1, i2] z (ZipGo x t z TI TO i1 i2 b) where
  mem := List.mem_cons_self
  obj := fun _ _ g _ hc => g.obj hc
  keep := fun _ _ _ g k => g.on k
  item := by
    intro X eP ew eK calm n pins s σ H E I fps g go
    subst eP ew eK
    obtain ⟨ys, c, y, tys, ec, ey⟩ := go
    obtain ⟨vs, rel, tupAt, _⟩ := I.tuple tys
    obtain ⟨u, eu, ru⟩ := rel.get ey
    obtain ⟨p, hp⟩ := g.out
    have zlt := g.lt (c := z) (by simp)
    have n1 : n < x.cps.size := Nat.lt_of_not_le fun le => by
      rw [Array.getElem?_eq_none le] at ec
      cases ec
    have n2 : n < vs.toArray.size := by simpa using (List.getElem?_eq_some_iff.mp eu).1
    have calmA : X.A.in1.handled = none := I.ok.hd calm
    refine wpAny_pyNext_zipD2_item (zip_sep D) (Draws.text calmA i1 x t) (Draws.tuple calmA i2 b D.l1i2 vs.toArray) g.zp g.ins hp g.txt ⟨g.tup, tupAt⟩ n1 n2 fun v1 v2 h1 tk P1 P2 zp1 out1 txt1 tup1 new1 _ kept1 => ?_
    obtain ⟨c', k, ec', rfl⟩ := P1
    obtain rfl : c = c' := Option.some.inj (ec.symm.trans ec')
    obtain rfl : u = v2 := Option.some.inj (eu.symm.trans (by simpa using P2))
    refine ⟨_, rfl, wpAny_letOwnedTupleGo_zip (s := { s with heap := h1, toks := tk }) zp1 fun h2 zp2 sb => ?_⟩
    have up : ∀ d, d ≠ z → h2.get? d = h1.get? d := fun d nd => sb.2 d nd
    have kept2 : ∀ d o, d ∉ [z, TI, TO, i1, i2] → s.heap.get? d = some o → h2.get? d = some o := fun d o nd e => by
      obtain ⟨a1, a2, a3, a4⟩ := apart5 nd
      rw [up d a1]
      exact kept1 d o a1 a2 a3 a4 e
    have new2 : h2.get? s.heap.objs.size = some { cls := .type "tuple", data := .seq #[.str ⟨#[c]⟩ k, u] } := (up _ (Nat.ne_of_gt zlt)).trans new1
    have I2 := I.turnedNew (t' := tk) (ch := [z, TI, TO, i1, i2]) (ob := .tup [.str ⟨#[c]⟩, y]) kept2 fps (Nat.le_refl _) ⟨show 2 ≤ sizeLine by decide, [.str ⟨#[c]⟩ k, u], .cons ⟨k, rfl⟩ (.cons ru .nil), ⟨_, new2, rfl, _, rfl⟩⟩
    refine ⟨.ref s.heap.objs.size, _, I2, rfl, ⟨_, c, y, rfl, I.hok.fresh (Nat.le_refl _), rfl, ec, fun l tl => (I.tuple_inj tl tys) ▸ ey⟩, ⟨zp2, ?_, ⟨(_, _), (up _ D.TOz).trans out1⟩, ?_, tup1.1.at fun o e => (up _ D.i2z).trans e⟩, fun d hd => ?_⟩
    · exact (up _ D.TIz).trans (kept1 TI _ D.TIz D.TITO D.TIi1 D.TIi2 g.ins)
    · obtain ⟨o, e, r⟩ := txt1
      exact ⟨o, (up _ D.i1z).trans e, r⟩
    · rw [upd_ne (Nat.ne_of_lt (g.lt hd))]
      exact (fps d hd).1
  done := by
    intro X eP ew eK calm n pins s σ H E I fps g stop
    subst eP ew eK
    obtain ⟨ys, tys, le1, le2, last⟩ := stop
    obtain ⟨vs, rel, tupAt, _⟩ := I.tuple tys
    obtain ⟨p, hp⟩ := g.out
    have lv : vs.toArray.size = ys.length := by simpa using rel.length.symm
    have calmA : X.A.in1.handled = none := I.ok.hd calm
    refine wpAny_pyNext_zipD2_end (zip_sep D) (Draws.text calmA i1 x t) (Draws.tuple calmA i2 b D.l1i2 vs.toArray) g.zp g.ins hp g.txt ⟨g.tup, tupAt⟩ le1 (by omega) (by omega) fun h1 tk kept1 => ⟨rfl, ?_⟩
    refine I.turnedL (t' := tk) (ch := [z, TI, TO, i1, i2]) (fun d o nd e => ?_) fps
    obtain ⟨a1, a2, a3, a4⟩ := apart5 nd
    exact kept1 d o a1 a2 a3 a4 e
  self := fun _ _ _ _ _ g q => wpAny_pyIter_zip g.zp q
def iZipS (K : PySem.W.Frag) (ta : TA) : TI := fun σ H R => ta σ H fun vs H1 => ∃ x b ys, vs = [.str x, .ref b] ∧ SqT K H1 b ys ∧ R (ItzS K x b) H1
theorem pi_zipS {X : Cx} {ea eb : Expr} {ta : TA} {p pos tpos : Pos} {elts : List Expr} {kk : Nat} (gl : Gl X "zip") (own : X.mg "zip" = none) (args : PA X [ea, eb] ta)
    (star : starEach [ea, eb] X.env = (false, eval ea X.env) :: starEach [eb] X.env := by rfl) (plain : (backTo pos (starEach [eb] X.env)).any (·.1) = false := by rfl) :
    PI X (.Tuple elts kk tpos) (.Call (.Name "zip" p) [ea, eb] [] pos) (iZipS X.K ta) := by
  constructor
  intro pins s σ H R I q
  refine Call_ (ld_blt I gl own PyProof.Rows.boot_zip (PyProof.Rows.callWith_type1 ?_ star plain))
  refine thn (args.run pos pins s σ H _ I q) fun us s1 ans => ?_
  obtain ⟨vs, H1, J, rel, x, b, ys, rfl, tys, go⟩ := ans
  obtain ⟨u1, u2, rfl, r1, r2⟩ := vals2 rel
  obtain ⟨t, rfl⟩ := r1
  obtain rfl : u2 = Value.ref b := r2
  obtain ⟨its, _, tupAt, _⟩ := J.tuple tys
  have blt : b < s1.heap.objs.size := by
    obtain ⟨_, e, _⟩ := id tupAt
    exact Heap.lt_size e
  have fresh : ∀ c, s1.heap.objs.size ≤ c → FpOk X pins H1 c := fun c le => J.fpOk le (J.hok.fresh le)
  refine zip_begins2 (begins_text x t) (begins_tuple b its.toArray) trivial tupAt fun h2 zp ins out o1 o2 _ kept => wpAny_pyIter_zip zp ?_
  refine ⟨_, [s1.heap.objs.size + 4, s1.heap.objs.size + 2, s1.heap.objs.size + 3, s1.heap.objs.size, s1.heap.objs.size + 1], _, _, H1, rfl, J.kept (t' := s1.toks) kept, turn_zipS (t := t) (PySem.W.ktu_apart s1.heap.objs.size b b blt blt), ?_, fun c hc => ?_, go⟩
  · exact ⟨zp, ins, ⟨(_, _), out⟩, ⟨_, o1, rfl, rfl⟩, ⟨_, o2, rfl, rfl⟩⟩
  · exact five (Pr := FpOk X pins H1) hc (fresh _ (by omega)) (fresh _ (by omega)) (fresh _ (by omega)) (fresh _ (by omega)) (fresh _ (by omega))
/-- a loop over zip of a text and a tuple of one length -/
theorem for_zipS {K : PySem.W.Frag} {x : Str} {b : Addr} {ys : List V} {g : TG} {tb : TS} {D : Ends} {σ : L2.St} {H : Hp} (hl : x.cps.size = ys.length) (Pv : Nat → L2.St → Hp → Prop) (h0 : Pv 0 σ H) (hq : ∀ i σ H, Pv i σ H → SqT K H b ys)
    (hs : ∀ (i c : Nat) (y : V) (T : Addr) (σ : L2.St) (H : Hp), x.cps[i]? = some c → ys[i]? = some y → Pv i σ H → H T = none → g (.ref T) σ (upd H T (.tup [.str ⟨#[c]⟩, y])) fun σ2 H2 => tb { D with nx := Pv (i + 1), ct := Pv (i + 1), bk := D.nx } σ2 H2) (hd : ∀ σ H, Pv ys.length σ H → D.nx σ H) :
    ∃ W : Nat → Nat → L2.St → Hp → Prop, (∃ m, W 0 m σ H) ∧ ∀ i m σ H, W i m σ H →
      ((ItzS K x b).stop i H ∧ D.nx σ H) ∨ ((ItzS K x b).go i H ∧ ∃ N : L2.St → Hp → Prop, (∀ σ' H', N σ' H' → ∃ m', m' < m ∧ W (i + 1) m' σ' H') ∧ ∀ v H', (ItzS K x b).yld i H v H' → g v σ H' fun σ2 H2 => tb { D with nx := N, ct := N, bk := D.nx } σ2 H2) := by
  refine ⟨fun i m σ H => m = ys.length - i ∧ i ≤ ys.length ∧ Pv i σ H, ⟨ys.length, rfl, Nat.zero_le _, h0⟩, fun i m σ H st => ?_⟩
  obtain ⟨em, le, pv⟩ := st
  have tys := hq i σ H pv
  rcases Nat.lt_or_eq_of_le le with lt | eq
  · refine .inr ⟨⟨ys, x.cps[i], ys[i], tys, Array.getElem?_eq_getElem (hl.symm ▸ lt), List.getElem?_eq_getElem lt⟩, Pv (i + 1), fun σ' H' p' => ⟨ys.length - (i + 1), by omega, rfl, lt, p'⟩, fun v H' y => ?_⟩
    obtain ⟨tp, c, a2, rfl, free, rfl, w1, w2⟩ := y
    exact hs i c a2 tp σ H w1 (w2 ys tys) pv free
  · subst eq
    exact .inl ⟨⟨ys, tys, Nat.le_of_eq hl.symm, Nat.le_refl _, .inr rfl⟩, hd σ H pv⟩
/-! ### d.update(e) -/
def tDUpd (td ty : TE) : TE := fun σ H Q => td σ H fun x H1 => ∃ a, x = .ref a ∧ IsD H1 a ∧ ty σ H1 fun y H2 => ∃ b kvs more, y = .ref b ∧ H2 a = some (.dK kvs) ∧ H2 b = some (.dK more) ∧ a ≠ b ∧ kvs.length + more.length ≤ sizeLine ∧ Q .non (upd H2 a (.dK (mergeK kvs more)))
theorem pe_dupd {X : Cx} {o e : Expr} {apos cpos : Pos} {td ty : TE} (ho : PE X o td) (he : PE X e ty) (m : M1 X o "update" apos e cpos) : PE X (.Call (.Attribute o "update" apos) [e] [] cpos) (tDUpd td ty) := by
  refine ⟨fun pins s σ H Q I h => ?_⟩
  refine wpAny_Call_method m.base m.few m.line PySem.F.plainAttrs_dict PySem.F.slot_dict_update PySem.F.type_dict_update (thn (ho.run pins s σ H _ I h) fun u s1 ⟨x, H1, I1, rx, a, ex, d, q1⟩ => ?_)
  subst ex
  obtain rfl : u = Value.ref a := rx
  obtain ⟨t1, t2, _⟩ := isD_at I1 d
  refine ⟨t1, t2, ?_⟩
  rw [m.trees]
  refine Calls.callWith_builtin rfl (Calls.evalArgs_plain (Calls.spliced_cons (thn (he.run pins s1 σ H1 _ I1 q1) fun iv s2 ⟨y, H2, I2, ry, b, kvs, more, ey, ea, eb, ne, hz, q2⟩ => Calls.spliced_nil ?_)))
  subst ey
  obtain rfl : iv = Value.ref b := ry
  obtain ⟨za, hda, vs, ra, dda⟩ := dk_of I2.hok ea
  obtain ⟨zb, hdb, ws, rb, ddb⟩ := dk_of I2.hok eb
  refine call_meetsIn PySem.F.slot_dict_update dda.typeIs PySem.F.entry_dict_update (PySem.F.args_dict_update_2 _ _) (meets_dict_update (mixKind X.prog X.w) a b ne hdb) ⟨vs, ws, dda, ddb, (by rw [← ra.length, ← rb.length]; exact hz), fun h' hmm _ hs => ?_⟩
  have he' : ∃ q, h'.get? a = some q := let ⟨q, _, _, hq, _⟩ := hmm; ⟨q, hq⟩
  exact ⟨.non, _, d_write I2 (by rw [ea]; exact True.intro) hs he' (dk_new (Nat.le_trans (length_mergeK more kvs) hz) hda (rb.merge ra) hmm), rfl, q2⟩
/-! ### list(text), tuple == () -/
def sgs (x : Str) : List V := x.cps.toList.map fun c => V.str ⟨#[c]⟩
theorem vals_at : ∀ {xs : List V} {us : List Value}, xs.length = us.length → (∀ (j : Nat) (v : V) (u : Value), xs[j]? = some v → us[j]? = some u → RelV v u) → Vals xs us
  | [], [], _, _ => .nil
  | [], _ :: _, h, _ => nomatch h
  | _ :: _, [], h, _ => nomatch h
  | v :: xs, u :: us, h, k => .cons (k 0 v u rfl rfl) (vals_at (Nat.succ.inj h) fun j a b ha hb => k (j + 1) a b ha hb)
theorem call_list_txt {X : Cx} (hc : X.calm = true) : CallR X (.type "list") (fun xs H Q => ∃ x : Str, xs = [.str x] ∧ x.cps.size ≤ sizeLine ∧ ∀ l, H l = none → Q (.ref l) (upd H l (.lst (sgs x)))) := by
  intro pins s σ H xs us Q I r h
  obtain ⟨x, rfl, hz, q⟩ := h
  obtain ⟨u, rfl, rx⟩ := vals1 r
  obtain ⟨t, rfl⟩ := rx
  refine call_list_str (I.ok.hd hc) x t (hn := hz) fun h' tk acc' c' hk hS' hacc => ?_
  have hl : (sgs x).length = acc'.toList.length := by
    unfold sgs
    rw [List.length_map, Array.length_toList, Array.length_toList]
    exact hacc.1.symm
  have rv : Vals (sgs x) acc'.toList := vals_at hl fun j v u hv hu => by
    obtain ⟨c, k, hc', rfl⟩ := hacc.2 j u (by simpa using hu)
    unfold sgs at hv
    rw [List.getElem?_map] at hv
    obtain ⟨c2, h2, rfl⟩ := Option.map_eq_some_iff.mp hv
    have z : x.cps.toList[j]? = some c := by simpa using hc'
    rw [z] at h2
    cases h2
    exact ⟨k, rfl⟩
  have hz2 : (sgs x).length ≤ sizeLine := by
    unfold sgs
    rw [List.length_map, Array.length_toList]
    exact hz
  exact ⟨.ref s.heap.objs.size, _, I.laid (t' := tk) hk (Nat.le_refl _) (show ObjOk X.prog X.w _ h' _ (.lst (sgs x)) from ⟨hz2, acc'.toList, c', rv, by simpa using hS'⟩), rfl, q _ (I.hok.fresh (Nat.le_refl _))⟩
def rEq0 (K : PySem.W.Frag) : R2 := fun x y H Q => ∃ a b xs, x = .ref a ∧ y = .ref b ∧ SqT K H a xs ∧ SqT K H b [] ∧ Q (.bl xs.isEmpty) H
theorem op_eq0 {X : Cx} (hu : X.A.units < cLine) : OpR X (compareOp .Eq) (rEq0 X.K) := by
  intro pins s σ H x y v u Q I rx ry h
  obtain ⟨a, b, xs, rfl, rfl, ha, hb, q⟩ := h
  cases rx
  cases ry
  obtain ⟨its, r1, p1, _⟩ := I.tuple ha
  obtain ⟨its2, r2, p2, _⟩ := I.tuple hb
  cases r2
  refine SeqAt.eq_tupleAt (e := fun _ => true) p1 p2 hu (fun j h1 h2 => by simp at h2) ?_
  have e : ((List.range (min its.toArray.size ([] : List Value).toArray.size)).all (fun _ => true) && its.toArray.size == ([] : List Value).toArray.size) = xs.isEmpty := by
    cases r1 with
    | nil => rfl
    | cons _ _ => simp
  rw [e]
  exact ⟨.bl _, H, I, rfl, q⟩

/-! ### the end of a law whose defs make generator expressions -/
/-- the def nm of the top, its code object's table empty -/
def TabAt (mg : Str → Option Value) (h : Heap) (nm : Str) : Prop := ∃ (f : Addr) (o : Obj) (fd : FuncData) (c P : Addr), mg nm = some (.ref f) ∧ h.get? f = some o ∧ o.data = .func fd ∧ fd.code = .ref c ∧ h.TableAt c P #[]
theorem tab_empty {K : PySem.W.Frag} {mg : Str → Option Value} {h : Heap} {nm : Str} {f c P : Addr} {o : Obj} {fd : FuncData} {e : Value} {dd : Option Addr} {vs : Array Value} {sl : Array (Option Value)} (t : TabAt mg h nm) (X : K.In h) (g : mg nm = some (.ref f))
    (lf : K.lookup f = some o) (df : o.data = .func fd) (cf : fd.code = .ref c) (lc : K.lookup c = some ⟨e, dd, .fields vs, sl⟩) (at11 : vs[11]? = some (.ref P)) : h.get? P = some { cls := .none, data := .fields #[] } := by
  obtain ⟨f', o', fd', c', P', m1, m2, m3, m4, ⟨oc, vc, w1, _, w3, w4⟩, tp⟩ := t
  have ef : f = f' := Value.ref.inj (Option.some.inj (g.symm.trans m1))
  subst ef
  have eo : o = o' := Option.some.inj ((X f o lf).symm.trans m2)
  subst eo
  have ed : fd = fd' := Data.func.inj (df.symm.trans m3)
  subst ed
  have ec : c = c' := Value.ref.inj (cf.symm.trans m4)
  subst ec
  have eq : (⟨e, dd, .fields vs, sl⟩ : Obj) = oc := Option.some.inj ((X c _ lc).symm.trans w1)
  subst eq
  have ev : vs = vc := Data.fields.inj w3
  subst ev
  have eP : P = P' := Value.ref.inj (Option.some.inj (at11.symm.trans w4))
  subst eP
  exact tp
theorem walk_tabs {l : PySem.W.OpenLaw} {most lv : Nat} {prog : Program} {lo : List Str} {XP : (Str → Option Value) → Heap → Prop} {YP : World → Heap → Prop} {df : DefRec} {K : Params → PySem.W.Frag} {par : Str} (names : List Str)
    (h1 : l.most = some most) (h2 : most ≤ sizeLine) (h3 : df.params.defaults = []) (room : Room lv callerA) (recs : (names.all fun nm => (recsOf prog).any fun r => r.name == nm) = true) (kin : ∀ (w : World) (h : Heap), YP w h → (K w.params).In h)
    (at_ : ∀ (w : World) (mg : Str → Option Value) (fa : Addr) (h : Heap), (K w.params).In h → h.Ns mainGlobals mg → mg df.name = some (.ref fa) → (∀ nm ∈ names, TabAt mg h nm) → LamX.LawAtS l w (K w.params) CX0 lv most par mg fa h) :
    PySem.W.WalkO prog lo XP YP l.row.toRowW df [] (fun f vs => PySem.call f vs) := by
  refine Att.attach_callB h1 h3 fun w s0 s mg mb fa o pm cd doc a vs ns Gr Y _ _ _ name ob iar len bits gens => ?_
  have tabs : ∀ nm ∈ names, TabAt mg s.heap nm := fun nm hm => by
    obtain ⟨r, hr, er⟩ := List.any_eq_true.mp (List.all_eq_true.mp recs nm hm)
    obtain ⟨x1, x2, x3, x4, x5, y1, y2, y3, y4, _, y6⟩ := Gr.T.tab r hr
    rw [beq_iff_eq.mp er] at y1
    exact ⟨x1, x2, x3, x4, x5, y1, y2, y3, y4, y6⟩
  obtain ⟨fd, cs, sp, t1, t2, t3, bind, asked, ok⟩ := at_ w mg fa _ (kin w _ Y) Gr.T.g name tabs
  exact LamX.law_callTs (kin w _ Y) Gr.T.g Gr.T.b Gr.T.builtins Gr.T.nolimit gens t1 t2 t3 Gr.T.bmain ob iar (Nat.le_trans len h2) room ok bind (fun H hH hS => asked H a ns len bits hH hS) fun _ _ _ z => z

end My
namespace My
open PySem L2
/-! ### a mid-condition behind a statement, an expression, a test -/
def sMid (t : TS) : TS := fun D σ H => ∃ M : L2.St → Hp → Prop, t { D with nx := M } σ H ∧ ∀ σ' H', M σ' H' → D.nx σ' H'
theorem ps_mid {X : Cx} {st : Stmt} {t : TS} (h : PS X st t) : PS X st (sMid t) := by
  refine ⟨fun pins s σ H D I z => ?_⟩
  obtain ⟨M, q, k⟩ := z
  refine thn (h.run pins s σ H { D with nx := M } I q) fun f s1 y => ?_
  cases f with
  | next =>
    obtain ⟨σ', H', I', y⟩ := y
    exact ⟨σ', H', I', k _ _ y⟩
  | ret v => exact y
  | brk => exact y
  | cont => exact y
def tMid (t : TT) : TT := fun σ H Q => ∃ M : Bool → Hp → Prop, t σ H M ∧ ∀ b H', M b H' → Q b H'
theorem pt_mid {X : Cx} {e : Expr} {t : TT} (h : PT X e t) : PT X e (tMid t) := by
  refine ⟨fun pins s σ H Q I z => ?_⟩
  obtain ⟨M, q, k⟩ := z
  exact thn (h.run pins s σ H M I q) fun b s1 ⟨H', I', y⟩ => ⟨H', I', k _ _ y⟩
def eMid (t : TE) : TE := fun σ H Q => ∃ M : V → Hp → Prop, t σ H M ∧ ∀ v H', M v H' → Q v H'
theorem pe_mid {X : Cx} {e : Expr} {t : TE} (h : PE X e t) : PE X e (eMid t) := by
  refine ⟨fun pins s σ H Q I z => ?_⟩
  obtain ⟨M, q, k⟩ := z
  exact thn (h.run pins s σ H M I q) fun u s1 ⟨v, H', I', r, y⟩ => ⟨v, H', I', r, k _ _ y⟩
theorem yes_ite {σ : L2.St} {H : Hp} {A B : Hp → Prop} (h : A H) : tYes σ H (fun b H3 => if b = true then A H3 else B H3) := by
  unfold tYes
  exact (show (if true = true then A H else B H) from iteT h)
/-- xs[i] op= e, the read -/
theorem get_list {X : Cx} : PGet X (rIxL X.K) := by
  intro pins s σ H x y v u Q I rx ry h
  obtain ⟨p, xs, i, z, rfl, rfl, hq, he, q⟩ := h
  cases rx
  obtain ⟨t, rfl⟩ := ry
  obtain ⟨its, r, pl, hz⟩ := I.list hq
  obtain ⟨j, h1, h2, h3, h4, h5⟩ := atI_get he
  obtain ⟨w, ew, rw'⟩ := r.get h2
  have hl := r.length
  have hn := line63
  have fin : EP X pins σ Q w s := ⟨z, H, I, rw', q⟩
  by_cases h0 : 0 ≤ i
  · have hj : i.toNat = j := by
      rw [PySem.seqIndex_of h0 h5] at h1
      exact Option.some.inj h1
    exact PySem.wpAny_getItem_list pl.isList h0 (by omega) (by rw [hj]; simpa using ew) fin
  · have hj : (i + (its.toArray.size : Int)).toNat = j := by
      rw [PySem.seqIndex_neg (by omega) h4] at h1
      rw [List.size_toArray, ← hl]
      exact Option.some.inj h1
    exact PySem.wpAny_getItem_list_neg pl.isList (by omega) (by rw [List.size_toArray] <;> omega) (by omega) (by rw [hj]; simpa using ew) fin
theorem same_new {H : Hp} {p : Addr} {o : HO} (h : H p = none) : Same H (upd H p o) := fun b u q => by rw [upd_ne (ne_of_none q h)]; exact q
/-- all but d as it was -/
def But (d : Addr) (H H' : Hp) : Prop := ∀ b o, H b = some o → b ≠ d → H' b = some o
theorem But.refl {d : Addr} {H : Hp} : But d H H := fun _ _ e _ => e
theorem But.trans {d : Addr} {H H1 H2 : Hp} (x : But d H H1) (y : But d H1 H2) : But d H H2 := fun b o e n => y b o (x b o e n) n
theorem But.put {d : Addr} {H H1 : Hp} {o : HO} (x : But d H H1) : But d H (upd H1 d o) := fun b u e n => by
  rw [upd_ne n]
  exact x b u e n
theorem But.new {d p : Addr} {H H1 : Hp} {o : HO} (x : But d H H1) (n : H1 p = none) : But d H (upd H1 p o) := fun b u e nb => by
  have q := x b u e nb
  rw [upd_ne (ne_of_none q n)]
  exact q
theorem But.same {d : Addr} {H H1 H2 : Hp} (x : But d H H1) (s : Same H1 H2) : But d H H2 := fun b u e nb => s _ _ (x b u e nb)
theorem at_map {ns : List Int} {k : Int} (h0 : 0 ≤ k) (h : k < (ns.length : Int)) : ∃ v : Int, atI (ns.map V.int) k = some (.int v) ∧ v ∈ ns := by
  have hk : k.toNat < ns.length := by omega
  have ek : k = ((k.toNat : Nat) : Int) := by omega
  have q : atI (ns.map V.int) ((k.toNat : Nat) : Int) = some (.int ns[k.toNat]) := atI_nat (by rw [List.getElem?_map, List.getElem?_eq_getElem hk] <;> rfl)
  rw [← ek] at q
  exact ⟨_, q, List.getElem_mem _⟩
theorem at_any {α : Type} {xs : List α} {k : Int} (h0 : 0 ≤ k) (h : k < (xs.length : Int)) : ∃ v : α, atI xs k = some v ∧ v ∈ xs := by
  have hk : k.toNat < xs.length := by omega
  have ek : k = ((k.toNat : Nat) : Int) := by omega
  have q : atI xs ((k.toNat : Nat) : Int) = some xs[k.toNat] := atI_nat (List.getElem?_eq_getElem hk)
  rw [← ek] at q
  exact ⟨_, q, List.getElem_mem _⟩
theorem wide_ok {i j : Int} (h : 0 < j) (h2 : j < 2 ^ 100) : CDivW i j := wide_div (b := 100) h (by
  have e : ((j.natAbs : Nat) : Int) < ((2 ^ 100 : Nat) : Int) := by
    rw [Int.natCast_pow]
    show (j.natAbs : Int) < 2 ^ 100
    omega
  exact_mod_cast e) (by decide) (by decide)
theorem cut_map (ns : List Int) (hi : Option Int) : ∃ k : Nat, cutV (ns.map V.int) none hi = (ns.take k).map V.int := by
  refine ⟨HT.sIx ns.length ns.length hi, ?_⟩
  unfold cutV
  rw [HT.sIx_none, List.drop_zero, Nat.sub_zero, List.length_map, List.map_take]
theorem cut_nat {α : Type} (xs : List V) (k : Nat) : cutV xs none (some (k : Int)) = xs.take k := by
  unfold cutV
  rw [HT.sIx_none, List.drop_zero, Nat.sub_zero, HT.sIx_nat]
  by_cases h : k ≤ xs.length
  · rw [Nat.min_eq_left h]
  · rw [Nat.min_eq_right (by omega), List.take_of_length_le (Nat.le_refl _), List.take_of_length_le (by omega)]
theorem sz {n : Nat} (h : n ≤ 100000) : n ≤ sizeLine := Nat.le_trans h (by decide)
theorem szl {n : Nat} (h : n < 100000) : n < sizeLine := Nat.lt_of_lt_of_le h (by decide)
def spLaw (K : PySem.W.Frag) : Sp := fun vs H Q _ => ∃ (a : Addr) (ns : List Int), vs = [.ref a] ∧ SqL K H a (ns.map V.int) ∧ ns.length ≤ 63 ∧ (∀ z ∈ ns, Builtin.Int.intBits z ≤ 1048576) ∧ ∀ H', Q (.bl true) H'
/-! ### data of tuples -/
mutual
inductive Td (K : PySem.W.Frag) (H : Hp) : V → PyData → Prop
  | non : Td K H .non .none
  | bl (b : Bool) : Td K H (.bl b) (.bool b)
  | int (i : Int) : Td K H (.int i) (.int i)
  | str (x : Str) : Td K H (.str x) (.str x)
  | tup {a : Addr} {xs : List V} {ds : List PyData} : SqT K H a xs → TdAll K H xs ds → Td K H (.ref a) (.tuple ds)
inductive TdAll (K : PySem.W.Frag) (H : Hp) : List V → List PyData → Prop
  | nil : TdAll K H [] []
  | cons {v : V} {vs : List V} {d : PyData} {ds : List PyData} : Td K H v d → TdAll K H vs ds → TdAll K H (v :: vs) (d :: ds)
end
/-- tuples stay -/
def Tups (K : PySem.W.Frag) (H H' : Hp) : Prop := ∀ a xs, SqT K H a xs → SqT K H' a xs
theorem Tups.of_same {K : PySem.W.Frag} {H H' : Hp} (s : Same H H') : Tups K H H' := fun a xs h => by
  rcases h with h | h
  · rcases h with h | ⟨o, h⟩
    · exact .inl (.inl (s _ _ h))
    · exact .inl (.inr ⟨o, s _ _ h⟩)
  · exact .inr h
theorem Tups.of_but {K : PySem.W.Frag} {H H' : Hp} {d : Addr} {l : List V} (s : But d H H') (e : H d = some (.lst l)) : Tups K H H' := fun a xs h => by
  rcases h with h | h
  · rcases h with h | ⟨o, h⟩
    · exact .inl (.inl (s _ _ h (ne_of h e (by intro z; cases z))))
    · exact .inl (.inr ⟨o, s _ _ h (ne_of h e (by intro z; cases z))⟩)
  · exact .inr h
theorem Tups.trans {K : PySem.W.Frag} {H H1 H2 : Hp} (a : Tups K H H1) (b : Tups K H1 H2) : Tups K H H2 := fun p xs h => b _ _ (a _ _ h)
mutual
theorem Td.mono {K : PySem.W.Frag} {H H' : Hp} (t : Tups K H H') : ∀ {v : V} {d : PyData}, Td K H v d → Td K H' v d
  | _, _, .non => .non
  | _, _, .bl b => .bl b
  | _, _, .int i => .int i
  | _, _, .str x => .str x
  | _, _, .tup h k => .tup (t _ _ h) (TdAll.mono t k)
theorem TdAll.mono {K : PySem.W.Frag} {H H' : Hp} (t : Tups K H H') : ∀ {vs : List V} {ds : List PyData}, TdAll K H vs ds → TdAll K H' vs ds
  | _, _, .nil => .nil
  | _, _, .cons h k => .cons (Td.mono t h) (TdAll.mono t k)
end
mutual
theorem Td.dp {K : PySem.W.Frag} {H : Hp} : ∀ {v : V} {d : PyData}, Td K H v d → Dp K H v d
  | _, _, .non => .non
  | _, _, .bl b => .bl b
  | _, _, .int i => .int i
  | _, _, .str x => .str x
  | _, _, .tup h k => .tup h (TdAll.dp k)
theorem TdAll.dp {K : PySem.W.Frag} {H : Hp} : ∀ {vs : List V} {ds : List PyData}, TdAll K H vs ds → DpAll K H vs ds
  | _, _, .nil => .nil
  | _, _, .cons h k => .cons (Td.dp h) (TdAll.dp k)
end
theorem TdAll.length {K : PySem.W.Frag} {H : Hp} : ∀ {vs : List V} {ds : List PyData}, TdAll K H vs ds → vs.length = ds.length
  | _, _, .nil => rfl
  | _, _, .cons _ k => congrArg (· + 1) (TdAll.length k)
theorem TdAll.append {K : PySem.W.Frag} {H : Hp} : ∀ {vs ws : List V} {ds es : List PyData}, TdAll K H vs ds → TdAll K H ws es → TdAll K H (vs ++ ws) (ds ++ es)
  | _, _, _, _, .nil, k => k
  | _, _, _, _, .cons h k, z => .cons h (TdAll.append k z)
theorem TdAll.get {K : PySem.W.Frag} {H : Hp} : ∀ {vs : List V} {ds : List PyData}, TdAll K H vs ds → ∀ {v : V}, v ∈ vs → ∃ d, d ∈ ds ∧ Td K H v d
  | _, _, .nil, _, h => nomatch h
  | _, _, .cons (d := d) h k, v, m => by
    rcases List.mem_cons.mp m with e | m
    · subst e
      exact ⟨d, List.mem_cons_self, h⟩
    · obtain ⟨d', hd, t⟩ := TdAll.get k m
      exact ⟨d', List.mem_cons_of_mem _ hd, t⟩
theorem inV_str (w : Str) : ∀ ws : List Str, inV (.str w) (ws.map V.str) = decide (w ∈ ws)
  | [] => rfl
  | x :: r => by
    have ih := inV_str w r
    unfold inV at ih ⊢
    rw [List.map_cons, List.any_cons, ih]
    by_cases e : x = w
    · subst e
      simp [eqV]
    · have e2 : ¬ w = x := fun z => e z.symm
      simp [eqV, e, e2]
theorem flat_strs : ∀ ws : List Str, (ws.map V.str).all flatV = true
  | [] => rfl
  | _ :: r => by
    rw [List.map_cons, List.all_cons, flat_strs r]
    rfl
/-- the kinds -/
def kinds : List Str := ["a", "b", "c", "d", "e", "f", "g", "h"]
/-- a tuple as a target, the table and the number as they are written -/
theorem pg_tupK {X : Cx} {K : PySem.W.Frag} {pos : Pos} {es : List Expr} {k : Nat} {t : TGs} {n : Nat} (hK : X.K = K) (hc : X.calm = true) (h : PGs X es t)
    (hn : (assignEach es X.env).length = n) (hst : (assignEach es X.env).findIdx? (·.1) = none := by rfl) : PG X (.Tuple es k pos) (gTup K n t) := by
  subst hK
  exact pg_tup hc h hn hst
theorem cut_tail (x : V) (ps : List V) : cutV (x :: ps) (some 1) none = ps := by
  unfold cutV
  rw [show (1 : Int) = ((1 : Nat) : Int) from rfl, HT.sIx_nat, HT.sIx_none, List.length_cons]
  have e : min 1 (ps.length + 1) = 1 := by omega
  rw [e, List.drop_succ_cons, List.drop_zero, Nat.add_sub_cancel, List.take_of_length_le (Nat.le_refl _)]
theorem u1 {k : Nat} {A : Around} (h : Room k A) : A.units + 1 < cLine := by
  have := h.units
  omega
theorem u0 {k : Nat} {A : Around} (h : Room k A) : A.units < cLine := by
  have := h.units
  omega
theorem u65 {k : Nat} {A : Around} (h : Room k A) : A.units + 65 < cLine := by
  have := h.un
  omega
theorem op_in_seqK {X : Cx} {K : PySem.W.Frag} (hK : X.K = K) : OpR X (compareOp .In) (rIn K false) := by
  subst hK
  exact op_in_seq
theorem op_notIn_seqK {X : Cx} {K : PySem.W.Frag} (hK : X.K = K) : OpR X (compareOp .NotIn) (rIn K true) := by
  subst hK
  exact op_notIn_seq

/-! ### own exceptions as values -/
def veB : List Value := [.type "ValueError", .type "Exception", .type "BaseException", .type "object"]
/-- an exception object of the class C, not raised, with or without fields -/
def ExAt (H : Hp) (a C : Addr) : Prop := H a = some (ExO (.ref C) a) ∨ ∃ (d : Addr) (fs : List (Str × V)), H a = some (exo a C (some d)) ∧ H d = some (exd d fs)
theorem ExAt.same {H H' : Hp} {a C : Addr} (s : Same H H') (h : ExAt H a C) : ExAt H' a C := by
  rcases h with h | ⟨d, fs, h, g⟩
  · exact .inl (s _ _ h)
  · exact .inr ⟨d, fs, s _ _ h, s _ _ g⟩
section
variable {X : Cx}
theorem ExAt.inst {pins : List (Addr × Obj)} {σ : L2.St} {H : Hp} {s : Shared} {a C : Addr} (I : Inv X pins σ H s) (h : ExAt H a C) : ∃ (oe : Obj) (od : Option Obj), PySem.W.InstAt s.heap a oe C od := by
  rcases h with h | ⟨d, fs, h, g⟩
  · obtain ⟨⟨oe, vs, ho, hz, hd, _⟩, _, _⟩ := I.hok a _ h
    refine ⟨oe, none, ho, hz.1, ?_, ?_⟩
    · unfold PySem.W.notCls
      rw [hd]
    · rw [hz.2]
      trivial
  · obtain ⟨t1, ho⟩ := exo_at I.hok h
    obtain ⟨mA, hm, _⟩ := exd_at I.hok g
    obtain ⟨od, hod, _⟩ := lookIn_ns hm
    exact ⟨_, some od, ho, rfl, rfl, hod⟩
theorem pe_exc0 {C : Addr} {x : Str} {p pos : Pos} (hc : PySem.W.excIn X.K C veB "ValueError.__new__" = true) (gC : X.mg x = some (.ref C)) (kC : PySem.W.keepIn X.K (.ref C) = true) (hg : Gl X x) (hdb : (x == ("__debug__" : Str)) = false := by decide) :
    PE X (.Call (.Name x p) [] [] pos) (fun _ H Q => ∀ a, H a = none → Q (.ref a) (upd H a (ExO (.ref C) a))) := by
  constructor
  intro pins st σ H Q I h
  refine wpAny_Call_Name_kw (ld_glob I hg gC ?_ hdb)
  refine PySem.W.callWith_K0 I.kIn kC ?_
  obtain ⟨bm, N, nm, qn, bs, hdct, sn, sub, ab, col, dd, k0, k1, k2, k3, k5, mN, hC, hN, hni, OT⟩ := exc_obj I.kIn hc
  refine wpAny_call_exc_subT PySem.F.excBase_ValueError OT hC hN hni (fun h' a hm => ?_) (Nat.zero_le _)
  have free : H a = none := I.hok.gone hm.new
  obtain ⟨t, ht, _, _⟩ := hm.there
  have ok : ObjOk X.prog X.w (upd H a (ExO (.ref C) a)) h' a (ExO (.ref C) a) := exO_ok ht ⟨rfl, rfl⟩ rfl rfl rfl (show 4 < 6 by decide)
  exact ⟨.ref a, _, I.laidN hm.keeps hm.new free ok, rfl, h a free⟩
/-- C(e, ..), C an own exception class with an own __init__, as a value -/
def tOexV (C : Addr) (sp : Sp) (ta : TA) : TE := fun σ H Q => ta σ H fun vs H1 => vs.length ≤ 1000 ∧ ∀ a, H1 a = none → sp (.ref a :: vs) (upd H1 a (exo a C none)) (fun v H2 => v = .non ∧ Q (.ref a) H2) (fun _ _ _ => False)
theorem pe_oexV {x : Str} {C fI : Addr} {k : Nat} {fd : FuncData} {ps : List Str} {sp : Sp} {e : Expr} {es : List Expr} {ta : TA} {p pos : Pos} (OC : OexC X.K C) (iC : PySem.W.findIn X.K (.ref C) "__init__" = some (some (.ref fI)))
    (tI : PySem.W.typeIn X.K (.ref fI) = some (.type "function")) (F1 : FnOk X.prog X.w X.K X.mg X.base CX0 k fI fd ps sp) (hr : Room (k + 1) X.A) (hb : Binds X.K fd ps []) (hg : Gl X x) (hm : X.mg x = some (.ref C)) (ha : PA X (e :: es) ta)
    (hdb : (x == ("__debug__" : Str)) = false := by decide) (he : starEach (e :: es) X.env = (false, eval e X.env) :: starEach es X.env := by rfl) (hpl : (backTo pos (starEach es X.env)).any (·.1) = false := by rfl) :
    PE X (.Call (.Name x p) (e :: es) [] pos) (tOexV C sp ta) := by
  constructor
  intro pins st σ H Q I h
  obtain ⟨nm, q, N, bs, bm, sn, sub, ab, col, dd, k0, k1, k2, k3, k5, hC, hbm⟩ := OC.cls
  refine wpAny_Call_Name_kw (ld_glob I hg hm ?_ hdb)
  refine PySem.W.callWith_K (h₀ := X.base) I.ok.mod.kin OC.kC (thn (ha.run pos pins st σ H _ I h) fun us s1 z => ?_) he hpl
  obtain ⟨vs, H1, I1, r1, hz, q1⟩ := z
  refine ⟨I1.kIn, ?_⟩
  obtain ⟨hp, g, dr, tk, os⟩ := s1
  have hn : H1 (hp.objs.size + 1) = none := I1.hok.fresh (Nat.le_succ _)
  have hq := q1 _ hn
  have kk : ∀ b o, hp.get? b = some o → ((hp.push (PySem.W.kdv_tup us)).push (PySem.HandSPX.excO C hp.objs.size)).get? b = some o := fun b o z =>
    Heap.get?_push_of_some _ (Heap.get?_push_of_some _ z)
  have hget : ((hp.push (PySem.W.kdv_tup us)).push (PySem.HandSPX.excO C hp.objs.size)).get? (hp.objs.size + 1) = some (PySem.HandSPX.excO C hp.objs.size) := by
    heap_get
  have I2 : Inv X pins σ (upd H1 (hp.objs.size + 1) (exo (hp.objs.size + 1) C none)) ⟨(hp.push (PySem.W.kdv_tup us)).push (PySem.HandSPX.excO C hp.objs.size), g, dr, tk, os⟩ :=
    I1.laid (t' := tk) (a := hp.objs.size + 1) (o := exo (hp.objs.size + 1) C none) (h' := (hp.push (PySem.W.kdv_tup us)).push (PySem.HandSPX.excO C hp.objs.size)) kk (Nat.le_succ _) (exo_ok hget)
  have r2 : Vals (V.ref (hp.objs.size + 1) :: vs) (Value.ref (hp.objs.size + 1) :: us) := .cons rfl r1
  have hl : (Value.ref (hp.objs.size + 1) :: us).length = ps.length := by
    rw [← r2.length]
    exact F1.len _ _ _ _ hq
  have hus : us.length ≤ sizeLine := by
    rw [← Paired.length r1, sizeLine_eq]
    omega
  have hb2 := hb ⟨(hp.push (PySem.W.kdv_tup us)).push (PySem.HandSPX.excO C hp.objs.size), g, dr, tk, os⟩ (Value.ref (hp.objs.size + 1) :: us) I2.kIn (by rw [List.append_nil]; exact hl)
  rw [List.append_nil] at hb2
  refine wpAny_call (PySem.HandSPX.call_own PySem.F.excBase_ValueError (fun Y => PySem.HandSPX.refsVE_contains Y bm hbm) (I1.kIn _ _ hC) (PySem.W.looks_findIn I1.kIn iC) (fun self => PySem.W.bind_fn I1.kIn self tI) hus
    (codeAny_mono (F1.run _ X.stack _ _ ⟨Value.ref (hp.objs.size + 1) :: us, []⟩ (Value.ref (hp.objs.size + 1) :: us) _ _ (fun _ _ _ => False) (hr.make C us []) (I2.env0.make C us []) hb2 r2 hq) fun r s' z => ?_))
  cases r with
  | error er => exact absurd z id
  | ok fl =>
    cases fl with
    | ret u =>
      obtain ⟨v, H', J, rv, ev, qq⟩ := I2.after z
      subst ev
      exact ⟨rv, .ref (hp.objs.size + 1), H', J, rfl, qq⟩
    | next => exact absurd z id
    | brk => exact absurd z id
    | cont => exact absurd z id
/-- what isinstance asks of the class of an exception -/
structure XcC (K : PySem.W.Frag) (C : Addr) : Prop where
  cl : (PySem.W.clsIn K C).isSome = true
  hg : PySem.W.findIn K (.ref C) "__getattribute__" = some (some (.builtin "BaseException.__getattribute__"))
  hk : PySem.W.findIn K (.ref C) "__getattr__" = some none
  hs : PySem.W.subIn K (.ref C) (.type "BaseException") = some true
  ha : PySem.W.findIn K (.ref C) "__class__" = some (some (.builtin "object.__class__"))
  hn : PySem.W.specialIn K (.builtin "object.__class__") "__get__" = some (some (.builtin "getset_descriptor.__get__"))
  ht : PySem.W.takesIn K (.builtin "object.__class__") = some true
  hm : PySem.W.mroIn K C (.type "object") = some true
def xcB (K : PySem.W.Frag) (C : Addr) : Bool := (PySem.W.clsIn K C).isSome && (decide (PySem.W.findIn K (.ref C) "__getattribute__" = some (some (.builtin "BaseException.__getattribute__"))) && (decide (PySem.W.findIn K (.ref C) "__getattr__" = some none) &&
  (decide (PySem.W.subIn K (.ref C) (.type "BaseException") = some true) && (decide (PySem.W.findIn K (.ref C) "__class__" = some (some (.builtin "object.__class__"))) && (decide (PySem.W.specialIn K (.builtin "object.__class__") "__get__" = some (some (.builtin "getset_descriptor.__get__"))) &&
  (decide (PySem.W.takesIn K (.builtin "object.__class__") = some true) && decide (PySem.W.mroIn K C (.type "object") = some true)))))))
theorem xcB_ok {K : PySem.W.Frag} {C : Addr} (h : xcB K C = true) : XcC K C := by
  unfold xcB at h
  simp only [Bool.and_eq_true, decide_eq_true_eq] at h
  obtain ⟨h1, h2, h3, h4, h5, h6, h7, h8⟩ := h
  exact ⟨h1, h2, h3, h4, h5, h6, h7, h8⟩
def rIsX (K : PySem.W.Frag) : List V → Hp → VK → Prop := fun xs H Q => ∃ (a C : Addr) (c : V) (cv : Value) (b : Bool), xs = [.ref a, c] ∧ ExAt H a C ∧ XcC K C ∧ ClsV c cv ∧ PySem.W.kitOne K (.ref C) cv = some b ∧ Q (.bl b) H
theorem call_isX : CallR X (.builtin "isinstance") (rIsX X.K) := by
  intro pins st σ H xs us Q I r h
  obtain ⟨a, C, c, cv, b, rfl, ex, xc, kc, e, q⟩ := h
  obtain ⟨u1, u2, rfl, r1, r2⟩ := vals2 r
  cases r1
  have e2 := kc.eq r2
  subst e2
  obtain ⟨oe, od, J⟩ := ex.inst I
  exact PySem.W.kia_one (PySem.W.kitx_exc xc.cl xc.hg xc.hk xc.hs xc.ha xc.hn xc.ht xc.hm) I.kIn J e (fun z => nomatch z) fun tk => ⟨.bl b, H, I.kept (t' := tk) fun _ _ z => z, rfl, q⟩
theorem call_isXK {K : PySem.W.Frag} (hK : X.K = K) : CallR X (.builtin "isinstance") (rIsX K) := by
  subst hK
  exact call_isX
/-- e.f of such an object -/
def tXv (K : PySem.W.Frag) (f : Str) (te : TE) : TE := fun σ H Q => te σ H fun x H1 => ∃ (a C d : Addr) (fs : List (Str × V)) (v : V), x = .ref a ∧ H1 a = some (exo a C (some d)) ∧ H1 d = some (exd d fs) ∧ XfC K C ∧ PySem.W.findIn K (.ref C) f = some none ∧ fs.lookup f = some v ∧ Q v H1
theorem pe_xv {e : Expr} {te : TE} {pos : Pos} {n : Str} (he : PE X e te) (hb : attributeBase e n X.env (eval e X.env) = eval e X.env := by rfl) : PE X (.Attribute e n pos) (tXv X.K n te) := by
  constructor
  intro pins st σ H Q I h
  refine attr_of hb (thn (he.run pins st σ H _ I h) fun u s1 z => ?_)
  obtain ⟨x, H1, I1, rx, a, C, d, fs, v, rfl, h1, h2, xf, hno, hl, q⟩ := z
  cases rx
  obtain ⟨t1, ho⟩ := exo_at I1.hok h1
  obtain ⟨mA, hns, hrel⟩ := exd_at I1.hok h2
  obtain ⟨od, hod, hlk⟩ := lookIn_ns hns
  obtain ⟨u, hu, ru⟩ := RelO.some_of (v := v) (o := mA n) (by rw [← hl]; exact hrel n)
  have J : PySem.W.InstAt s1.heap a _ C (some od) := ⟨ho, rfl, rfl, hod⟩
  exact HandSPX.exc_get I1.kIn J xf.ga xf.gg xf.exC (PySem.W.findObj_own xf.hdC hno rfl (by rw [hlk, hu])) (handed_of ru) ⟨v, H1, I1.tok _, ru, q⟩
end
/-! ### facts of the written part, by one kernel run each -/
/-- a written tuple of texts -/
def strOf : Value → Option Str
  | .str x _ => some x
  | _ => none
def tupB (K : PySem.W.Frag) (a : Addr) (ws : List Str) : Bool := match K.lookup a with
  | some o => decide (o.cls = .type "tuple") && (match o.data with
    | .seq its _ => decide (its.size ≤ 1000) && decide (its.toList.map strOf = ws.map some)
    | _ => false)
  | none => false
theorem vals_str : ∀ {us : List Value} {ws : List Str}, us.map strOf = ws.map some → Vals (ws.map V.str) us
  | [], [], _ => .nil
  | [], _ :: _, h => nomatch h
  | _ :: _, [], h => nomatch h
  | u :: us, w :: ws, h => by
    rw [List.map_cons, List.map_cons] at h
    obtain ⟨h1, h2⟩ := List.cons.inj h
    refine .cons ?_ (vals_str h2)
    cases u with
    | str x t =>
      have e : x = w := Option.some.inj h1
      subst e
      exact ⟨t, rfl⟩
    | _ => exact nomatch h1
theorem tupB_ok {K : PySem.W.Frag} {a : Addr} {ws : List Str} (h : tupB K a ws = true) (H : Hp) : SqT K H a (ws.map V.str) := by
  unfold tupB at h
  split at h
  · rename_i o ho
    rw [Bool.and_eq_true] at h
    obtain ⟨h1, h2⟩ := h
    split at h2
    · rename_i its n hd
      rw [Bool.and_eq_true] at h2
      exact .inr ⟨o, its, n, ho, of_decide_eq_true h1, hd, sz (Nat.le_trans (of_decide_eq_true h2.1) (by decide)), vals_str (of_decide_eq_true h2.2)⟩
    · cases h2
  · cases h
/-- the refusals among one another, and under the first of them -/
def kitsB (K : PySem.W.Frag) (t : Addr) (cs : List Addr) : Bool := (List.range cs.length).all fun i => decide (PySem.W.kitOne K (.ref (cs.getD i 0)) (.ref t) = some true) && (List.range cs.length).all fun j => decide (PySem.W.kitOne K (.ref (cs.getD i 0)) (.ref (cs.getD j 0)) = some (decide (i = j)))
theorem kitsB_top {K : PySem.W.Frag} {t : Addr} {cs : List Addr} (h : kitsB K t cs = true) {i : Nat} (hi : i < cs.length) : PySem.W.kitOne K (.ref (cs.getD i 0)) (.ref t) = some true := by
  unfold kitsB at h
  have z := List.all_eq_true.mp h i (List.mem_range.mpr hi)
  rw [Bool.and_eq_true] at z
  exact of_decide_eq_true z.1
theorem kitsB_two {K : PySem.W.Frag} {t : Addr} {cs : List Addr} (h : kitsB K t cs = true) {i j : Nat} (hi : i < cs.length) (hj : j < cs.length) : PySem.W.kitOne K (.ref (cs.getD i 0)) (.ref (cs.getD j 0)) = some (decide (i = j)) := by
  unfold kitsB at h
  have z := List.all_eq_true.mp h i (List.mem_range.mpr hi)
  rw [Bool.and_eq_true] at z
  exact of_decide_eq_true (List.all_eq_true.mp z.2 j (List.mem_range.mpr hj))
def dws : List Str := ["new", "put", "paint", "tie", "cut", "add", "spread"]

end My
namespace My
open PySem PySem.Spec PyProof.Rows L2
/-! ### an exception caught and kept -/
/-- at a stands an exception of the class cls that was raised -/
def ExC (cls : Value) (d : Option Addr) (a : Addr) : HO := .ext fun h => ∃ (oe : Obj) (vs : Array Value), h.get? a = some oe ∧ Zc cls d oe ∧ oe.data = .fields vs
theorem exC_ok {P : Program} {w : World} {H : Hp} {h : Heap} {a : Addr} {cls : Value} {d : Option Addr} {oe : Obj} {vs : Array Value} (e : h.get? a = some oe) (z : Zc cls d oe) (dd : oe.data = .fields vs) : ObjOk P w H h a (ExC cls d a) := by
  refine ⟨⟨oe, vs, e, z, dd⟩, ⟨oe, e⟩, ?_⟩
  rintro h1 h2 ⟨o, v, e1, z1, d1⟩ st
  exact ⟨o, v, st _ e1, z1, d1⟩
/-- what stood nowhere at sI is none of the context's own: it may be tracked -/
theorem inv_seen {X : Cx} {pins : List (Addr × Obj)} {σI σ : L2.St} {HI H : Hp} {sI s : Shared} {a : Addr} {o : HO} (J : Inv X pins σI HI sI) (new : sI.heap.get? a = none) (I : Inv X pins σ H s) (na : H a = none) (ok : ObjOk X.prog X.w (upd H a o) s.heap a o) :
    Inv X pins σ (upd H a o) s := by
  have old : ∀ {b : Addr} {ob : Obj}, sI.heap.get? b = some ob → upd H a o b = H b := fun {b ob} e => upd_ne fun z => by
    rw [z, new] at e
    cases e
  have trk : ∀ {b : Addr} {u : HO}, H b = some u → upd H a o b = some u := fun {b u} e => (upd_ne (ne_of_none e na)).trans e
  refine ⟨I.ok, I.os, I.bare, ⟨I.base.keep, I.base.slot, ?_, I.base.there, ?_, ?_, ?_⟩, I.loc, I.cell, ?_, ?_, ?_, ?_, I.len⟩
  · intro b ob e nb hx
    obtain ⟨o', e'⟩ := J.base.there b ob e hx
    rw [old e']
    exact I.base.free b ob e nb hx
  · intro b xs e
    exact trk (I.base.tups b xs e)
  · intro b ob u e
    exact trk (I.base.frzs b ob u e)
  · intro b ps e
    obtain ⟨more, q⟩ := I.base.tbls b ps e
    exact ⟨more, trk q⟩
  · obtain ⟨m, ⟨ol, _, _, el, _⟩, _⟩ := J.loc
    rw [old el]
    exact I.free
  · intro y c e
    obtain ⟨v, oc, ec, _⟩ := J.cell y c e
    rw [old ec]
    exact I.freeC y c e
  · intro p hp
    obtain ⟨p1, p2, p3⟩ := I.pin p hp
    exact ⟨p1, (old (J.pin p hp).1).trans p2, p3⟩
  · intro b u e
    by_cases hb : b = a
    · subst hb
      rw [upd_same] at e
      cases e
      exact ok
    · rw [upd_ne hb] at e
      exact (I.hok b u e).stay (fun _ _ _ q => q) (fun _ q => trk q) fun _ _ q => trk q
/-- what 'except x as n' wishes, the exception kept behind it -/
def wKeep (K : PySem.W.Frag) (c : Value) (i : Nat) (ts : Addr → TS) (D : Ends) : WX := fun cls d σ H =>
  PySem.W.exmOne K cls c = some true ∧ ∀ a, H a = none → ts a { nx := fun σ' H' => H' a = none ∧ D.nx (σ'.set i none) (upd H' a (ExC cls d a)), rt := fun _ _ => False, bk := fun _ _ => False, ct := fun _ _ => False } (σ.set i (some (.ref a))) H
theorem ps_try_keep {X : Cx} {x n : Str} {c : Value} {i : Nat} {body suite : List Stmt} {b0 : Stmt} {np pos pos' : Pos} {tb : WX → TS} {ts : Addr → TS} (stk : X.stack = X.env :: X.outer) (frm : X.env.frame = some X.env.locals) (nd : X.N.Nodup) (hi : X.N[i]? = some n) (loc : X.env.kindOf n = some .local) (nm : Names X x c)
    (hb : ∀ (W : WX) (pn : List (Addr × Obj)) (xe : Value → Shared → Prop), Takes (X.tr pn xe) W → PSs (X.tr pn xe) body (tb W))
    (hsu : ∀ (a : Addr) (pn : List (Addr × Obj)), PSs (X.suite a pn) (b0 :: suite) (ts a)) :
    PS X (.Try body [.ExceptHandler (some (.Name x np)) (some n) (b0 :: suite) pos'] [] [] pos) (fun D σ H => tb (wKeep X.K c i ts D) D σ H) := by
  constructor
  intro pins s σ H D I h
  have frs' : X.A.frames = some (X.env :: X.outer) := by rw [I.ok.frames, stk]
  refine wpAny_Try_except (wpAny_mono ((hb (wKeep X.K c i ts D) (X.pn ++ pins) _ fun u s' ex => ?_).run [] s σ H D (I.toTry _) h) (fun f s1 sp => ?_) fun e s1 q => q)
  · obtain ⟨a, B, sI, pins', σ', H', cls, d, rfl, JT, nb, up, sky, na, os, ag, hm, go⟩ := ex
    have J : Inv X pins σ' H' sI := JT.ofTry I.ok
    have sky2 : Sky B (X.env :: X.outer) a (Zc cls d) X.env.locals s'.heap := stk ▸ sky
    refine Sky.land Zc.steady frs' frm sky2 fun h3 fl3 up3 => ?_
    have J3 : Inv X pins σ' H' { s' with heap := h3 } := J.landed nb fl3.1 (up.trans up3) os ag
    have away : ∀ {hp : Heap} {o : Obj} {vs : Array Value}, hp.FunFrames B (X.env :: X.outer) → hp.get? a = some o → o.data = .fields vs → a ∉ frs (X.env :: X.outer) := fun {hp o vs} ff e dd m => by
      obtain ⟨_, o', e', nf⟩ := ff.mem m
      rw [e] at e'
      cases e'
      exact nf _ dd
    obtain ⟨oe3, vs3, he3, hz3, hd3⟩ := fl3.there
    have nfr := away fl3.2.2.1 he3 hd3
    have nl : a ≠ X.env.locals := fun z => nfr (List.mem_filterMap.mpr ⟨X.env, List.mem_cons_self, by rw [frm, z]⟩)
    have nfs : a ∉ X.fs := fun m => by
      obtain ⟨e, he, q⟩ := List.mem_filterMap.mp m
      exact nfr (List.mem_filterMap.mpr ⟨e, List.mem_cons_of_mem _ he, q⟩)
    have newI : sI.heap.get? a = none := by
      cases q : sI.heap.get? a with
      | none => rfl
      | some ob =>
        have z := nb a ob q (by rw [stk]; exact nfr)
        rw [fl3.2.1] at z
        cases z
    have S3 := J3.suite he3 hd3 na nl nfs
    refine wpAny_handleBy_cons (codeAny_handlers_test ?_) (fun z => nomatch z)
    have name : ∀ {Q' : Value → Shared → Prop} {E' : Value → Shared → Prop}, Q' c { s' with heap := h3 } → wpAny (model X.prog X.w) (X.A.mark (some (.ref a))) (eval (.Name x np) X.env) Q' E' { s' with heap := h3 } := fun {Q' E'} q => by
      obtain ⟨gl, dbg, hit | ⟨miss, bt, nn⟩⟩ := nm
      · exact ld_glob (X := X.suite a ((a, oe3) :: (X.pn ++ pins))) S3 gl hit q dbg
      · exact ld_blt (X := X.suite a ((a, oe3) :: (X.pn ++ pins))) S3 gl miss bt q nn dbg
    have looks : PySem.W.Looks (model X.prog X.w) h3 (typeOf (.ref a)) cls := fun A' Q' E' t k q => wpAny_typeOf_ref (k _ _ he3) (hz3.1.symm ▸ q)
    refine name ((PySem.W.exm_one (M := model X.prog X.w) J3.kIn looks hm).here (codeAny_handlers_suite_as (HandSPX.lands_againZ fl3 fun h4 fl4 up4 => ?_)))
    · have J4 : Inv X pins σ' H' { s' with heap := h4 } := J.landed nb fl4.1 ((up.trans up3).trans up4) os ag
      obtain ⟨oe4, vs4, he4, hz4, hd4⟩ := fl4.there
      refine store_ok (X := X.suite a ((a, oe4) :: (X.pn ++ pins))) (v := .ref a) (J4.suite he4 hd4 na nl nfs) nd hi (.inl loc) rfl (fun s5 S5 => ?_) (.inr loc)
      refine wpAny_mono ((hsu a ((a, oe4) :: (X.pn ++ pins))).run [] s5 _ H' _ S5 (go a na)) (fun f s6 sp => ?_) fun _ _ z => (show False from z).elim
      cases f with
      | next =>
        obtain ⟨σ6, H6, S6, n6, q6⟩ := sp
        refine gone_ok (X := X.suite a ((a, oe4) :: (X.pn ++ pins))) S6 nd hi loc fun s7 S7 => ?_
        have at7 := (S7.pin (a, oe4) (List.mem_append_left _ List.mem_cons_self)).1
        exact ⟨_, _, inv_seen J newI (S7.unsuite I.ok) n6 (exC_ok at7 hz4 hd4), q6⟩
      | brk =>
        obtain ⟨_, _, _, z⟩ := sp
        exact (show False from z).elim
      | cont =>
        obtain ⟨_, _, _, z⟩ := sp
        exact (show False from z).elim
      | ret u =>
        obtain ⟨_, _, _, _, _, z⟩ := sp
        exact (show False from z).elim
  · cases f with
    | next =>
      obtain ⟨σ', H', J, q⟩ := sp
      exact wpAny_execs_nil ⟨σ', H', J.ofTry I.ok, q⟩
    | brk =>
      obtain ⟨σ', H', J, q⟩ := sp
      exact ⟨σ', H', J.ofTry I.ok, q⟩
    | cont =>
      obtain ⟨σ', H', J, q⟩ := sp
      exact ⟨σ', H', J.ofTry I.ok, q⟩
    | ret u =>
      obtain ⟨v, σ', H', J, r, q⟩ := sp
      exact ⟨v, σ', H', J.ofTry I.ok, r, q⟩

/-! ### a lambda of one parameter -/
structure LamP (sc scope : Scope) (p : Str) : Prop where
  kind : scope.kind = .function
  co : scope.isCoroutine = false
  gen : scope.isGenerator = false
  par : scope.names.lookup p = some .local
  own : ∀ y ∈ scope.names, y.2 ≠ .cell ∧ (y.2 = .local → y.1 = p)
  free : ∀ y ∈ scope.names, y.2 = .free → sc.names.lookup y.1 = some .cell ∨ sc.names.lookup y.1 = some .free
def lamPB (sc scope : Scope) (p : Str) : Bool := decide (scope.kind = .function) && (!scope.isCoroutine && (!scope.isGenerator && (decide (scope.names.lookup p = some .local) && scope.names.all fun y => !decide (y.2 = .cell) && ((!decide (y.2 = .local) || decide (y.1 = p)) && (!decide (y.2 = .free) || (decide (sc.names.lookup y.1 = some .cell) || decide (sc.names.lookup y.1 = some .free)))))))
theorem lamP_by {sc scope : Scope} {p : Str} (h : lamPB sc scope p = true) : LamP sc scope p := by
  unfold lamPB at h
  simp only [Bool.and_eq_true, Bool.or_eq_true, Bool.not_eq_true', decide_eq_true_eq, decide_eq_false_iff_not, List.all_eq_true] at h
  obtain ⟨h1, h2, h3, h4, h5⟩ := h
  refine ⟨h1, h2, h3, h4, fun y hy => ⟨(h5 y hy).1, fun e => ?_⟩, fun y hy e => ?_⟩
  · rcases (h5 y hy).2.1 with z | z
    · exact absurd e z
    · exact z
  · rcases (h5 y hy).2.2 with z | z
    · exact absurd e z
    · exact z
theorem LamP.has {X : Cx} {scope : Scope} {p : Str} (L : LamP X.env.scope scope p) (ok : X.Ok) {y : Str × NameKind} (hy : y ∈ scope.names) (e : y.2 = .free) : ∃ c, X.env.cells.lookup y.1 = some c := ok.has _ (L.free y hy e)
/-- the context of its body -/
def cxP (X : Cx) (A : Around) (outer : List Env) (s : Shared) (H : Hp) (E : XK) (scope : Scope) (p : Str) (f c' : Addr) : Cx := { LamX.lamCx X A outer s H E scope f c' with N := X.N ++ [p] }
section
variable {X : Cx} {pins : List (Addr × Obj)} {σ : L2.St} {H HZ : Hp} {s s1 : Shared} {A : Around} {outer : List Env} {E : XK} {scope : Scope} {p : Str} {f c' : Addr}
theorem lamP_start {h1 : Heap} {tk : Nat} {v : V} {u : Value} (I : Inv X pins σ H s) (L : LamP X.env.scope scope p) (np : ∀ (i : Nat) (v : V), X.N[i]? = some p → σ[i]? = some (some v) → False) (e0 : Env0 X.prog X.w X.K X.mg X.base A outer s1 HZ) (calm : A.handled = none)
    (un : Un (frs X.stack) [] H HZ s.heap s1.heap) (ns : h1.Ns s1.heap.objs.size fun y => ([(p, u)] : List (Str × Value)).reverse.lookup y) (kp : ∀ b o, s1.heap.get? b = some o → h1.get? b = some o) (r : RelV v u) :
    Inv (cxP X A outer s1 HZ E scope p f c') [] (σ ++ [some v]) HZ { s1 with heap := h1, toks := tk } := by
  -- the closure's cells are the maker's
  have back : ∀ {y : Str} {c : Addr}, (cloFrom X.env.cells scope.names []).lookup y = some c → X.env.cells.lookup y = some c := fun {y c} e => by
    rcases cloFrom_mem (PySem.mem_of_lookup e) with z | ⟨z, ec⟩
    · cases z
    · obtain ⟨c1, e1⟩ := L.has I.ok z rfl
      rw [ec, e1]
      rfl
  have fwd : ∀ {y : Str}, scope.names.lookup y = some .free → ∃ c, (cloFrom X.env.cells scope.names []).lookup y = some c := fun {y} e =>
    mem_lookup (cloFrom_has (cells := X.env.cells) (acc := []) (show (y, NameKind.free) ∈ scope.names from PySem.mem_of_lookup e))
  have cellOn : ∀ {c : Addr} {x : Option Value}, H c = none → s.heap.IsCell c x → h1.IsCell c x := fun {c x} n z => by
    obtain ⟨o, ho, hd⟩ := z
    obtain ⟨sl, q⟩ := un.any ho n (fun z => nomatch z)
    exact ⟨_, kp _ _ q, hd⟩
  have noCell : ∀ {y : Str}, scope.names.lookup y ≠ some .cell := fun {y} e => (L.own _ (PySem.mem_of_lookup e)).1 rfl
  have isOwn : ∀ {y : Str}, scope.names.lookup y = some .local → y = p := fun {y} e => (L.own _ (PySem.mem_of_lookup e)).2 rfl
  have ok : (cxP X A outer s1 HZ E scope p f c').Ok :=
    { mod := e0.mod
      kind := L.kind
      glob := rfl
      blt := rfl
      above := Nat.le_refl _
      inj := fun y z c e1 e2 => I.ok.inj y z c (back e1) (back e2)
      has := fun y hy => by
        rcases hy with hy | hy
        · exact absurd hy noCell
        · exact fwd hy
      cab := fun y c z _ => absurd (show false = true from z) Bool.false_ne_true
      hd := fun _ => calm
      frames := Around.frames_deeper e0.frames
      stk := .inr ⟨rfl, rfl⟩
      exf := fun b z => absurd (show b ∈ ([] : List Addr) from z) List.not_mem_nil
      bs := e0.bs
      bsz := e0.bsz
      noex := fun b _ _ z => absurd (show b ∈ ([] : List Addr) from z) List.not_mem_nil
      exfs := fun b z => absurd (show b ∈ ([] : List Addr) from z) List.not_mem_nil
      funs := e0.funs
      frf := e0.frf }
  refine ⟨ok, rfl, e0.bare, Un.kept kp, ⟨_, ns, fun i y x e1 e2 e3 => ?_⟩, fun y c e => ?_, e0.hok.fresh (Nat.le_refl _), fun y c e => ?_, fun q hq => absurd (show q ∈ ([] : List (Addr × Obj)) ++ [] from hq) List.not_mem_nil, e0.hok.kept kp, ?_⟩
  · have e1 : (X.N ++ [p])[i]? = some y := e1
    have e3 : Vis scope y := e3
    have ll : σ.length = X.N.length := I.len
    by_cases lt : i < X.N.length
    · rw [List.getElem?_append_left lt] at e1
      rw [List.getElem?_append_left (by rw [ll]; exact lt)] at e2
      have ny : y ≠ p := fun z => np i x (z ▸ e1) e2
      rcases e3 with k | k | k
      · exact absurd (isOwn k) ny
      · exact absurd k noCell
      · obtain ⟨m, _, at_⟩ := I.loc
        have fr := L.free _ (PySem.mem_of_lookup k) rfl
        obtain ⟨u', r', q⟩ := at_ i y x e1 e2 (.inr fr)
        obtain ⟨c, ec⟩ := fwd k
        refine ⟨u', r', .inr ⟨.inr k, c, ec, ?_⟩⟩
        rcases q with ⟨k', _⟩ | ⟨_, c2, ec2, z⟩
        · have k' : X.env.scope.names.lookup y = some .local := k'
          rcases fr with k2 | k2
          · rw [k'] at k2
            cases k2
          · rw [k'] at k2
            cases k2
        · rw [back ec] at ec2
          cases ec2
          exact cellOn (I.freeC y c (back ec)) z
    · have ge : X.N.length ≤ i := Nat.le_of_not_lt lt
      rw [List.getElem?_append_right ge] at e1
      rw [List.getElem?_append_right (by rw [ll]; exact ge), ll] at e2
      cases hi : i - X.N.length with
      | zero =>
        rw [hi] at e1 e2
        have ey : p = y := Option.some.inj e1
        have ev : v = x := Option.some.inj (Option.some.inj e2)
        subst ey ev
        refine ⟨u, r, .inl ⟨L.par, ?_⟩⟩
        show ([(p, u)] : List (Str × Value)).lookup p = some u
        rw [List.lookup_cons, beq_self_eq_true]
      | succ n =>
        rw [hi] at e1
        cases e1
  · obtain ⟨x, z⟩ := I.cell y c (back e)
    exact ⟨x, cellOn (I.freeC y c (back e)) z⟩
  · obtain ⟨x, o, ho, _⟩ := I.cell y c (back e)
    exact un.free c o ho (I.freeC y c (back e)) (fun z => nomatch z)
  · show (σ ++ [some v]).length = (X.N ++ [p]).length
    rw [List.length_append, List.length_append, I.len]
    rfl
/-- the lambda at f called with one thing, at any time behind its making -/
theorem lamP_run {k : Nat} {params : Arguments} {b : Expr} {pm ctv : Value} {tb : TE} {v : V} {u : Value} {Q : VK} (I : Inv X pins σ H s) (L : LamP X.env.scope scope p) (np : ∀ (i : Nat) (v : V), X.N[i]? = some p → σ[i]? = some (some v) → False)
    (hf : s.heap.get? f = some (PySem.W.kla_obj "<lambda>" (X.env.qual ++ "<lambda>") params b scope (cloFrom X.env.cells scope.names []) pm c' ctv)) (hfn : H f = none) (hfr : f ∉ frs X.stack)
    (bind : ∀ u, bindArgs (PySem.W.kla_fn "<lambda>" (X.env.qual ++ "<lambda>") params b scope (cloFrom X.env.cells scope.names []) pm (.ref c') ctv) ⟨[u], []⟩ = pure [(p, u)]) (room : Room (k + 1) A) (e0 : Env0 X.prog X.w X.K X.mg X.base A outer s1 HZ)
    (un : Un (frs X.stack) [] H HZ s.heap s1.heap) (code : HZ c' = some (LamX.CodeO c' (X.env.qual ++ "<lambda>"))) (body : ∀ (A : Around) (outer : List Env) (s : Shared) (H : Hp), Room k (A.deeper (LamX.lamEnv X scope s.heap.objs.size f c')) → PE (cxP X A outer s H E scope p f c') b tb)
    (r : RelV v u) (t : tb (σ ++ [some v]) HZ Q) : codeAny (model X.prog X.w) A (.call (.ref f) ⟨[u], []⟩) (CR (L2.CX X.prog X.w) outer X.prog X.w HZ s1 Q E) s1 := by
  have here := un.keep f _ hf hfn hfr (fun z => nomatch z)
  obtain ⟨⟨oc, vs, tk, ho, hd, hv⟩, _, _⟩ := e0.hok c' _ code
  refine PySem.W.kla_callFunE room.depth here rfl L.co L.gen rfl ⟨c', oc, vs, tk, rfl, ho, hd, hv⟩ ?_
  rw [bind u]
  refine wpAny_pure (wpAny_newFunctionEnv (fun y hy => (L.own y hy).1) (fun y hy => ?_) (fun h1 ns sb => ⟨?_, ?_⟩) L.kind)
  · rw [List.mem_singleton.mp hy]
    exact L.par
  · have kin : s1.heap.NoLimit := e0.mod.nolimit.keeps fun b o e => (e0.bs b o e).1
    exact kin.fresh _ sb
  · have kp : ∀ b o, s1.heap.get? b = some o → h1.get? b = some o := fun b o e => sb.extBut b o (Nat.ne_of_lt (Heap.lt_size e)) (Heap.get?_push_of_some _ e)
    have J := lamP_start (E := E) (f := f) (c' := c') (tk := s1.toks + ([(p, u)] : List (Str × Value)).length) I L np e0 room.hd un ns kp r
    show codeAny _ _ (.expr b (LamX.lamEnv X scope s1.heap.objs.size f c')) _ _
    refine PySem.W.kla_codeExpr (wpAny_mono ((body _ _ s1 HZ (room.deeper _)).run [] _ _ HZ Q J t) (fun w' s' z => ?_) fun e s' z => z)
    obtain ⟨x, H', J', rx, q⟩ := z
    exact ⟨x, H', J'.os, J'.bare, J'.base, J'.hok, rx, q⟩
end
/-! ### it is called by the def that got it -/
/-- that def's context, entered at s -/
abbrev gotCx (X : Cx) (Ng : List Str) (x : Str) (sg : Scope) (g : Addr) (cdg : Value) (s : Shared) (H : Hp) : Cx := cxOf CX0 X.prog X.w X.K X.mg X.base Ng x sg g cdg X.A X.stack s H E0
/-- a(e), a's slot the i-th: e's reading, then the lambda's of e's value -/
def tAct (i : Nat) (f c' : Addr) (q : Str) (ta : TA) (W : WX) (tl : XK → V → Hp → VK → Prop) : TE := fun σ H Q => σ[i]? = some (some (.ref f)) ∧ ta σ H fun vs H1 => ∃ v, vs = [v] ∧ H1 c' = some (LamX.CodeO c' q) ∧ tl (fun cls d H' => W cls d σ H') v H1 Q
theorem pe_actP {X : Cx} {pins : List (Addr × Obj)} {σ : L2.St} {H : Hp} {s : Shared} {scope : Scope} {p x a : Str} {f c' g : Addr} {k i : Nat} {params : Arguments} {b e : Expr} {pm ctv cdg : Value} {tb : XK → TE} {ta : TA} {Ng : List Str} {sg : Scope} {pn : List (Addr × Obj)} {xe : Value → Shared → Prop} {W : WX} {p1 p2 : Pos}
    (I : Inv X pins σ H s) (L : LamP X.env.scope scope p) (np : ∀ (i : Nat) (v : V), X.N[i]? = some p → σ[i]? = some (some v) → False) (hf : s.heap.get? f = some (PySem.W.kla_obj "<lambda>" (X.env.qual ++ "<lambda>") params b scope (cloFrom X.env.cells scope.names []) pm c' ctv)) (hfn : H f = none) (hfr : f ∉ frs X.stack)
    (bind : ∀ u, bindArgs (PySem.W.kla_fn "<lambda>" (X.env.qual ++ "<lambda>") params b scope (cloFrom X.env.cells scope.names []) pm (.ref c') ctv) ⟨[u], []⟩ = pure [(p, u)])
    (tk : Takes ((gotCx X Ng x sg g cdg s H).tr pn xe) W) (room : Room (k + 1) (X.A.deeper (envOfC x sg s.heap.objs.size g cdg)))
    (body : ∀ (A : Around) (outer : List Env) (s : Shared) (H : Hp) (E : XK), Room k (A.deeper (LamX.lamEnv X scope s.heap.objs.size f c')) → PE (cxP X A outer s H E scope p f c') b (tb E))
    (at_ : Ng[i]? = some a) (vis : Vis sg a) (args : PA ((gotCx X Ng x sg g cdg s H).tr pn xe) [e] ta)
    (star : starEach [e] ((gotCx X Ng x sg g cdg s H).tr pn xe).env = (false, eval e ((gotCx X Ng x sg g cdg s H).tr pn xe).env) :: starEach [] ((gotCx X Ng x sg g cdg s H).tr pn xe).env := by rfl)
    (d1 : (a == ("__debug__" : Str)) = false := by decide) (d2 : (a == ("__classdict__" : Str)) = false := by decide) :
    PE ((gotCx X Ng x sg g cdg s H).tr pn xe) (.Call (.Name a p1) [e] [] p2) (tAct i f c' (X.env.qual ++ "<lambda>") ta W fun E v H1 Q => tb E (σ ++ [some v]) H1 Q) := by
  constructor
  intro pz sz σz Hz Q Iz h
  obtain ⟨slot, ht⟩ := h
  refine wpAny_Call_Name_kw (thn ((pe_var (pos := p1) (i := i) at_ vis d1 d2).run pz sz σz Hz (fun v H1 => v = .ref f ∧ H1 = Hz) Iz ⟨.ref f, slot, rfl, rfl⟩) fun u s1 z => ?_)
  obtain ⟨v0, H1, I1, r1, rfl, rfl⟩ := z
  obtain rfl : u = Value.ref f := r1
  have still : ∀ {σ' : L2.St} {H' : Hp} {s' : Shared}, Inv ((gotCx X Ng x sg g cdg s H).tr pn xe) pz σ' H' s' → s'.heap.get? f = some (PySem.W.kla_obj "<lambda>" (X.env.qual ++ "<lambda>") params b scope (cloFrom X.env.cells scope.names []) pm c' ctv) := fun J => J.base.keep f _ hf hfn hfr (fun z => nomatch z)
  refine PySem.W.callWith_F ⟨_, _, _, _, still I1⟩ (thn (args.run p2 pz s1 σz H1 _ I1 ht) fun us s2 z => ?_) star rfl
  obtain ⟨vs, H2, I2, rv, v, rfl, hc, tl⟩ := z
  obtain ⟨u, rfl, ru⟩ := vals1 rv
  have e2 : Env0 X.prog X.w X.K X.mg X.base (X.A.deeper (envOfC x sg s.heap.objs.size g cdg)) (envOfC x sg s.heap.objs.size g cdg :: X.stack) s2 H2 := I2.env0
  have un : Un (frs X.stack) [] H H2 s.heap s2.heap := I2.base
  have run := lamP_run (X := X) (E := fun cls d H' => W cls d σz H') (k := k) (u := u) (Q := Q) I L np hf hfn hfr bind room e2 un hc (fun A outer s H rm => body A outer s H _ rm) ru tl
  refine ⟨⟨_, _, _, _, still I2⟩, wpAny_call (codeAny_mono run fun res s3 z => ?_)⟩
  cases res with
  | error er => exact tk er s3 (XE.of_call I2 (fun _ _ _ w => w) z)
  | ok fl =>
    cases fl with
    | ret u' => exact I2.after z
    | next => exact (show False from z).elim
    | brk => exact (show False from z).elim
    | cont => exact (show False from z).elim
/-- what the def makes of the lambda's reading tl and of the thing v: TT -/
def GivesP (X : Cx) (k : Nat) (Ng : List Str) (x : Str) (sg : Scope) (g : Addr) (cdg : Value) (bg : List Stmt) (a : Str) (q : Str) (TT : V → (XK → V → Hp → VK → Prop) → Hp → VK → Prop) : Prop :=
  ∀ (f c' : Addr) (v : V) (s : Shared) (H : Hp) (Q : VK) (tl : XK → V → Hp → VK → Prop), Room k (X.A.deeper (envOfC x sg s.heap.objs.size g cdg)) →
    (∀ (W : WX) (pn : List (Addr × Obj)) (xe : Value → Shared → Prop) (p1 p2 : Pos) (e : Expr) (ta : TA), Takes ((gotCx X Ng x sg g cdg s H).tr pn xe) W → PA ((gotCx X Ng x sg g cdg s H).tr pn xe) [e] ta →
      starEach [e] ((gotCx X Ng x sg g cdg s H).tr pn xe).env = (false, eval e ((gotCx X Ng x sg g cdg s H).tr pn xe).env) :: starEach [] ((gotCx X Ng x sg g cdg s H).tr pn xe).env →
      PE ((gotCx X Ng x sg g cdg s H).tr pn xe) (.Call (.Name a p1) [e] [] p2) (tAct 0 f c' q ta W tl)) →
    H c' = some (LamX.CodeO c' q) → TT v tl H Q →
    ∃ t, PSs (gotCx X Ng x sg g cdg s H).nox bg t ∧ t { nx := fun _ H' => Q .non H', rt := Q } (L2.start Ng [.ref f, v]) H
/-- the lambda is made: all but the table at P is as it was -/
theorem lam_new {X : Cx} {pins : List (Addr × Obj)} {σ : L2.St} {H : Hp} {s : Shared} {c P : Addr} {params : Arguments} {b : Expr} {scope : Scope} {pos : Pos} {E Q : Value → Shared → Prop} (J : Inv X pins σ H s) (tab : LamX.TabB X.base X.mg c P) (own : X.env.code = .ref c)
    (t0 : LamX.TabS H P (X.env.qual ++ "<lambda>")) (nodef : defaultsOf params X.env = ([], [])) (has : ∀ y ∈ scope.names, y.2 = .free → ∃ c, X.env.cells.lookup y.1 = some c)
    (go : ∀ (f c' : Addr) (pm ctv : Value) (H1 : Hp) (s1 : Shared), Inv X pins σ H1 s1 → But P H H1 → LamX.TabS H1 P (X.env.qual ++ "<lambda>") → s1.heap.get? f = some (PySem.W.kla_obj "<lambda>" (X.env.qual ++ "<lambda>") params b scope (cloFrom X.env.cells scope.names []) pm c' ctv) →
      H1 f = none → f ∉ frs X.stack → H1 c' = some (LamX.CodeO c' (X.env.qual ++ "<lambda>")) → Q (.ref f) s1) : wpAny (model X.prog X.w) X.A (eval (.Lambda params b scope pos) X.env) Q E s := by
  have seen := t0
  obtain ⟨ps, atP, tri, each⟩ := seen
  have blt : s.heap.BuiltinsAt X.mg P := tab.bm.keeps J.bk
  have objP : s.heap.get? P = some { cls := .none, data := .fields ps } := J.hok P _ atP
  have far : ∀ f, s.heap.objs.size ≤ f → f ∉ frs X.stack := fun f le m => by
    rcases List.mem_cons.mp (J.stkSub _ m) with e | e
    · have lt := J.lt
      rw [← e] at lt
      exact absurd (Nat.lt_of_lt_of_le lt le) (Nat.lt_irrefl _)
    · exact J.nofs le e
  refine PySem.W.kla_eval nodef ?_
  cases found : codeAmong pos ps.toList with
  | some cv =>
    obtain ⟨c', rfl, here⟩ := each pos cv found
    refine PySem.W.kla_makeFunctionHit (P := P) (c := c) (mg := X.mg) (ps := ps) (closure_ok has) J.ok.glob (J.mod.glob.keeps J.bk) own (tab.code.keeps J.bk) objP tri found blt fun ctv h' tk kept le => ?_
    have J1 : Inv X pins σ H { s with heap := h'.push (PySem.W.kla_obj "<lambda>" (X.env.qual ++ "<lambda>") params b scope (cloFrom X.env.cells scope.names []) ((X.mg "__name__").getD .none) c' ctv), toks := tk } := J.kept fun _ _ e => Heap.get?_push_of_some _ (kept _ _ e)
    exact go _ c' _ ctv H _ J1 .refl t0 (Heap.get?_push_size _ rfl) (J.hok.fresh le) (far _ le) here
  | none =>
    refine PySem.W.kla_makeFunction (P := P) (c := c) (mg := X.mg) (ps := ps) (closure_ok has) J.ok.glob (J.mod.glob.keeps J.bk) own (tab.code.keeps J.bk) objP tri found tab.gP blt fun c' ctv h' tk kept ge lt rec_ grown => ?_
    obtain ⟨c2, oc, vs, tk2, e2, atC, dat, nm⟩ := rec_
    cases e2
    have le : s.heap.objs.size ≤ h'.objs.size := Nat.le_trans ge (Nat.le_of_lt lt)
    have newC : H c' = none := J.hok.fresh ge
    have J1 := LamX.inv_table (t' := tk) (more := #[rawInt pos.line, rawInt pos.col, .ref c']) (h' := h'.push (PySem.W.kla_obj "<lambda>" (X.env.qual ++ "<lambda>") params b scope (cloFrom X.env.cells scope.names []) ((X.mg "__name__").getD .none) c' ctv)) J atP
      (fun _ _ nb e => Heap.get?_push_of_some _ (kept _ _ nb e)) (Heap.get?_push_of_some _ grown) ge ⟨oc, vs, tk2, Heap.get?_push_of_some _ atC, dat, nm⟩
    have but : But P H (upd (upd H P (.tbl (ps ++ #[rawInt pos.line, rawInt pos.col, .ref c']))) c' (LamX.CodeO c' (X.env.qual ++ "<lambda>"))) := fun d o e n => by
      rw [upd_ne (ne_of_none e newC), upd_ne n]
      exact e
    have toL : (ps ++ #[rawInt pos.line, rawInt pos.col, .ref c']).toList = ps.toList ++ [rawInt pos.line, rawInt pos.col, .ref c'] := by simp
    have away : ∀ {d : Addr} {q : Str}, H d = some (LamX.CodeO d q) → d ≠ P := fun {d q} e z => by
      rw [z, atP] at e
      exact LamX.codeO_ne ps (Option.some.inj e).symm
    refine go h'.objs.size c' _ ctv _ _ J1 but ⟨ps ++ #[rawInt pos.line, rawInt pos.col, .ref c'], ?_, ?_, fun p' cv among => ?_⟩ (Heap.get?_push_size _ rfl) ?_ (far _ le) upd_same
    · rw [upd_ne (ne_of_none atP newC), upd_same]
    · rw [toL]
      exact PySem.TriplesOk_snoc _ _ _ _ tri
    · rw [toL] at among
      rcases LamX.among_app _ tri among with z | z
      · obtain ⟨c0, e1, e2⟩ := each p' cv z
        exact ⟨c0, e1, but _ _ e2 (away e2)⟩
      · exact ⟨c', z, upd_same⟩
    · rw [upd_ne (Nat.ne_of_gt lt), upd_ne (Nat.ne_of_gt (Nat.lt_of_lt_of_le (Heap.lt_size objP) le))]
      exact J.hok.fresh le
def tLamP (P : Addr) (qn : Str) (TT : V → (XK → V → Hp → VK → Prop) → Hp → VK → Prop) (t : XK → TE) (ta : TA) : TE := fun σ H Q => LamX.TabS H P qn ∧ ∀ H1, But P H H1 → LamX.TabS H1 P qn → ta σ H1 fun vs H2 => ∃ v, vs = [v] ∧ LamX.ExtN H1 H2 ∧ TT v (fun E v H' Q' => t E (σ ++ [some v]) H' Q') H2 Q
theorem pinned_one {X : Cx} {pins : List (Addr × Obj)} {σ : L2.St} {H : Hp} {s : Shared} {f : Addr} {o : Obj} {fd : FuncData} (I : Inv X pins σ H s) (hf : s.heap.get? f = some o) (hd : o.data = .func fd) (hn : H f = none) (hfr : f ∉ frs X.stack) : Inv X ((f, o) :: pins) σ H s := by
  refine ⟨I.ok, I.os, I.bare, I.base, I.loc, I.cell, I.free, I.freeC, fun q hq => ?_, I.hok, I.len⟩
  rcases List.mem_append.mp hq with z | z
  · exact I.pin q (List.mem_append_left _ z)
  · rcases List.mem_cons.mp z with e | z
    · subst e
      refine ⟨hf, hn, fun e => ?_, fun m => hfr ?_, fun v e => ?_⟩
      · obtain ⟨m, ⟨ol, es, ep, el, dl, _⟩, _⟩ := I.loc
        have e' : f = X.env.locals := e
        rw [← e', hf] at el
        cases el
        rw [hd] at dl
        cases dl
      · rcases I.ok.stk with st | ⟨st, _⟩
        · rw [st]
          exact m
        · rw [st]
          obtain ⟨e1, m1, m2⟩ := List.mem_filterMap.mp m
          exact List.mem_filterMap.mpr ⟨e1, List.mem_cons_of_mem _ m1, m2⟩
      · have e' : o.data = .cell v := e
        rw [hd] at e'
        cases e'
    · exact I.pin q (List.mem_append_right _ z)
theorem unpin_one {X : Cx} {pins : List (Addr × Obj)} {σ : L2.St} {H : Hp} {s : Shared} {q : Addr × Obj} (I : Inv X (q :: pins) σ H s) : Inv X pins σ H s := by
  refine ⟨I.ok, I.os, I.bare, I.base, I.loc, I.cell, I.free, I.freeC, fun z hz => I.pin z ?_, I.hok, I.len⟩
  rcases List.mem_append.mp hz with m | m
  · exact List.mem_append_left _ m
  · exact List.mem_append_right _ (List.mem_cons_of_mem _ m)
/-- x(lambda p: b, e) -/
theorem pe_lamP {X : Cx} {TT : V → (XK → V → Hp → VK → Prop) → Hp → VK → Prop} {x a a2 p : Str} {g c P : Addr} {k : Nat} {pg : Arguments} {bg : List Stmt} {sg : Scope} {dV kV doc pm cdv ct oc : Value} {an od : Option Addr} {osl : Array (Option Value)} {Ng : List Str} {params : Arguments} {b e : Expr} {scope : Scope} {t : XK → TE} {ta : TA} {pp lpos pos : Pos}
    (gl : Gl X x) (mg : X.mg x = some (.ref g)) (keep : PySem.W.keepIn X.K (.ref g) = true) (look : X.K.lookup g = some ⟨oc, od, .func (PySem.W.fnOf x x pg bg sg dV kV doc pm an cdv ct), osl⟩) (code : PySem.W.codeIn X.K cdv x = true)
    (binds : L2.Binds X.K (PySem.W.fnOf x x pg bg sg dV kV doc pm an cdv ct) [a, a2] []) (S : FnScope Ng [a, a2] sg) (at0 : Ng[0]? = some a) (vis : Vis sg a) (gives : GivesP X (k + 1) Ng x sg g cdv bg a (X.env.qual ++ "<lambda>") TT)
    (TB : LamX.TabB X.base X.mg c P) (own : X.env.code = .ref c) (room : Room (k + 2) X.A) (L : LamP X.env.scope scope p) (np : p ∉ X.N) (nodef : defaultsOf params X.env = ([], []))
    (bind : ∀ (q : Str) (cl : List (Str × Addr)) (pm cv ctv u : Value), bindArgs (PySem.W.kla_fn "<lambda>" q params b scope cl pm cv ctv) ⟨[u], []⟩ = pure [(p, u)])
    (body : ∀ (A : Around) (outer : List Env) (s : Shared) (H : Hp) (E : XK) (f c' : Addr), Room k (A.deeper (LamX.lamEnv X scope s.heap.objs.size f c')) → PE (cxP X A outer s H E scope p f c') b (t E)) (args : PA X [e] ta)
    (star : starEach (.Lambda params b scope lpos :: [e]) X.env = (false, eval (.Lambda params b scope lpos) X.env) :: starEach [e] X.env := by rfl) (plain : (backTo pos (starEach [e] X.env)).any (·.1) = false := by rfl)
    (d0 : (x == ("__debug__" : Str)) = false := by decide) (d1 : (a == ("__debug__" : Str)) = false := by decide) (d2 : (a == ("__classdict__" : Str)) = false := by decide) :
    PE X (.Call (.Name x pp) [.Lambda params b scope lpos, e] [] pos) (tLamP P (X.env.qual ++ "<lambda>") TT t ta) := by
  constructor
  intro pins s σ H Q I h
  obtain ⟨hT, h⟩ := h
  refine wpAny_Call_Name_kw (ld_glob I gl mg ?_ d0)
  refine PySem.W.callWith_K (h₀ := X.base) I.ok.mod.kin keep ?_ star plain
  rw [star]
  show wpAny _ _ (spliced ((false, eval (.Lambda params b scope lpos) X.env) :: backTo pos (starEach [e] X.env))) _ _ s
  refine Calls.spliced_cons (lam_new I TB own hT nodef (fun y hy z => L.has I.ok hy z) fun f c' pm' ctv H1 s1 I1 ext T1 hf hfn hfr hco => ?_)
  have Ip := pinned_one I1 hf rfl hfn hfr
  refine thn (args.run pos _ s1 σ H1 _ Ip (h H1 ext T1)) fun us s2 z => ?_
  obtain ⟨vs, H2, I2, rv, v, rfl, ext2, tt⟩ := z
  obtain ⟨u, rfl, ru⟩ := vals1 rv
  have f2 := I2.pin (f, _) (List.mem_append_right _ List.mem_cons_self)
  have co2 : H2 c' = some (LamX.CodeO c' (X.env.qual ++ "<lambda>")) := ext2 _ _ hco (LamX.codeO_ne)
  refine ⟨I2.kIn, ?_⟩
  have run : codeAny (model X.prog X.w) X.A (.call (.ref g) ⟨[.ref f, u], []⟩) (CR CX0 X.stack X.prog X.w H2 s2 Q E0) s2 := by
    refine LamX.run_ofS (N := Ng) (ps := [a, a2]) (us := [.ref f, u]) (vs := [.ref f, v]) look code S room I2.env0 (binds s2 [.ref f, u] I2.kIn rfl) (.cons rfl (.cons ru .nil)) rfl fun hr' => ?_
    obtain ⟨t', ht', q'⟩ := gives f c' v s2 H2 Q (fun E v H' Q' => t E (σ ++ [some v]) H' Q') hr' (fun W pn xe p1 p2 e ta tk args star => pe_actP (k := k) I2 L (fun i v e _ => np (List.mem_of_getElem? e)) f2.1 f2.2.1 hfr (fun u => bind _ _ _ _ _ u) tk hr' (fun A outer s H E rm => body A outer s H E f c' rm) at0 vis args star d1 d2) co2 tt
    exact ⟨t', ht'.nox, q'⟩
  refine wpAny_call (codeAny_mono run fun res s3 z => ?_)
  cases res with
  | error er => exact (show False from z).elim
  | ok fl =>
    cases fl with
    | ret u' =>
      obtain ⟨v', H', J, r', q'⟩ := I2.after z
      exact ⟨v', H', unpin_one J, r', q'⟩
    | next => exact (show False from z).elim
    | brk => exact (show False from z).elim
    | cont => exact (show False from z).elim
/-- the same by the def's own facts -/
theorem pe_lamF {X : Cx} {TT : V → (XK → V → Hp → VK → Prop) → Hp → VK → Prop} {x a a2 p : Str} {g c P : Addr} {k : Nat} {st : Stmt} {fd : FuncData} {Ng : List Str} {params : Arguments} {b e : Expr} {scope : Scope} {t : XK → TE} {ta : TA} {pp lpos pos : Pos}
    (gl : Gl X x) (mg : X.mg x = some (.ref g)) (F : Fun X.K x x st g fd) (binds : L2.Binds X.K fd [a, a2] []) (S : FnScope Ng [a, a2] (defScope st)) (at0 : Ng[0]? = some a) (vis : Vis (defScope st) a) (gives : ∀ cdg, GivesP X (k + 1) Ng x (defScope st) g cdg (defBody st) a (X.env.qual ++ "<lambda>") TT)
    (TB : LamX.TabB X.base X.mg c P) (own : X.env.code = .ref c) (room : Room (k + 2) X.A) (L : LamP X.env.scope scope p) (np : p ∉ X.N) (nodef : defaultsOf params X.env = ([], []))
    (bind : ∀ (q : Str) (cl : List (Str × Addr)) (pm cv ctv u : Value), bindArgs (PySem.W.kla_fn "<lambda>" q params b scope cl pm cv ctv) ⟨[u], []⟩ = pure [(p, u)])
    (body : ∀ (A : Around) (outer : List Env) (s : Shared) (H : Hp) (E : XK) (f c' : Addr), Room k (A.deeper (LamX.lamEnv X scope s.heap.objs.size f c')) → PE (cxP X A outer s H E scope p f c') b (t E)) (args : PA X [e] ta)
    (star : starEach (.Lambda params b scope lpos :: [e]) X.env = (false, eval (.Lambda params b scope lpos) X.env) :: starEach [e] X.env := by rfl) (plain : (backTo pos (starEach [e] X.env)).any (·.1) = false := by rfl)
    (d0 : (x == ("__debug__" : Str)) = false := by decide) (d1 : (a == ("__debug__" : Str)) = false := by decide) (d2 : (a == ("__classdict__" : Str)) = false := by decide) :
    PE X (.Call (.Name x pp) [.Lambda params b scope lpos, e] [] pos) (tLamP P (X.env.qual ++ "<lambda>") TT t ta) := by
  have keep := F.kp
  obtain ⟨oc, od, kV, doc, pm, an, cdv, ct, osl, rfl, lk, hcd⟩ := F.ex
  exact pe_lamP gl mg keep lk hcd binds S at0 vis (gives cdv) TB own room L np nodef bind body args star plain d0 d1 d2

/-! ### a law called from the caller itself: nothing is shown around it -/
/-- at the law's call: its tables are empty, the script is frozen (or known by K) -/
def lawH (K : PySem.W.Frag) (cs : List (Addr × Addr)) (a : Addr) (o : Obj) (ns : List Int) : Hp := fun b => if b ∈ cs.map (·.2) then some (.tbl #[]) else if b = a ∧ K.lookup a = none then some (.frz o (.lst (ns.map V.int))) else none
theorem lawH_some {K : PySem.W.Frag} {cs : List (Addr × Addr)} {a b : Addr} {o : Obj} {ns : List Int} {u : HO} (h : lawH K cs a o ns b = some u) : (b ∈ cs.map (·.2) ∧ u = .tbl #[]) ∨ (b = a ∧ K.lookup a = none ∧ u = .frz o (.lst (ns.map V.int))) := by
  unfold lawH at h
  split at h
  · rename_i m
    exact .inl ⟨m, (Option.some.inj h).symm⟩
  · split at h
    · rename_i m
      exact .inr ⟨m.1, m.2, (Option.some.inj h).symm⟩
    · cases h
theorem call_law {P : Program} {w : World} {K : PySem.W.Frag} {mg mb : Str → Option Value} {fa a : Addr} {cs : List (Addr × Addr)} {s : Shared} {vs : List Value} {ns : List Int} (kin : K.In s.heap) (gl : s.heap.Ns mainGlobals mg) (bi : s.heap.Ns builtinsNs mb)
    (boot : ∀ x : Str, x ≠ "__name__" → mb x = bootBuiltins x) (lim : s.heap.NoLimit) (gens : s.gens = #[]) (tabs : ∀ p ∈ cs, s.heap.get? p.2 = some { cls := .none, data := .fields #[] }) (away : ∀ p ∈ cs, K.lookup p.2 = none) (code : ∀ p ∈ cs, PySem.W.CodeHd s.heap p.1 p.2)
    (bm : ∃ (bm : Addr) (ob : Obj), mg "__builtins__" = some (.ref bm) ∧ bm ≠ builtinsNs ∧ s.heap.get? bm = some ob ∧ ob.cls = .type "module" ∧ ob.dict = some builtinsNs ∧ ob.data = .plain) (scr : s.heap.get? a = some { cls := .type "list", data := .seq vs.toArray }) (iar : IntsAre vs ns) (len : ns.length ≤ sizeLine)
    (run : ∀ (base : Heap) (H : Hp), (∀ p ∈ cs, LamX.TabB base mg p.1 p.2) → Env0 P w K mg base callerA [] s H → (∀ p ∈ cs, H p.2 = some (.tbl #[])) → SqL K H a (ns.map V.int) →
      codeAny (model P w) callerA (.call (.ref fa) ⟨[.ref a], []⟩) (CR CX0 [] P w H s (fun v _ => v = .bl true) E0) s) :
    codeAny (model P w) callerA (.call (.ref fa) ⟨[.ref a], []⟩) (fun r s' => r = .ok (.ret (.bool true)) ∧ OldK s.heap s'.heap ∧ s'.os = s.os ∧ AllBare s'.gens) s := by
  have rel := vals_ints iar
  have tabAt : ∀ {b : Addr}, b ∈ cs.map (·.2) → s.heap.get? b = some { cls := .none, data := .fields #[] } := fun {b} m => by
    obtain ⟨p, hp, rfl⟩ := List.mem_map.mp m
    exact tabs p hp
  have notTab : a ∉ cs.map (·.2) := fun m => by
    have z := (tabAt m).symm.trans scr
    have z2 := congrArg Obj.data (Option.some.inj z)
    cases z2
  generalize hH : lawH K cs a { cls := .type "list", data := .seq vs.toArray } ns = H
  have some_ : ∀ {b : Addr} {u : HO}, H b = some u → (b ∈ cs.map (·.2) ∧ u = .tbl #[]) ∨ (b = a ∧ K.lookup a = none ∧ u = .frz { cls := .type "list", data := .seq vs.toArray } (.lst (ns.map V.int))) := fun {b u} e => by
    rw [← hH] at e
    exact lawH_some e
  have tabH : ∀ p ∈ cs, H p.2 = some (.tbl #[]) := fun p hp => by
    rw [← hH]
    exact if_pos (List.mem_map.mpr ⟨p, hp, rfl⟩)
  -- what is neither a list nor an empty table isn't tracked
  have loose : ∀ {b : Addr} {ob : Obj}, s.heap.get? b = some ob → (∀ xs n, ob.data ≠ .seq xs n) → ob.data ≠ .fields #[] → H b = none := fun {b ob} e n1 n2 => by
    cases q : H b with
    | none => rfl
    | some u =>
      rcases some_ q with ⟨m, _⟩ | ⟨rfl, _⟩
      · rw [tabAt m] at e
        cases e
        exact absurd rfl n2
      · rw [scr] at e
        cases e
        exact absurd rfl (n1 _ _)
  have nsOn : ∀ {b : Addr} {m : Str → Option Value}, s.heap.Ns b m → (hidT s.heap H).Ns b m := fun {b m} z => by
    obtain ⟨o, es, ep, e, d, r⟩ := z
    refine ⟨o, es, ep, hidT_get e (loose e (fun _ _ q => ?_) fun q => ?_), d, r⟩
    · rw [d] at q
      cases q
    · rw [d] at q
      cases q
  have kin' : K.In (hidT s.heap H) := fun b o e => hidT_get (kin b o e) (by
    cases q : H b with
    | none => rfl
    | some u =>
      rcases some_ q with ⟨m, _⟩ | ⟨rfl, n, _⟩
      · obtain ⟨p, hp, rfl⟩ := List.mem_map.mp m
        rw [away p hp] at e
        cases e
      · rw [n] at e
        cases e)
  have hok : HOk P w H s.heap := fun b u e => by
    rcases some_ e with ⟨m, rfl⟩ | ⟨rfl, _, rfl⟩
    · exact tabAt m
    · exact ⟨scr, by rw [List.length_map]; exact len, vs, _, rel, scr⟩
  have sq : SqL K H a (ns.map V.int) := by
    cases q : K.lookup a with
    | none =>
      refine .inl (.inr ⟨{ cls := .type "list", data := .seq vs.toArray }, ?_⟩)
      rw [← hH]
      exact (if_neg notTab).trans (if_pos ⟨rfl, q⟩)
    | some o =>
      have e := kin a o q
      rw [scr] at e
      cases e
      exact .inr ⟨_, vs.toArray, _, q, rfl, rfl, rfl, by rw [List.size_toArray, iar.length]; exact len, rel⟩
  have tb : ∀ p ∈ cs, LamX.TabB (hidT s.heap H) mg p.1 p.2 := fun p hp => by
    have pt := tabs p hp
    refine ⟨?_, ?_, fun e => ?_⟩
    · obtain ⟨o, us, fl, tf, fg, tg, iF, tx, tt, g1, g2, g3, g4, g5⟩ := code p hp
      refine ⟨o, us, fl, tf, fg, tg, iF, tx, tt, hidT_get g1 (loose g1 (fun _ _ q => ?_) fun q => ?_), g2, g3, g4, g5⟩
      · rw [g3] at q
        cases q
      · rw [g3] at q
        cases q
        simp at g4
    · obtain ⟨b, ob, m1, m2, m3, m4, m5, m6⟩ := bm
      refine ⟨b, ob, m1, m2, fun e => ?_, fun e => ?_, hidT_get m3 (loose m3 (fun _ _ q => ?_) fun q => ?_), m4, m5, m6⟩
      · obtain ⟨o, es, ep, e1, d1, _⟩ := gl
        rw [e, e1] at m3
        cases m3
        rw [d1] at m6
        cases m6
      · rw [e, pt] at m3
        cases m3
        cases m6
      · rw [m6] at q
        cases q
      · rw [m6] at q
        cases q
    · obtain ⟨o, es, ep, e1, d1, _⟩ := gl
      rw [e, pt] at e1
      cases e1
      cases d1
  have limOn : (hidT s.heap H).NoLimit := by
    obtain ⟨mc, l1, l2⟩ := lim
    exact ⟨mc, nsOn l1, l2⟩
  have env : Env0 P w K mg (hidT s.heap H) callerA [] s H := ⟨rfl, ⟨kin', nsOn gl, ⟨mb, nsOn bi, boot⟩, limOn⟩, fun b o e => of_hidT e, Nat.le_of_eq (hidT_size _ _), trivial, fun b hb => absurd (show b ∈ ([] : List Addr) from hb) List.not_mem_nil, hok, .of_eq gens⟩
  refine codeAny_mono (run _ H tb env tabH sq) fun r s' z => ?_
  cases r with
  | error e => exact (show False from z).elim
  | ok fl =>
    cases fl with
    | next => exact (show False from z).elim
    | brk => exact (show False from z).elim
    | cont => exact (show False from z).elim
    | ret u =>
      obtain ⟨v, H', os, bare, un, hok', rv, ev⟩ := z
      have ev : v = .bl true := ev
      subst ev
      obtain rfl : u = Value.bool true := rv
      have grown : ∀ p ∈ cs, ∃ more : Array Value, s'.heap.get? p.2 = some { cls := .none, data := .fields more } := fun p hp => by
        obtain ⟨more, q⟩ := un.tbls p.2 #[] (tabH p hp)
        exact ⟨_, hok' p.2 _ q⟩
      have stays : ∀ b o, b ∉ cs.map (·.2) → s.heap.get? b = some o → s'.heap.get? b = some o := fun b o nb e => by
        cases q : H b with
        | none => exact un.keep b o e q (fun z => absurd (show b ∈ ([] : List Addr) from z) List.not_mem_nil) List.not_mem_nil
        | some u =>
          rcases some_ q with ⟨m, _⟩ | ⟨_, _, rfl⟩
          · exact absurd m nb
          · have e1 := (hok b _ q).1
            have e2 := (hok' b _ (un.frzs b _ _ q)).1
            rw [e] at e1
            rw [Option.some.inj e1]
            exact e2
      refine ⟨rfl, ⟨fun b o e => ?_, fun b o e => ?_⟩, os, bare⟩
      · by_cases m : b ∈ cs.map (·.2)
        · obtain ⟨p, hp, rfl⟩ := List.mem_map.mp m
          obtain ⟨more, hm⟩ := grown p hp
          rw [tabs p hp] at e
          cases e
          exact .inr (.inl ⟨((code p hp).tab (tabs p hp)).isCodeTable, rfl, #[], more, rfl, by rw [Array.empty_append]; exact hm⟩)
        · exact .inl (stays b o m e)
      · by_cases m : b ∈ cs.map (·.2)
        · obtain ⟨p, hp, rfl⟩ := List.mem_map.mp m
          obtain ⟨more, hm⟩ := grown p hp
          exact ⟨_, hm⟩
        · exact ⟨o, stays b o m e⟩
theorem walk_law0 {l : PySem.W.OpenLaw} {most : Nat} {prog : Program} {lo : List Str} {XP : (Str → Option Value) → Heap → Prop} {YP : World → Heap → Prop} {df : DefRec} {K : Params → PySem.W.Frag} (names : List Str)
    (h1 : l.most = some most) (h2 : most ≤ sizeLine) (h3 : df.params.defaults = []) (recs : (names.all fun nm => (recsOf prog).any fun r => r.name == nm) = true) (kin : ∀ (w : World) (h : Heap), YP w h → (K w.params).In h)
    (at_ : ∀ (w : World) (mg : Str → Option Value) (fa : Addr) (h : Heap), (K w.params).In h → h.Ns mainGlobals mg → mg df.name = some (.ref fa) → (∀ nm ∈ names, TabAt mg h nm) →
      ∃ cs : List (Addr × Addr), (∀ p ∈ cs, h.get? p.2 = some { cls := .none, data := .fields #[] }) ∧ (∀ p ∈ cs, (K w.params).lookup p.2 = none) ∧ (∀ p ∈ cs, PySem.W.CodeHd h p.1 p.2) ∧
        ∀ (s : Shared) (H : Hp) (base : Heap) (a : Addr) (ns : List Int), ns.length ≤ most → (∀ z ∈ ns, Builtin.Int.intBits z ≤ 1048576) → (∀ p ∈ cs, LamX.TabB base mg p.1 p.2) → Env0 l.prog w (K w.params) mg base callerA [] s H → (∀ p ∈ cs, H p.2 = some (.tbl #[])) → SqL (K w.params) H a (ns.map V.int) →
          codeAny (model l.prog w) callerA (.call (.ref fa) ⟨[.ref a], []⟩) (CR CX0 [] l.prog w H s (fun v _ => v = .bl true) E0) s) :
    PySem.W.WalkO prog lo XP YP l.row.toRowW df [] (fun f vs => PySem.call f vs) := by
  refine Att.attach_callB h1 h3 fun w s0 s mg mb fa o pm cd doc a vs ns Gr Y _ _ _ name ob iar len bits gens => ?_
  have tabs : ∀ nm ∈ names, TabAt mg s.heap nm := fun nm hm => by
    obtain ⟨r, hr, er⟩ := List.any_eq_true.mp (List.all_eq_true.mp recs nm hm)
    obtain ⟨x1, x2, x3, x4, x5, y1, y2, y3, y4, _, y6⟩ := Gr.T.tab r hr
    rw [beq_iff_eq.mp er] at y1
    exact ⟨x1, x2, x3, x4, x5, y1, y2, y3, y4, y6⟩
  obtain ⟨cs, t1, t2, t3, go⟩ := at_ w mg fa _ (kin w _ Y) Gr.T.g name tabs
  exact call_law (kin w _ Y) Gr.T.g Gr.T.b Gr.T.builtins Gr.T.nolimit gens t1 t2 t3 Gr.T.bmain ob iar (Nat.le_trans len h2) fun base H tb e0 th sq => go s H base a ns len bits tb e0 th sq

end My
namespace My
open PySem PySem.Spec PyProof.Rows L2
/-! ### repr of what is nested; a list of truths counted; raise X() -/
def rRepr (K : PySem.W.Frag) : List V → Hp → VK → Prop := fun xs H Q => ∃ (v : V) (d : PyData), xs = [v] ∧ Dp K H v d ∧ isDisplay d = true ∧ d.showable = true ∧ d.hasDict = false ∧ d.depth ≤ 50 ∧ d.shown.length ≤ sizeLine ∧ Q (.str d.shown) H
theorem call_repr {X : Cx} (none_ : X.A.guards = some []) (room : X.A.units + 64 < cLine) : CallR X (.builtin "repr") (rRepr X.K) := by
  intro pins s σ H xs us Q I r h
  obtain ⟨v, d, rfl, dp, disp, shw, nod, dep, len, q⟩ := h
  obtain ⟨u, rfl, ru⟩ := vals1 r
  obtain ⟨as, rd⟩ := Dp.reads I d v u dp ru
  obtain ⟨a, rfl⟩ := isRef_of_reads rd disp
  exact repr_of_reads' rd shw (PyData.noDict_hsm nod) none_ (by omega) (fun _ _ e => e) (fun h' t tk hk => ⟨.str d.shown, H, I.kept (t' := tk) hk, ⟨t, rfl⟩, q⟩) len
/-- l.count(True), l a list of truths -/
def rCntB (K : PySem.W.Frag) : V → List V → Hp → VK → Prop := fun x xs H Q => ∃ (p : Addr) (bs : List Bool) (b : Bool), x = .ref p ∧ xs = [.bl b] ∧ SqL K H p (bs.map V.bl) ∧ Q (.int (bs.count b : Nat)) H
def isB (b : Bool) : Value → Bool
  | .bool c => c == b
  | _ => false
theorem bools_of {b : Bool} : ∀ {bs : List Bool} {us : List Value}, Vals (bs.map V.bl) us → (∀ y ∈ us, ∃ c, y = .bool c) ∧ us.countP (isB b) = bs.count b
  | [], _, r => by
    cases r
    exact ⟨fun y h => (nomatch h), rfl⟩
  | c :: bs, _, r => by
    rw [List.map_cons] at r
    cases r with
    | @cons a u as us ru rr =>
      obtain ⟨h1, h2⟩ := bools_of (b := b) rr
      obtain rfl : u = Value.bool c := ru
      refine ⟨fun y hy => ?_, ?_⟩
      · rcases List.mem_cons.mp hy with e | e
        · exact ⟨c, e⟩
        · exact h1 y e
      · rw [List.countP_cons, List.count_cons, h2]
        rfl
theorem mt_countB {X : Cx} : MtR X "list.count" (rCntB X.K) := by
  intro pins s σ H x xs v us Q I rx rxs h
  obtain ⟨p, bs, b, rfl, rfl, sq, q⟩ := h
  obtain rfl : v = Value.ref p := rx
  obtain ⟨u, rfl, ru⟩ := rxs.one
  obtain rfl : u = Value.bool b := ru
  obtain ⟨its, rel, ⟨ob, n, hob, cls, dct, dat⟩, _⟩ := I.list sq
  obtain ⟨oc, od, odt, osl⟩ := ob
  simp only at cls dat
  subst cls dat
  obtain ⟨all, cnt⟩ := bools_of (b := b) rel
  refine call_meets PySem.F.slot_list_count ⟨_, hob, rfl⟩ PySem.F.entry_list_count (PySem.F.args_list_count_2 _ _) (SeqAt.list_countAt p its.toArray n od osl (.bool b) (isB b)) ⟨hob, fun y hy => ?_, ?_⟩
  · obtain ⟨c, rfl⟩ := all y (by simpa using hy)
    exact SeqAt.EqAt.bool_bool c b
  · refine ⟨.int (bs.count b : Nat), H, I.tok _, ⟨s.toks, ?_⟩, q⟩
    show Value.int ((its.toArray.toList.countP (isB b) : Nat) : Int) s.toks = Value.int ((bs.count b : Nat) : Int) s.toks
    rw [← cnt]
/-- raise X() -/
theorem pmk_own0 {X : Cx} {C : Addr} {x : Str} {p pos : Pos} (ex : PySem.W.excIn X.K C veB "ValueError.__new__" = true) (gC : X.mg x = some (.ref C)) (kC : PySem.W.keepIn X.K (.ref C) = true) (rs : Raises X (.ref C)) (gl : Gl X x) (dbg : (x == ("__debug__" : Str)) = false := by decide) :
    PMk X (.Call (.Name x p) [] [] pos) (fun _ H Q => Q (.ref C) none H) := by
  intro pins st σ H Q I q
  refine wpAny_Call_Name_kw (ld_glob I gl gC ?_ dbg)
  refine PySem.W.callWith_K0 I.kIn kC ?_
  obtain ⟨bm, N, nm, qn, bs, hdct, sn, sub, ab, col, dd, k0, k1, k2, k3, k5, mN, hC, hN, hni, OT⟩ := exc_obj I.kIn ex
  exact wpAny_call_exc_subT PySem.F.excBase_ValueError OT hC hN hni (fun h' a made => mk_of I made rs q (I.hok.gone made.new)) (Nat.zero_le _)
/-- isinstance of a kept exception -/
def rIsC (K : PySem.W.Frag) : List V → Hp → VK → Prop := fun xs H Q => ∃ (a C : Addr) (c : V) (cv : Value) (b : Bool), xs = [.ref a, c] ∧ H a = some (ExC (.ref C) none a) ∧ XcC K C ∧ ClsV c cv ∧ PySem.W.kitOne K (.ref C) cv = some b ∧ Q (.bl b) H
theorem call_isC {X : Cx} : CallR X (.builtin "isinstance") (rIsC X.K) := by
  intro pins st σ H xs us Q I r h
  obtain ⟨a, C, c, cv, b, rfl, at_, xc, kc, e, q⟩ := h
  obtain ⟨u1, u2, rfl, r1, r2⟩ := vals2 r
  obtain rfl : u1 = Value.ref a := r1
  obtain rfl := kc.eq r2
  obtain ⟨⟨oe, vs, ho, hz, hd⟩, _, _⟩ := I.hok a _ at_
  have inst : PySem.W.InstAt st.heap a oe C none := by
    refine ⟨ho, hz.1, ?_, ?_⟩
    · unfold PySem.W.notCls
      rw [hd]
    · rw [hz.2]
      trivial
  exact PySem.W.kia_one (PySem.W.kitx_exc xc.cl xc.hg xc.hk xc.hs xc.ha xc.hn xc.ht xc.hm) I.kIn inst e (fun z => nomatch z) fun tk => ⟨.bl b, H, I.kept (t' := tk) fun _ _ z => z, rfl, q⟩

/-! ### len(set(t)) of a tuple of whole numbers -/
def tLenSetT (K : PySem.W.Frag) (ta : TE) : TE := fun σ H Q => ta σ H fun x H1 => ∃ (p : Addr) (ns : List Int), x = .ref p ∧ SqT K H1 p (ns.map V.int) ∧ ns.length ≤ 1000 ∧ ∀ out : List Int, out.Nodup → (∀ k, k ∈ out ↔ k ∈ ns) → Q (.int (out.length : Nat)) H1
theorem pe_lenSetT {X : Cx} {a : Expr} {ta : TE} {p p2 q pos : Pos} (hc : X.calm = true) (hg : Gl X "len") (hm : X.mg "len" = none) (hg2 : Gl X "set") (hm2 : X.mg "set" = none) (ha : PE X a ta)
    (na : starEach [a] X.env = (false, eval a X.env) :: starEach [] X.env := by rfl) : PE X (.Call (.Name "len" p) [.Call (.Name "set" p2) [a] [] q] [] pos) (tLenSetT X.K ta) := by
  refine ⟨fun pins s σ H Q I h => ?_⟩
  refine Call_ (ld_blt I hg hm boot_len ?_)
  refine PyProof.Rows.callWith_builtin1 (PyProof.Rows.args_cons ?_ rfl) rfl rfl
  refine Call_ (ld_blt I hg2 hm2 boot_set ?_)
  refine PyProof.Rows.callWith_type1 (PyProof.Rows.args_cons (thn (ha.run pins s σ H _ I h) fun v s1 ⟨x, H1, I1, r1, q1⟩ => PyProof.Rows.args_nil ?_) na) na rfl
  obtain ⟨p0, ns, rfl, hq, hl, q1⟩ := q1
  cases r1
  obtain ⟨its, rv, pt, hz⟩ := I1.tuple hq
  have hi : IntsAre its.toArray.toList ns := ints_of_vals rv
  refine call_set_tupI ns (I1.ok.hd hc) (show s1.heap.IsTuple p0 its.toArray from pt) hi (by unfold scanBound; omega) fun h' tk c R1 hcn k => ?_
  refine PyProof.Rows.args_nil ?_
  obtain ⟨o, es, ep, t, ho, hex, hdt, g, nd, hm2, hb, hf, hn, hr, hl2⟩ := R1
  have I2 : Inv X pins σ H1 { s1 with heap := h', toks := tk } := I1.kept fun b o e => k b o e
  have z := q1 (es.toList.map keyOf) nd fun j => by rw [← hm2 j, decide_eq_true_eq]
  rw [List.length_map, Array.length_toList] at z
  exact call_len_set (s := { s1 with heap := h', toks := tk }) ho hex hdt hf (by rw [hn]; omega) ⟨.int es.size, H1, I2.tok _, ⟨_, rfl⟩, z⟩
/-! ### all of a generator expression, by a walk -/
theorem gturns_it {J : It} {n : Nat} {G : Hp → Prop} {Y : Nat → Hp → V → Hp → Prop} (wk : Walk J n G Y) {g : TG} {te : TE} {σw : L2.St} {vs : List Nat} {Q : Bool → Hp → Prop} {H : Hp} (Pv : Nat → Hp → Prop) (h0 : Pv 0 H) (hG : ∀ i H, i ≤ n → Pv i H → G H)
    (hs : ∀ (i : Nat) (x : V) (H H' : Hp) (N : Hp → Prop), i < n → Pv i H → Y i H x H' → (∀ H3, Pv (i + 1) H3 → N H3) → g x σw H' fun σ2 H2 => wipe σ2 vs = σw ∧ te σ2 H2 fun v H3 => ∃ b, v = .bl b ∧ if b = true then N H3 else Q false H3)
    (hd : ∀ H, Pv n H → Q true H) : ∃ W : Nat → Nat → Hp → Prop, (∃ m, W 0 m H) ∧ gTurns J g te σw vs W Q := by
  refine ⟨fun i m H => m = n - i ∧ i ≤ n ∧ Pv i H, ⟨n, rfl, Nat.zero_le _, h0⟩, fun i m H st => ?_⟩
  obtain ⟨em, le, pv⟩ := st
  have q := hG i H le pv
  rcases Nat.lt_or_eq_of_le le with lt | eq
  · refine .inr ⟨wk.goes i H lt q, fun v H' y => ?_⟩
    exact hs i v H H' _ lt pv (wk.yields i H v H' lt q y) fun H3 p' => ⟨n - (i + 1), by omega, rfl, lt, p'⟩
  · subst eq
    exact .inl ⟨wk.stops H q, hd H pv⟩
theorem walk_zipT {K : PySem.W.Frag} {a b : Addr} {xs ys : List V} {n : Nat} (hn : n = min xs.length ys.length) : Walk (RZ.ItzT K a b) n (fun H => SqT K H a xs ∧ SqT K H b ys) (YPair (fun i => xs[i]?) (fun i => ys[i]?)) := by
  subst hn
  refine ⟨fun i _ hi q => ?_, fun _ q => ⟨xs, ys, q.1, q.2, by omega⟩, fun i H v H' _ q y => ?_⟩
  · have h1 : i < xs.length := by omega
    have h2 : i < ys.length := by omega
    exact ⟨xs, ys, xs[i], ys[i], q.1, q.2, by simp [h1], by simp [h2]⟩
  · obtain ⟨T, x, z, h1, h2, h3, h4, h5⟩ := y
    exact ⟨T, x, z, h1, h2, h3, h4 xs q.1, h5 ys q.2⟩

end My
namespace My
open PySem PySem.Spec PyProof.Rows L2
/-! ### x, *ys = a tuple -/
theorem items_star {prog : Program} {w : World} {A : Around} {E : Value → Shared → Prop} {s : Shared} {l : Addr} {items : Array Value} {x : Value} {xs : List Value} {Q : List Value → Shared → Prop} (hl : s.heap.IsTuple l items) (hh : A.handled = none) (hx : items.toList = x :: xs) (hz : items.size ≤ 16384)
    (h : ∀ h' tk, Heap.ExtBut s.heap.objs.size s.heap h' → Q [x, .ref h'.objs.size] { s with heap := h'.push { cls := .type "list", data := .seq xs.toArray }, toks := tk }) : wpAny (model prog w) A (unpackItems (.ref l) 2 (some 1)) Q E s := by
  have hs : items.size = xs.length + 1 := by
    rw [← Array.length_toList, hx]
    rfl
  have hlt : l ≠ s.heap.objs.size := by obtain ⟨o, ho, _⟩ := hl; exact Nat.ne_of_lt (Heap.lt_size ho)
  unfold unpackItems
  refine wpAny_bind ?_
  unfold notIterableAtAll
  refine wpAny_bind (wpAny_specialOf hl.typeIs PySem.F.slot_tuple_iter.lookup ?_)
  refine wpAny_pure ?_
  simp only [Bool.false_eq_true, if_false]
  refine wpAny_bind (wpAny_holding (iter_tuple hl ?_))
  refine wpAny_bind (wpAny_holding (draw_tuple hlt 1 0 _ _ ⟨_, Heap.get?_push_size _ rfl, rfl, rfl⟩ (hl.push _) (by omega) fun h₁ hit₁ hs₁ => ?_))
  have hl₁ : h₁.IsTuple l items := (hl.push _).extBut hs₁.extBut hlt
  rw [Nat.zero_add] at hit₁
  have hit₁' := hit₁
  obtain ⟨oi, hoi, _⟩ := hit₁'
  have hl₁' := hl₁
  obtain ⟨ol, hol, _⟩ := hl₁'
  rw [List.drop_zero]
  have e1 : items.toList.take 1 = [x] := by rw [hx]; rfl
  rw [e1]
  rw [if_neg (show ¬ (([x] : List Value).length < 1) from Nat.lt_irrefl 1)]
  refine wpAny_bind (wpAny_holding (PySem.W.kun_collect (s := { s with heap := h₁ }) (T := "tuple_iterator") (.inr (.inr (.inr rfl))) (Walks.tuple (A := A.in1) hh s.heap.objs.size l hlt items) (fun j u st => st.1.typeIs) (k := 1) (by omega) ⟨hit₁, hl₁⟩ (Heap.lt_size hoi) (Heap.lt_size hol) (fun h₂ tk hk => ?_) (by rw [sizeLine_eq]; omega)))
  have e2 : items.toList.drop 1 = xs := by rw [hx]; rfl
  rw [e2]
  show wpAny _ _ (if xs.length < 2 - 1 - 1 then _ else _) _ _ _
  rw [if_neg (by omega)]
  have he : Heap.ExtBut s.heap.objs.size s.heap h₂ := fun b o hb e => hk b o hb (hs₁.extBut b o hb (Heap.get?_push_of_some _ e))
  refine wpAny_bind (wpAny_newList ?_ ?_)
  · refine wpAny_pure ?_
    show Q ([x] ++ [Value.ref h₂.objs.size] ++ List.drop (xs.length - (2 - 1 - 1)) xs) _
    have e3 : List.take (xs.length - (2 - 1 - 1)) xs = xs := List.take_of_length_le (by omega)
    have e4 : List.drop (xs.length - (2 - 1 - 1)) xs = [] := List.drop_of_length_le (by omega)
    rw [e4]
    have := h h₂ tk he
    simp only [e3]
    exact this
  · rw [List.length_take, sizeLine_eq]
    omega
section
variable {X : Cx} {pos : Pos}
theorem pgs_star {e : Expr} {es : List Expr} {sp : Pos} {t : TG} {u : TGs} (h1 : PG X e t) (h2 : PGs X es u)
    (hs : (assignEach (.Starred e sp :: es) X.env).map (·.2) = assign e X.env :: (assignEach es X.env).map (·.2) := by rfl) : PGs X (.Starred e sp :: es) (gCons t u) := by
  refine ⟨fun pins s σ H vs us Q I r h => ?_⟩
  obtain ⟨v, vr, e1, h⟩ := h
  subst e1
  cases r with
  | cons r rr =>
    rw [hs]
    refine assignInOrder_cons (thn (h1.run pins s σ H _ _ _ I r h) fun _ s1 ⟨σ1, H1, I1, q1⟩ => ?_)
    exact h2.run pins s1 σ1 H1 _ _ Q I1 rr q1
def gStar (K : PySem.W.Frag) (t : TGs) : TG := fun v σ H Q => ∃ a x xs, v = .ref a ∧ SqT K H a (x :: xs) ∧ xs.length ≤ 1000 ∧ ∀ l, H l = none → t [x, .ref l] σ (upd H l (.lst xs)) Q
theorem pg_star {es : List Expr} {k : Nat} {t : TGs} (hc : X.calm = true) (h : PGs X es t)
    (hn : (assignEach es X.env).length = 2 := by rfl) (hst : (assignEach es X.env).findIdx? (·.1) = some 1 := by rfl) : PG X (.Tuple es k pos) (gStar X.K t) := by
  refine ⟨fun pins s σ H v u Q I r hw => ?_⟩
  obtain ⟨a, x, xs, e1, hq, hl, hw⟩ := hw
  subst e1
  cases r
  obtain ⟨its, rv, ht, hz⟩ := I.tuple hq
  cases rv with
  | cons r1 rr =>
    rename_i u1 us
    have hus : xs.length = us.length := rr.length
    rw [PyProof.Rows.assign_Tuple]
    refine wpAny_bind (wpAny_standAt ?_)
    unfold unpack
    rw [hn, hst]
    refine wpAny_bind (wpAny_holding (items_star (x := u1) (xs := us) ht (I.ok.hd hc) (by simp) (by simp; omega) fun h' tk hx => ?_))
    have I1 : Inv X pins σ H { s with heap := h', toks := tk } := I.kept (t' := tk) fun b o e => hx b o (Nat.ne_of_lt (Heap.lt_size e)) e
    have I2 := I1.laid (t' := tk) (o := .lst xs) (h' := h'.push { cls := .type "list", data := .seq us.toArray }) (fun b ob q => Heap.get?_push_of_some _ q) (Nat.le_refl _) ⟨Nat.le_trans hl (by decide), us, 0, rr, Heap.get?_push_size _ rfl⟩
    exact h.run pins _ σ _ _ _ Q I2 (.cons r1 (.cons (show L2.RelV (.ref h'.objs.size) (.ref h'.objs.size) from rfl) .nil)) (hw _ (I1.hok.fresh (Nat.le_refl _)))
/-- a op1 b op2 c op3 d -/
def tChain3 (r r' r'' : R2) (ta tb tc td : TE) : TE := fun σ H Q => ta σ H fun x H1 => tb σ H1 fun y H2 => r x y H2 fun z H3 => ∃ k, z = .bl k ∧
  (if k = true then tc σ H3 fun w' H4 => r' y w' H4 fun z2 H5 => ∃ k2, z2 = .bl k2 ∧ (if k2 = true then td σ H5 fun u H6 => r'' w' u H6 Q else Q (.bl false) H5) else Q (.bl false) H3)
theorem pe_chain3 {a b c d : Expr} {ta tb tc td : TE} {op op' op'' : CmpOp} {r r' r'' : R2} (ho : OpR X (compareOp op) r) (ho' : OpR X (compareOp op') r') (ho'' : OpR X (compareOp op'') r'') (ha : PE X a ta) (hb : PE X b tb) (hc : PE X c tc) (hd : PE X d td)
    (hm : lastMarks [op, op', op''] [b, c, d] = false := by with_unfolding_all rfl) : PE X (.Compare a [op, op', op''] [b, c, d] pos) (tChain3 r r' r'' ta tb tc td) := by
  refine ⟨fun pins s σ H Q I h => ?_⟩
  refine Compare_chain (thn (ha.run pins s σ H _ I h) fun v s1 ⟨x, H1, I1, r1, q1⟩ => chain_link (thn (hb.run pins s1 σ H1 _ I1 q1) fun u s2 ⟨y, H2, I2, r2, q2⟩ =>
    thn (ho pins s2 σ H2 x y v u _ I2 r1 r2 q2) fun d s3 ⟨z, H3, I3, r3, k, e, q3⟩ => ?_)) hm
  subst e
  cases r3
  refine wpAny_truthy_bool ?_
  cases k with
  | false => exact ite_ff ⟨.bl false, H3, I3, rfl, q3⟩
  | true =>
    refine ite_tt (chain_link (thn (hc.run pins s3 σ H3 _ I3 q3) fun w' s4 ⟨z', H4, I4, r4, q4⟩ => thn (ho' pins s4 σ H4 y z' u w' _ I4 r2 r4 q4) fun d' s5 ⟨z5, H5, I5, r5, k5, e5, q5⟩ => ?_))
    subst e5
    cases r5
    refine wpAny_truthy_bool ?_
    cases k5 with
    | false => exact ite_ff ⟨.bl false, H5, I5, rfl, q5⟩
    | true => exact ite_tt (chain_last (thn (hd.run pins s5 σ H5 _ I5 q5) fun u6 s6 ⟨z6, H6, I6, r6, q6⟩ => ho'' pins s6 σ H6 z' z6 w' u6 Q I6 r4 r6 q6))
end
theorem op_ltTK {X : Cx} {K : PySem.W.Frag} (hK : X.K = K) (hu : X.A.units < cLine) : OpR X (compareOp .Lt) (rLtT K) := by
  subst hK
  exact op_ltT hu

end My
namespace My
open PySem L2
/-! ### ties, ways, what is joined -/
abbrev Ties := List (Int × Int)
/-- a and b are a tied pair, either way about -/
def Adj (ts : Ties) (a b : Int) : Prop := (a, b) ∈ ts ∨ (b, a) ∈ ts
theorem Adj.symm {ts : Ties} {a b : Int} (h : Adj ts a b) : Adj ts b a := h.elim .inr .inl
theorem Adj.mono {ts us : Ties} {a b : Int} (s : ∀ t ∈ ts, t ∈ us) (h : Adj ts a b) : Adj us a b := h.imp (s _) (s _)
inductive Rch (ts : Ties) (a : Int) : Int → Prop
  | refl : Rch ts a a
  | step {b c : Int} : Rch ts a b → Adj ts b c → Rch ts a c
theorem Rch.trans {ts : Ties} {a b c : Int} (h : Rch ts a b) (g : Rch ts b c) : Rch ts a c := by
  induction g with
  | refl => exact h
  | step _ e ih => exact .step ih e
theorem Rch.one {ts : Ties} {a b : Int} (h : Adj ts a b) : Rch ts a b := .step .refl h
theorem Rch.symm {ts : Ties} {a b : Int} (h : Rch ts a b) : Rch ts b a := by
  induction h with
  | refl => exact .refl
  | step _ e ih => exact (Rch.one e.symm).trans ih
theorem Rch.mono {ts us : Ties} {a b : Int} (s : ∀ t ∈ ts, t ∈ us) (h : Rch ts a b) : Rch us a b := by
  induction h with
  | refl => exact .refl
  | step _ e ih => exact .step ih (e.mono s)
/-- gone along ties -/
inductive Wlk (ts : Ties) : Int → Int → List Int → Prop
  | one (a : Int) : Wlk ts a a [a]
  | cons {a b c : Int} {l : List Int} : Adj ts a b → Wlk ts b c l → Wlk ts a c (a :: l)
theorem Wlk.mono {ts us : Ties} (s : ∀ t ∈ ts, t ∈ us) {a b : Int} {l : List Int} (h : Wlk ts a b l) : Wlk us a b l := by
  induction h with
  | one a => exact .one a
  | cons e _ ih => exact .cons (e.mono s) ih
theorem Wlk.rch {ts : Ties} {a b : Int} {l : List Int} (h : Wlk ts a b l) : Rch ts a b := by
  induction h with
  | one a => exact .refl
  | cons e _ ih => exact (Rch.one e).trans ih
theorem Wlk.ne_nil {ts : Ties} {a b : Int} {l : List Int} (h : Wlk ts a b l) : l ≠ [] := by
  cases h <;> exact List.cons_ne_nil _ _
theorem Wlk.head {ts : Ties} {a b : Int} {l : List Int} (h : Wlk ts a b l) : l.head? = some a := by
  cases h <;> rfl
theorem Wlk.mem_a {ts : Ties} {a b : Int} {l : List Int} (h : Wlk ts a b l) : a ∈ l := by
  cases h <;> exact List.mem_cons_self
theorem Wlk.mem_b {ts : Ties} {a b : Int} {l : List Int} (h : Wlk ts a b l) : b ∈ l := by
  induction h with
  | one a => exact List.mem_cons_self
  | cons _ _ ih => exact List.mem_cons_of_mem _ ih
theorem Wlk.snoc {ts : Ties} {a b c : Int} {l : List Int} (h : Wlk ts a b l) (e : Adj ts b c) : Wlk ts a c (l ++ [c]) := by
  induction h with
  | one a => exact .cons e (.one c)
  | cons e' _ ih => exact .cons e' (ih e)
theorem Wlk.rev {ts : Ties} {a b : Int} {l : List Int} (h : Wlk ts a b l) : Wlk ts b a l.reverse := by
  induction h with
  | one a => exact .one a
  | cons e _ ih =>
    rw [List.reverse_cons]
    exact ih.snoc e.symm
/-- every point of it is joined with the first -/
theorem Wlk.rch_of_mem {ts : Ties} {a b : Int} {l : List Int} (h : Wlk ts a b l) : ∀ x ∈ l, Rch ts a x := by
  induction h with
  | one a =>
    intro x m
    rw [List.mem_singleton.mp m]
    exact .refl
  | cons e _ ih =>
    intro x m
    rcases List.mem_cons.mp m with rfl | m
    · exact .refl
    · exact (Rch.one e).trans (ih x m)
/-- a way: gone along ties, none twice -/
structure Way (ts : Ties) (a b : Int) (l : List Int) : Prop where
  wk : Wlk ts a b l
  nd : l.Nodup
/-- no tie can be gone round -/
def Tree (ts : Ties) : Prop := ∀ t ∈ ts, ¬ Rch (ts.filter fun u => decide (u ≠ t)) t.1 t.2
/-- whoever goes along a walk that hasn't a, doesn't use a's ties -/
theorem Wlk.avoid {ts : Ties} {b c a : Int} {l : List Int} (h : Wlk ts b c l) (n : a ∉ l) (t : Int × Int) (ht : t.1 = a ∨ t.2 = a) : Wlk (ts.filter fun u => decide (u ≠ t)) b c l := by
  induction h with
  | one x => exact .one x
  | @cons x y z l e w ih =>
    have nx : a ≠ x := fun q => n (q ▸ List.mem_cons_self)
    have nl : a ∉ l := fun q => n (List.mem_cons_of_mem _ q)
    have ny : a ≠ y := fun q => nl (q ▸ w.mem_a)
    refine .cons ?_ (ih nl)
    rcases e with e | e
    · refine .inl (List.mem_filter.mpr ⟨e, decide_eq_true fun q => ?_⟩)
      subst q
      rcases ht with q | q
      · exact nx q.symm
      · exact ny q.symm
    · refine .inr (List.mem_filter.mpr ⟨e, decide_eq_true fun q => ?_⟩)
      subst q
      rcases ht with q | q
      · exact ny q.symm
      · exact nx q.symm
theorem Way.self {ts : Ties} {a : Int} {l : List Int} (h : Way ts a a l) : l = [a] := by
  obtain ⟨w, nd⟩ := h
  cases w with
  | one => rfl
  | cons e w => exact absurd w.mem_b (List.nodup_cons.mp nd).1
/-- there is one way -/
theorem way_unique {ts : Ties} (T : Tree ts) : ∀ {l m : List Int} {a b : Int}, Way ts a b l → Way ts a b m → l = m := by
  intro l
  induction l with
  | nil =>
    intro m a b h _
    exact absurd rfl h.wk.ne_nil
  | cons x l ih =>
    intro m a b h g
    obtain ⟨w, nd⟩ := h
    cases w with
    | one => exact (Way.self g).symm
    | @cons _ y _ _ e w =>
      have nl := (List.nodup_cons.mp nd).1
      obtain ⟨w2, nd2⟩ := g
      cases w2 with
      | one => exact absurd w.mem_b nl
      | @cons _ z _ m e2 w2 =>
        have nm := (List.nodup_cons.mp nd2).1
        by_cases q : y = z
        · subst q
          rw [ih ⟨w, (List.nodup_cons.mp nd).2⟩ ⟨w2, (List.nodup_cons.mp nd2).2⟩]
        · exfalso
          -- the tie of x and y is gone round
          have go : ∀ t : Int × Int, (t = (x, y) ∨ t = (y, x)) → t ∈ ts → False := by
            intro t ht mt
            have h1 : t.1 = x ∨ t.2 = x := by
              rcases ht with rfl | rfl
              · exact .inl rfl
              · exact .inr rfl
            have r1 : Rch (ts.filter fun u => decide (u ≠ t)) y b := (w.avoid nl t h1).rch
            have r2 : Rch (ts.filter fun u => decide (u ≠ t)) z b := (w2.avoid nm t h1).rch
            have nxy : x ≠ y := fun q => nl (q ▸ w.mem_a)
            have e3 : Adj (ts.filter fun u => decide (u ≠ t)) x z := by
              rcases e2 with e2 | e2
              · refine .inl (List.mem_filter.mpr ⟨e2, decide_eq_true fun k => ?_⟩)
                rcases ht with rfl | rfl
                · exact q (Prod.mk.inj k).2.symm
                · exact nxy (Prod.mk.inj k).1
              · refine .inr (List.mem_filter.mpr ⟨e2, decide_eq_true fun k => ?_⟩)
                rcases ht with rfl | rfl
                · exact nxy (Prod.mk.inj k).2
                · exact q (Prod.mk.inj k).1.symm
            have r3 : Rch (ts.filter fun u => decide (u ≠ t)) x y := ((Rch.one e3).trans r2).trans r1.symm
            rcases ht with rfl | rfl
            · exact T _ mt r3
            · exact T _ mt r3.symm
          rcases e with e | e
          · exact go _ (.inl rfl) e
          · exact go _ (.inr rfl) e
theorem Way.rev {ts : Ties} {a b : Int} {l : List Int} (h : Way ts a b l) : Way ts b a l.reverse := ⟨h.wk.rev, List.pairwise_reverse.mpr (h.nd.imp fun n e => n e.symm)⟩
theorem Way.snoc {ts : Ties} {a b c : Int} {l : List Int} (h : Way ts a b l) (e : Adj ts b c) (n : c ∉ l) : Way ts a c (l ++ [c]) :=
  ⟨h.wk.snoc e, List.nodup_append.mpr ⟨h.nd, List.nodup_cons.mpr ⟨List.not_mem_nil, List.nodup_nil⟩, fun x m y k z => by
    rw [List.mem_singleton.mp k] at z
    exact n (z ▸ m)⟩⟩
/-- a way up to a point of it -/
theorem Wlk.upto {ts : Ties} {a b : Int} {l : List Int} (h : Wlk ts a b l) : ∀ {x : Int}, x ∈ l → ∃ p s, l = p ++ s ∧ Wlk ts a x p ∧ ∃ s', Wlk ts x b (x :: s') ∧ s = s' := by
  induction h with
  | one a =>
    intro x m
    have e := List.mem_singleton.mp m
    subst e
    exact ⟨[x], [], rfl, .one x, [], .one x, rfl⟩
  | @cons a c b l e w ih =>
    intro x m
    rcases List.mem_cons.mp m with rfl | m
    · exact ⟨[x], l, rfl, .one x, l, .cons e w, rfl⟩
    · obtain ⟨p, s, h1, h2, s', h3, h4⟩ := ih m
      exact ⟨a :: p, s, by rw [h1]; rfl, .cons e h2, s', h3, h4⟩
/-- where two are joined there is a way -/
theorem rch_way {ts : Ties} {a b : Int} (h : Rch ts a b) : ∃ l, Way ts a b l := by
  induction h with
  | refl => exact ⟨[a], .one a, by simp⟩
  | @step b c _ e ih =>
    obtain ⟨l, w⟩ := ih
    by_cases m : c ∈ l
    · obtain ⟨p, s, h1, h2, _⟩ := w.wk.upto m
      refine ⟨p, h2, ?_⟩
      have nd := w.nd
      rw [h1] at nd
      exact (List.nodup_append.mp nd).1
    · exact ⟨_, w.snoc e m⟩
/-! ### a tie that leads to a new point -/
theorem rch_contract {ts : Ties} {u v p q : Int} {k : Ties} (hv : ∀ t ∈ ts, t.1 ≠ v ∧ t.2 ≠ v) (hk : ∀ t ∈ k, t ∈ ts ∨ t = (u, v) ∨ t = (v, u)) (nuv : u ≠ v) (us : Ties) (hus : ∀ t ∈ k, t ∈ ts → t ∈ us) (h : Rch k p q) :
    Rch us (if p = v then u else p) (if q = v then u else q) := by
  induction h with
  | refl => exact .refl
  | @step b c _ e ih =>
    refine ih.trans ?_
    have one : ∀ {x y : Int}, (x, y) ∈ k → Rch us (if x = v then u else x) (if y = v then u else y) := by
      intro x y m
      rcases hk _ m with z | z | z
      · have n := hv _ z
        rw [if_neg n.1, if_neg n.2]
        exact .one (.inl (hus _ m z))
      · obtain ⟨rfl, rfl⟩ := Prod.mk.inj z
        rw [if_neg nuv, if_pos rfl]
        exact .refl
      · obtain ⟨rfl, rfl⟩ := Prod.mk.inj z
        rw [if_neg nuv, if_pos rfl]
        exact .refl
    rcases e with e | e
    · exact one e
    · exact (one e).symm
theorem tree_nil : Tree [] := fun _ m => absurd m List.not_mem_nil
theorem rch_isolated {ts : Ties} {a v : Int} (hv : ∀ t ∈ ts, t.1 ≠ v ∧ t.2 ≠ v) (h : Rch ts a v) : a = v := by
  cases h with
  | refl => rfl
  | step _ e =>
    rcases e with e | e
    · exact absurd rfl (hv _ e).2
    · exact absurd rfl (hv _ e).1
theorem tree_snoc {ts : Ties} {u v : Int} {t : Int × Int} (T : Tree ts) (hv : ∀ t ∈ ts, t.1 ≠ v ∧ t.2 ≠ v) (nuv : u ≠ v) (ht : t = (u, v) ∨ t = (v, u)) : Tree (ts ++ [t]) := by
  intro e me h
  have tv : t.1 = v ∨ t.2 = v := by
    rcases ht with rfl | rfl
    · exact .inr rfl
    · exact .inl rfl
  rcases List.mem_append.mp me with m | m
  · have ne : e ≠ t := fun q => by
      have z := hv e m
      rw [q] at z
      rcases tv with y | y
      · exact z.1 y
      · exact z.2 y
    have n := hv e m
    have r := rch_contract (ts := ts) (u := u) (v := v) (us := ts.filter fun x => decide (x ≠ e)) hv (fun x hx => ?_) nuv (fun x hx hm => ?_) h
    · rw [if_neg n.1, if_neg n.2] at r
      exact T e m r
    · rcases List.mem_append.mp (List.mem_filter.mp hx).1 with z | z
      · exact .inl z
      · rw [List.mem_singleton.mp z]
        exact .inr ht
    · exact List.mem_filter.mpr ⟨hm, (List.mem_filter.mp hx).2⟩
  · have q := List.mem_singleton.mp m
    subst q
    have iso : ∀ x ∈ ((ts ++ [e]).filter fun x => decide (x ≠ e)), x.1 ≠ v ∧ x.2 ≠ v := fun x hx => by
      obtain ⟨h1, h2⟩ := List.mem_filter.mp hx
      rcases List.mem_append.mp h1 with z | z
      · exact hv x z
      · exact absurd (List.mem_singleton.mp z) (of_decide_eq_true h2)
    rcases ht with rfl | rfl
    · exact nuv (rch_isolated iso h)
    · exact nuv (rch_isolated iso h.symm)
theorem rch_perm {ts us : Ties} (p : ∀ t, t ∈ ts ↔ t ∈ us) {a b : Int} (h : Rch ts a b) : Rch us a b := h.mono fun t m => (p t).mp m
theorem tree_perm {ts us : Ties} (p : ∀ t, t ∈ ts ↔ t ∈ us) (T : Tree ts) : Tree us := fun t m h => T t ((p t).mpr m) (h.mono fun x hx => by
  obtain ⟨h1, h2⟩ := List.mem_filter.mp hx
  exact List.mem_filter.mpr ⟨(p x).mpr h1, h2⟩)
/-- with a tie cut its two are apart, and each is with one of them -/
theorem rch_cut {ts : Ties} {t : Int × Int} (mt : t ∈ ts) {a b : Int} (h : Rch ts a b) : Rch (ts.filter fun u => decide (u ≠ t)) a b ∨ (Rch (ts.filter fun u => decide (u ≠ t)) a t.1 ∧ Rch (ts.filter fun u => decide (u ≠ t)) t.2 b) ∨ (Rch (ts.filter fun u => decide (u ≠ t)) a t.2 ∧ Rch (ts.filter fun u => decide (u ≠ t)) t.1 b) := by
  induction h with
  | refl => exact .inl .refl
  | @step b c _ e ih =>
    have key : Adj (ts.filter fun u => decide (u ≠ t)) b c ∨ (b = t.1 ∧ c = t.2) ∨ (b = t.2 ∧ c = t.1) := by
      rcases e with e | e
      · by_cases q : (b, c) = t
        · exact .inr (.inl (by rw [← q]; exact ⟨rfl, rfl⟩))
        · exact .inl (.inl (List.mem_filter.mpr ⟨e, decide_eq_true q⟩))
      · by_cases q : (c, b) = t
        · exact .inr (.inr (by rw [← q]; exact ⟨rfl, rfl⟩))
        · exact .inl (.inr (List.mem_filter.mpr ⟨e, decide_eq_true q⟩))
    rcases key with k | ⟨rfl, rfl⟩ | ⟨rfl, rfl⟩
    · rcases ih with h | ⟨h1, h2⟩ | ⟨h1, h2⟩
      · exact .inl (.step h k)
      · exact .inr (.inl ⟨h1, .step h2 k⟩)
      · exact .inr (.inr ⟨h1, .step h2 k⟩)
    · rcases ih with h | ⟨h1, h2⟩ | ⟨h1, h2⟩
      · exact .inr (.inl ⟨h, .refl⟩)
      · exact .inr (.inl ⟨h1, .refl⟩)
      · exact .inl h1
    · rcases ih with h | ⟨h1, h2⟩ | ⟨h1, h2⟩
      · exact .inr (.inr ⟨h, .refl⟩)
      · exact .inl h1
      · exact .inr (.inr ⟨h1, .refl⟩)

end My
namespace My
open PySem L2
/-! ### parts by their least point -/
open Classical in
noncomputable def rpOf (ts : Ties) (j : Nat) : Nat := ((List.range (j + 1)).find? fun i : Nat => decide (Rch ts (j : Int) (i : Int))).getD j
section
variable {ts : Ties}
theorem rp_spec (j : Nat) : Rch ts (j : Int) (rpOf ts j : Int) ∧ rpOf ts j ≤ j ∧ ∀ i, i < rpOf ts j → ¬ Rch ts (j : Int) (i : Int) := by
  classical
  unfold rpOf
  cases e : (List.range (j + 1)).find? fun i : Nat => decide (Rch ts (j : Int) (i : Int)) with
  | none =>
    have := List.find?_eq_none.mp e j (List.mem_range.mpr (Nat.lt_succ_self j))
    exact absurd (decide_eq_true (Rch.refl (ts := ts) (a := (j : Int)))) (by simpa using this)
  | some i =>
    obtain ⟨h1, h2, h3⟩ := List.find?_range_eq_some.mp e
    have h2 := List.mem_range.mp h2
    refine ⟨by simpa using h1, by show i ≤ j; omega, fun k hk => ?_⟩
    have := h3 k hk
    simpa using this
theorem rp_eq {u v : Nat} (h : Rch ts (u : Int) (v : Int)) : rpOf ts u = rpOf ts v := by
  obtain ⟨u1, _, u3⟩ := rp_spec (ts := ts) u
  obtain ⟨v1, _, v3⟩ := rp_spec (ts := ts) v
  rcases Nat.lt_trichotomy (rpOf ts u) (rpOf ts v) with l | e | l
  · exact absurd (h.symm.trans u1) (v3 _ l)
  · exact e
  · exact absurd (h.trans v1) (u3 _ l)
theorem rp_iff {u v : Nat} : rpOf ts u = rpOf ts v ↔ Rch ts (u : Int) (v : Int) := ⟨fun e => by
  have h1 := (rp_spec (ts := ts) u).1
  have h2 := (rp_spec (ts := ts) v).1
  rw [e] at h1
  exact h1.trans h2.symm, rp_eq⟩
theorem rp_idem (j : Nat) : rpOf ts (rpOf ts j) = rpOf ts j := (rp_eq (rp_spec j).1).symm
theorem rp_le (j : Nat) : rpOf ts j ≤ j := (rp_spec j).2.1
end

inductive Up (ab : List Int) : Int → Int → Nat → Prop
  | root {p : Int} (p0 : 0 ≤ p) (h : ab[p.toNat]? = some p) : Up ab p p 0
  | step {p q t : Int} {n : Nat} (p0 : 0 ≤ p) (h : ab[p.toNat]? = some q) (ne : q ≠ p) (u : Up ab q t n) : Up ab p t (n + 1)
theorem Up.top {ab : List Int} {p t : Int} {n : Nat} (h : Up ab p t n) : 0 ≤ t ∧ ab[t.toNat]? = some t := by
  induction h with
  | root p0 h => exact ⟨p0, h⟩
  | step p0 h ne u ih => exact ih
theorem nat_ne {a b : Int} (ha : 0 ≤ a) (hb : 0 ≤ b) (h : a ≠ b) : a.toNat ≠ b.toNat := by omega
theorem Up.keep {ab : List Int} {o u : Int} (o0 : 0 ≤ o) (ho : ab[o.toNat]? = some o) {p t : Int} {n : Nat} (h : Up ab p t n) : t ≠ o → Up (ab.set o.toNat u) p t n := by
  induction h with
  | root p0 h =>
    intro ne
    refine .root p0 ?_
    rw [List.getElem?_set_ne (nat_ne o0 p0 ne.symm)]
    exact h
  | @step p q t n p0 h ne' w ih =>
    intro ne
    have po : o ≠ p := by
      rintro rfl
      rw [ho] at h
      exact ne' (Option.some.inj h).symm
    refine .step p0 ?_ ne' (ih ne)
    rw [List.getElem?_set_ne (nat_ne o0 p0 po)]
    exact h
theorem Up.move {ab : List Int} {o u : Int} (o0 : 0 ≤ o) (ho : ab[o.toNat]? = some o) (u0 : 0 ≤ u) (hu : ab[u.toNat]? = some u) (nuo : u ≠ o) {p t : Int} {n : Nat} (h : Up ab p t n) : t = o → Up (ab.set o.toNat u) p u (n + 1) := by
  induction h with
  | @root p p0 h =>
    intro e
    subst e
    refine .step p0 (q := u) ?_ nuo (.root u0 ?_)
    · rw [List.getElem?_set_self (List.getElem?_eq_some_iff.mp h).1]
    · rw [List.getElem?_set_ne (nat_ne p0 u0 nuo.symm)]
      exact hu
  | @step p q t n p0 h ne' w ih =>
    intro e
    have po : o ≠ p := by
      rintro rfl
      rw [ho] at h
      exact ne' (Option.some.inj h).symm
    refine .step p0 ?_ ne' (ih e)
    rw [List.getElem?_set_ne (nat_ne o0 p0 po)]
    exact h
structure Uf (ts : Ties) (m : Nat) (ab : List Int) : Prop where
  len : ab.length = m
  ex : ∀ p : Int, 0 ≤ p → p < (m : Int) → ∃ t n, Up ab p t n ∧ Rch ts p t
theorem uf0 (m : Nat) : Uf [] m ((List.range m).map fun (i : Nat) => (i : Int)) := by
  refine ⟨by rw [List.length_map, List.length_range], fun p p0 p1 => ⟨p, 0, .root p0 ?_, .refl⟩⟩
  rw [List.getElem?_map, List.getElem?_range (by omega)]
  show some ((p.toNat : Nat) : Int) = some p
  rw [Int.toNat_of_nonneg p0]
theorem uf_snoc {ts : Ties} {m : Nat} {ab : List Int} (U : Uf ts m ab) {a b u o : Int} {n1 n2 : Nat} (h1 : Up ab a u n1) (r1 : Rch ts a u) (h2 : Up ab b o n2) (r2 : Rch ts b o) (ne : u ≠ o) : Uf (ts ++ [(a, b)]) m (ab.set o.toNat u) := by
  refine ⟨by rw [List.length_set]; exact U.len, fun p p0 p1 => ?_⟩
  obtain ⟨t, n, hp, rp⟩ := U.ex p p0 p1
  have up : ∀ t ∈ ts, t ∈ ts ++ [(a, b)] := fun t m => List.mem_append_left _ m
  by_cases e : t = o
  · refine ⟨u, n + 1, hp.move h2.top.1 h2.top.2 h1.top.1 h1.top.2 ne e, ?_⟩
    subst e
    have ad : Adj (ts ++ [(a, b)]) b a := .inr (List.mem_append_right _ List.mem_cons_self)
    exact (rp.mono up).trans ((r2.symm.mono up).trans ((Rch.one ad).trans (r1.mono up)))
  · exact ⟨t, n, hp.keep h2.top.1 h2.top.2 e, rp.mono up⟩

/-- all that are joined with a, rising -/
structure IsPart (ts : Ties) (a : Int) (l : List Int) : Prop where
  up : l.Pairwise (· < ·)
  mem : ∀ v, v ∈ l ↔ Rch ts a v
theorem rising_ext : ∀ {l m : List Int}, l.Pairwise (· < ·) → m.Pairwise (· < ·) → (∀ v, v ∈ l ↔ v ∈ m) → l = m
  | [], [], _, _, _ => rfl
  | [], y :: _, _, _, h => nomatch (h y).mpr List.mem_cons_self
  | x :: _, [], _, _, h => nomatch (h x).mp List.mem_cons_self
  | x :: l, y :: m, hl, hm, h => by
    rw [List.pairwise_cons] at hl hm
    have e : x = y := by
      rcases List.mem_cons.mp ((h x).mp List.mem_cons_self) with e | e
      · exact e
      · rcases List.mem_cons.mp ((h y).mpr List.mem_cons_self) with e2 | e2
        · exact e2.symm
        · have z1 := hm.1 x e
          have z2 := hl.1 y e2
          omega
    subst e
    have t : l = m := rising_ext hl.2 hm.2 fun v => ⟨fun hv => by
      rcases List.mem_cons.mp ((h v).mp (List.mem_cons_of_mem _ hv)) with e | e
      · have := hl.1 v hv
        omega
      · exact e, fun hv => by
      rcases List.mem_cons.mp ((h v).mpr (List.mem_cons_of_mem _ hv)) with e | e
      · have := hm.1 v hv
        omega
      · exact e⟩
    rw [t]
theorem part_unique {ts : Ties} {a : Int} {l m : List Int} (h : IsPart ts a l) (g : IsPart ts a m) : l = m := rising_ext h.up g.up fun v => (h.mem v).trans (g.mem v).symm
theorem part_of_sorted {ts : Ties} {a : Int} {ks ns : List Int} (nd : ks.Nodup) (mem : ∀ v, v ∈ ks ↔ Rch ts a v) (pm : ns.Perm ks) (srt : ns.Pairwise (· ≤ ·)) : IsPart ts a ns := by
  have nd2 : ns.Nodup := pm.nodup_iff.mpr nd
  refine ⟨?_, fun v => (pm.mem_iff).trans (mem v)⟩
  have both := List.Pairwise.and srt nd2
  exact both.imp fun ⟨h1, h2⟩ => Int.lt_iff_le_and_ne.mpr ⟨h1, h2⟩

/-! ### rings and parts, counted -/
theorem Up.det {ab : List Int} {p t : Int} {n : Nat} (h : Up ab p t n) : ∀ {t' : Int} {n' : Nat}, Up ab p t' n' → t = t' := by
  induction h with
  | root p0 h =>
    intro t' n' g
    cases g with
    | root _ _ => rfl
    | step _ h2 ne _ =>
      rw [h] at h2
      exact absurd (Option.some.inj h2).symm ne
  | step p0 h ne u ih =>
    intro t' n' g
    cases g with
    | root _ h2 =>
      rw [h] at h2
      exact absurd (Option.some.inj h2) ne
    | step _ h2 _ u2 =>
      rw [h] at h2
      cases Option.some.inj h2
      exact ih u2
/-- joined ones have one top -/
structure Uf2 (ts : Ties) (m : Nat) (ab : List Int) : Prop where
  uf : Uf ts m ab
  eq : ∀ t ∈ ts, ∃ x n1 n2, Up ab t.1 x n1 ∧ Up ab t.2 x n2
theorem uf20 (m : Nat) : Uf2 [] m ((List.range m).map fun (i : Nat) => (i : Int)) := ⟨uf0 m, fun t z => nomatch z⟩
theorem uf2_snoc {ts : Ties} {m : Nat} {ab : List Int} (U : Uf2 ts m ab) {a b u o : Int} {n1 n2 : Nat} (h1 : Up ab a u n1) (r1 : Rch ts a u) (h2 : Up ab b o n2) (r2 : Rch ts b o) (ne : u ≠ o) : Uf2 (ts ++ [(a, b)]) m (ab.set o.toNat u) := by
  refine ⟨uf_snoc U.uf h1 r1 h2 r2 ne, fun t mt => ?_⟩
  rcases List.mem_append.mp mt with mt | mt
  · obtain ⟨x, k1, k2, g1, g2⟩ := U.eq t mt
    by_cases e : x = o
    · exact ⟨u, _, _, g1.move h2.top.1 h2.top.2 h1.top.1 h1.top.2 ne e, g2.move h2.top.1 h2.top.2 h1.top.1 h1.top.2 ne e⟩
    · exact ⟨x, _, _, g1.keep h2.top.1 h2.top.2 e, g2.keep h2.top.1 h2.top.2 e⟩
  · rw [List.mem_singleton.mp mt]
    exact ⟨u, _, _, h1.keep h2.top.1 h2.top.2 ne, h2.move h2.top.1 h2.top.2 h1.top.1 h1.top.2 ne rfl⟩
theorem Uf2.one {ts : Ties} {m : Nat} {ab : List Int} (U : Uf2 ts m ab) {a b : Int} (h : Rch ts a b) : ∀ {x : Int} {n : Nat}, Up ab a x n → ∃ k, Up ab b x k := by
  induction h with
  | refl => exact fun g => ⟨_, g⟩
  | step _ e ih =>
    intro x n g
    obtain ⟨k, g⟩ := ih g
    rcases e with e | e
    · obtain ⟨y, k1, k2, g1, g2⟩ := U.eq _ e
      cases g.det g1
      exact ⟨_, g2⟩
    · obtain ⟨y, k1, k2, g1, g2⟩ := U.eq _ e
      cases g.det g2
      exact ⟨_, g1⟩
theorem Uf2.ne {ts : Ties} {m : Nat} {ab : List Int} (U : Uf2 ts m ab) {a b x y : Int} {n1 n2 : Nat} (h1 : Up ab a x n1) (h2 : Up ab b y n2) (ne : x ≠ y) : ¬ Rch ts a b := fun r => by
  obtain ⟨k, g⟩ := U.one r h1
  exact ne (g.det h2)
/-- some tie closes a ring -/
def Ring (ts : Ties) : Prop := ∃ (i : Nat) (t : Int × Int), ts[i]? = some t ∧ Rch (ts.take i) t.1 t.2
open Classical in
noncomputable def ringB (ts : Ties) : Bool := decide (Ring ts)
theorem ring_snoc {ts : Ties} {t : Int × Int} : Ring (ts ++ [t]) ↔ Ring ts ∨ Rch ts t.1 t.2 := by
  constructor
  · rintro ⟨i, u, h, r⟩
    by_cases e : i < ts.length
    · rw [List.getElem?_append_left e] at h
      rw [List.take_append_of_le_length (by omega)] at r
      exact .inl ⟨i, u, h, r⟩
    · rw [List.getElem?_append_right (by omega)] at h
      have e2 : i - ts.length = 0 := by
        cases q : i - ts.length with
        | zero => rfl
        | succ k =>
          rw [q] at h
          cases h
      rw [e2] at h
      cases Option.some.inj h
      have e3 : i = ts.length := by omega
      rw [e3, List.take_left'] at r
      · exact .inr r
      · rfl
  · rintro (⟨i, u, h, r⟩ | r)
    · have l := (List.getElem?_eq_some_iff.mp h).1
      refine ⟨i, u, ?_, ?_⟩
      · rw [List.getElem?_append_left l]
        exact h
      · rw [List.take_append_of_le_length (by omega)]
        exact r
    · refine ⟨ts.length, t, ?_, ?_⟩
      · rw [List.getElem?_append_right (Nat.le_refl _), Nat.sub_self]
        rfl
      · rw [List.take_left' rfl]
        exact r
theorem ring_nil : ¬ Ring [] := by
  rintro ⟨i, t, h, _⟩
  rw [List.getElem?_nil] at h
  cases h
theorem ring_take {ts : Ties} {i : Nat} (h : Ring (ts.take i)) : Ring ts := by
  obtain ⟨j, t, h1, r⟩ := h
  have l := (List.getElem?_eq_some_iff.mp h1).1
  rw [List.length_take] at l
  refine ⟨j, t, ?_, ?_⟩
  · rw [List.getElem?_take_of_lt (by omega)] at h1
    exact h1
  · rw [List.take_take, Nat.min_eq_left (by omega)] at r
    exact r
theorem tree_noring {ts : Ties} (T : Tree ts) (nd : ts.Nodup) : ¬ Ring ts := by
  rintro ⟨i, t, h, r⟩
  obtain ⟨hi, e⟩ := List.getElem?_eq_some_iff.mp h
  refine T t (List.mem_of_getElem? h) (r.mono fun u mu => List.mem_filter.mpr ⟨List.mem_of_mem_take mu, decide_eq_true fun z => ?_⟩)
  obtain ⟨j, hj, ej⟩ := List.getElem_of_mem mu
  rw [List.getElem_take] at ej
  rw [List.length_take] at hj
  have pw := List.pairwise_iff_getElem.mp nd j i (by omega) hi (by omega)
  exact pw (by rw [ej, e, z])
theorem rch_snoc {ts : Ties} {a b x y : Int} : Rch (ts ++ [(a, b)]) x y ↔ Rch ts x y ∨ (Rch ts x a ∧ Rch ts b y) ∨ (Rch ts x b ∧ Rch ts a y) := by
  have up : ∀ t ∈ ts, t ∈ ts ++ [(a, b)] := fun t m => List.mem_append_left _ m
  have ad : Adj (ts ++ [(a, b)]) a b := .inl (List.mem_append_right _ List.mem_cons_self)
  constructor
  · intro h
    induction h with
    | refl => exact .inl .refl
    | @step c d _ e ih =>
      have key : Adj ts c d ∨ (c = a ∧ d = b) ∨ (c = b ∧ d = a) := by
        rcases e with e | e
        · rcases List.mem_append.mp e with e | e
          · exact .inl (.inl e)
          · cases List.mem_singleton.mp e
            exact .inr (.inl ⟨rfl, rfl⟩)
        · rcases List.mem_append.mp e with e | e
          · exact .inl (.inr e)
          · cases List.mem_singleton.mp e
            exact .inr (.inr ⟨rfl, rfl⟩)
      rcases key with k | ⟨rfl, rfl⟩ | ⟨rfl, rfl⟩
      · rcases ih with h | ⟨h1, h2⟩ | ⟨h1, h2⟩
        · exact .inl (.step h k)
        · exact .inr (.inl ⟨h1, .step h2 k⟩)
        · exact .inr (.inr ⟨h1, .step h2 k⟩)
      · rcases ih with h | ⟨h1, h2⟩ | ⟨h1, h2⟩
        · exact .inr (.inl ⟨h, .refl⟩)
        · exact .inr (.inl ⟨h1, .refl⟩)
        · exact .inl h1
      · rcases ih with h | ⟨h1, h2⟩ | ⟨h1, h2⟩
        · exact .inr (.inr ⟨h, .refl⟩)
        · exact .inl h1
        · exact .inr (.inr ⟨h1, .refl⟩)
  · rintro (h | ⟨h1, h2⟩ | ⟨h1, h2⟩)
    · exact h.mono up
    · exact (h1.mono up).trans ((Rch.one ad).trans (h2.mono up))
    · exact (h1.mono up).trans ((Rch.one ad.symm).trans (h2.mono up))
/-- how many parts -/
noncomputable def cntP (ts : Ties) (n : Nat) : Nat := ((List.range n).filter fun j => decide (rpOf ts j = j)).length
theorem rp_self {ts : Ties} {j : Nat} : rpOf ts j = j ↔ ∀ i : Nat, i < j → ¬ Rch ts (j : Int) (i : Int) := by
  constructor
  · intro e i hi
    have z := (rp_spec (ts := ts) j).2.2
    rw [e] at z
    exact z i hi
  · intro h
    rcases Nat.lt_or_eq_of_le (rp_le (ts := ts) j) with l | e
    · exact absurd (rp_spec j).1 (h _ l)
    · exact e
theorem cnt_same {ts us : Ties} (n : Nat) (h : ∀ x y, Rch us x y ↔ Rch ts x y) : cntP us n = cntP ts n := by
  unfold cntP
  congr 1
  refine List.filter_congr fun j _ => decide_eq_decide.mpr ?_
  rw [rp_self, rp_self]
  exact ⟨fun z i hi r => z i hi ((h _ _).mpr r), fun z i hi r => z i hi ((h _ _).mp r)⟩
theorem cnt_less {ts us : Ties} {n a b : Nat} (ha : a < n) (hb : b < n) (h : ∀ x y : Int, Rch us x y ↔ Rch ts x y ∨ (Rch ts x a ∧ Rch ts b y) ∨ (Rch ts x b ∧ Rch ts a y)) (lt : rpOf ts a < rpOf ts b) : cntP us n + 1 = cntP ts n := by
  have key : ∀ j : Nat, rpOf us j = j ↔ rpOf ts j = j ∧ j ≠ rpOf ts b := fun j => by
    constructor
    · intro e
      have e1 := rp_self.mp e
      refine ⟨rp_self.mpr fun i hi r => e1 i hi ((h _ _).mpr (.inl r)), ?_⟩
      rintro rfl
      refine e1 (rpOf ts a) lt ((h _ _).mpr (.inr (.inr ⟨(rp_spec b).1.symm, (rp_spec a).1⟩)))
    · rintro ⟨e, ne⟩
      refine rp_self.mpr fun i hi r => ?_
      rcases (h _ _).mp r with r | ⟨r1, r2⟩ | ⟨r1, r2⟩
      · exact rp_self.mp e i hi r
      · have e2 := rp_eq r1
        rw [e] at e2
        refine (rp_spec (ts := ts) b).2.2 i (by omega) r2
      · have e2 := rp_eq r1
        rw [e] at e2
        exact ne e2
  have lb : rpOf ts b < n := Nat.lt_of_le_of_lt (rp_le b) hb
  have nd : ((List.range n).filter fun j => decide (rpOf ts j = j)).Nodup := List.nodup_range.filter _
  have mb : rpOf ts b ∈ (List.range n).filter fun j => decide (rpOf ts j = j) := List.mem_filter.mpr ⟨List.mem_range.mpr lb, decide_eq_true (rp_idem b)⟩
  have e : ((List.range n).filter fun j => decide (rpOf us j = j)) = ((List.range n).filter fun j => decide (rpOf ts j = j)).erase (rpOf ts b) := by
    rw [nd.erase_eq_filter, List.filter_filter]
    refine List.filter_congr fun j _ => ?_
    rw [Bool.eq_iff_iff]
    simp only [Bool.and_eq_true, decide_eq_true_eq, bne_iff_ne, key j]
    exact ⟨fun z => ⟨z.2, z.1⟩, fun z => ⟨z.2, z.1⟩⟩
  unfold cntP
  rw [e, List.length_erase_of_mem mb]
  have := List.length_pos_of_mem mb
  omega
theorem cnt_snoc {ts : Ties} {n a b : Nat} (ha : a < n) (hb : b < n) (nr : ¬ Rch ts (a : Int) (b : Int)) : cntP (ts ++ [((a : Int), (b : Int))]) n + 1 = cntP ts n := by
  rcases Nat.lt_trichotomy (rpOf ts a) (rpOf ts b) with l | e | l
  · exact cnt_less ha hb (fun x y => rch_snoc) l
  · exact absurd (rp_iff.mp e) nr
  · exact cnt_less hb ha (fun x y => rch_snoc.trans (or_congr_right Or.comm)) l
theorem cnt_nil (n : Nat) : cntP [] n = n := by
  unfold cntP
  rw [List.filter_eq_self.mpr, List.length_range]
  intro j _
  refine decide_eq_true (rp_self.mpr fun i hi r => ?_)
  have : ∀ {x y : Int}, Rch [] x y → x = y := fun {x y} h => by
    induction h with
    | refl => rfl
    | step _ e _ => rcases e with e | e <;> cases e
  have := this r
  omega
/-- ties are as many as points less parts just where none closes a ring -/
theorem cnt_ring {n : Nat} : ∀ (k : Nat) {ts : Ties}, ts.length = k → (∀ t ∈ ts, 0 ≤ t.1 ∧ 0 ≤ t.2 ∧ t.1 < (n : Int) ∧ t.2 < (n : Int)) → n ≤ cntP ts n + k ∧ cntP ts n ≤ n ∧ (cntP ts n + k = n ↔ ¬ Ring ts)
  | 0, ts, e, _ => by
    have e0 := List.eq_nil_of_length_eq_zero e
    subst e0
    rw [cnt_nil]
    exact ⟨by omega, by omega, fun _ => ring_nil, fun _ => rfl⟩
  | k + 1, ts, e, h => by
    obtain ⟨us, t, rfl⟩ : ∃ us t, ts = us ++ [t] := by
      have ne : ts ≠ [] := fun z => by rw [z] at e; cases e
      exact ⟨ts.dropLast, ts.getLast ne, (List.dropLast_concat_getLast ne).symm⟩
    have lu : us.length = k := by
      rw [List.length_append] at e
      exact Nat.succ.inj e
    obtain ⟨i1, i2, i3⟩ := cnt_ring k lu fun u m => h u (List.mem_append_left _ m)
    have ht := h t (List.mem_append_right _ List.mem_cons_self)
    obtain ⟨x, y⟩ := t
    obtain ⟨a, rfl⟩ : ∃ a : Nat, x = (a : Int) := ⟨x.toNat, by dsimp only at ht; omega⟩
    obtain ⟨b, rfl⟩ : ∃ b : Nat, y = (b : Int) := ⟨y.toNat, by dsimp only at ht; omega⟩
    dsimp only at ht
    rw [ring_snoc]
    by_cases r : Rch us (a : Int) (b : Int)
    · have c : cntP (us ++ [((a : Int), (b : Int))]) n = cntP us n := cnt_same n fun x y => by
        rw [rch_snoc]
        constructor
        · rintro (h | ⟨h1, h2⟩ | ⟨h1, h2⟩)
          · exact h
          · exact h1.trans (r.trans h2)
          · exact h1.trans (r.symm.trans h2)
        · exact .inl
      rw [c]
      refine ⟨by omega, i2, fun z => ?_, fun z => absurd (.inr r) z⟩
      omega
    · have c := cnt_snoc (n := n) (by omega) (by omega) r
      refine ⟨by omega, by omega, fun z => ?_, fun z => ?_⟩
      · rintro (g | g)
        · exact i3.mp (by omega) g
        · exact r g
      · have := i3.mpr fun g => z (.inl g)
        omega
/-! parts as tuples -/
open Classical in
noncomputable def partL (ts : Ties) (n : Nat) (j : Int) : List Int := ((List.range n).map fun i : Nat => (i : Int)).filter fun x => decide (Rch ts j x)
theorem rch_inN {ts : Ties} {n : Nat} (h : ∀ t ∈ ts, 0 ≤ t.1 ∧ 0 ≤ t.2 ∧ t.1 < (n : Int) ∧ t.2 < (n : Int)) {a v : Int} (a0 : 0 ≤ a) (a1 : a < (n : Int)) (r : Rch ts a v) : 0 ≤ v ∧ v < (n : Int) := by
  induction r with
  | refl => exact ⟨a0, a1⟩
  | step _ e _ =>
    rcases e with e | e
    · have := h _ e
      exact ⟨this.2.1, this.2.2.2⟩
    · have := h _ e
      exact ⟨this.1, this.2.2.1⟩
theorem is_partL {ts : Ties} {n : Nat} (h : ∀ t ∈ ts, 0 ≤ t.1 ∧ 0 ≤ t.2 ∧ t.1 < (n : Int) ∧ t.2 < (n : Int)) {j : Int} (j0 : 0 ≤ j) (j1 : j < (n : Int)) : IsPart ts j (partL ts n j) := by
  classical
  refine ⟨?_, fun v => ?_⟩
  · unfold partL
    refine List.Pairwise.filter _ (List.pairwise_map.mpr (List.pairwise_lt_range.imp fun h => ?_))
    omega
  · unfold partL
    rw [List.mem_filter, List.mem_map]
    constructor
    · rintro ⟨_, h⟩
      exact of_decide_eq_true h
    · intro g
      have r := rch_inN h j0 j1 g
      exact ⟨⟨v.toNat, List.mem_range.mpr (by omega), by omega⟩, decide_eq_true g⟩
theorem parts_cnt {κ : Type} {key : List Int → κ} (inj : ∀ l m, key l = key m → l = m) {ts : Ties} {n : Nat} (h : ∀ t ∈ ts, 0 ≤ t.1 ∧ 0 ≤ t.2 ∧ t.1 < (n : Int) ∧ t.2 < (n : Int)) {out : List κ} (nd : out.Nodup)
    (mem : ∀ k, k ∈ out ↔ k ∈ (List.range n).map fun j : Nat => key (partL ts n (j : Int))) : out.length = cntP ts n := by
  have isP : ∀ j : Nat, j < n → IsPart ts (j : Int) (partL ts n (j : Int)) := fun j hj => is_partL h (by omega) (by omega)
  have perm : out.Perm (((List.range n).filter fun j => decide (rpOf ts j = j)).map fun j : Nat => key (partL ts n (j : Int))) := by
    refine (List.perm_ext_iff_of_nodup nd ?_).mpr fun k => (mem k).trans ?_
    · refine List.pairwise_map.mpr (List.pairwise_iff_getElem.mpr fun i j hi hj lt e => ?_)
      have mi := List.mem_filter.mp (List.getElem_mem hi)
      have mj := List.mem_filter.mp (List.getElem_mem hj)
      have li := List.mem_range.mp mi.1
      have lj := List.mem_range.mp mj.1
      have e := inj _ _ e
      have m1 := ((isP _ li).mem _).mpr .refl
      rw [e] at m1
      have r := ((isP _ lj).mem _).mp m1
      have e2 := rp_eq r
      rw [of_decide_eq_true mi.2, of_decide_eq_true mj.2] at e2
      have nr : ((List.range n).filter fun j => decide (rpOf ts j = j)).Nodup := List.nodup_range.filter _
      exact List.pairwise_iff_getElem.mp nr i j hi hj lt e2.symm
    · constructor
      · intro h
        obtain ⟨j, hj, rfl⟩ := List.mem_map.mp h
        have hj := List.mem_range.mp hj
        have lr : rpOf ts j < n := Nat.lt_of_le_of_lt (rp_le j) hj
        refine List.mem_map.mpr ⟨rpOf ts j, List.mem_filter.mpr ⟨List.mem_range.mpr lr, decide_eq_true (rp_idem j)⟩, ?_⟩
        have r := (rp_spec (ts := ts) j).1
        have p1 := isP _ lr
        have p2 := isP j hj
        refine congrArg key (part_unique p1 ⟨p2.up, fun v => (p2.mem v).trans ⟨fun z => r.symm.trans z, fun z => r.trans z⟩⟩)
      · intro h
        obtain ⟨j, hj, rfl⟩ := List.mem_map.mp h
        exact List.mem_map.mpr ⟨j, (List.mem_filter.mp hj).1, rfl⟩
  rw [perm.length_eq, List.length_map]
  rfl
/-! ties in order -/
def ltT (s t : Int × Int) : Prop := s.1 < t.1 ∨ (s.1 = t.1 ∧ s.2 < t.2)
instance (s t : Int × Int) : Decidable (ltT s t) := by unfold ltT; infer_instance
theorem ltT_irr {s : Int × Int} : ¬ ltT s s := by
  unfold ltT
  omega
theorem ltT_asy {s t : Int × Int} (h : ltT s t) : ¬ ltT t s := by
  unfold ltT at *
  omega
theorem ltT_tr {s t u : Int × Int} (h : ltT s t) (g : ltT t u) : ltT s u := by
  unfold ltT at *
  omega
theorem ties_ext : ∀ {l m : Ties}, l.Pairwise ltT → m.Pairwise ltT → (∀ v, v ∈ l ↔ v ∈ m) → l = m
  | [], [], _, _, _ => rfl
  | [], y :: _, _, _, h => nomatch (h y).mpr List.mem_cons_self
  | x :: _, [], _, _, h => nomatch (h x).mp List.mem_cons_self
  | x :: l, y :: m, hl, hm, h => by
    rw [List.pairwise_cons] at hl hm
    have e : x = y := by
      rcases List.mem_cons.mp ((h x).mp List.mem_cons_self) with e | e
      · exact e
      · rcases List.mem_cons.mp ((h y).mpr List.mem_cons_self) with e2 | e2
        · exact e2.symm
        · exact absurd (hm.1 x e) (ltT_asy (hl.1 y e2))
    subst e
    have t : l = m := ties_ext hl.2 hm.2 fun v => ⟨fun hv => by
      rcases List.mem_cons.mp ((h v).mp (List.mem_cons_of_mem _ hv)) with e | e
      · subst e
        exact absurd (hl.1 _ hv) ltT_irr
      · exact e, fun hv => by
      rcases List.mem_cons.mp ((h v).mpr (List.mem_cons_of_mem _ hv)) with e | e
      · subst e
        exact absurd (hm.1 _ hv) ltT_irr
      · exact e⟩
    rw [t]
theorem rising_chain : ∀ {l : Ties}, (∀ (i : Nat) (s t : Int × Int), l[i]? = some s → l[i + 1]? = some t → ltT s t) → l.Pairwise ltT
  | [], _ => .nil
  | [x], _ => List.pairwise_singleton ..
  | x :: y :: r, h => by
    have ih : (y :: r).Pairwise ltT := rising_chain fun i s t h1 h2 => h (i + 1) s t h1 h2
    have xy : ltT x y := h 0 x y rfl rfl
    refine List.pairwise_cons.mpr ⟨fun z hz => ?_, ih⟩
    rcases List.mem_cons.mp hz with rfl | hz
    · exact xy
    · exact ltT_tr xy ((List.pairwise_cons.mp ih).1 z hz)

end My
namespace My
open PySem PySem.Spec PyProof.Rows L2
/-! ### enumerate over a tuple -/
theorem enum_tup_new (a : Addr) (its : Array Value) (n : Nat) (dc : Option Addr) (sl : Array (Option Value)) :
    Meets (Builtin.«enumerate.__new__» ⟨[.type "enumerate", .ref a], []⟩) (fun _ R s => s.heap.get? a = some { cls := .type "tuple", dict := dc, data := .seq its n, slots := sl } ∧
      R (.ok (.ret (.ref (s.heap.push { cls := .type "tuple_iterator", data := .fields #[.ref a, .int 0 0] }).objs.size))) { s with heap := (s.heap.push { cls := .type "tuple_iterator", data := .fields #[.ref a, .int 0 0] }).push { cls := .type "enumerate", data := .fields #[.none, .bool false, .ref s.heap.objs.size, rawInt 0, .none, .none] } }) :=
  .of_wp fun prog w A R s h => by
    obtain ⟨hp, g, d, tk, os⟩ := s
    obtain ⟨hl, h⟩ := h
    have hsub := sub_enumerate
    have hT : Heap.IsTuple (Shared.heap ⟨hp, g, d, tk, os⟩) a its := ⟨_, hl, rfl, n, rfl⟩
    wp_walk using AutoSeq1.wpAny_loadPart' hl
    refine wpAny_stack_any (fun stk => wpAny_pure ?_)
    split
    · rename_i cc _ _ _ _ _
      cases (cc == Value.type "enumerate")
      · wp_walk using AutoSeq1.wpAny_loadPart' hl, wpAny_pyIter_tuple hT
        exact ⟨_, rfl, h⟩
      · wp_walk using AutoSeq1.wpAny_loadPart' hl, wpAny_pyIter_tuple hT
        exact ⟨_, rfl, h⟩
    · wp_walk using AutoSeq1.wpAny_loadPart' hl, wpAny_pyIter_tuple hT
      exact ⟨_, rfl, h⟩
theorem call_enum_tup {prog : Program} {w : World} {A : Around} {E : Value → Shared → Prop} {s : Shared} {a : Addr} {its : Array Value} {Q : Value → Shared → Prop} (ht : s.heap.IsTuple a its)
    (h : ∀ h', IsEnum h' (s.heap.objs.size + 1) s.heap.objs.size 0 .none → h'.IsTupleIter s.heap.objs.size a 0 → (∀ b o, s.heap.get? b = some o → h'.get? b = some o) → Q (.ref (s.heap.objs.size + 1)) { s with heap := h' }) :
    wpAny (model prog w) A (call (.type "enumerate") [.ref a]) Q E s := by
  obtain ⟨⟨c, dc, dt, sl⟩, hl, hc, n, hd⟩ := ht
  obtain rfl : c = .type "tuple" := hc
  obtain rfl : dt = .seq its n := hd
  refine callType_new F.called_enumerate (by decide) (F.typeCall_enumerate_1 _) (F.newCall_enumerate_1 _) (fun obj => F.args_object_init_2 obj _) F.entry_enumerate_new (enum_tup_new a its n dc sl) ⟨hl, ?_⟩
  have sz : (s.heap.push { cls := .type "tuple_iterator", data := .fields #[.ref a, .int 0 0] }).objs.size = s.heap.objs.size + 1 := Heap.size_push ..
  show _ ∧ _
  rw [sz]
  have he : IsEnum ((s.heap.push { cls := .type "tuple_iterator", data := .fields #[.ref a, .int 0 0] }).push { cls := .type "enumerate", data := .fields #[.none, .bool false, .ref s.heap.objs.size, rawInt 0, .none, .none] }) (s.heap.objs.size + 1) s.heap.objs.size 0 .none := by
    have z := Heap.get?_push_size (s.heap.push { cls := .type "tuple_iterator", data := .fields #[.ref a, .int 0 0] }) (o := { cls := .type "enumerate", data := .fields #[.none, .bool false, .ref s.heap.objs.size, rawInt 0, .none, .none] }) rfl
    rw [sz] at z
    exact z
  exact ⟨⟨_, he, rfl⟩, h _ he ⟨_, Heap.get?_push_of_some _ (Heap.get?_push_size _ rfl), rfl, rfl⟩ fun b o y => Heap.get?_push_of_some _ (Heap.get?_push_of_some _ y)⟩
/-- the tuple at a, each item in a new pair with its number -/
def ItE (K : PySem.W.Frag) (a : Addr) : It :=
  ⟨fun i H => ∃ (xs : List V) (x : V), SqT K H a xs ∧ xs[i]? = some x,
    fun i H v H' => ∃ (T : Addr) (x : V), v = .ref T ∧ H T = none ∧ H' = upd H T (.tup [.int (i : Nat), x]) ∧ ∀ xs, SqT K H a xs → xs[i]? = some x,
    fun i H => ∃ xs : List V, SqT K H a xs ∧ xs.length = i⟩
theorem turn_enumT {P : Program} {w : World} {K : PySem.W.Frag} {elts : List Expr} {kk : Nat} {tpos : Pos} (a e it : Addr) :
    Turn P w K (.Tuple elts kk tpos) (ItE K a) [e, it] e (fun i h => (∃ old, IsEnum h e it ((i : Nat) : Int) old) ∧ h.IsTupleIter it a i ∧ e ≠ it) where
  mem := List.mem_cons_self
  obj := fun i h st b hb => by
    obtain ⟨⟨old, he⟩, ⟨o, ho, hc, hd⟩, _⟩ := st
    rcases List.mem_cons.mp hb with z | z
    · rw [z]
      exact ⟨_, he, fun v q => nomatch q⟩
    · rw [List.mem_singleton.mp z]
      exact ⟨o, ho, fun v q => by rw [hd] at q; cases q⟩
  keep := fun i h h' st k => by
    obtain ⟨⟨old, he⟩, hi, hne⟩ := st
    exact ⟨⟨old, k e List.mem_cons_self _ he⟩, hi.at fun o q => k it (List.mem_cons_of_mem _ List.mem_cons_self) o q, hne⟩
  item := by
    intro X hP hw hK hc i pins s σ H E I hf st hg
    subst hP hw hK
    obtain ⟨⟨old, he⟩, hit, hne⟩ := st
    obtain ⟨xs, x, hq, hx⟩ := hg
    obtain ⟨its, rv, tp, hz⟩ := I.tuple hq
    obtain ⟨u, hu, ru⟩ := rv.get hx
    have ea : e ≠ a := fun z => by
      obtain ⟨o, h1, h2, _⟩ := id tp
      have he2 : s.heap.get? e = some _ := he
      rw [z, h1] at he2
      rw [Option.some.inj he2] at h2
      injection h2 with z2
      exact absurd z2 (by decide)
    have ia : a ≠ it := fun z => by
      obtain ⟨o, h1, h2, _⟩ := id tp
      obtain ⟨o2, g1, g2, _⟩ := id hit
      rw [← z, h1] at g1
      rw [Option.some.inj g1, g2] at h2
      injection h2 with z2
      exact absurd z2 (by decide)
    have hel : e < s.heap.objs.size := Heap.lt_size he
    have hil : it < s.heap.objs.size := by
      obtain ⟨_, q, _⟩ := id hit
      exact Heap.lt_size q
    have hui : its.toArray[i]? = some u := by simpa using hu
    have hlt : i < its.toArray.size := (Array.getElem?_eq_some_iff.mp hui).1
    refine wpAny_pyNext_enum_itemD (Draws.tuple (A := X.A.in1) (I.ok.hd hc) it a ia its.toArray) he ⟨hit, tp⟩ hlt hne (fun z => ?_) fun y h' tk hy ho st' hT hsz hk => ?_
    · rcases List.mem_cons.mp z with z | z
      · exact hne z
      · exact ea (List.mem_singleton.mp z)
    · have ey : y = u := by
        have hy2 : its.toArray[i]? = some y := hy
        rw [hui] at hy2
        exact (Option.some.inj hy2).symm
      subst ey
      refine ⟨_, rfl, wpAny_letOwnedTupleGo_enum (s := { s with heap := h', toks := tk + 1 }) ho fun h'' he' sb => ?_⟩
      have hT2 : h''.get? s.heap.objs.size = some { cls := .type "tuple", data := .seq #[.int i tk, y] } := (sb.2 _ (Nat.ne_of_gt hel)).trans hT
      have new : ObjOk X.prog X.w (upd H s.heap.objs.size (.tup [.int (i : Nat), x])) h'' s.heap.objs.size (.tup [.int (i : Nat), x]) :=
        ⟨by show 2 ≤ sizeLine; decide, [.int i tk, y], .cons ⟨_, rfl⟩ (.cons ru .nil), ⟨_, hT2, rfl, _, rfl⟩⟩
      have fr : ∀ b ob, b ∉ [e, it] → s.heap.get? b = some ob → h''.get? b = some ob := fun b ob hb q => by
        have n1 : b ≠ e := fun z => hb (z ▸ List.mem_cons_self)
        have n2 : b ≠ it := fun z => hb (z ▸ List.mem_cons_of_mem _ List.mem_cons_self)
        exact (sb.2 b n1).trans (hk b ob n1 n2 q)
      have I1 : Inv X pins σ (upd H s.heap.objs.size (.tup [.int (i : Nat), x])) { s with heap := h'', toks := tk + 1 } := I.turnedNew (ch := [e, it]) fr hf (Nat.le_refl _) new
      refine ⟨.ref s.heap.objs.size, _, I1, rfl, ⟨_, x, rfl, I.hok.fresh (Nat.le_refl _), rfl, fun ys hy => by rw [I.tuple_inj hy hq]; exact hx⟩, ⟨⟨y, ?_⟩, (st'.1).at fun o q => (sb.2 it (Ne.symm hne)).trans q, hne⟩, fun b hb => ?_⟩
      · have e1 : ((i + 1 : Nat) : Int) = (i : Int) + 1 := by omega
        rw [e1]
        exact he'
      · have hb' : b < s.heap.objs.size := by
          rcases List.mem_cons.mp hb with z | z
          · rw [z]
            exact hel
          · rw [List.mem_singleton.mp z]
            exact hil
        rw [upd_ne (Nat.ne_of_lt hb')]
        exact (hf b hb).1
  done := by
    intro X hP hw hK hc i pins s σ H E I hf st hg
    subst hP hw hK
    obtain ⟨⟨old, he⟩, hit, hne⟩ := st
    obtain ⟨xs, hq, hx⟩ := hg
    obtain ⟨its, rv, tp, hz⟩ := I.tuple hq
    obtain ⟨f0, f1, f2, f3, f4, f5⟩ := hf it (List.mem_cons_of_mem _ List.mem_cons_self)
    have ia : a ≠ it := fun z => by
      obtain ⟨o, h1, h2, _⟩ := id tp
      obtain ⟨o2, g1, g2, _⟩ := id hit
      rw [← z, h1] at g1
      rw [Option.some.inj g1, g2] at h2
      injection h2 with z2
      exact absurd z2 (by decide)
    have hl : i = its.toArray.size := by
      rw [List.size_toArray, ← rv.length, hx]
    subst hl
    exact wpAny_pyNext_enum_endD (Draws.tuple (A := X.A.in1) (I.ok.hd hc) it a ia its.toArray) he ⟨hit, tp⟩ fun h' eb => ⟨rfl, I.turned (t' := s.toks) (fun b o hb q => eb b o hb q) f0 f1 f3 f4 f5⟩
  self := fun A i s Q E st h => by
    obtain ⟨⟨_, he⟩, _⟩ := st
    exact wpAny_pyIter_enum he h
def iEnumT (K : PySem.W.Frag) (ta : TA) : TI := fun σ H R => ta σ H fun vs H1 => ∃ (a : Addr) (xs : List V), vs = [.ref a] ∧ SqT K H1 a xs ∧ R (ItE K a) H1
theorem pi_enumT {X : Cx} {e : Expr} {ta : TA} {p pos tpos : Pos} {elts : List Expr} {kk : Nat} (hg : Gl X "enumerate") (hm : X.mg "enumerate" = none) (ha : PA X [e] ta) (hs : starEach [e] X.env = [(false, eval e X.env)] := by rfl) :
    PI X (.Tuple elts kk tpos) (.Call (.Name "enumerate" p) [e] [] pos) (iEnumT X.K ta) := by
  constructor
  intro pins s σ H R I h
  refine Call_ (ld_blt I hg hm boot_enumerate (PyProof.Rows.callWith_type1 (thn (ha.run pos pins s σ H _ I h) fun us s1 z => ?_) hs rfl))
  obtain ⟨vs, H1, I1, r1, a, xs, rfl, hq, q⟩ := z
  obtain ⟨u, rfl, r⟩ := vals1 r1
  obtain rfl : u = Value.ref a := r
  obtain ⟨its, rv, tp, hz⟩ := I1.tuple hq
  refine call_enum_tup tp fun h' he hit hk => wpAny_pyIter_enum he ?_
  have I2 : Inv X pins σ H1 { s1 with heap := h' } := I1.kept (t' := s1.toks) hk
  refine ⟨s1.heap.objs.size + 1, [s1.heap.objs.size + 1, s1.heap.objs.size], _, _, H1, rfl, I2, turn_enumT a (s1.heap.objs.size + 1) s1.heap.objs.size, ⟨⟨.none, he⟩, hit, Nat.succ_ne_self _⟩, fun b hb => ?_, q⟩
  have hle : s1.heap.objs.size ≤ b := by
    rcases List.mem_cons.mp hb with z | z
    · rw [z]
      exact Nat.le_succ _
    · rw [List.mem_singleton.mp z]
      exact Nat.le_refl _
  exact I1.fpOk hle (I1.hok.fresh hle)
theorem walk_enumT {K : PySem.W.Frag} {a : Addr} {xs : List V} : L2.Walk (ItE K a) xs.length (fun H => SqT K H a xs) (YPair (fun i => some (.int (i : Nat))) (fun i => xs[i]?)) := by
  refine ⟨fun i _ hi q => ⟨xs, xs[i], q, List.getElem?_eq_getElem hi⟩, fun _ q => ⟨xs, q, rfl⟩, fun i H v H' _ q y => ?_⟩
  obtain ⟨T, x, h1, h2, h3, h4⟩ := y
  exact ⟨T, .int (i : Nat), x, h1, h2, h3, rfl, h4 xs q⟩

/-! ### sorted of a dict's keys, of a tuple: ints, any number of them -/
section
variable {X : Cx}
theorem call_sortedDX (hcalm : X.calm = true) : CallR X (.builtin "sorted") (fun xs H Q => ∃ (a : Addr) (kvs : List (Key × V)) (ks : List Int), xs = [.ref a] ∧ Rd H a (.dK kvs) ∧ kvs.map (·.1) = ks.map Sum.inl ∧ ks.length ≤ 100000 ∧
    ∀ (ys : List Int) (p : Addr), ys.Perm ks → ys.Pairwise (· ≤ ·) → H p = none → Q (.ref p) (upd H p (.lst (ys.map V.int)))) := by
  intro pins s σ H xs us Q I r q
  obtain ⟨a, kvs, ks, ex, hd, hks, hz, q⟩ := q
  subst ex
  obtain ⟨u, eu, rx⟩ := vals1 r
  subst eu
  cases rx
  obtain ⟨z, lo, vs, rel, dd⟩ := dk_rd I.hok hd
  obtain ⟨ep, hat⟩ := dd.dictAt
  have hkeys : vs.map (·.1) = ks.map Sum.inl := rel.keys.symm.trans hks
  have hl : vs.length = ks.length := by
    have e := congrArg List.length hkeys
    rw [List.length_map, List.length_map] at e
    exact e
  refine Calls.call_function_entry PyProof.Rows.kind_sorted PyProof.Rows.plain_sorted PyProof.Rows.entry_sorted (PyProof.Rows.args_sorted1 _) ?_
  unfold Builtin.«sorted»
  refine wpAny_bind (m := checkCount "sorted" 1 1 _) (wpAny_pure ?_)
  refine wpAny_bind (PySem.W.kdu_collect (A := X.A.in1) (PySem.W.kdl_dict (knd := mixKind X.prog X.w) (kvs := vs) (ep := ep) lo) (I.ok.hd hcalm) hat (by rw [hl]; exact sz hz) fun h' tk acc hk hacc => ?_)
  have hal : acc.toList.length = ks.length := by rw [Array.length_toList, hacc.1, hl]
  have hS : PyProof.Rows.IntsAre acc.toList ks := ints_each hal fun j v e => by
    obtain ⟨k, x, e1, e2⟩ := hacc.2 j v (by rw [← Array.getElem?_toList]; exact e)
    have e3 : (vs.map (·.1))[j]? = some k := by rw [List.getElem?_map, e1]; rfl
    rw [hkeys, List.getElem?_map] at e3
    cases e4 : ks[j]? with
    | none => rw [e4] at e3; cases e3
    | some y =>
      rw [e4] at e3
      have e5 : Sum.inl y = k := Option.some.inj e3
      subst e5
      rcases keyIs_shape (show keyIs (Sum.inl y) v = true from e2) with ⟨i, t, ek, ev⟩ | ⟨z, t, ek, ev⟩
      · cases ek
        exact ⟨y, t, rfl, ev⟩
      · cases ek
  have I1 : Inv X pins σ H { s with heap := h', toks := tk } := I.kept hk
  refine wpAny_bind (wpAny_newList ?_ (by rw [hal]; exact sz hz))
  have hoL : (h'.push (seqObj "list" acc.toList.toArray 0)).get? h'.objs.size = some (seqObj "list" acc.toList.toArray 0) := Heap.get?_push_size _ rfl
  show wpAny _ _ _ _ _ { s with heap := h'.push (seqObj "list" acc.toList.toArray 0), toks := tk }
  refine wpAny_bind (wpAny_holding (wpAny_call_entry PyProof.Rows.slot_list_sort ⟨_, hoL, rfl⟩ PyProof.Rows.entry_list_sort
    (SrtO.list_sort_ord (s := { s with heap := h'.push (seqObj "list" acc.toList.toArray 0), toks := tk }) SrtO.swo_int hoL (by rw [hal]; exact sz hz) (fun h2 => SrtO.ints_sortable hS h2) fun out h1 h2 => ⟨_, rfl, ?_⟩) (PyProof.Rows.args_list_sort _)))
  obtain ⟨k1, k2, k3⟩ := SrtO.ints_out hS h1 h2
  obtain ⟨e', he'⟩ := PyProof.Rows.sortedHeap_at (vs := acc.toList) (out := out.toArray) hoL
  have hlen : ((out.map SrtO.iv).map V.int).length ≤ sizeLine := by
    rw [List.length_map, k2.length_eq]
    exact sz hz
  refine wpAny_pure ⟨_, rfl, .ref h'.objs.size, upd H h'.objs.size (.lst ((out.map SrtO.iv).map V.int)), I1.laid (t' := tk) (fun b u e => ?_) (Nat.le_refl _)
    (show ObjOk X.prog X.w _ _ _ (.lst ((out.map SrtO.iv).map V.int)) from ⟨hlen, out, e', vals_of_ints k1, he'⟩), rfl, q _ _ k2 k3 (I1.hok.fresh (Nat.le_refl _))⟩
  have hb : b < h'.objs.size := Heap.lt_size e
  rw [PyProof.Rows.sortedHeap_old (Nat.ne_of_lt hb) (by rw [size_push']; exact Nat.lt_succ_of_lt hb)]
  exact Heap.get?_push_of_some _ e
end

/-! ### t[::-1] of a tuple -/
theorem adjust_rev (n : Nat) : Builtin.Slice.sliceAdjust none none (-1) (n : Int) = ((n : Int) - 1, -1) := by
  first
  | rfl
  | (unfold Builtin.Slice.sliceAdjust; simp)
theorem places_rev (n : Nat) : Builtin.Slice.slicePlaces ((n : Int) - 1) (-1) (-1) = n := by
  unfold Builtin.Slice.slicePlaces
  have h1 : ¬ ((-1 : Int) > 0) := by decide
  simp only [h1, if_false]
  by_cases h : (n : Int) - 1 > -1
  · rw [if_pos (by omega)]
    have e : ((n : Int) - 1 - -1 - 1) / (- -1) = (n : Int) - 1 := by
      rw [show (- -1 : Int) = 1 by decide, Int.ediv_one]
      omega
    omega
  · rw [if_neg (by omega)]
    omega
theorem filterMap_ext {α β : Type} {f g : α → Option β} : ∀ {l : List α}, (∀ x ∈ l, f x = g x) → l.filterMap f = l.filterMap g
  | [], _ => rfl
  | x :: l, h => by
    rw [List.filterMap_cons, List.filterMap_cons, h x List.mem_cons_self, filterMap_ext fun y hy => h y (List.mem_cons_of_mem _ hy)]
theorem pick_rev (xs : Array Value) : ((List.range xs.size).filterMap fun (m : Nat) => xs[(((xs.size : Int) - 1) + (m : Int) * (-1)).toNat]?).toArray = xs.toList.reverse.toArray := by
  have e : (List.range xs.size).filterMap (fun (m : Nat) => xs[(((xs.size : Int) - 1) + (m : Int) * (-1)).toNat]?) = ((List.range xs.size).map fun k => xs.size - 1 - k).filterMap (xs[·]?) := by
    rw [List.filterMap_map]
    refine filterMap_ext fun m hm => ?_
    have := List.mem_range.mp hm
    show xs[(((xs.size : Int) - 1) + (m : Int) * (-1)).toNat]? = xs[xs.size - 1 - m]?
    have e2 : (((xs.size : Int) - 1) + (m : Int) * (-1)).toNat = xs.size - 1 - m := by omega
    rw [e2]
  rw [e, PySem.W.krv_range, List.filterMap_reverse, PySem.W.krv_all]
theorem sliceApplied_rev {prog : Program} {w : World} {A : Around} {E : Value → Shared → Prop} {s : Shared} {sl : Addr} {vl vu vs : Value} {n : Nat} {Q : Int × Int × Nat → Shared → Prop} (hs : s.heap.IsSliceOf sl vl vu vs) (pl : PySem.IsPart vl none) (pu : PySem.IsPart vu none) (ps : PySem.IsPart vs (some (-1)))
    (h : Q ((n : Int) - 1, -1, n) s) : wpAny (model prog w) A (Builtin.Slice.sliceApplied (.ref sl) (pure (n : Int))) Q E s := by
  obtain ⟨os, hos, hcs, hds⟩ := id hs
  unfold Builtin.Slice.sliceApplied Builtin.Slice.sliceFields
  refine wpAny_bind (wpAny_bind (wpAny_field hos hds (x := vl) rfl (wpAny_bind (wpAny_field hos hds (x := vu) rfl (wpAny_bind (wpAny_field hos hds (x := vs) rfl (wpAny_pure ?_)))))))
  refine wpAny_bind (HT.slicePart_ ps ?_)
  show wpAny _ _ (if ((-1 : Int) == 0) = true then _ else _) _ _ s
  rw [if_neg (by decide)]
  refine wpAny_bind (HT.slicePart_ pl (wpAny_bind (HT.slicePart_ pu (wpAny_bind (wpAny_pure ?_)))))
  show wpAny _ _ (match Builtin.Slice.sliceAdjust none none (-1) (n : Int) with | (lo, hi) => pure (lo, (-1 : Int), Builtin.Slice.slicePlaces lo hi (-1))) _ _ s
  rw [adjust_rev]
  show wpAny _ _ (pure ((n : Int) - 1, (-1 : Int), Builtin.Slice.slicePlaces ((n : Int) - 1) (-1) (-1))) _ _ s
  rw [places_rev]
  exact wpAny_pure h
theorem getItem_revT {prog : Program} {w : World} {A : Around} {E : Value → Shared → Prop} {s : Shared} {t sl : Addr} {items : Array Value} {vl vu vs : Value} {Q : Value → Shared → Prop} (ht : IsTup s.heap t items) (hs : s.heap.IsSliceOf sl vl vu vs) (pl : PySem.IsPart vl none) (pu : PySem.IsPart vu none) (ps : PySem.IsPart vs (some (-1)))
    (h : Q (.ref s.heap.objs.size) { s with heap := s.heap.push { cls := .type "tuple", data := .seq items.toList.reverse.toArray } }) (hsz : items.size ≤ sizeLine) : wpAny (model prog w) A (getItem (.ref t) (.ref sl)) Q E s := by
  obtain ⟨os, hos, hcs, hds⟩ := id hs
  have hTs : s.TypeIs (.ref sl) "slice" := ⟨os, hos, hcs⟩
  have htake : sizeOk (.seq items.toList.reverse.toArray) := by
    show items.toList.reverse.toArray.size ≤ sizeLine
    rw [List.size_toArray, List.length_reverse, Array.length_toList]
    exact hsz
  unfold getItem
  try with_reducible refine wpAny_holding ?_
  first | refine wpAny_bind (wpAny_pure ?_) | skip
  refine wpAny_bind (wpAny_sequenceKey ht.typeIs (by decide) ?_)
  refine wpAny_bind (wpAny_callSpecial?_slot (name := Str.ofString "__getitem__") ht.typeIs PyProof.Rows.slot_tuple_getitem
    (wpAny_call_entry PyProof.Rows.slot_tuple_getitem ht.typeIs PyProof.Rows.entry_tuple_getitem ?_ (PyProof.Rows.args_tuple_getitem _ _)))
  show wpAny _ _ (Builtin.Tuple.tupleItemsOf (.ref t) >>= _) _ _ s
  refine wpAny_bind (tupleItemsOf_ ht ?_)
  refine wpAny_bind (wpAny_typeOf hTs ?_)
  rw [if_pos (by decide)]
  refine wpAny_bind (sliceApplied_rev hs pl pu ps ?_)
  show wpAny _ _ (if ((((items.size : Int) - 1) == 0) && ((-1 : Int) == 1) && (items.size == items.size)) = true then _ else _) _ _ s
  rw [if_neg (by rw [show ((-1 : Int) == 1) = false from rfl, Bool.and_false, Bool.false_and]; decide), pick_rev]
  first
    | exact wpAny_bind (m := Builtin.Tuple.tupleExact _) (wpAny_newObj_type (wpAny_pure ⟨_, rfl, wpAny_pure h⟩) htake)
    | exact wpAny_bind (m := Builtin.Tuple.tupleExact _) (wpAny_newObj_type (wpAny_bind (wpAny_pure (wpAny_pure ⟨_, rfl, wpAny_pure h⟩))) htake)
    | exact wpAny_bind (wpAny_bind (m := Builtin.Tuple.tupleExact _) (wpAny_newObj_type (wpAny_pure (wpAny_pure ⟨_, rfl, wpAny_pure h⟩)) htake))
    | exact wpAny_bind (wpAny_bind (m := Builtin.Tuple.tupleExact _) (wpAny_newObj_type (wpAny_pure ⟨_, rfl, wpAny_pure h⟩) htake))
section
variable {X : Cx}
def tRevT (K : PySem.W.Frag) (te : TE) : TE := fun σ H Q => te σ H fun x H1 => ∃ a xs, x = .ref a ∧ SqT K H1 a xs ∧ ∀ p, H1 p = none → Q (.ref p) (upd H1 p (.tup xs.reverse))
theorem pe_revT {e : Expr} {te : TE} {k : Nat} {p1 p2 p3 pos : Pos} (he : PE X e te) : PE X (.Subscript e (.Slice none none (some (.UnaryOp .USub (.Constant (.int 1) k p1) p2)) p3) pos) (tRevT X.K te) := by
  refine ⟨fun pins s σ H Q I h => ?_⟩
  refine Subscript_ (thn (he.run pins s σ H _ I h) fun v s1 ⟨x, H1, I1, r1, q1⟩ => ?_)
  obtain ⟨a, xs, ex, hx, q⟩ := q1
  subst ex
  cases r1
  have hst : PO X (some (.UnaryOp .USub (.Constant (.int 1) k p1) p2)) (tPart (tUn (rU fun i => .int (-i)) (tC (.int 1)))) := po_some (pe_un un_neg pe_int)
  refine wpAny_Slice (thn (po_none.run pins s1 σ H1 (fun o H2 => o = none ∧ H2 = H1) I1 ⟨rfl, rfl⟩) fun vl s2 ⟨l, H2, I2, pl, el, e2⟩ => ?_)
  subst el e2
  refine thn (po_none.run pins s2 σ H2 (fun o H3 => o = none ∧ H3 = H2) I2 ⟨rfl, rfl⟩) fun vu s3 ⟨u, H3, I3, pu, eu, e3⟩ => ?_
  subst eu e3
  refine thn (hst.run pins s3 σ H3 (fun o H4 => o = some (-1) ∧ H4 = H3) I3 ⟨1, rfl, -1, rfl, rfl, rfl⟩) fun vs s4 ⟨o, H4, I4, ps, eo, e4⟩ => ?_
  subst eo e4
  have I5 : Inv X pins σ H4 { s4 with heap := s4.heap.push { cls := .type "slice", data := .fields #[vl, vu, vs] } } := I4.kept (t' := s4.toks) fun b ob q => Heap.get?_push_of_some _ q
  obtain ⟨its, r, ht, hz⟩ := I5.tuple hx
  have hlen := r.length
  show wpAny (model X.prog X.w) X.A (subscriptTail e (.Slice none none (some (.UnaryOp .USub (.Constant (.int 1) k p1) p2)) p3) (.ref a) (.ref s4.heap.objs.size)) (EP X pins σ Q) X.xe { s4 with heap := s4.heap.push { cls := .type "slice", data := .fields #[vl, vu, vs] } }
  refine tail_any (ops := [.ref a, .ref s4.heap.objs.size]) ht.typeIs (PyProof.Rows.slot_tuple_getitem.lookup) ?_ (by with_unfolding_all rfl)
  refine getItem_revT ht (Heap.IsSliceOf.new _ vl vu vs) pl pu ps ?_ (by rw [List.size_toArray]; omega)
  refine ⟨.ref _, _, I5.laid (t' := s4.toks) (o := .tup xs.reverse) (fun b ob q => Heap.get?_push_of_some _ q) (Nat.le_refl _) ?_, rfl, q _ (I5.hok.fresh (Nat.le_refl _))⟩
  exact ⟨by rw [List.length_reverse]; exact hz, _, r.reverse, IsTup.new _ _⟩
end

/-! ### a list's method within a block -/
theorem mt_countBK {X : Cx} {K : PySem.W.Frag} (hK : X.K = K) : MtR X "list.count" (rCntB K) := by
  subst hK
  exact mt_countB
theorem call_isiK {X : Cx} {K : PySem.W.Frag} (hK : X.K = K) : CallR X (.builtin "isinstance") (rIsi K) := by
  subst hK
  exact call_isi
theorem pe_bmK {X : Cx} {K : PySem.W.Frag} (hK : X.K = K) {o e : Expr} {es : List Expr} {to : TE} {t : TA} {name : Str} {apos cpos : Pos} {T id : String} {r : V → List V → Hp → VK → Prop} (pa : PlainAttrs T) (slot : Slot T name id) (hty : typeOf (.builtin id) = pure (.type "method_descriptor")) (hm : MtR X id r) (ho : PE X o to) (ha : PA X (e :: es) t)
    (hbase : attributeBase o name X.env (eval o X.env) = eval o X.env := by rfl)
    (hfew : ((backTo cpos (starEach (e :: es) X.env)).all (fun x => !x.1) && (backToKw cpos (keywordEach [] X.env)).all (fun x => x.1.isSome)
      && decide ((e :: es).length + ([] : List Keyword).length + (if ([] : List Keyword).isEmpty then 0 else 1) < 30)) = true := by rfl)
    (hline : (apos.endLine == cpos.line) = true := by rfl) (hs : starEach (e :: es) X.env = (false, eval e X.env) :: starEach es X.env := by rfl) (hplain : (backTo cpos (starEach es X.env)).any (·.1) = false := by rfl) :
    PE X (.Call (.Attribute o name apos) (e :: es) [] cpos) (tBM K T r to t) := by
  subst hK
  exact pe_bm pa slot hty hm ho ha hbase hfew hline hs hplain

/-! ### rules within a block, the written part by its own letter -/
theorem ix_tupK {X : Cx} {K : PySem.W.Frag} (hK : X.K = K) : IxR X (rIxT K) := by
  subst hK
  exact ix_tup
theorem ix_listK {X : Cx} {K : PySem.W.Frag} (hK : X.K = K) : IxR X (rIxL K) := by
  subst hK
  exact ix_list
theorem call_len_seqK {X : Cx} {K : PySem.W.Frag} (hK : X.K = K) : CallR X (.builtin "len") (fun xs H Q => ∃ p ys, xs = [.ref p] ∧ (SqL K H p ys ∨ SqT K H p ys) ∧ Q (.int ys.length) H) := by
  subst hK
  exact call_len_seq
theorem pe_fldK {X : Cx} {K : PySem.W.Frag} {e : Expr} {ta : TE} {f : Str} {pos : Pos} (hK : X.K = K) (he : PE X e ta) (hb : attributeBase e f X.env (eval e X.env) = eval e X.env) : PE X (.Attribute e f pos) (tFld K ta f) := by
  subst hK
  exact pe_fld he hb

/-! ### max(xs, default=d) of ints -/
theorem maxOf_ok : ∀ (xs : List Int) (x : Int), (PySem.W.maxOf x xs = x ∨ PySem.W.maxOf x xs ∈ xs) ∧ x ≤ PySem.W.maxOf x xs ∧ ∀ y ∈ xs, y ≤ PySem.W.maxOf x xs
  | [], x => ⟨.inl rfl, Int.le_refl _, fun y z => nomatch z⟩
  | y :: ys, x => by
    have e : PySem.W.maxOf x (y :: ys) = PySem.W.maxOf (if decide (x < y) = true then y else x) ys := rfl
    rw [e]
    by_cases h : x < y
    · rw [decide_eq_true h, if_pos rfl]
      obtain ⟨h1, h2, h3⟩ := maxOf_ok ys y
      refine ⟨.inr (h1.elim (fun z => by rw [z]; exact List.mem_cons_self) fun z => List.mem_cons_of_mem _ z), by omega, fun u mu => ?_⟩
      rcases List.mem_cons.mp mu with rfl | mu
      · exact h2
      · exact h3 u mu
    · rw [decide_eq_false h, if_neg (by decide)]
      obtain ⟨h1, h2, h3⟩ := maxOf_ok ys x
      refine ⟨h1.imp id fun z => List.mem_cons_of_mem _ z, h2, fun u mu => ?_⟩
      rcases List.mem_cons.mp mu with rfl | mu
      · omega
      · exact h3 u mu
def rMaxD (K : PySem.W.Frag) : List V → List V → Hp → VK → Prop := fun vs zs H Q => ∃ (a : Addr) (ns : List Int) (d : Int), vs = [V.ref a] ∧ zs = [.int d] ∧ SqL K H a (ns.map V.int) ∧ (ns = [] → Q (.int d) H) ∧ ∀ m, m ∈ ns → (∀ y, y ∈ ns → y ≤ m) → Q (.int m) H
theorem dp_ints71 {K : PySem.W.Frag} {H : Hp} : ∀ l : List Int, DpAll K H (l.map V.int) (l.map PyData.int)
  | [] => .nil
  | x :: l => .cons (.int x) (dp_ints71 l)
section
variable {X : Cx}
theorem cr_maxD (hc : X.calm = true) (hu : X.A.units + 65 < cLine) : CallRK X (.builtin "max") [Str.ofString "default"] (rMaxD X.K) := by
  intro pins s σ H vs zs us ws Q I r rz h
  obtain ⟨a, ns, d, rfl, rfl, hs, q0, q⟩ := h
  obtain ⟨its, rv, hl, _⟩ := I.list hs
  rw [Vals.ref1 r]
  obtain ⟨w1, rfl, t1, rfl⟩ := vals1 rz
  obtain ⟨as, rd⟩ := Dp.readsAll I (ns.map PyData.int) _ its (dp_ints71 ns) rv
  refine PySem.W.max_list_datum_default (α := Int) (xs := ns) (vs := its.toArray) (d := Value.int d t1) (I.ok.hd hc) hl.isList ⟨as, rd⟩ (by show X.A.units + 1 + 0 < cLine; omega) (fun e h' tk hk => ⟨.int d, H, I.kept hk, ⟨_, rfl⟩, q0 e⟩) fun y ys i v h' tk e hi hh hk => ?_
  obtain ⟨bs, rb⟩ := hh
  have hm : ∃ t, v = Value.int (PySem.W.maxOf y ys) t := by
    cases rb with
    | int => exact ⟨_, rfl⟩
  obtain ⟨t, rfl⟩ := hm
  obtain ⟨h1, h2, h3⟩ := maxOf_ok ys y
  refine ⟨.int _, H, I.kept hk, ⟨_, rfl⟩, q _ ?_ fun u mu => ?_⟩
  · rw [e]
    exact h1.elim (fun z => by rw [z]; exact List.mem_cons_self) fun z => List.mem_cons_of_mem _ z
  · rw [e] at mu
    rcases List.mem_cons.mp mu with rfl | mu
    · exact h2
    · exact h3 u mu
end

/-! ### zip of a list and a tuple -/
def ItzM (K : PySem.W.Frag) (a b : Addr) : It :=
  ⟨fun i H => ∃ (xs ys : List V) (x y : V), SqL K H a xs ∧ SqT K H b ys ∧ xs[i]? = some x ∧ ys[i]? = some y,
    fun i H v H' => ∃ (T : Addr) (x y : V), v = .ref T ∧ H T = none ∧ H' = upd H T (.tup [x, y]) ∧ (∀ xs, SqL K H a xs → xs[i]? = some x) ∧ ∀ ys, SqT K H b ys → ys[i]? = some y,
    fun i H => ∃ xs ys : List V, SqL K H a xs ∧ SqT K H b ys ∧ i ≤ xs.length ∧ i ≤ ys.length ∧ (i = xs.length ∨ i = ys.length)⟩
theorem zip_sepM {z TI TO i1 i2 a b : Addr} (D : ZipApart z TI TO i1 i2 a b) : ZipSep2 z TI TO i1 i2 [i1, a] [i2, b] where
  TIz := D.TIz
  TOz := D.TOz
  TITO := D.TITO
  TIi1 := D.TIi1
  mem1 := List.mem_cons_self
  zf1 := fun h => by
    rcases List.mem_cons.mp h with e | e
    · exact D.i1z e.symm
    · exact D.l1z (List.mem_singleton.mp e).symm
  Tf1 := fun h => by
    rcases List.mem_cons.mp h with e | e
    · exact D.TOi1 e
    · exact D.l1TO (List.mem_singleton.mp e).symm
  TIi2 := D.TIi2
  mem2 := List.mem_cons_self
  zf2 := fun h => by
    rcases List.mem_cons.mp h with e | e
    · exact D.i2z e.symm
    · exact D.l2z (List.mem_singleton.mp e).symm
  Tf2 := fun h => by
    rcases List.mem_cons.mp h with e | e
    · exact D.TOi2 e
    · exact D.l2TO (List.mem_singleton.mp e).symm
  sep1_2 := fun h => by
    rcases List.mem_cons.mp h with e | e
    · exact D.i12 e
    · exact D.l2i1 (List.mem_singleton.mp e).symm
  sep2_1 := fun h => by
    rcases List.mem_cons.mp h with e | e
    · exact D.i12 e.symm
    · exact D.l1i2 (List.mem_singleton.mp e).symm
structure ZipGoM (z TI TO i1 i2 a b : Addr) (i : Nat) (h : Heap) : Prop where
  zp : IsZip h z TI TO .none
  ins : IsPair h TI (.ref i1) (.ref i2)
  out : ∃ p : Value × Value, IsPair h TO p.1 p.2
  lst : h.IsListIter i1 a i
  tup : h.IsTupleIter i2 b i
theorem fiveM {z TI TO i1 i2 c : Addr} {Pr : Addr → Prop} (h : c ∈ [z, TI, TO, i1, i2]) (pz : Pr z) (pI : Pr TI) (pO : Pr TO) (p1 : Pr i1) (p2 : Pr i2) : Pr c := by
  simp only [List.mem_cons, List.not_mem_nil, or_false] at h
  rcases h with rfl | rfl | rfl | rfl | rfl
  all_goals assumption
theorem apart5M {z TI TO i1 i2 c : Addr} (h : c ∉ [z, TI, TO, i1, i2]) : c ≠ z ∧ c ≠ TO ∧ c ≠ i1 ∧ c ≠ i2 := by
  simp only [List.mem_cons, List.not_mem_nil, or_false, not_or] at h
  exact ⟨h.1, h.2.2.1, h.2.2.2.1, h.2.2.2.2⟩
section
variable {z TI TO i1 i2 a b : Addr} {i : Nat} {h h' : Heap}
theorem ZipGoM.obj (g : ZipGoM z TI TO i1 i2 a b i h) {c : Addr} (hc : c ∈ [z, TI, TO, i1, i2]) : ∃ o, h.get? c = some o ∧ ∀ v, o.data ≠ .cell v := by
  obtain ⟨p, hp⟩ := g.out
  obtain ⟨oa, ea, _, da⟩ := g.lst
  obtain ⟨ob, eb, _, db⟩ := g.tup
  refine fiveM (Pr := fun c => ∃ o, h.get? c = some o ∧ ∀ v, o.data ≠ .cell v) hc ⟨_, g.zp, ?_⟩ ⟨_, g.ins, ?_⟩ ⟨_, hp, ?_⟩ ⟨oa, ea, ?_⟩ ⟨ob, eb, ?_⟩
  · intro v e; cases e
  · intro v e; cases e
  · intro v e; cases e
  · intro v e; rw [da] at e; cases e
  · intro v e; rw [db] at e; cases e
theorem ZipGoM.lt (g : ZipGoM z TI TO i1 i2 a b i h) {c : Addr} (hc : c ∈ [z, TI, TO, i1, i2]) : c < h.objs.size := by
  obtain ⟨o, e, _⟩ := g.obj hc
  exact Heap.lt_size e
theorem ZipGoM.on (g : ZipGoM z TI TO i1 i2 a b i h) (k : ∀ c ∈ [z, TI, TO, i1, i2], ∀ o, h.get? c = some o → h'.get? c = some o) : ZipGoM z TI TO i1 i2 a b i h' := by
  obtain ⟨p, hp⟩ := g.out
  exact ⟨k z (by simp) _ g.zp, k TI (by simp) _ g.ins, ⟨p, k TO (by simp) _ hp⟩, g.lst.at (k i1 (by simp)), g.tup.at (k i2 (by simp))⟩
end
theorem turn_zipM {P : Program} {w : World} {K : PySem.W.Frag} {elts : List Expr} {kk : Nat} {tpos : Pos} {a b z TI TO i1 i2 : Addr} (D : ZipApart z TI TO i1 i2 a b) :
    Turn P w K (.Tuple elts kk tpos) (ItzM K a b) [z, TI, TO, i1, i2] z (ZipGoM z TI TO i1 i2 a b) where
  mem := List.mem_cons_self
  obj := fun _ _ g _ hc => g.obj hc
  keep := fun _ _ _ g k => g.on k
  item := by
    intro X eP ew eK calm n pins s σ H E I fps g go
    subst eP ew eK
    obtain ⟨xs, ys, x, y, txs, tys, ex, ey⟩ := go
    obtain ⟨vx, relx, lstAt, _⟩ := I.list txs
    obtain ⟨vs, rel, tupAt, _⟩ := I.tuple tys
    obtain ⟨u1, eu1, ru1⟩ := relx.get ex
    obtain ⟨u, eu, ru⟩ := rel.get ey
    obtain ⟨p, hp⟩ := g.out
    have zlt := g.lt (c := z) (by simp)
    have n1 : n < vx.toArray.size := by simpa using (List.getElem?_eq_some_iff.mp eu1).1
    have n2 : n < vs.toArray.size := by simpa using (List.getElem?_eq_some_iff.mp eu).1
    have calmA : X.A.in1.handled = none := I.ok.hd calm
    refine wpAny_pyNext_zipD2_item (zip_sepM D) (Draws.list calmA i1 a D.l1i1 vx.toArray) (Draws.tuple calmA i2 b D.l2i2 vs.toArray) g.zp g.ins hp ⟨g.lst, lstAt.isList⟩ ⟨g.tup, tupAt⟩ n1 n2 fun v1 v2 h1 tk P1 P2 zp1 out1 lst1 tup1 new1 _ kept1 => ?_
    obtain rfl : u1 = v1 := Option.some.inj (eu1.symm.trans (by simpa using P1))
    obtain rfl : u = v2 := Option.some.inj (eu.symm.trans (by simpa using P2))
    refine ⟨_, rfl, wpAny_letOwnedTupleGo_zip (s := { s with heap := h1, toks := tk }) zp1 fun h2 zp2 sb => ?_⟩
    have up : ∀ d, d ≠ z → h2.get? d = h1.get? d := fun d nd => sb.2 d nd
    have kept2 : ∀ d o, d ∉ [z, TI, TO, i1, i2] → s.heap.get? d = some o → h2.get? d = some o := fun d o nd e => by
      obtain ⟨a1, a2, a3, a4⟩ := apart5M nd
      rw [up d a1]
      exact kept1 d o a1 a2 a3 a4 e
    have new2 : h2.get? s.heap.objs.size = some { cls := .type "tuple", data := .seq #[u1, u] } := (up _ (Nat.ne_of_gt zlt)).trans new1
    have I2 := I.turnedNew (t' := tk) (ch := [z, TI, TO, i1, i2]) (ob := .tup [x, y]) kept2 fps (Nat.le_refl _) ⟨show 2 ≤ sizeLine by decide, [u1, u], .cons ru1 (.cons ru .nil), ⟨_, new2, rfl, _, rfl⟩⟩
    refine ⟨.ref s.heap.objs.size, _, I2, rfl, ⟨_, x, y, rfl, I.hok.fresh (Nat.le_refl _), rfl, fun l tl => (I.list_inj tl txs) ▸ ex, fun l tl => (I.tuple_inj tl tys) ▸ ey⟩, ⟨zp2, ?_, ⟨(_, _), (up _ D.TOz).trans out1⟩, lst1.1.at fun o e => (up _ D.i1z).trans e, tup1.1.at fun o e => (up _ D.i2z).trans e⟩, fun d hd => ?_⟩
    · exact (up _ D.TIz).trans (kept1 TI _ D.TIz D.TITO D.TIi1 D.TIi2 g.ins)
    · rw [upd_ne (Nat.ne_of_lt (g.lt hd))]
      exact (fps d hd).1
  done := by
    intro X eP ew eK calm n pins s σ H E I fps g stop
    subst eP ew eK
    obtain ⟨xs, ys, txs, tys, le1, le2, last⟩ := stop
    obtain ⟨vx, relx, lstAt, _⟩ := I.list txs
    obtain ⟨vs, rel, tupAt, _⟩ := I.tuple tys
    obtain ⟨p, hp⟩ := g.out
    have lx : vx.toArray.size = xs.length := by simpa using relx.length.symm
    have lv : vs.toArray.size = ys.length := by simpa using rel.length.symm
    have calmA : X.A.in1.handled = none := I.ok.hd calm
    refine wpAny_pyNext_zipD2_end (zip_sepM D) (Draws.list calmA i1 a D.l1i1 vx.toArray) (Draws.tuple calmA i2 b D.l2i2 vs.toArray) g.zp g.ins hp ⟨g.lst, lstAt.isList⟩ ⟨g.tup, tupAt⟩ (by omega) (by omega) (by omega) fun h1 tk kept1 => ⟨rfl, ?_⟩
    refine I.turnedL (t' := tk) (ch := [z, TI, TO, i1, i2]) (fun d o nd e => ?_) fps
    obtain ⟨a1, a2, a3, a4⟩ := apart5M nd
    exact kept1 d o a1 a2 a3 a4 e
  self := fun _ _ _ _ _ g q => wpAny_pyIter_zip g.zp q
def iZipM (K : PySem.W.Frag) (ta : TA) : TI := fun σ H R => ta σ H fun vs H1 => ∃ a b xs ys, vs = [.ref a, .ref b] ∧ SqL K H1 a xs ∧ SqT K H1 b ys ∧ R (ItzM K a b) H1
theorem pi_zipM {X : Cx} {ea eb : Expr} {ta : TA} {p pos tpos : Pos} {elts : List Expr} {kk : Nat} (gl : Gl X "zip") (own : X.mg "zip" = none) (args : PA X [ea, eb] ta)
    (star : starEach [ea, eb] X.env = (false, eval ea X.env) :: starEach [eb] X.env := by rfl) (plain : (backTo pos (starEach [eb] X.env)).any (·.1) = false := by rfl) :
    PI X (.Tuple elts kk tpos) (.Call (.Name "zip" p) [ea, eb] [] pos) (iZipM X.K ta) := by
  constructor
  intro pins s σ H R I q
  refine Call_ (ld_blt I gl own PyProof.Rows.boot_zip (PyProof.Rows.callWith_type1 ?_ star plain))
  refine thn (args.run pos pins s σ H _ I q) fun us s1 ans => ?_
  obtain ⟨vs, H1, J, rel, a, b, xs, ys, rfl, txs, tys, go⟩ := ans
  obtain ⟨u1, u2, rfl, r1, r2⟩ := vals2 rel
  obtain rfl : u1 = Value.ref a := r1
  obtain rfl : u2 = Value.ref b := r2
  obtain ⟨itx, _, lstAt, _⟩ := J.list txs
  obtain ⟨its, _, tupAt, _⟩ := J.tuple tys
  have alt : a < s1.heap.objs.size := lstAt.lt
  have blt : b < s1.heap.objs.size := by
    obtain ⟨_, e, _⟩ := id tupAt
    exact Heap.lt_size e
  have fresh : ∀ c, s1.heap.objs.size ≤ c → FpOk X pins H1 c := fun c le => J.fpOk le (J.hok.fresh le)
  refine zip_begins2 (begins_list a itx.toArray) (begins_tuple b its.toArray) lstAt.isList tupAt fun h2 zp ins out o1 o2 _ kept => wpAny_pyIter_zip zp ?_
  refine ⟨_, [s1.heap.objs.size + 4, s1.heap.objs.size + 2, s1.heap.objs.size + 3, s1.heap.objs.size, s1.heap.objs.size + 1], _, _, H1, rfl, J.kept (t' := s1.toks) kept, turn_zipM (PySem.W.ktu_apart s1.heap.objs.size a b alt blt), ?_, fun c hc => ?_, go⟩
  · exact ⟨zp, ins, ⟨(_, _), out⟩, ⟨_, o1, rfl, rfl⟩, ⟨_, o2, rfl, rfl⟩⟩
  · exact fiveM (Pr := FpOk X pins H1) hc (fresh _ (by omega)) (fresh _ (by omega)) (fresh _ (by omega)) (fresh _ (by omega)) (fresh _ (by omega))
theorem walk_zipM {K : PySem.W.Frag} {a b : Addr} {xs ys : List V} {n : Nat} (hn : n = min xs.length ys.length) : Walk (ItzM K a b) n (fun H => SqL K H a xs ∧ SqT K H b ys) (YPair (fun i => xs[i]?) (fun i => ys[i]?)) := by
  subst hn
  refine ⟨fun i _ hi q => ?_, fun _ q => ⟨xs, ys, q.1, q.2, by omega, by omega, by omega⟩, fun i H v H' _ q y => ?_⟩
  · have h1 : i < xs.length := by omega
    have h2 : i < ys.length := by omega
    exact ⟨xs, ys, xs[i], ys[i], q.1, q.2, by simp [h1], by simp [h2]⟩
  · obtain ⟨T, x, z, h1, h2, h3, h4, h5⟩ := y
    exact ⟨T, x, z, h1, h2, h3, h4 xs q.1, h5 ys q.2⟩
theorem sl_tupAK {X : Cx} {K : PySem.W.Frag} (hK : X.K = K) : SlR X (rSlA K) := by
  subst hK
  exact sl_tupA

/-! ### list.remove of an int -/
def rRemI : V → List V → Hp → VK → Prop := fun x xs H Q => ∃ (l : Addr) (e : Int) (ns : List Int), x = V.ref l ∧ xs = [.int e] ∧ H l = some (.lst (ns.map V.int)) ∧ e ∈ ns ∧ Q .non (upd H l (.lst ((ns.erase e).map V.int)))
theorem plain_ints71 : ∀ ns : List Int, PyData.plainAll (ns.map PyData.int) = true
  | [] => rfl
  | n :: r => by
    show (PyData.plain (.int n) && PyData.plainAll (r.map PyData.int)) = true
    rw [plain_ints71 r]
    rfl
theorem erase_at {e : Int} : ∀ {ns : List Int}, e ∈ ns → ∃ j, (ns.map PyData.int).findIdx? (fun z => PyData.eqv z (.int e)) = some j ∧ (ns.map V.int).eraseIdx j = (ns.erase e).map V.int
  | n :: r, h => by
    by_cases c : n = e
    · subst c
      refine ⟨0, ?_, ?_⟩
      · rw [List.map_cons, List.findIdx?_cons, if_pos (by simp [PyData.eqv])]
      · rw [List.erase_cons_head]
        rfl
    · obtain ⟨j, h1, h2⟩ := erase_at ((List.mem_cons.mp h).resolve_left fun z => c z.symm)
      refine ⟨j + 1, ?_, ?_⟩
      · rw [List.map_cons, List.findIdx?_cons, if_neg (by simp [PyData.eqv, c]), h1]
        rfl
      · rw [List.erase_cons_tail (by simpa using c), List.map_cons, List.map_cons, List.eraseIdx_cons_succ, h2]
section
variable {X : Cx}
theorem mt_removeI (hu : X.A.units + 65 < cLine) : MtR X "list.remove" rRemI := by
  intro pins s σ H x xs v us Q I rx rxs hh
  obtain ⟨l, e, ns, rfl, rfl, hl, me, q⟩ := hh
  obtain rfl : v = Value.ref l := rx
  obtain ⟨w, rfl, ry⟩ := vals1 rxs
  obtain ⟨z, its, n, r, le, eo⟩ := I.lstM hl
  obtain ⟨j, hj, ej⟩ := erase_at me
  obtain ⟨as, rds⟩ := Dp.readsAll I (ns.map PyData.int) _ its (dp_ints71 ns) r
  obtain ⟨bs, rdy⟩ := Dp.reads I (.int e) (.int e) w (.int e) ry
  refine SeqAt.remove_list_data (xs := ns.map PyData.int) (d := .int e) (j := j) ⟨_, eo, rfl, _, rfl⟩ rds rdy (plain_ints71 ns) rfl (by have := Nat.min_le_right (PyData.depthAll (ns.map PyData.int)) (PyData.int e).depth; have h0 : (PyData.int e).depth = 0 := rfl; omega) hj (by rw [List.size_toArray, ← le]; exact z) ?_
  rw [← ej] at q
  refine ⟨.non, _, I.lset (its' := its.eraseIdx j) hl eo ?_ (r.eraseIdx j) ?_, rfl, q⟩
  · rw [List.eraseIdxIfInBounds_toArray]
  · exact Nat.le_trans (List.length_eraseIdx_le _ _) z
end

/-! ### list.extend(tuple) -/
theorem list_extend_tup (l : Addr) (items : Array Value) (n : Nat) (b : Addr) (items2 : Array Value) (hs0 : ¬(!items.isEmpty && Builtin.List.listTooLong (items.size + items2.size)) = true) (hs1 : items.size ≤ sizeLine) (hs2 : items.size + items2.size ≤ sizeLine + 1) :
    Meets (Builtin.«list.extend» ⟨[.ref l, .ref b], []⟩) (fun _ R s => s.heap.get? l = some { cls := .type "list", dict := none, data := .seq items n, slots := #[] } ∧ IsTup s.heap b items2 ∧ R (.ok (.ret Value.none)) { s with heap := s.heap.update l (Obj.mapSeq fun x => x ++ items2), toks := s.toks }) :=
  .of_wp fun prog w A R s h => by
    obtain ⟨hp, g, d, tk, os⟩ := s
    obtain ⟨hl, ⟨⟨c2, d2, dt2, sl2⟩, hb, hc, n2, hd⟩, h⟩ := h
    dsimp only at hc hd
    subst hc hd
    have f1 := PySem.AutoSeq1.idx_int
    have f2 := PySem.AutoSeq1.sub_tuple_tuple
    have f3 := PySem.AutoSeq1.sub_list_list
    have f4 := PySem.AutoSeq1.sub_tuple_list
    have f5 := PySem.AutoSeq1.sub_list_tuple
    have hz' : (items ++ items2).size ≤ sizeLine + 1 := by rw [Array.size_append]; exact hs2
    wp_walk using (PySem.wpAny_updateSeq hl rfl (hz := hs1) (_hz' := hz')), PySem.AutoSeq1.wpAny_loadPart' hl, PySem.AutoSeq1.wpAny_loadPart' hb
    exact ⟨_, rfl, h⟩
def rExtendT (K : PySem.W.Frag) : V → List V → Hp → VK → Prop := fun x vs H Q => ∃ l b xs zs, x = .ref l ∧ vs = [.ref b] ∧ H l = some (.lst xs) ∧ SqT K H b zs ∧ xs.length + zs.length ≤ sizeLine ∧ Q .non (upd H l (.lst (xs ++ zs)))
theorem mt_extendT {X : Cx} : MtM X "list.extend" (rExtendT X.K) := by
  intro pins s σ H x vs v us Q I rx rv h
  obtain ⟨l, b, xs, zs, rfl, rfl, hH, hB, hz, q⟩ := h
  cases rx
  obtain ⟨u, rfl, ru⟩ := rv.one
  cases ru
  obtain ⟨z, its, n, r, hl, e⟩ := I.lstM hH
  obtain ⟨its2, r2, t2, z2⟩ := I.tuple hB
  have hl2 := r2.length
  have hsz : its.toArray.size + its2.toArray.size ≤ sizeLine := by rw [List.size_toArray, List.size_toArray]; omega
  have hlong : ¬ (!its.toArray.isEmpty && Builtin.List.listTooLong (its.toArray.size + its2.toArray.size)) = true := by
    rw [notLongL hsz, Bool.and_false]
    exact Bool.false_ne_true
  refine call_meets PySem.F.slot_list_extend ⟨_, e, rfl⟩ PySem.F.entry_list_extend (PySem.F.args_list_extend_2 _ _)
    (list_extend_tup l its.toArray n b its2.toArray hlong (by rw [List.size_toArray]; omega) (by omega)) ⟨e, t2, ?_⟩
  refine ⟨.non, _, I.lset (its' := its ++ its2) hH e (by simp) (r.append r2) ?_, rfl, q⟩
  rw [List.length_append]
  omega
theorem op_catTK {X : Cx} {K : PySem.W.Frag} (hK : X.K = K) : OpR X (binaryOp .Add) (rCatT K) := by
  subst hK
  exact op_catT
theorem call_tuple_ofK {X : Cx} {K : PySem.W.Frag} (hK : X.K = K) : CallR X (.type "tuple") (fun xs H Q => ∃ p ys, xs = [.ref p] ∧ ((SqL K H p ys ∧ ∀ l, H l = none → Q (.ref l) (upd H l (.tup ys))) ∨ (SqT K H p ys ∧ Q (.ref p) H))) := by
  subst hK
  exact call_tuple_of
/-! ### list + list, of lists that may be given -/
theorem list_add_loose (l : Addr) (items : Array Value) (b : Addr) (items2 : Array Value) (hc0 : items.size + items2.size ≤ sizeLine) :
    Meets (Builtin.«list.__add__» ⟨[.ref l, .ref b], []⟩) (fun _ R s => PlainL s.heap l items ∧ PlainL s.heap b items2 ∧ R (.ok (.ret (Value.ref s.heap.objs.size))) { s with heap := s.heap.push { cls := Value.type "list", data := Data.seq (items ++ items2) }, toks := s.toks }) :=
  .of_wp fun prog w A R s h => by
    obtain ⟨hp, g, d, tk, os⟩ := s
    obtain ⟨⟨⟨c1, d1, dt1, sl1⟩, n1, hl, hc1, hd1, hdt1⟩, ⟨⟨c2, d2, dt2, sl2⟩, n2, hb, hc2, hd2, hdt2⟩, h⟩ := h
    dsimp only at hc1 hd1 hdt1 hc2 hd2 hdt2
    subst hc1 hd1 hdt1 hc2 hd2 hdt2
    have f1 := PySem.AutoSeq1.idx_int
    have f2 := PySem.AutoSeq1.sub_tuple_tuple
    have f3 := PySem.AutoSeq1.sub_list_list
    have f4 := PySem.AutoSeq1.sub_tuple_list
    have f5 := PySem.AutoSeq1.sub_list_tuple
    wp_walk using PySem.AutoSeq1.wpAny_loadPart' hl, PySem.AutoSeq1.wpAny_loadPart' hb
    exact ⟨_, rfl, h⟩
def rCatL (K : PySem.W.Frag) : R2 := fun x y H Q => ∃ l b xs zs, x = .ref l ∧ y = .ref b ∧ SqL K H l xs ∧ SqL K H b zs ∧ xs.length + zs.length ≤ sizeLine ∧ ∀ p, H p = none → Q (.ref p) (upd H p (.lst (xs ++ zs)))
theorem op_catL {X : Cx} : OpR X (binaryOp .Add) (rCatL X.K) := by
  intro pins s σ H x y v u Q I rx ry h
  obtain ⟨l, b, xs, zs, rfl, rfl, hH, hB, hz, q⟩ := h
  cases rx
  cases ry
  obtain ⟨its, r, pl, z⟩ := I.list hH
  obtain ⟨its2, r2, pl2, z2⟩ := I.list hB
  have hl := r.length
  have hl2 := r2.length
  obtain ⟨o1, m1, e1, t1, _⟩ := id pl
  obtain ⟨o2, m2, e2, t2, _⟩ := id pl2
  refine concat_meets ⟨_, e1, t1⟩ ⟨_, e2, t2⟩ noFill_list_add seq_list_add PySem.F.slot_list_add PySem.F.entry_list_add (PySem.F.args_list_add_2 _ _) (list_add_loose l its.toArray b its2.toArray (by rw [List.size_toArray, List.size_toArray]; omega)) ⟨pl, pl2, ?_⟩
  have ea : its.toArray ++ its2.toArray = (its ++ its2).toArray := by simp
  rw [ea]
  exact ⟨.ref _, _, I.lnew (t' := s.toks) (r.append r2) (by rw [List.length_append]; omega), rfl, q _ I.fresh⟩

/-! ### != of anything and () -/
theorem dict_ne_declines_tuple (l b : Addr) (es : Array DictEntry) (items2 : Array Value) (n n2 : Nat) (dd dd2 : Option Addr) (sl sl2 : Array (Option Value)) :
    PySem.Meets (Builtin.«dict.__ne__» ⟨[.ref l, .ref b], []⟩) (fun _ R s => s.heap.get? l = some { cls := .type "dict", dict := dd, data := .dict es n, slots := sl } ∧ s.heap.get? b = some { cls := .type "tuple", dict := dd2, data := .seq items2 n2, slots := sl2 } ∧ R (.ok (.ret .notImplemented)) s) :=
  .of_wp fun prog w A R s h => by obtain ⟨hp, g, d, tk, os⟩ := s; obtain ⟨hl, hb, h⟩ := h; have f1 := F.sub_tuple_dict; wp_walk using PySem.AutoSeq1.wpAny_loadPart' hl, PySem.AutoSeq1.wpAny_loadPart' hb; exact ⟨_, rfl, h⟩
theorem tuple_ne_declines_dict (l b : Addr) (items : Array Value) (es2 : Array DictEntry) (n n2 : Nat) (dd dd2 : Option Addr) (sl sl2 : Array (Option Value)) :
    PySem.Meets (Builtin.«tuple.__ne__» ⟨[.ref l, .ref b], []⟩) (fun _ R s => s.heap.get? l = some { cls := .type "tuple", dict := dd, data := .seq items n, slots := sl } ∧ s.heap.get? b = some { cls := .type "dict", dict := dd2, data := .dict es2 n2, slots := sl2 } ∧ R (.ok (.ret .notImplemented)) s) :=
  .of_wp fun prog w A R s h => by obtain ⟨hp, g, d, tk, os⟩ := s; obtain ⟨hl, hb, h⟩ := h; have f1 := F.sub_dict_tuple; wp_walk using PySem.AutoSeq1.wpAny_loadPart' hl, PySem.AutoSeq1.wpAny_loadPart' hb; exact ⟨_, rfl, h⟩
theorem rcne_dict_tuple {A : Around} {s : Shared} {l b : Addr} {o : Obj} {es : Array DictEntry} {n : Nat} {items2 : Array Value} (ho : s.heap.get? l = some o) (hc : o.cls = .type "dict") (hd : o.data = .dict es n) (hb : s.heap.IsTuple b items2) (hu : A.units < cLine) : PySem.SeqAt.RcNeAt A s (.ref l) (.ref b) true := fun prog w E Q h => by
  obtain ⟨cls, dd, data, sl⟩ := o
  obtain ⟨⟨cls2, dd2, data2, sl2⟩, ho2, hc2, n2, hd2⟩ := id hb
  simp only at hc hd hc2 hd2
  subst hc hd hc2 hd2
  have hne : l ≠ b := by
    rintro rfl
    have z := Option.some.inj (ho.symm.trans ho2)
    injection z with z1
    injection z1 with z2
    exact absurd z2 (by decide)
  exact (PySem.SeqAt.rc_ne_decline_or (k := false) ⟨_, ho, rfl⟩ ⟨_, ho2, rfl⟩ (by decide) F.sub_tuple_dict F.slot_dict_ne F.slot_tuple_ne_refl
    (fun _ hq => call_meets F.slot_dict_ne ⟨_, ho, rfl⟩ F.entry_dict_ne (F.args_dict_ne_2 _ _) (dict_ne_declines_tuple l b es items2 n n2 dd dd2 sl sl2) ⟨ho, ho2, hq⟩)
    (fun _ hq => call_meets F.slot_tuple_ne_refl ⟨_, ho2, rfl⟩ F.entry_tuple_ne (F.args_tuple_ne_2 _ _) (tuple_ne_declines_dict b l items2 es n2 n dd2 dd sl2 sl) ⟨ho2, ho, hq⟩)
    (fun _ hq => PySem.wpAny_isSame_ref_other hne ho ho2 (by simp) hq) (.inr hu) h)
def rNeE : R2 := fun x y H Q => ∃ b, y = .ref b ∧ H b = some (.tup []) ∧ ((∃ a xs, x = .ref a ∧ H a = some (.tup xs) ∧ Q (.bl (!xs.isEmpty)) H) ∨ ((x = .non ∨ (∃ c, x = .bl c) ∨ (∃ i, x = .int i) ∨ (∃ z, x = .str z) ∨ (∃ a xs, x = .ref a ∧ H a = some (.lst xs)) ∨ ∃ a kvs, x = .ref a ∧ H a = some (.dK kvs)) ∧ Q (.bl true) H))
theorem op_neE {X : Cx} (hu : X.A.units < cLine) : OpR X (compareOp .NotEq) rNeE := by
  intro pins s σ H x y v u Q I rx ry h
  obtain ⟨b, rfl, hb, h⟩ := h
  cases ry
  obtain ⟨its2, r2, p2, _⟩ := I.tuple (SqT.of (K := X.K) hb)
  rcases h with ⟨a, xs, rfl, ha, q⟩ | ⟨hx, q⟩
  · cases rx
    obtain ⟨its, r1, p1, _⟩ := I.tuple (SqT.of (K := X.K) ha)
    have z2 : its2.toArray.size = 0 := by
      have := r2.length
      simpa using this.symm
    have z1 : its.toArray.size = xs.length := by
      have := r1.length
      simpa using this.symm
    have key := SeqAt.RcNeAt.tuples (A := X.A) (e := fun _ => true) p1 p2 hu (fun j h1 h2 => absurd h2 (by omega))
    refine key X.prog X.w _ _ ⟨.bl _, H, I, ?_, q⟩
    show Value.bool _ = Value.bool _
    rw [z2, z1]
    cases xs <;> simp
  · rcases hx with rfl | ⟨c, rfl⟩ | ⟨i, rfl⟩ | ⟨z, rfl⟩ | ⟨a, xs, rfl, ha⟩ | ⟨a, kvs, rfl, ha⟩
    · cases rx
      exact SeqAt.RcNeAt.none_tuple p2 hu X.prog X.w _ _ ⟨.bl true, H, I, rfl, q⟩
    · cases rx
      exact SeqAt.RcNeAt.bool_tuple c p2 hu X.prog X.w _ _ ⟨.bl true, H, I, rfl, q⟩
    · obtain ⟨t, rfl⟩ := rx
      exact SeqAt.RcNeAt.int_tuple i t p2 hu X.prog X.w _ _ ⟨.bl true, H, I, rfl, q⟩
    · obtain ⟨t, rfl⟩ := rx
      exact SeqAt.RcNeAt.str_tuple z t p2 hu X.prog X.w _ _ ⟨.bl true, H, I, rfl, q⟩
    · cases rx
      obtain ⟨its, r1, p1, _⟩ := I.list (SqL.of (K := X.K) ha)
      obtain ⟨o, n, e1, e2, e3, e4⟩ := p1
      have p1 : s.heap.IsList a its.toArray := ⟨o, e1, by assumption, n, e4⟩
      exact SeqAt.RcNeAt.list_tuple p1 p2 hu X.prog X.w _ _ ⟨.bl true, H, I, rfl, q⟩
    · cases rx
      obtain ⟨_, _, vs, _, o, es, ep, h1, h2, h3, _⟩ := dk_of I.hok ha
      exact rcne_dict_tuple h1 h2.1 h3 p2 hu X.prog X.w _ _ ⟨.bl true, H, I, rfl, q⟩

/-! ### (x,) * k -/
theorem tuple_mul1 (l : Addr) (items : Array Value) (n : Nat) (dd : Option Addr) (sl : Array (Option Value)) (u : Tok) :
    Meets (Builtin.«tuple.__mul__» ⟨[.ref l, .int 1 u], []⟩) (fun _ R s => s.heap.get? l = some { cls := .type "tuple", dict := dd, data := .seq items n, slots := sl } ∧ R (.ok (.ret (Value.ref l))) s) :=
  .of_wp fun prog w A R s h => by
    obtain ⟨hp, g, d, tk, os⟩ := s
    obtain ⟨hl, h⟩ := h
    have f1 := AutoSeq1.idx_int
    have c0 : (decide ((1 : Int) < -(2 ^ 63)) || decide ((1 : Int) ≥ 2 ^ 63)) = false := by decide
    have c1 : (items.isEmpty || (1 : Int) == 1) = true := by simp
    wp_walk using wpAny_loadPart' hl
    repeat (first
      | (refine wpAny_ite_false (decide_eq_false (by rw [c0]; exact Bool.false_ne_true)) ?_; wp_walk using wpAny_loadPart' hl)
      | (refine wpAny_ite_true (decide_eq_true c1) ?_; wp_walk using wpAny_loadPart' hl))
    exact ⟨_, rfl, h⟩
def rRep1 (K : PySem.W.Frag) : R2 := fun x y H Q => ∃ l k v, x = .ref l ∧ y = .int k ∧ SqT K H l [v] ∧ 1 ≤ k ∧ k ≤ 1000 ∧ (k = 1 → Q (.ref l) H) ∧ (k ≠ 1 → ∀ p, H p = none → Q (.ref p) (upd H p (.tup (List.replicate k.toNat v))))
section
variable {X : Cx}
theorem op_rep1 : OpR X (binaryOp .Mult) (rRep1 X.K) := by
  intro pins s σ H x y v u Q I rx ry h
  obtain ⟨l, k, z, rfl, rfl, hT, h1, h2, q0, q1⟩ := h
  by_cases e : k = 1
  · subst e
    cases rx
    obtain ⟨t, rfl⟩ := ry
    obtain ⟨its, r, ⟨⟨cls, dd, data, sl⟩, ho, hc, n, hd⟩, hs⟩ := I.tuple hT
    simp only at hc hd
    subst hc hd
    refine wpAny_binaryOp_repeat_ref (T := "tuple") (U := "int") (by decide) ⟨_, ho, rfl⟩ (fun s' => typeIs_int s' 1 t) noFill_tuple_mul F.fills_int_mul F.slot_int_rmul repeat_tuple F.slot_int_index.lookup
      (call_meets F.slot_int_rmul (typeIs_int s 1 t) F.entry_int_rmul (F.args_int_rmul_2 _ _) (int_rmul_tuple 1 t l _ n dd sl)
        ⟨ho, rfl, ⟨_, ho, rfl⟩, call_meets F.slot_tuple_mul ⟨_, ho, rfl⟩ F.entry_tuple_mul (F.args_tuple_mul_2 _ _) (tuple_mul1 l _ n dd sl t) ⟨ho, ?_⟩⟩)
    exact ⟨.ref l, H, I, rfl, q0 rfl⟩
  · refine op_repT pins s σ H _ _ v u Q I rx ry ⟨l, k, [z], rfl, rfl, hT, by simp, by omega, h2, (by show 1 ≤ 1000; decide), fun p np => ?_⟩
    have e2 : (List.replicate k.toNat [z]).flatten = List.replicate k.toNat z := by
      generalize k.toNat = m
      induction m with
      | zero => rfl
      | succ m ih =>
        rw [List.replicate_succ, List.flatten_cons, ih, List.replicate_succ]
        rfl
    rw [e2]
    exact q1 e p np
end
theorem op_catAK {X : Cx} {K : PySem.W.Frag} (hK : X.K = K) : OpR X (binaryOp .Add) (rCatA K) := by
  subst hK
  exact op_catA

end My
namespace My
open PySem L2
inductive Sl | pt | oth | num | plc | knd
  deriving DecidableEq
def fit : Sl → V → Prop
  | .pt, v => ∃ i, v = .int i
  | .oth, v => v = .non ∨ ∃ i, v = .int i
  | .num, v => ∃ i, v = .int i
  | .plc, v => ∃ i : Int, v = .int i ∧ 0 ≤ i
  | .knd, v => ∃ k, v = .str k ∧ k ∈ kinds
inductive FitAll : List Sl → List V → Prop
  | nil : FitAll [] []
  | cons {s : Sl} {v : V} {ss : List Sl} {vs : List V} : fit s v → FitAll ss vs → FitAll (s :: ss) (v :: vs)
def forms : List (Str × List Sl) := [("new", [.num, .knd]), ("put", [.pt, .num]), ("paint", [.pt, .knd]), ("tie", [.pt, .pt]), ("cut", [.pt, .pt]), ("add", [.pt, .pt, .num]), ("spread", [.pt, .oth, .num]),
  ("joined", [.pt, .pt]), ("way", [.pt, .pt]), ("total", [.pt, .pt]), ("many", [.pt, .pt]), ("most", [.pt, .pt]), ("first", [.pt, .pt, .knd]), ("reach", [.pt, .pt, .num]), ("kth", [.pt, .pt, .plc]), ("meet", [.pt, .pt, .pt]), ("sum", [.pt, .oth]), ("size", [.pt, .oth]), ("top", [.pt, .oth]), ("least", [.pt, .oth, .knd])]
def evs : List Str := ["new", "put", "paint", "tie", "cut", "add", "spread", "joined", "way", "total", "many", "most", "first", "reach", "kth", "meet", "sum", "size", "top", "least"]

/-! ### a written dict from texts to tuples of texts -/
def formB (K : PySem.W.Frag) : List DictEntry → List (Str × List Str) → Bool
  | [], [] => true
  | e :: es, f :: fs => e.key.isStr f.1 && ((match e.val with | .ref a => tupB K a f.2 | _ => false) && formB K es fs)
  | _, _ => false
theorem isStr_key {v : Value} {x : Str} (h : v.isStr x = true) : ∃ t, v = .str x t := by
  cases v with
  | str y t =>
    have e : (y == x) = true := h
    exact ⟨t, by rw [beq_iff_eq.mp e]⟩
  | _ => exact nomatch h
theorem formB_ns {K : PySem.W.Frag} : ∀ {es : List DictEntry} {fs : List (Str × List Str)}, formB K es fs = true → es.any (·.refKey) = false ∧ ∀ z : Str, match fs.lookup z with
    | none => es.find? (·.key.isStr z) = none
    | some ws => ∃ e a, es.find? (·.key.isStr z) = some e ∧ e.val = .ref a ∧ tupB K a ws = true
  | [], [], _ => ⟨rfl, fun _ => rfl⟩
  | [], _ :: _, h => nomatch h
  | _ :: _, [], h => nomatch h
  | e :: es, f :: fs, h => by
    unfold formB at h
    rw [Bool.and_eq_true, Bool.and_eq_true] at h
    obtain ⟨h1, h2, h3⟩ := h
    obtain ⟨r1, r2⟩ := formB_ns h3
    obtain ⟨t, ek⟩ := isStr_key h1
    refine ⟨?_, fun z => ?_⟩
    · rw [List.any_cons, r1, Bool.or_false]
      obtain ⟨hs, k, v⟩ := e
      dsimp only at ek
      subst ek
      rfl
    · have q := r2 z
      rw [List.lookup_cons, List.find?_cons]
      by_cases ez : z = f.1
      · subst ez
        rw [beq_self_eq_true]
        dsimp only
        rw [h1]
        dsimp only
        cases ev : e.val with
        | ref a =>
          rw [ev] at h2
          exact ⟨e, a, rfl, ev, h2⟩
        | _ =>
          rw [ev] at h2
          exact nomatch h2
      · have e1 : (z == f.1) = false := beq_eq_false_iff_ne.mpr ez
        have e2 : e.key.isStr z = false := by
          rw [ek]
          show (f.1 == z) = false
          exact beq_eq_false_iff_ne.mpr fun y => ez y.symm
        rw [e1, e2]
        dsimp only
        exact q
theorem formB_get {K : PySem.W.Frag} {d : Addr} {c : Value} {od : Option Addr} {es : Array DictEntry} {n : Nat} {sl : Array (Option Value)} {fs : List (Str × List Str)} (hl : K.lookup d = some ⟨c, od, .dict es n, sl⟩) (h : formB K es.toList fs = true) (z : Str) :
    match fs.lookup z with
    | none => PySem.W.nsIn K d z = some none
    | some ws => ∃ a, PySem.W.nsIn K d z = some (some (.ref a)) ∧ tupB K a ws = true := by
  obtain ⟨r1, r2⟩ := formB_ns h
  have q := r2 z
  unfold PySem.W.nsIn
  rw [hl]
  cases e : fs.lookup z with
  | none =>
    rw [e] at q
    dsimp only at q ⊢
    rw [q]
    dsimp only
    rw [r1]
    rfl
  | some ws =>
    rw [e] at q
    obtain ⟨en, a, h1, h2, h3⟩ := q
    refine ⟨a, ?_, h3⟩
    dsimp only
    rw [h1]
    dsimp only
    rw [h2]
/-! ### anything -/
inductive AnyV (H : Hp) : V → Prop
  | non : AnyV H .non
  | bl (b : Bool) : AnyV H (.bl b)
  | int (i : Int) : AnyV H (.int i)
  | str (x : Str) : AnyV H (.str x)
  | tup {a : Addr} {xs : List V} (h : H a = some (.tup xs)) : AnyV H (.ref a)
  | lst {a : Addr} {xs : List V} (h : H a = some (.lst xs)) : AnyV H (.ref a)
  | dK {a : Addr} {kvs : List (Key × V)} (h : H a = some (.dK kvs)) : AnyV H (.ref a)
/-- all but tables of code objects stays -/
def Kp (H H' : Hp) : Prop := ∀ a o, H a = some o → (∀ ps, o ≠ .tbl ps) → H' a = some o
theorem Kp.refl (H : Hp) : Kp H H := fun _ _ e _ => e
theorem Kp.trans {H H1 H2 : Hp} (x : Kp H H1) (y : Kp H1 H2) : Kp H H2 := fun a o e n => y a o (x a o e n) n
theorem Kp.of_same {H H' : Hp} (s : Same H H') : Kp H H' := fun a o e _ => s a o e
theorem Kp.of_tab {H H' : Hp} {P : Addr} (g : GxR.TabG H P) (t : GxR.Tabbed P H H') : Kp H H' := fun a o e n => by
  by_cases h : a = P
  · subst h
    obtain ⟨ps, hp, _⟩ := g
    rw [hp] at e
    exact absurd (Option.some.inj e).symm (n ps)
  · rw [t.2 a h]
    exact e
theorem AnyV.kp {H H' : Hp} (k : Kp H H') {v : V} (h : AnyV H v) : AnyV H' v := by
  cases h with
  | non => exact .non
  | bl b => exact .bl b
  | int i => exact .int i
  | str x => exact .str x
  | tup h => exact .tup (k _ _ h (by intro ps z; cases z))
  | lst h => exact .lst (k _ _ h (by intro ps z; cases z))
  | dK h => exact .dK (k _ _ h (by intro ps z; cases z))
/-- isinstance with int, bool, str, tuple -/
def isIntV : V → Bool
  | .bl _ => true
  | .int _ => true
  | _ => false
def isBoolV : V → Bool
  | .bl _ => true
  | _ => false
def isStrV : V → Bool
  | .str _ => true
  | _ => false
theorem int_ok {K : PySem.W.Frag} {H : Hp} {v : V} (h : AnyV H v) : ∃ t, TyX K H v t ∧ PySem.W.kitOne K t (.type "int") = some (isIntV v) := by
  cases h with
  | non => exact ⟨_, .base .non, kit_ty (show kitB _ _ = some false by decide +kernel)⟩
  | bl b => exact ⟨_, .base (.bl b), kit_ty (show kitB _ _ = some true by decide +kernel)⟩
  | int i => exact ⟨_, .base (.int i), kit_ty (show kitB _ _ = some true by decide +kernel)⟩
  | str x => exact ⟨_, .base (.str x), kit_ty (show kitB _ _ = some false by decide +kernel)⟩
  | tup h => exact ⟨_, .base (.tup h), kit_ty (show kitB _ _ = some false by decide +kernel)⟩
  | lst h => exact ⟨_, .base (.lst h), kit_ty (show kitB _ _ = some false by decide +kernel)⟩
  | dK h => exact ⟨_, .base (.dK h), kit_ty (show kitB _ _ = some false by decide +kernel)⟩
theorem bool_ok {K : PySem.W.Frag} {H : Hp} {v : V} (h : AnyV H v) : ∃ t, TyX K H v t ∧ PySem.W.kitOne K t (.type "bool") = some (isBoolV v) := by
  cases h with
  | non => exact ⟨_, .base .non, kit_ty (show kitB _ _ = some false by decide +kernel)⟩
  | bl b => exact ⟨_, .base (.bl b), kit_ty (show kitB _ _ = some true by decide +kernel)⟩
  | int i => exact ⟨_, .base (.int i), kit_ty (show kitB _ _ = some false by decide +kernel)⟩
  | str x => exact ⟨_, .base (.str x), kit_ty (show kitB _ _ = some false by decide +kernel)⟩
  | tup h => exact ⟨_, .base (.tup h), kit_ty (show kitB _ _ = some false by decide +kernel)⟩
  | lst h => exact ⟨_, .base (.lst h), kit_ty (show kitB _ _ = some false by decide +kernel)⟩
  | dK h => exact ⟨_, .base (.dK h), kit_ty (show kitB _ _ = some false by decide +kernel)⟩
theorem str_ok {K : PySem.W.Frag} {H : Hp} {v : V} (h : AnyV H v) : ∃ t, TyX K H v t ∧ PySem.W.kitOne K t (.type "str") = some (isStrV v) := by
  cases h with
  | non => exact ⟨_, .base .non, kit_ty (show kitB _ _ = some false by decide +kernel)⟩
  | bl b => exact ⟨_, .base (.bl b), kit_ty (show kitB _ _ = some false by decide +kernel)⟩
  | int i => exact ⟨_, .base (.int i), kit_ty (show kitB _ _ = some false by decide +kernel)⟩
  | str x => exact ⟨_, .base (.str x), kit_ty (show kitB _ _ = some true by decide +kernel)⟩
  | tup h => exact ⟨_, .base (.tup h), kit_ty (show kitB _ _ = some false by decide +kernel)⟩
  | lst h => exact ⟨_, .base (.lst h), kit_ty (show kitB _ _ = some false by decide +kernel)⟩
  | dK h => exact ⟨_, .base (.dK h), kit_ty (show kitB _ _ = some false by decide +kernel)⟩
/-! ### rows by their form -/
def wholeB : V → Bool
  | .int _ => true
  | _ => false
def kindB : V → Bool
  | .str k => decide (k ∈ kinds)
  | _ => false
def fitB : Sl → V → Bool
  | .knd, v => kindB v
  | .oth, v => decide (v = .non) || wholeB v
  | .plc, .int i => decide (0 ≤ i)
  | .plc, _ => false
  | _, v => wholeB v
def slT : Sl → Str
  | .pt => "point"
  | .oth => "other"
  | .num => "number"
  | .plc => "place"
  | .knd => "kind"
def fitsB : List Sl → List V → Bool
  | [], [] => true
  | s :: ss, v :: vs => fitB s v && fitsB ss vs
  | _, _ => false
theorem fits_len : ∀ {ss : List Sl} {vs : List V}, vs.length ≠ ss.length → fitsB ss vs = false
  | [], [], h => absurd rfl h
  | [], _ :: _, _ => rfl
  | _ :: _, [], _ => rfl
  | s :: ss, v :: vs, h => by
    show (fitB s v && fitsB ss vs) = false
    rw [fits_len (ss := ss) (vs := vs) fun z => h (by rw [List.length_cons, List.length_cons, z]), Bool.and_false]
theorem drop_at {α : Type} {xs : List α} {i : Nat} {x : α} (h : xs[i]? = some x) : xs.drop i = x :: xs.drop (i + 1) := by
  obtain ⟨hl, e⟩ := List.getElem?_eq_some_iff.mp h
  rw [List.drop_eq_getElem_cons hl, e]
def rowB : List V → Bool
  | .str w :: ps => (match forms.lookup w with | some sl => fitsB sl ps | none => false)
  | _ => false
def formsT : List (Str × List Str) := forms.map fun f => (f.1, f.2.map slT)
theorem formsT_lookup (z : Str) : formsT.lookup z = (forms.lookup z).map fun sl => sl.map slT := by
  have g : ∀ l : List (Str × List Sl), (l.map fun f => (f.1, f.2.map slT)).lookup z = (l.lookup z).map fun sl => sl.map slT := by
    intro l
    induction l with
    | nil => rfl
    | cons f r ih =>
      obtain ⟨a, b⟩ := f
      rw [List.map_cons, List.lookup_cons, List.lookup_cons]
      cases e : z == a with
      | true => rfl
      | false => exact ih
  exact g forms
/-- a def by its body, its code object known -/
theorem okC {P : Program} {w : World} {K : PySem.W.Frag} {mg : Str → Option Value} {base : Heap} {x qual : Str} {st : Stmt} {f c : Addr} {fd : FuncData} {N ps : List Str} {k : Nat} {sp : Sp} (F : Fun K x qual st f fd) (hcd : fd.code = .ref c) (S : FnScope N ps (defScope st))
    (len : ∀ vs H Q E, sp vs H Q E → vs.length = ps.length)
    (body : ∀ (A : Around) (outer : List Env) (s : Shared) (H : Hp) (vs : List V) (Q : VK) (E : XK), Room k (A.deeper (PyProof.Rows.envOfC qual (defScope st) s.heap.objs.size f (.ref c))) → sp vs H Q E →
      ∃ t, PSs (cxOf CX0 P w K mg base N qual (defScope st) f (.ref c) A outer s H E).nox (defBody st) t ∧ t { nx := fun _ H' => Q .non H', rt := Q } (start N vs) H) : FnOk P w K mg base CX0 (k + 1) f fd ps sp := by
  obtain ⟨oc, od, kV, doc, pm, an, cdv, ct, osl, rfl, lk, hc⟩ := F.ex
  have e : cdv = .ref c := hcd
  subst e
  refine fn_of lk hc S len fun A outer s H vs Q E hr hsp => ?_
  obtain ⟨t, h, q⟩ := body A outer s H vs Q E hr hsp
  exact ⟨t, h.nox, q⟩

end My
namespace My
open PySem L2

/-! ### the text by places -/
def topS (i : Nat) : Stmt := PySem.Challenge.pw_tiedcut_k72_papers_of_anything.main.body.getD i (.Pass ⟨0, 0, 0, 0⟩)
abbrev s_iswhole : Stmt := topS 1
abbrev s_arewholes : Stmt := topS 2
abbrev s_isrising : Stmt := topS 3
abbrev s_hasring : Stmt := topS 5
abbrev s_topof : Stmt := topS 6
abbrev s_asforest : Stmt := topS 8
abbrev s_areoffers : Stmt := topS 9
abbrev s_leadson : Stmt := topS 10
abbrev s_showslightest : Stmt := topS 12
abbrev s_arekept : Stmt := topS 13
abbrev s_islightpaper : Stmt := topS 14
abbrev s_islightentry : Stmt := topS 15
abbrev s_isworded : Stmt := topS 17
abbrev s_setsapart : Stmt := topS 18
abbrev s_showsholding : Stmt := topS 20
abbrev s_isholdentry : Stmt := topS 21
abbrev s_iswayround : Stmt := topS 22
abbrev s_Lmixed : Stmt := topS 24
abbrev s_Lpot : Stmt := topS 25
abbrev s_Ltake : Stmt := topS 26
abbrev s_Loffers : Stmt := topS 27
abbrev s_Lway : Stmt := topS 28
abbrev s_Ltaken : Stmt := topS 29
abbrev s_Lkept : Stmt := topS 30
abbrev s_Lpaper : Stmt := topS 31
abbrev s_Ldeep : Stmt := topS 32
abbrev s_Lodd : Stmt := topS 33
abbrev s_Lpairs : Stmt := topS 34
abbrev s_law : Stmt := topS 35
theorem sc_iswhole : FnScope ["thing"] ["thing"] (defScope s_iswhole) := ⟨rfl, rfl, rfl, by decide +kernel, rfl, by decide +kernel, by decide +kernel⟩
theorem sc_arewholes : FnScope ["thing", "part"] ["thing"] (defScope s_arewholes) := ⟨rfl, rfl, rfl, by decide +kernel, rfl, by decide +kernel, by decide +kernel⟩
theorem sc_isrising : FnScope ["row", "low", "high"] ["row"] (defScope s_isrising) := ⟨rfl, rfl, rfl, by decide +kernel, rfl, by decide +kernel, by decide +kernel⟩
theorem sc_hasring : FnScope ["ties", "many", "above", "a", "b", "top", "other"] ["ties", "many"] (defScope s_hasring) := ⟨rfl, rfl, rfl, by decide +kernel, rfl, by decide +kernel, by decide +kernel⟩
theorem sc_topof : FnScope ["above", "point"] ["above", "point"] (defScope s_topof) := ⟨rfl, rfl, rfl, by decide +kernel, rfl, by decide +kernel, by decide +kernel⟩
theorem sc_asforest : FnScope ["many", "ties"] ["many", "ties"] (defScope s_asforest) := ⟨rfl, rfl, rfl, by decide +kernel, rfl, by decide +kernel, by decide +kernel⟩
theorem sc_areoffers : FnScope ["offers", "thing", "number"] ["offers", "thing"] (defScope s_areoffers) := ⟨rfl, rfl, rfl, by decide +kernel, rfl, by decide +kernel, by decide +kernel⟩
theorem sc_leadson : FnScope ["offers", "numbers", "a", "b", "here", "number", "ends"] ["offers", "numbers", "a", "b"] (defScope s_leadson) := ⟨rfl, rfl, rfl, by decide +kernel, rfl, by decide +kernel, by decide +kernel⟩
theorem sc_showslightest : FnScope ["many", "offers", "thing", "kept", "paper"] ["many", "offers", "thing"] (defScope s_showslightest) := ⟨rfl, rfl, rfl, by decide +kernel, rfl, by decide +kernel, by decide +kernel⟩
theorem sc_arekept : FnScope ["many", "offers", "thing", "number"] ["many", "offers", "thing"] (defScope s_arekept) := ⟨rfl, rfl, rfl, by decide +kernel, rfl, by decide +kernel, by decide +kernel⟩
theorem sc_islightpaper : FnScope ["offers", "kept", "thing", "gone", "number", "entry"] ["offers", "kept", "thing"] (defScope s_islightpaper) := ⟨rfl, rfl, rfl, by decide +kernel, rfl, by decide +kernel, by decide +kernel⟩
theorem sc_islightentry : FnScope ["offers", "kept", "number", "thing", "own", "way", "a", "b", "price", "k"] ["offers", "kept", "number", "thing"] (defScope s_islightentry) := ⟨rfl, rfl, rfl, by decide +kernel, rfl, by decide +kernel, by decide +kernel⟩
theorem sc_isworded : FnScope ["thing"] ["thing"] (defScope s_isworded) := ⟨rfl, rfl, rfl, by decide +kernel, rfl, by decide +kernel, by decide +kernel⟩
theorem sc_setsapart : FnScope ["forest", "a", "b", "numbers", "points", "ties", "low", "high"] ["forest", "a", "b", "numbers"] (defScope s_setsapart) := ⟨rfl, rfl, rfl, by decide +kernel, rfl, by decide +kernel, by decide +kernel⟩
theorem sc_showsholding : FnScope ["many", "offers", "thing", "number", "entry"] ["many", "offers", "thing"] (defScope s_showsholding) := ⟨rfl, rfl, rfl, by decide +kernel, rfl, by decide +kernel, by decide +kernel⟩
theorem sc_isholdentry : FnScope ["many", "offers", "number", "thing", "word", "numbers", "a", "b", "others"] ["many", "offers", "number", "thing"] (defScope s_isholdentry) := ⟨rfl, rfl, rfl, by decide +kernel, rfl, by decide +kernel, by decide +kernel⟩
theorem sc_iswayround : FnScope ["offers", "number", "way", "a", "b"] ["offers", "number", "way"] (defScope s_iswayround) := ⟨rfl, rfl, rfl, by decide +kernel, rfl, by decide +kernel, by decide +kernel⟩
theorem sc_Lmixed : FnScope ["_law_cell", "_law_k", "_law_number", "_law_other"] ["_law_cell", "_law_k"] (defScope s_Lmixed) := ⟨rfl, rfl, rfl, by decide +kernel, rfl, by decide +kernel, by decide +kernel⟩
theorem sc_Lpot : FnScope ["_law_script", "_law_total", "_law_k", "_law_cell"] ["_law_script"] (defScope s_Lpot) := ⟨rfl, rfl, rfl, by decide +kernel, rfl, by decide +kernel, by decide +kernel⟩
theorem sc_Ltake : FnScope ["_law_pot_here", "_law_many", "_law_digit"] ["_law_pot_here", "_law_many"] (defScope s_Ltake) := ⟨rfl, rfl, rfl, by decide +kernel, rfl, by decide +kernel, by decide +kernel⟩
theorem sc_Loffers : FnScope ["_law_pot_here", "_law_many", "_law_size", "_law_far", "_law_offers_here", "_law_k", "_law_a", "_law_b"] ["_law_pot_here"] (defScope s_Loffers) := ⟨rfl, rfl, rfl, by decide +kernel, rfl, by decide +kernel, by decide +kernel⟩
theorem sc_Lway : FnScope ["_law_offers_here", "_law_kept_here", "_law_a", "_law_b", "_law_ways", "_law_waiting", "_law_here", "_law_number", "_law_ends", "_law_there"] ["_law_offers_here", "_law_kept_here", "_law_a", "_law_b"] (defScope s_Lway) := ⟨rfl, rfl, rfl, by decide +kernel, rfl, by decide +kernel, by decide +kernel⟩
theorem sc_Ltaken : FnScope ["_law_offers_here", "_law_kept_here", "_law_number", "_law_a", "_law_b", "_law_price", "_law_way_here", "_law_gone", "_law_dearest", "_law_one"] ["_law_offers_here", "_law_kept_here", "_law_number"] (defScope s_Ltaken) := ⟨rfl, rfl, rfl, by decide +kernel, rfl, by decide +kernel, by decide +kernel⟩
theorem sc_Lkept : FnScope ["_law_offers_here", "_law_kept_here", "_law_number"] ["_law_offers_here"] (defScope s_Lkept) := ⟨rfl, rfl, rfl, by decide +kernel, rfl, by decide +kernel, by decide +kernel⟩
theorem sc_Lpaper : FnScope ["_law_offers_here", "_law_kept_here", "_law_rows", "_law_number", "_law_a", "_law_b", "_law_price"] ["_law_offers_here", "_law_kept_here"] (defScope s_Lpaper) := ⟨rfl, rfl, rfl, by decide +kernel, rfl, by decide +kernel, by decide +kernel⟩
theorem sc_Ldeep : FnScope ["_law_pot_here", "_law_thing", "_law_k", "_law_some"] ["_law_pot_here"] (defScope s_Ldeep) := ⟨rfl, rfl, rfl, by decide +kernel, rfl, by decide +kernel, by decide +kernel⟩
theorem sc_Lodd : FnScope ["_law_thing", "_law_some"] ["_law_thing"] (defScope s_Lodd) := ⟨rfl, rfl, rfl, by decide +kernel, rfl, by decide +kernel, by decide +kernel⟩
theorem sc_Lpairs : FnScope ["_law_kept_here", "_law_paper_here", "_law_some", "_law_number", "_law_numbers", "_law_rows", "_law_odd_here", "_law_row"] ["_law_kept_here", "_law_paper_here"] (defScope s_Lpairs) := ⟨rfl, rfl, rfl, by decide +kernel, rfl, by decide +kernel, by decide +kernel⟩
theorem sc_law : FnScope ["_law_script", "_law_pot_here", "_law_turn", "_law_many", "_law_offers_here", "_law_kept_here", "_law_pair", "_law_twos", "_law_a", "_law_b", "_law_price", "_law_thing", "_law_odd_here", "_law_rows", "_law_row"] ["_law_script"] (defScope s_law) := ⟨rfl, rfl, rfl, by decide +kernel, rfl, by decide +kernel, by decide +kernel⟩
/-- what the top has left -/
structure Top (K : PySem.W.Frag) (mg : Str → Option Value) where
  a_iswhole : Addr
  d_iswhole : FuncData
  F_iswhole : Fun K "is_whole" "is_whole" s_iswhole a_iswhole d_iswhole
  b_iswhole : Binds K d_iswhole ["thing"] []
  g_iswhole : mg "is_whole" = some (.ref a_iswhole)
  a_arewholes : Addr
  d_arewholes : FuncData
  F_arewholes : Fun K "are_wholes" "are_wholes" s_arewholes a_arewholes d_arewholes
  b_arewholes : Binds K d_arewholes ["thing"] []
  g_arewholes : mg "are_wholes" = some (.ref a_arewholes)
  a_isrising : Addr
  d_isrising : FuncData
  F_isrising : Fun K "is_rising" "is_rising" s_isrising a_isrising d_isrising
  b_isrising : Binds K d_isrising ["row"] []
  g_isrising : mg "is_rising" = some (.ref a_isrising)
  a_hasring : Addr
  d_hasring : FuncData
  F_hasring : Fun K "has_ring" "has_ring" s_hasring a_hasring d_hasring
  b_hasring : Binds K d_hasring ["ties", "many"] []
  g_hasring : mg "has_ring" = some (.ref a_hasring)
  a_topof : Addr
  d_topof : FuncData
  F_topof : Fun K "top_of" "top_of" s_topof a_topof d_topof
  b_topof : Binds K d_topof ["above", "point"] []
  g_topof : mg "top_of" = some (.ref a_topof)
  a_asforest : Addr
  d_asforest : FuncData
  F_asforest : Fun K "as_forest" "as_forest" s_asforest a_asforest d_asforest
  b_asforest : Binds K d_asforest ["many", "ties"] []
  g_asforest : mg "as_forest" = some (.ref a_asforest)
  a_areoffers : Addr
  d_areoffers : FuncData
  F_areoffers : Fun K "are_offers" "are_offers" s_areoffers a_areoffers d_areoffers
  b_areoffers : Binds K d_areoffers ["offers", "thing"] []
  g_areoffers : mg "are_offers" = some (.ref a_areoffers)
  a_leadson : Addr
  d_leadson : FuncData
  F_leadson : Fun K "leads_on" "leads_on" s_leadson a_leadson d_leadson
  b_leadson : Binds K d_leadson ["offers", "numbers", "a", "b"] []
  g_leadson : mg "leads_on" = some (.ref a_leadson)
  a_showslightest : Addr
  d_showslightest : FuncData
  F_showslightest : Fun K "shows_lightest" "shows_lightest" s_showslightest a_showslightest d_showslightest
  b_showslightest : Binds K d_showslightest ["many", "offers", "thing"] []
  g_showslightest : mg "shows_lightest" = some (.ref a_showslightest)
  a_arekept : Addr
  d_arekept : FuncData
  F_arekept : Fun K "are_kept" "are_kept" s_arekept a_arekept d_arekept
  b_arekept : Binds K d_arekept ["many", "offers", "thing"] []
  g_arekept : mg "are_kept" = some (.ref a_arekept)
  a_islightpaper : Addr
  d_islightpaper : FuncData
  F_islightpaper : Fun K "is_light_paper" "is_light_paper" s_islightpaper a_islightpaper d_islightpaper
  b_islightpaper : Binds K d_islightpaper ["offers", "kept", "thing"] []
  g_islightpaper : mg "is_light_paper" = some (.ref a_islightpaper)
  a_islightentry : Addr
  d_islightentry : FuncData
  F_islightentry : Fun K "is_light_entry" "is_light_entry" s_islightentry a_islightentry d_islightentry
  b_islightentry : Binds K d_islightentry ["offers", "kept", "number", "thing"] []
  g_islightentry : mg "is_light_entry" = some (.ref a_islightentry)
  a_isworded : Addr
  d_isworded : FuncData
  F_isworded : Fun K "is_worded" "is_worded" s_isworded a_isworded d_isworded
  b_isworded : Binds K d_isworded ["thing"] []
  g_isworded : mg "is_worded" = some (.ref a_isworded)
  a_setsapart : Addr
  d_setsapart : FuncData
  F_setsapart : Fun K "sets_apart" "sets_apart" s_setsapart a_setsapart d_setsapart
  b_setsapart : Binds K d_setsapart ["forest", "a", "b", "numbers"] []
  g_setsapart : mg "sets_apart" = some (.ref a_setsapart)
  a_showsholding : Addr
  d_showsholding : FuncData
  F_showsholding : Fun K "shows_holding" "shows_holding" s_showsholding a_showsholding d_showsholding
  b_showsholding : Binds K d_showsholding ["many", "offers", "thing"] []
  g_showsholding : mg "shows_holding" = some (.ref a_showsholding)
  a_isholdentry : Addr
  d_isholdentry : FuncData
  F_isholdentry : Fun K "is_hold_entry" "is_hold_entry" s_isholdentry a_isholdentry d_isholdentry
  b_isholdentry : Binds K d_isholdentry ["many", "offers", "number", "thing"] []
  g_isholdentry : mg "is_hold_entry" = some (.ref a_isholdentry)
  a_iswayround : Addr
  d_iswayround : FuncData
  F_iswayround : Fun K "is_way_round" "is_way_round" s_iswayround a_iswayround d_iswayround
  b_iswayround : Binds K d_iswayround ["offers", "number", "way"] []
  g_iswayround : mg "is_way_round" = some (.ref a_iswayround)
  a_Lmixed : Addr
  d_Lmixed : FuncData
  F_Lmixed : Fun K "_law_mixed" "_law_mixed" s_Lmixed a_Lmixed d_Lmixed
  b_Lmixed : Binds K d_Lmixed ["_law_cell", "_law_k"] []
  g_Lmixed : mg "_law_mixed" = some (.ref a_Lmixed)
  a_Lpot : Addr
  d_Lpot : FuncData
  F_Lpot : Fun K "_law_pot" "_law_pot" s_Lpot a_Lpot d_Lpot
  b_Lpot : Binds K d_Lpot ["_law_script"] []
  g_Lpot : mg "_law_pot" = some (.ref a_Lpot)
  a_Ltake : Addr
  d_Ltake : FuncData
  F_Ltake : Fun K "_law_take" "_law_take" s_Ltake a_Ltake d_Ltake
  b_Ltake : Binds K d_Ltake ["_law_pot_here", "_law_many"] []
  g_Ltake : mg "_law_take" = some (.ref a_Ltake)
  a_Loffers : Addr
  d_Loffers : FuncData
  F_Loffers : Fun K "_law_offers" "_law_offers" s_Loffers a_Loffers d_Loffers
  b_Loffers : Binds K d_Loffers ["_law_pot_here"] []
  g_Loffers : mg "_law_offers" = some (.ref a_Loffers)
  a_Lway : Addr
  d_Lway : FuncData
  F_Lway : Fun K "_law_way" "_law_way" s_Lway a_Lway d_Lway
  b_Lway : Binds K d_Lway ["_law_offers_here", "_law_kept_here", "_law_a", "_law_b"] []
  g_Lway : mg "_law_way" = some (.ref a_Lway)
  a_Ltaken : Addr
  d_Ltaken : FuncData
  F_Ltaken : Fun K "_law_taken" "_law_taken" s_Ltaken a_Ltaken d_Ltaken
  b_Ltaken : Binds K d_Ltaken ["_law_offers_here", "_law_kept_here", "_law_number"] []
  g_Ltaken : mg "_law_taken" = some (.ref a_Ltaken)
  a_Lkept : Addr
  d_Lkept : FuncData
  F_Lkept : Fun K "_law_kept" "_law_kept" s_Lkept a_Lkept d_Lkept
  b_Lkept : Binds K d_Lkept ["_law_offers_here"] []
  g_Lkept : mg "_law_kept" = some (.ref a_Lkept)
  a_Lpaper : Addr
  d_Lpaper : FuncData
  F_Lpaper : Fun K "_law_paper" "_law_paper" s_Lpaper a_Lpaper d_Lpaper
  b_Lpaper : Binds K d_Lpaper ["_law_offers_here", "_law_kept_here"] []
  g_Lpaper : mg "_law_paper" = some (.ref a_Lpaper)
  a_Ldeep : Addr
  d_Ldeep : FuncData
  F_Ldeep : Fun K "_law_deep" "_law_deep" s_Ldeep a_Ldeep d_Ldeep
  b_Ldeep : Binds K d_Ldeep ["_law_pot_here"] []
  g_Ldeep : mg "_law_deep" = some (.ref a_Ldeep)
  a_Lodd : Addr
  d_Lodd : FuncData
  F_Lodd : Fun K "_law_odd" "_law_odd" s_Lodd a_Lodd d_Lodd
  b_Lodd : Binds K d_Lodd ["_law_thing"] []
  g_Lodd : mg "_law_odd" = some (.ref a_Lodd)
  a_Lpairs : Addr
  d_Lpairs : FuncData
  F_Lpairs : Fun K "_law_pairs" "_law_pairs" s_Lpairs a_Lpairs d_Lpairs
  b_Lpairs : Binds K d_Lpairs ["_law_kept_here", "_law_paper_here"] []
  g_Lpairs : mg "_law_pairs" = some (.ref a_Lpairs)
  a_law : Addr
  d_law : FuncData
  F_law : Fun K "law" "law" s_law a_law d_law
  b_law : Binds K d_law ["_law_script"] []
  g_law : mg "law" = some (.ref a_law)
  m_abs : mg "abs" = none
  m_all : mg "all" = none
  m_bool : mg "bool" = none
  m_enumerate : mg "enumerate" = none
  m_int : mg "int" = none
  m_isinstance : mg "isinstance" = none
  m_len : mg "len" = none
  m_list : mg "list" = none
  m_max : mg "max" = none
  m_range : mg "range" = none
  m_set : mg "set" = none
  m_sorted : mg "sorted" = none
  m_str : mg "str" = none
  m_tuple : mg "tuple" = none
  m_zip : mg "zip" = none
  cA : Addr
  PA : Addr
  hcA : d_arewholes.code = .ref cA
  cR : Addr
  PR : Addr
  hcR : d_isrising.code = .ref cR
  cO : Addr
  PO : Addr
  hcO : d_areoffers.code = .ref cO
  cP : Addr
  PP : Addr
  hcP : d_islightpaper.code = .ref cP
  cE : Addr
  PE : Addr
  hcE : d_islightentry.code = .ref cE
  cH : Addr
  PH : Addr
  hcH : d_showsholding.code = .ref cH
  neP : ([PA, PR, PO, PP, PE, PH] : List Addr).Nodup
end My
namespace My
open PySem L2
theorem tabg_same {H H' : Hp} {P : Addr} (s : Same H H') (g : GxR.TabG H P) : GxR.TabG H' P := by
  obtain ⟨ps, h, t⟩ := g
  exact ⟨ps, s _ _ h, t⟩
/-! ### the tables of code made on the way: what is no table stays -/
theorem But.of_same {P : Addr} {H H' : Hp} (s : Same H H') : But P H H' := fun a o e _ => s a o e
theorem But.of_tab {P : Addr} {H H' : Hp} (t : GxR.Tabbed P H H') : But P H H' := fun a o e n => (t.2 a n).trans e
theorem Kp.of_but {P : Addr} {H H' : Hp} (g : GxR.TabG H P) (k : But P H H') : Kp H H' := fun a o e n => by
  refine k a o e fun h => ?_
  subst h
  obtain ⟨ps, hp, _⟩ := g
  rw [hp] at e
  exact n ps (Option.some.inj e).symm
theorem TabG.ne {P a : Addr} {H : Hp} {o : HO} (g : GxR.TabG H P) (e : H a = some o) (n : ∀ ps, o ≠ .tbl ps) : a ≠ P := fun h => by
  subst h
  obtain ⟨ps, hp, _⟩ := g
  rw [hp] at e
  exact n ps (Option.some.inj e).symm
/-! ### tables kept -/
theorem tabs_same {H H' : Hp} {P : Addr} {q : Str} (s : Same H H') (g : LamX.TabS H P q) : LamX.TabS H' P q := g.ext s
/-- the other table's writing -/
theorem tabs_other {H H' : Hp} {P R : Addr} {q : Str} (n : P ≠ R) (gR : GxR.TabG H R) (k : But R H H') (g : LamX.TabS H P q) : LamX.TabS H' P q := by
  obtain ⟨ps, hp, t, e⟩ := g
  refine ⟨ps, k _ _ hp n, t, fun pos cv hc => ?_⟩
  obtain ⟨c, e1, e2⟩ := e pos cv hc
  exact ⟨c, e1, k _ _ e2 (TabG.ne gR e2 LamX.codeO_ne)⟩
theorem tabg_other {H H' : Hp} {P R : Addr} (n : R ≠ P) (k : But P H H') (g : GxR.TabG H R) : GxR.TabG H' R := by
  obtain ⟨ps, hp, t⟩ := g
  exact ⟨ps, k _ _ hp n, t⟩
theorem TabS.g {H : Hp} {P : Addr} {q : Str} (g : LamX.TabS H P q) : GxR.TabG H P := by
  obtain ⟨ps, hp, t, _⟩ := g
  exact ⟨ps, hp, t⟩
theorem Tups.of_tab {K : PySem.W.Frag} {H H' : Hp} {P : Addr} (g : GxR.TabG H P) (k : But P H H') : Tups K H H' := fun a xs h => by
  rcases h with h | h
  · rcases h with h | ⟨o, h⟩
    · exact .inl (.inl (k _ _ h (TabG.ne g h (by intro ps z; cases z))))
    · exact .inl (.inr ⟨o, k _ _ h (TabG.ne g h (by intro ps z; cases z))⟩)
  · exact .inr h

theorem Tups.of_kp {K : PySem.W.Frag} {H H' : Hp} (k : Kp H H') : Tups K H H' := fun a xs h => by
  rcases h with h | h
  · rcases h with h | ⟨o, h⟩
    · exact .inl (.inl (k _ _ h (by intro ps z; cases z)))
    · exact .inl (.inr ⟨o, k _ _ h (by intro ps z; cases z)⟩)
  · exact .inr h
theorem Kp.same {H H1 H2 : Hp} (k : Kp H H1) (s : Same H1 H2) : Kp H H2 := k.trans (Kp.of_same s)
/-- each table as it has to be: of generators (none), of lambdas that stand in one def (its name) -/
def Tb (ts : List (Addr × Option Str)) (H : Hp) : Prop := ∀ t ∈ ts, match t.2 with | none => GxR.TabG H t.1 | some q => LamX.TabS H t.1 q
section
variable {ts : List (Addr × Option Str)} {H H' : Hp}
theorem Tb.g {P : Addr} (h : Tb ts H) (m : (P, none) ∈ ts) : GxR.TabG H P := h _ m
theorem Tb.s {P : Addr} {q : Str} (h : Tb ts H) (m : (P, some q) ∈ ts) : LamX.TabS H P q := h _ m
theorem Tb.mk (h : ∀ P, (P, none) ∈ ts → GxR.TabG H P) (k : ∀ P q, (P, some q) ∈ ts → LamX.TabS H P q) : Tb ts H := fun t m => by
  obtain ⟨P, o⟩ := t
  cases o with
  | none => exact h P m
  | some q => exact k P q m
theorem Tb.same (h : Tb ts H) (s : Same H H') : Tb ts H' := .mk (fun P m => tabg_same s (h.g m)) (fun P q m => tabs_same s (h.s m))
theorem nd_fst : ∀ {ts : List (Addr × Option Str)}, (ts.map (·.1)).Nodup → ∀ {x y : Addr × Option Str}, x ∈ ts → y ∈ ts → x.1 = y.1 → x = y
  | [], _, _, _, hx, _, _ => nomatch hx
  | t :: r, nd, x, y, hx, hy, e => by
    rw [List.map_cons, List.nodup_cons] at nd
    rcases List.mem_cons.mp hx with e1 | h1
    · rcases List.mem_cons.mp hy with e2 | h2
      · rw [e1, e2]
      · exact absurd (List.mem_map.mpr ⟨y, h2, by rw [← e, e1]⟩) nd.1
    · rcases List.mem_cons.mp hy with e2 | h2
      · exact absurd (List.mem_map.mpr ⟨x, h1, by rw [e, e2]⟩) nd.1
      · exact nd_fst nd.2 h1 h2 e
/-- one of generators was written -/
theorem Tb.tab {P : Addr} (h : Tb ts H) (nd : (ts.map (·.1)).Nodup) (m : (P, none) ∈ ts) (k : But P H H') (g : GxR.TabG H' P) : Tb ts H' := by
  refine .mk (fun R mR => ?_) (fun R q mR => ?_)
  · by_cases e : R = P
    · subst e
      exact g
    · exact tabg_other e k (h.g mR)
  · refine tabs_other (fun e => ?_) (h.g m) k (h.s mR)
    subst e
    cases nd_fst nd m mR rfl
/-- one of lambdas was written -/
theorem Tb.lam {P : Addr} {q : Str} (h : Tb ts H) (nd : (ts.map (·.1)).Nodup) (m : (P, some q) ∈ ts) (k : But P H H') (g : LamX.TabS H' P q) : Tb ts H' := by
  refine .mk (fun R mR => ?_) (fun R q2 mR => ?_)
  · refine tabg_other (fun e => ?_) k (h.g mR)
    subst e
    cases nd_fst nd m mR rfl
  · by_cases e : R = P
    · subst e
      cases nd_fst nd m mR rfl
      exact g
    · exact tabs_other e (TabS.g (h.s m)) k (h.s mR)
end

section
variable {K : PySem.W.Frag} {mg : Str → Option Value}
def Top.tbs (T : Top K mg) : List (Addr × Option Str) := [(T.PA, none), (T.PR, none), (T.PO, none), (T.PP, none), (T.PE, none), (T.PH, none)]
theorem Top.mA (T : Top K mg) : (T.PA, none) ∈ T.tbs := List.mem_cons_self
theorem Top.mR (T : Top K mg) : (T.PR, none) ∈ T.tbs := (List.mem_cons_of_mem _ List.mem_cons_self)
theorem Top.mO (T : Top K mg) : (T.PO, none) ∈ T.tbs := (List.mem_cons_of_mem _ (List.mem_cons_of_mem _ List.mem_cons_self))
theorem Top.mP (T : Top K mg) : (T.PP, none) ∈ T.tbs := (List.mem_cons_of_mem _ (List.mem_cons_of_mem _ (List.mem_cons_of_mem _ List.mem_cons_self)))
theorem Top.mE (T : Top K mg) : (T.PE, none) ∈ T.tbs := (List.mem_cons_of_mem _ (List.mem_cons_of_mem _ (List.mem_cons_of_mem _ (List.mem_cons_of_mem _ List.mem_cons_self))))
theorem Top.mH (T : Top K mg) : (T.PH, none) ∈ T.tbs := (List.mem_cons_of_mem _ (List.mem_cons_of_mem _ (List.mem_cons_of_mem _ (List.mem_cons_of_mem _ (List.mem_cons_of_mem _ List.mem_cons_self)))))
theorem Top.nd (T : Top K mg) : (T.tbs.map (·.1)).Nodup := T.neP
structure TBs (T : Top K mg) (base : Heap) : Prop where
  A : GxR.TabB base mg T.cA T.PA
  R : GxR.TabB base mg T.cR T.PR
  O : GxR.TabB base mg T.cO T.PO
  P : GxR.TabB base mg T.cP T.PP
  E : GxR.TabB base mg T.cE T.PE
  H : GxR.TabB base mg T.cH T.PH
theorem tbs0 (T : Top K mg) {H : Hp} (hA : H T.PA = some (.tbl #[])) (hR : H T.PR = some (.tbl #[])) (hO : H T.PO = some (.tbl #[])) (hP : H T.PP = some (.tbl #[])) (hE : H T.PE = some (.tbl #[])) (hH : H T.PH = some (.tbl #[])) : Tb T.tbs H := by
  intro t m
  rcases List.mem_cons.mp m with rfl | m
  · exact ⟨#[], hA, True.intro⟩
  rcases List.mem_cons.mp m with rfl | m
  · exact ⟨#[], hR, True.intro⟩
  rcases List.mem_cons.mp m with rfl | m
  · exact ⟨#[], hO, True.intro⟩
  rcases List.mem_cons.mp m with rfl | m
  · exact ⟨#[], hP, True.intro⟩
  rcases List.mem_cons.mp m with rfl | m
  · exact ⟨#[], hE, True.intro⟩
  rw [List.mem_singleton.mp m]
  exact ⟨#[], hH, True.intro⟩
end
theorem mem1 {α : Type} {p a : α} (h : p ∈ [a]) : p = a := List.mem_singleton.mp h
theorem mem2 {α : Type} {p a0 a1 : α} (h : p ∈ [a0, a1]) : p = a0 ∨ p = a1 := (List.mem_cons.mp h).imp id mem1
theorem mem3 {α : Type} {p a0 a1 a2 : α} (h : p ∈ [a0, a1, a2]) : p = a0 ∨ p = a1 ∨ p = a2 := (List.mem_cons.mp h).imp id mem2
theorem mem4 {α : Type} {p a0 a1 a2 a3 : α} (h : p ∈ [a0, a1, a2, a3]) : p = a0 ∨ p = a1 ∨ p = a2 ∨ p = a3 := (List.mem_cons.mp h).imp id mem3
theorem mem5 {α : Type} {p a0 a1 a2 a3 a4 : α} (h : p ∈ [a0, a1, a2, a3, a4]) : p = a0 ∨ p = a1 ∨ p = a2 ∨ p = a3 ∨ p = a4 := (List.mem_cons.mp h).imp id mem4
theorem mem6 {α : Type} {p a0 a1 a2 a3 a4 a5 : α} (h : p ∈ [a0, a1, a2, a3, a4, a5]) : p = a0 ∨ p = a1 ∨ p = a2 ∨ p = a3 ∨ p = a4 ∨ p = a5 := (List.mem_cons.mp h).imp id mem5
end My
namespace My
open PySem L2
/-! ### pairs of whole numbers in the heap -/
inductive PAll (H : Hp) : List V → List (Int × Int) → Prop
  | nil : PAll H [] []
  | cons {t : Addr} {x y : Int} {vs : List V} {ts : List (Int × Int)} : H t = some (.tup [.int x, .int y]) → PAll H vs ts → PAll H (.ref t :: vs) ((x, y) :: ts)
theorem PAll.mono {H H' : Hp} (s : ∀ t x y, H t = some (.tup [.int x, .int y]) → H' t = some (.tup [.int x, .int y])) : ∀ {vs : List V} {ts : List (Int × Int)}, PAll H vs ts → PAll H' vs ts
  | _, _, .nil => .nil
  | _, _, .cons h k => .cons (s _ _ _ h) (PAll.mono s k)
theorem PAll.same {H H' : Hp} (s : Same H H') {vs : List V} {ts : List (Int × Int)} (h : PAll H vs ts) : PAll H' vs ts := h.mono fun _ _ _ e => s _ _ e
theorem PAll.kp {H H' : Hp} (k : Kp H H') {vs : List V} {ts : List (Int × Int)} (h : PAll H vs ts) : PAll H' vs ts := h.mono fun _ _ _ e => k _ _ e (by intro ps z; cases z)
theorem PAll.put {H : Hp} {l : Addr} {xs : List V} {o : HO} (e : H l = some (.lst xs)) {vs : List V} {ts : List (Int × Int)} (h : PAll H vs ts) : PAll (upd H l o) vs ts := h.mono fun t _ _ z => by
  rw [upd_ne (ne_of z e (by intro z; cases z))]
  exact z
theorem PAll.snoc {H : Hp} {t : Addr} {x y : Int} (e : H t = some (.tup [.int x, .int y])) : ∀ {vs : List V} {ts : List (Int × Int)}, PAll H vs ts → PAll H (vs ++ [.ref t]) (ts ++ [(x, y)])
  | _, _, .nil => .cons e .nil
  | _, _, .cons h k => .cons h (PAll.snoc e k)
theorem PAll.append {H : Hp} : ∀ {vs us : List V} {ts ss : List (Int × Int)}, PAll H vs ts → PAll H us ss → PAll H (vs ++ us) (ts ++ ss)
  | _, _, _, _, .nil, k => k
  | _, _, _, _, .cons h k, z => .cons h (k.append z)
theorem PAll.take {H : Hp} : ∀ {vs : List V} {ts : List (Int × Int)}, PAll H vs ts → ∀ n : Nat, PAll H (vs.take n) (ts.take n)
  | _, _, .nil, n => by
    rw [List.take_nil, List.take_nil]
    exact .nil
  | _, _, .cons h k, 0 => .nil
  | _, _, .cons h k, n + 1 => .cons h (k.take n)
theorem PAll.drop {H : Hp} : ∀ {vs : List V} {ts : List (Int × Int)}, PAll H vs ts → ∀ n : Nat, PAll H (vs.drop n) (ts.drop n)
  | _, _, .nil, n => by
    rw [List.drop_nil, List.drop_nil]
    exact .nil
  | _, _, .cons h k, 0 => .cons h k
  | _, _, .cons h k, n + 1 => k.drop n
theorem PAll.length {H : Hp} : ∀ {vs : List V} {ts : List (Int × Int)}, PAll H vs ts → vs.length = ts.length
  | _, _, .nil => rfl
  | _, _, .cons _ k => congrArg (· + 1) k.length
theorem PAll.at {H : Hp} : ∀ {vs : List V} {ts : List (Int × Int)}, PAll H vs ts → ∀ {i : Nat} {v : V}, vs[i]? = some v → ∃ t u, v = .ref t ∧ ts[i]? = some u ∧ H t = some (.tup [.int u.1, .int u.2])
  | _, _, .nil, i, v, h => by
    rw [List.getElem?_nil] at h
    cases h
  | _, _, .cons (t := t) (x := x) (y := y) e r, 0, v, h => ⟨t, (x, y), (Option.some.inj h).symm, rfl, e⟩
  | _, _, .cons e r, i + 1, v, h => PAll.at r (i := i) h
theorem PAll.get {H : Hp} : ∀ {vs : List V} {ts : List (Int × Int)}, PAll H vs ts → ∀ {i : Nat} {u : Int × Int}, ts[i]? = some u → ∃ t, vs[i]? = some (.ref t) ∧ H t = some (.tup [.int u.1, .int u.2])
  | _, _, .nil, i, u, h => by
    rw [List.getElem?_nil] at h
    cases h
  | _, _, .cons (t := t) e r, 0, u, h => by
    cases Option.some.inj h
    exact ⟨t, rfl, e⟩
  | _, _, .cons e r, i + 1, u, h => PAll.get r (i := i) h
/-- the pair at a number -/
theorem PAll.ix {H : Hp} {vs : List V} {ts : List (Int × Int)} (h : PAll H vs ts) {n : Int} {u : Int × Int} (n0 : 0 ≤ n) (hu : ts[n.toNat]? = some u) : ∃ t, atI vs n = some (.ref t) ∧ H t = some (.tup [.int u.1, .int u.2]) := by
  obtain ⟨t, h1, h2⟩ := h.get hu
  have e : n = ((n.toNat : Nat) : Int) := (Int.toNat_of_nonneg n0).symm
  exact ⟨t, by rw [e]; exact atI_nat h1, h2⟩
theorem Kp.of_tabd {P : Addr} {H H' : Hp} (g : GxR.TabG H P) (t : GxR.Tabbed P H H') : Kp H H' := Kp.of_but g (But.of_tab t)
theorem Kp.tup {H H' : Hp} (k : Kp H H') {t : Addr} {xs : List V} (e : H t = some (.tup xs)) : H' t = some (.tup xs) := k _ _ e (by intro ps z; cases z)
theorem Kp.lst {H H' : Hp} (k : Kp H H') {t : Addr} {xs : List V} (e : H t = some (.lst xs)) : H' t = some (.lst xs) := k _ _ e (by intro ps z; cases z)
theorem same_refl {H : Hp} : Same H H := fun _ _ e => e
theorem same_put {H H1 : Hp} {d : Addr} {o : HO} (s : Same H H1) (n : H d = none) : Same H (upd H1 d o) := fun b u z => by
  rw [upd_ne (ne_of_none z n)]
  exact s b u z
theorem take_at {α : Type} {xs : List α} {i : Nat} {x : α} (h : xs[i]? = some x) : xs.take (i + 1) = xs.take i ++ [x] := by
  rw [List.take_succ, h]
  rfl
theorem ne_int {x y : Int} (z : (!decide (V.int x = V.int y)) = true) : x ≠ y := fun e => by
  subst e
  rw [decide_eq_true rfl] at z
  cases z
theorem eq_int {x y : Int} (z : ¬ (!decide (V.int x = V.int y)) = true) : x = y := by
  by_cases e : x = y
  · exact e
  · exact absurd (by rw [decide_eq_false fun h => e (V.int.inj h)]; rfl) z
theorem nil_whole : HT.sIx ([] : List V).length 0 (some 1) = 0 ∧ HT.sIx ([] : List V).length ([] : List V).length none = ([] : List V).length := by decide
theorem not_whole {x : V} {ps : List V} : ¬ (HT.sIx (x :: ps).length 0 (some 1) = 0 ∧ HT.sIx (x :: ps).length (x :: ps).length none = (x :: ps).length) := by
  rintro ⟨z1, _⟩
  have e1 : HT.sIx (x :: ps).length 0 (some 1) = 1 := by
    rw [show (1 : Int) = ((1 : Nat) : Int) from rfl, HT.sIx_nat, List.length_cons]
    omega
  rw [e1] at z1
  exact nomatch z1
theorem no_part {σ : L2.St} {H : Hp} {Q : Option Int → Hp → Prop} (h : Q none H) : tNoPart σ H Q := h
theorem cutV_whole {xs : List V} {lo hi : Option Int} (h : HT.sIx xs.length 0 lo = 0 ∧ HT.sIx xs.length xs.length hi = xs.length) : cutV xs lo hi = xs := by
  unfold cutV
  rw [h.1, h.2, List.drop_zero, Nat.sub_zero, List.take_length]
theorem slA {K : PySem.W.Frag} {x : V} {lo hi : Option Int} {H : Hp} {Q : VK} {t : Addr} {xs : List V} (ex : x = .ref t) (h : H t = some (.tup xs)) (k : ∀ (p : Addr) (H' : Hp), Same H H' → H' p = some (.tup (cutV xs lo hi)) → Q (.ref p) H') : rSlA K x lo hi H Q :=
  ⟨t, xs, ex, SqT.of h, fun wh => k t H (fun _ _ e => e) (by rw [cutV_whole wh]; exact h), fun _ p np => k p _ (same_new np) upd_same⟩
theorem catA {K : PySem.W.Frag} {x y : V} {H : Hp} {Q : VK} {a b : Addr} {xs ys : List V} (ex : x = .ref a) (ey : y = .ref b) (h1 : H a = some (.tup xs)) (h2 : H b = some (.tup ys)) (l : xs.length + ys.length ≤ sizeLine) (k : ∀ (p : Addr) (H' : Hp), Same H H' → H' p = some (.tup (xs ++ ys)) → Q (.ref p) H') : rCatA K x y H Q :=
  ⟨a, b, xs, ys, ex, ey, SqT.of h1, SqT.of h2, l, fun e => k b H (fun _ _ e => e) (by rw [e]; exact h2), fun _ e => k a H (fun _ _ e => e) (by rw [e, List.append_nil]; exact h1), fun _ _ p np => k p _ (same_new np) upd_same⟩
/-- true just where p is so -/
noncomputable def dcd (p : Prop) : Bool := @decide p (Classical.propDecidable p)
theorem dcd_t {p : Prop} (h : p) : dcd p = true := by
  classical
  unfold dcd
  exact decide_eq_true h
theorem dcd_f {p : Prop} (h : ¬ p) : dcd p = false := by
  classical
  unfold dcd
  exact decide_eq_false h
theorem dcd_iff {p q : Prop} (h : p ↔ q) : dcd p = dcd q := by
  by_cases a : p
  · rw [dcd_t a, dcd_t (h.mp a)]
  · rw [dcd_f a, dcd_f fun z => a (h.mpr z)]
theorem of_dcd {p : Prop} (h : dcd p = true) : p := by
  by_cases a : p
  · exact a
  · rw [dcd_f a] at h
    cases h
theorem dcd_dec {p : Prop} [Decidable p] : dcd p = decide p := by
  by_cases a : p
  · rw [dcd_t a, decide_eq_true a]
  · rw [dcd_f a, decide_eq_false a]

theorem inV_ints (x : Int) : ∀ l : List Int, inV (.int x) (l.map V.int) = decide (x ∈ l)
  | [] => rfl
  | y :: r => by
    have ih := inV_ints x r
    unfold inV at ih ⊢
    rw [List.map_cons, List.any_cons, ih]
    by_cases e : y = x
    · subst e
      simp [eqV]
    · have e2 : ¬ x = y := fun z => e z.symm
      simp [eqV, e, e2]
theorem flat_ints : ∀ l : List Int, (l.map V.int).all flatV = true
  | [] => rfl
  | _ :: r => by
    rw [List.map_cons, List.all_cons, flat_ints r]
    rfl

end My
namespace My
open PySem L2
/-! ### offers, ways along them, banks -/
abbrev Ofs := List (Int × Int)
def endO (t : Int × Int) (h : Int) : Int := if h = t.1 then t.2 else t.1
inductive Leads (os : Ofs) (b : Int) : Int → List Int → Prop
  | nil : Leads os b b []
  | cons {h n : Int} {t : Int × Int} {r : List Int} (n0 : 0 ≤ n) (e : os[n.toNat]? = some t) (m : h = t.1 ∨ h = t.2) (k : Leads os b (endO t h) r) : Leads os b h (n :: r)
theorem leads_nil {os : Ofs} {b h : Int} : Leads os b h [] ↔ h = b := ⟨fun z => by cases z; rfl, fun z => z ▸ .nil⟩
theorem leads_cons {os : Ofs} {b h n : Int} {t : Int × Int} {r : List Int} (n0 : 0 ≤ n) (e : os[n.toNat]? = some t) (m : h = t.1 ∨ h = t.2) : Leads os b h (n :: r) ↔ Leads os b (endO t h) r := ⟨fun z => by
  cases z with
  | cons n0' e' m' k =>
    rw [e] at e'
    cases Option.some.inj e'
    exact k, fun k => .cons n0 e m k⟩
theorem leads_no {os : Ofs} {b h n : Int} {t : Int × Int} {r : List Int} (e : os[n.toNat]? = some t) (m : ¬ (h = t.1 ∨ h = t.2)) : ¬ Leads os b h (n :: r) := fun z => by
  cases z with
  | cons n0' e' m' k =>
    rw [e] at e'
    cases Option.some.inj e'
    exact m m'
theorem endO_sum {t : Int × Int} {h : Int} (m : h = t.1 ∨ h = t.2) : t.1 + t.2 - h = endO t h := by
  unfold endO
  by_cases e : h = t.1
  · rw [if_pos e]
    omega
  · rw [if_neg e]
    have := m.resolve_left e
    omega
structure GoodR (os : Ofs) (k : Int) (a b : Int) (ns : List Int) : Prop where
  nd : ns.Nodup
  rg : ∀ x ∈ ns, 0 ≤ x ∧ x < (os.length : Int)
  nk : k ∉ ns
  ld : Leads os b a ns
structure Apart (m : Int) (os : Ofs) (a b : Int) (ns : List Int) : Prop where
  up : ns.Pairwise (· < ·)
  ma : a ∈ ns
  mb : b ∉ ns
  rg : ∀ x ∈ ns, 0 ≤ x ∧ x < m
  ct : ∀ t ∈ os, (t.1 ∈ ns ↔ t.2 ∈ ns)
/-- a row of a paper: holds (with the points of a bank), or round (with a way) -/
abbrev Rw := Bool × List Int
def wordR (h : Bool) : Str := if h then "holds" else "round"
def othersO (os : Ofs) (k : Nat) : Ofs := os.take k ++ os.drop (k + 1)
def Good (m : Int) (os : Ofs) (k : Nat) (ab : Int × Int) (r : Rw) : Prop := if r.1 then Apart m (othersO os k) ab.1 ab.2 r.2 else GoodR os (k : Int) ab.1 ab.2 r.2
theorem mem_others {os : Ofs} {k : Nat} {t : Int × Int} : t ∈ othersO os k ↔ ∃ j, j ≠ k ∧ os[j]? = some t := by
  unfold othersO
  rw [List.mem_append, List.mem_iff_getElem?, List.mem_iff_getElem?]
  constructor
  · rintro (⟨j, h⟩ | ⟨j, h⟩)
    · have l := (List.getElem?_eq_some_iff.mp h).1
      rw [List.length_take] at l
      rw [List.getElem?_take_of_lt (by omega)] at h
      exact ⟨j, by omega, h⟩
    · rw [List.getElem?_drop] at h
      exact ⟨_, by omega, h⟩
  · rintro ⟨j, ne, h⟩
    by_cases l : j < k
    · exact .inl ⟨j, by rw [List.getElem?_take_of_lt l]; exact h⟩
    · refine .inr ⟨j - (k + 1), ?_⟩
      rw [List.getElem?_drop, show k + 1 + (j - (k + 1)) = j by omega]
      exact h
theorem good_h {m : Int} {os : Ofs} {k : Nat} {ab : Int × Int} {ns : List Int} : Good m os k ab (true, ns) ↔ Apart m (othersO os k) ab.1 ab.2 ns := Iff.rfl
theorem good_r {m : Int} {os : Ofs} {k : Nat} {ab : Int × Int} {ns : List Int} : Good m os k ab (false, ns) ↔ GoodR os (k : Int) ab.1 ab.2 ns := by
  unfold Good
  simp
def AllGood (m : Int) (os : Ofs) (rs : List Rw) : Prop := ∀ (k : Nat) (t : Int × Int) (r : Rw), os[k]? = some t → rs[k]? = some r → Good m os k t r
/-- rows in the heap -/
inductive RAll (H : Hp) : List V → List Rw → Prop
  | nil : RAll H [] []
  | cons {p t : Addr} {h : Bool} {ns : List Int} {vs : List V} {rs : List Rw} : H p = some (.tup [.str (wordR h), .ref t]) → H t = some (.tup (ns.map V.int)) → RAll H vs rs → RAll H (.ref p :: vs) ((h, ns) :: rs)
theorem RAll.mono {H H' : Hp} (s : ∀ t xs, H t = some (.tup xs) → H' t = some (.tup xs)) : ∀ {vs : List V} {rs : List Rw}, RAll H vs rs → RAll H' vs rs
  | _, _, .nil => .nil
  | _, _, .cons a b k => .cons (s _ _ a) (s _ _ b) (k.mono s)
theorem RAll.same {H H' : Hp} (s : Same H H') {vs : List V} {rs : List Rw} (h : RAll H vs rs) : RAll H' vs rs := h.mono fun _ _ e => s _ _ e
theorem RAll.kp {H H' : Hp} (k : Kp H H') {vs : List V} {rs : List Rw} (h : RAll H vs rs) : RAll H' vs rs := h.mono fun _ _ e => k.tup e
theorem RAll.length {H : Hp} : ∀ {vs : List V} {rs : List Rw}, RAll H vs rs → vs.length = rs.length
  | _, _, .nil => rfl
  | _, _, .cons _ _ k => congrArg (· + 1) k.length
theorem RAll.append {H : Hp} : ∀ {vs us : List V} {ts ss : List Rw}, RAll H vs ts → RAll H us ss → RAll H (vs ++ us) (ts ++ ss)
  | _, _, _, _, .nil, k => k
  | _, _, _, _, .cons a b k, z => .cons a b (k.append z)
theorem RAll.take {H : Hp} : ∀ {vs : List V} {ts : List Rw}, RAll H vs ts → ∀ n : Nat, RAll H (vs.take n) (ts.take n)
  | _, _, .nil, n => by
    rw [List.take_nil, List.take_nil]
    exact .nil
  | _, _, .cons _ _ _, 0 => .nil
  | _, _, .cons a b k, n + 1 => .cons a b (k.take n)
theorem RAll.drop {H : Hp} : ∀ {vs : List V} {ts : List Rw}, RAll H vs ts → ∀ n : Nat, RAll H (vs.drop n) (ts.drop n)
  | _, _, .nil, n => by
    rw [List.drop_nil, List.drop_nil]
    exact .nil
  | _, _, .cons a b k, 0 => .cons a b k
  | _, _, .cons _ _ k, n + 1 => k.drop n
theorem RAll.at {H : Hp} : ∀ {vs : List V} {rs : List Rw}, RAll H vs rs → ∀ {i : Nat} {v : V}, vs[i]? = some v → ∃ p t r, v = .ref p ∧ rs[i]? = some r ∧ H p = some (.tup [.str (wordR r.1), .ref t]) ∧ H t = some (.tup (r.2.map V.int))
  | _, _, .nil, i, v, h => by
    rw [List.getElem?_nil] at h
    cases h
  | _, _, .cons a b k, 0, v, h => ⟨_, _, _, (Option.some.inj h).symm, rfl, a, b⟩
  | _, _, .cons a b k, i + 1, v, h => RAll.at k (i := i) h

/-! ### offers with a price; what is light -/
abbrev O3 := (Int × Int) × Int
abbrev O3s := List O3
def prs (os : O3s) : List (Int × Int) := os.map Prod.fst
def prO (os : O3s) (k : Int) : Int × Int := ((os[k.toNat]?).map Prod.fst).getD (0, 0)
def pcO (os : O3s) (k : Int) : Int := ((os[k.toNat]?).map Prod.snd).getD 0
def tiesO (os : O3s) (ks : List Int) : Ties := ks.map (prO os)
def BdO (os : O3s) (n : Nat) : Prop := ∀ t ∈ os, 0 ≤ t.1.1 ∧ 0 ≤ t.1.2 ∧ t.1.1 < (n : Int) ∧ t.1.2 < (n : Int)
theorem prO_at {os : O3s} {k : Int} {o : O3} (e : os[k.toNat]? = some o) : prO os k = o.1 ∧ pcO os k = o.2 := by
  unfold prO pcO
  rw [e]
  exact ⟨rfl, rfl⟩
theorem prO_of {os : O3s} {k : Int} {t : Int × Int} (e : (prs os)[k.toNat]? = some t) : prO os k = t := by
  unfold prs at e
  rw [List.getElem?_map] at e
  unfold prO
  rw [e]
  rfl
theorem prs_at {os : O3s} {k : Nat} {o : O3} (e : os[k]? = some o) : (prs os)[k]? = some o.1 := by
  unfold prs
  rw [List.getElem?_map, e]
  rfl
theorem prs_len {os : O3s} : (prs os).length = os.length := List.length_map ..
theorem in_os {os : O3s} {k : Int} (k0 : 0 ≤ k) (k1 : k < (os.length : Int)) : ∃ o, os[k.toNat]? = some o ∧ o ∈ os := by
  have l : k.toNat < os.length := by omega
  exact ⟨os[k.toNat], List.getElem?_eq_getElem l, List.getElem_mem l⟩
theorem bd_ties {os : O3s} {n : Nat} (B : BdO os n) {ks : List Int} (rg : ∀ k ∈ ks, 0 ≤ k ∧ k < (os.length : Int)) : ∀ t ∈ tiesO os ks, 0 ≤ t.1 ∧ 0 ≤ t.2 ∧ t.1 < (n : Int) ∧ t.2 < (n : Int) := fun t mt => by
  obtain ⟨k, mk, rfl⟩ := List.mem_map.mp mt
  obtain ⟨o, e, mo⟩ := in_os (rg k mk).1 (rg k mk).2
  rw [(prO_at e).1]
  exact B o mo
theorem ties_sub {os : O3s} {ks us : List Int} (h : ∀ k ∈ ks, k ∈ us) : ∀ t ∈ tiesO os ks, t ∈ tiesO os us := fun t mt => by
  obtain ⟨k, mk, rfl⟩ := List.mem_map.mp mt
  exact List.mem_map.mpr ⟨k, h k mk, rfl⟩
theorem ring_perm {n : Nat} {ts us : Ties} (h : ∀ t ∈ ts, 0 ≤ t.1 ∧ 0 ≤ t.2 ∧ t.1 < (n : Int) ∧ t.2 < (n : Int)) (p : ts.Perm us) : Ring us → Ring ts := fun g => by
  have c : cntP us n = cntP ts n := cnt_same n fun x y => ⟨rch_perm fun t => p.mem_iff.symm, rch_perm fun t => p.mem_iff⟩
  have a := (cnt_ring (n := n) ts.length rfl h).2.2
  have b := (cnt_ring (n := n) us.length rfl fun t m => h t (p.mem_iff.mpr m)).2.2
  rw [c, ← p.length_eq] at b
  exact Classical.byContradiction fun z => b.mp (a.mpr z) g
theorem ring_erase {os : O3s} {n : Nat} (B : BdO os n) {ks : List Int} (rg : ∀ k ∈ ks, 0 ≤ k ∧ k < (os.length : Int)) {e : Int} (m : e ∈ ks) (nr : ¬ Ring (tiesO os ks)) : ¬ Ring (tiesO os (ks.erase e)) ∧ ¬ Rch (tiesO os (ks.erase e)) (prO os e).1 (prO os e).2 := by
  have p : (tiesO os ks).Perm (tiesO os (ks.erase e) ++ [prO os e]) := ((List.perm_cons_erase m).map (prO os)).trans (List.perm_append_singleton _ _).symm
  have z : ¬ Ring (tiesO os (ks.erase e) ++ [prO os e]) := fun g => nr (ring_perm (bd_ties B rg) p g)
  exact ⟨fun g => z (ring_snoc.mpr (.inl g)), fun g => z (ring_snoc.mpr (.inr g))⟩
theorem ring_nd {os : O3s} {ks : List Int} (nr : ¬ Ring (tiesO os ks)) : ks.Nodup := by
  refine List.pairwise_iff_getElem.mpr fun i j hi hj lt e => nr ?_
  refine ⟨j, prO os ks[j], ?_, Rch.one (.inl ?_)⟩
  · unfold tiesO
    rw [List.getElem?_map, List.getElem?_eq_getElem hj]
    rfl
  · unfold tiesO
    rw [← List.map_take]
    refine List.mem_map.mpr ⟨ks[j], ?_, rfl⟩
    rw [← e]
    exact List.mem_of_getElem? (i := i) (by rw [List.getElem?_take_of_lt lt, List.getElem?_eq_getElem hi])
theorem adj_end {ts : Ties} {t : Int × Int} {h : Int} (m : h = t.1 ∨ h = t.2) (mt : t ∈ ts) : Adj ts h (endO t h) := by
  unfold endO
  by_cases e : h = t.1
  · rw [if_pos e, e]
    exact .inl mt
  · rw [if_neg e, m.resolve_left e]
    exact .inr mt
theorem end_back {ts : Ties} {t : Int × Int} {x : Int} (m : x = t.1 ∨ x = t.2) (r : Rch ts x (endO t x)) : Rch ts t.1 t.2 := by
  unfold endO at r
  by_cases e : x = t.1
  · rw [if_pos e, e] at r
    exact r
  · rw [if_neg e, m.resolve_left e] at r
    exact r.symm
theorem leads_rch {os : O3s} {b : Int} {ks : List Int} {a : Int} {ws : List Int} (h : Leads (prs os) b a ws) : (∀ k ∈ ws, k ∈ ks) → Rch (tiesO os ks) a b := by
  induction h with
  | nil => exact fun _ => .refl
  | @cons h n t r n0 e m k ih =>
    intro s
    have mt : t ∈ tiesO os ks := List.mem_map.mpr ⟨n, s n List.mem_cons_self, prO_of e⟩
    exact (Rch.one (adj_end m mt)).trans (ih fun k mk => s k (List.mem_cons_of_mem _ mk))
theorem leads_split {ps : Ofs} {b e : Int} {w2 : List Int} : ∀ {w1 : List Int} {a : Int}, Leads ps b a (w1 ++ e :: w2) → ∃ x t, ps[e.toNat]? = some t ∧ (x = t.1 ∨ x = t.2) ∧ Leads ps x a w1 ∧ Leads ps b (endO t x) w2
  | [], a, h => by
    cases h with
    | cons n0 e' m k => exact ⟨a, _, e', m, .nil, k⟩
  | y :: r, a, h => by
    cases h with
    | cons n0 e' m k =>
      obtain ⟨x, t, h1, h2, h3, h4⟩ := leads_split k
      exact ⟨x, t, h1, h2, .cons n0 e' m h3, h4⟩
theorem way_cut {os : O3s} {a b e : Int} {ws us : List Int} (ld : Leads (prs os) b a ws) (nd : ws.Nodup) (me : e ∈ ws) (h : ∀ k ∈ ws, k ≠ e → k ∈ us) : ∃ x, (x = (prO os e).1 ∨ x = (prO os e).2) ∧ Rch (tiesO os us) a x ∧ Rch (tiesO os us) (endO (prO os e) x) b := by
  obtain ⟨w1, w2, rfl⟩ := List.append_of_mem me
  obtain ⟨x, t, et, mx, l1, l2⟩ := leads_split ld
  have pe := prO_of et
  subst pe
  have nd2 := List.pairwise_append.mp nd
  have nd3 := List.pairwise_cons.mp nd2.2.1
  exact ⟨x, mx, leads_rch l1 fun k mk => h k (List.mem_append_left _ mk) fun z => nd2.2.2 k mk e List.mem_cons_self z, leads_rch l2 fun k mk => h k (List.mem_append_right _ (List.mem_cons_of_mem _ mk)) fun z => nd3.1 k mk z.symm⟩
theorem no_join {os : O3s} {a b e : Int} {ws us : List Int} (ld : Leads (prs os) b a ws) (nd : ws.Nodup) (me : e ∈ ws) (h : ∀ k ∈ ws, k ≠ e → k ∈ us) (nr : ¬ Rch (tiesO os us) (prO os e).1 (prO os e).2) : ¬ Rch (tiesO os us) a b := fun r => by
  obtain ⟨x, mx, r1, r2⟩ := way_cut ld nd me h
  exact nr (end_back mx (r1.symm.trans (r.trans r2.symm)))
theorem rch_bind {ts us : Ties} (h : ∀ t ∈ ts, Rch us t.1 t.2) {a b : Int} (r : Rch ts a b) : Rch us a b := by
  induction r with
  | refl => exact .refl
  | step _ e ih =>
    rcases e with e | e
    · exact ih.trans (h _ e)
    · exact ih.trans (h _ e).symm
def upTo (os : O3s) (p : Int) (ks : List Int) : List Int := ks.filter fun k => decide (pcO os k ≤ p)
theorem mem_upTo {os : O3s} {p k : Int} {ks : List Int} : k ∈ upTo os p ks ↔ k ∈ ks ∧ pcO os k ≤ p := by
  unfold upTo
  rw [List.mem_filter, decide_eq_true_eq]
def Lgt (os : O3s) (ks : List Int) (j : Int) : Prop := Rch (tiesO os (upTo os (pcO os j) ks)) (prO os j).1 (prO os j).2
theorem lgt_rch {os : O3s} {ks : List Int} {j : Int} (h : Lgt os ks j) : Rch (tiesO os ks) (prO os j).1 (prO os j).2 := h.mono (ties_sub fun _ mk => (mem_upTo.mp mk).1)
structure Kru (os : O3s) (i : Nat) (ks : List Int) : Prop where
  nr : ¬ Ring (tiesO os ks)
  rg : ∀ k ∈ ks, 0 ≤ k ∧ k < (i : Int)
  lt : ∀ j : Int, 0 ≤ j → j < (i : Int) → j ∉ ks → Lgt os ks j
section
variable {os : O3s} {n i : Nat} {ks ws : List Int} {e : Int}
theorem ties_app {us : List Int} : tiesO os (ks ++ us) = tiesO os ks ++ tiesO os us := List.map_append
theorem kru_new (Y : Kru os i ks) (no : ¬ Rch (tiesO os ks) (prO os i).1 (prO os i).2) : Kru os (i + 1) (ks ++ [(i : Int)]) := by
  refine ⟨?_, fun k mk => ?_, fun j j0 j1 nj => ?_⟩
  · rw [ties_app]
    exact fun g => (ring_snoc.mp g).elim Y.nr no
  · rcases List.mem_append.mp mk with mk | mk
    · have := Y.rg k mk
      omega
    · rw [List.mem_singleton.mp mk]
      omega
  · have ji : j ≠ (i : Int) := fun z => nj (List.mem_append_right _ (by rw [z]; exact List.mem_cons_self))
    refine (Y.lt j j0 (by omega) fun z => nj (List.mem_append_left _ z)).mono (ties_sub fun k mk => ?_)
    obtain ⟨m1, m2⟩ := mem_upTo.mp mk
    exact mem_upTo.mpr ⟨List.mem_append_left _ m1, m2⟩
theorem kru_drop (Y : Kru os i ks) (ld : Leads (prs os) (prO os i).2 (prO os i).1 ws) (sub : ∀ k ∈ ws, k ∈ ks) (le : ∀ k ∈ ws, pcO os k ≤ pcO os i) : Kru os (i + 1) ks := by
  refine ⟨Y.nr, fun k mk => ?_, fun j j0 j1 nj => ?_⟩
  · have := Y.rg k mk
    omega
  · by_cases e : j = (i : Int)
    · rw [e]
      exact leads_rch ld fun k mk => mem_upTo.mpr ⟨sub k mk, le k mk⟩
    · exact Y.lt j j0 (by omega) nj
theorem kru_swap (B : BdO os n) (il : i < os.length) (Y : Kru os i ks) (ld : Leads (prs os) (prO os i).2 (prO os i).1 ws) (nd : ws.Nodup) (sub : ∀ k ∈ ws, k ∈ ks) (me : e ∈ ws) (mx : ∀ k ∈ ws, pcO os k ≤ pcO os e) (lt : pcO os i < pcO os e) : Kru os (i + 1) (ks.erase e ++ [(i : Int)]) := by
  have rg : ∀ k ∈ ks, 0 ≤ k ∧ k < (os.length : Int) := fun k mk => by
    have := Y.rg k mk
    omega
  obtain ⟨n1, n2⟩ := ring_erase B rg (sub e me) Y.nr
  have inE : ∀ k, k ∈ ks → k ≠ e → k ∈ ks.erase e := fun k mk ne => (List.mem_erase_of_ne ne).mpr mk
  have nj := no_join ld nd me (fun k mk ne => inE k (sub k mk) ne) n2
  have mi : (i : Int) ∈ ks.erase e ++ [(i : Int)] := List.mem_append_right _ List.mem_cons_self
  have chain : ∀ p, pcO os e ≤ p → Rch (tiesO os (upTo os p (ks.erase e ++ [(i : Int)]))) (prO os e).1 (prO os e).2 := fun p hp => by
    obtain ⟨x, hx, r1, r2⟩ := way_cut (us := upTo os p (ks.erase e ++ [(i : Int)])) ld nd me fun k mk ne => mem_upTo.mpr ⟨List.mem_append_left _ (inE k (sub k mk) ne), by have := mx k mk; omega⟩
    refine end_back hx (r1.symm.trans (Rch.trans (Rch.one (.inl ?_)) r2.symm))
    exact List.mem_map.mpr ⟨(i : Int), mem_upTo.mpr ⟨mi, by omega⟩, rfl⟩
  refine ⟨?_, fun k mk => ?_, fun j j0 j1 nmj => ?_⟩
  · rw [ties_app]
    exact fun g => (ring_snoc.mp g).elim n1 nj
  · rcases List.mem_append.mp mk with mk | mk
    · have := Y.rg k (List.mem_of_mem_erase mk)
      omega
    · rw [List.mem_singleton.mp mk]
      omega
  · have ji : j ≠ (i : Int) := fun z => nmj (z ▸ mi)
    by_cases je : j = e
    · rw [je]
      exact chain _ (Int.le_refl _)
    · refine rch_bind (fun t mt => ?_) (Y.lt j j0 (by omega) fun z => nmj (List.mem_append_left _ (inE j z je)))
      obtain ⟨k, mk, rfl⟩ := List.mem_map.mp mt
      obtain ⟨m1, m2⟩ := mem_upTo.mp mk
      by_cases ke : k = e
      · rw [ke] at m2 ⊢
        exact chain _ m2
      · exact Rch.one (.inl (List.mem_map.mpr ⟨k, mem_upTo.mpr ⟨List.mem_append_left _ (inE k m1 ke), m2⟩, rfl⟩))
theorem kru_pay (B : BdO os n) (Y : Kru os os.length ks) {j : Int} (j0 : 0 ≤ j) (j1 : j < (os.length : Int)) (nj : j ∉ ks) (ld : Leads (prs os) (prO os j).2 (prO os j).1 ws) (nd : ws.Nodup) (sub : ∀ k ∈ ws, k ∈ ks) : ∀ k ∈ ws, pcO os k ≤ pcO os j := fun e me => by
  by_cases z : pcO os e ≤ pcO os j
  · exact z
  exfalso
  obtain ⟨n1, n2⟩ := ring_erase B Y.rg (sub e me) Y.nr
  refine no_join ld nd me (fun k mk ne => (List.mem_erase_of_ne ne).mpr (sub k mk)) n2 ((Y.lt j j0 j1 nj).mono (ties_sub fun k mk => ?_))
  obtain ⟨m1, m2⟩ := mem_upTo.mp mk
  exact (List.mem_erase_of_ne (fun ke : k = e => z (ke ▸ m2))).mpr m1
end
/-! what a paper must show -/
abbrev NR := Int × List Int
def GoodW (os : O3s) (ks : List Int) (j : Int) (ws : List Int) : Prop := ws.Nodup ∧ (∀ k ∈ ws, k ∈ ks ∧ pcO os k ≤ pcO os j) ∧ Leads (prs os) (prO os j).2 (prO os j).1 ws
def goneO (m : Nat) (ks : List Int) : List Int := ((List.range m).map fun i : Nat => (i : Int)).filter fun j => !decide (j ∈ ks)
theorem mem_gone {m : Nat} {ks : List Int} {j : Int} : j ∈ goneO m ks ↔ (0 ≤ j ∧ j < (m : Int)) ∧ j ∉ ks := by
  unfold goneO
  rw [List.mem_filter, List.mem_map]
  constructor
  · rintro ⟨⟨i, mi, rfl⟩, h⟩
    have := List.mem_range.mp mi
    exact ⟨by omega, fun z => by rw [decide_eq_true z] at h; cases h⟩
  · rintro ⟨h, nj⟩
    exact ⟨⟨j.toNat, List.mem_range.mpr (by omega), by omega⟩, by rw [decide_eq_false nj]; rfl⟩
structure Shw (os : O3s) (ks : List Int) (rs : List NR) : Prop where
  up : ks.Pairwise (· < ·)
  nr : ¬ Ring (tiesO os ks)
  hd : rs.map Prod.fst = goneO os.length ks
  ok : ∀ r ∈ rs, GoodW os ks r.1 r.2

/-! ### offers in the heap -/
inductive OAll (H : Hp) : List V → List O3 → Prop
  | nil : OAll H [] []
  | cons {t : Addr} {x y z : Int} {vs : List V} {ts : List O3} : H t = some (.tup [.int x, .int y, .int z]) → OAll H vs ts → OAll H (.ref t :: vs) (((x, y), z) :: ts)
theorem OAll.mono {H H' : Hp} (s : ∀ t x y z, H t = some (.tup [.int x, .int y, .int z]) → H' t = some (.tup [.int x, .int y, .int z])) : ∀ {vs : List V} {ts : List O3}, OAll H vs ts → OAll H' vs ts
  | _, _, .nil => .nil
  | _, _, .cons h k => .cons (s _ _ _ _ h) (OAll.mono s k)
theorem OAll.same {H H' : Hp} (s : Same H H') {vs : List V} {ts : List O3} (h : OAll H vs ts) : OAll H' vs ts := h.mono fun _ _ _ _ e => s _ _ e
theorem OAll.kp {H H' : Hp} (k : Kp H H') {vs : List V} {ts : List O3} (h : OAll H vs ts) : OAll H' vs ts := h.mono fun _ _ _ _ e => k _ _ e (by intro ps z; cases z)
theorem OAll.put {H : Hp} {l : Addr} {xs : List V} {o : HO} (e : H l = some (.lst xs)) {vs : List V} {ts : List O3} (h : OAll H vs ts) : OAll (upd H l o) vs ts := h.mono fun t _ _ _ z => by
  rw [upd_ne (ne_of z e (by intro z; cases z))]
  exact z
theorem OAll.snoc {H : Hp} {t : Addr} {x y z : Int} (e : H t = some (.tup [.int x, .int y, .int z])) : ∀ {vs : List V} {ts : List O3}, OAll H vs ts → OAll H (vs ++ [.ref t]) (ts ++ [((x, y), z)])
  | _, _, .nil => .cons e .nil
  | _, _, .cons h k => .cons h (OAll.snoc e k)
theorem OAll.append {H : Hp} : ∀ {vs us : List V} {ts ss : List O3}, OAll H vs ts → OAll H us ss → OAll H (vs ++ us) (ts ++ ss)
  | _, _, _, _, .nil, k => k
  | _, _, _, _, .cons h k, z => .cons h (k.append z)
theorem OAll.take {H : Hp} : ∀ {vs : List V} {ts : List O3}, OAll H vs ts → ∀ n : Nat, OAll H (vs.take n) (ts.take n)
  | _, _, .nil, n => by
    rw [List.take_nil, List.take_nil]
    exact .nil
  | _, _, .cons h k, 0 => .nil
  | _, _, .cons h k, n + 1 => .cons h (k.take n)
theorem OAll.drop {H : Hp} : ∀ {vs : List V} {ts : List O3}, OAll H vs ts → ∀ n : Nat, OAll H (vs.drop n) (ts.drop n)
  | _, _, .nil, n => by
    rw [List.drop_nil, List.drop_nil]
    exact .nil
  | _, _, .cons h k, 0 => .cons h k
  | _, _, .cons h k, n + 1 => k.drop n
theorem OAll.length {H : Hp} : ∀ {vs : List V} {ts : List O3}, OAll H vs ts → vs.length = ts.length
  | _, _, .nil => rfl
  | _, _, .cons _ k => congrArg (· + 1) k.length
theorem OAll.at {H : Hp} : ∀ {vs : List V} {ts : List O3}, OAll H vs ts → ∀ {i : Nat} {v : V}, vs[i]? = some v → ∃ t u, v = .ref t ∧ ts[i]? = some u ∧ H t = some (.tup [.int u.1.1, .int u.1.2, .int u.2])
  | _, _, .nil, i, v, h => by
    rw [List.getElem?_nil] at h
    cases h
  | _, _, .cons (t := t) (x := x) (y := y) (z := z) e r, 0, v, h => ⟨t, ((x, y), z), (Option.some.inj h).symm, rfl, e⟩
  | _, _, .cons e r, i + 1, v, h => OAll.at r (i := i) h
theorem OAll.get {H : Hp} : ∀ {vs : List V} {ts : List O3}, OAll H vs ts → ∀ {i : Nat} {u : O3}, ts[i]? = some u → ∃ t, vs[i]? = some (.ref t) ∧ H t = some (.tup [.int u.1.1, .int u.1.2, .int u.2])
  | _, _, .nil, i, u, h => by
    rw [List.getElem?_nil] at h
    cases h
  | _, _, .cons (t := t) e r, 0, u, h => by
    cases Option.some.inj h
    exact ⟨t, rfl, e⟩
  | _, _, .cons e r, i + 1, u, h => OAll.get r (i := i) h
/-- the pair at a number -/
theorem OAll.ix {H : Hp} {vs : List V} {ts : List O3} (h : OAll H vs ts) {n : Int} {u : O3} (n0 : 0 ≤ n) (hu : ts[n.toNat]? = some u) : ∃ t, atI vs n = some (.ref t) ∧ H t = some (.tup [.int u.1.1, .int u.1.2, .int u.2]) := by
  obtain ⟨t, h1, h2⟩ := h.get hu
  have e : n = ((n.toNat : Nat) : Int) := (Int.toNat_of_nonneg n0).symm
  exact ⟨t, by rw [e]; exact atI_nat h1, h2⟩
/-- rows in the heap -/
inductive NAll (H : Hp) : List V → List NR → Prop
  | nil : NAll H [] []
  | cons {p t : Addr} {h : Int} {ns : List Int} {vs : List V} {rs : List NR} : H p = some (.tup [.int h, .ref t]) → H t = some (.tup (ns.map V.int)) → NAll H vs rs → NAll H (.ref p :: vs) ((h, ns) :: rs)
theorem NAll.mono {H H' : Hp} (s : ∀ t xs, H t = some (.tup xs) → H' t = some (.tup xs)) : ∀ {vs : List V} {rs : List NR}, NAll H vs rs → NAll H' vs rs
  | _, _, .nil => .nil
  | _, _, .cons a b k => .cons (s _ _ a) (s _ _ b) (k.mono s)
theorem NAll.same {H H' : Hp} (s : Same H H') {vs : List V} {rs : List NR} (h : NAll H vs rs) : NAll H' vs rs := h.mono fun _ _ e => s _ _ e
theorem NAll.kp {H H' : Hp} (k : Kp H H') {vs : List V} {rs : List NR} (h : NAll H vs rs) : NAll H' vs rs := h.mono fun _ _ e => k.tup e
theorem NAll.length {H : Hp} : ∀ {vs : List V} {rs : List NR}, NAll H vs rs → vs.length = rs.length
  | _, _, .nil => rfl
  | _, _, .cons _ _ k => congrArg (· + 1) k.length
theorem NAll.append {H : Hp} : ∀ {vs us : List V} {ts ss : List NR}, NAll H vs ts → NAll H us ss → NAll H (vs ++ us) (ts ++ ss)
  | _, _, _, _, .nil, k => k
  | _, _, _, _, .cons a b k, z => .cons a b (k.append z)
theorem NAll.take {H : Hp} : ∀ {vs : List V} {ts : List NR}, NAll H vs ts → ∀ n : Nat, NAll H (vs.take n) (ts.take n)
  | _, _, .nil, n => by
    rw [List.take_nil, List.take_nil]
    exact .nil
  | _, _, .cons _ _ _, 0 => .nil
  | _, _, .cons a b k, n + 1 => .cons a b (k.take n)
theorem NAll.drop {H : Hp} : ∀ {vs : List V} {ts : List NR}, NAll H vs ts → ∀ n : Nat, NAll H (vs.drop n) (ts.drop n)
  | _, _, .nil, n => by
    rw [List.drop_nil, List.drop_nil]
    exact .nil
  | _, _, .cons a b k, 0 => .cons a b k
  | _, _, .cons _ _ k, n + 1 => k.drop n
theorem NAll.at {H : Hp} : ∀ {vs : List V} {rs : List NR}, NAll H vs rs → ∀ {i : Nat} {v : V}, vs[i]? = some v → ∃ p t r, v = .ref p ∧ rs[i]? = some r ∧ H p = some (.tup [.int r.1, .ref t]) ∧ H t = some (.tup (r.2.map V.int))
  | _, _, .nil, i, v, h => by
    rw [List.getElem?_nil] at h
    cases h
  | _, _, .cons a b k, 0, v, h => ⟨_, _, _, (Option.some.inj h).symm, rfl, a, b⟩
  | _, _, .cons a b k, i + 1, v, h => NAll.at k (i := i) h

end My
namespace My
open PySem L2
/-! ### the program: papers of what holds -/
theorem risP {ns : List Int} {i : Nat} {u v : Int} (hu : ns[i]? = some u) (hv : ns[i + 1]? = some v) (h : ¬ u < v) : ¬ ns.Pairwise (· < ·) := fun pw => by
  obtain ⟨l1, e1⟩ := List.getElem?_eq_some_iff.mp hu
  obtain ⟨l2, e2⟩ := List.getElem?_eq_some_iff.mp hv
  have lt := List.pairwise_iff_getElem.mp pw i (i + 1) l1 l2 (by omega)
  rw [e1, e2] at lt
  exact h lt
theorem ris_all : ∀ {l : List Int}, (∀ (i : Nat) (s t : Int), l[i]? = some s → l[i + 1]? = some t → s < t) → l.Pairwise (· < ·)
  | [], _ => .nil
  | [x], _ => List.pairwise_singleton ..
  | x :: y :: r, h => by
    have ih : (y :: r).Pairwise (· < ·) := ris_all fun i s t h1 h2 => h (i + 1) s t h1 h2
    have xy : x < y := h 0 x y rfl rfl
    refine List.pairwise_cons.mpr ⟨fun z hz => ?_, ih⟩
    rcases List.mem_cons.mp hz with rfl | hz
    · exact xy
    · have := (List.pairwise_cons.mp ih).1 z hz
      omega
theorem nd_le : ∀ {out ns : List Int}, out.Nodup → (∀ k ∈ out, k ∈ ns) → out.length ≤ ns.length
  | [], _, _, _ => Nat.zero_le _
  | x :: r, ns, nd, h => by
    have nd' := List.nodup_cons.mp nd
    have mx := h x List.mem_cons_self
    have z := nd_le (ns := ns.erase x) nd'.2 fun k hk => (List.mem_erase_of_ne (a := k) (b := x) (fun e : k = x => nd'.1 (e ▸ hk))).mpr (h k (List.mem_cons_of_mem _ hk))
    have z2 := List.length_erase_of_mem mx
    have z3 : 0 < ns.length := List.length_pos_of_mem mx
    rw [List.length_cons]
    omega
theorem nd_dup : ∀ {ns : List Int}, ¬ ns.Nodup → ∃ l : List Int, l.length + 1 = ns.length ∧ ∀ k ∈ ns, k ∈ l
  | [], h => absurd List.nodup_nil h
  | x :: r, h => by
    by_cases m : x ∈ r
    · exact ⟨r, rfl, fun k hk => (List.mem_cons.mp hk).elim (fun e => e ▸ m) id⟩
    · obtain ⟨l, ll, hl⟩ := nd_dup (fun z => h (List.nodup_cons.mpr ⟨m, z⟩))
      exact ⟨x :: l, by rw [List.length_cons, List.length_cons, ← ll], fun k hk => (List.mem_cons.mp hk).elim (fun e => e ▸ List.mem_cons_self) fun z => List.mem_cons_of_mem _ (hl k z)⟩
theorem nd_len {out ns : List Int} (nd : out.Nodup) (mem : ∀ k, k ∈ out ↔ k ∈ ns) : out.length = ns.length ↔ ns.Nodup := by
  constructor
  · intro e
    by_cases h : ns.Nodup
    · exact h
    · obtain ⟨l, ll, hl⟩ := nd_dup h
      have := nd_le nd fun k hk => hl k ((mem k).mp hk)
      omega
  · intro h
    exact Nat.le_antisymm (nd_le nd fun k hk => (mem k).mp hk) (nd_le h fun k hk => (mem k).mpr hk)
theorem atI_up {ab : List Int} {q x : Int} (q0 : 0 ≤ q) (h : ab[q.toNat]? = some x) : atI (ab.map V.int) q = some (.int x) := by
  have e : q = ((q.toNat : Nat) : Int) := (Int.toNat_of_nonneg q0).symm
  rw [e]
  refine atI_nat ?_
  rw [List.getElem?_map, h]
  rfl
theorem ix_up {n : Nat} {q : Int} (q0 : 0 ≤ q) (h : q.toNat < n) : ixN n q = some q.toNat := by
  unfold ixN
  rw [if_pos q0]
  simp
  omega
theorem ringB_t {ts : Ties} (h : Ring ts) : ringB ts = true := by
  classical
  unfold ringB
  exact decide_eq_true h
theorem ringB_f {ts : Ties} (h : ¬ Ring ts) : ringB ts = false := by
  classical
  unfold ringB
  exact decide_eq_false h
section
variable {P : Program} {w : World} {K : PySem.W.Frag} {mg : Str → Option Value} {base : Heap}
def spWholeI : Sp := fun vs H Q _ => ∃ i : Int, vs = [.int i] ∧ Q (.bl true) H
theorem ok_wholeI (T : Top K mg) : FnOk P w K mg base CX0 1 T.a_iswhole T.d_iswhole ["thing"] spWholeI := by
  refine T.F_iswhole.ok sc_iswhole (fun vs H Q E h => ?_) (fun cdv A outer s H vs Q E hr h => ?_)
  · obtain ⟨i, rfl, _⟩ := h
    rfl
  · obtain ⟨i, rfl, q⟩ := h
    refine ⟨_, (pss_one (ps_ret (pe_and (pe_callB call_isi (by rfl) T.m_isinstance (by decide +kernel) (pa_cons (pv 0) (pa_cons (pe_bltn (v := .ty "int") (by rfl) T.m_int (by decide +kernel) rfl) pa_nil))) (pe_one (pe_not (pe_callB call_isi (by rfl) T.m_isinstance (by decide +kernel) (pa_cons (pv 0) (pa_cons (pe_bltn (v := .ty "bool") (by rfl) T.m_bool (by decide +kernel) rfl) pa_nil)))))))), ?_⟩
    refine ⟨_, rfl, _, _, _, _, true, rfl, ClsV.ty _, .base (.int i), kit_ty (by decide +kernel), _, rfl, iteT ?_⟩
    exact ⟨_, rfl, _, _, _, _, false, rfl, ClsV.ty _, .base (.int i), kit_ty (by decide +kernel), _, rfl, q⟩
def spWholes (T : Top K mg) : Sp := fun vs H Q _ => ∃ (a : Addr) (ns : List Int), vs = [.ref a] ∧ H a = some (.tup (ns.map V.int)) ∧ Tb T.tbs H ∧ ∀ H', Kp H H' → Tb T.tbs H' → Q (.bl true) H'
theorem ok_wholes (T : Top K mg) (TB : GxR.TabB base mg T.cA T.PA) : FnOk P w K mg base CX0 3 T.a_arewholes T.d_arewholes ["thing"] (spWholes T) := by
  have G_iswhole : FnOk P w K mg base CX0 1 _ _ _ _ := ok_wholeI T
  refine okC T.F_arewholes T.hcA sc_arewholes (fun vs H Q E h => ?_) (fun A outer s H vs Q E hr h => ?_)
  · obtain ⟨a, ns, rfl, _⟩ := h
    rfl
  · obtain ⟨a, ns, rfl, ha, tb, q⟩ := h
    refine ⟨_, (pss_one (ps_ret (pe_and (pe_callB call_isi (by rfl) T.m_isinstance (by decide +kernel) (pa_cons (pv 0) (pa_cons (pe_bltn (v := .ty "tuple") (by rfl) T.m_tuple (by decide +kernel) rfl) pa_nil))) (pe_one (pe_allG (own := [("part", 1)]) hr rfl sc_arewholes.nd (by rfl) T.m_all (by decide +kernel) TB rfl (blkOk_by (own := [("part", 1)]) (N := ["thing", "part"]) (sc := defScope s_arewholes) (by decide +kernel)) (by rfl) (by decide +kernel) (by rfl) (pi_tup (pv 0)) (fun _ _ _ _ _ _ _ => (pg_name (i := 1) sc_arewholes.nd rfl (.inl rfl) (hf := Or.inr rfl))) (fun _ _ _ _ _ _ _ hr' => (pe_call G_iswhole hr' (by rfl) T.g_iswhole T.F_iswhole.kp T.b_iswhole .nil pass0 (pa_cons (pv 1) pa_nil)))))))), ?_⟩
    refine ⟨_, rfl, _, _, _, _, true, rfl, ClsV.ty _, .base (.tup ha), kit_ty (by decide +kernel), _, rfl, iteT ?_⟩
    refine ⟨_, rfl, a, rfl, ⟨_, SqT.of ha⟩, tb.g T.mA, fun H2 tab => ?_⟩
    have k2 := Kp.of_tabd (tb.g T.mA) tab
    have tb2 := tb.tab T.nd T.mA (But.of_tab tab) tab.1
    refine gturns_it (walk_tup (xs := ns.map V.int)) (fun i H3 => Kp H H3 ∧ Tb T.tbs H3) ⟨k2, tb2⟩ (fun i H3 _ z => SqT.of (z.1.tup ha)) ?_ (fun H3 z => q H3 z.1 z.2)
    rintro i x H3 H4 N hi ⟨k3, tb3⟩ ⟨rfl, hx⟩ nx
    rw [List.getElem?_map] at hx
    obtain ⟨u, hu, rfl⟩ := Option.map_eq_some_iff.mp hx
    exact ⟨rfl, _, rfl, u, rfl, true, rfl, iteT (nx _ ⟨k3, tb3⟩)⟩
def spRis (T : Top K mg) : Sp := fun vs H Q _ => ∃ (a : Addr) (ns : List Int), vs = [.ref a] ∧ H a = some (.tup (ns.map V.int)) ∧ Tb T.tbs H ∧ ∀ H', Kp H H' → Tb T.tbs H' → Q (.bl (decide (ns.Pairwise (· < ·)))) H'
theorem ok_ris (T : Top K mg) (TB : GxR.TabB base mg T.cR T.PR) : FnOk P w K mg base CX0 2 T.a_isrising T.d_isrising ["row"] (spRis T) := by
  refine okC T.F_isrising T.hcR sc_isrising (fun vs H Q E h => ?_) (fun A outer s H vs Q E hr h => ?_)
  · obtain ⟨a, ns, rfl, _⟩ := h
    rfl
  · obtain ⟨a, ns, rfl, ha, tb, q⟩ := h
    refine ⟨_, (pss_one (ps_ret (pe_allG (own := [("low", 1), ("high", 2)]) hr rfl sc_isrising.nd (by rfl) T.m_all (by decide +kernel) TB rfl (blkOk_by (own := [("low", 1), ("high", 2)]) (N := ["row", "low", "high"]) (sc := defScope s_isrising) (by decide +kernel)) (by rfl) (by decide +kernel) (by rfl) (RZ.pi_zipA (by rfl) T.m_zip (pa_cons (pv 0) (pa_cons (pe_slice sl_tupA (pv 0) (po_some pe_int) po_none) pa_nil))) (fun _ _ _ _ _ _ _ => (pg_tupK (K := K) (n := 2) rfl rfl (pgs_cons (pg_name (i := 1) sc_isrising.nd rfl (.inl rfl) (hf := Or.inr rfl)) (pgs_cons (pg_name (i := 2) sc_isrising.nd rfl (.inl rfl) (hf := Or.inr rfl)) pgs_nil)) rfl)) (fun _ _ _ _ _ _ _ hr' => (pe_cmpR op_lt (pv 1) (pv 2) (nomark _)))))), ?_⟩
    cases ns with
    | nil =>
      refine ⟨_, rfl, _, rfl, 1, rfl, a, _, rfl, SqT.of ha, fun _ => ?_, fun nw => absurd nil_whole nw⟩
      refine ⟨a, a, _, _, rfl, .inr ⟨SqT.of ha, SqT.of ha, tb.g T.mR, fun H2 tab => ?_⟩⟩
      have k2 := Kp.of_tabd (tb.g T.mR) tab
      have tb2 := tb.tab T.nd T.mR (But.of_tab tab) tab.1
      refine gturns_it (walk_zipT (xs := []) (ys := []) (n := 0) rfl) (fun i H3 => Kp H H3 ∧ Tb T.tbs H3) ⟨k2, tb2⟩ (fun i H3 _ z => ⟨SqT.of (z.1.tup ha), SqT.of (z.1.tup ha)⟩) (fun i x H3 H4 N hi => absurd hi (Nat.not_lt_zero _)) (fun H3 z => ?_)
      have y := q H3 z.1 z.2
      rw [decide_eq_true List.Pairwise.nil] at y
      exact y
    | cons n0 nr =>
    refine ⟨_, rfl, _, rfl, 1, rfl, a, _, rfl, SqT.of ha, fun wh => absurd wh not_whole, fun _ p np => ?_⟩
    have ec : cutV ((n0 :: nr).map V.int) (some 1) none = nr.map V.int := cut_tail _ _
    rw [ec]
    have sp := same_new (o := .tup (nr.map V.int)) np
    have hp : upd H p (.tup (nr.map V.int)) p = some (.tup (nr.map V.int)) := upd_same
    have ha1 := sp _ _ ha
    have tb1 := tb.same sp
    have k1 := Kp.of_same sp
    generalize upd H p (.tup (nr.map V.int)) = H1 at sp hp ha1 tb1 k1 ⊢
    refine ⟨a, p, _, _, rfl, .inr ⟨SqT.of ha1, SqT.of hp, tb1.g T.mR, fun H2 tab => ?_⟩⟩
    have k2 := Kp.of_tabd (tb1.g T.mR) tab
    have tb2 := tb1.tab T.nd T.mR (But.of_tab tab) tab.1
    refine gturns_it (walk_zipT (xs := (n0 :: nr).map V.int) (ys := nr.map V.int) (n := nr.length) (by rw [List.length_map, List.length_map, List.length_cons]; omega)) (fun i H3 => Kp H1 H3 ∧ Tb T.tbs H3 ∧ ∀ (j : Nat) (s t : Int), j < i → (n0 :: nr)[j]? = some s → (n0 :: nr)[j + 1]? = some t → s < t) ⟨k2, tb2, fun j s t z => absurd z (Nat.not_lt_zero _)⟩ (fun i H3 _ z => ⟨SqT.of (z.1.tup ha1), SqT.of (z.1.tup hp)⟩) ?_ (fun H3 z => ?_)
    · rintro i x H3 H4 N hi ⟨k3, tb3, c3⟩ ⟨t, x, y, rfl, nt, rfl, hx, hy⟩ nx
      dsimp only at hx hy
      rw [List.getElem?_map] at hx hy
      obtain ⟨u, hu, rfl⟩ := Option.map_eq_some_iff.mp hx
      obtain ⟨v, hv, rfl⟩ := Option.map_eq_some_iff.mp hy
      have st := same_new (o := .tup [V.int u, V.int v]) nt
      have hv' : (n0 :: nr)[i + 1]? = some v := hv
      refine ⟨t, _, rfl, SqT.of upd_same, rfl, _, _, rfl, _, _, rfl, rfl, rfl, _, rfl, _, rfl, _, _, rfl, rfl, decide (u < v), rfl, ?_⟩
      by_cases e : u < v
      · rw [decide_eq_true e]
        refine iteT (nx _ ⟨k3.same st, tb3.same st, fun j s t z h1 h2 => ?_⟩)
        by_cases ej : j < i
        · exact c3 j s t ej h1 h2
        · have ej : j = i := by omega
          subst ej
          rw [hu] at h1
          rw [hv'] at h2
          cases Option.some.inj h1
          cases Option.some.inj h2
          exact e
      · rw [decide_eq_false e]
        refine iteF ?_
        have z := q _ (k1.trans (k3.same st)) (tb3.same st)
        rw [decide_eq_false (risP hu hv' e)] at z
        exact z
    · obtain ⟨k3, tb3, c3⟩ := z
      have z := q H3 (k1.trans k3) tb3
      rw [decide_eq_true (ris_all fun i s t h1 h2 => ?_)] at z
      · exact z
      · have l2 := (List.getElem?_eq_some_iff.mp h2).1
        rw [List.length_cons] at l2
        exact c3 i s t (by omega) h1 h2
def spOffs (T : Top K mg) : Sp := fun vs H Q _ => ∃ (o t : Addr) (ys : List V) (ns : List Int), vs = [.ref o, .ref t] ∧ H o = some (.tup ys) ∧ H t = some (.tup (ns.map V.int)) ∧ ns.length ≤ 1000 ∧ Tb T.tbs H ∧ ∀ H', Kp H H' → Tb T.tbs H' → Q (.bl (dcd (ns.Nodup ∧ ∀ x ∈ ns, 0 ≤ x ∧ x < (ys.length : Int)))) H'
theorem ok_areoffers (T : Top K mg) (TBA : GxR.TabB base mg T.cA T.PA) (TB : GxR.TabB base mg T.cO T.PO) : FnOk P w K mg base CX0 4 T.a_areoffers T.d_areoffers ["offers", "thing"] (spOffs T) := by
  have G_arewholes : FnOk P w K mg base CX0 3 _ _ _ _ := ok_wholes T TBA
  refine okC T.F_areoffers T.hcO sc_areoffers (fun vs H Q E h => ?_) (fun A outer s H vs Q E hr h => ?_)
  · obtain ⟨o, t, ys, ns, rfl, _⟩ := h
    rfl
  · obtain ⟨o, t, ys, ns, rfl, ho, ht, len, tb, q⟩ := h
    refine ⟨_, (pss_cons (ps_if (PW.pt (pw_or (pt_not (pt_val (pe_call G_arewholes hr (by rfl) T.g_arewholes T.F_arewholes.kp T.b_arewholes .nil pass0 (pa_cons (pv 1) pa_nil)))) (pw_or1 (pt_cmpR op_ne (pe_lenSetT rfl (by rfl) T.m_len (by rfl) T.m_set (pv 1)) (pe_callB call_len_seq (by rfl) T.m_len PySem.boot_len (pa_cons (pv 1) pa_nil)) (nomark _))))) (pss_one (ps_ret pe_bl)) pss_nil)
      (pss_one (ps_ret (pe_allG (own := [("number", 2)]) hr rfl sc_areoffers.nd (by rfl) T.m_all (by decide +kernel) TB rfl (blkOk_by (own := [("number", 2)]) (N := ["offers", "thing", "number"]) (sc := defScope s_areoffers) (by decide +kernel)) (by rfl) (by decide +kernel) (by rfl) (pi_tup (pv 1)) (fun _ _ _ _ _ _ _ => (pg_name (i := 2) sc_areoffers.nd rfl (.inl rfl) (hf := Or.inr rfl))) (fun _ _ _ _ _ _ _ hr' => (pe_chain op_le op_lt pe_int (pv 2) (pe_callB (call_len_seqK (K := K) rfl) (by rfl) T.m_len PySem.boot_len (pa_cons (pv 0) pa_nil)))))))), ?_⟩
    refine ⟨_, rfl, t, ns, rfl, ht, tb, fun H1 k1 tb1 => ⟨_, rfl, iteF ?_⟩⟩
    have ht1 := k1.tup ht
    have ho1 := k1.tup ho
    have no : ∀ {H'}, Kp H1 H' → Tb T.tbs H' → ¬ (ns.Nodup ∧ ∀ x ∈ ns, 0 ≤ x ∧ x < (ys.length : Int)) → Q (.bl false) H' := fun {H'} k t' z => by
      have y := q H' (k1.trans k) t'
      rw [dcd_f z] at y
      exact y
    refine ⟨_, rfl, t, ns, rfl, SqT.of ht1, len, fun out nod mem => ⟨_, rfl, t, _, rfl, .inr (SqT.of ht1), rfl, _, rfl, ite2 (fun z => ?_) (fun z => ?_)⟩⟩
    · refine no (Kp.refl H1) tb1 fun y => ne_int z ?_
      rw [List.length_map, (nd_len nod mem).mpr y.1]
    have nd : ns.Nodup := (nd_len nod mem).mp (by
      have := eq_int z
      rw [List.length_map] at this
      omega)
    clear z
    refine ⟨_, rfl, t, rfl, ⟨_, SqT.of ht1⟩, tb1.g T.mO, fun H2 tab => ?_⟩
    have k2 := Kp.of_tabd (tb1.g T.mO) tab
    have tb2 := tb1.tab T.nd T.mO (But.of_tab tab) tab.1
    refine gturns_it (walk_tup (xs := ns.map V.int)) (fun i H3 => Kp H1 H3 ∧ Tb T.tbs H3 ∧ ∀ x ∈ ns.take i, 0 ≤ x ∧ x < (ys.length : Int)) ⟨k2, tb2, fun x z => nomatch z⟩ (fun i H3 _ z => SqT.of (z.1.tup ht1)) ?_ (fun H3 z => ?_)
    · rintro i x H3 H4 N hi ⟨k3, tb3, al3⟩ ⟨rfl, hx⟩ nx
      rw [List.getElem?_map] at hx
      obtain ⟨u, hu, rfl⟩ := Option.map_eq_some_iff.mp hx
      have mu := List.mem_of_getElem? hu
      refine ⟨rfl, _, rfl, _, _, rfl, rfl, decide (0 ≤ u), rfl, ?_⟩
      by_cases g0 : 0 ≤ u
      · rw [decide_eq_true g0]
        refine iteT ?_
        refine ⟨_, rfl, o, _, rfl, .inr (SqT.of (k3.tup ho1)), _, _, rfl, rfl, decide (u < (ys.length : Int)), rfl, ?_⟩
        by_cases g1 : u < (ys.length : Int)
        · rw [decide_eq_true g1]
          refine iteT (nx _ ⟨k3, tb3, fun x mx => ?_⟩)
          rw [take_at hu] at mx
          rcases List.mem_append.mp mx with mx | mx
          · exact al3 x mx
          · rw [List.mem_singleton.mp mx]
            exact ⟨g0, g1⟩
        · rw [decide_eq_false g1]
          exact iteF (no k3 tb3 fun y => g1 (y.2 u mu).2)
      · rw [decide_eq_false g0]
        exact iteF ⟨false, rfl, iteF (no k3 tb3 fun y => g0 (y.2 u mu).1)⟩
    · obtain ⟨k3, tb3, al3⟩ := z
      rw [List.length_map, List.take_length] at al3
      have z := q H3 (k1.trans k3) tb3
      rw [dcd_t ⟨nd, al3⟩] at z
      exact z
def spLeads : Sp := fun vs H Q _ => ∃ (o t : Addr) (a b : Int) (ys : List V) (os : O3s) (ns : List Int), vs = [.ref o, .ref t, .int a, .int b] ∧ H o = some (.tup ys) ∧ OAll H ys os ∧ H t = some (.tup (ns.map V.int)) ∧ (∀ x ∈ ns, 0 ≤ x ∧ x < (os.length : Int)) ∧ ∀ H', Same H H' → Q (.bl (dcd (Leads (prs os) b a ns))) H'
theorem ok_leadson (T : Top K mg) : FnOk P w K mg base CX0 1 T.a_leadson T.d_leadson ["offers", "numbers", "a", "b"] spLeads := by
  refine T.F_leadson.ok sc_leadson (fun vs H Q E h => ?_) (fun cdv A outer s H vs Q E hr h => ?_)
  · obtain ⟨o, t, a, b, ys, os, ns, rfl, _⟩ := h
    rfl
  · obtain ⟨o, t, a, b, ys, os, ns, rfl, ho, pa, ht, rg, q⟩ := h
    refine ⟨_, (pss_cons (ps_set (i := 4) sc_leadson.nd rfl (.inl rfl) (pv 2))
      (pss_cons (ps_for PassesOwn.never rfl (pi_tup (pv 1)) (pg_name (i := 5) sc_leadson.nd rfl (.inl rfl)) (pss_cons (ps_set (i := 6) sc_leadson.nd rfl (.inl rfl) (pe_slice sl_tupA (pe_ix ix_tup (pv 0) (pv 5) (fun _ _ => rfl)) po_none (po_some pe_int)))
      (pss_cons (ps_if (pt_cmpR op_notIn_seq (pv 4) (pv 6) (by rfl)) (pss_one (ps_ret pe_bl)) pss_nil)
      (pss_one (ps_set (i := 4) sc_leadson.nd rfl (.inl rfl) (pe_ifExp (pt_cmpR op_eq (pv 4) (pe_ix ix_tup (pv 6) pe_int (fun _ _ => rfl)) (nomark _)) (pe_ix ix_tup (pv 6) pe_int (fun _ _ => rfl)) (pe_ix ix_tup (pv 6) pe_int (fun _ _ => rfl))))))))
      (pss_one (ps_ret (pe_cmpR op_eq (pv 4) (pv 3) (nomark _)))))), ?_⟩
    refine ⟨_, rfl, ?_⟩
    refine ⟨_, rfl, t, rfl, ⟨_, SqT.of ht⟩, for_tup (xs := ns.map V.int) (fun i σ H2 => ∃ (h : Int) (y5 y6 : Option V), σ = [some (.ref o), some (.ref t), some (.int a), some (.int b), some (.int h), y5, y6] ∧ Same H H2 ∧ (Leads (prs os) b a ns ↔ Leads (prs os) b h (ns.drop i))) ⟨a, none, none, rfl, same_refl, Iff.rfl⟩ (fun i σ H2 _ z => by obtain ⟨_, _, _, _, z, _⟩ := z; exact SqT.of (z _ _ ht)) ?_ ?_⟩
    · rintro i v σ H2 hv ⟨h, y5, y6, rfl, s2, iff⟩
      rw [List.getElem?_map] at hv
      obtain ⟨n, hn, rfl⟩ := Option.map_eq_some_iff.mp hv
      obtain ⟨n0, n1⟩ := rg n (List.mem_of_getElem? hn)
      have l : n.toNat < os.length := by omega
      have hu : os[n.toNat]? = some os[n.toNat] := List.getElem?_eq_getElem l
      generalize os[n.toNat] = u at hu
      obtain ⟨tp, e1, htp⟩ := (pa.same s2).ix n0 hu
      have ed : ns.drop i = n :: ns.drop (i + 1) := drop_at hn
      rw [ed] at iff
      refine ⟨_, rfl, _, rfl, o, _, _, _, rfl, rfl, SqT.of (s2 _ _ ho), e1, 2, rfl, slA rfl htp fun p H3 s3 hp => ?_⟩
      have ec : cutV [V.int u.1.1, V.int u.1.2, V.int u.2] none (some 2) = [u.1.1, u.1.2].map V.int := by rfl
      rw [ec] at hp
      have s23 := s2.trans s3
      refine ⟨_, rfl, _, rfl, p, _, rfl, .inr (SqT.of hp), rfl, flat_ints _, !decide (h ∈ [u.1.1, u.1.2]), congrArg (fun z => V.bl (!z)) (inV_ints h [u.1.1, u.1.2]), ?_⟩
      by_cases m : h ∈ [u.1.1, u.1.2]
      case neg =>
        rw [decide_eq_false m]
        have y := q H3 s23
        rw [dcd_f fun z => ?_] at y
        · exact iteT y
        · refine leads_no (prs_at hu) (fun z => m ?_) (iff.mp z)
          rcases z with rfl | rfl
          · exact List.mem_cons_self
          · exact List.mem_cons_of_mem _ List.mem_cons_self
      have m2 : h = u.1.1 ∨ h = u.1.2 := by
        rcases List.mem_cons.mp m with z | z
        · exact .inl z
        · exact .inr (List.mem_singleton.mp z)
      rw [decide_eq_true m]
      refine iteF ?_
      have iff2 := iff.trans (leads_cons n0 (prs_at hu) m2)
      refine ⟨_, rfl, _, rfl, p, _, _, _, rfl, rfl, SqT.of hp, atI_nat (j := 0) rfl, rfl, _, rfl, ite2 (fun z => ?_) (fun z => ?_)⟩
      · have z : h = u.1.1 := V.int.inj (of_decide_eq_true z)
        refine ⟨_, rfl, p, _, _, _, rfl, rfl, SqT.of hp, atI_nat (j := 1) rfl, _, _, _, rfl, s23, ?_⟩
        unfold endO at iff2
        rw [if_pos z] at iff2
        exact iff2
      · have z : h ≠ u.1.1 := fun e => z (decide_eq_true (congrArg V.int e))
        refine ⟨_, rfl, p, _, _, _, rfl, rfl, SqT.of hp, atI_nat (j := 0) rfl, _, _, _, rfl, s23, ?_⟩
        unfold endO at iff2
        rw [if_neg z] at iff2
        exact iff2
    · rintro σ H2 ⟨h, y5, y6, rfl, s2, iff⟩
      rw [List.length_map, List.drop_length, leads_nil] at iff
      have y := q H2 s2
      rw [dcd_iff iff, dcd_dec] at y
      refine ⟨_, rfl, _, rfl, rfl, ?_⟩
      have e : decide (V.int h = V.int b) = decide (h = b) := decide_eq_decide.mpr ⟨V.int.inj, congrArg V.int⟩
      show Q (.bl (decide (V.int h = V.int b))) H2
      rw [e]
      exact y
def spTopOf : Sp := fun vs H Q _ => ∃ (l : Addr) (ab : List Int) (p t : Int) (n : Nat), vs = [.ref l, .int p] ∧ H l = some (.lst (ab.map V.int)) ∧ Up ab p t n ∧ Q (.int t) H
theorem ok_topof (T : Top K mg) : FnOk P w K mg base CX0 1 T.a_topof T.d_topof ["above", "point"] spTopOf := by
  refine T.F_topof.ok sc_topof (fun vs H Q E h => ?_) (fun cdv A outer s H vs Q E hr h => ?_)
  · obtain ⟨l, ab, p, t, n, rfl, _⟩ := h
    rfl
  · obtain ⟨l, ab, p, t, n, rfl, hl, up, q⟩ := h
    refine ⟨_, (pss_cons (ps_while PassesOwn.never (pt_cmpR op_ne (pe_ix ix_list (pv 0) (pv 1) (fun _ _ => rfl)) (pv 1) (nomark _)) (pss_one (ps_set (i := 1) sc_topof.nd rfl (.inl rfl) (pe_ix ix_list (pv 0) (pv 1) (fun _ _ => rfl)))))
      (pss_one (ps_ret (pv 1)))), ?_⟩
    refine ⟨fun m σ H2 => ∃ x, σ = [some (.ref l), some (.int x)] ∧ H2 = H ∧ Up ab x t m, ⟨n, p, rfl, rfl, up⟩, ?_⟩
    rintro m σ H2 ⟨x, rfl, rfl, ux⟩
    cases ux with
    | root p0 h =>
      refine ⟨_, rfl, _, rfl, l, _, _, _, rfl, rfl, SqL.of hl, atI_up p0 h, _, rfl, rfl, _, rfl, iteNS rfl ?_⟩
      exact ⟨_, rfl, q⟩
    | @step _ y _ m p0 h ne u =>
      refine ⟨_, rfl, _, rfl, l, _, _, _, rfl, rfl, SqL.of hl, atI_up p0 h, _, rfl, rfl, _, rfl, ite2 (fun _ => ?_) (fun z => ?_)⟩
      · refine ⟨fun σ' H' => σ' = [some (.ref l), some (.int y)] ∧ H' = H2, fun σ' H' z => ⟨m, Nat.lt_succ_self m, y, z.1, z.2, u⟩, ?_⟩
        exact ⟨_, rfl, _, rfl, l, _, _, _, rfl, rfl, SqL.of hl, atI_up p0 h, rfl, rfl⟩
      · exfalso
        apply z
        have : decide (V.int y = V.int x) = false := decide_eq_false fun e => ne (V.int.inj e)
        show (!decide (V.int y = V.int x)) = true
        rw [this]
        rfl
def spRing : Sp := fun vs H Q _ => ∃ (t : Addr) (ys : List V) (ts : Ties) (m : Nat), vs = [.ref t, .int (m : Int)] ∧ H t = some (.lst ys) ∧ PAll H ys ts ∧ m ≤ 100 ∧ (∀ u ∈ ts, 0 ≤ u.1 ∧ u.1 < (m : Int) ∧ 0 ≤ u.2 ∧ u.2 < (m : Int)) ∧ ∀ H', Same H H' → Q (.bl (ringB ts)) H'
theorem ok_ring (T : Top K mg) : FnOk P w K mg base CX0 2 T.a_hasring T.d_hasring ["ties", "many"] spRing := by
  have G_topof : FnOk P w K mg base CX0 1 _ _ _ _ := ok_topof T
  refine T.F_hasring.ok sc_hasring (fun vs H Q E h => ?_) (fun cdv A outer s H vs Q E hr h => ?_)
  · obtain ⟨t, ys, ts, m, rfl, _⟩ := h
    rfl
  · obtain ⟨t, ys, ts, m, rfl, ht, pa, hm, bd, q⟩ := h
    refine ⟨_, (pss_cons (ps_set (i := 2) sc_hasring.nd rfl (.inl rfl) (pe_listRg rfl (by rfl) T.m_list (prg_1 (by rfl) T.m_range (pv 1))))
      (pss_cons (ps_for PassesOwn.never rfl (pi_list (pv 0)) (pg_tup rfl (pgs_cons (pg_name (i := 3) sc_hasring.nd rfl (.inl rfl)) (pgs_cons (pg_name (i := 4) sc_hasring.nd rfl (.inl rfl)) pgs_nil))) (pss_cons (ps_set (i := 5) sc_hasring.nd rfl (.inl rfl) (pe_call G_topof hr (by rfl) T.g_topof T.F_topof.kp T.b_topof .nil pass0 (pa_cons (pv 2) (pa_cons (pv 3) pa_nil))))
      (pss_cons (ps_set (i := 6) sc_hasring.nd rfl (.inl rfl) (pe_call G_topof hr (by rfl) T.g_topof T.F_topof.kp T.b_topof .nil pass0 (pa_cons (pv 2) (pa_cons (pv 4) pa_nil))))
      (pss_cons (ps_if (pt_cmpR op_eq (pv 5) (pv 6) (nomark _)) (pss_one (ps_ret pe_bl)) pss_nil)
      (pss_one (ps_asg (pv 5) (pg_sub (pv 2) (pv 6) set_list)))))))
      (pss_one (ps_ret pe_bl)))), ?_⟩
    refine ⟨_, rfl, _, rfl, RgOk.of_le (by omega) (by omega) (by omega) (by omega), fun l nl => ?_⟩
    have e0 : rgV 0 (m : Int) = ((List.range m).map fun (i : Nat) => (i : Int)).map V.int := by
      unfold rgV
      rw [List.map_map, show ((m : Int) - 0).toNat = m by omega]
      refine List.map_congr_left fun i _ => ?_
      show V.int (0 + (i : Int)) = V.int (i : Int)
      rw [Int.zero_add]
    rw [e0]
    have lts : ys.length = ts.length := pa.length
    refine ⟨_, rfl, t, rfl, ⟨_, SqL.of (same_new nl _ _ ht)⟩, for_list (xs := ys) (fun i σ H2 => ∃ (ab : List Int) (y3 y4 y5 y6 : Option V), σ = [some (.ref t), some (.int (m : Int)), some (.ref l), y3, y4, y5, y6] ∧ Same H H2 ∧ H2 l = some (.lst (ab.map V.int)) ∧ Uf2 (ts.take i) m ab ∧ ¬ Ring (ts.take i)) ⟨_, none, none, none, none, rfl, same_new nl, upd_same, uf20 m, ring_nil⟩ (fun i σ H2 _ z => by obtain ⟨_, _, _, _, _, _, z, _⟩ := z; exact SqL.of (z _ _ ht)) ?_ ?_⟩
    · rintro i v σ H2 hv ⟨ab, y3, y4, y5, y6, rfl, s2, hl2, U2, nr⟩
      obtain ⟨tt, u, rfl, hu, htt⟩ := pa.at hv
      obtain ⟨a, b⟩ := u
      have mu := bd _ (List.mem_of_getElem? hu)
      dsimp only at mu
      refine ⟨tt, _, rfl, SqT.of (s2 _ _ htt), rfl, _, _, rfl, _, _, rfl, rfl, ?_⟩
      have U := U2.uf
      obtain ⟨x1, n1, up1, r1⟩ := U.ex a mu.1 mu.2.1
      obtain ⟨x2, n2, up2, r2⟩ := U.ex b mu.2.2.1 mu.2.2.2
      refine ⟨_, rfl, _, rfl, l, ab, a, x1, n1, rfl, hl2, up1, ?_⟩
      refine ⟨_, rfl, _, rfl, l, ab, b, x2, n2, rfl, hl2, up2, ?_⟩
      have e1 : ts.take (i + 1) = ts.take i ++ [(a, b)] := by
        rw [List.take_succ, hu]
        rfl
      refine ⟨_, rfl, _, rfl, rfl, _, rfl, ite2 (fun z => ?_) (fun z => ?_)⟩
      · have e := V.int.inj (of_decide_eq_true z)
        have z := q H2 s2
        have rr : Ring ts := ring_take (i := i + 1) (by
          rw [e1]
          exact ring_snoc.mpr (.inr (r1.trans (e ▸ r2.symm))))
        rw [ringB_t rr] at z
        exact z
      have ne : x1 ≠ x2 := fun e => z (decide_eq_true (congrArg V.int e))
      have l2 : x2.toNat < ab.length := (List.getElem?_eq_some_iff.mp up2.top.2).1
      have upR : Uf2 (ts.take (i + 1)) m (ab.set x2.toNat x1) := by
        rw [e1]
        exact uf2_snoc U2 up1 r1 up2 r2 ne
      have nr' : ¬ Ring (ts.take (i + 1)) := by
        rw [e1]
        intro z
        rcases ring_snoc.mp z with z | z
        · exact nr z
        · exact U2.ne up1 up2 ne z
      refine ⟨_, rfl, _, rfl, _, rfl, l, _, x2, x2.toNat, rfl, rfl, hl2, ix_up up2.top.1 (by rw [List.length_map]; exact l2), ?_⟩
      refine ⟨ab.set x2.toNat x1, _, _, _, _, rfl, ?_, ?_, upR, nr'⟩
      · intro c o e
        rw [upd_ne (ne_of_none e nl)]
        exact s2 _ _ e
      · rw [upd_same, List.map_set]
    · rintro σ H2 ⟨ab, y3, y4, y5, y6, rfl, s2, hl2, U, nr⟩
      rw [lts, List.take_of_length_le (Nat.le_refl _)] at nr
      have z := q H2 s2
      rw [ringB_f nr] at z
      exact z

theorem gone_succ {i : Nat} {ks : List Int} : goneO (i + 1) ks = if (i : Int) ∈ ks then goneO i ks else goneO i ks ++ [(i : Int)] := by
  unfold goneO
  rw [List.range_succ, List.map_append, List.filter_append]
  by_cases h : (i : Int) ∈ ks
  · rw [if_pos h]
    simp [h]
  · rw [if_neg h]
    simp [h]
theorem gone_len {i : Nat} {ks : List Int} : (goneO i ks).length ≤ i := by
  have z := List.length_filter_le (fun j => !decide (j ∈ ks)) ((List.range i).map fun i : Nat => (i : Int))
  rw [List.length_map, List.length_range] at z
  exact z
def spKept71 (T : Top K mg) : Sp := fun vs H Q _ => ∃ (m : Nat) (o t : Addr) (ys : List V) (os : O3s) (ks : List Int), vs = [.int (m : Int), .ref o, .ref t] ∧ H o = some (.tup ys) ∧ OAll H ys os ∧ H t = some (.tup (ks.map V.int)) ∧ ks.length ≤ 1000 ∧ (∀ k ∈ ks, 0 ≤ k ∧ k < (os.length : Int)) ∧ BdO os m ∧ m ≤ 100 ∧ Tb T.tbs H ∧ ∀ H', Kp H H' → Tb T.tbs H' → Q (.bl (dcd (ks.Pairwise (· < ·) ∧ ¬ Ring (tiesO os ks)))) H'
theorem ok_kept71 (T : Top K mg) (TBA : GxR.TabB base mg T.cA T.PA) (TBR : GxR.TabB base mg T.cR T.PR) (TBO : GxR.TabB base mg T.cO T.PO) : FnOk P w K mg base CX0 5 T.a_arekept T.d_arekept ["many", "offers", "thing"] (spKept71 T) := by
  have G_areoffers : FnOk P w K mg base CX0 4 _ _ _ _ := ok_areoffers T TBA TBO
  have G_isrising : FnOk P w K mg base CX0 2 _ _ _ _ := ok_ris T TBR
  have G_hasring : FnOk P w K mg base CX0 2 _ _ _ _ := ok_ring T
  refine T.F_arekept.ok sc_arekept (fun vs H Q E h => ?_) (fun cdv A outer s H vs Q E hr h => ?_)
  · obtain ⟨m, o, t, ys, os, ks, rfl, _⟩ := h
    rfl
  · obtain ⟨m, o, t, ys, os, ks, rfl, ho, oa, ht, len, rg, B, hm, tb, q⟩ := h
    have lo := oa.length
    refine ⟨_, (pss_cons (ps_if (PW.pt (pw_or (pt_not (pt_val (pe_call G_areoffers hr (by rfl) T.g_areoffers T.F_areoffers.kp T.b_areoffers .nil pass0 (pa_cons (pv 1) (pa_cons (pv 2) pa_nil))))) (pw_or1 (pt_not (pt_val (pe_call G_isrising (hr.mono (by decide)) (by rfl) T.g_isrising T.F_isrising.kp T.b_isrising .nil pass0 (pa_cons (pv 2) pa_nil))))))) (pss_one (ps_ret pe_bl)) pss_nil)
      (pss_one (ps_ret (pe_not (pe_call G_hasring (hr.mono (by decide)) (by rfl) T.g_hasring T.F_hasring.kp T.b_hasring .nil pass0 (pa_cons (pe_lc (own := [("number", 3)]) (g := gName 3) (tt := tYes) (by rfl) sc_arekept.nd (pi_tup (pv 2)) (blkOk_by (own := [("number", 3)]) (N := ["many", "offers", "thing", "number"]) (sc := defScope s_arekept) (by decide +kernel)) (fun _ _ _ _ _ => (pg_name (i := 3) sc_arekept.nd rfl (.inl rfl))) (fun _ _ _ _ _ => pts_nil) (fun _ _ _ _ _ => (pe_slice (sl_tupAK (K := K) rfl) (pe_ix (ix_tupK (K := K) rfl) (pv 1) (pv 3) (fun _ _ => rfl)) po_none (po_some pe_int)))) (pa_cons (pv 0) pa_nil))))))), ?_⟩
    refine ⟨_, rfl, _, rfl, o, t, ys, ks, rfl, ho, ht, len, tb, fun H1 k1 tb1 => ⟨_, rfl, ?_⟩⟩
    have no : ∀ {H'}, Kp H1 H' → Tb T.tbs H' → ¬ (ks.Pairwise (· < ·) ∧ ¬ Ring (tiesO os ks)) → Q (.bl false) H' := fun {H'} k' t' z => by
      have y := q H' (k1.trans k') t'
      rw [dcd_f z] at y
      exact y
    by_cases nd : ks.Nodup
    case neg =>
      rw [dcd_f fun z => nd z.1]
      exact iteT (iteT (no (Kp.refl H1) tb1 fun z => nd (ring_nd z.2)))
    rw [dcd_t ⟨nd, fun x mx => by rw [lo]; exact rg x mx⟩]
    refine iteF ?_
    refine ⟨_, rfl, t, ks, rfl, k1.tup ht, tb1, fun H2 k2 tb2 => ⟨_, rfl, ?_⟩⟩
    by_cases up : ks.Pairwise (· < ·)
    case neg =>
      rw [decide_eq_false up]
      exact iteT (no k2 tb2 fun z => up z.1)
    rw [decide_eq_true up]
    refine iteF ?_
    have k12 := k1.trans k2
    have ht2 := k12.tup ht
    have ho2 := k12.tup ho
    have oa2 := oa.kp k12
    refine ⟨_, rfl, t, rfl, ⟨_, SqT.of ht2⟩, fun D nD => ?_⟩
    refine lc_tup (xs := ks.map V.int) (fun i H3 => Same H2 H3 ∧ ∃ ws : List V, H3 D = some (.lst ws) ∧ PAll H3 ws (tiesO os (ks.take i)) ∧ ws.length = i) ⟨same_new nD, [], upd_same, .nil, rfl⟩ (fun i H3 _ z => SqT.of (z.1 _ _ ht2)) ?_ ?_
    · rintro i x H3 hx ⟨s3, ws, hD, pa, lw⟩
      rw [List.getElem?_map] at hx
      obtain ⟨n, hn, rfl⟩ := Option.map_eq_some_iff.mp hx
      obtain ⟨n0, n1⟩ := rg n (List.mem_of_getElem? hn)
      have hi : i < ks.length := (List.getElem?_eq_some_iff.mp hn).1
      obtain ⟨u, hu, _⟩ := in_os n0 n1
      obtain ⟨tp, e1, htp⟩ := (oa2.same s3).ix n0 hu
      refine ⟨rfl, yes_ite ?_⟩
      refine ⟨_, rfl, _, rfl, o, _, _, _, rfl, rfl, SqT.of (s3 _ _ ho2), e1, 2, rfl, slA rfl htp fun p H4 s4 hp => ?_⟩
      have hD4 := s4 _ _ hD
      refine ⟨ws, hD4, szl (by omega), same_put (s3.trans s4) nD, ws ++ [.ref p], upd_same, ?_, by rw [List.length_append, lw]; rfl⟩
      have z : PAll H4 (ws ++ [.ref p]) (tiesO os (ks.take (i + 1))) := by
        have hp2 : H4 p = some (.tup [.int u.1.1, .int u.1.2]) := hp
        rw [take_at hn, ties_app]
        have e2 : tiesO os [n] = [(u.1.1, u.1.2)] := by
          show [prO os n] = _
          rw [(prO_at hu).1]
        rw [e2]
        exact PAll.snoc hp2 (pa.same s4)
      exact z.put hD4
    · rintro H3 ⟨s3, ws, hD, pa, lw⟩
      rw [List.length_map, List.take_length] at pa
      refine ⟨_, rfl, D, ws, tiesO os ks, m, rfl, hD, pa, hm, fun u mu => ?_, fun H4 s4 => ?_⟩
      · have := bd_ties B rg u mu
        omega
      · have y := q H4 (k12.trans (Kp.of_same (s3.trans s4))) ((tb2.same s3).same s4)
        refine ⟨_, rfl, ?_⟩
        by_cases g : Ring (tiesO os ks)
        · rw [ringB_t g]
          rw [dcd_f fun z => z.2 g] at y
          exact y
        · rw [ringB_f g]
          rw [dcd_t ⟨up, g⟩] at y
          exact y
def spEnt71 (T : Top K mg) : Sp := fun vs H Q _ => ∃ (o c p t : Addr) (j : Int) (ys : List V) (os : O3s) (ks : List Int) (r : NR), vs = [.ref o, .ref c, .int j, .ref p] ∧ H o = some (.tup ys) ∧ OAll H ys os ∧ H c = some (.tup (ks.map V.int)) ∧ 0 ≤ j ∧ j < (os.length : Int) ∧ H p = some (.tup [.int r.1, .ref t]) ∧ H t = some (.tup (r.2.map V.int)) ∧ r.2.length ≤ 1000 ∧ (∀ k ∈ r.2, 0 ≤ k ∧ k < (os.length : Int)) ∧ Tb T.tbs H ∧ ∀ H', Kp H H' → Tb T.tbs H' → Q (.bl (dcd (r.1 = j ∧ GoodW os ks j r.2))) H'
theorem ok_ent71 (T : Top K mg) (TBA : GxR.TabB base mg T.cA T.PA) (TBO : GxR.TabB base mg T.cO T.PO) (TB : GxR.TabB base mg T.cE T.PE) : FnOk P w K mg base CX0 5 T.a_islightentry T.d_islightentry ["offers", "kept", "number", "thing"] (spEnt71 T) := by
  have G_iswhole : FnOk P w K mg base CX0 1 _ _ _ _ := ok_wholeI T
  have G_areoffers : FnOk P w K mg base CX0 4 _ _ _ _ := ok_areoffers T TBA TBO
  have G_leadson : FnOk P w K mg base CX0 1 _ _ _ _ := ok_leadson T
  refine okC T.F_islightentry T.hcE sc_islightentry (fun vs H Q E h => ?_) (fun A outer s H vs Q E hr h => ?_)
  · obtain ⟨o, c, p, t, j, ys, os, ks, r, rfl, _⟩ := h
    rfl
  · obtain ⟨o, c, p, t, j, ys, os, ks, ⟨r1, ns⟩, rfl, ho, oa, hc, j0, j1, hp, ht, len, rg, tb, q⟩ := h
    dsimp only at hp ht len rg q
    have lo := oa.length
    refine ⟨_, (pss_cons (ps_if (PW.pt (pw_or (pt_not (pt_val (pe_callB call_isi (by rfl) T.m_isinstance (by decide +kernel) (pa_cons (pv 3) (pa_cons (pe_bltn (v := .ty "tuple") (by rfl) T.m_tuple (by decide +kernel) rfl) pa_nil))))) (pw_or1 (pt_cmpR op_ne (pe_callB call_len_seq (by rfl) T.m_len PySem.boot_len (pa_cons (pv 3) pa_nil)) pe_int (nomark _))))) (pss_one (ps_ret pe_bl)) pss_nil)
      (pss_cons (ps_asg (pv 3) (pg_tup rfl (pgs_cons (pg_name (i := 4) sc_islightentry.nd rfl (.inl rfl)) (pgs_cons (pg_name (i := 5) sc_islightentry.nd rfl (.inl rfl)) pgs_nil))))
      (pss_cons (ps_if (PW.pt (pw_or (pt_not (pt_val (pe_call G_iswhole (hr.mono (by decide)) (by rfl) T.g_iswhole T.F_iswhole.kp T.b_iswhole .nil pass0 (pa_cons (pv 4) pa_nil)))) (pw_or (pt_cmpR op_ne (pv 4) (pv 2) (nomark _)) (pw_or1 (pt_not (pt_val (pe_call G_areoffers hr (by rfl) T.g_areoffers T.F_areoffers.kp T.b_areoffers .nil pass0 (pa_cons (pv 0) (pa_cons (pv 5) pa_nil))))))))) (pss_one (ps_ret pe_bl)) pss_nil)
      (pss_cons (ps_asg (pe_ix ix_tup (pv 0) (pv 2) (fun _ _ => rfl)) (pg_tup rfl (pgs_cons (pg_name (i := 6) sc_islightentry.nd rfl (.inl rfl)) (pgs_cons (pg_name (i := 7) sc_islightentry.nd rfl (.inl rfl)) (pgs_cons (pg_name (i := 8) sc_islightentry.nd rfl (.inr rfl)) pgs_nil)))))
      (pss_cons (ps_if (pt_not (pt_val (pe_allG (own := [("k", 9)]) hr rfl sc_islightentry.nd (by rfl) T.m_all (by decide +kernel) TB rfl (blkOk_by (own := [("k", 9)]) (N := ["offers", "kept", "number", "thing", "own", "way", "a", "b", "price", "k"]) (sc := defScope s_islightentry) (by decide +kernel)) (by rfl) (by decide +kernel) (by rfl) (pi_tup (pv 5)) (fun _ _ _ _ _ _ _ => (pg_name (i := 9) sc_islightentry.nd rfl (.inl rfl) (hf := Or.inr rfl))) (fun _ _ _ _ _ _ _ hr' => (pe_and (pe_cmpR (op_in_seqK (K := K) rfl) (pv 9) (pv 1) (by rfl)) (pe_one (pe_cmpR op_le (pe_ix (ix_tupK (K := K) rfl) (pe_ix (ix_tupK (K := K) rfl) (pv 0) (pv 9) (fun _ _ => rfl)) pe_int (fun _ _ => rfl)) (pv 8) (nomark _)))))))) (pss_one (ps_ret pe_bl)) pss_nil)
      (pss_one (ps_ret (pe_call G_leadson (hr.mono (by decide)) (by rfl) T.g_leadson T.F_leadson.kp T.b_leadson .nil pass0 (pa_cons (pv 0) (pa_cons (pv 5) (pa_cons (pv 6) (pa_cons (pv 7) pa_nil)))))))))))), ?_⟩
    have no : ∀ {H'}, Kp H H' → Tb T.tbs H' → ¬ (r1 = j ∧ GoodW os ks j ns) → Q (.bl false) H' := fun {H'} k' t' z => by
      have y := q H' k' t'
      rw [dcd_f z] at y
      exact y
    refine ⟨_, rfl, _, _, _, _, true, rfl, ClsV.ty _, .base (.tup hp), kit_ty (by decide +kernel), _, rfl, iteF ?_⟩
    refine ⟨_, rfl, p, _, rfl, .inr (SqT.of hp), rfl, _, rfl, iteF ?_⟩
    refine ⟨_, rfl, p, _, rfl, SqT.of hp, rfl, _, _, rfl, _, _, rfl, rfl, ?_⟩
    refine ⟨_, rfl, r1, rfl, _, rfl, iteF ?_⟩
    refine ⟨_, rfl, _, rfl, rfl, _, rfl, ite2 (fun z => iteT (no (Kp.refl H) tb fun y => ne_int z y.1)) (fun z => ?_)⟩
    obtain rfl : r1 = j := eq_int z
    clear z
    refine ⟨_, rfl, _, rfl, o, t, ys, ns, rfl, ho, ht, len, tb, fun H1 k1 tb1 => ⟨_, rfl, ?_⟩⟩
    by_cases nd : ns.Nodup
    case neg =>
      rw [dcd_f fun z => nd z.1]
      exact iteT (no k1 tb1 fun y => nd y.2.1)
    rw [dcd_t ⟨nd, fun x mx => by rw [lo]; exact rg x mx⟩]
    refine iteF ?_
    obtain ⟨u, hu, _⟩ := in_os j0 j1
    have ho1 := k1.tup ho
    have oa1 := oa.kp k1
    have hc1 := k1.tup hc
    have ht1 := k1.tup ht
    obtain ⟨tp, e1, htp⟩ := oa1.ix j0 hu
    have eo := prO_at hu
    refine ⟨_, rfl, _, rfl, o, _, _, _, rfl, rfl, SqT.of ho1, e1, tp, _, rfl, SqT.of htp, rfl, _, _, rfl, _, _, rfl, _, _, rfl, rfl, ?_⟩
    refine ⟨_, rfl, t, rfl, ⟨_, SqT.of ht1⟩, tb1.g T.mE, fun H2 tab => ?_⟩
    have k2 := Kp.of_tabd (tb1.g T.mE) tab
    have tb2 := tb1.tab T.nd T.mE (But.of_tab tab) tab.1
    refine gturns_it (walk_tup (xs := ns.map V.int)) (fun i H3 => Kp H1 H3 ∧ Tb T.tbs H3 ∧ ∀ x ∈ ns.take i, x ∈ ks ∧ pcO os x ≤ u.2) ⟨k2, tb2, fun x z => nomatch z⟩ (fun i H3 _ z => SqT.of (z.1.tup ht1)) ?_ (fun H3 z => ?_)
    · rintro i x H3 H4 N hi ⟨k3, tb3, al3⟩ ⟨rfl, hx⟩ nx
      rw [List.getElem?_map] at hx
      obtain ⟨e, he, rfl⟩ := Option.map_eq_some_iff.mp hx
      clear hx
      have mx := List.mem_of_getElem? he
      obtain ⟨x0, x1⟩ := rg e mx
      have no3 : ¬ (e ∈ ks ∧ pcO os e ≤ u.2) → ¬ (r1 = r1 ∧ GoodW os ks r1 ns) := fun z y => z (by rw [← eo.2]; exact y.2.2.1 e mx)
      refine ⟨rfl, _, rfl, _, rfl, c, _, rfl, .inr (SqT.of (k3.tup hc1)), rfl, flat_ints _, decide (e ∈ ks), congrArg V.bl (inV_ints e ks), ?_⟩
      by_cases mk : e ∈ ks
      case neg =>
        rw [decide_eq_false mk]
        exact iteF ⟨false, rfl, iteF ⟨_, rfl, iteT (no (k1.trans k3) tb3 (no3 fun z => mk z.1))⟩⟩
      rw [decide_eq_true mk]
      refine iteT ?_
      obtain ⟨v, hv, _⟩ := in_os x0 x1
      have ev := (prO_at hv).2
      obtain ⟨tq, e2, htq⟩ := (oa1.kp k3).ix x0 hv
      refine ⟨_, rfl, _, rfl, o, _, _, _, rfl, rfl, SqT.of (k3.tup ho1), e2, tq, _, _, _, rfl, rfl, SqT.of htq, atI_nat (j := 2) rfl, _, rfl, _, _, rfl, rfl, decide (v.2 ≤ u.2), rfl, ?_⟩
      by_cases le : v.2 ≤ u.2
      · rw [decide_eq_true le]
        refine iteT (nx _ ⟨k3, tb3, fun y my => ?_⟩)
        rw [take_at he] at my
        rcases List.mem_append.mp my with my | my
        · exact al3 y my
        · rw [List.mem_singleton.mp my, ev]
          exact ⟨mk, le⟩
      · rw [decide_eq_false le]
        exact iteF ⟨_, rfl, iteT (no (k1.trans k3) tb3 (no3 fun z => le (by rw [← ev]; exact z.2)))⟩
    · obtain ⟨k3, tb3, al3⟩ := z
      rw [List.length_map, List.take_length] at al3
      refine ⟨_, rfl, iteF ?_⟩
      refine ⟨_, rfl, _, rfl, _, rfl, _, rfl, o, t, _, _, ys, os, ns, rfl, k3.tup ho1, oa1.kp k3, k3.tup ht1, rg, fun H4 s4 => ?_⟩
      have y := q H4 ((k1.trans k3).trans (Kp.of_same s4)) (tb3.same s4)
      have e : (r1 = r1 ∧ GoodW os ks r1 ns) ↔ Leads (prs os) u.1.2 u.1.1 ns := by
        unfold GoodW
        rw [eo.1, eo.2]
        exact ⟨fun z => z.2.2.2, fun z => ⟨rfl, nd, al3, z⟩⟩
      rw [dcd_iff e] at y
      exact y
def GoodP (os : O3s) (ks : List Int) (rs : List NR) : Prop := rs.map Prod.fst = goneO os.length ks ∧ ∀ r ∈ rs, GoodW os ks r.1 r.2
def spPap71 (T : Top K mg) : Sp := fun vs H Q _ => ∃ (o c p : Addr) (ys xs : List V) (os : O3s) (ks : List Int) (rs : List NR), vs = [.ref o, .ref c, .ref p] ∧ H o = some (.tup ys) ∧ OAll H ys os ∧ os.length ≤ 100 ∧ H c = some (.tup (ks.map V.int)) ∧ H p = some (.tup xs) ∧ NAll H xs rs ∧ (∀ r ∈ rs, r.2.length ≤ 1000 ∧ ∀ k ∈ r.2, 0 ≤ k ∧ k < (os.length : Int)) ∧ Tb T.tbs H ∧ ∀ H', Kp H H' → Tb T.tbs H' → Q (.bl (dcd (GoodP os ks rs))) H'
theorem ok_pap71 (T : Top K mg) (TBA : GxR.TabB base mg T.cA T.PA) (TBO : GxR.TabB base mg T.cO T.PO) (TBE : GxR.TabB base mg T.cE T.PE) (TB : GxR.TabB base mg T.cP T.PP) : FnOk P w K mg base CX0 8 T.a_islightpaper T.d_islightpaper ["offers", "kept", "thing"] (spPap71 T) := by
  have G_islightentry : FnOk P w K mg base CX0 5 _ _ _ _ := ok_ent71 T TBA TBO TBE
  refine okC T.F_islightpaper T.hcP sc_islightpaper (fun vs H Q E h => ?_) (fun A outer s H vs Q E hr h => ?_)
  · obtain ⟨o, c, p, ys, xs, os, ks, rs, rfl, _⟩ := h
    rfl
  · obtain ⟨o, c, p, ys, xs, os, ks, rs, rfl, ho, oa, lo100, hc, hp, ra, rok, tb, q⟩ := h
    have lo := oa.length
    have lr := ra.length
    refine ⟨_, (pss_cons (ps_setLc (i := 3) (own := [("number", 4)]) (g := gName 4) (by rfl) sc_islightpaper.nd rfl rfl (sw_true rfl rfl rfl (by decide +kernel)) (pi_range1 (by rfl) T.m_range (pa_cons (pe_callB call_len_seq (by rfl) T.m_len PySem.boot_len (pa_cons (pv 0) pa_nil)) pa_nil)) (blkOk_by (own := [("number", 4)]) (N := ["offers", "kept", "thing", "gone", "number", "entry"]) (sc := defScope s_islightpaper) (by decide +kernel)) (fun _ _ _ _ _ => (pg_name (i := 4) sc_islightpaper.nd rfl (.inl rfl))) (fun _ _ _ _ _ => (pts_one (pt_cmpR (op_notIn_seqK (K := K) rfl) (pv 4) (pv 1) (by rfl)))) (fun _ _ _ _ _ => (pv 4)))
      (pss_cons (ps_if (PW.pt (pw_or (pt_not (pt_val (pe_callB call_isi (by rfl) T.m_isinstance (by decide +kernel) (pa_cons (pv 2) (pa_cons (pe_bltn (v := .ty "tuple") (by rfl) T.m_tuple (by decide +kernel) rfl) pa_nil))))) (pw_or1 (pt_cmpR op_ne (pe_callB call_len_seq (by rfl) T.m_len PySem.boot_len (pa_cons (pv 2) pa_nil)) (pe_callB call_len_seq (by rfl) T.m_len PySem.boot_len (pa_cons (pv 3) pa_nil)) (nomark _))))) (pss_one (ps_ret pe_bl)) pss_nil)
      (pss_one (ps_ret (pe_allG (own := [("number", 4), ("entry", 5)]) hr rfl sc_islightpaper.nd (by rfl) T.m_all (by decide +kernel) TB rfl (blkOk_by (own := [("number", 4), ("entry", 5)]) (N := ["offers", "kept", "thing", "gone", "number", "entry"]) (sc := defScope s_islightpaper) (by decide +kernel)) (by rfl) (by decide +kernel) (by rfl) (pi_zipM (by rfl) T.m_zip (pa_cons (pv 3) (pa_cons (pv 2) pa_nil))) (fun _ _ _ _ _ _ _ => (pg_tupK (K := K) (n := 2) rfl rfl (pgs_cons (pg_name (i := 4) sc_islightpaper.nd rfl (.inl rfl) (hf := Or.inr rfl)) (pgs_cons (pg_name (i := 5) sc_islightpaper.nd rfl (.inl rfl) (hf := Or.inr rfl)) pgs_nil)) rfl)) (fun _ _ _ _ _ _ _ hr' => (pe_call G_islightentry (hr'.mono (by decide)) (by rfl) T.g_islightentry T.F_islightentry.kp T.b_islightentry .nil pass0 (pa_cons (pv 0) (pa_cons (pv 1) (pa_cons (pv 4) (pa_cons (pv 5) pa_nil))))))))))), ?_⟩
    refine ⟨_, rfl, o, _, rfl, .inr (SqT.of ho), _, rfl, by omega, by omega, fun D nD => ?_⟩
    refine lc_range (lo := 0) (n := ys.length) (fun i H1 => Same H H1 ∧ H1 D = some (.lst ((goneO i ks).map V.int))) ⟨same_new nD, upd_same⟩ ?_ ?_
    · rintro i H1 hi ⟨s1, hD⟩
      rw [Int.zero_add]
      refine ⟨rfl, _, rfl, _, rfl, c, _, rfl, .inr (SqT.of (s1 _ _ hc)), rfl, flat_ints _, !decide ((i : Int) ∈ ks), congrArg (fun z => V.bl (!z)) (inV_ints (i : Int) ks), ?_⟩
      rw [gone_succ]
      by_cases mk : (i : Int) ∈ ks
      · rw [decide_eq_true mk, if_pos mk]
        exact iteF ⟨s1, hD⟩
      · rw [decide_eq_false mk, if_neg mk]
        refine iteT ⟨_, rfl, _, hD, ?_, same_put s1 nD, ?_⟩
        · rw [List.length_map]
          have := gone_len (i := i) (ks := ks)
          exact szl (by omega)
        · rw [upd_same, List.map_append]
          rfl
    rintro H1 ⟨s1, hD⟩
    rw [lo] at hD
    have hp1 := s1 _ _ hp
    have no : ∀ {H'}, Kp H1 H' → Tb T.tbs H' → ¬ GoodP os ks rs → Q (.bl false) H' := fun {H'} k' t' z => by
      have y := q H' ((Kp.of_same s1).trans k') t'
      rw [dcd_f z] at y
      exact y
    have tb1 := tb.same s1
    refine ⟨_, rfl, _, _, _, _, true, rfl, ClsV.ty _, .base (.tup hp1), kit_ty (by decide +kernel), _, rfl, iteF ?_⟩
    refine ⟨_, rfl, p, _, rfl, .inr (SqT.of hp1), _, rfl, D, _, rfl, .inl (SqL.of hD), rfl, _, rfl, ite2 (fun z => ?_) (fun z => ?_)⟩
    · refine no (Kp.refl H1) tb1 fun y => ne_int z ?_
      have := congrArg List.length y.1
      rw [List.length_map] at this ⊢
      omega
    have len := eq_int z
    clear z
    rw [List.length_map] at len
    refine ⟨_, rfl, _, rfl, D, p, _, xs, rfl, SqL.of hD, SqT.of hp1, tb1.g T.mP, fun H2 tab => ?_⟩
    have k2 := Kp.of_tabd (tb1.g T.mP) tab
    have tb2 := tb1.tab T.nd T.mP (But.of_tab tab) tab.1
    refine gturns_it (walk_zipM (xs := (goneO os.length ks).map V.int) (ys := xs) (n := xs.length) (by rw [List.length_map]; omega)) (fun i H3 => Kp H1 H3 ∧ Tb T.tbs H3 ∧ ∀ (k : Nat) (r : NR), k < i → rs[k]? = some r → (goneO os.length ks)[k]? = some r.1 ∧ GoodW os ks r.1 r.2) ⟨k2, tb2, fun k r z => absurd z (Nat.not_lt_zero _)⟩ (fun i H3 _ z => ⟨SqL.of (z.1.lst hD), SqT.of (z.1.tup hp1)⟩) ?_ (fun H3 z => ?_)
    · rintro i x H3 H4 N hi ⟨k3, tb3, al3⟩ ⟨g, x, y, rfl, ng, rfl, hx, hy⟩ nx
      dsimp only at hx hy
      rw [List.getElem?_map] at hx
      obtain ⟨j, hj, rfl⟩ := Option.map_eq_some_iff.mp hx
      have ra3 := (ra.same s1).kp k3
      obtain ⟨e, t, r, rfl, hr', he, ht⟩ := ra3.at hy
      have mr := List.mem_of_getElem? hr'
      have mj := (mem_gone.mp (List.mem_of_getElem? hj)).1
      have sg := same_new (o := .tup [V.int j, V.ref e]) ng
      refine ⟨g, _, rfl, SqT.of upd_same, rfl, _, _, rfl, _, _, rfl, rfl, rfl, _, rfl, _, rfl, _, rfl, _, rfl, o, c, e, t, j, ys, os, ks, r, rfl, sg _ _ (k3.tup (s1 _ _ ho)), ((oa.same s1).kp k3).same sg, sg _ _ (k3.tup (s1 _ _ hc)), mj.1, mj.2, sg _ _ he, sg _ _ ht, (rok r mr).1, (rok r mr).2, tb3.same sg, fun H5 k5 tb5 => ⟨_, rfl, ?_⟩⟩
      have k35 := (k3.same sg).trans k5
      by_cases gd : r.1 = j ∧ GoodW os ks j r.2
      · rw [dcd_t gd]
        refine iteT (nx _ ⟨k35, tb5, fun k r' lt h2 => ?_⟩)
        by_cases ek : k < i
        · exact al3 k r' ek h2
        · have ek : k = i := by omega
          subst ek
          rw [hr'] at h2
          cases Option.some.inj h2
          rw [gd.1]
          exact ⟨hj, gd.2⟩
      · rw [dcd_f gd]
        refine iteF (no k35 tb5 fun z => gd ?_)
        have e2 : (rs.map Prod.fst)[i]? = some r.1 := by rw [List.getElem?_map, hr']; rfl
        rw [z.1, hj] at e2
        have e3 := Option.some.inj e2
        refine ⟨e3.symm, ?_⟩
        have y := z.2 r mr
        rw [← e3] at y
        exact y
    · obtain ⟨k3, tb3, al3⟩ := z
      have y := q H3 ((Kp.of_same s1).trans k3) tb3
      rw [dcd_t (show GoodP os ks rs from ⟨List.ext_getElem? fun k => ?_, fun r mr => ?_⟩)] at y
      · exact y
      · rw [List.getElem?_map]
        by_cases lk : k < rs.length
        · have e := List.getElem?_eq_getElem lk
          rw [e]
          exact (al3 k _ (by omega) e).1.symm
        · rw [List.getElem?_eq_none (by omega), List.getElem?_eq_none (by omega)]
          rfl
      · obtain ⟨k, lk, e⟩ := List.getElem_of_mem mr
        have e := (List.getElem?_eq_getElem lk).trans (congrArg some e)
        exact (al3 k r (by omega) e).2
theorem shw_iff {os : O3s} {ks : List Int} {rs : List NR} : Shw os ks rs ↔ (ks.Pairwise (· < ·) ∧ ¬ Ring (tiesO os ks)) ∧ GoodP os ks rs := ⟨fun z => ⟨⟨z.up, z.nr⟩, z.hd, z.ok⟩, fun z => ⟨z.1.1, z.1.2, z.2.1, z.2.2⟩⟩
def spShows71 (T : Top K mg) : Sp := fun vs H Q _ => ∃ (m : Nat) (o f c p : Addr) (ys xs : List V) (os : O3s) (ks : List Int) (rs : List NR), vs = [.int (m : Int), .ref o, .ref f] ∧ H f = some (.tup [.ref c, .ref p]) ∧ BdO os m ∧ m ≤ 100 ∧ H o = some (.tup ys) ∧ OAll H ys os ∧ os.length ≤ 100 ∧ H c = some (.tup (ks.map V.int)) ∧ ks.length ≤ 1000 ∧ (∀ k ∈ ks, 0 ≤ k ∧ k < (os.length : Int)) ∧ H p = some (.tup xs) ∧ NAll H xs rs ∧ (∀ r ∈ rs, r.2.length ≤ 1000 ∧ ∀ k ∈ r.2, 0 ≤ k ∧ k < (os.length : Int)) ∧ Tb T.tbs H ∧ ∀ H', Kp H H' → Tb T.tbs H' → Q (.bl (dcd (Shw os ks rs))) H'
theorem ok_shows71 (T : Top K mg) (TBA : GxR.TabB base mg T.cA T.PA) (TBR : GxR.TabB base mg T.cR T.PR) (TBO : GxR.TabB base mg T.cO T.PO) (TBE : GxR.TabB base mg T.cE T.PE) (TBP : GxR.TabB base mg T.cP T.PP) : FnOk P w K mg base CX0 9 T.a_showslightest T.d_showslightest ["many", "offers", "thing"] (spShows71 T) := by
  have G_arekept : FnOk P w K mg base CX0 5 _ _ _ _ := ok_kept71 T TBA TBR TBO
  have G_islightpaper : FnOk P w K mg base CX0 8 _ _ _ _ := ok_pap71 T TBA TBO TBE TBP
  refine T.F_showslightest.ok sc_showslightest (fun vs H Q E h => ?_) (fun cdv A outer s H vs Q E hr h => ?_)
  · obtain ⟨m, o, f, c, p, ys, xs, os, ks, rs, rfl, _⟩ := h
    rfl
  · obtain ⟨m, o, f, c, p, ys, xs, os, ks, rs, rfl, hf, B, hm, ho, oa, lo100, hc, lk, rk, hp, ra, rok, tb, q⟩ := h
    refine ⟨_, (pss_cons (ps_if (PW.pt (pw_or (pt_not (pt_val (pe_callB call_isi (by rfl) T.m_isinstance (by decide +kernel) (pa_cons (pv 2) (pa_cons (pe_bltn (v := .ty "tuple") (by rfl) T.m_tuple (by decide +kernel) rfl) pa_nil))))) (pw_or1 (pt_cmpR op_ne (pe_callB call_len_seq (by rfl) T.m_len PySem.boot_len (pa_cons (pv 2) pa_nil)) pe_int (nomark _))))) (pss_one (ps_ret pe_bl)) pss_nil)
      (pss_cons (ps_asg (pv 2) (pg_tup rfl (pgs_cons (pg_name (i := 3) sc_showslightest.nd rfl (.inl rfl)) (pgs_cons (pg_name (i := 4) sc_showslightest.nd rfl (.inl rfl)) pgs_nil))))
      (pss_one (ps_ret (pe_and (pe_call G_arekept (hr.mono (by decide)) (by rfl) T.g_arekept T.F_arekept.kp T.b_arekept .nil pass0 (pa_cons (pv 0) (pa_cons (pv 1) (pa_cons (pv 3) pa_nil)))) (pe_one (pe_call G_islightpaper hr (by rfl) T.g_islightpaper T.F_islightpaper.kp T.b_islightpaper .nil pass0 (pa_cons (pv 1) (pa_cons (pv 3) (pa_cons (pv 4) pa_nil)))))))))), ?_⟩
    refine ⟨_, rfl, _, _, _, _, true, rfl, ClsV.ty _, .base (.tup hf), kit_ty (by decide +kernel), _, rfl, iteF ?_⟩
    refine ⟨_, rfl, f, _, rfl, .inr (SqT.of hf), rfl, _, rfl, iteF ?_⟩
    refine ⟨_, rfl, f, _, rfl, SqT.of hf, rfl, _, _, rfl, _, _, rfl, rfl, ?_⟩
    refine ⟨_, rfl, _, rfl, _, rfl, m, o, c, ys, os, ks, rfl, ho, oa, hc, lk, rk, B, hm, tb, fun H1 k1 tb1 => ⟨_, rfl, ?_⟩⟩
    by_cases g : ks.Pairwise (· < ·) ∧ ¬ Ring (tiesO os ks)
    · rw [dcd_t g]
      refine iteT ?_
      refine ⟨_, rfl, _, rfl, _, rfl, o, c, p, ys, xs, os, ks, rs, rfl, k1.tup ho, oa.kp k1, lo100, k1.tup hc, k1.tup hp, ra.kp k1, rok, tb1, fun H2 k2 tb2 => ?_⟩
      have y := q H2 (k1.trans k2) tb2
      rw [dcd_iff (shw_iff.trans ⟨fun z => z.2, fun z => ⟨g, z⟩⟩)] at y
      exact y
    · rw [dcd_f g]
      refine iteF ?_
      have y := q H1 k1 tb1
      rw [dcd_f fun z => g (shw_iff.mp z).1] at y
      exact y
end

end My
namespace My
open PySem L2
/-- anything but a tuple -/
inductive NoTup (H : Hp) : V → Prop
  | non : NoTup H .non
  | bl (b : Bool) : NoTup H (.bl b)
  | int (i : Int) : NoTup H (.int i)
  | str (x : Str) : NoTup H (.str x)
  | lst {a : Addr} {xs : List V} (h : H a = some (.lst xs)) : NoTup H (.ref a)
  | dK {a : Addr} {kvs : List (Key × V)} (h : H a = some (.dK kvs)) : NoTup H (.ref a)
theorem NoTup.kp {H H' : Hp} (k : Kp H H') {v : V} (h : NoTup H v) : NoTup H' v := by
  cases h with
  | non => exact .non
  | bl b => exact .bl b
  | int i => exact .int i
  | str x => exact .str x
  | lst h => exact .lst (k _ _ h (by intro ps z; cases z))
  | dK h => exact .dK (k _ _ h (by intro ps z; cases z))
theorem notup_ok {K : PySem.W.Frag} {H : Hp} {v : V} (h : NoTup H v) : ∃ t, TyX K H v t ∧ PySem.W.kitOne K t (.type "tuple") = some false := by
  cases h with
  | non => exact ⟨_, .base .non, kit_ty (show kitB _ _ = some false by decide +kernel)⟩
  | bl b => exact ⟨_, .base (.bl b), kit_ty (show kitB _ _ = some false by decide +kernel)⟩
  | int i => exact ⟨_, .base (.int i), kit_ty (show kitB _ _ = some false by decide +kernel)⟩
  | str x => exact ⟨_, .base (.str x), kit_ty (show kitB _ _ = some false by decide +kernel)⟩
  | lst h => exact ⟨_, .base (.lst h), kit_ty (show kitB _ _ = some false by decide +kernel)⟩
  | dK h => exact ⟨_, .base (.dK h), kit_ty (show kitB _ _ = some false by decide +kernel)⟩

/-! ### papers of anything: what is told no -/
theorem fnor {P : Program} {w : World} {K : PySem.W.Frag} {mg : Str → Option Value} {base : Heap} {CX : CXT} {k : Nat} {f : Addr} {fd : FuncData} {ps : List Str} {sp sp' : Sp} (F : FnOk P w K mg base CX k f fd ps sp) (G : FnOk P w K mg base CX k f fd ps sp') :
    FnOk P w K mg base CX k f fd ps (fun vs H Q E => sp vs H Q E ∨ sp' vs H Q E) :=
  ⟨fun vs H Q E h => h.elim (F.len vs H Q E) (G.len vs H Q E), fun A outer s H args us vs Q E hr he hb hv hs => hs.elim (F.run A outer s H args us vs Q E hr he hb hv) (G.run A outer s H args us vs Q E hr he hb hv)⟩
def spNone : Sp := fun _ _ _ _ => False
theorem fn_none {P : Program} {w : World} {K : PySem.W.Frag} {mg : Str → Option Value} {base : Heap} {CX : CXT} {k : Nat} {f : Addr} {fd : FuncData} {ps : List Str} : FnOk P w K mg base CX k f fd ps spNone :=
  ⟨fun _ _ _ _ h => h.elim, fun _ _ _ _ _ _ _ _ _ _ _ _ _ h => h.elim⟩
def NoWs (H : Hp) (v : V) : Prop := NoTup H v ∨ ∃ (a : Addr) (ys : List V), v = .ref a ∧ H a = some (.tup ys) ∧ (∀ y ∈ ys, AnyV H y) ∧ ys.all wholeB = false
def NoOf (H : Hp) (n : Nat) (v : V) : Prop := NoWs H v ∨ ∃ (c : Addr) (ks : List Int), v = .ref c ∧ H c = some (.tup (ks.map V.int)) ∧ ks.length ≤ 1000 ∧ ¬ (ks.Nodup ∧ ∀ x ∈ ks, 0 ≤ x ∧ x < (n : Int))
inductive EntOdd (H : Hp) (n : Nat) : V → Prop
  | nt {v : V} (h : NoTup H v) : EntOdd H n v
  | len {p : Addr} {xs : List V} (h : H p = some (.tup xs)) (l : xs.length ≠ 2) : EntOdd H n (.ref p)
  | own {p : Addr} {x y : V} (h : H p = some (.tup [x, y])) (a : AnyV H x) (b : wholeB x = false) : EntOdd H n (.ref p)
  | way {p : Addr} {r : Int} {y : V} (h : H p = some (.tup [.int r, y])) (b : NoOf H n y) : EntOdd H n (.ref p)
inductive PapOdd (H : Hp) (n : Nat) (ks : List Int) : V → Prop
  | nt {v : V} (h : NoTup H v) : PapOdd H n ks v
  | len {p : Addr} {xs : List V} (h : H p = some (.tup xs)) (l : xs.length ≠ (goneO n ks).length) : PapOdd H n ks (.ref p)
  | ent {p : Addr} {xs : List V} {rs : List NR} {e : V} (h : H p = some (.tup (xs ++ [e]))) (ra : NAll H xs rs) (ok : ∀ r ∈ rs, r.2.length ≤ 1000 ∧ ∀ k ∈ r.2, 0 ≤ k ∧ k < (n : Int)) (o : EntOdd H n e) : PapOdd H n ks (.ref p)
inductive ShwOdd (H : Hp) (n : Nat) : V → Prop
  | nt {v : V} (h : NoTup H v) : ShwOdd H n v
  | len {p : Addr} {xs : List V} (h : H p = some (.tup xs)) (l : xs.length ≠ 2) : ShwOdd H n (.ref p)
  | kept {p : Addr} {x y : V} (h : H p = some (.tup [x, y])) (b : NoOf H n x) : ShwOdd H n (.ref p)
  | pap {p c : Addr} {ks : List Int} {y : V} (h : H p = some (.tup [.ref c, y])) (hc : H c = some (.tup (ks.map V.int))) (lk : ks.length ≤ 1000) (rk : ∀ k ∈ ks, 0 ≤ k ∧ k < (n : Int)) (o : PapOdd H n ks y) : ShwOdd H n (.ref p)
inductive WrdOdd (H : Hp) : V → Prop
  | nt {v : V} (h : NoTup H v) : WrdOdd H v
  | len {p : Addr} {xs : List V} (h : H p = some (.tup xs)) (l : xs.length ≠ 2) : WrdOdd H (.ref p)
  | word {p : Addr} {x y : V} (h : H p = some (.tup [x, y])) (a : AnyV H x) (b : isStrV x = false) : WrdOdd H (.ref p)
  | ns {p : Addr} {s : Str} {y : V} (h : H p = some (.tup [.str s, y])) (b : NoWs H y) : WrdOdd H (.ref p)
inductive HldOdd (H : Hp) : V → Prop
  | wrd {v : V} (h : WrdOdd H v) : HldOdd H v
  | way {p t : Addr} (h : H p = some (.tup [.str "way", .ref t])) (ht : H t = some (.tup [])) : HldOdd H (.ref p)
inductive HldsOdd (H : Hp) (n : Nat) : V → Prop
  | nt {v : V} (h : NoTup H v) : HldsOdd H n v
  | len {p : Addr} {xs : List V} (h : H p = some (.tup xs)) (l : xs.length ≠ n) : HldsOdd H n (.ref p)
  | row {p : Addr} {x : V} {xs : List V} (h : H p = some (.tup (x :: xs))) (o : HldOdd H x) : HldsOdd H n (.ref p)
section
variable {H H' : Hp} (k : Kp H H')
include k
theorem NoWs.kp {v : V} (h : NoWs H v) : NoWs H' v := by
  rcases h with h | ⟨a, ys, e, ha, al, b⟩
  · exact .inl (h.kp k)
  · exact .inr ⟨a, ys, e, k.tup ha, fun y m => (al y m).kp k, b⟩
theorem NoOf.kp {n : Nat} {v : V} (h : NoOf H n v) : NoOf H' n v := by
  rcases h with h | ⟨a, ys, e, ha, al, b⟩
  · exact .inl (h.kp k)
  · exact .inr ⟨a, ys, e, k.tup ha, al, b⟩
theorem EntOdd.kp {n : Nat} {v : V} (h : EntOdd H n v) : EntOdd H' n v := by
  cases h with
  | nt h => exact .nt (h.kp k)
  | len h l => exact .len (k.tup h) l
  | own h a b => exact .own (k.tup h) (a.kp k) b
  | way h b => exact .way (k.tup h) (b.kp k)
theorem PapOdd.kp {n : Nat} {ks : List Int} {v : V} (h : PapOdd H n ks v) : PapOdd H' n ks v := by
  cases h with
  | nt h => exact .nt (h.kp k)
  | len h l => exact .len (k.tup h) l
  | ent h ra ok o => exact .ent (k.tup h) (ra.kp k) ok (o.kp k)
theorem ShwOdd.kp {n : Nat} {v : V} (h : ShwOdd H n v) : ShwOdd H' n v := by
  cases h with
  | nt h => exact .nt (h.kp k)
  | len h l => exact .len (k.tup h) l
  | kept h b => exact .kept (k.tup h) (b.kp k)
  | pap h hc lk rk o => exact .pap (k.tup h) (k.tup hc) lk rk (o.kp k)
theorem WrdOdd.kp {v : V} (h : WrdOdd H v) : WrdOdd H' v := by
  cases h with
  | nt h => exact .nt (h.kp k)
  | len h l => exact .len (k.tup h) l
  | word h a b => exact .word (k.tup h) (a.kp k) b
  | ns h b => exact .ns (k.tup h) (b.kp k)
theorem HldOdd.kp {v : V} (h : HldOdd H v) : HldOdd H' v := by
  cases h with
  | wrd h => exact .wrd (h.kp k)
  | way h ht => exact .way (k.tup h) (k.tup ht)
theorem HldsOdd.kp {n : Nat} {v : V} (h : HldsOdd H n v) : HldsOdd H' n v := by
  cases h with
  | nt h => exact .nt (h.kp k)
  | len h l => exact .len (k.tup h) l
  | row h o => exact .row (k.tup h) (o.kp k)
end
section
variable {P : Program} {w : World} {K : PySem.W.Frag} {mg : Str → Option Value} {base : Heap}
def spWhole : Sp := fun vs H Q _ => ∃ v, vs = [v] ∧ AnyV H v ∧ Q (.bl (wholeB v)) H
theorem ok_whole (T : Top K mg) : FnOk P w K mg base CX0 1 T.a_iswhole T.d_iswhole ["thing"] spWhole := by
  refine T.F_iswhole.ok sc_iswhole (fun vs H Q E h => ?_) (fun cdv A outer s H vs Q E hr h => ?_)
  · obtain ⟨v, rfl, _⟩ := h
    rfl
  · obtain ⟨v, rfl, hv, q⟩ := h
    refine ⟨_, (pss_one (ps_ret (pe_and (pe_callB call_isi (by rfl) T.m_isinstance (by decide +kernel) (pa_cons (pv 0) (pa_cons (pe_bltn (v := .ty "int") (by rfl) T.m_int (by decide +kernel) rfl) pa_nil))) (pe_one (pe_not (pe_callB call_isi (by rfl) T.m_isinstance (by decide +kernel) (pa_cons (pv 0) (pa_cons (pe_bltn (v := .ty "bool") (by rfl) T.m_bool (by decide +kernel) rfl) pa_nil)))))))), ?_⟩
    obtain ⟨t, ty, kt⟩ := int_ok (K := K) hv
    refine ⟨_, rfl, _, _, _, _, _, rfl, ClsV.ty _, ty, kt, _, rfl, ?_⟩
    obtain ⟨t2, ty2, kt2⟩ := bool_ok (K := K) hv
    have fin : isIntV v = true → ∀ b, b = isBoolV v → Q (.bl (!b)) H := fun e b eb => by
      have z : (!b) = wholeB v := by
        subst eb
        cases v <;> first | rfl | exact nomatch e
      rw [z]
      exact q
    refine ite2 (fun e => ?_) (fun e => ?_)
    · exact ⟨_, rfl, _, _, _, _, _, rfl, ClsV.ty _, ty2, kt2, _, rfl, fin e _ rfl⟩
    · have z : wholeB v = false := by
        cases v <;> first | rfl | exact absurd rfl e
      rw [z] at q
      exact q
def spWholesA (T : Top K mg) : Sp := fun vs H Q _ => ∃ (v : V) (b : Bool), vs = [v] ∧ Tb T.tbs H ∧ ((∃ (a : Addr) (ys : List V), v = .ref a ∧ H a = some (.tup ys) ∧ (∀ y ∈ ys, AnyV H y) ∧ b = ys.all wholeB) ∨ (NoTup H v ∧ b = false)) ∧ ∀ H', Kp H H' → Tb T.tbs H' → Q (.bl b) H'
theorem ok_wholesA (T : Top K mg) (TB : GxR.TabB base mg T.cA T.PA) : FnOk P w K mg base CX0 3 T.a_arewholes T.d_arewholes ["thing"] (spWholesA T) := by
  have G_iswhole : FnOk P w K mg base CX0 1 _ _ _ _ := ok_whole T
  refine okC T.F_arewholes T.hcA sc_arewholes (fun vs H Q E h => ?_) (fun A outer s H vs Q E hr h => ?_)
  · obtain ⟨v, b, rfl, _⟩ := h
    rfl
  · obtain ⟨v, b, rfl, tb, hx, q⟩ := h
    refine ⟨_, (pss_one (ps_ret (pe_and (pe_callB call_isi (by rfl) T.m_isinstance (by decide +kernel) (pa_cons (pv 0) (pa_cons (pe_bltn (v := .ty "tuple") (by rfl) T.m_tuple (by decide +kernel) rfl) pa_nil))) (pe_one (pe_allG (own := [("part", 1)]) hr rfl sc_arewholes.nd (by rfl) T.m_all (by decide +kernel) TB rfl (blkOk_by (own := [("part", 1)]) (N := ["thing", "part"]) (sc := defScope s_arewholes) (by decide +kernel)) (by rfl) (by decide +kernel) (by rfl) (pi_tup (pv 0)) (fun _ _ _ _ _ _ _ => (pg_name (i := 1) sc_arewholes.nd rfl (.inl rfl) (hf := Or.inr rfl))) (fun _ _ _ _ _ _ _ hr' => (pe_call G_iswhole hr' (by rfl) T.g_iswhole T.F_iswhole.kp T.b_iswhole .nil pass0 (pa_cons (pv 1) pa_nil)))))))), ?_⟩
    rcases hx with ⟨a, ys, rfl, ha, al, rfl⟩ | ⟨nt, rfl⟩
    · refine ⟨_, rfl, _, _, _, _, true, rfl, ClsV.ty _, .base (.tup ha), kit_ty (by decide +kernel), _, rfl, iteT ?_⟩
      refine ⟨_, rfl, a, rfl, ⟨_, SqT.of ha⟩, tb.g T.mA, fun H2 tab => ?_⟩
      have k2 := Kp.of_tabd (tb.g T.mA) tab
      have tb2 := tb.tab T.nd T.mA (But.of_tab tab) tab.1
      refine gturns_it (walk_tup (xs := ys)) (fun i H3 => Kp H H3 ∧ Tb T.tbs H3 ∧ (ys.take i).all wholeB = true) ⟨k2, tb2, rfl⟩ (fun i H3 _ z => SqT.of (z.1.tup ha)) ?_ (fun H3 z => ?_)
      · rintro i x H3 H4 N hi ⟨k3, tb3, al3⟩ ⟨rfl, hx⟩ nx
        have mx := List.mem_of_getElem? hx
        refine ⟨rfl, _, rfl, x, rfl, (al x mx).kp k3, wholeB x, rfl, ?_⟩
        cases e : wholeB x with
        | true =>
          refine iteT (nx _ ⟨k3, tb3, ?_⟩)
          rw [List.take_succ, hx, List.all_append, al3]
          show (true && (wholeB x && true)) = true
          rw [e]
          rfl
        | false =>
          refine iteF ?_
          have z := q _ k3 tb3
          have z1 : ys.all wholeB = false := by
            rw [List.all_eq_false]
            exact ⟨x, mx, by rw [e]; exact Bool.false_ne_true⟩
          rw [z1] at z
          exact z
      · obtain ⟨k3, tb3, al3⟩ := z
        rw [List.take_of_length_le (Nat.le_refl _)] at al3
        have z := q H3 k3 tb3
        rw [al3] at z
        exact z
    · obtain ⟨t, ty, kt⟩ := notup_ok (K := K) nt
      exact ⟨_, rfl, _, _, _, _, false, rfl, ClsV.ty _, ty, kt, _, rfl, iteF (q H (Kp.refl H) tb)⟩
theorem ok_wholesX (T : Top K mg) (TB : GxR.TabB base mg T.cA T.PA) : FnOk P w K mg base CX0 3 T.a_arewholes T.d_arewholes ["thing"] (fun vs H Q _ => ∃ v : V, vs = [v] ∧ NoWs H v ∧ Tb T.tbs H ∧ ∀ H', Kp H H' → Tb T.tbs H' → Q (.bl false) H') :=
  (ok_wholesA T TB).imp fun vs H Q E h => by
    obtain ⟨v, rfl, nw, tb, q⟩ := h
    rcases nw with nt | ⟨a, ys, rfl, ha, al, b⟩
    · exact ⟨v, false, rfl, tb, .inr ⟨nt, rfl⟩, q⟩
    · exact ⟨_, false, rfl, tb, .inl ⟨a, ys, rfl, ha, al, b.symm⟩, q⟩
def spOffsX (T : Top K mg) : Sp := fun vs H Q _ => ∃ (o : Addr) (v : V), vs = [.ref o, v] ∧ NoWs H v ∧ Tb T.tbs H ∧ ∀ H', Kp H H' → Tb T.tbs H' → Q (.bl false) H'
theorem ok_offsX (T : Top K mg) (TBA : GxR.TabB base mg T.cA T.PA) (TB : GxR.TabB base mg T.cO T.PO) : FnOk P w K mg base CX0 4 T.a_areoffers T.d_areoffers ["offers", "thing"] (spOffsX T) := by
  have G_arewholes : FnOk P w K mg base CX0 3 _ _ _ _ := ok_wholesX T TBA
  refine okC T.F_areoffers T.hcO sc_areoffers (fun vs H Q E h => ?_) (fun A outer s H vs Q E hr h => ?_)
  · obtain ⟨o, v, rfl, _⟩ := h
    rfl
  · obtain ⟨o, v, rfl, nw, tb, q⟩ := h
    refine ⟨_, (pss_cons (ps_if (PW.pt (pw_or (pt_not (pt_val (pe_call G_arewholes hr (by rfl) T.g_arewholes T.F_arewholes.kp T.b_arewholes .nil pass0 (pa_cons (pv 1) pa_nil)))) (pw_or1 (pt_cmpR op_ne (pe_lenSetT rfl (by rfl) T.m_len (by rfl) T.m_set (pv 1)) (pe_callB call_len_seq (by rfl) T.m_len PySem.boot_len (pa_cons (pv 1) pa_nil)) (nomark _))))) (pss_one (ps_ret pe_bl)) pss_nil)
      (pss_one (ps_ret (pe_allG (own := [("number", 2)]) hr rfl sc_areoffers.nd (by rfl) T.m_all (by decide +kernel) TB rfl (blkOk_by (own := [("number", 2)]) (N := ["offers", "thing", "number"]) (sc := defScope s_areoffers) (by decide +kernel)) (by rfl) (by decide +kernel) (by rfl) (pi_tup (pv 1)) (fun _ _ _ _ _ _ _ => (pg_name (i := 2) sc_areoffers.nd rfl (.inl rfl) (hf := Or.inr rfl))) (fun _ _ _ _ _ _ _ hr' => (pe_chain op_le op_lt pe_int (pv 2) (pe_callB (call_len_seqK (K := K) rfl) (by rfl) T.m_len PySem.boot_len (pa_cons (pv 0) pa_nil)))))))), ?_⟩
    refine ⟨_, rfl, v, rfl, nw, tb, fun H1 k1 tb1 => ⟨_, rfl, ?_⟩⟩
    repeat refine iteT ?_
    exact q H1 k1 tb1
def spOffsN (T : Top K mg) : Sp := fun vs H Q _ => ∃ (o : Addr) (v : V) (ys : List V), vs = [.ref o, v] ∧ H o = some (.tup ys) ∧ NoOf H ys.length v ∧ Tb T.tbs H ∧ ∀ H', Kp H H' → Tb T.tbs H' → Q (.bl false) H'
theorem ok_offsN (T : Top K mg) (TBA : GxR.TabB base mg T.cA T.PA) (TB : GxR.TabB base mg T.cO T.PO) : FnOk P w K mg base CX0 4 T.a_areoffers T.d_areoffers ["offers", "thing"] (spOffsN T) :=
  (fnor (ok_areoffers T TBA TB) (ok_offsX T TBA TB)).imp fun vs H Q E h => by
    obtain ⟨o, v, ys, rfl, ho, hn, tb, q⟩ := h
    rcases hn with nw | ⟨c, ks, rfl, hc, lk, no⟩
    · exact .inr ⟨o, v, rfl, nw, tb, q⟩
    · refine .inl ⟨o, c, ys, ks, rfl, ho, hc, lk, tb, fun H' k t => ?_⟩
      rw [dcd_f no]
      exact q H' k t
def spKeptX (T : Top K mg) : Sp := fun vs H Q _ => ∃ (m : Int) (o : Addr) (v : V) (ys : List V), vs = [.int m, .ref o, v] ∧ H o = some (.tup ys) ∧ NoOf H ys.length v ∧ Tb T.tbs H ∧ ∀ H', Kp H H' → Tb T.tbs H' → Q (.bl false) H'
theorem ok_keptX (T : Top K mg) (TBA : GxR.TabB base mg T.cA T.PA) (TBR : GxR.TabB base mg T.cR T.PR) (TBO : GxR.TabB base mg T.cO T.PO) : FnOk P w K mg base CX0 5 T.a_arekept T.d_arekept ["many", "offers", "thing"] (spKeptX T) := by
  have G_areoffers : FnOk P w K mg base CX0 4 _ _ _ _ := ok_offsN T TBA TBO
  have G_isrising : FnOk P w K mg base CX0 2 _ _ _ _ := ok_ris T TBR
  have G_hasring : FnOk P w K mg base CX0 2 _ _ _ _ := ok_ring T
  refine T.F_arekept.ok sc_arekept (fun vs H Q E h => ?_) (fun cdv A outer s H vs Q E hr h => ?_)
  · obtain ⟨m, o, v, ys, rfl, _⟩ := h
    rfl
  · obtain ⟨m, o, v, ys, rfl, ho, no, tb, q⟩ := h
    refine ⟨_, (pss_cons (ps_if (PW.pt (pw_or (pt_not (pt_val (pe_call G_areoffers hr (by rfl) T.g_areoffers T.F_areoffers.kp T.b_areoffers .nil pass0 (pa_cons (pv 1) (pa_cons (pv 2) pa_nil))))) (pw_or1 (pt_not (pt_val (pe_call G_isrising (hr.mono (by decide)) (by rfl) T.g_isrising T.F_isrising.kp T.b_isrising .nil pass0 (pa_cons (pv 2) pa_nil))))))) (pss_one (ps_ret pe_bl)) pss_nil)
      (pss_one (ps_ret (pe_not (pe_call G_hasring (hr.mono (by decide)) (by rfl) T.g_hasring T.F_hasring.kp T.b_hasring .nil pass0 (pa_cons (pe_lc (own := [("number", 3)]) (g := gName 3) (tt := tYes) (by rfl) sc_arekept.nd (pi_tup (pv 2)) (blkOk_by (own := [("number", 3)]) (N := ["many", "offers", "thing", "number"]) (sc := defScope s_arekept) (by decide +kernel)) (fun _ _ _ _ _ => (pg_name (i := 3) sc_arekept.nd rfl (.inl rfl))) (fun _ _ _ _ _ => pts_nil) (fun _ _ _ _ _ => (pe_slice (sl_tupAK (K := K) rfl) (pe_ix (ix_tupK (K := K) rfl) (pv 1) (pv 3) (fun _ _ => rfl)) po_none (po_some pe_int)))) (pa_cons (pv 0) pa_nil))))))), ?_⟩
    refine ⟨_, rfl, _, rfl, o, v, ys, rfl, ho, no, tb, fun H1 k1 tb1 => ⟨_, rfl, ?_⟩⟩
    repeat refine iteT ?_
    exact q H1 k1 tb1
def spEntX (T : Top K mg) : Sp := fun vs H Q _ => ∃ (o : Addr) (c v : V) (j : Int) (ys : List V), vs = [.ref o, c, .int j, v] ∧ H o = some (.tup ys) ∧ EntOdd H ys.length v ∧ Tb T.tbs H ∧ ∀ H', Kp H H' → Tb T.tbs H' → Q (.bl false) H'
theorem ok_entX (T : Top K mg) (TBA : GxR.TabB base mg T.cA T.PA) (TBO : GxR.TabB base mg T.cO T.PO) (TB : GxR.TabB base mg T.cE T.PE) : FnOk P w K mg base CX0 5 T.a_islightentry T.d_islightentry ["offers", "kept", "number", "thing"] (spEntX T) := by
  have G_iswhole : FnOk P w K mg base CX0 1 _ _ _ _ := ok_whole T
  have G_areoffers : FnOk P w K mg base CX0 4 _ _ _ _ := ok_offsN T TBA TBO
  have G_leadson : FnOk P w K mg base CX0 1 _ _ _ _ := ok_leadson T
  refine okC T.F_islightentry T.hcE sc_islightentry (fun vs H Q E h => ?_) (fun A outer s H vs Q E hr h => ?_)
  · obtain ⟨o, c, v, j, ys, rfl, _⟩ := h
    rfl
  · obtain ⟨o, c, v, j, ys, rfl, ho, od, tb, q⟩ := h
    refine ⟨_, (pss_cons (ps_if (PW.pt (pw_or (pt_not (pt_val (pe_callB call_isi (by rfl) T.m_isinstance (by decide +kernel) (pa_cons (pv 3) (pa_cons (pe_bltn (v := .ty "tuple") (by rfl) T.m_tuple (by decide +kernel) rfl) pa_nil))))) (pw_or1 (pt_cmpR op_ne (pe_callB call_len_seq (by rfl) T.m_len PySem.boot_len (pa_cons (pv 3) pa_nil)) pe_int (nomark _))))) (pss_one (ps_ret pe_bl)) pss_nil)
      (pss_cons (ps_asg (pv 3) (pg_tup rfl (pgs_cons (pg_name (i := 4) sc_islightentry.nd rfl (.inl rfl)) (pgs_cons (pg_name (i := 5) sc_islightentry.nd rfl (.inl rfl)) pgs_nil))))
      (pss_cons (ps_if (PW.pt (pw_or (pt_not (pt_val (pe_call G_iswhole (hr.mono (by decide)) (by rfl) T.g_iswhole T.F_iswhole.kp T.b_iswhole .nil pass0 (pa_cons (pv 4) pa_nil)))) (pw_or (pt_cmpR op_ne (pv 4) (pv 2) (nomark _)) (pw_or1 (pt_not (pt_val (pe_call G_areoffers hr (by rfl) T.g_areoffers T.F_areoffers.kp T.b_areoffers .nil pass0 (pa_cons (pv 0) (pa_cons (pv 5) pa_nil))))))))) (pss_one (ps_ret pe_bl)) pss_nil)
      (pss_cons (ps_asg (pe_ix ix_tup (pv 0) (pv 2) (fun _ _ => rfl)) (pg_tup rfl (pgs_cons (pg_name (i := 6) sc_islightentry.nd rfl (.inl rfl)) (pgs_cons (pg_name (i := 7) sc_islightentry.nd rfl (.inl rfl)) (pgs_cons (pg_name (i := 8) sc_islightentry.nd rfl (.inr rfl)) pgs_nil)))))
      (pss_cons (ps_if (pt_not (pt_val (pe_allG (own := [("k", 9)]) hr rfl sc_islightentry.nd (by rfl) T.m_all (by decide +kernel) TB rfl (blkOk_by (own := [("k", 9)]) (N := ["offers", "kept", "number", "thing", "own", "way", "a", "b", "price", "k"]) (sc := defScope s_islightentry) (by decide +kernel)) (by rfl) (by decide +kernel) (by rfl) (pi_tup (pv 5)) (fun _ _ _ _ _ _ _ => (pg_name (i := 9) sc_islightentry.nd rfl (.inl rfl) (hf := Or.inr rfl))) (fun _ _ _ _ _ _ _ hr' => (pe_and (pe_cmpR (op_in_seqK (K := K) rfl) (pv 9) (pv 1) (by rfl)) (pe_one (pe_cmpR op_le (pe_ix (ix_tupK (K := K) rfl) (pe_ix (ix_tupK (K := K) rfl) (pv 0) (pv 9) (fun _ _ => rfl)) pe_int (fun _ _ => rfl)) (pv 8) (nomark _)))))))) (pss_one (ps_ret pe_bl)) pss_nil)
      (pss_one (ps_ret (pe_call G_leadson (hr.mono (by decide)) (by rfl) T.g_leadson T.F_leadson.kp T.b_leadson .nil pass0 (pa_cons (pv 0) (pa_cons (pv 5) (pa_cons (pv 6) (pa_cons (pv 7) pa_nil)))))))))))), ?_⟩
    have q0 := q H (Kp.refl H) tb
    cases od with
    | nt h =>
      obtain ⟨t, ty, kt⟩ := notup_ok (K := K) h
      refine ⟨_, rfl, _, _, _, _, false, rfl, ClsV.ty _, ty, kt, _, rfl, ?_⟩
      repeat refine iteT ?_
      exact q0
    | @len p xs h l =>
      refine ⟨_, rfl, _, _, _, _, true, rfl, ClsV.ty _, .base (.tup h), kit_ty (by decide +kernel), _, rfl, iteF ?_⟩
      refine ⟨_, rfl, p, _, rfl, .inr (SqT.of h), rfl, _, rfl, ite2 (fun _ => ?_) (fun z => absurd (eq_int z) (by omega))⟩
      repeat refine iteT ?_
      exact q0
    | @own p x y h a b =>
      refine ⟨_, rfl, _, _, _, _, true, rfl, ClsV.ty _, .base (.tup h), kit_ty (by decide +kernel), _, rfl, iteF ?_⟩
      refine ⟨_, rfl, p, _, rfl, .inr (SqT.of h), rfl, _, rfl, iteF ?_⟩
      refine ⟨_, rfl, p, _, rfl, SqT.of h, rfl, _, _, rfl, _, _, rfl, rfl, ?_⟩
      refine ⟨_, rfl, x, rfl, a, ?_⟩
      rw [b]
      refine ⟨_, rfl, ?_⟩
      repeat refine iteT ?_
      exact q0
    | @way p r y h b =>
      refine ⟨_, rfl, _, _, _, _, true, rfl, ClsV.ty _, .base (.tup h), kit_ty (by decide +kernel), _, rfl, iteF ?_⟩
      refine ⟨_, rfl, p, _, rfl, .inr (SqT.of h), rfl, _, rfl, iteF ?_⟩
      refine ⟨_, rfl, p, _, rfl, SqT.of h, rfl, _, _, rfl, _, _, rfl, rfl, ?_⟩
      refine ⟨_, rfl, .int r, rfl, .int r, _, rfl, iteF ?_⟩
      refine ⟨_, rfl, _, rfl, rfl, _, rfl, ite2 (fun z => ?_) (fun z => ?_)⟩
      · repeat refine iteT ?_
        exact q0
      refine ⟨_, rfl, _, rfl, o, y, ys, rfl, ho, b, tb, fun H1 k1 tb1 => ⟨_, rfl, ?_⟩⟩
      repeat refine iteT ?_
      exact q H1 k1 tb1
def spPapX (T : Top K mg) : Sp := fun vs H Q _ => ∃ (o c : Addr) (v : V) (ys : List V) (os : O3s) (ks : List Int), vs = [.ref o, .ref c, v] ∧ H o = some (.tup ys) ∧ OAll H ys os ∧ os.length ≤ 100 ∧ H c = some (.tup (ks.map V.int)) ∧ PapOdd H os.length ks v ∧ Tb T.tbs H ∧ ∀ H', Kp H H' → Tb T.tbs H' → Q (.bl false) H'
theorem ok_papX (T : Top K mg) (TBA : GxR.TabB base mg T.cA T.PA) (TBO : GxR.TabB base mg T.cO T.PO) (TBE : GxR.TabB base mg T.cE T.PE) (TB : GxR.TabB base mg T.cP T.PP) : FnOk P w K mg base CX0 8 T.a_islightpaper T.d_islightpaper ["offers", "kept", "thing"] (spPapX T) := by
  have G_islightentry : FnOk P w K mg base CX0 5 _ _ _ _ := fnor (ok_ent71 T TBA TBO TBE) (ok_entX T TBA TBO TBE)
  refine okC T.F_islightpaper T.hcP sc_islightpaper (fun vs H Q E h => ?_) (fun A outer s H vs Q E hr h => ?_)
  · obtain ⟨o, c, v, ys, os, ks, rfl, _⟩ := h
    rfl
  · obtain ⟨o, c, v, ys, os, ks, rfl, ho, oa, lo100, hc, od, tb, q⟩ := h
    have lo := oa.length
    refine ⟨_, (pss_cons (ps_setLc (i := 3) (own := [("number", 4)]) (g := gName 4) (by rfl) sc_islightpaper.nd rfl rfl (sw_true rfl rfl rfl (by decide +kernel)) (pi_range1 (by rfl) T.m_range (pa_cons (pe_callB call_len_seq (by rfl) T.m_len PySem.boot_len (pa_cons (pv 0) pa_nil)) pa_nil)) (blkOk_by (own := [("number", 4)]) (N := ["offers", "kept", "thing", "gone", "number", "entry"]) (sc := defScope s_islightpaper) (by decide +kernel)) (fun _ _ _ _ _ => (pg_name (i := 4) sc_islightpaper.nd rfl (.inl rfl))) (fun _ _ _ _ _ => (pts_one (pt_cmpR (op_notIn_seqK (K := K) rfl) (pv 4) (pv 1) (by rfl)))) (fun _ _ _ _ _ => (pv 4)))
      (pss_cons (ps_if (PW.pt (pw_or (pt_not (pt_val (pe_callB call_isi (by rfl) T.m_isinstance (by decide +kernel) (pa_cons (pv 2) (pa_cons (pe_bltn (v := .ty "tuple") (by rfl) T.m_tuple (by decide +kernel) rfl) pa_nil))))) (pw_or1 (pt_cmpR op_ne (pe_callB call_len_seq (by rfl) T.m_len PySem.boot_len (pa_cons (pv 2) pa_nil)) (pe_callB call_len_seq (by rfl) T.m_len PySem.boot_len (pa_cons (pv 3) pa_nil)) (nomark _))))) (pss_one (ps_ret pe_bl)) pss_nil)
      (pss_one (ps_ret (pe_allG (own := [("number", 4), ("entry", 5)]) hr rfl sc_islightpaper.nd (by rfl) T.m_all (by decide +kernel) TB rfl (blkOk_by (own := [("number", 4), ("entry", 5)]) (N := ["offers", "kept", "thing", "gone", "number", "entry"]) (sc := defScope s_islightpaper) (by decide +kernel)) (by rfl) (by decide +kernel) (by rfl) (pi_zipM (by rfl) T.m_zip (pa_cons (pv 3) (pa_cons (pv 2) pa_nil))) (fun _ _ _ _ _ _ _ => (pg_tupK (K := K) (n := 2) rfl rfl (pgs_cons (pg_name (i := 4) sc_islightpaper.nd rfl (.inl rfl) (hf := Or.inr rfl)) (pgs_cons (pg_name (i := 5) sc_islightpaper.nd rfl (.inl rfl) (hf := Or.inr rfl)) pgs_nil)) rfl)) (fun _ _ _ _ _ _ _ hr' => (pe_call G_islightentry (hr'.mono (by decide)) (by rfl) T.g_islightentry T.F_islightentry.kp T.b_islightentry .nil pass0 (pa_cons (pv 0) (pa_cons (pv 1) (pa_cons (pv 4) (pa_cons (pv 5) pa_nil))))))))))), ?_⟩
    refine ⟨_, rfl, o, _, rfl, .inr (SqT.of ho), _, rfl, by omega, by omega, fun D nD => ?_⟩
    refine lc_range (lo := 0) (n := ys.length) (fun i H1 => Same H H1 ∧ H1 D = some (.lst ((goneO i ks).map V.int))) ⟨same_new nD, upd_same⟩ ?_ ?_
    · rintro i H1 hi ⟨s1, hD⟩
      rw [Int.zero_add]
      refine ⟨rfl, _, rfl, _, rfl, c, _, rfl, .inr (SqT.of (s1 _ _ hc)), rfl, flat_ints _, !decide ((i : Int) ∈ ks), congrArg (fun z => V.bl (!z)) (inV_ints (i : Int) ks), ?_⟩
      rw [gone_succ]
      by_cases mk : (i : Int) ∈ ks
      · rw [decide_eq_true mk, if_pos mk]
        exact iteF ⟨s1, hD⟩
      · rw [decide_eq_false mk, if_neg mk]
        refine iteT ⟨_, rfl, _, hD, ?_, same_put s1 nD, ?_⟩
        · rw [List.length_map]
          have := gone_len (i := i) (ks := ks)
          exact szl (by omega)
        · rw [upd_same, List.map_append]
          rfl
    rintro H1 ⟨s1, hD⟩
    rw [lo] at hD
    have tb1 := tb.same s1
    have k1 : Kp H H1 := Kp.of_same s1
    have q0 := q H1 k1 tb1
    have od1 := od.kp k1
    clear od
    cases od1 with
    | nt h =>
      obtain ⟨t, ty, kt⟩ := notup_ok (K := K) h
      refine ⟨_, rfl, _, _, _, _, false, rfl, ClsV.ty _, ty, kt, _, rfl, ?_⟩
      repeat refine iteT ?_
      exact q0
    | @len p xs h l =>
      refine ⟨_, rfl, _, _, _, _, true, rfl, ClsV.ty _, .base (.tup h), kit_ty (by decide +kernel), _, rfl, iteF ?_⟩
      refine ⟨_, rfl, p, _, rfl, .inr (SqT.of h), _, rfl, D, _, rfl, .inl (SqL.of hD), rfl, _, rfl, ite2 (fun _ => ?_) (fun z => ?_)⟩
      · repeat refine iteT ?_
        exact q0
      · have z := eq_int z
        rw [List.length_map] at z
        exact absurd (Int.ofNat.inj z) l
    | @ent p xs rs e h ra ok od =>
      have lx := ra.length
      refine ⟨_, rfl, _, _, _, _, true, rfl, ClsV.ty _, .base (.tup h), kit_ty (by decide +kernel), _, rfl, iteF ?_⟩
      refine ⟨_, rfl, p, _, rfl, .inr (SqT.of h), _, rfl, D, _, rfl, .inl (SqL.of hD), rfl, _, rfl, ite2 (fun _ => ?_) (fun z => ?_)⟩
      · repeat refine iteT ?_
        exact q0
      have len := eq_int z
      clear z
      rw [List.length_map, List.length_append, List.length_singleton] at len
      refine ⟨_, rfl, _, rfl, D, p, _, xs ++ [e], rfl, SqL.of hD, SqT.of h, tb1.g T.mP, fun H2 tab => ?_⟩
      have k2 := Kp.of_tabd (tb1.g T.mP) tab
      have tb2 := tb1.tab T.nd T.mP (But.of_tab tab) tab.1
      refine gturns_it (walk_zipM (xs := (goneO os.length ks).map V.int) (ys := xs ++ [e]) (n := xs.length + 1) (by rw [List.length_map, List.length_append, List.length_singleton]; omega)) (fun i H3 => Kp H1 H3 ∧ Tb T.tbs H3 ∧ i ≤ xs.length) ⟨k2, tb2, Nat.zero_le _⟩ (fun i H3 _ z => ⟨SqL.of (z.1.lst hD), SqT.of (z.1.tup h)⟩) ?_ (fun H3 z => absurd z.2.2 (by omega))
      rintro i x H3 H4 N hi ⟨k3, tb3, hil⟩ ⟨g, x, y, rfl, ng, rfl, hx, hy⟩ nx
      dsimp only at hx hy
      rw [List.getElem?_map] at hx
      obtain ⟨j, hj, rfl⟩ := Option.map_eq_some_iff.mp hx
      have mj := (mem_gone.mp (List.mem_of_getElem? hj)).1
      have sg := same_new (o := .tup [V.int j, y]) ng
      have kg : Kp H1 (upd H3 g (.tup [V.int j, y])) := k3.same sg
      have ho3 := kg.tup (s1 _ _ ho)
      have hc3 := kg.tup (s1 _ _ hc)
      have oa3 := (oa.same s1).kp kg
      by_cases ei : i < xs.length
      · rw [List.getElem?_append_left ei] at hy
        obtain ⟨e2, t, r, rfl, hr', he, ht⟩ := (ra.kp k3).at hy
        have mr := List.mem_of_getElem? hr'
        refine ⟨g, _, rfl, SqT.of upd_same, rfl, _, _, rfl, _, _, rfl, rfl, rfl, _, rfl, _, rfl, _, rfl, _, rfl, .inl ⟨o, c, e2, t, j, ys, os, ks, r, rfl, ho3, oa3, hc3, mj.1, mj.2, sg _ _ he, sg _ _ ht, (ok r mr).1, (ok r mr).2, tb3.same sg, fun H5 k5 tb5 => ⟨_, rfl, ?_⟩⟩⟩
        cases dcd (r.1 = j ∧ GoodW os ks j r.2) with
        | true => exact iteT (nx _ ⟨kg.trans k5, tb5, ei⟩)
        | false => exact iteF (q _ (k1.trans (kg.trans k5)) tb5)
      · have ei : i = xs.length := by omega
        subst ei
        rw [List.getElem?_append_right (Nat.le_refl _), Nat.sub_self] at hy
        cases Option.some.inj hy
        refine ⟨g, _, rfl, SqT.of upd_same, rfl, _, _, rfl, _, _, rfl, rfl, rfl, _, rfl, _, rfl, _, rfl, _, rfl, .inr ⟨o, .ref c, e, j, ys, rfl, ho3, by rw [lo]; exact od.kp kg, tb3.same sg, fun H5 k5 tb5 => ⟨_, rfl, iteF (q _ (k1.trans (kg.trans k5)) tb5)⟩⟩⟩
def spShowsX (T : Top K mg) : Sp := fun vs H Q _ => ∃ (m : Nat) (o : Addr) (v : V) (ys : List V) (os : O3s), vs = [.int (m : Int), .ref o, v] ∧ BdO os m ∧ m ≤ 100 ∧ H o = some (.tup ys) ∧ OAll H ys os ∧ os.length ≤ 100 ∧ ShwOdd H os.length v ∧ Tb T.tbs H ∧ ∀ H', Kp H H' → Tb T.tbs H' → Q (.bl false) H'
theorem ok_showsX (T : Top K mg) (TBA : GxR.TabB base mg T.cA T.PA) (TBR : GxR.TabB base mg T.cR T.PR) (TBO : GxR.TabB base mg T.cO T.PO) (TBE : GxR.TabB base mg T.cE T.PE) (TBP : GxR.TabB base mg T.cP T.PP) : FnOk P w K mg base CX0 9 T.a_showslightest T.d_showslightest ["many", "offers", "thing"] (spShowsX T) := by
  have G_arekept : FnOk P w K mg base CX0 5 _ _ _ _ := fnor (ok_kept71 T TBA TBR TBO) (ok_keptX T TBA TBR TBO)
  have G_islightpaper : FnOk P w K mg base CX0 8 _ _ _ _ := ok_papX T TBA TBO TBE TBP
  refine T.F_showslightest.ok sc_showslightest (fun vs H Q E h => ?_) (fun cdv A outer s H vs Q E hr h => ?_)
  · obtain ⟨m, o, v, ys, os, rfl, _⟩ := h
    rfl
  · obtain ⟨m, o, v, ys, os, rfl, B, hm, ho, oa, lo100, od, tb, q⟩ := h
    have lo := oa.length
    refine ⟨_, (pss_cons (ps_if (PW.pt (pw_or (pt_not (pt_val (pe_callB call_isi (by rfl) T.m_isinstance (by decide +kernel) (pa_cons (pv 2) (pa_cons (pe_bltn (v := .ty "tuple") (by rfl) T.m_tuple (by decide +kernel) rfl) pa_nil))))) (pw_or1 (pt_cmpR op_ne (pe_callB call_len_seq (by rfl) T.m_len PySem.boot_len (pa_cons (pv 2) pa_nil)) pe_int (nomark _))))) (pss_one (ps_ret pe_bl)) pss_nil)
      (pss_cons (ps_asg (pv 2) (pg_tup rfl (pgs_cons (pg_name (i := 3) sc_showslightest.nd rfl (.inl rfl)) (pgs_cons (pg_name (i := 4) sc_showslightest.nd rfl (.inl rfl)) pgs_nil))))
      (pss_one (ps_ret (pe_and (pe_call G_arekept (hr.mono (by decide)) (by rfl) T.g_arekept T.F_arekept.kp T.b_arekept .nil pass0 (pa_cons (pv 0) (pa_cons (pv 1) (pa_cons (pv 3) pa_nil)))) (pe_one (pe_call G_islightpaper hr (by rfl) T.g_islightpaper T.F_islightpaper.kp T.b_islightpaper .nil pass0 (pa_cons (pv 1) (pa_cons (pv 3) (pa_cons (pv 4) pa_nil)))))))))), ?_⟩
    have q0 := q H (Kp.refl H) tb
    cases od with
    | nt h =>
      obtain ⟨t, ty, kt⟩ := notup_ok (K := K) h
      refine ⟨_, rfl, _, _, _, _, false, rfl, ClsV.ty _, ty, kt, _, rfl, ?_⟩
      repeat refine iteT ?_
      exact q0
    | @len p xs h l =>
      refine ⟨_, rfl, _, _, _, _, true, rfl, ClsV.ty _, .base (.tup h), kit_ty (by decide +kernel), _, rfl, iteF ?_⟩
      refine ⟨_, rfl, p, _, rfl, .inr (SqT.of h), rfl, _, rfl, ite2 (fun _ => ?_) (fun z => absurd (eq_int z) (by omega))⟩
      repeat refine iteT ?_
      exact q0
    | @kept f x y h b =>
      refine ⟨_, rfl, _, _, _, _, true, rfl, ClsV.ty _, .base (.tup h), kit_ty (by decide +kernel), _, rfl, iteF ?_⟩
      refine ⟨_, rfl, f, _, rfl, .inr (SqT.of h), rfl, _, rfl, iteF ?_⟩
      refine ⟨_, rfl, f, _, rfl, SqT.of h, rfl, _, _, rfl, _, _, rfl, rfl, ?_⟩
      exact ⟨_, rfl, _, rfl, _, rfl, .inr ⟨m, o, x, ys, rfl, ho, by rw [lo]; exact b, tb, fun H1 k1 tb1 => ⟨_, rfl, iteF (q H1 k1 tb1)⟩⟩⟩
    | @pap f c ks y h hc lk rk pd =>
      refine ⟨_, rfl, _, _, _, _, true, rfl, ClsV.ty _, .base (.tup h), kit_ty (by decide +kernel), _, rfl, iteF ?_⟩
      refine ⟨_, rfl, f, _, rfl, .inr (SqT.of h), rfl, _, rfl, iteF ?_⟩
      refine ⟨_, rfl, f, _, rfl, SqT.of h, rfl, _, _, rfl, _, _, rfl, rfl, ?_⟩
      refine ⟨_, rfl, _, rfl, _, rfl, .inl ⟨m, o, c, ys, os, ks, rfl, ho, oa, hc, lk, rk, B, hm, tb, fun H1 k1 tb1 => ⟨_, rfl, ?_⟩⟩⟩
      cases dcd (ks.Pairwise (· < ·) ∧ ¬ Ring (tiesO os ks)) with
      | true =>
        refine iteT ⟨_, rfl, _, rfl, _, rfl, o, c, y, ys, os, ks, rfl, k1.tup ho, oa.kp k1, lo100, k1.tup hc, pd.kp k1, tb1, fun H2 k2 tb2 => q H2 (k1.trans k2) tb2⟩
      | false => exact iteF (q H1 k1 tb1)
def spWordX (T : Top K mg) : Sp := fun vs H Q _ => ∃ v : V, vs = [v] ∧ WrdOdd H v ∧ Tb T.tbs H ∧ ∀ H', Kp H H' → Tb T.tbs H' → Q (.bl false) H'
theorem ok_wordX (T : Top K mg) (TBA : GxR.TabB base mg T.cA T.PA) : FnOk P w K mg base CX0 4 T.a_isworded T.d_isworded ["thing"] (spWordX T) := by
  have G_arewholes : FnOk P w K mg base CX0 3 _ _ _ _ := ok_wholesX T TBA
  refine T.F_isworded.ok sc_isworded (fun vs H Q E h => ?_) (fun cdv A outer s H vs Q E hr h => ?_)
  · obtain ⟨v, rfl, _⟩ := h
    rfl
  · obtain ⟨v, rfl, od, tb, q⟩ := h
    refine ⟨_, (pss_one (ps_ret (pe_and (pe_callB call_isi (by rfl) T.m_isinstance (by decide +kernel) (pa_cons (pv 0) (pa_cons (pe_bltn (v := .ty "tuple") (by rfl) T.m_tuple (by decide +kernel) rfl) pa_nil))) (pe_and (pe_cmpR op_eq (pe_callB call_len_seq (by rfl) T.m_len PySem.boot_len (pa_cons (pv 0) pa_nil)) pe_int (nomark _)) (pe_and (pe_callB call_isi (by rfl) T.m_isinstance (by decide +kernel) (pa_cons (pe_ix ix_tup (pv 0) pe_int (fun _ _ => rfl)) (pa_cons (pe_bltn (v := .ty "str") (by rfl) T.m_str (by decide +kernel) rfl) pa_nil))) (pe_one (pe_call G_arewholes hr (by rfl) T.g_arewholes T.F_arewholes.kp T.b_arewholes .nil pass0 (pa_cons (pe_ix ix_tup (pv 0) pe_int (fun _ _ => rfl)) pa_nil)))))))), ?_⟩
    have q0 := q H (Kp.refl H) tb
    cases od with
    | nt h =>
      obtain ⟨t, ty, kt⟩ := notup_ok (K := K) h
      exact ⟨_, rfl, _, _, _, _, false, rfl, ClsV.ty _, ty, kt, _, rfl, iteF q0⟩
    | @len p xs h l =>
      refine ⟨_, rfl, _, _, _, _, true, rfl, ClsV.ty _, .base (.tup h), kit_ty (by decide +kernel), _, rfl, iteT ?_⟩
      refine ⟨_, rfl, p, _, rfl, .inr (SqT.of h), rfl, _, rfl, ite2 (fun z => absurd (V.int.inj (of_decide_eq_true z)) (by omega)) (fun z => ?_)⟩
      exact q0
    | @word p x y h a b =>
      refine ⟨_, rfl, _, _, _, _, true, rfl, ClsV.ty _, .base (.tup h), kit_ty (by decide +kernel), _, rfl, iteT ?_⟩
      refine ⟨_, rfl, p, _, rfl, .inr (SqT.of h), rfl, _, rfl, iteT ?_⟩
      obtain ⟨t, ty, kt⟩ := str_ok (K := K) a
      rw [b] at kt
      exact ⟨_, rfl, p, _, _, _, rfl, rfl, SqT.of h, atI_nat (j := 0) rfl, _, _, _, _, false, rfl, ClsV.ty _, ty, kt, _, rfl, iteF q0⟩
    | @ns p s y h b =>
      refine ⟨_, rfl, _, _, _, _, true, rfl, ClsV.ty _, .base (.tup h), kit_ty (by decide +kernel), _, rfl, iteT ?_⟩
      refine ⟨_, rfl, p, _, rfl, .inr (SqT.of h), rfl, _, rfl, iteT ?_⟩
      refine ⟨_, rfl, p, _, _, _, rfl, rfl, SqT.of h, atI_nat (j := 0) rfl, _, _, _, _, true, rfl, ClsV.ty _, .base (.str s), kit_ty (by decide +kernel), _, rfl, iteT ?_⟩
      exact ⟨_, rfl, p, _, _, _, rfl, rfl, SqT.of h, atI_nat (j := 1) rfl, y, rfl, b, tb, q⟩
def spWordG (T : Top K mg) : Sp := fun vs H Q _ => ∃ (p t : Addr) (x : Str) (ns : List Int), vs = [.ref p] ∧ H p = some (.tup [.str x, .ref t]) ∧ H t = some (.tup (ns.map V.int)) ∧ Tb T.tbs H ∧ ∀ H', Kp H H' → Tb T.tbs H' → Q (.bl true) H'
theorem ok_wordG (T : Top K mg) (TBA : GxR.TabB base mg T.cA T.PA) : FnOk P w K mg base CX0 4 T.a_isworded T.d_isworded ["thing"] (spWordG T) := by
  have G_arewholes : FnOk P w K mg base CX0 3 _ _ _ _ := ok_wholes T TBA
  refine T.F_isworded.ok sc_isworded (fun vs H Q E h => ?_) (fun cdv A outer s H vs Q E hr h => ?_)
  · obtain ⟨p, t, x, ns, rfl, _⟩ := h
    rfl
  · obtain ⟨p, t, x, ns, rfl, hp, ht, tb, q⟩ := h
    refine ⟨_, (pss_one (ps_ret (pe_and (pe_callB call_isi (by rfl) T.m_isinstance (by decide +kernel) (pa_cons (pv 0) (pa_cons (pe_bltn (v := .ty "tuple") (by rfl) T.m_tuple (by decide +kernel) rfl) pa_nil))) (pe_and (pe_cmpR op_eq (pe_callB call_len_seq (by rfl) T.m_len PySem.boot_len (pa_cons (pv 0) pa_nil)) pe_int (nomark _)) (pe_and (pe_callB call_isi (by rfl) T.m_isinstance (by decide +kernel) (pa_cons (pe_ix ix_tup (pv 0) pe_int (fun _ _ => rfl)) (pa_cons (pe_bltn (v := .ty "str") (by rfl) T.m_str (by decide +kernel) rfl) pa_nil))) (pe_one (pe_call G_arewholes hr (by rfl) T.g_arewholes T.F_arewholes.kp T.b_arewholes .nil pass0 (pa_cons (pe_ix ix_tup (pv 0) pe_int (fun _ _ => rfl)) pa_nil)))))))), ?_⟩
    refine ⟨_, rfl, _, _, _, _, true, rfl, ClsV.ty _, .base (.tup hp), kit_ty (by decide +kernel), _, rfl, iteT ?_⟩
    refine ⟨_, rfl, p, _, rfl, .inr (SqT.of hp), rfl, _, rfl, iteT ?_⟩
    refine ⟨_, rfl, p, _, _, _, rfl, rfl, SqT.of hp, atI_nat (j := 0) rfl, _, _, _, _, true, rfl, ClsV.ty _, .base (.str x), kit_ty (by decide +kernel), _, rfl, iteT ?_⟩
    exact ⟨_, rfl, p, _, _, _, rfl, rfl, SqT.of hp, atI_nat (j := 1) rfl, t, ns, rfl, ht, tb, q⟩
def spHldX (T : Top K mg) : Sp := fun vs H Q _ => ∃ (m : Int) (o : Addr) (v : V) (k : Nat) (ab : Int × Int) (ys : List V) (os : Ofs), vs = [.int m, .ref o, .int (k : Int), v] ∧ H o = some (.tup ys) ∧ PAll H ys os ∧ os[k]? = some ab ∧ HldOdd H v ∧ Tb T.tbs H ∧ ∀ H', Kp H H' → Tb T.tbs H' → Q (.bl false) H'
theorem ok_hldX (T : Top K mg) (TBA : GxR.TabB base mg T.cA T.PA) : FnOk P w K mg base CX0 6 T.a_isholdentry T.d_isholdentry ["many", "offers", "number", "thing"] (spHldX T) := by
  have G_isworded : FnOk P w K mg base CX0 4 _ _ _ _ := fnor (ok_wordG T TBA) (ok_wordX T TBA)
  have G_setsapart : FnOk P w K mg base CX0 3 T.a_setsapart T.d_setsapart ["forest", "a", "b", "numbers"] spNone := fn_none
  have G_asforest : FnOk P w K mg base CX0 1 T.a_asforest T.d_asforest ["many", "ties"] spNone := fn_none
  have G_iswayround : FnOk P w K mg base CX0 5 T.a_iswayround T.d_iswayround ["offers", "number", "way"] spNone := fn_none
  refine T.F_isholdentry.ok sc_isholdentry (fun vs H Q E h => ?_) (fun cdv A outer s H vs Q E hr h => ?_)
  · obtain ⟨m, o, v, k, ab, ys, os, rfl, _⟩ := h
    rfl
  · obtain ⟨m, o, v, k, ab, ys, os, rfl, ho, pa, hab, od, tb, q⟩ := h
    refine ⟨_, (pss_cons (ps_if (pt_not (pt_val (pe_call G_isworded (hr.mono (by decide)) (by rfl) T.g_isworded T.F_isworded.kp T.b_isworded .nil pass0 (pa_cons (pv 3) pa_nil)))) (pss_one (ps_ret pe_bl)) pss_nil)
      (pss_cons (ps_asg (pv 3) (pg_tup rfl (pgs_cons (pg_name (i := 4) sc_isholdentry.nd rfl (.inl rfl)) (pgs_cons (pg_name (i := 5) sc_isholdentry.nd rfl (.inl rfl)) pgs_nil))))
      (pss_cons (ps_asg (pe_ix ix_tup (pv 1) (pv 2) (fun _ _ => rfl)) (pg_tup rfl (pgs_cons (pg_name (i := 6) sc_isholdentry.nd rfl (.inl rfl)) (pgs_cons (pg_name (i := 7) sc_isholdentry.nd rfl (.inl rfl)) pgs_nil))))
      (pss_cons (ps_if (pt_cmpR op_eq (pv 4) pe_str (nomark _)) (pss_cons (ps_set (i := 8) sc_isholdentry.nd rfl (.inl rfl) (pe_op op_catA (pe_slice sl_tupA (pv 1) po_none (po_some (pv 2))) (pe_slice sl_tupA (pv 1) (po_some (pe_op op_add (pv 2) pe_int)) po_none)))
      (pss_one (ps_ret (pe_call G_setsapart (hr.mono (by decide)) (by rfl) T.g_setsapart T.F_setsapart.kp T.b_setsapart .nil pass0 (pa_cons (pe_call G_asforest (hr.mono (by decide)) (by rfl) T.g_asforest T.F_asforest.kp T.b_asforest .nil pass0 (pa_cons (pv 0) (pa_cons (pv 8) pa_nil))) (pa_cons (pv 6) (pa_cons (pv 7) (pa_cons (pv 5) pa_nil)))))))) pss_nil)
      (pss_one (ps_ret (pe_and (pe_cmpR op_eq (pv 4) pe_str (nomark _)) (pe_one (pe_call G_iswayround hr (by rfl) T.g_iswayround T.F_iswayround.kp T.b_iswayround .nil pass0 (pa_cons (pv 1) (pa_cons (pv 2) (pa_cons (pv 5) pa_nil)))))))))))), ?_⟩
    cases od with
    | wrd h => exact ⟨_, rfl, .inr ⟨v, rfl, h, tb, fun H1 k1 tb1 => ⟨_, rfl, iteT (q H1 k1 tb1)⟩⟩⟩
    | @way p t h ht =>
      refine ⟨_, rfl, .inl ⟨p, t, _, [], rfl, h, ht, tb, fun H1 k1 tb1 => ⟨_, rfl, iteF ?_⟩⟩⟩
      have hp1 := k1.tup h
      have ho1 := k1.tup ho
      have pa1 := pa.kp k1
      refine ⟨_, rfl, p, _, rfl, SqT.of hp1, rfl, _, _, rfl, _, _, rfl, rfl, ?_⟩
      obtain ⟨tp, e1, htp⟩ := pa1.get hab
      refine ⟨_, rfl, _, rfl, o, _, _, _, rfl, rfl, SqT.of ho1, atI_nat e1, tp, _, rfl, SqT.of htp, rfl, _, _, rfl, _, _, rfl, rfl, ?_⟩
      refine ⟨_, rfl, rfl, _, rfl, iteF ?_⟩
      exact ⟨_, rfl, rfl, _, rfl, iteF (q H1 k1 tb1)⟩
def spHldsX (T : Top K mg) : Sp := fun vs H Q _ => ∃ (m : Int) (o : Addr) (v : V) (ys : List V) (os : Ofs), vs = [.int m, .ref o, v] ∧ H o = some (.tup ys) ∧ PAll H ys os ∧ HldsOdd H ys.length v ∧ Tb T.tbs H ∧ ∀ H', Kp H H' → Tb T.tbs H' → Q (.bl false) H'
theorem ok_hldsX (T : Top K mg) (TBA : GxR.TabB base mg T.cA T.PA) (TB : GxR.TabB base mg T.cH T.PH) : FnOk P w K mg base CX0 8 T.a_showsholding T.d_showsholding ["many", "offers", "thing"] (spHldsX T) := by
  have G_isholdentry : FnOk P w K mg base CX0 6 _ _ _ _ := ok_hldX T TBA
  refine okC T.F_showsholding T.hcH sc_showsholding (fun vs H Q E h => ?_) (fun A outer s H vs Q E hr h => ?_)
  · obtain ⟨m, o, v, ys, os, rfl, _⟩ := h
    rfl
  · obtain ⟨m, o, v, ys, os, rfl, ho, pa, od, tb, q⟩ := h
    have ly := pa.length
    refine ⟨_, (pss_cons (ps_if (PW.pt (pw_or (pt_not (pt_val (pe_callB call_isi (by rfl) T.m_isinstance (by decide +kernel) (pa_cons (pv 2) (pa_cons (pe_bltn (v := .ty "tuple") (by rfl) T.m_tuple (by decide +kernel) rfl) pa_nil))))) (pw_or1 (pt_cmpR op_ne (pe_callB call_len_seq (by rfl) T.m_len PySem.boot_len (pa_cons (pv 2) pa_nil)) (pe_callB call_len_seq (by rfl) T.m_len PySem.boot_len (pa_cons (pv 1) pa_nil)) (nomark _))))) (pss_one (ps_ret pe_bl)) pss_nil)
      (pss_one (ps_ret (pe_allG (own := [("number", 3), ("entry", 4)]) hr rfl sc_showsholding.nd (by rfl) T.m_all (by decide +kernel) TB rfl (blkOk_by (own := [("number", 3), ("entry", 4)]) (N := ["many", "offers", "thing", "number", "entry"]) (sc := defScope s_showsholding) (by decide +kernel)) (by rfl) (by decide +kernel) (by rfl) (pi_enumT (by rfl) T.m_enumerate (pa_cons (pv 2) pa_nil)) (fun _ _ _ _ _ _ _ => (pg_tupK (K := K) (n := 2) rfl rfl (pgs_cons (pg_name (i := 3) sc_showsholding.nd rfl (.inl rfl) (hf := Or.inr rfl)) (pgs_cons (pg_name (i := 4) sc_showsholding.nd rfl (.inl rfl) (hf := Or.inr rfl)) pgs_nil)) rfl)) (fun _ _ _ _ _ _ _ hr' => (pe_call G_isholdentry hr' (by rfl) T.g_isholdentry T.F_isholdentry.kp T.b_isholdentry .nil pass0 (pa_cons (pv 0) (pa_cons (pv 1) (pa_cons (pv 3) (pa_cons (pv 4) pa_nil)))))))))), ?_⟩
    have q0 := q H (Kp.refl H) tb
    cases od with
    | nt h =>
      obtain ⟨t, ty, kt⟩ := notup_ok (K := K) h
      refine ⟨_, rfl, _, _, _, _, false, rfl, ClsV.ty _, ty, kt, _, rfl, ?_⟩
      repeat refine iteT ?_
      exact q0
    | @len p xs h l =>
      refine ⟨_, rfl, _, _, _, _, true, rfl, ClsV.ty _, .base (.tup h), kit_ty (by decide +kernel), _, rfl, iteF ?_⟩
      refine ⟨_, rfl, p, _, rfl, .inr (SqT.of h), _, rfl, o, _, rfl, .inr (SqT.of ho), rfl, _, rfl, ite2 (fun _ => ?_) (fun z => absurd (Int.ofNat.inj (eq_int z)) l)⟩
      repeat refine iteT ?_
      exact q0
    | @row p x xs h od =>
      refine ⟨_, rfl, _, _, _, _, true, rfl, ClsV.ty _, .base (.tup h), kit_ty (by decide +kernel), _, rfl, iteF ?_⟩
      refine ⟨_, rfl, p, _, rfl, .inr (SqT.of h), _, rfl, o, _, rfl, .inr (SqT.of ho), rfl, _, rfl, ite2 (fun _ => ?_) (fun z => ?_)⟩
      · repeat refine iteT ?_
        exact q0
      have len := eq_int z
      rw [List.length_cons] at len
      refine ⟨_, rfl, p, _, rfl, SqT.of h, tb.g T.mH, fun H2 tab => ?_⟩
      have k2 := Kp.of_tabd (tb.g T.mH) tab
      have tb2 := tb.tab T.nd T.mH (But.of_tab tab) tab.1
      refine gturns_it (walk_enumT (xs := x :: xs)) (fun i H3 => Kp H H3 ∧ Tb T.tbs H3 ∧ i = 0) ⟨k2, tb2, rfl⟩ (fun i H3 _ z => SqT.of (z.1.tup h)) ?_ (fun H3 z => absurd z.2.2 (Nat.succ_ne_zero _))
      rintro i z H3 H4 N hi ⟨k3, tb3, rfl⟩ ⟨g, z, y, rfl, ng, rfl, hx, hy⟩ nx
      dsimp only at hx hy
      obtain rfl : V.int ((0 : Nat) : Int) = z := Option.some.inj hx
      obtain rfl : x = y := Option.some.inj hy
      have sg := same_new (o := .tup [V.int ((0 : Nat) : Int), x]) ng
      have kg := k3.same sg
      have l0 : 0 < os.length := by omega
      have hab : os[0]? = some os[0] := List.getElem?_eq_getElem l0
      refine ⟨g, _, rfl, SqT.of upd_same, rfl, _, _, rfl, _, _, rfl, rfl, rfl, _, rfl, _, rfl, _, rfl, _, rfl, m, o, x, 0, _, ys, os, rfl, kg.tup ho, pa.kp kg, hab, od.kp kg, tb3.same sg, fun H5 k5 tb5 => ⟨_, rfl, iteF (q _ (kg.trans k5) tb5)⟩⟩
end

end My
namespace My
open PySem L2
/-! ### the pot of draws -/
theorem emod_small {x m j : Int} (h : 0 < m) (h2 : m < 2 ^ 64) : CMul (x % m) j := .inl ⟨by have := Int.emod_nonneg x (show m ≠ 0 by omega); omega, by have := Int.emod_lt_of_pos x h; omega⟩
theorem lay_ints : ∀ l : List Int, PyData.canLayAll0 (l.map .int) = true ∧ PyData.depthAll (l.map .int) ≤ 1
  | [] => ⟨rfl, Nat.zero_le _⟩
  | x :: r => by
    have ih := lay_ints r
    refine ⟨?_, ?_⟩
    · show (PyData.canLay0 (.int x) && PyData.canLayAll0 (r.map .int)) = true
      rw [ih.1, Bool.and_true]
      rfl
    · show max (PyData.depth (.int x)) (PyData.depthAll (r.map .int)) ≤ 1
      exact Nat.max_le.mpr ⟨Nat.zero_le _, ih.2⟩
theorem dp_intsL {K : PySem.W.Frag} {H : Hp} : ∀ l : List Int, DpAll K H (l.map V.int) (l.map PyData.int)
  | [] => .nil
  | x :: l => .cons (.int x) (dp_intsL l)
theorem shp_ints (l : List Int) : SeqAt.shaped (.list (l.map .int)) = true := by
  have h := lay_ints l
  unfold SeqAt.shaped
  rw [show PyData.canLay0 (.list (l.map .int)) = true from h.1, decide_eq_true (show PyData.depth (.list (l.map .int)) ≤ 64 by show PyData.depthAll _ + 1 ≤ 64; omega)]
  rfl
theorem eq_nilL : ∀ l : List Int, PyData.eqv (.list (l.map .int)) (.list []) = l.isEmpty
  | [] => by decide +kernel
  | x :: l => by
    show PyData.eqv (.list (.int x :: l.map .int)) (.list []) = false
    simp [PyData.eqv, PyData.eqvAll]
theorem ix0 (n : Nat) : ixN (n + 1) 0 = some 0 := by
  unfold ixN
  simp
  try omega
/-- all but b and L as it was -/
def But2 (b L : Addr) (H H' : Hp) : Prop := ∀ a o, H a = some o → a ≠ b → a ≠ L → H' a = some o
theorem But2.refl {b L : Addr} {H : Hp} : But2 b L H H := fun _ _ e _ _ => e
theorem But2.same {b L : Addr} {H H1 H2 : Hp} (k : But2 b L H H1) (s : Same H1 H2) : But2 b L H H2 := fun a o e n1 n2 => s _ _ (k a o e n1 n2)
theorem But2.trans {b L : Addr} {H H1 H2 : Hp} (k : But2 b L H H1) (g : But2 b L H1 H2) : But2 b L H H2 := fun a o e n1 n2 => g a o (k a o e n1 n2) n1 n2
theorem But2.putL {b L : Addr} {H H1 : Hp} {o : HO} (k : But2 b L H H1) : But2 b L H (upd H1 L o) := fun a x e n1 n2 => by
  rw [upd_ne n2]
  exact k a x e n1 n2
theorem But2.putB {b L : Addr} {H H1 : Hp} {o : HO} (k : But2 b L H H1) : But2 b L H (upd H1 b o) := fun a x e n1 n2 => by
  rw [upd_ne n1]
  exact k a x e n1 n2
/-- the pot: at most m times stirred -/
structure Pot (H : Hp) (b L : Addr) (ns : List Int) (tot n : Int) : Prop where
  hb : H b = some (.lst [.ref L, .int tot, .int n])
  hL : H L = some (.lst (ns.map V.int))
  ne : L ≠ b
def PotAt (H : Hp) (b L : Addr) (m : Int) : Prop := ∃ ns tot n, Pot H b L ns tot n ∧ 0 ≤ n ∧ n ≤ m
theorem Pot.same {H H' : Hp} {b L : Addr} {ns : List Int} {tot n : Int} (h : Pot H b L ns tot n) (s : Same H H') : Pot H' b L ns tot n := ⟨s _ _ h.hb, s _ _ h.hL, h.ne⟩
theorem PotAt.same {H H' : Hp} {b L : Addr} {m : Int} (h : PotAt H b L m) (s : Same H H') : PotAt H' b L m := by
  obtain ⟨ns, tot, n, h1, h2⟩ := h
  exact ⟨ns, tot, n, h1.same s, h2⟩
section
variable {P : Program} {w : World} {K : PySem.W.Frag} {mg : Str → Option Value} {base : Heap}
def spMixed : Sp := fun vs H Q _ => ∃ (c k : Int), vs = [.int c, .int k] ∧ 0 ≤ k ∧ k < 2 ^ 60 ∧ ∀ v : Int, Q (.int v) H
theorem ok_mixed (T : Top K mg) : FnOk P w K mg base CX0 1 T.a_Lmixed T.d_Lmixed ["_law_cell", "_law_k"] spMixed := by
  refine T.F_Lmixed.ok sc_Lmixed (fun vs H Q E h => ?_) (fun cdv A outer s H vs Q E hr h => ?_)
  · obtain ⟨c, k, rfl, _⟩ := h
    rfl
  · obtain ⟨c, k, rfl, k0, k1, q⟩ := h
    refine ⟨_, (pss_cons (ps_set (i := 2) sc_Lmixed.nd rfl (.inl rfl) (pe_op op_mod (pe_op op_add (pe_op op_add (pe_op op_mul (pe_op op_mod (pv 0) pe_int) (pe_op op_add pe_int (pe_op op_mul (pe_op op_mul pe_int (pv 1)) (pv 1)))) (pe_op op_mul pe_int (pv 1))) pe_int) pe_int))
      (pss_cons (ps_set (i := 2) sc_Lmixed.nd rfl (.inl rfl) (pe_op op_fdivW (pe_op op_mod (pe_op op_mul (pv 2) (pv 2)) pe_int) pe_int))
      (pss_cons (ps_set (i := 3) sc_Lmixed.nd rfl (.inl rfl) (pe_op op_mod (pe_op op_add (pe_op op_add (pe_op op_mul (pv 2) pe_int) (pe_op op_mul pe_int (pv 1))) pe_int) pe_int))
      (pss_one (ps_ret (pe_op op_fdivW (pe_op op_mod (pe_op op_mul (pv 3) (pe_op op_add (pe_op op_mod (pv 2) pe_int) pe_int)) pe_int) pe_int)))))), ?_⟩
    refine ⟨_, rfl, _, _, rfl, rfl, (by show (0 : Int) < 2147483647; decide), ?_⟩
    refine ⟨_, rfl, _, _, rfl, rfl, .inl ⟨by decide, by decide⟩, _, rfl, _, _, rfl, rfl, .inr ⟨by omega, by omega⟩, ?_⟩
    refine ⟨_, _, rfl, rfl, ?_⟩
    refine ⟨_, _, rfl, rfl, emod_small (m := 2147483647) (by decide) (by decide), ?_⟩
    refine ⟨_, rfl, _, _, rfl, rfl, .inl ⟨by decide, by decide⟩, ?_⟩
    refine ⟨_, _, rfl, rfl, ?_⟩
    refine ⟨_, _, rfl, rfl, ?_⟩
    refine ⟨_, _, rfl, rfl, (by show (0 : Int) < 2147483629; decide), ?_⟩
    refine ⟨_, rfl, _, rfl, _, _, rfl, rfl, emod_small (m := 2147483629) (by decide) (by decide), _, _, rfl, rfl, (by show (0 : Int) < 2147483587; decide), _, _, rfl, rfl, wide_ok (by decide) (by decide), ?_⟩
    refine ⟨_, rfl, _, _, rfl, rfl, .inr ⟨by decide, by decide⟩, ?_⟩
    refine ⟨_, rfl, _, _, rfl, rfl, .inl ⟨by decide, by decide⟩, ?_⟩
    refine ⟨_, _, rfl, rfl, ?_⟩
    refine ⟨_, _, rfl, rfl, ?_⟩
    refine ⟨_, _, rfl, rfl, (by show (0 : Int) < 2147483579; decide), ?_⟩
    refine ⟨_, rfl, _, rfl, ?_⟩
    refine ⟨_, _, rfl, rfl, (by show (0 : Int) < 65521; decide), ?_⟩
    refine ⟨_, _, rfl, rfl, ?_⟩
    refine ⟨_, _, rfl, rfl, emod_small (m := 2147483579) (by decide) (by decide), ?_⟩
    refine ⟨_, _, rfl, rfl, (by show (0 : Int) < 2147483563; decide), ?_⟩
    exact ⟨_, _, rfl, rfl, wide_ok (by decide) (by decide), q _⟩
def spTake : Sp := fun vs H Q _ => ∃ (b L : Addr) (m many : Int), vs = [.ref b, .int many] ∧ PotAt H b L m ∧ m < 2 ^ 50 ∧ 0 < many ∧ many < 2 ^ 90 ∧ ∀ (x : Int) (H' : Hp), 0 ≤ x → x < many → PotAt H' b L (m + 1) → But2 b L H H' → Q (.int x) H'
theorem ok_take (T : Top K mg) : FnOk P w K mg base CX0 2 T.a_Ltake T.d_Ltake ["_law_pot_here", "_law_many"] spTake := by
  have G_Lmixed : FnOk P w K mg base CX0 1 _ _ _ _ := ok_mixed T
  refine T.F_Ltake.ok sc_Ltake (fun vs H Q E h => ?_) (fun cdv A outer s H vs Q E hr h => ?_)
  · obtain ⟨b, L, m, many, rfl, _⟩ := h
    rfl
  · obtain ⟨b, L, m, many, rfl, ⟨ns, tot, n, pt, n0, nm⟩, hm, m0, m1, q⟩ := h
    refine ⟨_, (pss_cons (ps_while PassesOwn.never (PW.pt (pw_and (pt_cmpR (op_neD hr.units) (pe_ix ix_list (pv 0) pe_int (fun _ _ => rfl)) (pe_lst pa_nil) (nomark _)) (pw_and1 (pt_cmpR op_eq (pe_ix ix_list (pe_ix ix_list (pv 0) pe_int (fun _ _ => rfl)) pe_int (fun _ _ => rfl)) pe_int (nomark _))))) (pss_one (ps_expr (pe_bm PySem.F.plainAttrs_list PySem.F.slot_list_pop PySem.F.type_list_pop mt_popAt (pe_ix ix_list (pv 0) pe_int (fun _ _ => rfl)) (pa_cons pe_int pa_nil)))))
      (pss_cons (ps_if (pt_cmpR (op_neD hr.units) (pe_ix ix_list (pv 0) pe_int (fun _ _ => rfl)) (pe_lst pa_nil) (nomark _)) (pss_cons (ps_set (i := 2) sc_Ltake.nd rfl (.inl rfl) (pe_op op_mod (pe_ix ix_list (pe_ix ix_list (pv 0) pe_int (fun _ _ => rfl)) pe_int (fun _ _ => rfl)) (pv 1)))
      (pss_cons (ps_asg (pe_op op_fdivW (pe_ix ix_list (pe_ix ix_list (pv 0) pe_int (fun _ _ => rfl)) pe_int (fun _ _ => rfl)) (pv 1)) (pg_sub (pe_ix ix_list (pv 0) pe_int (fun _ _ => rfl)) pe_int set_list))
      (pss_one (ps_ret (pv 2))))) pss_nil)
      (pss_cons (ps_augS (pv 0) pe_int get_list pe_int ip_add set_list)
      (pss_one (ps_ret (pe_op op_mod (pe_call G_Lmixed hr (by rfl) T.g_Lmixed T.F_Lmixed.kp T.b_Lmixed .nil pass0 (pa_cons (pe_op op_add (pe_ix ix_list (pv 0) pe_int (fun _ _ => rfl)) (pe_op op_mul pe_int (pe_ix ix_list (pv 0) pe_int (fun _ _ => rfl)))) (pa_cons (pe_ix ix_list (pv 0) pe_int (fun _ _ => rfl)) pa_nil))) (pv 1))))))), ?_⟩
    have fin : ∀ (x : Int) (H' : Hp) (ns' : List Int) (n' : Int), Pot H' b L ns' tot n' → 0 ≤ n' → n' ≤ m + 1 → But2 b L H H' → Q (.int (x % many)) H' := fun x H' ns' n' p' h1 h2 k => q _ _ (Int.emod_nonneg x (by omega)) (Int.emod_lt_of_pos x m0) ⟨ns', tot, n', p', h1, h2⟩ k
    refine ⟨fun k σ H2 => ∃ ns, k = ns.length ∧ σ = [some (.ref b), some (.int many), none] ∧ Pot H2 b L ns tot n ∧ But2 b L H H2, ⟨ns.length, ns, rfl, rfl, pt, .refl⟩, ?_⟩
    rintro k σ H2 ⟨ns, rfl, rfl, p2, k2⟩
    refine ⟨_, rfl, b, _, _, _, rfl, rfl, SqL.of p2.hb, atI_nat (j := 0) rfl, Nat.zero_le _, fun e ne => ?_⟩
    have se := same_new (o := .lst []) ne
    have he : upd H2 e (.lst []) e = some (.lst []) := upd_same
    generalize upd H2 e (.lst []) = H3 at se he ⊢
    have p3 := p2.same se
    have k3 := k2.same se
    refine ⟨_, _, .lst (SqL.of p3.hL) (dp_intsL ns), .lst (SqL.of he) .nil, shp_ints ns, rfl, ?_⟩
    rw [eq_nilL]
    cases ns with
    | nil =>
      refine ⟨_, rfl, iteF ?_⟩
      refine iteF ?_
      refine ⟨_, rfl, b, _, _, _, rfl, rfl, SqL.of p3.hb, atI_nat (j := 0) rfl, Nat.zero_le _, fun e2 ne2 => ?_⟩
      have se2 := same_new (o := .lst []) ne2
      have he2 : upd H3 e2 (.lst []) e2 = some (.lst []) := upd_same
      generalize upd H3 e2 (.lst []) = H4 at se2 he2 ⊢
      have p4 := p3.same se2
      have k4 := k3.same se2
      refine ⟨.list [], .list [], .lst (SqL.of p4.hL) .nil, .lst (SqL.of he2) .nil, rfl, rfl, ?_⟩
      rw [show PyData.eqv (.list []) (.list []) = true by decide +kernel]
      refine ⟨_, rfl, iteF ?_⟩
      refine ⟨_, rfl, b, _, _, _, rfl, rfl, SqL.of p4.hb, atI_nat (j := 2) rfl, _, _, rfl, rfl, b, _, _, 2, rfl, rfl, p4.hb, rfl, ?_⟩
      have p5 : Pot (upd H4 b (.lst ([V.ref L, V.int tot, V.int n].set 2 (.int (n + 1))))) b L [] tot (n + 1) := ⟨upd_same, by rw [upd_ne p4.ne]; exact p4.hL, p4.ne⟩
      have k5 : But2 b L H (upd H4 b (.lst ([V.ref L, V.int tot, V.int n].set 2 (.int (n + 1))))) := k4.putB
      generalize upd H4 b (.lst ([V.ref L, V.int tot, V.int n].set 2 (.int (n + 1)))) = H5 at p5 k5 ⊢
      refine ⟨_, rfl, b, _, _, _, rfl, rfl, SqL.of p5.hb, atI_nat (j := 1) rfl, ?_⟩
      refine ⟨_, rfl, b, _, _, _, rfl, rfl, SqL.of p5.hb, atI_nat (j := 2) rfl, _, _, rfl, rfl, .inl ⟨by decide, by decide⟩, ?_⟩
      refine ⟨_, _, rfl, rfl, ?_⟩
      refine ⟨_, rfl, b, _, _, _, rfl, rfl, SqL.of p5.hb, atI_nat (j := 2) rfl, ?_⟩
      refine ⟨_, _, rfl, by omega, by omega, fun v => ?_⟩
      exact ⟨_, rfl, _, _, rfl, rfl, m0, fin _ _ _ _ p5 (by omega) (by omega) k5⟩
    | cons x r =>
      refine ⟨_, rfl, iteT ?_⟩
      refine ⟨_, rfl, b, _, _, _, rfl, rfl, SqL.of p3.hb, atI_nat (j := 0) rfl, L, _, _, _, rfl, rfl, SqL.of p3.hL, atI_nat (j := 0) rfl, rfl, _, rfl, ite2 (fun _ => ?_) (fun _ => ?_)⟩
      · refine ⟨fun σ' H' => σ' = [some (.ref b), some (.int many), none] ∧ Pot H' b L r tot n ∧ But2 b L H H', fun σ' H' z => ⟨r.length, by rw [List.length_cons]; omega, r, rfl, z.1, z.2.1, z.2.2⟩, ?_⟩
        refine ⟨_, rfl, b, _, _, _, rfl, rfl, SqL.of p3.hb, atI_nat (j := 0) rfl, .inl ⟨rfl, _, SqL.of p3.hL⟩, L, _, 0, 0, _, rfl, rfl, p3.hL, by decide, by decide, ?_, rfl, rfl, ⟨?_, upd_same, p3.ne⟩, k3.putL⟩
        · simp [seqIndex?]
        · rw [upd_ne p3.ne.symm]
          exact p3.hb
      · refine ⟨_, rfl, b, _, _, _, rfl, rfl, SqL.of p3.hb, atI_nat (j := 0) rfl, Nat.zero_le _, fun e2 ne2 => ?_⟩
        have se2 := same_new (o := .lst []) ne2
        have he2 : upd H3 e2 (.lst []) e2 = some (.lst []) := upd_same
        generalize upd H3 e2 (.lst []) = H4 at se2 he2 ⊢
        have p4 := p3.same se2
        have k4 := k3.same se2
        refine ⟨_, _, .lst (SqL.of p4.hL) (dp_intsL (x :: r)), .lst (SqL.of he2) .nil, shp_ints (x :: r), rfl, ?_⟩
        rw [eq_nilL]
        refine ⟨_, rfl, iteT ?_⟩
        refine ⟨_, rfl, b, _, _, _, rfl, rfl, SqL.of p4.hb, atI_nat (j := 0) rfl, L, _, _, _, rfl, rfl, SqL.of p4.hL, atI_nat (j := 0) rfl, _, rfl, _, _, rfl, rfl, m0, ?_⟩
        refine ⟨_, rfl, b, _, _, _, rfl, rfl, SqL.of p4.hb, atI_nat (j := 0) rfl, L, _, _, _, rfl, rfl, SqL.of p4.hL, atI_nat (j := 0) rfl, _, rfl, _, _, rfl, rfl, wide_ok m0 (by omega), ?_⟩
        refine ⟨_, rfl, b, _, _, _, rfl, rfl, SqL.of p4.hb, atI_nat (j := 0) rfl, L, _, 0, 0, rfl, rfl, p4.hL, (by rw [List.length_map, List.length_cons]; exact ix0 _), ?_⟩
        exact ⟨_, rfl, fin x _ ((x / many) :: r) n ⟨by rw [upd_ne p4.ne.symm]; exact p4.hb, upd_same, p4.ne⟩ n0 (by omega) k4.putL⟩
def spPot (K : PySem.W.Frag) : Sp := fun vs H Q _ => ∃ (a : Addr) (ns : List Int), vs = [.ref a] ∧ SqL K H a (ns.map V.int) ∧ ∀ (b L : Addr) (H' : Hp), Same H H' → H b = none → H L = none → PotAt H' b L 0 → Q (.ref b) H'
theorem ok_pot (T : Top K mg) : FnOk P w K mg base CX0 1 T.a_Lpot T.d_Lpot ["_law_script"] (spPot K) := by
  refine T.F_Lpot.ok sc_Lpot (fun vs H Q E h => ?_) (fun cdv A outer s H vs Q E hr h => ?_)
  · obtain ⟨a, ns, rfl, _⟩ := h
    rfl
  · obtain ⟨a, ns, rfl, hS, q⟩ := h
    refine ⟨_, (pss_cons (ps_set (i := 1) sc_Lpot.nd rfl (.inl rfl) pe_int)
      (pss_cons (ps_for PassesOwn.never rfl (pi_enum (by rfl) T.m_enumerate (pa_cons (pe_slice sl_list (pv 0) po_none (po_some pe_int)) pa_nil)) (pg_tup rfl (pgs_cons (pg_name (i := 2) sc_Lpot.nd rfl (.inl rfl)) (pgs_cons (pg_name (i := 3) sc_Lpot.nd rfl (.inl rfl)) pgs_nil))) (pss_one (ps_set (i := 1) sc_Lpot.nd rfl (.inl rfl) (pe_op op_mod (pe_op op_add (pe_op op_add (pe_op op_add (pe_op op_mul (pv 1) pe_int) (pv 3)) (pe_op op_mul pe_int (pv 2))) pe_int) (pe_op op_add (pe_op op_pow pe_int pe_int) pe_int)))))
      (pss_one (ps_ret (pe_lst (pa_cons (pe_lc (own := [("_law_cell", 3)]) (g := gName 3) (by rfl) sc_Lpot.nd (pi_list (pe_slice sl_list (pv 0) po_none (po_some pe_int))) (blkOk_by (own := [("_law_cell", 3)]) (N := ["_law_script", "_law_total", "_law_k", "_law_cell"]) (sc := defScope s_Lpot) (by decide +kernel)) (fun _ _ _ _ _ => (pg_name (i := 3) sc_Lpot.nd rfl (.inl rfl))) (fun _ _ _ _ _ => (pts_one (pt_cmpR op_ge (pe_callB call_abs (by rfl) T.m_abs (by decide +kernel) (pa_cons (pv 3) pa_nil)) (pe_op op_pow pe_int pe_int) (nomark _)))) (fun _ _ _ _ _ => (pe_callB call_abs (by rfl) T.m_abs (by decide +kernel) (pa_cons (pv 3) pa_nil)))) (pa_cons (pv 1) (pa_cons pe_int pa_nil)))))))), ?_⟩
    have hints : ∀ v ∈ cutV (ns.map V.int) none (some 63), ∃ c, v = .int c := fun v m => by
      have m : v ∈ ns.map V.int := by
        unfold cutV at m
        exact List.mem_of_mem_drop (List.mem_of_mem_take m)
      obtain ⟨c, _, rfl⟩ := List.mem_map.mp m
      exact ⟨c, rfl⟩
    have cl : (cutV (ns.map V.int) none (some 63)).length ≤ 63 := by
      unfold cutV
      rw [List.length_take]
      have : HT.sIx (ns.map V.int).length (ns.map V.int).length (some 63) ≤ 63 := by
        rw [show (63 : Int) = ((63 : Nat) : Int) from rfl, HT.sIx_nat]
        omega
      omega
    refine ⟨_, rfl, 63, rfl, a, _, rfl, hS, fun p np => ?_⟩
    have sp := same_new (o := .lst (cutV (ns.map V.int) none (some 63))) np
    have hp : upd H p (.lst (cutV (ns.map V.int) none (some 63))) p = some (.lst (cutV (ns.map V.int) none (some 63))) := upd_same
    generalize upd H p (.lst (cutV (ns.map V.int) none (some 63))) = H1 at sp hp ⊢
    refine ⟨p, _, rfl, SqL.of hp, for_it walk_enum (fun i σ H2 => ∃ (t : Int) (y2 y3 : Option V), σ = [some (.ref a), some (.int t), y2, y3] ∧ Same H1 H2) ⟨0, none, none, rfl, fun _ _ e => e⟩ (fun i σ H2 _ z => by obtain ⟨_, _, _, _, z⟩ := z; exact SqL.of (z _ _ hp)) ?_ ?_⟩
    · rintro i v σ H2 H3 hi ⟨t, y2, y3, rfl, s2⟩ ⟨T0, x, y, rfl, nT, rfl, hx, hy⟩
      dsimp only at hx hy
      obtain ⟨c, rfl⟩ := hints y (List.mem_of_getElem? hy)
      obtain rfl : V.int (i : Int) = x := Option.some.inj hx
      have sT := same_new (o := .tup [V.int (i : Int), V.int c]) nT
      refine ⟨T0, _, rfl, SqT.of upd_same, rfl, _, _, rfl, _, _, rfl, rfl, ?_⟩
      refine ⟨_, rfl, _, _, rfl, rfl, .inr ⟨by decide, by decide⟩, ?_⟩
      refine ⟨_, rfl, _, _, rfl, rfl, ?_⟩
      refine ⟨_, rfl, _, _, rfl, rfl, .inl ⟨by decide, by decide⟩, ?_⟩
      refine ⟨_, _, rfl, rfl, ?_⟩
      refine ⟨_, _, rfl, rfl, ?_⟩
      refine ⟨_, _, rfl, rfl, ⟨by decide, by decide, by decide⟩, ?_⟩
      refine ⟨_, _, rfl, rfl, ?_⟩
      exact ⟨_, _, rfl, rfl, (by show (0 : Int) < 10 ^ (18 : Int).toNat + 9; decide +kernel), _, _, _, rfl, s2.trans sT⟩
    · rintro σ H2 ⟨t, y2, y3, rfl, s2⟩
      refine ⟨_, rfl, 63, rfl, a, _, rfl, (sp.trans s2).seq hS, fun p2 np2 => ?_⟩
      have sp2 := same_new (o := .lst (cutV (ns.map V.int) none (some 63))) np2
      have hp2 : upd H2 p2 (.lst (cutV (ns.map V.int) none (some 63))) p2 = some (.lst (cutV (ns.map V.int) none (some 63))) := upd_same
      generalize upd H2 p2 (.lst (cutV (ns.map V.int) none (some 63))) = H3 at sp2 hp2 ⊢
      have s03 : Same H H3 := (sp.trans s2).trans sp2
      refine ⟨p2, rfl, ⟨_, SqL.of hp2⟩, fun D nD => ?_⟩
      refine lc_list (xs := cutV (ns.map V.int) none (some 63)) (fun i H4 => Same H3 H4 ∧ ∃ ms : List Int, H4 D = some (.lst (ms.map V.int)) ∧ ms.length ≤ i) ⟨same_new nD, [], upd_same, Nat.le_refl _⟩ (fun i H4 _ z => SqL.of (z.1 _ _ hp2)) ?_ ?_
      · rintro i v H4 hv ⟨s4, ms, hD, lm⟩
        obtain ⟨c, rfl⟩ := hints v (List.mem_of_getElem? hv)
        have hi := (List.getElem?_eq_some_iff.mp hv).1
        refine ⟨rfl, _, rfl, _, rfl, ?_⟩
        refine ⟨_, _, rfl, rfl, ⟨by decide, by decide, by decide⟩, ?_⟩
        refine ⟨_, _, rfl, rfl, _, rfl, ite2 (fun _ => ?_) (fun _ => ⟨s4, ms, hD, by omega⟩)⟩
        refine ⟨_, rfl, _, rfl, _, hD, szl (by rw [List.length_map]; omega), ?_, ms ++ [if c < 0 then -c else c], ?_, by rw [List.length_append]; show ms.length + 1 ≤ i + 1; omega⟩
        · intro b o e
          rw [upd_ne (ne_of_none e nD)]
          exact s4 _ _ e
        · rw [upd_same, List.map_append]
          rfl
      · rintro H4 ⟨s4, ms, hD, lm⟩
        refine ⟨_, rfl, (by show 3 ≤ sizeLine; decide), fun b nb => ?_⟩
        have sb := same_new (o := .lst [.ref D, .int t, .int 0]) nb
        have s0 : Same H (upd H4 b (.lst [.ref D, .int t, .int 0])) := s03.trans (s4.trans sb)
        have none_of : ∀ {X : Hp} {c : Addr}, Same H X → X c = none → H c = none := fun {X c} sx n => by
          cases e : H c with
          | none => rfl
          | some o =>
            rw [sx _ _ e] at n
            cases n
        refine q b D _ s0 (none_of (s03.trans s4) nb) (none_of s03 nD) ⟨ms, t, 0, ⟨upd_same, sb _ _ hD, ?_⟩, Int.le_refl _, Int.le_refl _⟩
        intro e
        rw [← e, hD] at nb
        cases nb
end

end My
namespace My
open PySem L2
/-! ### offers drawn -/
def td3 (t : O3) : PyData := .tuple [.int t.1.1, .int t.1.2, .int t.2]
theorem OAll.dp {K : PySem.W.Frag} {H : Hp} : ∀ {vs : List V} {ts : O3s}, OAll H vs ts → DpAll K H vs (ts.map td3)
  | _, _, .nil => .nil
  | _, _, .cons h k => .cons (.tup (SqT.of h) (.cons (.int _) (.cons (.int _) (.cons (.int _) .nil)))) k.dp
theorem lay_td3 : ∀ ts : O3s, PyData.canLayAll0 (ts.map td3) = true ∧ PyData.depthAll (ts.map td3) ≤ 1
  | [] => ⟨rfl, Nat.zero_le _⟩
  | t :: r => by
    have ih := lay_td3 r
    obtain ⟨⟨a, b⟩, c⟩ := t
    refine ⟨?_, ?_⟩
    · show (PyData.canLay0 (td3 ((a, b), c)) && PyData.canLayAll0 (r.map td3)) = true
      rw [ih.1, Bool.and_true]
      rfl
    · show max (PyData.depth (td3 ((a, b), c))) (PyData.depthAll (r.map td3)) ≤ 1
      exact Nat.max_le.mpr ⟨Nat.le_refl _, ih.2⟩
theorem shp_td3 (ts : O3s) : SeqAt.shaped (.list (ts.map td3)) = true := by
  obtain ⟨h1, h2⟩ := lay_td3 ts
  show (PyData.canLayAll0 (ts.map td3) && decide (PyData.depthAll (ts.map td3) + 1 ≤ 64)) = true
  rw [h1, decide_eq_true (show PyData.depthAll (ts.map td3) + 1 ≤ 64 by omega)]
  rfl
theorem eq_nil3 : ∀ l : O3s, PyData.eqv (.list (l.map td3)) (.list []) = l.isEmpty
  | [] => by decide +kernel
  | x :: l => by
    show PyData.eqv (.list (td3 x :: l.map td3)) (.list []) = false
    simp [PyData.eqv, PyData.eqvAll]
theorem pick2 {u v x : Int} (h0 : 0 ≤ x) (h1 : x < 4) : ∃ w, atI [V.int u, V.int v] (x / 3) = some (.int w) ∧ (w = u ∨ w = v) := by
  have hc : x / 3 = 0 ∨ x / 3 = 1 := by omega
  rcases hc with e | e
  · rw [e]
    exact ⟨u, rfl, .inl rfl⟩
  · rw [e]
    exact ⟨v, rfl, .inr rfl⟩
section
variable {H H' : Hp} {b L p : Addr} {m : Int}
theorem PotAt.le {m' : Int} (h : PotAt H b L m) (l : m ≤ m') : PotAt H b L m' := by
  obtain ⟨ns, tot, n, p, h1, h2⟩ := h
  exact ⟨ns, tot, n, p, h1, by omega⟩
theorem PotAt.kp (h : PotAt H b L m) (k : Kp H H') : PotAt H' b L m := by
  obtain ⟨ns, tot, n, p, hn⟩ := h
  exact ⟨ns, tot, n, ⟨k _ _ p.hb (by intro ps z; cases z), k _ _ p.hL (by intro ps z; cases z), p.ne⟩, hn⟩
theorem PotAt.ne (h : PotAt H b L m) (n : H p = none) : p ≠ b ∧ p ≠ L := by
  obtain ⟨ns, tot, k, q, _⟩ := h
  exact ⟨(ne_of_none q.hb n).symm, (ne_of_none q.hL n).symm⟩
theorem PotAt.put {o : HO} (h : PotAt H b L m) (n1 : p ≠ b) (n2 : p ≠ L) : PotAt (upd H p o) b L m := by
  obtain ⟨ns, tot, n, q, hn⟩ := h
  exact ⟨ns, tot, n, ⟨by rw [upd_ne n1.symm]; exact q.hb, by rw [upd_ne n2.symm]; exact q.hL, q.ne⟩, hn⟩
theorem But2.tup (k : But2 b L H H') (P : PotAt H b L m) {xs : List V} (h : H p = some (.tup xs)) : H' p = some (.tup xs) := by
  obtain ⟨ns, tot, n, q, _⟩ := P
  exact k _ _ h (ne_of h q.hb (by intro z; cases z)) (ne_of h q.hL (by intro z; cases z))
theorem But2.of_same (s : Same H H') : But2 b L H H' := fun a o e _ _ => s a o e
theorem But2.put {H1 : Hp} {D : Addr} {o : HO} (k : But2 b L H H1) (n : H D = none) : But2 b L H (upd H1 D o) := fun a x e n1 n2 => by
  rw [upd_ne (ne_of_none e n)]
  exact k a x e n1 n2
theorem OAll.but2 (k : But2 b L H H') (P : PotAt H b L m) {vs : List V} {ts : O3s} (h : OAll H vs ts) : OAll H' vs ts := h.mono fun _ _ _ _ e => k.tup P e
theorem NAll.but2 (k : But2 b L H H') (P : PotAt H b L m) {vs : List V} {ts : List NR} (h : NAll H vs ts) : NAll H' vs ts := h.mono fun _ _ e => k.tup P e
end
theorem pick4 {x : Int} (h0 : 0 ≤ x) (h1 : x < 4) : ∃ w, atI [V.int 3, V.int 7, V.int 100, V.int (10 ^ (18 : Int).toNat)] x = some (.int w) ∧ 0 < w ∧ w < 2 ^ 90 := by
  have hc : x = 0 ∨ x = 1 ∨ x = 2 ∨ x = 3 := by omega
  rcases hc with e | e | e | e <;> subst e
  · exact ⟨3, rfl, by decide, by decide⟩
  · exact ⟨7, rfl, by decide, by decide⟩
  · exact ⟨100, rfl, by decide, by decide⟩
  · exact ⟨_, rfl, by decide, by decide⟩
def spOffers : Sp := fun vs H Q _ => ∃ (b L : Addr) (m : Int), vs = [.ref b] ∧ PotAt H b L m ∧ m < 2 ^ 40 ∧ ∀ (f D : Addr) (vs : List V) (os : O3s) (n : Nat) (H' : Hp), PotAt H' b L (m + 400) → But2 b L H H' → H' f = some (.tup [.int (n : Int), .ref D]) → H' D = some (.lst vs) → D ≠ b → D ≠ L → OAll H' vs os → 1 ≤ n → n ≤ 40 → os.length ≤ 63 → BdO os n → (∀ t ∈ os, 0 ≤ t.2) → Q (.ref f) H'
section
variable {P : Program} {w : World} {K : PySem.W.Frag} {mg : Str → Option Value} {base : Heap}
theorem ok_offers (T : Top K mg) : FnOk P w K mg base CX0 3 T.a_Loffers T.d_Loffers ["_law_pot_here"] spOffers := by
  have G_Ltake : FnOk P w K mg base CX0 2 _ _ _ _ := ok_take T
  refine T.F_Loffers.ok sc_Loffers (fun vs H Q E h => ?_) (fun cdv A outer s H vs Q E hr h => ?_)
  · obtain ⟨b, L, m, rfl, _⟩ := h
    rfl
  · obtain ⟨b, L, m, rfl, P0, mm, q⟩ := h
    refine ⟨_, (pss_cons (ps_set (i := 1) sc_Loffers.nd rfl (.inl rfl) (pe_ix ix_list (pe_lst (pa_cons (pe_op op_add pe_int (pe_call G_Ltake hr (by rfl) T.g_Ltake T.F_Ltake.kp T.b_Ltake .nil pass0 (pa_cons (pv 0) (pa_cons pe_int pa_nil)))) (pa_cons (pe_op op_add pe_int (pe_call G_Ltake hr (by rfl) T.g_Ltake T.F_Ltake.kp T.b_Ltake .nil pass0 (pa_cons (pv 0) (pa_cons pe_int pa_nil)))) pa_nil))) (pe_op op_fdivW (pe_call G_Ltake hr (by rfl) T.g_Ltake T.F_Ltake.kp T.b_Ltake .nil pass0 (pa_cons (pv 0) (pa_cons pe_int pa_nil))) pe_int) (fun _ _ => rfl)))
      (pss_cons (ps_set (i := 2) sc_Loffers.nd rfl (.inl rfl) (pe_ix ix_list (pe_lst (pa_cons (pe_call G_Ltake hr (by rfl) T.g_Ltake T.F_Ltake.kp T.b_Ltake .nil pass0 (pa_cons (pv 0) (pa_cons pe_int pa_nil))) (pa_cons (pe_call G_Ltake hr (by rfl) T.g_Ltake T.F_Ltake.kp T.b_Ltake .nil pass0 (pa_cons (pv 0) (pa_cons pe_int pa_nil))) pa_nil))) (pe_op op_fdivW (pe_call G_Ltake hr (by rfl) T.g_Ltake T.F_Ltake.kp T.b_Ltake .nil pass0 (pa_cons (pv 0) (pa_cons pe_int pa_nil))) pe_int) (fun _ _ => rfl)))
      (pss_cons (ps_set (i := 3) sc_Loffers.nd rfl (.inl rfl) (pe_ix ix_list (pe_lst (pa_cons pe_int (pa_cons pe_int (pa_cons pe_int (pa_cons (pe_op op_pow pe_int pe_int) pa_nil))))) (pe_call G_Ltake hr (by rfl) T.g_Ltake T.F_Ltake.kp T.b_Ltake .nil pass0 (pa_cons (pv 0) (pa_cons pe_int pa_nil))) (fun _ _ => rfl)))
      (pss_cons (ps_set (i := 4) sc_Loffers.nd rfl (.inl rfl) (pe_lst pa_nil))
      (pss_cons (ps_for PassesOwn.never rfl (pi_range1 (by rfl) T.m_range (pa_cons (pv 2) pa_nil)) (pg_name (i := 5) sc_Loffers.nd rfl (.inl rfl)) (pss_cons (ps_par (i := 6) (j := 7) (by rfl) sc_Loffers.nd rfl rfl (by decide) rfl rfl (pa_cons (pe_call G_Ltake hr (by rfl) T.g_Ltake T.F_Ltake.kp T.b_Ltake .nil pass0 (pa_cons (pv 0) (pa_cons (pv 1) pa_nil))) (pa_cons (pe_call G_Ltake hr (by rfl) T.g_Ltake T.F_Ltake.kp T.b_Ltake .nil pass0 (pa_cons (pv 0) (pa_cons (pv 1) pa_nil))) pa_nil)) (by rfl))
      (pss_cons (ps_mid (ps_if (PW.pt (pw_and (pt_cmpR (op_neD hr.units) (pv 4) (pe_lst pa_nil) (nomark _)) (pw_and1 (pt_cmpR op_eq (pe_call G_Ltake hr (by rfl) T.g_Ltake T.F_Ltake.kp T.b_Ltake .nil pass0 (pa_cons (pv 0) (pa_cons pe_int pa_nil))) pe_int (nomark _))))) (pss_one (ps_asg (pe_revT (pe_slice sl_tupA (pe_ix ix_list (pv 4) (pe_call G_Ltake hr (by rfl) T.g_Ltake T.F_Ltake.kp T.b_Ltake .nil pass0 (pa_cons (pv 0) (pa_cons (pe_callB call_len_seq (by rfl) T.m_len PySem.boot_len (pa_cons (pv 4) pa_nil)) pa_nil))) (fun _ _ => rfl)) po_none (po_some pe_int))) (pg_tup rfl (pgs_cons (pg_name (i := 6) sc_Loffers.nd rfl (.inl rfl)) (pgs_cons (pg_name (i := 7) sc_Loffers.nd rfl (.inl rfl)) pgs_nil))))) pss_nil))
      (pss_one (ps_expr (pe_bm PySem.F.plainAttrs_list PySem.F.slot_list_append PySem.F.type_list_append mt_append (pv 4) (pa_cons (pe_tup (pa_cons (pv 6) (pa_cons (pv 7) (pa_cons (pe_call G_Ltake hr (by rfl) T.g_Ltake T.F_Ltake.kp T.b_Ltake .nil pass0 (pa_cons (pv 0) (pa_cons (pv 3) pa_nil))) pa_nil)))) pa_nil)))))))
      (pss_one (ps_ret (pe_tup (pa_cons (pv 1) (pa_cons (pv 4) pa_nil)))))))))), ?_⟩
    refine ⟨_, rfl, b, L, m, 9, rfl, P0, by omega, by decide, by decide, fun x1 H1 a1 c1 P1 k1 => ⟨_, _, rfl, rfl, ?_⟩⟩
    refine ⟨_, rfl, b, L, m + 1, 40, rfl, P1, by omega, by decide, by decide, fun x2 H2 a2 c2 P2 k2 => ⟨_, _, rfl, rfl, (by show 2 ≤ sizeLine; decide), fun p np => ?_⟩⟩
    have sp := same_new (o := .lst [V.int (1 + x1), V.int (1 + x2)]) np
    have hp : upd H2 p (.lst [V.int (1 + x1), V.int (1 + x2)]) p = some (.lst [V.int (1 + x1), V.int (1 + x2)]) := upd_same
    obtain ⟨e1, e2⟩ := P2.ne np
    have P2 := P2.same sp
    generalize upd H2 p (.lst [V.int (1 + x1), V.int (1 + x2)]) = H2' at sp hp P2 ⊢
    refine ⟨_, rfl, b, L, _, 4, rfl, P2, by omega, by decide, by decide, fun x3 H3 a3 c3 P3 k3 => ⟨_, _, rfl, rfl, wide_ok (by decide) (by decide), ?_⟩⟩
    obtain ⟨n, hn, hn2⟩ := pick2 (u := 1 + x1) (v := 1 + x2) a3 c3
    have n1 : 1 ≤ n := by rcases hn2 with e | e <;> omega
    have n40 : n ≤ 40 := by rcases hn2 with e | e <;> omega
    refine ⟨p, _, _, _, rfl, rfl, SqL.of (k3 _ _ hp e1 e2), hn, ?_⟩
    have k13 : But2 b L H H3 := ((k1.trans k2).same sp).trans k3
    clear hn2 hn hp sp k1 k2 k3 P1 P2 e1 e2 np
    -- how many
    refine ⟨_, rfl, b, L, _, 16, rfl, P3, by omega, by decide, by decide, fun x4 H4 a4 c4 P4 k4 => ?_⟩
    refine ⟨_, rfl, b, L, _, 64, rfl, P4, by omega, by decide, by decide, fun x5 H5 a5 c5 P5 k5 => ⟨(by show 2 ≤ sizeLine; decide), fun p np => ?_⟩⟩
    have sp := same_new (o := .lst [V.int x4, V.int x5]) np
    have hp : upd H5 p (.lst [V.int x4, V.int x5]) p = some (.lst [V.int x4, V.int x5]) := upd_same
    obtain ⟨e1, e2⟩ := P5.ne np
    have P5 := P5.same sp
    generalize upd H5 p (.lst [V.int x4, V.int x5]) = H5' at sp hp P5 ⊢
    refine ⟨_, rfl, b, L, _, 4, rfl, P5, by omega, by decide, by decide, fun x6 H6 a6 c6 P6 k6 => ⟨_, _, rfl, rfl, wide_ok (by decide) (by decide), ?_⟩⟩
    obtain ⟨z, hz, hz2⟩ := pick2 (u := x4) (v := x5) a6 c6
    have z0 : 0 ≤ z := by rcases hz2 with e | e <;> omega
    have z63 : z ≤ 63 := by rcases hz2 with e | e <;> omega
    refine ⟨p, _, _, _, rfl, rfl, SqL.of (k6 _ _ hp e1 e2), hz, ?_⟩
    have k16 : But2 b L H H6 := ((k13.trans (k4.trans k5)).same sp).trans k6
    clear hz2 hz hp sp k4 k5 k6 P3 P4 P5 e1 e2 np k13
    -- how dear
    refine ⟨_, _, rfl, rfl, ⟨by decide, by decide, by decide⟩, ?_⟩
    refine ⟨(by show 4 ≤ sizeLine; decide), fun p np => ?_⟩
    have hp0 : ∃ H7, H7 = upd H6 p (.lst [V.int 3, V.int 7, V.int 100, V.int (10 ^ (18 : Int).toNat)]) := ⟨_, rfl⟩
    have sp := same_new (o := .lst [V.int 3, V.int 7, V.int 100, V.int (10 ^ (18 : Int).toNat)]) np
    have hp : upd H6 p (.lst [V.int 3, V.int 7, V.int 100, V.int (10 ^ (18 : Int).toNat)]) p = some (.lst [V.int 3, V.int 7, V.int 100, V.int (10 ^ (18 : Int).toNat)]) := upd_same
    obtain ⟨e1, e2⟩ := P6.ne np
    have P6 := P6.same sp
    have k16 := k16.same sp
    generalize upd H6 p (.lst [V.int 3, V.int 7, V.int 100, V.int (10 ^ (18 : Int).toNat)]) = H6' at sp hp P6 k16 ⊢
    refine ⟨_, rfl, b, L, _, 4, rfl, P6, by omega, by decide, by decide, fun x7 H6 a7 c7 P6b k7 => ?_⟩
    obtain ⟨far, hfar, f0, f1⟩ := pick4 a7 c7
    refine ⟨p, _, _, _, rfl, rfl, SqL.of (k7 _ _ hp e1 e2), hfar, ?_⟩
    have k16 := k16.trans k7
    have P6 := P6b
    clear hfar hp0 hp sp P6b k7 e1 e2 np a7 c7
    refine ⟨Nat.zero_le _, fun D nD => ?_⟩
    obtain ⟨d1, d2⟩ := P6.ne nD
    have nDH : H D = none := by
      cases e : H D with
      | none => rfl
      | some o =>
        rw [k16 _ _ e d1 d2] at nD
        cases nD
    have sD := same_new (o := .lst ([] : List V)) nD
    have hD : upd H6 D (.lst ([] : List V)) D = some (.lst []) := upd_same
    have P7 := (P6.same sD).le (m' := m + 7) (by omega)
    have k17 := k16.same sD
    generalize upd H6 D (.lst ([] : List V)) = H7 at sD hD P7 k17 ⊢
    refine ⟨_, rfl, _, rfl, by omega, by omega, for_range (lo := 0) (n := z.toNat) (fun i σ G => ∃ (vs : List V) (os : O3s) (y5 y6 y7 : Option V), σ = [some (.ref b), some (.int n), some (.int z), some (.int far), some (.ref D), y5, y6, y7] ∧ PotAt G b L (m + 7 + 5 * (i : Int)) ∧ G D = some (.lst vs) ∧ OAll G vs os ∧ os.length = i ∧ (∀ t ∈ os, 0 ≤ t.1.1 ∧ t.1.1 < n ∧ 0 ≤ t.1.2 ∧ t.1.2 < n ∧ 0 ≤ t.2) ∧ But2 b L H G) ⟨[], [], none, none, none, rfl, P7.le (by omega), hD, .nil, rfl, (fun t z => nomatch z), k17⟩ ?_ ?_⟩
    · rintro i σ G hi ⟨vs, os, y5, y6, y7, rfl, Pg, hDg, pa, lo, bd, kg⟩
      have ly := pa.length
      refine ⟨_, rfl, _, rfl, b, L, _, n, rfl, Pg, by omega, by omega, by omega, fun a G1 a0 a1 Pg1 g1 => ?_⟩
      refine ⟨_, rfl, _, rfl, b, L, _, n, rfl, Pg1, by omega, by omega, by omega, fun c G2 b0 b1 Pg2 g2 => ⟨_, _, rfl, ?_⟩⟩
      have g12 := g1.trans g2
      have hD2 := g12 _ _ hDg d1 d2
      have pa2 := pa.but2 g12 Pg
      refine ⟨fun σ' G' => ∃ a c : Int, σ' = [some (.ref b), some (.int n), some (.int z), some (.int far), some (.ref D), some (.int (0 + (i : Int))), some (.int a), some (.int c)] ∧ 0 ≤ a ∧ a < n ∧ 0 ≤ c ∧ c < n ∧ PotAt G' b L (m + 7 + 5 * (i : Int) + 4) ∧ G' D = some (.lst vs) ∧ OAll G' vs os ∧ But2 b L H G', ?_, ?_⟩
      · refine ⟨_, rfl, Nat.zero_le _, fun e ne => ?_⟩
        have se := same_new (o := .lst ([] : List V)) ne
        have he : upd G2 e (.lst ([] : List V)) e = some (.lst []) := upd_same
        have Pg3 := Pg2.same se
        have hD3 := se _ _ hD2
        have pa3 := pa2.same se
        have kg3 := (kg.trans g12).same se
        generalize upd G2 e (.lst ([] : List V)) = G3 at se he Pg3 hD3 pa3 kg3 ⊢
        refine ⟨_, _, .lst (SqL.of hD3) pa3.dp, .lst (SqL.of he) .nil, shp_td3 os, rfl, ?_⟩
        rw [eq_nil3]
        cases os with
        | nil => exact ⟨_, rfl, iteF (iteF ⟨a, c, rfl, a0, a1, b0, b1, Pg3.le (by omega), hD3, pa3, kg3⟩)⟩
        | cons o1 or =>
        refine ⟨_, rfl, iteT ?_⟩
        refine ⟨_, rfl, b, L, _, 6, rfl, Pg3, by omega, by decide, by decide, fun x G4 x0 x1' Pg4 g4 => ⟨rfl, _, rfl, ?_⟩⟩
        have hD4 := g4 _ _ hD3 d1 d2
        have pa4 := pa3.but2 g4 Pg3
        refine ite2 (fun _ => ?_) (fun _ => ⟨a, c, rfl, a0, a1, b0, b1, Pg4.le (by omega), hD4, pa4, kg3.trans g4⟩)
        have lv : (vs.length : Int) = ((o1 :: or).length : Nat) := by omega
        rw [List.length_cons] at lo lv
        refine ⟨_, rfl, _, rfl, _, rfl, D, _, rfl, .inl (SqL.of hD4), b, L, _, (vs.length : Int), rfl, Pg4, by omega, by omega, by omega, fun x G5 x50 x51 Pg5 g5 => ?_⟩
        have hD5 := g5 _ _ hD4 d1 d2
        have pa5 := pa4.but2 g5 Pg4
        have hu : (o1 :: or)[x.toNat]? = some (o1 :: or)[x.toNat] := List.getElem?_eq_getElem (by rw [List.length_cons]; omega)
        have bu := bd _ (List.mem_of_getElem? hu)
        generalize (o1 :: or)[x.toNat] = u at hu bu
        obtain ⟨tp, e1, htp⟩ := pa5.ix x50 hu
        refine ⟨D, _, _, _, rfl, rfl, SqL.of hD5, e1, 2, rfl, slA rfl htp fun p2 G6 s6 hp2 => ?_⟩
        have hp2 : G6 p2 = some (.tup [V.int u.1.1, V.int u.1.2]) := hp2
        refine ⟨p2, _, rfl, SqT.of hp2, fun r nr => ?_⟩
        have sr := s6.trans (same_new (o := .tup [V.int u.1.1, V.int u.1.2].reverse) nr)
        refine ⟨r, [.int u.1.2, .int u.1.1], rfl, SqT.of upd_same, rfl, _, _, rfl, _, _, rfl, rfl, ?_⟩
        exact ⟨u.1.2, u.1.1, rfl, bu.2.2.1, bu.2.2.2.1, bu.1, bu.2.1, (Pg5.same sr).le (by omega), sr _ _ hD5, pa5.same sr, ((kg3.trans g4).trans g5).same sr⟩
      clear y5 y6 y7 Pg Pg1 Pg2 hDg hD2 pa pa2 g1 g2 g12 a0 a1 b0 b1 a c kg
      rintro σ' G3 ⟨a, c, rfl, a0, a1, c0, c1, Pg3, hD3, pa3, kg3⟩
      refine ⟨_, rfl, .inl ⟨rfl, _, SqL.of hD3⟩, _, rfl, _, rfl, _, rfl, _, rfl, b, L, _, far, rfl, Pg3, by omega, f0, f1, fun pz G4 pz0 _ Pg4 g4 => ⟨(by show 3 ≤ sizeLine; decide), fun t nt => ?_⟩⟩
      have hD4 := g4 _ _ hD3 d1 d2
      have pa4 := pa3.but2 g4 Pg3
      have kg4 := kg3.trans g4
      have st := same_new (o := .tup [V.int a, V.int c, V.int pz]) nt
      have ht : upd G4 t (.tup [V.int a, V.int c, V.int pz]) t = some (.tup [V.int a, V.int c, V.int pz]) := upd_same
      have hD5 := st _ _ hD4
      have Pg5 := Pg4.same st
      have pa5 := pa4.same st
      have kg5 := kg4.same st
      generalize upd G4 t (.tup [V.int a, V.int c, V.int pz]) = G5 at st ht hD5 Pg5 pa5 kg5 ⊢
      refine ⟨D, _, _, rfl, rfl, hD5, szl (by omega), ?_⟩
      refine ⟨vs ++ [.ref t], os ++ [((a, c), pz)], _, _, _, rfl, (Pg5.put d1 d2).le (by omega), upd_same, (OAll.snoc ht pa5).put hD5, by rw [List.length_append, lo]; rfl, fun u mu => ?_, kg5.put nDH⟩
      rcases List.mem_append.mp mu with mu | mu
      · exact bd u mu
      · rw [List.mem_singleton.mp mu]
        exact ⟨a0, a1, c0, c1, pz0⟩
    · rintro σ G ⟨vs, os, y5, y6, y7, rfl, Pg, hDg, pa, lo, bd, kg⟩
      refine ⟨_, rfl, _, rfl, (by show 2 ≤ sizeLine; decide), fun f nf => ?_⟩
      have sf := same_new (o := .tup [V.int n, V.ref D]) nf
      obtain ⟨n', rfl⟩ : ∃ k : Nat, n = (k : Int) := ⟨n.toNat, by omega⟩
      exact q f D vs os n' _ ((Pg.same sf).le (by omega)) (kg.same sf) upd_same (sf _ _ hDg) d1 d2 (pa.same sf) (by omega) (by omega) (by omega) (fun t mt => (by have := bd t mt; omega)) fun t mt => (bd t mt).2.2.2.2
end

end My
namespace My
open PySem L2
/-! ### ways kept by their ends -/
abbrev Wt := List (Int × Addr)
def keysW (l : Wt) : List Int := l.map Prod.fst
def kvW (l : Wt) : List (Key × V) := l.map fun x => (Sum.inl x.1, .ref x.2)
theorem keysW_snoc (l : Wt) (v : Int) (t : Addr) : keysW (l ++ [(v, t)]) = keysW l ++ [v] := by
  unfold keysW
  rw [List.map_append]
  rfl
theorem kvW_none {l : Wt} {v : Int} (h : v ∉ keysW l) : valV (kvW l) (Sum.inl v) = none := by
  induction l with
  | nil => rfl
  | cons x l ih =>
    obtain ⟨a, o⟩ := x
    have n1 : ¬ (Sum.inl a : Key) = Sum.inl v := fun z => h (by rw [Sum.inl.inj z]; exact List.mem_cons_self)
    show valV ((Sum.inl a, V.ref o) :: kvW l) (Sum.inl v) = none
    rw [valV_neg n1]
    exact ih fun z => h (List.mem_cons_of_mem _ z)
theorem kvW_some {l : Wt} {v : Int} (h : v ∈ keysW l) : ∃ t, (v, t) ∈ l ∧ valV (kvW l) (Sum.inl v) = some (.ref t) := by
  induction l with
  | nil => exact nomatch h
  | cons x l ih =>
    obtain ⟨a, o⟩ := x
    by_cases e : a = v
    · subst e
      exact ⟨o, List.mem_cons_self, valV_pos (p := (Sum.inl a, V.ref o)) rfl⟩
    · have n1 : ¬ (Sum.inl a : Key) = Sum.inl v := fun z => e (Sum.inl.inj z)
      rcases List.mem_cons.mp h with z | h
      · exact absurd z.symm e
      · obtain ⟨t, h1, h2⟩ := ih h
        refine ⟨t, List.mem_cons_of_mem _ h1, ?_⟩
        show valV ((Sum.inl a, V.ref o) :: kvW l) (Sum.inl v) = _
        rw [valV_neg n1]
        exact h2
theorem kvW_put {l : Wt} {v : Int} {t : Addr} (h : v ∉ keysW l) : putK (kvW l) (Sum.inl v) (.ref t) = kvW (l ++ [(v, t)]) := by
  unfold putK
  rw [valV_any, kvW_none h, if_neg (by decide)]
  unfold kvW
  rw [List.map_append]
  rfl

/-! ### _law_row: a way round, or a bank -/
theorem leads_snoc {os : Ofs} {h p o : Int} {t : Int × Int} {ws : List Int} (k : Leads os p h ws) (o0 : 0 ≤ o) (e : os[o.toNat]? = some t) (m : p = t.1 ∨ p = t.2) : Leads os (endO t p) h (ws ++ [o]) := by
  induction k with
  | nil => exact .cons o0 e m .nil
  | cons n0 e' m' _ ih => exact .cons n0 e' m' ih
theorem endO_mem {t : Int × Int} {h : Int} (m : h = t.1 ∨ h = t.2) : endO t h = t.1 ∨ endO t h = t.2 := by
  unfold endO
  by_cases e : h = t.1
  · rw [if_pos e]
    exact .inr rfl
  · rw [if_neg e]
    exact .inl rfl
theorem filter_ne_length {a : Int} : ∀ {l : List Int}, l.Nodup → l.length ≤ (l.filter fun x => decide (x ≠ a)).length + 1
  | [], _ => Nat.zero_le _
  | x :: l, nd => by
    rw [List.nodup_cons] at nd
    by_cases e : x = a
    · subst e
      have h : (l.filter fun y => decide (y ≠ x)) = l := List.filter_eq_self.mpr fun y hy => decide_eq_true fun z => nd.1 (z ▸ hy)
      rw [List.filter_cons_of_neg (by simp), h, List.length_cons]
      omega
    · rw [List.filter_cons_of_pos (by simpa using e), List.length_cons, List.length_cons]
      have := filter_ne_length (a := a) nd.2
      omega
theorem nodup_le : ∀ {n : Nat} {l : List Int}, l.Nodup → (∀ x ∈ l, 0 ≤ x ∧ x < (n : Int)) → l.length ≤ n
  | 0, [], _, _ => Nat.le_refl _
  | 0, x :: l, _, h => by
    have := h x List.mem_cons_self
    omega
  | n + 1, l, nd, h => by
    have h1 := filter_ne_length (a := (n : Int)) nd
    have h2 := nodup_le (n := n) (l := l.filter fun x => decide (x ≠ (n : Int))) (nd.filter _) fun x hx => by
      obtain ⟨m1, m2⟩ := List.mem_filter.mp hx
      have := h x m1
      have := of_decide_eq_true m2
      omega
    omega
theorem Same.free {H H' : Hp} (s : Same H H') {a : Addr} (n : H' a = none) : H a = none := by
  cases e : H a with
  | none => rfl
  | some o =>
    rw [s _ _ e] at n
    cases n
theorem rising_nd {ns ys : List Int} (nd : ns.Nodup) (pm : ys.Perm ns) (srt : ys.Pairwise (· ≤ ·)) : ys.Pairwise (· < ·) := by
  have nd2 : ys.Nodup := pm.nodup_iff.mpr nd
  exact (srt.and nd2).imp fun ⟨h1, h2⟩ => Int.lt_iff_le_and_ne.mpr ⟨h1, h2⟩
def WaysL (H0 : Hp) (os : O3s) (ks : List Int) (a : Int) (W : Addr) (H : Hp) (l : Wt) : Prop := ∀ x ∈ l, (x.2 ≠ W ∧ H0 x.2 = none) ∧ ∃ ws : List Int, H x.2 = some (.lst (ws.map V.int)) ∧ Leads (prs os) x.1 a ws ∧ ws.Nodup ∧ (∀ o ∈ ws, o ∈ ks) ∧ ∀ o ∈ ws, (prO os o).1 ∈ keysW l ∧ (prO os o).2 ∈ keysW l
theorem WaysL.mono {H0 : Hp} {os : O3s} {ks : List Int} {a : Int} {W : Addr} {H H' : Hp} {l : Wt} (h : WaysL H0 os ks a W H l) (g : ∀ c xs, c ≠ W → H c = some (.lst xs) → H' c = some (.lst xs)) : WaysL H0 os ks a W H' l := fun x m => by
  obtain ⟨n, p, h1, h2⟩ := h x m
  exact ⟨n, p, g _ _ n.1 h1, h2⟩
def ClosedW (os : O3s) (ks : List Int) (l : Wt) (v : Int) : Prop := ∀ k ∈ ks, v = (prO os k).1 ∨ v = (prO os k).2 → endO (prO os k) v ∈ keysW l
theorem rch_closed {os : O3s} {ks : List Int} {l : Wt} {a b : Int} (ma : a ∈ keysW l) (cl : ∀ v ∈ keysW l, ClosedW os ks l v) (r : Rch (tiesO os ks) a b) : b ∈ keysW l := by
  induction r with
  | refl => exact ma
  | @step x y _ e ih =>
    rcases e with e | e
    · obtain ⟨k, mk, ek⟩ := List.mem_map.mp e
      have z := cl _ ih k mk (.inl (by rw [ek]))
      rw [ek] at z
      unfold endO at z
      rw [if_pos rfl] at z
      exact z
    · obtain ⟨k, mk, ek⟩ := List.mem_map.mp e
      have z := cl _ ih k mk (.inr (by rw [ek]))
      rw [ek] at z
      unfold endO at z
      by_cases h : x = y
      · rw [← h]
        exact ih
      · rw [if_neg h] at z
        exact z
def spWay : Sp := fun vs H Q _ => ∃ (D E : Addr) (n : Nat) (a b : Int) (ys : List V) (os : O3s) (ks : List Int), vs = [.ref D, .ref E, .int a, .int b] ∧ H D = some (.lst ys) ∧ OAll H ys os ∧ H E = some (.lst (ks.map V.int)) ∧ (∀ k ∈ ks, 0 ≤ k ∧ k < (os.length : Int)) ∧ BdO os n ∧ n ≤ 40 ∧ os.length ≤ 63 ∧ 0 ≤ a ∧ a < (n : Int) ∧
  (∀ H', Same H H' → ¬ Rch (tiesO os ks) a b → Q .non H') ∧ ∀ (p : Addr) (ws : List Int) (H' : Hp), Same H H' → H p = none → H' p = some (.lst (ws.map V.int)) → Leads (prs os) b a ws → ws.Nodup → (∀ k ∈ ws, k ∈ ks) → Q (.ref p) H'
section
variable {P : Program} {w : World} {K : PySem.W.Frag} {mg : Str → Option Value} {base : Heap}
theorem ok_way (T : Top K mg) : FnOk P w K mg base CX0 1 T.a_Lway T.d_Lway ["_law_offers_here", "_law_kept_here", "_law_a", "_law_b"] spWay := by
  refine T.F_Lway.ok sc_Lway (fun vs H Q E h => ?_) (fun cdv A outer s H vs Q E hr h => ?_)
  · obtain ⟨D, E, n, a, b, ys, os, ks, rfl, _⟩ := h
    rfl
  · obtain ⟨D, E, n, a, b, ys, os, ks, rfl, hD, oa, hE, rk, B, n40, lo, a0, a1, qn, qw⟩ := h
    have ly := oa.length
    refine ⟨_, (pss_cons (ps_set (i := 4) sc_Lway.nd rfl (.inl rfl) (pe_disp (pps_cons (pv 2) (pe_lst pa_nil) pps_nil) (by rfl) (by rfl) (fun z => by cases z) (by decide)))
      (pss_cons (ps_set (i := 5) sc_Lway.nd rfl (.inl rfl) (pe_lst (pa_cons (pv 2) pa_nil)))
      (pss_cons (ps_while PassesOwn.never (pt_cmpR (op_neD hr.units) (pv 5) (pe_lst pa_nil) (nomark _)) (pss_cons (ps_set (i := 6) sc_Lway.nd rfl (.inl rfl) (pe_bm PySem.F.plainAttrs_list PySem.F.slot_list_pop PySem.F.type_list_pop mt_popAt (pv 5) (pa_cons pe_int pa_nil)))
      (pss_one (ps_for PassesOwn.never rfl (pi_list (pv 1)) (pg_name (i := 7) sc_Lway.nd rfl (.inl rfl)) (pss_cons (ps_set (i := 8) sc_Lway.nd rfl (.inl rfl) (pe_slice sl_tupA (pe_ix ix_list (pv 0) (pv 7) (fun _ _ => rfl)) po_none (po_some pe_int)))
      (pss_one (ps_if (pt_cmpR op_in_seq (pv 6) (pv 8) (by rfl)) (pss_cons (ps_set (i := 9) sc_Lway.nd rfl (.inl rfl) (pe_op op_sub (pe_op op_add (pe_ix ix_tup (pv 8) pe_int (fun _ _ => rfl)) (pe_ix ix_tup (pv 8) pe_int (fun _ _ => rfl))) (pv 6)))
      (pss_one (ps_if (pt_cmp (pc_dnotin (u1 hr) (pv 9) (pv 4))) (pss_cons (ps_dput (u1 hr) (pv 4) (pv 9) (pe_op op_cat (pe_dget (u1 hr) (pv 4) (pv 6) (fun _ _ => rfl)) (pe_lst (pa_cons (pv 7) pa_nil))) rfl)
      (pss_one (ps_expr (pe_bm PySem.F.plainAttrs_list PySem.F.slot_list_append PySem.F.type_list_append mt_append (pv 5) (pa_cons (pv 9) pa_nil))))) pss_nil))) pss_nil)))))))
      (pss_one (ps_ret (pe_dget1 (u1 hr) (pv 4) (pv 3) ⟨by rfl, by rfl, by rfl, by rfl⟩)))))), ?_⟩
    refine fun d nd => ⟨_, rfl, (by show 0 ≤ sizeLine; decide), fun t0 n0 => ⟨?_, [(Sum.inl a, .ref t0)], rfl, (by show 1 ≤ 15; decide), ?_⟩⟩
    · exact same_new n0 _ _ upd_same
    have nt0 : H t0 = none := (same_new nd : Same H _).free n0
    have t0d : t0 ≠ d := fun z => by
      rw [z, upd_same] at n0
      cases n0
    have ekv : mergeK [] [((Sum.inl a : Key), V.ref t0)] = kvW [(a, t0)] := rfl
    rw [ekv]
    have s1 : Same H (upd (upd (upd H d (.dK [])) t0 (.lst [])) d (.dK (kvW [(a, t0)]))) := fun c o e => by
      rw [upd_ne (ne_of_none e nd), upd_ne (ne_of_none e nt0), upd_ne (ne_of_none e nd)]
      exact e
    have hd1 : upd (upd (upd H d (.dK [])) t0 (.lst [])) d (.dK (kvW [(a, t0)])) d = some (.dK (kvW [(a, t0)])) := upd_same
    have ht1 : upd (upd (upd H d (.dK [])) t0 (.lst [])) d (.dK (kvW [(a, t0)])) t0 = some (.lst []) := by
      rw [upd_ne t0d, upd_same]
    generalize upd (upd (upd H d (.dK [])) t0 (.lst [])) d (.dK (kvW [(a, t0)])) = H1 at s1 hd1 ht1 ⊢
    refine ⟨_, rfl, (by show 1 ≤ sizeLine; decide), fun W nW => ?_⟩
    have nW0 : H W = none := s1.free nW
    have dW : d ≠ W := ne_of_none hd1 nW
    have t0W : t0 ≠ W := ne_of_none ht1 nW
    have s2 := same_new (o := .lst [.int a]) nW
    refine ⟨fun m σ H4 => ∃ (l : Wt) (ws : List Int) (y6 y7 y8 y9 : Option V), σ = [some (.ref D), some (.ref E), some (.int a), some (.int b), some (.ref d), some (.ref W), y6, y7, y8, y9] ∧ Same H H4 ∧ H4 d = some (.dK (kvW l)) ∧ H4 W = some (.lst (ws.map V.int)) ∧ (keysW l).Nodup ∧ a ∈ keysW l ∧ WaysL H os ks a W H4 l ∧ (∀ v ∈ ws, v ∈ keysW l) ∧ (∀ v ∈ keysW l, v ∉ ws → ClosedW os ks l v) ∧ (∀ v ∈ keysW l, 0 ≤ v ∧ v < (n : Int)) ∧ m = 2 * (n - l.length) + ws.length ∧ l.length ≤ n ∧ ws.length ≤ l.length, ⟨_, [(a, t0)], [a], none, none, none, none, rfl, s1.trans s2, s2 _ _ hd1, upd_same, List.nodup_cons.mpr ⟨List.not_mem_nil, List.nodup_nil⟩, List.mem_cons_self, ?_, (fun v m => m), (fun v m n => absurd m n), ?_, rfl, ?_, Nat.le_refl _⟩, ?_⟩
    · intro x m
      rw [List.mem_singleton.mp m]
      exact ⟨⟨t0W, nt0⟩, [], s2 _ _ ht1, .nil, List.nodup_nil, fun o z => (nomatch z), fun o z => (nomatch z)⟩
    · intro v m
      rw [List.mem_singleton.mp (show v ∈ [a] from m)]
      exact ⟨a0, a1⟩
    · show 1 ≤ n
      omega
    · rintro m σ H4 ⟨l, ws, y6, y7, y8, y9, rfl, s4, hd4, hW4, hnd, hal, hok, hws, hcl, hin, rfl, hlp, hwl⟩
      refine ⟨_, rfl, Nat.zero_le _, fun e ne => ?_⟩
      have se := same_new (o := .lst []) ne
      have s5 := s4.trans se
      have hd5 := se _ _ hd4
      have hW5 := se _ _ hW4
      have hok5 := hok.mono fun c xs _ e => se _ _ e
      have he5 : upd H4 e (.lst []) e = some (.lst []) := upd_same
      generalize upd H4 e (.lst []) = H5 at s5 hd5 hW5 hok5 he5 ⊢
      refine ⟨.list (ws.map PyData.int), .list [], .lst (SqL.of hW5) (dp_intsL ws), .lst (SqL.of he5) .nil, shp_ints ws, rfl, _, rfl, ?_⟩
      cases ws with
      | nil =>
        refine iteF ?_
        have closed : ∀ v ∈ keysW l, ClosedW os ks l v := fun v hv => hcl v hv List.not_mem_nil
        refine ⟨_, rfl, d, rfl, .inl ⟨_, .inl hd5⟩, _, rfl, _, DGet.k (k := Sum.inl b) hd5, ?_⟩
        by_cases mb : b ∈ keysW l
        · obtain ⟨tb, mtb, hval⟩ := kvW_some mb
          rw [hval]
          obtain ⟨hfr, ws, hws', hld, hnd', hrg, _⟩ := hok5 _ mtb
          exact qw tb ws _ s5 hfr.2 hws' hld hnd' hrg
        · rw [kvW_none mb]
          exact qn _ s5 fun r => mb (rch_closed hal closed r)
      | cons h0 ws' =>
        refine iteT ?_
        have hh : h0 ∈ keysW l := hws h0 List.mem_cons_self
        refine ⟨fun σ' H6 => ∃ (l' : Wt) (ws2 : List Int) (y7 y8 y9 : Option V), σ' = [some (.ref D), some (.ref E), some (.int a), some (.int b), some (.ref d), some (.ref W), some (.int h0), y7, y8, y9] ∧ Same H H6 ∧ H6 d = some (.dK (kvW l')) ∧ H6 W = some (.lst (ws2.map V.int)) ∧ (keysW l').Nodup ∧ a ∈ keysW l' ∧ WaysL H os ks a W H6 l' ∧ (∀ v ∈ ws2, v ∈ keysW l') ∧ (∀ v ∈ keysW l', v ∉ ws2 → ClosedW os ks l' v) ∧ (∀ v ∈ keysW l', 0 ≤ v ∧ v < (n : Int)) ∧ (ws2.length + l.length = ws'.length + l'.length ∧ l.length ≤ l'.length) ∧ l'.length ≤ n ∧ ws2.length ≤ l'.length, ?_, ?_⟩
        · rintro σ' H6 ⟨l', ws2, y7, y8, y9, rfl, s6, hd6, hW6, hnd6, hal6, hok6, hws6, hcl6, hin6, hm6, hlp6, hwl6⟩
          refine ⟨_, ?_, l', ws2, _, _, _, _, rfl, s6, hd6, hW6, hnd6, hal6, hok6, hws6, hcl6, hin6, rfl, hlp6, hwl6⟩
          rw [List.length_cons]
          omega
        · refine ⟨_, rfl, .inl ⟨rfl, _, SqL.of hW5⟩, W, _, 0, 0, _, rfl, rfl, hW5, (by decide), (by decide), ?_, rfl, ?_⟩
          · simp [seqIndex?]
          have eer : ((h0 :: ws').map V.int).eraseIdx 0 = ws'.map V.int := rfl
          rw [eer]
          have s6 : Same H (upd H5 W (.lst (ws'.map V.int))) := fun c o e => by
            rw [upd_ne (ne_of_none e nW0)]
            exact s5 _ _ e
          have hd6 : upd H5 W (.lst (ws'.map V.int)) d = some (.dK (kvW l)) := by
            rw [upd_ne dW]
            exact hd5
          have hW6 : upd H5 W (.lst (ws'.map V.int)) W = some (.lst (ws'.map V.int)) := upd_same
          have hok6 : WaysL H os ks a W (upd H5 W (.lst (ws'.map V.int))) l := hok5.mono fun c xs nc e => by
            rw [upd_ne nc]
            exact e
          generalize upd H5 W (.lst (ws'.map V.int)) = H6 at s6 hd6 hW6 hok6 ⊢
          refine ⟨_, rfl, E, rfl, ⟨_, SqL.of (s6 _ _ hE)⟩, for_list (xs := ks.map V.int) (fun j σ' H7 => ∃ (l' : Wt) (ws2 : List Int) (y7 y8 y9 : Option V), σ' = [some (.ref D), some (.ref E), some (.int a), some (.int b), some (.ref d), some (.ref W), some (.int h0), y7, y8, y9] ∧ Same H H7 ∧ H7 d = some (.dK (kvW l')) ∧ H7 W = some (.lst (ws2.map V.int)) ∧ (keysW l').Nodup ∧ a ∈ keysW l' ∧ WaysL H os ks a W H7 l' ∧ h0 ∈ keysW l' ∧ (∀ v ∈ ws2, v ∈ keysW l') ∧ (∀ v ∈ keysW l', v ∉ ws2 → v ≠ h0 → ClosedW os ks l' v) ∧ (∀ k ∈ ks.take j, h0 = (prO os k).1 ∨ h0 = (prO os k).2 → endO (prO os k) h0 ∈ keysW l') ∧ (∀ v ∈ keysW l', 0 ≤ v ∧ v < (n : Int)) ∧ (ws2.length + l.length = ws'.length + l'.length ∧ l.length ≤ l'.length) ∧ l'.length ≤ n ∧ ws2.length ≤ l'.length)
            ⟨l, ws', _, _, _, rfl, s6, hd6, hW6, hnd, hal, hok6, hh, fun v m => hws v (List.mem_cons_of_mem _ m), ?_, (fun k z => nomatch z), hin, ⟨rfl, Nat.le_refl _⟩, hlp, ?_⟩ (fun j σ' H7 _ hq => ?_) ?_ ?_⟩
          · intro v hv nv nh
            refine hcl v hv (fun z => ?_)
            rcases List.mem_cons.mp z with z | z
            · exact nh z
            · exact nv z
          · rw [List.length_cons] at hwl
            omega
          · obtain ⟨l', ws2, y7, y8, y9, rfl, s7, _⟩ := hq
            exact SqL.of (s7 _ _ hE)
          · rintro j x σ' H7 hx ⟨l', ws2, y7, y8, y9, rfl, s7, hd7, hW7, hnd7, hal7, hok7, hh7, hws7, hcl7, hpr7, hin7, hm7, hlp7, hwl7⟩
            rw [List.getElem?_map] at hx
            obtain ⟨k, hk, rfl⟩ := Option.map_eq_some_iff.mp hx
            have mk := List.mem_of_getElem? hk
            obtain ⟨k0, k1⟩ := rk k mk
            obtain ⟨o3, ho3, mo3⟩ := in_os k0 k1
            obtain ⟨tp, e1, htp⟩ := (oa.same s7).ix k0 ho3
            have epr := (prO_at ho3).1
            have bdu := B o3 mo3
            obtain ⟨u, pc⟩ := o3
            dsimp only at epr bdu htp
            refine ⟨_, rfl, _, rfl, D, _, _, _, rfl, rfl, SqL.of (s7 _ _ hD), e1, 2, rfl, slA rfl htp fun p H8 s78 hp0 => ?_⟩
            have hp : H8 p = some (.tup ([u.1, u.2].map V.int)) := hp0
            clear hp0
            have s8 := s7.trans s78
            have hd8 := s78 _ _ hd7
            have hW8 := s78 _ _ hW7
            have hok8 := hok7.mono fun c xs _ e => s78 _ _ e
            have step : ∀ {l2 : Wt}, (∀ v ∈ keysW l', v ∈ keysW l2) → (h0 = u.1 ∨ h0 = u.2 → endO u h0 ∈ keysW l2) → ∀ k ∈ ks.take (j + 1), h0 = (prO os k).1 ∨ h0 = (prO os k).2 → endO (prO os k) h0 ∈ keysW l2 := fun {l2} sub new k2 m2 ht => by
              rw [take_at hk] at m2
              rcases List.mem_append.mp m2 with m2 | m2
              · exact sub _ (hpr7 k2 m2 ht)
              · rw [List.mem_singleton.mp m2, epr] at ht ⊢
                exact new ht
            have stay : (h0 = u.1 ∨ h0 = u.2 → endO u h0 ∈ keysW l') → ∀ (y9 : Option V) {H9 : Hp}, Same H8 H9 → ∃ (l2 : Wt) (ws2 : List Int) (z7 z8 z9 : Option V), [some (V.ref D), some (.ref E), some (.int a), some (.int b), some (.ref d), some (.ref W), some (.int h0), some (.int k), some (.ref p), y9] = [some (V.ref D), some (.ref E), some (.int a), some (.int b), some (.ref d), some (.ref W), some (.int h0), z7, z8, z9] ∧ Same H H9 ∧ H9 d = some (.dK (kvW l2)) ∧ H9 W = some (.lst (ws2.map V.int)) ∧ (keysW l2).Nodup ∧ a ∈ keysW l2 ∧ WaysL H os ks a W H9 l2 ∧ h0 ∈ keysW l2 ∧ (∀ v ∈ ws2, v ∈ keysW l2) ∧ (∀ v ∈ keysW l2, v ∉ ws2 → v ≠ h0 → ClosedW os ks l2 v) ∧ (∀ k ∈ ks.take (j + 1), h0 = (prO os k).1 ∨ h0 = (prO os k).2 → endO (prO os k) h0 ∈ keysW l2) ∧ (∀ v ∈ keysW l2, 0 ≤ v ∧ v < (n : Int)) ∧ (ws2.length + l.length = ws'.length + l2.length ∧ l.length ≤ l2.length) ∧ l2.length ≤ n ∧ ws2.length ≤ l2.length := fun hyp y9 {H9} s9 => ⟨l', ws2, _, _, _, rfl, s8.trans s9, s9 _ _ hd8, s9 _ _ hW8, hnd7, hal7, hok8.mono fun c xs _ e => s9 _ _ e, hh7, hws7, hcl7, step (fun _ z => z) hyp, hin7, hm7, hlp7, hwl7⟩
            refine ⟨_, rfl, _, rfl, p, _, rfl, .inr (SqT.of hp), rfl, flat_ints [u.1, u.2], decide (h0 ∈ [u.1, u.2]), congrArg V.bl (inV_ints h0 [u.1, u.2]), ?_⟩
            by_cases hm : h0 ∈ [u.1, u.2]
            case neg =>
              rw [decide_eq_false hm]
              refine iteF (stay (fun ho => absurd ?_ hm) _ same_refl)
              rcases ho with z | z
              · rw [z]
                exact List.mem_cons_self
              · rw [z]
                exact List.mem_cons_of_mem _ List.mem_cons_self
            rw [decide_eq_true hm]
            refine iteT ?_
            have hor : h0 = u.1 ∨ h0 = u.2 := by
              rcases List.mem_cons.mp hm with z | z
              · exact .inl z
              · exact .inr (List.mem_singleton.mp z)
            have esum := endO_sum hor
            generalize he : endO u h0 = e at esum step stay
            refine ⟨_, rfl, p, _, _, _, rfl, rfl, SqT.of hp, atI_nat (j := 0) rfl, _, rfl, p, _, _, _, rfl, rfl, SqT.of hp, atI_nat (j := 1) rfl, _, _, rfl, rfl, _, rfl, _, _, rfl, rfl, ?_⟩
            dsimp only
            rw [esum]
            refine ⟨_, rfl, _, rfl, d, _, rfl, DGet.k (k := Sum.inl e) hd8, _, rfl, ?_⟩
            by_cases mu : e ∈ keysW l'
            · obtain ⟨t9, _, hval⟩ := kvW_some mu
              rw [hval]
              exact iteF (stay (fun _ => mu) _ same_refl)
            rw [kvW_none mu]
            refine iteT ?_
            obtain ⟨th, mth, hval⟩ := kvW_some hh7
            obtain ⟨thW, ws, hws9, hld, hndw, hrg, hends⟩ := hok8 _ mth
            have hdg : DGet H8 d (.int h0) (some (.ref th)) := by
              have z := DGet.k (k := Sum.inl h0) hd8
              rw [hval] at z
              exact z
            have lw := nodup_le (n := os.length) hndw fun x hx => rk x (hrg x hx)
            refine ⟨_, rfl, _, rfl, d, _, rfl, hdg, _, rfl, (by show 1 ≤ sizeLine; decide), fun p3 np3 => ?_⟩
            have sp3 := same_new (o := .lst [.int k]) np3
            refine ⟨th, p3, _, _, rfl, rfl, sp3 _ _ hws9, upd_same, sz (by rw [List.length_map]; show _ + 1 ≤ _; omega), fun p4 np4 => ?_⟩
            have sA := same_new (o := .lst (ws.map V.int ++ [.int k])) np4
            have s9A := sp3.trans sA
            have hp4 : upd (upd H8 p3 (.lst [.int k])) p4 (.lst (ws.map V.int ++ [.int k])) p4 = some (.lst (ws.map V.int ++ [.int k])) := upd_same
            have np40 : H p4 = none := (s8.trans sp3).free np4
            have p4W : p4 ≠ W := (ne_of_none (sp3 _ _ hW8) np4).symm
            have hdA := s9A _ _ hd8
            have hWA := s9A _ _ hW8
            have hokA := hok8.mono fun c xs _ e => s9A _ _ e
            generalize upd (upd H8 p3 (.lst [.int k])) p4 (.lst (ws.map V.int ++ [.int k])) = HA at s9A hp4 hdA hWA hokA ⊢
            have ll : (kvW l').length = l'.length := List.length_map ..
            refine ⟨_, rfl, _, rfl, d, _, rfl, DPut.k (k := Sum.inl e) (v := .ref p4) hdA (szl (by omega)), ?_⟩
            rw [kvW_put mu]
            have nj : k ∉ ws := fun z => by
              obtain ⟨m1, m2⟩ := hends _ z
              rw [epr] at m1 m2
              rcases endO_mem hor with z | z
              · rw [he] at z
                exact mu (z ▸ m1)
              · rw [he] at z
                exact mu (z ▸ m2)
            have e_in : 0 ≤ e ∧ e < (n : Int) := by
              rcases endO_mem hor with z | z
              · rw [he] at z
                omega
              · rw [he] at z
                omega
            have hinA : ∀ v ∈ keysW (l' ++ [(e, p4)]), 0 ≤ v ∧ v < (n : Int) := fun v m => by
              rw [keysW_snoc] at m
              rcases List.mem_append.mp m with m | m
              · exact hin7 v m
              · rw [List.mem_singleton.mp m]
                exact e_in
            have hndA : (keysW (l' ++ [(e, p4)])).Nodup := by
              rw [keysW_snoc]
              exact List.nodup_append.mpr ⟨hnd7, List.nodup_cons.mpr ⟨List.not_mem_nil, List.nodup_nil⟩, fun x m y k z => by
                rw [List.mem_singleton.mp k] at z
                exact mu (z ▸ m)⟩
            have hlpA : (l' ++ [(e, p4)]).length ≤ n := by
              have z := nodup_le hndA hinA
              have e : (keysW (l' ++ [(e, p4)])).length = (l' ++ [(e, p4)]).length := List.length_map ..
              omega
            have sub : ∀ v ∈ keysW l', v ∈ keysW (l' ++ [(e, p4)]) := fun v m => by
              rw [keysW_snoc]
              exact List.mem_append_left _ m
            have muA : e ∈ keysW (l' ++ [(e, p4)]) := by
              rw [keysW_snoc]
              exact List.mem_append_right _ List.mem_cons_self
            have two : u.1 ∈ keysW (l' ++ [(e, p4)]) ∧ u.2 ∈ keysW (l' ++ [(e, p4)]) := by
              unfold endO at he
              by_cases z : h0 = u.1
              · rw [if_pos z] at he
                exact ⟨z ▸ sub _ hh7, he ▸ muA⟩
              · rw [if_neg z] at he
                exact ⟨he ▸ muA, (hor.resolve_left z) ▸ sub _ hh7⟩
            have hokB : WaysL H os ks a W (upd HA d (.dK (kvW (l' ++ [(e, p4)])))) (l' ++ [(e, p4)]) := fun x m => by
              have up : ∀ {c : Addr} {xs : List V}, HA c = some (.lst xs) → upd HA d (.dK (kvW (l' ++ [(e, p4)]))) c = some (.lst xs) := fun {c xs} e => by
                rw [upd_ne (ne_of e hdA (by intro z; cases z))]
                exact e
              rcases List.mem_append.mp m with m | m
              · obtain ⟨g0, p', g1, g2, g3, g4, g5⟩ := hokA x m
                exact ⟨g0, p', up g1, g2, g3, g4, fun o ho => ⟨sub _ (g5 o ho).1, sub _ (g5 o ho).2⟩⟩
              · rw [List.mem_singleton.mp m]
                refine ⟨⟨p4W, np40⟩, ws ++ [k], up ?_, ?_, ?_, fun o ho => ?_, fun o ho => ?_⟩
                · rw [hp4, List.map_append]
                  rfl
                · show Leads (prs os) e a (ws ++ [k])
                  rw [← he]
                  exact leads_snoc hld k0 (prs_at ho3) hor
                · exact List.nodup_append.mpr ⟨hndw, List.nodup_cons.mpr ⟨List.not_mem_nil, List.nodup_nil⟩, fun x m y k z => by
                    rw [List.mem_singleton.mp k] at z
                    exact nj (z ▸ m)⟩
                · rcases List.mem_append.mp ho with ho | ho
                  · exact hrg o ho
                  · rw [List.mem_singleton.mp ho]
                    exact mk
                · rcases List.mem_append.mp ho with ho | ho
                  · obtain ⟨h2, h3⟩ := hends o ho
                    exact ⟨sub _ h2, sub _ h3⟩
                  · rw [List.mem_singleton.mp ho, epr]
                    exact two
            have hdB : upd HA d (.dK (kvW (l' ++ [(e, p4)]))) d = some (.dK (kvW (l' ++ [(e, p4)]))) := upd_same
            have hWB : upd HA d (.dK (kvW (l' ++ [(e, p4)]))) W = some (.lst (ws2.map V.int)) := by
              rw [upd_ne dW.symm]
              exact hWA
            have sB : Same H (upd HA d (.dK (kvW (l' ++ [(e, p4)])))) := fun c o z => by
              rw [upd_ne (ne_of_none z nd)]
              exact s9A _ _ (s8 _ _ z)
            generalize upd HA d (.dK (kvW (l' ++ [(e, p4)]))) = HB at hokB hdB hWB sB ⊢
            refine ⟨_, rfl, .inl ⟨rfl, _, SqL.of hWB⟩, _, rfl, W, _, _, rfl, rfl, hWB, szl (by rw [List.length_map]; omega), ?_⟩
            refine ⟨l' ++ [(e, p4)], ws2 ++ [e], _, _, _, rfl, ?_, ?_, ?_, hndA, sub _ hal7, ?_, sub _ hh7, ?_, ?_, step sub (fun _ => muA), hinA, ?_, hlpA, ?_⟩
            · intro c o z
              rw [upd_ne (ne_of_none z nW0)]
              exact sB _ _ z
            · rw [upd_ne dW]
              exact hdB
            · rw [upd_same, List.map_append]
              rfl
            · exact hokB.mono fun c xs nc z => by
                rw [upd_ne nc]
                exact z
            · intro v m
              rcases List.mem_append.mp m with m | m
              · exact sub v (hws7 v m)
              · rw [List.mem_singleton.mp m]
                exact muA
            · intro v hv nv nh k2 m2 ht
              rw [keysW_snoc] at hv
              rcases List.mem_append.mp hv with hv | hv
              · exact sub _ (hcl7 v hv (fun z => nv (List.mem_append_left _ z)) nh k2 m2 ht)
              · exact absurd (List.mem_append_right _ hv) nv
            · rw [List.length_append, List.length_append, List.length_singleton, List.length_singleton]
              omega
            · rw [List.length_append, List.length_append, List.length_singleton, List.length_singleton]
              omega
          · rintro σ' H7 ⟨l', ws2, y7, y8, y9, rfl, s7, hd7, hW7, hnd7, hal7, hok7, hh7, hws7, hcl7, hpr7, hin7, hm7, hlp7, hwl7⟩
            refine ⟨l', ws2, _, _, _, rfl, s7, hd7, hW7, hnd7, hal7, hok7, hws7, fun v hv nv => ?_, hin7, hm7, hlp7, hwl7⟩
            by_cases ev : v = h0
            · subst ev
              intro k2 m2 ht
              rw [List.length_map, List.take_length] at hpr7
              exact hpr7 k2 m2 ht
            · exact hcl7 v hv nv ev
end

end My
namespace My
open PySem L2
/-! ### offers taken, one by one -/
theorem kru_perm {os : O3s} {n i : Nat} {ks us : List Int} (B : BdO os n) (il : i ≤ os.length) (Y : Kru os i ks) (p : us.Perm ks) : Kru os i us := by
  refine ⟨fun g => Y.nr (ring_perm (bd_ties B fun k mk => ?_) (p.symm.map (prO os)) g), fun k mk => Y.rg k (p.mem_iff.mp mk), fun j j0 j1 nj => ?_⟩
  · have := Y.rg k mk
    omega
  · refine (Y.lt j j0 j1 fun z => nj (p.mem_iff.mpr z)).mono (ties_sub fun k mk => ?_)
    obtain ⟨m1, m2⟩ := mem_upTo.mp mk
    exact mem_upTo.mpr ⟨p.mem_iff.mpr m1, m2⟩
theorem kru_nil {os : O3s} : Kru os 0 [] := ⟨ring_nil, (fun k z => nomatch z), fun j j0 j1 => by omega⟩
theorem kru_len {os : O3s} {i : Nat} {ks : List Int} (Y : Kru os i ks) : ks.length ≤ i := nodup_le (ring_nd Y.nr) Y.rg
theorem filter_turn71 {α : Type} {xs : List α} {i : Nat} {x : α} (f : α → Bool) (h : xs[i]? = some x) : (xs.take (i + 1)).filter f = if f x = true then (xs.take i).filter f ++ [x] else (xs.take i).filter f := by
  rw [take_at h, List.filter_append]
  by_cases c : f x = true
  · rw [if_pos c, List.filter_cons_of_pos c]
    rfl
  · rw [if_neg c, List.filter_cons_of_neg c, List.filter_nil, List.append_nil]
theorem ifF {c : Bool} {A B : Prop} (h : c = false) (b : B) : if c = true then A else B := by
  rw [h, if_neg (by decide)]
  exact b
theorem ifT {c : Bool} {A B : Prop} (h : c = true) (a : A) : if c = true then A else B := by
  rw [h, if_pos rfl]
  exact a
def spTaken : Sp := fun vs H Q _ => ∃ (D E : Addr) (n i : Nat) (ys : List V) (os : O3s) (ks : List Int), vs = [.ref D, .ref E, .int (i : Int)] ∧ D ≠ E ∧ H D = some (.lst ys) ∧ OAll H ys os ∧ H E = some (.lst (ks.map V.int)) ∧ BdO os n ∧ (∀ t ∈ os, 0 ≤ t.2) ∧ n ≤ 40 ∧ os.length ≤ 63 ∧ i < os.length ∧ Kru os i ks ∧
  ∀ (v : V) (us : List Int) (H' : Hp), (∀ c o, c ≠ E → H c = some o → H' c = some o) → H' E = some (.lst (us.map V.int)) → Kru os (i + 1) us → Q v H'
section
variable {P : Program} {w : World} {K : PySem.W.Frag} {mg : Str → Option Value} {base : Heap}
theorem ok_taken (T : Top K mg) : FnOk P w K mg base CX0 2 T.a_Ltaken T.d_Ltaken ["_law_offers_here", "_law_kept_here", "_law_number"] spTaken := by
  have G_Lway : FnOk P w K mg base CX0 1 _ _ _ _ := ok_way T
  refine T.F_Ltaken.ok sc_Ltaken (fun vs H Q E h => ?_) (fun cdv A outer s H vs Q E hr h => ?_)
  · obtain ⟨D, E, n, i, ys, os, ks, rfl, _⟩ := h
    rfl
  · obtain ⟨D, E, n, i, ys, os, ks, rfl, DE, hD, oa, hE, B, pz, n40, lo, il, Y, q⟩ := h
    have ly := oa.length
    have lk := kru_len Y
    have rk : ∀ k ∈ ks, 0 ≤ k ∧ k < (os.length : Int) := fun k mk => by
      have := Y.rg k mk
      omega
    have hu : os[i]? = some os[i] := List.getElem?_eq_getElem il
    have mu := List.mem_of_getElem? hu
    generalize os[i] = u at hu mu
    have eo := prO_at (k := (i : Int)) (os := os) (o := u) (by rw [Int.toNat_natCast]; exact hu)
    have bu := B u mu
    have pu := pz u mu
    obtain ⟨tp, e1, htp⟩ := oa.get hu
    refine ⟨_, (pss_cons (ps_asg (pe_ix ix_list (pv 0) (pv 2) (fun _ _ => rfl)) (pg_tup rfl (pgs_cons (pg_name (i := 3) sc_Ltaken.nd rfl (.inl rfl)) (pgs_cons (pg_name (i := 4) sc_Ltaken.nd rfl (.inl rfl)) (pgs_cons (pg_name (i := 5) sc_Ltaken.nd rfl (.inl rfl)) pgs_nil)))))
      (pss_cons (ps_set (i := 6) sc_Ltaken.nd rfl (.inl rfl) (pe_call G_Lway hr (by rfl) T.g_Lway T.F_Lway.kp T.b_Lway .nil pass0 (pa_cons (pv 0) (pa_cons (pv 1) (pa_cons (pv 3) (pa_cons (pv 4) pa_nil))))))
      (pss_cons (ps_set (i := 7) sc_Ltaken.nd rfl (.inl rfl) pe_non)
      (pss_cons (ps_if (pt_cmpR op_notN (pv 6) pe_non (nomark _)) (pss_cons (ps_set (i := 7) sc_Ltaken.nd rfl (.inl rfl) (pv 2))
      (pss_cons (ps_set (i := 8) sc_Ltaken.nd rfl (.inr rfl) (pe_callBK (cr_maxD rfl (u65 hr)) (by rfl) T.m_max (by decide +kernel) (pa_cons (pe_lc (own := [("_law_one", 9)]) (g := gName 9) (tt := tYes) (by rfl) sc_Ltaken.nd (pi_list (pv 6)) (blkOk_by (own := [("_law_one", 9)]) (N := ["_law_offers_here", "_law_kept_here", "_law_number", "_law_a", "_law_b", "_law_price", "_law_way_here", "_law_gone", "_law_dearest", "_law_one"]) (sc := defScope s_Ltaken) (by decide +kernel)) (fun _ _ _ _ _ => (pg_name (i := 9) sc_Ltaken.nd rfl (.inl rfl))) (fun _ _ _ _ _ => pts_nil) (fun _ _ _ _ _ => (pe_ix (ix_tupK (K := K) rfl) (pe_ix (ix_listK (K := K) rfl) (pv 0) (pv 9) (fun _ _ => rfl)) pe_int (fun _ _ => rfl)))) pa_nil) (pk_cons (pe_un un_neg pe_int) pk_nil)))
      (pss_one (ps_if (pt_cmpR op_gt (pv 8) (pv 5) (nomark _)) (pss_cons (ps_set (i := 7) sc_Ltaken.nd rfl (.inl rfl) (pe_ix ix_list (pe_lc (own := [("_law_one", 9)]) (g := gName 9) (by rfl) sc_Ltaken.nd (pi_list (pv 6)) (blkOk_by (own := [("_law_one", 9)]) (N := ["_law_offers_here", "_law_kept_here", "_law_number", "_law_a", "_law_b", "_law_price", "_law_way_here", "_law_gone", "_law_dearest", "_law_one"]) (sc := defScope s_Ltaken) (by decide +kernel)) (fun _ _ _ _ _ => (pg_name (i := 9) sc_Ltaken.nd rfl (.inl rfl))) (fun _ _ _ _ _ => (pts_one (pt_cmpR op_eq (pe_ix (ix_tupK (K := K) rfl) (pe_ix (ix_listK (K := K) rfl) (pv 0) (pv 9) (fun _ _ => rfl)) pe_int (fun _ _ => rfl)) (pv 8) (nomark _)))) (fun _ _ _ _ _ => (pv 9))) pe_int (fun _ _ => rfl)))
      (pss_one (ps_expr (pe_bm PySem.F.plainAttrs_list PySem.F.slot_list_remove PySem.F.type_list_remove (mt_removeI (u65 hr)) (pv 1) (pa_cons (pv 7) pa_nil))))) pss_nil)))) pss_nil)
      (pss_cons (ps_if (pt_cmpR op_ne (pv 7) (pv 2) (nomark _)) (pss_one (ps_expr (pe_bm PySem.F.plainAttrs_list PySem.F.slot_list_append PySem.F.type_list_append mt_append (pv 1) (pa_cons (pv 2) pa_nil)))) pss_nil)
      (pss_one (ps_ret (pv 7)))))))), ?_⟩
    refine ⟨_, rfl, _, rfl, D, _, _, _, rfl, rfl, SqL.of hD, atI_nat e1, tp, _, rfl, SqT.of htp, rfl, _, _, rfl, _, _, rfl, _, _, rfl, rfl, ?_⟩
    refine ⟨_, rfl, _, rfl, _, rfl, _, rfl, D, E, n, _, _, ys, os, ks, rfl, hD, oa, hE, rk, B, n40, lo, by omega, by omega, fun H1 s1 nr => ?_, fun p ws H1 s1 _ hp ld nd sub => ?_⟩
    · refine ⟨_, rfl, rfl, _, rfl, iteF ?_⟩
      refine ⟨_, rfl, _, rfl, rfl, _, rfl, iteT ?_⟩
      have hE1 := s1 _ _ hE
      refine ⟨_, rfl, .inl ⟨rfl, _, SqL.of hE1⟩, _, rfl, E, _, _, rfl, rfl, hE1, szl (by rw [List.length_map]; omega), ?_⟩
      refine ⟨_, rfl, q _ (ks ++ [(i : Int)]) _ (fun c o nc e => ?_) ?_ (kru_new Y ?_)⟩
      · rw [upd_ne nc]
        exact s1 _ _ e
      · rw [upd_same, List.map_append]
        rfl
      · rw [eo.1]
        exact nr
    have ld' : Leads (prs os) (prO os i).2 (prO os i).1 ws := by
      rw [eo.1]
      exact ld
    have hD1 := s1 _ _ hD
    have hE1 := s1 _ _ hE
    have oa1 := oa.same s1
    have lw := nodup_le (n := os.length) nd fun k mk => rk k (sub k mk)
    refine ⟨_, rfl, rfl, _, rfl, iteT ?_⟩
    refine ⟨_, rfl, ?_⟩
    -- the dearest
    refine ⟨_, rfl, p, rfl, ⟨_, SqL.of hp⟩, fun M nM => ?_⟩
    refine lc_list (xs := ws.map V.int) (fun j H2 => Same H1 H2 ∧ H2 M = some (.lst (((ws.take j).map (pcO os)).map V.int))) ⟨same_new nM, upd_same⟩ (fun j H2 _ z => SqL.of (z.1 _ _ hp)) ?_ ?_
    · rintro j x H2 hx ⟨s2, hM⟩
      rw [List.getElem?_map] at hx
      obtain ⟨k, hk, rfl⟩ := Option.map_eq_some_iff.mp hx
      have mk := sub k (List.mem_of_getElem? hk)
      obtain ⟨o3, ho3, _⟩ := in_os (rk k mk).1 (rk k mk).2
      obtain ⟨tq, e2, htq⟩ := (oa1.same s2).ix (rk k mk).1 ho3
      have ep := (prO_at ho3).2
      refine ⟨rfl, yes_ite ?_⟩
      refine ⟨_, rfl, _, rfl, D, _, _, _, rfl, rfl, SqL.of (s2 _ _ hD1), e2, tq, _, _, _, rfl, rfl, SqT.of htq, atI_nat (j := 2) rfl, _, hM, ?_, same_put s2 nM, ?_⟩
      · rw [List.length_map, List.length_map, List.length_take]
        exact szl (by omega)
      · rw [upd_same, take_at hk, List.map_append, List.map_append, List.map_singleton, ep]
        rfl
    rintro H2 ⟨s2, hM⟩
    rw [List.length_map, List.take_length] at hM
    have hD2 := s2 _ _ hD1
    have hE2 := s2 _ _ hE1
    have oa2 := oa1.same s2
    have hp2 := s2 _ _ hp
    have s12 := s1.trans s2
    refine ⟨_, rfl, M, _, _, rfl, rfl, SqL.of hM, fun en => ?_, fun m mm mle => ?_⟩
    · have en : ws = [] := List.map_eq_nil_iff.mp en
      subst en
      refine ⟨_, rfl, _, rfl, _, _, rfl, rfl, _, rfl, ite2 (fun z => ?_) (fun z => ?_)⟩
      · have z := of_decide_eq_true z
        omega
      refine ⟨_, rfl, _, rfl, rfl, _, rfl, ifF (by simp) ?_⟩
      exact ⟨_, rfl, q _ ks _ (fun c o _ e => s12 _ _ e) hE2 (kru_drop Y ld' (fun k z => nomatch z) fun k z => nomatch z)⟩
    have mle2 : ∀ k ∈ ws, pcO os k ≤ m := fun k mk => mle _ (List.mem_map.mpr ⟨k, mk, rfl⟩)
    refine ⟨_, rfl, _, rfl, _, _, rfl, rfl, _, rfl, ite2 (fun z => ?_) (fun z => ?_)⟩
    case refine_2 =>
      have z : m ≤ u.2 := by
        by_cases g : m > u.2
        · exact absurd (decide_eq_true g) z
        · omega
      refine ⟨_, rfl, _, rfl, rfl, _, rfl, ifF (by simp) ?_⟩
      refine ⟨_, rfl, q _ ks _ (fun c o _ e => s12 _ _ e) hE2 (kru_drop Y ld' sub fun k mk => ?_)⟩
      have := mle2 k mk
      rw [eo.2]
      omega
    have z : m > u.2 := of_decide_eq_true z
    -- the first one as dear
    refine ⟨_, rfl, p, rfl, ⟨_, SqL.of hp2⟩, fun G nG => ?_⟩
    refine lc_list (xs := ws.map V.int) (fun j H3 => Same H2 H3 ∧ H3 G = some (.lst (((ws.take j).filter fun k => decide (V.int (pcO os k) = V.int m)).map V.int))) ⟨same_new nG, upd_same⟩ (fun j H3 _ z => SqL.of (z.1 _ _ hp2)) ?_ ?_
    · rintro j x H3 hx ⟨s3, hG⟩
      rw [List.getElem?_map] at hx
      obtain ⟨k, hk, rfl⟩ := Option.map_eq_some_iff.mp hx
      have mk := sub k (List.mem_of_getElem? hk)
      obtain ⟨o3, ho3, _⟩ := in_os (rk k mk).1 (rk k mk).2
      obtain ⟨tq, e2, htq⟩ := (oa2.same s3).ix (rk k mk).1 ho3
      have ep := (prO_at ho3).2
      rw [filter_turn71 (fun k => decide (V.int (pcO os k) = V.int m)) hk]
      refine ⟨rfl, _, rfl, _, rfl, D, _, _, _, rfl, rfl, SqL.of (s3 _ _ hD2), e2, tq, _, _, _, rfl, rfl, SqT.of htq, atI_nat (j := 2) rfl, _, rfl, rfl, decide (V.int (pcO os k) = V.int m), by rw [ep], ?_⟩
      by_cases c : decide (V.int (pcO os k) = V.int m) = true
      · rw [if_pos c, c]
        refine iteT ⟨_, rfl, _, hG, ?_, same_put s3 nG, ?_⟩
        · have y := List.length_filter_le (fun k => decide (V.int (pcO os k) = V.int m)) (ws.take j)
          rw [List.length_take] at y
          rw [List.length_map]
          exact szl (by omega)
        · rw [upd_same, List.map_append]
          rfl
      · rw [if_neg c, eq_false_of_ne_true c]
        exact iteF ⟨s3, hG⟩
    rintro H3 ⟨s3, hG⟩
    rw [List.length_map, List.take_length] at hG
    obtain ⟨e, r, er⟩ : ∃ e r, (ws.filter fun k => decide (V.int (pcO os k) = V.int m)) = e :: r := by
      obtain ⟨k, mk, ek⟩ := List.mem_map.mp mm
      have mf : k ∈ ws.filter fun k => decide (V.int (pcO os k) = V.int m) := List.mem_filter.mpr ⟨mk, decide_eq_true (congrArg V.int ek)⟩
      cases h : ws.filter fun k => decide (V.int (pcO os k) = V.int m) with
      | nil =>
        rw [h] at mf
        cases mf
      | cons e r => exact ⟨e, r, rfl⟩
    have me : e ∈ ws.filter fun k => decide (V.int (pcO os k) = V.int m) := by
      rw [er]
      exact List.mem_cons_self
    rw [er] at hG
    obtain ⟨mew, pe⟩ := List.mem_filter.mp me
    have pe : pcO os e = m := V.int.inj (of_decide_eq_true pe)
    refine ⟨G, _, _, _, rfl, rfl, SqL.of hG, atI_nat (j := 0) rfl, ?_⟩
    have hE3 := s3 _ _ hE2
    refine ⟨_, rfl, .inl ⟨rfl, _, SqL.of hE3⟩, _, rfl, E, e, ks, rfl, rfl, hE3, sub e mew, ?_⟩
    have nie : e ≠ (i : Int) := fun h => by
      have := (Y.rg e (sub e mew)).2
      omega
    refine ⟨_, rfl, _, rfl, rfl, _, rfl, ifT (by simpa using nie) ?_⟩
    have lke := (List.length_erase_of_mem (sub e mew))
    refine ⟨_, rfl, .inl ⟨rfl, _, SqL.of upd_same⟩, _, rfl, E, _, _, rfl, rfl, upd_same, szl (by rw [List.length_map]; omega), ?_⟩
    refine ⟨_, rfl, q _ (ks.erase e ++ [(i : Int)]) _ (fun c o nc h => ?_) ?_ (kru_swap B il Y ld' nd sub mew (fun k mk => ?_) ?_)⟩
    · rw [upd_ne nc, upd_ne nc]
      exact s3 _ _ (s12 _ _ h)
    · rw [upd_same, List.map_append]
      rfl
    · rw [pe]
      exact mle2 k mk
    · rw [pe, eo.2]
      omega
def spKeptL : Sp := fun vs H Q _ => ∃ (D : Addr) (n : Nat) (ys : List V) (os : O3s), vs = [.ref D] ∧ H D = some (.lst ys) ∧ OAll H ys os ∧ BdO os n ∧ (∀ t ∈ os, 0 ≤ t.2) ∧ n ≤ 40 ∧ os.length ≤ 63 ∧
  ∀ (p : Addr) (ks : List Int) (H' : Hp), Same H H' → H p = none → H' p = some (.lst (ks.map V.int)) → Kru os os.length ks → ks.Pairwise (· < ·) → Q (.ref p) H'
theorem ok_keptL (T : Top K mg) : FnOk P w K mg base CX0 3 T.a_Lkept T.d_Lkept ["_law_offers_here"] spKeptL := by
  have G_Ltaken : FnOk P w K mg base CX0 2 _ _ _ _ := ok_taken T
  refine T.F_Lkept.ok sc_Lkept (fun vs H Q E h => ?_) (fun cdv A outer s H vs Q E hr h => ?_)
  · obtain ⟨D, n, ys, os, rfl, _⟩ := h
    rfl
  · obtain ⟨D, n, ys, os, rfl, hD, oa, B, pz, n40, lo, q⟩ := h
    have ly := oa.length
    refine ⟨_, (pss_cons (ps_set (i := 1) sc_Lkept.nd rfl (.inl rfl) (pe_lst pa_nil))
      (pss_cons (ps_for PassesOwn.never rfl (pi_range1 (by rfl) T.m_range (pa_cons (pe_callB call_len_seq (by rfl) T.m_len PySem.boot_len (pa_cons (pv 0) pa_nil)) pa_nil)) (pg_name (i := 2) sc_Lkept.nd rfl (.inl rfl)) (pss_one (ps_expr (pe_call G_Ltaken hr (by rfl) T.g_Ltaken T.F_Ltaken.kp T.b_Ltaken .nil pass0 (pa_cons (pv 0) (pa_cons (pv 1) (pa_cons (pv 2) pa_nil)))))))
      (pss_one (ps_ret (pe_callB cr_sortedI (by rfl) T.m_sorted (by decide +kernel) (pa_cons (pv 1) pa_nil)))))), ?_⟩
    refine ⟨Nat.zero_le _, fun E nE => ?_⟩
    have DE : D ≠ E := ne_of_none hD nE
    refine ⟨_, rfl, D, _, rfl, .inl (SqL.of (same_new nE _ _ hD)), _, rfl, by omega, by omega, for_range (lo := 0) (n := ys.length) (fun i σ G => ∃ (ks : List Int) (y2 : Option V), σ = [some (.ref D), some (.ref E), y2] ∧ Same H G ∧ G E = some (.lst (ks.map V.int)) ∧ Kru os i ks) ⟨[], none, rfl, same_new nE, upd_same, kru_nil⟩ ?_ ?_⟩
    · rintro i σ G hi ⟨ks, y2, rfl, sG, hE, Y⟩
      refine ⟨_, rfl, _, rfl, _, rfl, D, E, n, i, ys, os, ks, congrArg (fun z => [V.ref D, V.ref E, V.int z]) (Int.zero_add (i : Int)), DE, sG _ _ hD, oa.same sG, hE, B, pz, n40, lo, by omega, Y, fun v us G2 k2 hE2 Y2 => ?_⟩
      exact ⟨us, _, rfl, fun c o e => k2 c o (ne_of_none e nE) (sG _ _ e), hE2, Y2⟩
    · rintro σ G ⟨ks, y2, rfl, sG, hE, Y⟩
      rw [ly] at Y
      refine ⟨_, rfl, E, ks, rfl, SqL.of hE, fun us p pm srt np => ?_⟩
      exact q p us _ (sG.trans (same_new np)) (sG.free np) upd_same (kru_perm B (Nat.le_refl _) Y pm) (rising_nd (ring_nd Y.nr) pm srt)
structure GoodL (os : O3s) (ks : List Int) (r : NR) : Prop where
  nd : r.2.Nodup
  sub : ∀ k ∈ r.2, k ∈ ks
  ld : Leads (prs os) (prO os r.1).2 (prO os r.1).1 r.2
def spPaperL : Sp := fun vs H Q _ => ∃ (D E : Addr) (n : Nat) (ys : List V) (os : O3s) (ks : List Int), vs = [.ref D, .ref E] ∧ H D = some (.lst ys) ∧ OAll H ys os ∧ H E = some (.lst (ks.map V.int)) ∧ (∀ k ∈ ks, 0 ≤ k ∧ k < (os.length : Int)) ∧ BdO os n ∧ n ≤ 40 ∧ os.length ≤ 63 ∧ (∀ j : Nat, j < os.length → (j : Int) ∉ ks → Rch (tiesO os ks) (prO os j).1 (prO os j).2) ∧
  ∀ (p : Addr) (xs : List V) (rs : List NR) (H' : Hp), Same H H' → H' p = some (.tup xs) → NAll H' xs rs → rs.map Prod.fst = goneO os.length ks → (∀ r ∈ rs, GoodL os ks r) → Q (.ref p) H'
theorem ok_paperL (T : Top K mg) : FnOk P w K mg base CX0 2 T.a_Lpaper T.d_Lpaper ["_law_offers_here", "_law_kept_here"] spPaperL := by
  have G_Lway : FnOk P w K mg base CX0 1 _ _ _ _ := ok_way T
  refine T.F_Lpaper.ok sc_Lpaper (fun vs H Q E h => ?_) (fun cdv A outer s H vs Q E hr h => ?_)
  · obtain ⟨D, E, n, ys, os, ks, rfl, _⟩ := h
    rfl
  · obtain ⟨D, E, n, ys, os, ks, rfl, hD, oa, hE, rk, B, n40, lo, rch, q⟩ := h
    have ly := oa.length
    refine ⟨_, (pss_cons (ps_set (i := 2) sc_Lpaper.nd rfl (.inl rfl) (pe_lst pa_nil))
      (pss_cons (ps_for PassesOwn.never rfl (pi_enum (by rfl) T.m_enumerate (pa_cons (pv 0) pa_nil)) (pg_tup rfl (pgs_cons (pg_name (i := 3) sc_Lpaper.nd rfl (.inl rfl)) (pgs_cons (pg_tup rfl (pgs_cons (pg_name (i := 4) sc_Lpaper.nd rfl (.inl rfl)) (pgs_cons (pg_name (i := 5) sc_Lpaper.nd rfl (.inl rfl)) (pgs_cons (pg_name (i := 6) sc_Lpaper.nd rfl (.inl rfl)) pgs_nil)))) pgs_nil))) (pss_one (ps_if (pt_cmpR op_notIn_seq (pv 3) (pv 1) (by rfl)) (pss_one (ps_expr (pe_bm PySem.F.plainAttrs_list PySem.F.slot_list_append PySem.F.type_list_append mt_append (pv 2) (pa_cons (pe_tup (pa_cons (pv 3) (pa_cons (pe_callTy call_tuple_of (by rfl) T.m_tuple (by decide +kernel) (pa_cons (pe_call G_Lway hr (by rfl) T.g_Lway T.F_Lway.kp T.b_Lway .nil pass0 (pa_cons (pv 0) (pa_cons (pv 1) (pa_cons (pv 4) (pa_cons (pv 5) pa_nil))))) pa_nil)) pa_nil))) pa_nil)))) pss_nil)))
      (pss_one (ps_ret (pe_callTy call_tuple_of (by rfl) T.m_tuple (by decide +kernel) (pa_cons (pv 2) pa_nil)))))), ?_⟩
    refine ⟨Nat.zero_le _, fun R nR => ?_⟩
    refine ⟨_, rfl, D, _, rfl, SqL.of (same_new nR _ _ hD), for_it (walk_enum (xs := ys)) (fun i σ G => ∃ (ws : List V) (rs : List NR) (y3 y4 y5 y6 : Option V), σ = [some (.ref D), some (.ref E), some (.ref R), y3, y4, y5, y6] ∧ Same H G ∧ G R = some (.lst ws) ∧ NAll G ws rs ∧ rs.map Prod.fst = goneO i ks ∧ ∀ r ∈ rs, GoodL os ks r) ⟨[], [], none, none, none, none, rfl, same_new nR, upd_same, .nil, rfl, fun r z => nomatch z⟩ (fun i σ G _ h => ?_) ?_ ?_⟩
    · obtain ⟨_, _, _, _, _, _, _, z, _⟩ := h
      exact SqL.of (z _ _ hD)
    · rintro i x σ G G' hi ⟨ws, rs, y3, y4, y5, y6, rfl, sG, hR, ra, hd, ok⟩ ⟨T0, x, y, rfl, nT, rfl, hx, hy⟩
      dsimp only at hx hy
      obtain rfl : V.int (i : Int) = x := Option.some.inj hx
      obtain ⟨tp, u, rfl, hu, htp⟩ := (oa.same sG).at hy
      have sT := same_new (o := .tup [V.int (i : Int), V.ref tp]) nT
      refine ⟨T0, _, rfl, SqT.of upd_same, rfl, _, _, rfl, _, _, rfl, ⟨tp, _, rfl, SqT.of (sT _ _ htp), rfl, _, _, rfl, _, _, rfl, _, _, rfl, rfl, rfl, ?_⟩⟩
      have s8 := sG.trans sT
      have hR8 := sT _ _ hR
      have ra8 := ra.same sT
      generalize upd G T0 (.tup [V.int (i : Int), V.ref tp]) = G8 at s8 hR8 ra8 ⊢
      have eo := prO_at (k := (i : Int)) (os := os) (o := u) (by rw [Int.toNat_natCast]; exact hu)
      have bu := B u (List.mem_of_getElem? hu)
      refine ⟨_, rfl, _, rfl, E, _, rfl, .inl (SqL.of (s8 _ _ hE)), rfl, flat_ints _, !decide ((i : Int) ∈ ks), congrArg (fun z => V.bl (!z)) (inV_ints (i : Int) ks), ?_⟩
      have gs := gone_succ (i := i) (ks := ks)
      by_cases mk : (i : Int) ∈ ks
      · rw [if_pos mk] at gs
        rw [decide_eq_true mk]
        refine iteF ⟨ws, rs, _, _, _, _, rfl, s8, hR8, ra8, by rw [gs]; exact hd, ok⟩
      rw [if_neg mk] at gs
      rw [decide_eq_false mk]
      refine iteT ?_
      refine ⟨_, rfl, .inl ⟨rfl, _, SqL.of hR8⟩, _, rfl, _, rfl, _, rfl, _, rfl, _, rfl, D, E, n, _, _, ys, os, ks, rfl, s8 _ _ hD, oa.same s8, s8 _ _ hE, rk, B, n40, lo, by omega, by omega, fun G9 s9 nr => ?_, fun p ns G9 s9 _ hp ld nd sub => ?_⟩
      · refine absurd ?_ nr
        have z := rch i (by omega) mk
        rw [eo.1] at z
        exact z
      refine ⟨p, _, rfl, .inl ⟨SqL.of hp, fun t nt => ⟨(by show 2 ≤ sizeLine; decide), fun r nr => ?_⟩⟩⟩
      have st := same_new (o := .tup (ns.map V.int)) nt
      have ht : upd G9 t (.tup (ns.map V.int)) t = some (.tup (ns.map V.int)) := upd_same
      generalize upd G9 t (.tup (ns.map V.int)) = G10 at st ht nr ⊢
      have sr := same_new (o := .tup [V.int (i : Int), V.ref t]) nr
      have hr : upd G10 r (.tup [V.int (i : Int), V.ref t]) r = some (.tup [V.int (i : Int), V.ref t]) := upd_same
      have ht2 := sr _ _ ht
      have s10 := (s9.trans st).trans sr
      generalize upd G10 r (.tup [V.int (i : Int), V.ref t]) = G11 at s10 hr ht2 ⊢
      have hR11 := s10 _ _ hR8
      have lr : rs.length ≤ i := by
        have z := congrArg List.length hd
        rw [List.length_map] at z
        have := gone_len (i := i) (ks := ks)
        omega
      have lw := ra.length
      refine ⟨R, _, _, rfl, rfl, hR11, szl (by omega), ?_⟩
      refine ⟨ws ++ [.ref r], rs ++ [((i : Int), ns)], _, _, _, _, rfl, same_put (s8.trans s10) nR, upd_same, ?_, ?_, fun r' mr => ?_⟩
      · have z : NAll G11 (ws ++ [.ref r]) (rs ++ [((i : Int), ns)]) := (ra8.same s10).append (.cons hr ht2 .nil)
        exact z.mono fun c xs e => by
          rw [upd_ne (ne_of e hR11 (by intro z; cases z))]
          exact e
      · rw [List.map_append, hd, gs]
        rfl
      · rcases List.mem_append.mp mr with mr | mr
        · exact ok r' mr
        · rw [List.mem_singleton.mp mr]
          refine ⟨nd, sub, ?_⟩
          show Leads (prs os) (prO os (i : Int)).2 (prO os (i : Int)).1 ns
          rw [eo.1]
          exact ld
    · rintro σ G ⟨ws, rs, y3, y4, y5, y6, rfl, sG, hR, ra, hd, ok⟩
      refine ⟨_, rfl, R, _, rfl, .inl ⟨SqL.of hR, fun t nt => ?_⟩⟩
      have st := same_new (o := .tup ws) nt
      exact q t ws rs _ (sG.trans st) upd_same (ra.same st) (by rw [hd, ly]) ok
end

end My
namespace My
open PySem L2
/-! ### deep things, odd things -/
theorem dict_new {H : Hp} {p : Addr} {x y : HO} (n : H p = none) : Same H (upd (upd H p x) p y) := fun a o e => by
  rw [upd_ne (ne_of_none e n), upd_ne (ne_of_none e n)]
  exact e
section
variable {P : Program} {w : World} {K : PySem.W.Frag} {mg : Str → Option Value} {base : Heap}
def spDeep : Sp := fun vs H Q _ => ∃ (b L : Addr) (m : Int), vs = [.ref b] ∧ PotAt H b L m ∧ 0 ≤ m ∧ m < 2 ^ 40 ∧ ∀ (l : Addr) (v : V) (H' : Hp), PotAt H' b L (m + 30) → But2 b L H H' → H' l = some (.lst [v]) → Q (.ref l) H'
theorem ok_deep (T : Top K mg) : FnOk P w K mg base CX0 3 T.a_Ldeep T.d_Ldeep ["_law_pot_here"] spDeep := by
  have G_Ltake : FnOk P w K mg base CX0 2 _ _ _ _ := ok_take T
  refine T.F_Ldeep.ok sc_Ldeep (fun vs H Q E h => ?_) (fun cdv A outer s H vs Q E hr h => ?_)
  · obtain ⟨b, L, m, rfl, _⟩ := h
    rfl
  · obtain ⟨b, L, m, rfl, P0, m0, m1, q⟩ := h
    refine ⟨_, (pss_cons (ps_set (i := 1) sc_Ldeep.nd rfl (.inl rfl) (pe_ix ix_list (pe_lst (pa_cons (pe_tup pa_nil) (pa_cons pe_int (pa_cons pe_str (pa_cons pe_non (pa_cons pe_bl (pa_cons (pe_tup (pa_cons pe_str (pa_cons (pe_tup pa_nil) pa_nil))) pa_nil))))))) (pe_call G_Ltake hr (by rfl) T.g_Ltake T.F_Ltake.kp T.b_Ltake .nil pass0 (pa_cons (pv 0) (pa_cons pe_int pa_nil))) (fun _ _ => rfl)))
      (pss_cons (ps_for PassesOwn.never rfl (pi_range1 (by rfl) T.m_range (pa_cons (pe_call G_Ltake hr (by rfl) T.g_Ltake T.F_Ltake.kp T.b_Ltake .nil pass0 (pa_cons (pv 0) (pa_cons pe_int pa_nil))) pa_nil)) (pg_name (i := 2) sc_Ldeep.nd rfl (.inl rfl)) (pss_cons (ps_set (i := 3) sc_Ldeep.nd rfl (.inl rfl) (pe_lst (pa_cons (pe_tup (pa_cons (pv 1) pa_nil)) (pa_cons (pe_lst (pa_cons (pv 1) pa_nil)) (pa_cons (pe_disp (pps_cons pe_str (pv 1) pps_nil) (by rfl) (by rfl) (fun z => by cases z) (by decide)) (pa_cons (pe_tup (pa_cons (pv 1) (pa_cons pe_non pa_nil))) (pa_cons (pe_tup (pa_cons pe_str (pa_cons (pv 1) pa_nil))) pa_nil)))))))
      (pss_one (ps_set (i := 1) sc_Ldeep.nd rfl (.inl rfl) (pe_ix ix_list (pv 3) (pe_call G_Ltake hr (by rfl) T.g_Ltake T.F_Ltake.kp T.b_Ltake .nil pass0 (pa_cons (pv 0) (pa_cons pe_int pa_nil))) (fun _ _ => rfl))))))
      (pss_one (ps_ret (pe_lst (pa_cons (pv 1) pa_nil)))))), ?_⟩
    have S : Same H H := same_refl
    refine ⟨Nat.zero_le _, fun q1 w1 => ?_⟩
    have t1 := same_new (o := .tup []) w1
    have g1 : upd H q1 (.tup []) q1 = some (.tup []) := upd_same
    generalize upd H q1 (.tup []) = G1 at t1 g1 ⊢
    have P0 := P0.same t1
    have S := S.trans t1
    refine ⟨Nat.zero_le _, fun q2 w2 => ?_⟩
    have t2 := same_new (o := .tup []) w2
    have g2 : upd G1 q2 (.tup []) q2 = some (.tup []) := upd_same
    generalize upd G1 q2 (.tup []) = G2 at t2 g2 ⊢
    have g1 := t2 _ _ g1
    have P0 := P0.same t2
    have S := S.trans t2
    refine ⟨(by show 2 ≤ sizeLine; decide), fun q3 w3 => ?_⟩
    have t3 := same_new (o := .tup [.str "round", .ref q2]) w3
    have g3 : upd G2 q3 (.tup [.str "round", .ref q2]) q3 = some (.tup [.str "round", .ref q2]) := upd_same
    generalize upd G2 q3 (.tup [.str "round", .ref q2]) = G3 at t3 g3 ⊢
    have g1 := t3 _ _ g1
    have g2 := t3 _ _ g2
    have P0 := P0.same t3
    have S := S.trans t3
    refine ⟨(by show 6 ≤ sizeLine; decide), fun q4 w4 => ?_⟩
    obtain ⟨e1, e2⟩ := P0.ne w4
    have t4 := same_new (o := .lst [V.ref q1, .int 0, .str "holds", .non, .bl true, .ref q3]) w4
    have g4 : upd G3 q4 (.lst [V.ref q1, .int 0, .str "holds", .non, .bl true, .ref q3]) q4 = some (.lst [V.ref q1, .int 0, .str "holds", .non, .bl true, .ref q3]) := upd_same
    generalize upd G3 q4 (.lst [V.ref q1, .int 0, .str "holds", .non, .bl true, .ref q3]) = G4 at t4 g4 ⊢
    have P0 := P0.same t4
    have S := S.trans t4
    refine ⟨_, rfl, b, L, m, 6, rfl, P0, by omega, by decide, by decide, fun x H4 x0 x6 P4 k4 => ?_⟩
    have pick : ∃ v, atI [V.ref q1, .int 0, .str "holds", .non, .bl true, .ref q3] x = some v := by
      have hc : x = 0 ∨ x = 1 ∨ x = 2 ∨ x = 3 ∨ x = 4 ∨ x = 5 := by omega
      rcases hc with rfl | rfl | rfl | rfl | rfl | rfl <;> exact ⟨_, rfl⟩
    obtain ⟨v0, hv0⟩ := pick
    refine ⟨q4, _, _, _, rfl, rfl, SqL.of (k4 _ _ g4 e1 e2), hv0, ?_⟩
    have b4 : But2 b L H H4 := (But2.refl.same S).trans k4
    refine ⟨_, rfl, b, L, m + 1, 26, rfl, P4, by omega, by decide, by decide, fun y H5 y0 y1 P5 k5 => ?_⟩
    refine ⟨y, rfl, (by omega), (by omega), for_range (lo := 0) (n := y.toNat) (fun i σ H6 => ∃ (v : V) (z2 z3 : Option V), σ = [some (.ref b), some v, z2, z3] ∧ PotAt H6 b L (m + 2 + (i : Int)) ∧ But2 b L H H6) ⟨v0, none, none, rfl, P5.le (by omega), b4.trans k5⟩ ?_ ?_⟩
    · rintro i σ H6 hi ⟨v, z2, z3, rfl, P6, b6⟩
      have S : Same H6 H6 := same_refl
      refine ⟨_, rfl, (by show 1 ≤ sizeLine; decide), fun q5 w5 => ?_⟩
      have t5 := same_new (o := .tup [v]) w5
      have g5 : upd H6 q5 (.tup [v]) q5 = some (.tup [v]) := upd_same
      generalize upd H6 q5 (.tup [v]) = G5 at t5 g5 ⊢
      have P6 := P6.same t5
      have S := S.trans t5
      refine ⟨_, rfl, (by show 1 ≤ sizeLine; decide), fun q6 w6 => ?_⟩
      have t6 := same_new (o := .lst [v]) w6
      have g6 : upd G5 q6 (.lst [v]) q6 = some (.lst [v]) := upd_same
      generalize upd G5 q6 (.lst [v]) = G6 at t6 g6 ⊢
      have g5 := t6 _ _ g5
      have P6 := P6.same t6
      have S := S.trans t6
      refine fun q7 w7 => ⟨_, rfl, upd_same, [(.inr "kept", v)], rfl, (Nat.le_of_ble_eq_true rfl), ?_⟩
      have t7 := dict_new (x := .dK []) (y := .dK (mergeK [] [(.inr "kept", v)])) w7
      have g7 : upd (upd G6 q7 (.dK [])) q7 (.dK (mergeK [] [(.inr "kept", v)])) q7 = some (.dK (mergeK [] [(.inr "kept", v)])) := upd_same
      generalize upd (upd G6 q7 (.dK [])) q7 (.dK (mergeK [] [(.inr "kept", v)])) = G7 at t7 g7 ⊢
      have g5 := t7 _ _ g5
      have g6 := t7 _ _ g6
      have P6 := P6.same t7
      have S := S.trans t7
      refine ⟨_, rfl, (by show 2 ≤ sizeLine; decide), fun q8 w8 => ?_⟩
      have t8 := same_new (o := .tup [v, .non]) w8
      have g8 : upd G7 q8 (.tup [v, .non]) q8 = some (.tup [v, .non]) := upd_same
      generalize upd G7 q8 (.tup [v, .non]) = G8 at t8 g8 ⊢
      have g5 := t8 _ _ g5
      have g6 := t8 _ _ g6
      have g7 := t8 _ _ g7
      have P6 := P6.same t8
      have S := S.trans t8
      refine ⟨_, rfl, (by show 2 ≤ sizeLine; decide), fun q9 w9 => ?_⟩
      have t9 := same_new (o := .tup [.str "holds", v]) w9
      have g9 : upd G8 q9 (.tup [.str "holds", v]) q9 = some (.tup [.str "holds", v]) := upd_same
      generalize upd G8 q9 (.tup [.str "holds", v]) = G9 at t9 g9 ⊢
      have g5 := t9 _ _ g5
      have g6 := t9 _ _ g6
      have g7 := t9 _ _ g7
      have g8 := t9 _ _ g8
      have P6 := P6.same t9
      have S := S.trans t9
      refine ⟨(by show 5 ≤ sizeLine; decide), fun q10 w10 => ?_⟩
      obtain ⟨e1, e2⟩ := P6.ne w10
      have t10 := same_new (o := .lst [V.ref q5, .ref q6, .ref q7, .ref q8, .ref q9]) w10
      have g10 : upd G9 q10 (.lst [V.ref q5, .ref q6, .ref q7, .ref q8, .ref q9]) q10 = some (.lst [V.ref q5, .ref q6, .ref q7, .ref q8, .ref q9]) := upd_same
      generalize upd G9 q10 (.lst [V.ref q5, .ref q6, .ref q7, .ref q8, .ref q9]) = G10 at t10 g10 ⊢
      have P6 := P6.same t10
      have S := S.trans t10
      refine ⟨_, rfl, _, rfl, b, L, m + 2 + (i : Int), 5, rfl, P6, by omega, by decide, by decide, fun x H9 x0 x5 P9 k9 => ?_⟩
      have pick : ∃ v, atI [V.ref q5, .ref q6, .ref q7, .ref q8, .ref q9] x = some v := by
        have hc : x = 0 ∨ x = 1 ∨ x = 2 ∨ x = 3 ∨ x = 4 := by omega
        rcases hc with rfl | rfl | rfl | rfl | rfl <;> exact ⟨_, rfl⟩
      obtain ⟨v1, hv1⟩ := pick
      refine ⟨q10, _, _, _, rfl, rfl, SqL.of (k9 _ _ g10 e1 e2), hv1, ?_⟩
      exact ⟨v1, _, _, rfl, P9.le (by omega), (b6.same S).trans k9⟩
    · rintro σ H6 ⟨v, z2, z3, rfl, P6, b6⟩
      refine ⟨_, rfl, (by show 1 ≤ sizeLine; decide), fun p np => ?_⟩
      have sp := same_new (o := .lst [v]) np
      exact q p v _ ((P6.same sp).le (by omega)) (b6.same sp) upd_same
inductive GenOdd (H : Hp) : V → Prop
  | nt {v : V} (h : NoTup H v) : GenOdd H v
  | one {p : Addr} {y : V} (h : H p = some (.tup [y])) (n : NoTup H y) : GenOdd H (.ref p)
  | two {p : Addr} {y z : V} (h : H p = some (.tup [y, z])) (n : NoTup H y) : GenOdd H (.ref p)
theorem GenOdd.kp {H H' : Hp} (k : Kp H H') {v : V} (h : GenOdd H v) : GenOdd H' v := by
  cases h with
  | nt h => exact .nt (h.kp k)
  | one h n => exact .one (k.tup h) (n.kp k)
  | two h n => exact .two (k.tup h) (n.kp k)
theorem GenOdd.shw {H : Hp} {n : Nat} {v : V} (h : GenOdd H v) : ShwOdd H n v := by
  cases h with
  | nt h => exact .nt h
  | one h _ => exact .len h (by simp)
  | two h n => exact .kept h (.inl (.inl n))
theorem GenOdd.hlds {H : Hp} {n : Nat} {v : V} (h : GenOdd H v) : HldsOdd H n v := by
  cases h with
  | nt h => exact .nt h
  | one h n => exact .row h (.wrd (.nt n))
  | two h n => exact .row h (.wrd (.nt n))
def spOdd : Sp := fun vs H Q _ => ∃ (l : Addr) (v : V), vs = [.ref l] ∧ H l = some (.lst [v]) ∧ ∀ (p : Addr) (xs : List V) (H' : Hp), Same H H' → H' p = some (.lst xs) → xs.length = 15 → (∀ x ∈ xs, GenOdd H' x) → Q (.ref p) H'
theorem ok_oddL (T : Top K mg) : FnOk P w K mg base CX0 1 T.a_Lodd T.d_Lodd ["_law_thing"] spOdd := by
  refine T.F_Lodd.ok sc_Lodd (fun vs H Q E h => ?_) (fun cdv A outer s H vs Q E hr h => ?_)
  · obtain ⟨l, v, rfl, _⟩ := h
    rfl
  · obtain ⟨l, v, rfl, hl, q⟩ := h
    refine ⟨_, (pss_cons (ps_set (i := 1) sc_Lodd.nd rfl (.inl rfl) (pe_lst (pa_cons pe_non (pa_cons pe_bl (pa_cons pe_bl (pa_cons pe_int (pa_cons pe_int (pa_cons pe_str (pa_cons pe_str (pa_cons (pe_lst pa_nil) (pa_cons pe_dnewK (pa_cons (pe_tup (pa_cons pe_non pa_nil)) (pa_cons (pe_tup (pa_cons pe_int pa_nil)) (pa_cons (pe_tup (pa_cons pe_str pa_nil)) pa_nil))))))))))))))
      (pss_one (ps_ret (pe_op op_cat (pv 1) (pe_lst (pa_cons (pv 0) (pa_cons (pe_tup (pa_cons (pv 0) (pa_cons (pv 0) pa_nil))) (pa_cons (pe_disp (pps_cons pe_str (pe_tup pa_nil) pps_nil) (by rfl) (by rfl) (fun z => by cases z) (by decide)) pa_nil)))))))), ?_⟩
    have S : Same H H := same_refl
    refine ⟨Nat.zero_le _, fun q1 w1 => ?_⟩
    have t1 := same_new (o := .lst []) w1
    have g1 : upd H q1 (.lst []) q1 = some (.lst []) := upd_same
    generalize upd H q1 (.lst []) = G1 at t1 g1 ⊢
    have hl := t1 _ _ hl
    have S := S.trans t1
    have o2 : GenOdd G1 (.ref q1) := .nt (.lst g1)
    refine fun q3 w3 => ?_
    have t3 := same_new (o := .dK []) w3
    have g3 : upd G1 q3 (.dK []) q3 = some (.dK []) := upd_same
    generalize upd G1 q3 (.dK []) = G3 at t3 g3 ⊢
    have hl := t3 _ _ hl
    have g1 := t3 _ _ g1
    have o2 := o2.kp (Kp.of_same t3)
    have S := S.trans t3
    have o4 : GenOdd G3 (.ref q3) := .nt (.dK g3)
    refine ⟨(by show 1 ≤ sizeLine; decide), fun q5 w5 => ?_⟩
    have t5 := same_new (o := .tup [.non]) w5
    have g5 : upd G3 q5 (.tup [.non]) q5 = some (.tup [.non]) := upd_same
    generalize upd G3 q5 (.tup [.non]) = G5 at t5 g5 ⊢
    have hl := t5 _ _ hl
    have g1 := t5 _ _ g1
    have g3 := t5 _ _ g3
    have o2 := o2.kp (Kp.of_same t5)
    have o4 := o4.kp (Kp.of_same t5)
    have S := S.trans t5
    have o6 : GenOdd G5 (.ref q5) := .one g5 .non
    refine ⟨(by show 1 ≤ sizeLine; decide), fun q7 w7 => ?_⟩
    have t7 := same_new (o := .tup [.int 0]) w7
    have g7 : upd G5 q7 (.tup [.int 0]) q7 = some (.tup [.int 0]) := upd_same
    generalize upd G5 q7 (.tup [.int 0]) = G7 at t7 g7 ⊢
    have hl := t7 _ _ hl
    have g1 := t7 _ _ g1
    have g3 := t7 _ _ g3
    have g5 := t7 _ _ g5
    have o2 := o2.kp (Kp.of_same t7)
    have o4 := o4.kp (Kp.of_same t7)
    have o6 := o6.kp (Kp.of_same t7)
    have S := S.trans t7
    have o8 : GenOdd G7 (.ref q7) := .one g7 (.int 0)
    refine ⟨(by show 1 ≤ sizeLine; decide), fun q9 w9 => ?_⟩
    have t9 := same_new (o := .tup [.str ""]) w9
    have g9 : upd G7 q9 (.tup [.str ""]) q9 = some (.tup [.str ""]) := upd_same
    generalize upd G7 q9 (.tup [.str ""]) = G9 at t9 g9 ⊢
    have hl := t9 _ _ hl
    have g1 := t9 _ _ g1
    have g3 := t9 _ _ g3
    have g5 := t9 _ _ g5
    have g7 := t9 _ _ g7
    have o2 := o2.kp (Kp.of_same t9)
    have o4 := o4.kp (Kp.of_same t9)
    have o6 := o6.kp (Kp.of_same t9)
    have o8 := o8.kp (Kp.of_same t9)
    have S := S.trans t9
    have o10 : GenOdd G9 (.ref q9) := .one g9 (.str "")
    refine ⟨(by show 12 ≤ sizeLine; decide), fun q11 w11 => ?_⟩
    have t11 := same_new (o := .lst [V.non, .bl true, .bl false, .int 0, .int 7, .str "", .str "kept", .ref q1, .ref q3, .ref q5, .ref q7, .ref q9]) w11
    have g11 : upd G9 q11 (.lst [V.non, .bl true, .bl false, .int 0, .int 7, .str "", .str "kept", .ref q1, .ref q3, .ref q5, .ref q7, .ref q9]) q11 = some (.lst [V.non, .bl true, .bl false, .int 0, .int 7, .str "", .str "kept", .ref q1, .ref q3, .ref q5, .ref q7, .ref q9]) := upd_same
    generalize upd G9 q11 (.lst [V.non, .bl true, .bl false, .int 0, .int 7, .str "", .str "kept", .ref q1, .ref q3, .ref q5, .ref q7, .ref q9]) = G11 at t11 g11 ⊢
    have hl := t11 _ _ hl
    have o2 := o2.kp (Kp.of_same t11)
    have o4 := o4.kp (Kp.of_same t11)
    have o6 := o6.kp (Kp.of_same t11)
    have o8 := o8.kp (Kp.of_same t11)
    have o10 := o10.kp (Kp.of_same t11)
    have S := S.trans t11
    refine ⟨_, rfl, _, rfl, _, rfl, _, rfl, (by show 2 ≤ sizeLine; decide), fun q12 w12 => ?_⟩
    have t12 := same_new (o := .tup [.ref l, .ref l]) w12
    have g12 : upd G11 q12 (.tup [.ref l, .ref l]) q12 = some (.tup [.ref l, .ref l]) := upd_same
    generalize upd G11 q12 (.tup [.ref l, .ref l]) = G12 at t12 g12 ⊢
    have hl := t12 _ _ hl
    have g11 := t12 _ _ g11
    have o2 := o2.kp (Kp.of_same t12)
    have o4 := o4.kp (Kp.of_same t12)
    have o6 := o6.kp (Kp.of_same t12)
    have o8 := o8.kp (Kp.of_same t12)
    have o10 := o10.kp (Kp.of_same t12)
    have S := S.trans t12
    have o13 : GenOdd G12 (.ref q12) := .two g12 (.lst hl)
    refine fun q14 w14 => ?_
    have td := same_new (o := .dK []) w14
    have gd : upd G12 q14 (.dK []) q14 = some (.dK []) := upd_same
    generalize upd G12 q14 (.dK []) = Gd at td gd ⊢
    refine ⟨Nat.zero_le _, fun q15 w15 => ?_⟩
    have tf := td.trans (same_new (o := .tup []) w15)
    have gd2 := same_new (o := .tup []) w15 _ _ gd
    generalize upd Gd q15 (.tup []) = Ge at tf gd2 ⊢
    refine ⟨gd2, [(.inr "kept", .ref q15)], rfl, (Nat.le_of_ble_eq_true rfl), ?_⟩
    have t16 : Same G12 (upd Ge q14 (.dK (mergeK [] [(.inr "kept", .ref q15)]))) := same_put tf w14
    have g16 : upd Ge q14 (.dK (mergeK [] [(.inr "kept", .ref q15)])) q14 = some (.dK (mergeK [] [(.inr "kept", .ref q15)])) := upd_same
    generalize upd Ge q14 (.dK (mergeK [] [(.inr "kept", .ref q15)])) = G16 at t16 g16 ⊢
    have hl := t16 _ _ hl
    have g11 := t16 _ _ g11
    have o2 := o2.kp (Kp.of_same t16)
    have o4 := o4.kp (Kp.of_same t16)
    have o6 := o6.kp (Kp.of_same t16)
    have o8 := o8.kp (Kp.of_same t16)
    have o10 := o10.kp (Kp.of_same t16)
    have o13 := o13.kp (Kp.of_same t16)
    have S := S.trans t16
    have o17 : GenOdd G16 (.ref q14) := .nt (.dK g16)
    have o18 : GenOdd G16 (.ref l) := .nt (.lst hl)
    refine ⟨(by show 3 ≤ sizeLine; decide), fun q19 w19 => ?_⟩
    have t19 := same_new (o := .lst [V.ref l, .ref q12, .ref q14]) w19
    have g19 : upd G16 q19 (.lst [V.ref l, .ref q12, .ref q14]) q19 = some (.lst [V.ref l, .ref q12, .ref q14]) := upd_same
    generalize upd G16 q19 (.lst [V.ref l, .ref q12, .ref q14]) = G19 at t19 g19 ⊢
    have hl := t19 _ _ hl
    have g11 := t19 _ _ g11
    have o2 := o2.kp (Kp.of_same t19)
    have o4 := o4.kp (Kp.of_same t19)
    have o6 := o6.kp (Kp.of_same t19)
    have o8 := o8.kp (Kp.of_same t19)
    have o10 := o10.kp (Kp.of_same t19)
    have o13 := o13.kp (Kp.of_same t19)
    have o17 := o17.kp (Kp.of_same t19)
    have o18 := o18.kp (Kp.of_same t19)
    have S := S.trans t19
    refine ⟨q11, q19, _, _, rfl, rfl, g11, g19, (by show 15 ≤ sizeLine; decide), fun q20 w20 => ?_⟩
    have t20 := same_new (o := .lst ([V.non, .bl true, .bl false, .int 0, .int 7, .str "", .str "kept", .ref q1, .ref q3, .ref q5, .ref q7, .ref q9] ++ [V.ref l, .ref q12, .ref q14])) w20
    have g20 : upd G19 q20 (.lst ([V.non, .bl true, .bl false, .int 0, .int 7, .str "", .str "kept", .ref q1, .ref q3, .ref q5, .ref q7, .ref q9] ++ [V.ref l, .ref q12, .ref q14])) q20 = some (.lst ([V.non, .bl true, .bl false, .int 0, .int 7, .str "", .str "kept", .ref q1, .ref q3, .ref q5, .ref q7, .ref q9] ++ [V.ref l, .ref q12, .ref q14])) := upd_same
    generalize upd G19 q20 (.lst ([V.non, .bl true, .bl false, .int 0, .int 7, .str "", .str "kept", .ref q1, .ref q3, .ref q5, .ref q7, .ref q9] ++ [V.ref l, .ref q12, .ref q14])) = G20 at t20 g20 ⊢
    have hl := t20 _ _ hl
    have g11 := t20 _ _ g11
    have g19 := t20 _ _ g19
    have o2 := o2.kp (Kp.of_same t20)
    have o4 := o4.kp (Kp.of_same t20)
    have o6 := o6.kp (Kp.of_same t20)
    have o8 := o8.kp (Kp.of_same t20)
    have o10 := o10.kp (Kp.of_same t20)
    have o13 := o13.kp (Kp.of_same t20)
    have o17 := o17.kp (Kp.of_same t20)
    have o18 := o18.kp (Kp.of_same t20)
    have S := S.trans t20
    refine q q20 _ _ S g20 rfl fun x mx => ?_
    simp only [List.cons_append, List.nil_append, List.mem_cons, List.not_mem_nil, or_false] at mx
    rcases mx with rfl | rfl | rfl | rfl | rfl | rfl | rfl | rfl | rfl | rfl | rfl | rfl | rfl | rfl | rfl
    · exact .nt .non
    · exact .nt (.bl _)
    · exact .nt (.bl _)
    · exact .nt (.int _)
    · exact .nt (.int _)
    · exact .nt (.str _)
    · exact .nt (.str _)
    · assumption
    · assumption
    · assumption
    · assumption
    · assumption
    · assumption
    · assumption
    · assumption
end

end My
namespace My
open PySem L2
/-! ### pairs that show nothing -/
theorem ks_all {H : Hp} {ks : List Int} {x : V} (ax : AnyV H x) : ∀ y ∈ ks.map V.int ++ [x], AnyV H y := fun y m => by
  rcases List.mem_append.mp m with m | m
  · obtain ⟨i, _, rfl⟩ := List.mem_map.mp m
    exact .int i
  · rw [List.mem_singleton.mp m]
    exact ax
theorem ks_bad {ks : List Int} {x : V} (b : wholeB x = false) : (ks.map V.int ++ [x]).all wholeB = false := by
  rw [List.all_append]
  show (_ && (wholeB x && true)) = false
  rw [b, Bool.false_and, Bool.and_false]
def BadW (H : Hp) (r : Int) (ws : List Int) (v : V) : Prop := ∃ (p y : Addr) (x : V), v = .ref p ∧ H p = some (.tup [.int r, .ref y]) ∧ H y = some (.tup (ws.map V.int ++ [x])) ∧ (x = .non ∨ x = .bl true ∨ x = .int (-1))
theorem BadW.tups {H H' : Hp} {r : Int} {ws : List Int} {v : V} (g : ∀ t xs, H t = some (.tup xs) → H' t = some (.tup xs)) (h : BadW H r ws v) : BadW H' r ws v := by
  obtain ⟨p, y, x, e, h1, h2, h3⟩ := h
  exact ⟨p, y, x, e, g _ _ h1, g _ _ h2, h3⟩
theorem BadW.odd {H : Hp} {r : Int} {ws : List Int} {n : Nat} {v : V} (lw : ws.length ≤ 63) (h : BadW H r ws v) : EntOdd H n v := by
  obtain ⟨p, y, x, rfl, h1, h2, h3⟩ := h
  refine .way h1 ?_
  rcases h3 with rfl | rfl | rfl
  · exact .inl (.inr ⟨y, _, rfl, h2, ks_all .non, ks_bad rfl⟩)
  · exact .inl (.inr ⟨y, _, rfl, h2, ks_all (.bl true), ks_bad rfl⟩)
  · refine .inr ⟨y, ws ++ [-1], rfl, by rw [h2, List.map_append]; rfl, by rw [List.length_append, List.length_singleton]; omega, fun z => ?_⟩
    have := z.2 (-1) (List.mem_append_right _ List.mem_cons_self)
    omega
def BadP (H : Hp) (c : Addr) (xs rows : List V) (v : V) : Prop := ∃ (f q : Addr) (row : V), v = .ref f ∧ H f = some (.tup [.ref c, .ref q]) ∧ H q = some (.tup (xs ++ [row])) ∧ row ∈ rows
theorem BadP.tups {H H' : Hp} {c : Addr} {xs rows : List V} {v : V} (g : ∀ t xs, H t = some (.tup xs) → H' t = some (.tup xs)) (h : BadP H c xs rows v) : BadP H' c xs rows v := by
  obtain ⟨p, y, x, e, h1, h2, h3⟩ := h
  exact ⟨p, y, x, e, g _ _ h1, g _ _ h2, h3⟩
theorem tup_put {H : Hp} {D : Addr} {l l' : List V} (hD : H D = some (.lst l)) : ∀ t xs, H t = some (.tup xs) → upd H D (.lst l') t = some (.tup xs) := fun t xs e => by
  rw [upd_ne fun z => by rw [z, hD] at e; cases e]
  exact e
theorem cut_init (xs : List V) (v : V) : cutV (xs ++ [v]) none (some (-1)) = xs := by
  unfold cutV
  have e : HT.sIx (xs ++ [v]).length (xs ++ [v]).length (some (-1)) = xs.length := by
    unfold HT.sIx
    simp
    omega
  rw [e, HT.sIx_none]
  show List.take (xs.length - 0) (List.drop 0 (xs ++ [v])) = xs
  rw [List.drop_zero, Nat.sub_zero, List.take_left]
section
variable {P : Program} {w : World} {K : PySem.W.Frag} {mg : Str → Option Value} {base : Heap}
theorem log_ok {i : Int} (h1 : -(2 ^ 100) < i) (h2 : i < 2 ^ 100) : i.natAbs.log2 < 1920 := by
  by_cases z : i.natAbs = 0
  · rw [z]
    decide
  · rw [Nat.log2_lt z]
    have : i.natAbs < 2 ^ 100 := by omega
    exact Nat.lt_of_lt_of_le this (Nat.pow_le_pow_right (by decide) (by decide))
def spPairs : Sp := fun vs H Q _ => ∃ (c p : Addr) (ks : List Int) (xs : List V) (rs : List NR) (n : Nat), vs = [.ref c, .ref p] ∧ H c = some (.tup (ks.map V.int)) ∧ ks.length ≤ 63 ∧ (∀ k ∈ ks, 0 ≤ k ∧ k < (n : Int)) ∧ H p = some (.tup xs) ∧ NAll H xs rs ∧ rs.length = (goneO n ks).length ∧ rs.length ≤ 63 ∧ n ≤ 63 ∧ (∀ r ∈ rs, -100 ≤ r.1 ∧ r.1 ≤ 100 ∧ r.2.length ≤ 63 ∧ ∀ k ∈ r.2, 0 ≤ k ∧ k < (n : Int)) ∧ ∀ (q : Addr) (zs : List V) (H' : Hp), Same H H' → H' q = some (.lst zs) → zs.length ≤ 40 → (∀ z ∈ zs, ShwOdd H' n z) → Q (.ref q) H'
theorem ok_pairs (T : Top K mg) : FnOk P w K mg base CX0 1 T.a_Lpairs T.d_Lpairs ["_law_kept_here", "_law_paper_here"] spPairs := by
  refine T.F_Lpairs.ok sc_Lpairs (fun vs H Q E h => ?_) (fun cdv A outer s H vs Q E hr h => ?_)
  · obtain ⟨c, p, ks, xs, rs, n, rfl, _⟩ := h
    rfl
  · obtain ⟨c, p, ks, xs, rs, n, rfl, hc, lk, rk, hp, ra, lg, l63, n63, rok, q⟩ := h
    refine ⟨_, (pss_cons (ps_set (i := 2) sc_Lpairs.nd rfl (.inl rfl) (pe_lst (pa_cons (pe_lst (pa_cons (pv 0) (pa_cons (pv 1) pa_nil))) (pa_cons (pe_tup (pa_cons (pv 0) pa_nil)) (pa_cons (pe_tup (pa_cons (pv 0) (pa_cons (pv 1) (pa_cons (pe_tup pa_nil) pa_nil)))) (pa_cons (pe_tup (pa_cons (pe_callTy call_list_of (by rfl) T.m_list (by decide +kernel) (pa_cons (pv 0) pa_nil)) (pa_cons (pv 1) pa_nil))) pa_nil))))))
      (pss_cons (ps_set (i := 2) sc_Lpairs.nd rfl (.inl rfl) (pe_op op_cat (pv 2) (pe_lst (pa_cons (pe_tup (pa_cons (pv 0) (pa_cons (pe_callTy call_list_of (by rfl) T.m_list (by decide +kernel) (pa_cons (pv 1) pa_nil)) pa_nil))) (pa_cons (pe_tup (pa_cons (pv 1) (pa_cons (pv 0) (pa_cons pe_int pa_nil)))) pa_nil)))))
      (pss_cons (ps_set (i := 2) sc_Lpairs.nd rfl (.inl rfl) (pe_op op_cat (pv 2) (pe_lst (pa_cons (pe_tup (pa_cons (pe_op op_catA (pv 0) (pe_tup (pa_cons pe_bl pa_nil))) (pa_cons (pv 1) pa_nil))) (pa_cons (pe_tup (pa_cons (pe_op op_catA (pv 0) (pe_tup (pa_cons pe_str pa_nil))) (pa_cons (pv 1) pa_nil))) (pa_cons (pe_tup (pa_cons (pv 0) (pa_cons (pe_op op_catA (pv 1) (pe_tup (pa_cons pe_non pa_nil))) pa_nil))) (pa_cons (pe_tup (pa_cons (pv 0) (pa_cons pe_non pa_nil))) pa_nil)))))))
      (pss_cons (ps_set (i := 2) sc_Lpairs.nd rfl (.inl rfl) (pe_op op_cat (pv 2) (pe_lst (pa_cons (pe_tup (pa_cons (pv 0) (pa_cons (pe_op op_catA (pv 1) (pe_tup (pa_cons (pe_tup (pa_cons pe_int pa_nil)) pa_nil))) pa_nil))) (pa_cons (pe_tup (pa_cons (pe_op op_catA (pv 0) (pe_tup (pa_cons (pe_op op_pow pe_int pe_int) pa_nil))) (pa_cons (pv 1) pa_nil))) (pa_cons (pe_tup (pa_cons (pe_op op_catA (pe_tup (pa_cons (pe_un un_neg pe_int) pa_nil)) (pv 0)) (pa_cons (pv 1) pa_nil))) (pa_cons (pe_tup (pa_cons pe_non (pa_cons (pv 1) pa_nil))) pa_nil)))))))
      (pss_cons (ps_if (pt_cmpR (op_neE (u0 hr)) (pv 1) (pe_tup pa_nil) (nomark _)) (pss_cons (ps_asg (pe_ix ix_tup (pv 1) (pe_un un_neg pe_int) (fun _ _ => rfl)) (pg_tup rfl (pgs_cons (pg_name (i := 3) sc_Lpairs.nd rfl (.inr rfl)) (pgs_cons (pg_name (i := 4) sc_Lpairs.nd rfl (.inr rfl)) pgs_nil))))
      (pss_cons (ps_set (i := 5) sc_Lpairs.nd rfl (.inl rfl) (pe_lst (pa_cons (pe_tup (pa_cons (pv 3) (pa_cons (pe_callTy call_list_of (by rfl) T.m_list (by decide +kernel) (pa_cons (pv 4) pa_nil)) pa_nil))) (pa_cons (pe_lst (pa_cons (pv 3) (pa_cons (pv 4) pa_nil))) (pa_cons (pe_tup (pa_cons (pv 3) (pa_cons (pv 4) (pa_cons (pe_tup pa_nil) pa_nil)))) (pa_cons (pe_tup (pa_cons (pe_callTy call_str_int (by rfl) T.m_str (by decide +kernel) (pa_cons (pv 3) pa_nil)) (pa_cons (pv 4) pa_nil))) pa_nil))))))
      (pss_cons (ps_set (i := 5) sc_Lpairs.nd rfl (.inl rfl) (pe_op op_cat (pe_op op_cat (pv 5) (pe_lc (own := [("_law_odd_here", 6)]) (g := gName 6) (tt := tYes) (by rfl) sc_Lpairs.nd (pi_tup (pe_tup (pa_cons pe_non (pa_cons pe_bl (pa_cons (pe_un un_neg pe_int) pa_nil))))) (blkOk_by (own := [("_law_odd_here", 6)]) (N := ["_law_kept_here", "_law_paper_here", "_law_some", "_law_number", "_law_numbers", "_law_rows", "_law_odd_here", "_law_row"]) (sc := defScope s_Lpairs) (by decide +kernel)) (fun _ _ _ _ _ => (pg_name (i := 6) sc_Lpairs.nd rfl (.inl rfl))) (fun _ _ _ _ _ => pts_nil) (fun _ _ _ _ _ => (pe_tup (pa_cons (pv 3) (pa_cons (pe_op (op_catAK (K := K) rfl) (pv 4) (pe_tup (pa_cons (pv 6) pa_nil))) pa_nil)))))) (pe_lst (pa_cons (pe_tup (pa_cons (pv 3) pa_nil)) pa_nil))))
      (pss_one (ps_set (i := 2) sc_Lpairs.nd rfl (.inl rfl) (pe_op op_cat (pv 2) (pe_lc (own := [("_law_row", 7)]) (g := gName 7) (tt := tYes) (by rfl) sc_Lpairs.nd (pi_list (pv 5)) (blkOk_by (own := [("_law_row", 7)]) (N := ["_law_kept_here", "_law_paper_here", "_law_some", "_law_number", "_law_numbers", "_law_rows", "_law_odd_here", "_law_row"]) (sc := defScope s_Lpairs) (by decide +kernel)) (fun _ _ _ _ _ => (pg_name (i := 7) sc_Lpairs.nd rfl (.inl rfl))) (fun _ _ _ _ _ => pts_nil) (fun _ _ _ _ _ => (pe_tup (pa_cons (pv 0) (pa_cons (pe_op (op_catAK (K := K) rfl) (pe_slice (sl_tupAK (K := K) rfl) (pv 1) po_none (po_some (pe_un un_neg pe_int))) (pe_tup (pa_cons (pv 7) pa_nil))) pa_nil))))))))))) pss_nil)
      (pss_one (ps_ret (pv 2)))))))), ?_⟩
    have lx := ra.length
    have lk2 : ks.length ≤ 1000 := by omega
    have rok2 : ∀ r ∈ rs, r.2.length ≤ 1000 ∧ ∀ k ∈ r.2, 0 ≤ k ∧ k < (n : Int) := fun r mr => ⟨by have := (rok r mr).2.2.1; omega, (rok r mr).2.2.2⟩
    have S : Same H H := same_refl
    refine ⟨_, rfl, _, rfl, (by show 2 ≤ sizeLine; decide), fun q1 w1 => ?_⟩
    have t1 := same_new (o := .lst [.ref c, .ref p]) w1
    have g1 : upd H q1 (.lst [.ref c, .ref p]) q1 = some (.lst [.ref c, .ref p]) := upd_same
    generalize upd H q1 (.lst [.ref c, .ref p]) = G1 at t1 g1 ⊢
    have hc := t1 _ _ hc
    have hp := t1 _ _ hp
    have ra := ra.same t1
    have S := S.trans t1
    have o2 : ShwOdd G1 n (.ref q1) := .nt (.lst g1)
    refine ⟨_, rfl, (by show 1 ≤ sizeLine; decide), fun q3 w3 => ?_⟩
    have t3 := same_new (o := .tup [.ref c]) w3
    have g3 : upd G1 q3 (.tup [.ref c]) q3 = some (.tup [.ref c]) := upd_same
    generalize upd G1 q3 (.tup [.ref c]) = G3 at t3 g3 ⊢
    have hc := t3 _ _ hc
    have hp := t3 _ _ hp
    have o2 := o2.kp (Kp.of_same t3)
    have ra := ra.same t3
    have S := S.trans t3
    have o4 : ShwOdd G3 n (.ref q3) := .len g3 (by simp)
    refine ⟨_, rfl, _, rfl, Nat.zero_le _, fun q5 w5 => ?_⟩
    have t5 := same_new (o := .tup []) w5
    have g5 : upd G3 q5 (.tup []) q5 = some (.tup []) := upd_same
    generalize upd G3 q5 (.tup []) = G5 at t5 g5 ⊢
    have hc := t5 _ _ hc
    have hp := t5 _ _ hp
    have o2 := o2.kp (Kp.of_same t5)
    have o4 := o4.kp (Kp.of_same t5)
    have ra := ra.same t5
    have S := S.trans t5
    refine ⟨(by show 3 ≤ sizeLine; decide), fun q6 w6 => ?_⟩
    have t6 := same_new (o := .tup [.ref c, .ref p, .ref q5]) w6
    have g6 : upd G5 q6 (.tup [.ref c, .ref p, .ref q5]) q6 = some (.tup [.ref c, .ref p, .ref q5]) := upd_same
    generalize upd G5 q6 (.tup [.ref c, .ref p, .ref q5]) = G6 at t6 g6 ⊢
    have hc := t6 _ _ hc
    have hp := t6 _ _ hp
    have g5 := t6 _ _ g5
    have o2 := o2.kp (Kp.of_same t6)
    have o4 := o4.kp (Kp.of_same t6)
    have ra := ra.same t6
    have S := S.trans t6
    have o7 : ShwOdd G6 n (.ref q6) := .len g6 (by simp)
    refine ⟨_, rfl, c, _, rfl, .inr (SqT.of hc), fun q8 w8 => ?_⟩
    have t8 := same_new (o := .lst (ks.map V.int)) w8
    have g8 : upd G6 q8 (.lst (ks.map V.int)) q8 = some (.lst (ks.map V.int)) := upd_same
    generalize upd G6 q8 (.lst (ks.map V.int)) = G8 at t8 g8 ⊢
    have hc := t8 _ _ hc
    have hp := t8 _ _ hp
    have o2 := o2.kp (Kp.of_same t8)
    have o4 := o4.kp (Kp.of_same t8)
    have o7 := o7.kp (Kp.of_same t8)
    have ra := ra.same t8
    have S := S.trans t8
    refine ⟨_, rfl, (by show 2 ≤ sizeLine; decide), fun q9 w9 => ?_⟩
    have t9 := same_new (o := .tup [.ref q8, .ref p]) w9
    have g9 : upd G8 q9 (.tup [.ref q8, .ref p]) q9 = some (.tup [.ref q8, .ref p]) := upd_same
    generalize upd G8 q9 (.tup [.ref q8, .ref p]) = G9 at t9 g9 ⊢
    have hc := t9 _ _ hc
    have hp := t9 _ _ hp
    have g8 := t9 _ _ g8
    have o2 := o2.kp (Kp.of_same t9)
    have o4 := o4.kp (Kp.of_same t9)
    have o7 := o7.kp (Kp.of_same t9)
    have ra := ra.same t9
    have S := S.trans t9
    have o10 : ShwOdd G9 n (.ref q9) := .kept g9 (.inl (.inl (.lst g8)))
    refine ⟨(by show 4 ≤ sizeLine; decide), fun q11 w11 => ?_⟩
    have t11 := same_new (o := .lst [V.ref q1, .ref q3, .ref q6, .ref q9]) w11
    have g11 : upd G9 q11 (.lst [V.ref q1, .ref q3, .ref q6, .ref q9]) q11 = some (.lst [V.ref q1, .ref q3, .ref q6, .ref q9]) := upd_same
    generalize upd G9 q11 (.lst [V.ref q1, .ref q3, .ref q6, .ref q9]) = G11 at t11 g11 ⊢
    have hc := t11 _ _ hc
    have hp := t11 _ _ hp
    have o2 := o2.kp (Kp.of_same t11)
    have o4 := o4.kp (Kp.of_same t11)
    have o7 := o7.kp (Kp.of_same t11)
    have o10 := o10.kp (Kp.of_same t11)
    have ra := ra.same t11
    have S := S.trans t11
    refine ⟨_, rfl, _, rfl, _, rfl, p, _, rfl, .inr (SqT.of hp), fun q12 w12 => ?_⟩
    have t12 := same_new (o := .lst xs) w12
    have g12 : upd G11 q12 (.lst xs) q12 = some (.lst xs) := upd_same
    generalize upd G11 q12 (.lst xs) = G12 at t12 g12 ⊢
    have hc := t12 _ _ hc
    have hp := t12 _ _ hp
    have g11 := t12 _ _ g11
    have o2 := o2.kp (Kp.of_same t12)
    have o4 := o4.kp (Kp.of_same t12)
    have o7 := o7.kp (Kp.of_same t12)
    have o10 := o10.kp (Kp.of_same t12)
    have ra := ra.same t12
    have S := S.trans t12
    refine ⟨(by show 2 ≤ sizeLine; decide), fun q13 w13 => ?_⟩
    have t13 := same_new (o := .tup [.ref c, .ref q12]) w13
    have g13 : upd G12 q13 (.tup [.ref c, .ref q12]) q13 = some (.tup [.ref c, .ref q12]) := upd_same
    generalize upd G12 q13 (.tup [.ref c, .ref q12]) = G13 at t13 g13 ⊢
    have hc := t13 _ _ hc
    have hp := t13 _ _ hp
    have g11 := t13 _ _ g11
    have g12 := t13 _ _ g12
    have o2 := o2.kp (Kp.of_same t13)
    have o4 := o4.kp (Kp.of_same t13)
    have o7 := o7.kp (Kp.of_same t13)
    have o10 := o10.kp (Kp.of_same t13)
    have ra := ra.same t13
    have S := S.trans t13
    have o14 : ShwOdd G13 n (.ref q13) := .pap g13 hc lk2 rk (.nt (.lst g12))
    refine ⟨_, rfl, _, rfl, (by show 3 ≤ sizeLine; decide), fun q15 w15 => ?_⟩
    have t15 := same_new (o := .tup [.ref p, .ref c, .int 0]) w15
    have g15 : upd G13 q15 (.tup [.ref p, .ref c, .int 0]) q15 = some (.tup [.ref p, .ref c, .int 0]) := upd_same
    generalize upd G13 q15 (.tup [.ref p, .ref c, .int 0]) = G15 at t15 g15 ⊢
    have hc := t15 _ _ hc
    have hp := t15 _ _ hp
    have g11 := t15 _ _ g11
    have o2 := o2.kp (Kp.of_same t15)
    have o4 := o4.kp (Kp.of_same t15)
    have o7 := o7.kp (Kp.of_same t15)
    have o10 := o10.kp (Kp.of_same t15)
    have o14 := o14.kp (Kp.of_same t15)
    have ra := ra.same t15
    have S := S.trans t15
    have o16 : ShwOdd G15 n (.ref q15) := .len g15 (by simp)
    refine ⟨(by show 2 ≤ sizeLine; decide), fun q17 w17 => ?_⟩
    have t17 := same_new (o := .lst [V.ref q13, .ref q15]) w17
    have g17 : upd G15 q17 (.lst [V.ref q13, .ref q15]) q17 = some (.lst [V.ref q13, .ref q15]) := upd_same
    generalize upd G15 q17 (.lst [V.ref q13, .ref q15]) = G17 at t17 g17 ⊢
    have hc := t17 _ _ hc
    have hp := t17 _ _ hp
    have g11 := t17 _ _ g11
    have o2 := o2.kp (Kp.of_same t17)
    have o4 := o4.kp (Kp.of_same t17)
    have o7 := o7.kp (Kp.of_same t17)
    have o10 := o10.kp (Kp.of_same t17)
    have o14 := o14.kp (Kp.of_same t17)
    have o16 := o16.kp (Kp.of_same t17)
    have ra := ra.same t17
    have S := S.trans t17
    refine ⟨q11, q17, _, _, rfl, rfl, g11, g17, (by show 6 ≤ sizeLine; decide), fun q18 w18 => ?_⟩
    have t18 := same_new (o := .lst ([V.ref q1, .ref q3, .ref q6, .ref q9] ++ [V.ref q13, .ref q15])) w18
    have g18 : upd G17 q18 (.lst ([V.ref q1, .ref q3, .ref q6, .ref q9] ++ [V.ref q13, .ref q15])) q18 = some (.lst ([V.ref q1, .ref q3, .ref q6, .ref q9] ++ [V.ref q13, .ref q15])) := upd_same
    generalize upd G17 q18 (.lst ([V.ref q1, .ref q3, .ref q6, .ref q9] ++ [V.ref q13, .ref q15])) = G18 at t18 g18 ⊢
    have hc := t18 _ _ hc
    have hp := t18 _ _ hp
    have g11 := t18 _ _ g11
    have g17 := t18 _ _ g17
    have o2 := o2.kp (Kp.of_same t18)
    have o4 := o4.kp (Kp.of_same t18)
    have o7 := o7.kp (Kp.of_same t18)
    have o10 := o10.kp (Kp.of_same t18)
    have o14 := o14.kp (Kp.of_same t18)
    have o16 := o16.kp (Kp.of_same t18)
    have ra := ra.same t18
    have S := S.trans t18
    refine ⟨_, rfl, _, rfl, (by show 1 ≤ sizeLine; decide), fun q19 w19 => ?_⟩
    have t19 := same_new (o := .tup [.bl true]) w19
    have g19 : upd G18 q19 (.tup [.bl true]) q19 = some (.tup [.bl true]) := upd_same
    generalize upd G18 q19 (.tup [.bl true]) = G19 at t19 g19 ⊢
    have hc := t19 _ _ hc
    have hp := t19 _ _ hp
    have g18 := t19 _ _ g18
    have o2 := o2.kp (Kp.of_same t19)
    have o4 := o4.kp (Kp.of_same t19)
    have o7 := o7.kp (Kp.of_same t19)
    have o10 := o10.kp (Kp.of_same t19)
    have o14 := o14.kp (Kp.of_same t19)
    have o16 := o16.kp (Kp.of_same t19)
    have ra := ra.same t19
    have S := S.trans t19
    refine catA rfl rfl hc g19 (sz (by rw [List.length_map]; show ks.length + 1 ≤ 100000; omega)) fun q20 G20 t20 g20 => ?_
    have hc := t20 _ _ hc
    have hp := t20 _ _ hp
    have g18 := t20 _ _ g18
    have g19 := t20 _ _ g19
    have o2 := o2.kp (Kp.of_same t20)
    have o4 := o4.kp (Kp.of_same t20)
    have o7 := o7.kp (Kp.of_same t20)
    have o10 := o10.kp (Kp.of_same t20)
    have o14 := o14.kp (Kp.of_same t20)
    have o16 := o16.kp (Kp.of_same t20)
    have ra := ra.same t20
    have S := S.trans t20
    refine ⟨_, rfl, (by show 2 ≤ sizeLine; decide), fun q21 w21 => ?_⟩
    have t21 := same_new (o := .tup [.ref q20, .ref p]) w21
    have g21 : upd G20 q21 (.tup [.ref q20, .ref p]) q21 = some (.tup [.ref q20, .ref p]) := upd_same
    generalize upd G20 q21 (.tup [.ref q20, .ref p]) = G21 at t21 g21 ⊢
    have hc := t21 _ _ hc
    have hp := t21 _ _ hp
    have g18 := t21 _ _ g18
    have g19 := t21 _ _ g19
    have g20 := t21 _ _ g20
    have o2 := o2.kp (Kp.of_same t21)
    have o4 := o4.kp (Kp.of_same t21)
    have o7 := o7.kp (Kp.of_same t21)
    have o10 := o10.kp (Kp.of_same t21)
    have o14 := o14.kp (Kp.of_same t21)
    have o16 := o16.kp (Kp.of_same t21)
    have ra := ra.same t21
    have S := S.trans t21
    have o22 : ShwOdd G21 n (.ref q21) := .kept g21 (.inl (.inr ⟨_, _, rfl, g20, ks_all (.bl true), ks_bad rfl⟩))
    refine ⟨_, rfl, (by show 1 ≤ sizeLine; decide), fun q23 w23 => ?_⟩
    have t23 := same_new (o := .tup [.str "0"]) w23
    have g23 : upd G21 q23 (.tup [.str "0"]) q23 = some (.tup [.str "0"]) := upd_same
    generalize upd G21 q23 (.tup [.str "0"]) = G23 at t23 g23 ⊢
    have hc := t23 _ _ hc
    have hp := t23 _ _ hp
    have g18 := t23 _ _ g18
    have o2 := o2.kp (Kp.of_same t23)
    have o4 := o4.kp (Kp.of_same t23)
    have o7 := o7.kp (Kp.of_same t23)
    have o10 := o10.kp (Kp.of_same t23)
    have o14 := o14.kp (Kp.of_same t23)
    have o16 := o16.kp (Kp.of_same t23)
    have o22 := o22.kp (Kp.of_same t23)
    have ra := ra.same t23
    have S := S.trans t23
    refine catA rfl rfl hc g23 (sz (by rw [List.length_map]; show ks.length + 1 ≤ 100000; omega)) fun q24 G24 t24 g24 => ?_
    have hc := t24 _ _ hc
    have hp := t24 _ _ hp
    have g18 := t24 _ _ g18
    have g23 := t24 _ _ g23
    have o2 := o2.kp (Kp.of_same t24)
    have o4 := o4.kp (Kp.of_same t24)
    have o7 := o7.kp (Kp.of_same t24)
    have o10 := o10.kp (Kp.of_same t24)
    have o14 := o14.kp (Kp.of_same t24)
    have o16 := o16.kp (Kp.of_same t24)
    have o22 := o22.kp (Kp.of_same t24)
    have ra := ra.same t24
    have S := S.trans t24
    refine ⟨_, rfl, (by show 2 ≤ sizeLine; decide), fun q25 w25 => ?_⟩
    have t25 := same_new (o := .tup [.ref q24, .ref p]) w25
    have g25 : upd G24 q25 (.tup [.ref q24, .ref p]) q25 = some (.tup [.ref q24, .ref p]) := upd_same
    generalize upd G24 q25 (.tup [.ref q24, .ref p]) = G25 at t25 g25 ⊢
    have hc := t25 _ _ hc
    have hp := t25 _ _ hp
    have g18 := t25 _ _ g18
    have g23 := t25 _ _ g23
    have g24 := t25 _ _ g24
    have o2 := o2.kp (Kp.of_same t25)
    have o4 := o4.kp (Kp.of_same t25)
    have o7 := o7.kp (Kp.of_same t25)
    have o10 := o10.kp (Kp.of_same t25)
    have o14 := o14.kp (Kp.of_same t25)
    have o16 := o16.kp (Kp.of_same t25)
    have o22 := o22.kp (Kp.of_same t25)
    have ra := ra.same t25
    have S := S.trans t25
    have o26 : ShwOdd G25 n (.ref q25) := .kept g25 (.inl (.inr ⟨_, _, rfl, g24, ks_all (.str "0"), ks_bad rfl⟩))
    refine ⟨_, rfl, _, rfl, (by show 1 ≤ sizeLine; decide), fun q27 w27 => ?_⟩
    have t27 := same_new (o := .tup [.non]) w27
    have g27 : upd G25 q27 (.tup [.non]) q27 = some (.tup [.non]) := upd_same
    generalize upd G25 q27 (.tup [.non]) = G27 at t27 g27 ⊢
    have hc := t27 _ _ hc
    have hp := t27 _ _ hp
    have g18 := t27 _ _ g18
    have o2 := o2.kp (Kp.of_same t27)
    have o4 := o4.kp (Kp.of_same t27)
    have o7 := o7.kp (Kp.of_same t27)
    have o10 := o10.kp (Kp.of_same t27)
    have o14 := o14.kp (Kp.of_same t27)
    have o16 := o16.kp (Kp.of_same t27)
    have o22 := o22.kp (Kp.of_same t27)
    have o26 := o26.kp (Kp.of_same t27)
    have ra := ra.same t27
    have S := S.trans t27
    refine catA rfl rfl hp g27 (sz (by show xs.length + 1 ≤ 100000; omega)) fun q28 G28 t28 g28 => ?_
    have hc := t28 _ _ hc
    have hp := t28 _ _ hp
    have g18 := t28 _ _ g18
    have g27 := t28 _ _ g27
    have o2 := o2.kp (Kp.of_same t28)
    have o4 := o4.kp (Kp.of_same t28)
    have o7 := o7.kp (Kp.of_same t28)
    have o10 := o10.kp (Kp.of_same t28)
    have o14 := o14.kp (Kp.of_same t28)
    have o16 := o16.kp (Kp.of_same t28)
    have o22 := o22.kp (Kp.of_same t28)
    have o26 := o26.kp (Kp.of_same t28)
    have ra := ra.same t28
    have S := S.trans t28
    refine ⟨(by show 2 ≤ sizeLine; decide), fun q29 w29 => ?_⟩
    have t29 := same_new (o := .tup [.ref c, .ref q28]) w29
    have g29 : upd G28 q29 (.tup [.ref c, .ref q28]) q29 = some (.tup [.ref c, .ref q28]) := upd_same
    generalize upd G28 q29 (.tup [.ref c, .ref q28]) = G29 at t29 g29 ⊢
    have hc := t29 _ _ hc
    have hp := t29 _ _ hp
    have g18 := t29 _ _ g18
    have g27 := t29 _ _ g27
    have g28 := t29 _ _ g28
    have o2 := o2.kp (Kp.of_same t29)
    have o4 := o4.kp (Kp.of_same t29)
    have o7 := o7.kp (Kp.of_same t29)
    have o10 := o10.kp (Kp.of_same t29)
    have o14 := o14.kp (Kp.of_same t29)
    have o16 := o16.kp (Kp.of_same t29)
    have o22 := o22.kp (Kp.of_same t29)
    have o26 := o26.kp (Kp.of_same t29)
    have ra := ra.same t29
    have S := S.trans t29
    have o30 : ShwOdd G29 n (.ref q29) := .pap g29 hc lk2 rk (.len g28 (by rw [List.length_append, List.length_singleton]; omega))
    refine ⟨_, rfl, (by show 2 ≤ sizeLine; decide), fun q31 w31 => ?_⟩
    have t31 := same_new (o := .tup [.ref c, .non]) w31
    have g31 : upd G29 q31 (.tup [.ref c, .non]) q31 = some (.tup [.ref c, .non]) := upd_same
    generalize upd G29 q31 (.tup [.ref c, .non]) = G31 at t31 g31 ⊢
    have hc := t31 _ _ hc
    have hp := t31 _ _ hp
    have g18 := t31 _ _ g18
    have o2 := o2.kp (Kp.of_same t31)
    have o4 := o4.kp (Kp.of_same t31)
    have o7 := o7.kp (Kp.of_same t31)
    have o10 := o10.kp (Kp.of_same t31)
    have o14 := o14.kp (Kp.of_same t31)
    have o16 := o16.kp (Kp.of_same t31)
    have o22 := o22.kp (Kp.of_same t31)
    have o26 := o26.kp (Kp.of_same t31)
    have o30 := o30.kp (Kp.of_same t31)
    have ra := ra.same t31
    have S := S.trans t31
    have o32 : ShwOdd G31 n (.ref q31) := .pap g31 hc lk2 rk (.nt .non)
    refine ⟨(by show 4 ≤ sizeLine; decide), fun q33 w33 => ?_⟩
    have t33 := same_new (o := .lst [V.ref q21, .ref q25, .ref q29, .ref q31]) w33
    have g33 : upd G31 q33 (.lst [V.ref q21, .ref q25, .ref q29, .ref q31]) q33 = some (.lst [V.ref q21, .ref q25, .ref q29, .ref q31]) := upd_same
    generalize upd G31 q33 (.lst [V.ref q21, .ref q25, .ref q29, .ref q31]) = G33 at t33 g33 ⊢
    have hc := t33 _ _ hc
    have hp := t33 _ _ hp
    have g18 := t33 _ _ g18
    have o2 := o2.kp (Kp.of_same t33)
    have o4 := o4.kp (Kp.of_same t33)
    have o7 := o7.kp (Kp.of_same t33)
    have o10 := o10.kp (Kp.of_same t33)
    have o14 := o14.kp (Kp.of_same t33)
    have o16 := o16.kp (Kp.of_same t33)
    have o22 := o22.kp (Kp.of_same t33)
    have o26 := o26.kp (Kp.of_same t33)
    have o30 := o30.kp (Kp.of_same t33)
    have o32 := o32.kp (Kp.of_same t33)
    have ra := ra.same t33
    have S := S.trans t33
    refine ⟨q18, q33, _, _, rfl, rfl, g18, g33, (by show 10 ≤ sizeLine; decide), fun q34 w34 => ?_⟩
    have t34 := same_new (o := .lst (([V.ref q1, .ref q3, .ref q6, .ref q9] ++ [V.ref q13, .ref q15]) ++ [V.ref q21, .ref q25, .ref q29, .ref q31])) w34
    have g34 : upd G33 q34 (.lst (([V.ref q1, .ref q3, .ref q6, .ref q9] ++ [V.ref q13, .ref q15]) ++ [V.ref q21, .ref q25, .ref q29, .ref q31])) q34 = some (.lst (([V.ref q1, .ref q3, .ref q6, .ref q9] ++ [V.ref q13, .ref q15]) ++ [V.ref q21, .ref q25, .ref q29, .ref q31])) := upd_same
    generalize upd G33 q34 (.lst (([V.ref q1, .ref q3, .ref q6, .ref q9] ++ [V.ref q13, .ref q15]) ++ [V.ref q21, .ref q25, .ref q29, .ref q31])) = G34 at t34 g34 ⊢
    have hc := t34 _ _ hc
    have hp := t34 _ _ hp
    have g18 := t34 _ _ g18
    have g33 := t34 _ _ g33
    have o2 := o2.kp (Kp.of_same t34)
    have o4 := o4.kp (Kp.of_same t34)
    have o7 := o7.kp (Kp.of_same t34)
    have o10 := o10.kp (Kp.of_same t34)
    have o14 := o14.kp (Kp.of_same t34)
    have o16 := o16.kp (Kp.of_same t34)
    have o22 := o22.kp (Kp.of_same t34)
    have o26 := o26.kp (Kp.of_same t34)
    have o30 := o30.kp (Kp.of_same t34)
    have o32 := o32.kp (Kp.of_same t34)
    have ra := ra.same t34
    have S := S.trans t34
    refine ⟨_, rfl, _, rfl, _, rfl, (by show 1 ≤ sizeLine; decide), fun q35 w35 => ?_⟩
    have t35 := same_new (o := .tup [.int 0]) w35
    have g35 : upd G34 q35 (.tup [.int 0]) q35 = some (.tup [.int 0]) := upd_same
    generalize upd G34 q35 (.tup [.int 0]) = G35 at t35 g35 ⊢
    have hc := t35 _ _ hc
    have hp := t35 _ _ hp
    have g34 := t35 _ _ g34
    have o2 := o2.kp (Kp.of_same t35)
    have o4 := o4.kp (Kp.of_same t35)
    have o7 := o7.kp (Kp.of_same t35)
    have o10 := o10.kp (Kp.of_same t35)
    have o14 := o14.kp (Kp.of_same t35)
    have o16 := o16.kp (Kp.of_same t35)
    have o22 := o22.kp (Kp.of_same t35)
    have o26 := o26.kp (Kp.of_same t35)
    have o30 := o30.kp (Kp.of_same t35)
    have o32 := o32.kp (Kp.of_same t35)
    have ra := ra.same t35
    have S := S.trans t35
    refine ⟨(by show 1 ≤ sizeLine; decide), fun q36 w36 => ?_⟩
    have t36 := same_new (o := .tup [.ref q35]) w36
    have g36 : upd G35 q36 (.tup [.ref q35]) q36 = some (.tup [.ref q35]) := upd_same
    generalize upd G35 q36 (.tup [.ref q35]) = G36 at t36 g36 ⊢
    have hc := t36 _ _ hc
    have hp := t36 _ _ hp
    have g34 := t36 _ _ g34
    have g35 := t36 _ _ g35
    have o2 := o2.kp (Kp.of_same t36)
    have o4 := o4.kp (Kp.of_same t36)
    have o7 := o7.kp (Kp.of_same t36)
    have o10 := o10.kp (Kp.of_same t36)
    have o14 := o14.kp (Kp.of_same t36)
    have o16 := o16.kp (Kp.of_same t36)
    have o22 := o22.kp (Kp.of_same t36)
    have o26 := o26.kp (Kp.of_same t36)
    have o30 := o30.kp (Kp.of_same t36)
    have o32 := o32.kp (Kp.of_same t36)
    have ra := ra.same t36
    have S := S.trans t36
    refine catA rfl rfl hp g36 (sz (by show xs.length + 1 ≤ 100000; omega)) fun q37 G37 t37 g37 => ?_
    have hc := t37 _ _ hc
    have hp := t37 _ _ hp
    have g34 := t37 _ _ g34
    have g35 := t37 _ _ g35
    have g36 := t37 _ _ g36
    have o2 := o2.kp (Kp.of_same t37)
    have o4 := o4.kp (Kp.of_same t37)
    have o7 := o7.kp (Kp.of_same t37)
    have o10 := o10.kp (Kp.of_same t37)
    have o14 := o14.kp (Kp.of_same t37)
    have o16 := o16.kp (Kp.of_same t37)
    have o22 := o22.kp (Kp.of_same t37)
    have o26 := o26.kp (Kp.of_same t37)
    have o30 := o30.kp (Kp.of_same t37)
    have o32 := o32.kp (Kp.of_same t37)
    have ra := ra.same t37
    have S := S.trans t37
    refine ⟨(by show 2 ≤ sizeLine; decide), fun q38 w38 => ?_⟩
    have t38 := same_new (o := .tup [.ref c, .ref q37]) w38
    have g38 : upd G37 q38 (.tup [.ref c, .ref q37]) q38 = some (.tup [.ref c, .ref q37]) := upd_same
    generalize upd G37 q38 (.tup [.ref c, .ref q37]) = G38 at t38 g38 ⊢
    have hc := t38 _ _ hc
    have hp := t38 _ _ hp
    have g34 := t38 _ _ g34
    have g35 := t38 _ _ g35
    have g36 := t38 _ _ g36
    have g37 := t38 _ _ g37
    have o2 := o2.kp (Kp.of_same t38)
    have o4 := o4.kp (Kp.of_same t38)
    have o7 := o7.kp (Kp.of_same t38)
    have o10 := o10.kp (Kp.of_same t38)
    have o14 := o14.kp (Kp.of_same t38)
    have o16 := o16.kp (Kp.of_same t38)
    have o22 := o22.kp (Kp.of_same t38)
    have o26 := o26.kp (Kp.of_same t38)
    have o30 := o30.kp (Kp.of_same t38)
    have o32 := o32.kp (Kp.of_same t38)
    have ra := ra.same t38
    have S := S.trans t38
    have o39 : ShwOdd G38 n (.ref q38) := .pap g38 hc lk2 rk (.len g37 (by rw [List.length_append, List.length_singleton]; omega))
    refine ⟨_, rfl, _, _, rfl, rfl, ⟨by decide, by decide, by decide⟩, (by show 1 ≤ sizeLine; decide), fun q40 w40 => ?_⟩
    have t40 := same_new (o := .tup [.int (10 ^ (9 : Int).toNat)]) w40
    have g40 : upd G38 q40 (.tup [.int (10 ^ (9 : Int).toNat)]) q40 = some (.tup [.int (10 ^ (9 : Int).toNat)]) := upd_same
    generalize upd G38 q40 (.tup [.int (10 ^ (9 : Int).toNat)]) = G40 at t40 g40 ⊢
    have hc := t40 _ _ hc
    have hp := t40 _ _ hp
    have g34 := t40 _ _ g34
    have o2 := o2.kp (Kp.of_same t40)
    have o4 := o4.kp (Kp.of_same t40)
    have o7 := o7.kp (Kp.of_same t40)
    have o10 := o10.kp (Kp.of_same t40)
    have o14 := o14.kp (Kp.of_same t40)
    have o16 := o16.kp (Kp.of_same t40)
    have o22 := o22.kp (Kp.of_same t40)
    have o26 := o26.kp (Kp.of_same t40)
    have o30 := o30.kp (Kp.of_same t40)
    have o32 := o32.kp (Kp.of_same t40)
    have o39 := o39.kp (Kp.of_same t40)
    have ra := ra.same t40
    have S := S.trans t40
    refine catA rfl rfl hc g40 (sz (by rw [List.length_map]; show ks.length + 1 ≤ 100000; omega)) fun q41 G41 t41 g41 => ?_
    have hc := t41 _ _ hc
    have hp := t41 _ _ hp
    have g34 := t41 _ _ g34
    have g40 := t41 _ _ g40
    have o2 := o2.kp (Kp.of_same t41)
    have o4 := o4.kp (Kp.of_same t41)
    have o7 := o7.kp (Kp.of_same t41)
    have o10 := o10.kp (Kp.of_same t41)
    have o14 := o14.kp (Kp.of_same t41)
    have o16 := o16.kp (Kp.of_same t41)
    have o22 := o22.kp (Kp.of_same t41)
    have o26 := o26.kp (Kp.of_same t41)
    have o30 := o30.kp (Kp.of_same t41)
    have o32 := o32.kp (Kp.of_same t41)
    have o39 := o39.kp (Kp.of_same t41)
    have ra := ra.same t41
    have S := S.trans t41
    refine ⟨_, rfl, (by show 2 ≤ sizeLine; decide), fun q42 w42 => ?_⟩
    have t42 := same_new (o := .tup [.ref q41, .ref p]) w42
    have g42 : upd G41 q42 (.tup [.ref q41, .ref p]) q42 = some (.tup [.ref q41, .ref p]) := upd_same
    generalize upd G41 q42 (.tup [.ref q41, .ref p]) = G42 at t42 g42 ⊢
    have hc := t42 _ _ hc
    have hp := t42 _ _ hp
    have g34 := t42 _ _ g34
    have g40 := t42 _ _ g40
    have g41 := t42 _ _ g41
    have o2 := o2.kp (Kp.of_same t42)
    have o4 := o4.kp (Kp.of_same t42)
    have o7 := o7.kp (Kp.of_same t42)
    have o10 := o10.kp (Kp.of_same t42)
    have o14 := o14.kp (Kp.of_same t42)
    have o16 := o16.kp (Kp.of_same t42)
    have o22 := o22.kp (Kp.of_same t42)
    have o26 := o26.kp (Kp.of_same t42)
    have o30 := o30.kp (Kp.of_same t42)
    have o32 := o32.kp (Kp.of_same t42)
    have o39 := o39.kp (Kp.of_same t42)
    have ra := ra.same t42
    have S := S.trans t42
    have o43 : ShwOdd G42 n (.ref q42) := .kept g42 (.inr ⟨_, ks ++ [10 ^ (9 : Int).toNat], rfl, by rw [g41, List.map_append]; rfl, by rw [List.length_append, List.length_singleton]; omega, fun z => by have y := (z.2 _ (List.mem_append_right _ List.mem_cons_self)).2; have e : (10 : Int) ^ (9 : Int).toNat = 1000000000 := (by decide); rw [e] at y; omega⟩)
    refine ⟨_, rfl, (by show 1 ≤ sizeLine; decide), fun q44 w44 => ?_⟩
    have t44 := same_new (o := .tup [.int (-1)]) w44
    have g44 : upd G42 q44 (.tup [.int (-1)]) q44 = some (.tup [.int (-1)]) := upd_same
    generalize upd G42 q44 (.tup [.int (-1)]) = G44 at t44 g44 ⊢
    have hc := t44 _ _ hc
    have hp := t44 _ _ hp
    have g34 := t44 _ _ g34
    have o2 := o2.kp (Kp.of_same t44)
    have o4 := o4.kp (Kp.of_same t44)
    have o7 := o7.kp (Kp.of_same t44)
    have o10 := o10.kp (Kp.of_same t44)
    have o14 := o14.kp (Kp.of_same t44)
    have o16 := o16.kp (Kp.of_same t44)
    have o22 := o22.kp (Kp.of_same t44)
    have o26 := o26.kp (Kp.of_same t44)
    have o30 := o30.kp (Kp.of_same t44)
    have o32 := o32.kp (Kp.of_same t44)
    have o39 := o39.kp (Kp.of_same t44)
    have o43 := o43.kp (Kp.of_same t44)
    have ra := ra.same t44
    have S := S.trans t44
    refine ⟨_, rfl, ?_⟩
    refine catA rfl rfl g44 hc (sz (by rw [List.length_map]; show 1 + ks.length ≤ 100000; omega)) fun q45 G45 t45 g45 => ?_
    have hc := t45 _ _ hc
    have hp := t45 _ _ hp
    have g34 := t45 _ _ g34
    have g44 := t45 _ _ g44
    have o2 := o2.kp (Kp.of_same t45)
    have o4 := o4.kp (Kp.of_same t45)
    have o7 := o7.kp (Kp.of_same t45)
    have o10 := o10.kp (Kp.of_same t45)
    have o14 := o14.kp (Kp.of_same t45)
    have o16 := o16.kp (Kp.of_same t45)
    have o22 := o22.kp (Kp.of_same t45)
    have o26 := o26.kp (Kp.of_same t45)
    have o30 := o30.kp (Kp.of_same t45)
    have o32 := o32.kp (Kp.of_same t45)
    have o39 := o39.kp (Kp.of_same t45)
    have o43 := o43.kp (Kp.of_same t45)
    have ra := ra.same t45
    have S := S.trans t45
    refine ⟨_, rfl, (by show 2 ≤ sizeLine; decide), fun q46 w46 => ?_⟩
    have t46 := same_new (o := .tup [.ref q45, .ref p]) w46
    have g46 : upd G45 q46 (.tup [.ref q45, .ref p]) q46 = some (.tup [.ref q45, .ref p]) := upd_same
    generalize upd G45 q46 (.tup [.ref q45, .ref p]) = G46 at t46 g46 ⊢
    have hc := t46 _ _ hc
    have hp := t46 _ _ hp
    have g34 := t46 _ _ g34
    have g44 := t46 _ _ g44
    have g45 := t46 _ _ g45
    have o2 := o2.kp (Kp.of_same t46)
    have o4 := o4.kp (Kp.of_same t46)
    have o7 := o7.kp (Kp.of_same t46)
    have o10 := o10.kp (Kp.of_same t46)
    have o14 := o14.kp (Kp.of_same t46)
    have o16 := o16.kp (Kp.of_same t46)
    have o22 := o22.kp (Kp.of_same t46)
    have o26 := o26.kp (Kp.of_same t46)
    have o30 := o30.kp (Kp.of_same t46)
    have o32 := o32.kp (Kp.of_same t46)
    have o39 := o39.kp (Kp.of_same t46)
    have o43 := o43.kp (Kp.of_same t46)
    have ra := ra.same t46
    have S := S.trans t46
    have o47 : ShwOdd G46 n (.ref q46) := .kept g46 (.inr ⟨_, (-1) :: ks, rfl, g45, by rw [List.length_cons]; omega, fun z => by have y := (z.2 _ List.mem_cons_self).1; omega⟩)
    refine ⟨_, rfl, (by show 2 ≤ sizeLine; decide), fun q48 w48 => ?_⟩
    have t48 := same_new (o := .tup [.non, .ref p]) w48
    have g48 : upd G46 q48 (.tup [.non, .ref p]) q48 = some (.tup [.non, .ref p]) := upd_same
    generalize upd G46 q48 (.tup [.non, .ref p]) = G48 at t48 g48 ⊢
    have hc := t48 _ _ hc
    have hp := t48 _ _ hp
    have g34 := t48 _ _ g34
    have o2 := o2.kp (Kp.of_same t48)
    have o4 := o4.kp (Kp.of_same t48)
    have o7 := o7.kp (Kp.of_same t48)
    have o10 := o10.kp (Kp.of_same t48)
    have o14 := o14.kp (Kp.of_same t48)
    have o16 := o16.kp (Kp.of_same t48)
    have o22 := o22.kp (Kp.of_same t48)
    have o26 := o26.kp (Kp.of_same t48)
    have o30 := o30.kp (Kp.of_same t48)
    have o32 := o32.kp (Kp.of_same t48)
    have o39 := o39.kp (Kp.of_same t48)
    have o43 := o43.kp (Kp.of_same t48)
    have o47 := o47.kp (Kp.of_same t48)
    have ra := ra.same t48
    have S := S.trans t48
    have o49 : ShwOdd G48 n (.ref q48) := .kept g48 (.inl (.inl .non))
    refine ⟨(by show 4 ≤ sizeLine; decide), fun q50 w50 => ?_⟩
    have t50 := same_new (o := .lst [V.ref q38, .ref q42, .ref q46, .ref q48]) w50
    have g50 : upd G48 q50 (.lst [V.ref q38, .ref q42, .ref q46, .ref q48]) q50 = some (.lst [V.ref q38, .ref q42, .ref q46, .ref q48]) := upd_same
    generalize upd G48 q50 (.lst [V.ref q38, .ref q42, .ref q46, .ref q48]) = G50 at t50 g50 ⊢
    have hc := t50 _ _ hc
    have hp := t50 _ _ hp
    have g34 := t50 _ _ g34
    have o2 := o2.kp (Kp.of_same t50)
    have o4 := o4.kp (Kp.of_same t50)
    have o7 := o7.kp (Kp.of_same t50)
    have o10 := o10.kp (Kp.of_same t50)
    have o14 := o14.kp (Kp.of_same t50)
    have o16 := o16.kp (Kp.of_same t50)
    have o22 := o22.kp (Kp.of_same t50)
    have o26 := o26.kp (Kp.of_same t50)
    have o30 := o30.kp (Kp.of_same t50)
    have o32 := o32.kp (Kp.of_same t50)
    have o39 := o39.kp (Kp.of_same t50)
    have o43 := o43.kp (Kp.of_same t50)
    have o47 := o47.kp (Kp.of_same t50)
    have o49 := o49.kp (Kp.of_same t50)
    have ra := ra.same t50
    have S := S.trans t50
    refine ⟨q34, q50, _, _, rfl, rfl, g34, g50, (by show 14 ≤ sizeLine; decide), fun q51 w51 => ?_⟩
    have t51 := same_new (o := .lst ((([V.ref q1, .ref q3, .ref q6, .ref q9] ++ [V.ref q13, .ref q15]) ++ [V.ref q21, .ref q25, .ref q29, .ref q31]) ++ [V.ref q38, .ref q42, .ref q46, .ref q48])) w51
    have g51 : upd G50 q51 (.lst ((([V.ref q1, .ref q3, .ref q6, .ref q9] ++ [V.ref q13, .ref q15]) ++ [V.ref q21, .ref q25, .ref q29, .ref q31]) ++ [V.ref q38, .ref q42, .ref q46, .ref q48])) q51 = some (.lst ((([V.ref q1, .ref q3, .ref q6, .ref q9] ++ [V.ref q13, .ref q15]) ++ [V.ref q21, .ref q25, .ref q29, .ref q31]) ++ [V.ref q38, .ref q42, .ref q46, .ref q48])) := upd_same
    generalize upd G50 q51 (.lst ((([V.ref q1, .ref q3, .ref q6, .ref q9] ++ [V.ref q13, .ref q15]) ++ [V.ref q21, .ref q25, .ref q29, .ref q31]) ++ [V.ref q38, .ref q42, .ref q46, .ref q48])) = G51 at t51 g51 ⊢
    have hc := t51 _ _ hc
    have hp := t51 _ _ hp
    have g34 := t51 _ _ g34
    have g50 := t51 _ _ g50
    have o2 := o2.kp (Kp.of_same t51)
    have o4 := o4.kp (Kp.of_same t51)
    have o7 := o7.kp (Kp.of_same t51)
    have o10 := o10.kp (Kp.of_same t51)
    have o14 := o14.kp (Kp.of_same t51)
    have o16 := o16.kp (Kp.of_same t51)
    have o22 := o22.kp (Kp.of_same t51)
    have o26 := o26.kp (Kp.of_same t51)
    have o30 := o30.kp (Kp.of_same t51)
    have o32 := o32.kp (Kp.of_same t51)
    have o39 := o39.kp (Kp.of_same t51)
    have o43 := o43.kp (Kp.of_same t51)
    have o47 := o47.kp (Kp.of_same t51)
    have o49 := o49.kp (Kp.of_same t51)
    have ra := ra.same t51
    have S := S.trans t51
    have al : ∀ z ∈ ((([V.ref q1, .ref q3, .ref q6, .ref q9] ++ [V.ref q13, .ref q15]) ++ [V.ref q21, .ref q25, .ref q29, .ref q31]) ++ [V.ref q38, .ref q42, .ref q46, .ref q48]), ShwOdd G51 n z := fun z mz => by
      simp only [List.cons_append, List.nil_append, List.mem_cons, List.not_mem_nil, or_false] at mz
      rcases mz with rfl | rfl | rfl | rfl | rfl | rfl | rfl | rfl | rfl | rfl | rfl | rfl | rfl | rfl <;> assumption
    have lc : ((([V.ref q1, .ref q3, .ref q6, .ref q9] ++ [V.ref q13, .ref q15]) ++ [V.ref q21, .ref q25, .ref q29, .ref q31]) ++ [V.ref q38, .ref q42, .ref q46, .ref q48]).length = 14 := rfl
    generalize ((([V.ref q1, .ref q3, .ref q6, .ref q9] ++ [V.ref q13, .ref q15]) ++ [V.ref q21, .ref q25, .ref q29, .ref q31]) ++ [V.ref q38, .ref q42, .ref q46, .ref q48]) = zs at g51 al lc
    clear o2 o4 o7 o10 o14 o16 o22 o26 o30 o32 o39 o43 o47 o49
    -- the last row
    refine ⟨_, rfl, Nat.zero_le _, fun q52 w52 => ?_⟩
    have t52 := same_new (o := .tup []) w52
    have g52 : upd G51 q52 (.tup []) q52 = some (.tup []) := upd_same
    generalize upd G51 q52 (.tup []) = G52 at t52 g52 ⊢
    have hc := t52 _ _ hc
    have hp := t52 _ _ hp
    have g51 := t52 _ _ g51
    have ra := ra.same t52
    have S := S.trans t52
    have al : ∀ z ∈ zs, ShwOdd G52 n z := fun z mz => (al z mz).kp (Kp.of_same t52)
    refine ⟨q52, rfl, g52, .inl ⟨p, xs, rfl, hp, _, rfl, ?_⟩⟩
    refine ite2 (fun ne => ?_) (fun e => ?_)
    case refine_2 => exact ⟨_, rfl, q q51 _ _ S g51 (by omega) al⟩
    obtain ⟨m, hm⟩ : ∃ m, xs.length = m + 1 := by
      cases xs with
      | nil => cases ne
      | cons x l => exact ⟨l.length, rfl⟩
    obtain ⟨v0, hv⟩ : ∃ v, xs[m]? = some v := ⟨_, List.getElem?_eq_getElem (by omega)⟩
    obtain ⟨e, t, r, rfl, hr', he, ht⟩ := ra.at hv
    have mr := List.mem_of_getElem? hr'
    obtain ⟨r0, r1, rl, _⟩ := rok r mr
    have ex : xs.take m ++ [V.ref e] = xs := by
      rw [← take_at hv, List.take_of_length_le (by omega)]
    have hlast : atI xs (-1) = some (.ref e) := by
      rw [← ex]
      exact atI_last _ _
    have ec : cutV xs none (some (-1)) = xs.take m := by
      have z := cut_init (xs.take m) (V.ref e)
      rw [ex] at z
      exact z
    have ra := ra.take m
    have rok3 : ∀ r ∈ rs.take m, r.2.length ≤ 1000 ∧ ∀ k ∈ r.2, 0 ≤ k ∧ k < (n : Int) := fun r mr => rok2 r (List.mem_of_mem_take mr)
    have S2 : Same G52 G52 := same_refl
    refine ⟨_, rfl, _, rfl, p, _, _, _, rfl, rfl, SqT.of hp, hlast, e, _, rfl, SqT.of he, rfl, _, _, rfl, _, _, rfl, rfl, ?_⟩
    refine ⟨_, rfl, _, rfl, t, _, rfl, .inr (SqT.of ht), fun q53 w53 => ?_⟩
    have t53 := same_new (o := .lst (r.2.map V.int)) w53
    have g53 : upd G52 q53 (.lst (r.2.map V.int)) q53 = some (.lst (r.2.map V.int)) := upd_same
    generalize upd G52 q53 (.lst (r.2.map V.int)) = G53 at t53 g53 ⊢
    have hc := t53 _ _ hc
    have hp := t53 _ _ hp
    have g51 := t53 _ _ g51
    have he := t53 _ _ he
    have ht := t53 _ _ ht
    have ra := ra.same t53
    have S := S.trans t53
    have S2 := S2.trans t53
    refine ⟨(by show 2 ≤ sizeLine; decide), fun q54 w54 => ?_⟩
    have t54 := same_new (o := .tup [.int r.1, .ref q53]) w54
    have g54 : upd G53 q54 (.tup [.int r.1, .ref q53]) q54 = some (.tup [.int r.1, .ref q53]) := upd_same
    generalize upd G53 q54 (.tup [.int r.1, .ref q53]) = G54 at t54 g54 ⊢
    have hc := t54 _ _ hc
    have hp := t54 _ _ hp
    have g51 := t54 _ _ g51
    have he := t54 _ _ he
    have ht := t54 _ _ ht
    have g53 := t54 _ _ g53
    have ra := ra.same t54
    have S := S.trans t54
    have S2 := S2.trans t54
    have o55 : EntOdd G54 n (.ref q54) := .way g54 (.inl (.inl (.lst g53)))
    refine ⟨_, rfl, _, rfl, (by show 2 ≤ sizeLine; decide), fun q56 w56 => ?_⟩
    have t56 := same_new (o := .lst [.int r.1, .ref t]) w56
    have g56 : upd G54 q56 (.lst [.int r.1, .ref t]) q56 = some (.lst [.int r.1, .ref t]) := upd_same
    generalize upd G54 q56 (.lst [.int r.1, .ref t]) = G56 at t56 g56 ⊢
    have hc := t56 _ _ hc
    have hp := t56 _ _ hp
    have g51 := t56 _ _ g51
    have he := t56 _ _ he
    have ht := t56 _ _ ht
    have o55 := o55.kp (Kp.of_same t56)
    have ra := ra.same t56
    have S := S.trans t56
    have S2 := S2.trans t56
    have o57 : EntOdd G56 n (.ref q56) := .nt (.lst g56)
    refine ⟨_, rfl, _, rfl, Nat.zero_le _, fun q58 w58 => ?_⟩
    have t58 := same_new (o := .tup []) w58
    have g58 : upd G56 q58 (.tup []) q58 = some (.tup []) := upd_same
    generalize upd G56 q58 (.tup []) = G58 at t58 g58 ⊢
    have hc := t58 _ _ hc
    have hp := t58 _ _ hp
    have g51 := t58 _ _ g51
    have he := t58 _ _ he
    have ht := t58 _ _ ht
    have o55 := o55.kp (Kp.of_same t58)
    have o57 := o57.kp (Kp.of_same t58)
    have ra := ra.same t58
    have S := S.trans t58
    have S2 := S2.trans t58
    refine ⟨(by show 3 ≤ sizeLine; decide), fun q59 w59 => ?_⟩
    have t59 := same_new (o := .tup [.int r.1, .ref t, .ref q58]) w59
    have g59 : upd G58 q59 (.tup [.int r.1, .ref t, .ref q58]) q59 = some (.tup [.int r.1, .ref t, .ref q58]) := upd_same
    generalize upd G58 q59 (.tup [.int r.1, .ref t, .ref q58]) = G59 at t59 g59 ⊢
    have hc := t59 _ _ hc
    have hp := t59 _ _ hp
    have g51 := t59 _ _ g51
    have he := t59 _ _ he
    have ht := t59 _ _ ht
    have g58 := t59 _ _ g58
    have o55 := o55.kp (Kp.of_same t59)
    have o57 := o57.kp (Kp.of_same t59)
    have ra := ra.same t59
    have S := S.trans t59
    have S2 := S2.trans t59
    have o60 : EntOdd G59 n (.ref q59) := .len g59 (by simp)
    refine ⟨_, rfl, _, rfl, log_ok (by omega) (by omega), _, rfl, (by show 2 ≤ sizeLine; decide), fun q61 w61 => ?_⟩
    have t61 := same_new (o := .tup [.str (Str.ofString (toString r.1)), .ref t]) w61
    have g61 : upd G59 q61 (.tup [.str (Str.ofString (toString r.1)), .ref t]) q61 = some (.tup [.str (Str.ofString (toString r.1)), .ref t]) := upd_same
    generalize upd G59 q61 (.tup [.str (Str.ofString (toString r.1)), .ref t]) = G61 at t61 g61 ⊢
    have hc := t61 _ _ hc
    have hp := t61 _ _ hp
    have g51 := t61 _ _ g51
    have he := t61 _ _ he
    have ht := t61 _ _ ht
    have o55 := o55.kp (Kp.of_same t61)
    have o57 := o57.kp (Kp.of_same t61)
    have o60 := o60.kp (Kp.of_same t61)
    have ra := ra.same t61
    have S := S.trans t61
    have S2 := S2.trans t61
    have o62 : EntOdd G61 n (.ref q61) := .own g61 (.str _) rfl
    refine ⟨(by show 4 ≤ sizeLine; decide), fun q63 w63 => ?_⟩
    have t63 := same_new (o := .lst [V.ref q54, .ref q56, .ref q59, .ref q61]) w63
    have g63 : upd G61 q63 (.lst [V.ref q54, .ref q56, .ref q59, .ref q61]) q63 = some (.lst [V.ref q54, .ref q56, .ref q59, .ref q61]) := upd_same
    generalize upd G61 q63 (.lst [V.ref q54, .ref q56, .ref q59, .ref q61]) = G63 at t63 g63 ⊢
    have hc := t63 _ _ hc
    have hp := t63 _ _ hp
    have g51 := t63 _ _ g51
    have he := t63 _ _ he
    have ht := t63 _ _ ht
    have o55 := o55.kp (Kp.of_same t63)
    have o57 := o57.kp (Kp.of_same t63)
    have o60 := o60.kp (Kp.of_same t63)
    have o62 := o62.kp (Kp.of_same t63)
    have ra := ra.same t63
    have S := S.trans t63
    have S2 := S2.trans t63
    refine ⟨_, rfl, _, rfl, (by show 3 ≤ sizeLine; decide), fun q64 w64 => ?_⟩
    have t64 := same_new (o := .tup [.non, .bl true, .int (-1)]) w64
    have g64 : upd G63 q64 (.tup [.non, .bl true, .int (-1)]) q64 = some (.tup [.non, .bl true, .int (-1)]) := upd_same
    generalize upd G63 q64 (.tup [.non, .bl true, .int (-1)]) = G64 at t64 g64 ⊢
    have hc := t64 _ _ hc
    have hp := t64 _ _ hp
    have g51 := t64 _ _ g51
    have he := t64 _ _ he
    have ht := t64 _ _ ht
    have g63 := t64 _ _ g63
    have o55 := o55.kp (Kp.of_same t64)
    have o57 := o57.kp (Kp.of_same t64)
    have o60 := o60.kp (Kp.of_same t64)
    have o62 := o62.kp (Kp.of_same t64)
    have ra := ra.same t64
    have S := S.trans t64
    have S2 := S2.trans t64
    refine ⟨q64, rfl, ⟨_, SqT.of g64⟩, fun D nD => ?_⟩
    refine lc_tup (xs := [V.non, .bl true, .int (-1)]) (fun i H3 => Same G64 H3 ∧ ∃ ws : List V, H3 D = some (.lst ws) ∧ ws.length = i ∧ ∀ v ∈ ws, BadW H3 r.1 r.2 v) ⟨same_new nD, [], upd_same, rfl, fun v z => nomatch z⟩ (fun i H3 _ z => SqT.of (z.1 _ _ g64)) ?_ ?_
    · rintro i x H3 hx ⟨s3, ws, hD, lw, bad⟩
      have hi := (List.getElem?_eq_some_iff.mp hx).1
      have hx3 : x = .non ∨ x = .bl true ∨ x = .int (-1) := by
        have := List.mem_of_getElem? hx
        simpa using this
      have hi : i < 3 := hi
      refine ⟨rfl, yes_ite ?_⟩
      refine ⟨_, rfl, _, rfl, _, rfl, (by show 1 ≤ sizeLine; decide), fun q1 w1 => ?_⟩
      have sq := same_new (o := .tup [x]) w1
      refine catA rfl rfl (sq _ _ (s3 _ _ ht)) upd_same (sz (by rw [List.length_map]; show r.2.length + 1 ≤ 100000; omega)) fun q3 H4 s4 h4 => ?_
      refine ⟨(by show 2 ≤ sizeLine; decide), fun f wf => ?_⟩
      have sf := same_new (o := .tup [V.int r.1, .ref q3]) wf
      have s5 := sq.trans (s4.trans sf)
      refine ⟨ws, s5 _ _ hD, szl (by omega), same_put (s3.trans s5) nD, ws ++ [.ref f], upd_same, by rw [List.length_append, lw]; rfl, fun v mv => ?_⟩
      rcases List.mem_append.mp mv with mv | mv
      · exact ((bad v mv).tups fun _ _ e => s5 _ _ e).tups (tup_put (s5 _ _ hD))
      · rw [List.mem_singleton.mp mv]
        exact ⟨f, q3, x, rfl, tup_put (s5 _ _ hD) _ _ upd_same, tup_put (s5 _ _ hD) _ _ (sf _ _ h4), hx3⟩
    rintro G' ⟨s', wl, hW, lW, bad⟩
    have lW : wl.length = 3 := lW
    have hc := s' _ _ hc
    have hp := s' _ _ hp
    have g51 := s' _ _ g51
    have he := s' _ _ he
    have ht := s' _ _ ht
    have g63 := s' _ _ g63
    have o55 := o55.kp (Kp.of_same s')
    have o57 := o57.kp (Kp.of_same s')
    have o60 := o60.kp (Kp.of_same s')
    have o62 := o62.kp (Kp.of_same s')
    have ra := ra.same s'
    have S := S.trans s'
    have S2 := S2.trans s'
    have bad : ∀ v ∈ wl, EntOdd G' n v := fun v mv => (bad v mv).odd rl
    refine ⟨q63, D, _, _, rfl, rfl, g63, hW, (sz (by show 4 + wl.length ≤ 100000; omega)), fun q65 w65 => ?_⟩
    have t65 := same_new (o := .lst ([V.ref q54, .ref q56, .ref q59, .ref q61] ++ wl)) w65
    have g65 : upd G' q65 (.lst ([V.ref q54, .ref q56, .ref q59, .ref q61] ++ wl)) q65 = some (.lst ([V.ref q54, .ref q56, .ref q59, .ref q61] ++ wl)) := upd_same
    generalize upd G' q65 (.lst ([V.ref q54, .ref q56, .ref q59, .ref q61] ++ wl)) = G65 at t65 g65 ⊢
    have hc := t65 _ _ hc
    have hp := t65 _ _ hp
    have g51 := t65 _ _ g51
    have he := t65 _ _ he
    have ht := t65 _ _ ht
    have g63 := t65 _ _ g63
    have o55 := o55.kp (Kp.of_same t65)
    have o57 := o57.kp (Kp.of_same t65)
    have o60 := o60.kp (Kp.of_same t65)
    have o62 := o62.kp (Kp.of_same t65)
    have ra := ra.same t65
    have S := S.trans t65
    have S2 := S2.trans t65
    have bad : ∀ v ∈ wl, EntOdd G65 n v := fun v mv => (bad v mv).kp (Kp.of_same t65)
    refine ⟨_, rfl, (by show 1 ≤ sizeLine; decide), fun q66 w66 => ?_⟩
    have t66 := same_new (o := .tup [.int r.1]) w66
    have g66 : upd G65 q66 (.tup [.int r.1]) q66 = some (.tup [.int r.1]) := upd_same
    generalize upd G65 q66 (.tup [.int r.1]) = G66 at t66 g66 ⊢
    have hc := t66 _ _ hc
    have hp := t66 _ _ hp
    have g51 := t66 _ _ g51
    have he := t66 _ _ he
    have ht := t66 _ _ ht
    have g65 := t66 _ _ g65
    have o55 := o55.kp (Kp.of_same t66)
    have o57 := o57.kp (Kp.of_same t66)
    have o60 := o60.kp (Kp.of_same t66)
    have o62 := o62.kp (Kp.of_same t66)
    have ra := ra.same t66
    have S := S.trans t66
    have S2 := S2.trans t66
    have bad : ∀ v ∈ wl, EntOdd G66 n v := fun v mv => (bad v mv).kp (Kp.of_same t66)
    have o67 : EntOdd G66 n (.ref q66) := .len g66 (by simp)
    refine ⟨(by show 1 ≤ sizeLine; decide), fun q68 w68 => ?_⟩
    have t68 := same_new (o := .lst [V.ref q66]) w68
    have g68 : upd G66 q68 (.lst [V.ref q66]) q68 = some (.lst [V.ref q66]) := upd_same
    generalize upd G66 q68 (.lst [V.ref q66]) = G68 at t68 g68 ⊢
    have hc := t68 _ _ hc
    have hp := t68 _ _ hp
    have g51 := t68 _ _ g51
    have he := t68 _ _ he
    have ht := t68 _ _ ht
    have g65 := t68 _ _ g65
    have o55 := o55.kp (Kp.of_same t68)
    have o57 := o57.kp (Kp.of_same t68)
    have o60 := o60.kp (Kp.of_same t68)
    have o62 := o62.kp (Kp.of_same t68)
    have o67 := o67.kp (Kp.of_same t68)
    have ra := ra.same t68
    have S := S.trans t68
    have S2 := S2.trans t68
    have bad : ∀ v ∈ wl, EntOdd G68 n v := fun v mv => (bad v mv).kp (Kp.of_same t68)
    refine ⟨q65, q68, _, _, rfl, rfl, g65, g68, (sz (by rw [List.length_append]; show 4 + wl.length + 1 ≤ 100000; omega)), fun q69 w69 => ?_⟩
    have t69 := same_new (o := .lst (([V.ref q54, .ref q56, .ref q59, .ref q61] ++ wl) ++ [V.ref q66])) w69
    have g69 : upd G68 q69 (.lst (([V.ref q54, .ref q56, .ref q59, .ref q61] ++ wl) ++ [V.ref q66])) q69 = some (.lst (([V.ref q54, .ref q56, .ref q59, .ref q61] ++ wl) ++ [V.ref q66])) := upd_same
    generalize upd G68 q69 (.lst (([V.ref q54, .ref q56, .ref q59, .ref q61] ++ wl) ++ [V.ref q66])) = G69 at t69 g69 ⊢
    have hc := t69 _ _ hc
    have hp := t69 _ _ hp
    have g51 := t69 _ _ g51
    have he := t69 _ _ he
    have ht := t69 _ _ ht
    have g65 := t69 _ _ g65
    have g68 := t69 _ _ g68
    have o55 := o55.kp (Kp.of_same t69)
    have o57 := o57.kp (Kp.of_same t69)
    have o60 := o60.kp (Kp.of_same t69)
    have o62 := o62.kp (Kp.of_same t69)
    have o67 := o67.kp (Kp.of_same t69)
    have ra := ra.same t69
    have S := S.trans t69
    have S2 := S2.trans t69
    have bad : ∀ v ∈ wl, EntOdd G69 n v := fun v mv => (bad v mv).kp (Kp.of_same t69)
    have er : ∀ v ∈ (([V.ref q54, .ref q56, .ref q59, .ref q61] ++ wl) ++ [V.ref q66]), EntOdd G69 n v := fun v mv => by
      rcases List.mem_append.mp mv with mv | mv
      · rcases List.mem_append.mp mv with mv | mv
        · simp only [List.mem_cons, List.not_mem_nil, or_false] at mv
          rcases mv with rfl | rfl | rfl | rfl <;> assumption
        · exact bad v mv
      · rw [List.mem_singleton.mp mv]
        assumption
    have lr : (([V.ref q54, .ref q56, .ref q59, .ref q61] ++ wl) ++ [V.ref q66]).length = 8 := by
      rw [List.length_append, List.length_append, lW]
      rfl
    generalize (([V.ref q54, .ref q56, .ref q59, .ref q61] ++ wl) ++ [V.ref q66]) = rows at er lr g69
    clear bad o55 o57 o60 o62 o67
    refine ⟨_, rfl, _, rfl, q69, rfl, ⟨_, SqL.of g69⟩, fun D2 nD2 => ?_⟩
    refine lc_list (xs := rows) (fun i H3 => Same G69 H3 ∧ ∃ ws : List V, H3 D2 = some (.lst ws) ∧ ws.length = i ∧ ∀ v ∈ ws, BadP H3 c (xs.take m) rows v) ⟨same_new nD2, [], upd_same, rfl, fun v z => nomatch z⟩ (fun i H3 _ z => SqL.of (z.1 _ _ g69)) ?_ ?_
    · rintro i x H3 hx ⟨s3, ws, hD, lw, bad⟩
      have hi := (List.getElem?_eq_some_iff.mp hx).1
      refine ⟨rfl, yes_ite ?_⟩
      refine ⟨_, rfl, _, rfl, _, rfl, _, rfl, slA rfl (s3 _ _ hp) fun q1 H4 s4 h4 => ?_⟩
      rw [ec] at h4
      refine ⟨_, rfl, (by show 1 ≤ sizeLine; decide), fun q2 w2 => ?_⟩
      have sq := same_new (o := .tup [x]) w2
      refine catA rfl rfl (sq _ _ h4) upd_same (sz (by rw [List.length_take]; show min m xs.length + 1 ≤ 100000; omega)) fun q3 H5 s5 h5 => ?_
      refine ⟨(by show 2 ≤ sizeLine; decide), fun f wf => ?_⟩
      have sf := same_new (o := .tup [V.ref c, .ref q3]) wf
      have s6 := s4.trans (sq.trans (s5.trans sf))
      refine ⟨ws, s6 _ _ hD, szl (by omega), same_put (s3.trans s6) nD2, ws ++ [.ref f], upd_same, by rw [List.length_append, lw]; rfl, fun v mv => ?_⟩
      rcases List.mem_append.mp mv with mv | mv
      · exact ((bad v mv).tups fun _ _ e => s6 _ _ e).tups (tup_put (s6 _ _ hD))
      · rw [List.mem_singleton.mp mv]
        exact ⟨f, q3, x, rfl, tup_put (s6 _ _ hD) _ _ upd_same, tup_put (s6 _ _ hD) _ _ (sf _ _ h5), List.mem_of_getElem? hx⟩
    rintro G' ⟨s', wl, hW, lW, bad⟩
    have hc := s' _ _ hc
    have hp := s' _ _ hp
    have g51 := s' _ _ g51
    have he := s' _ _ he
    have ht := s' _ _ ht
    have ra := ra.same s'
    have S := S.trans s'
    have S2 := S2.trans s'
    have er : ∀ v ∈ rows, EntOdd G' n v := fun v mv => (er v mv).kp (Kp.of_same s')
    have bad : ∀ v ∈ wl, ShwOdd G' n v := fun v mv => by
      obtain ⟨f, y, rw0, rfl, h1, h2, h3⟩ := bad v mv
      exact .pap h1 hc lk2 rk (.ent h2 ra rok3 (er _ h3))
    refine ⟨q51, D2, _, _, rfl, rfl, g51, hW, (sz (by omega)), fun l9 w9 => ?_⟩
    have t9 := same_new (o := .lst (zs ++ wl)) w9
    refine ⟨_, rfl, q l9 _ _ (S.trans t9) upd_same (by rw [List.length_append]; omega) fun z mz => ?_⟩
    rcases List.mem_append.mp mz with mz | mz
    · exact (al z mz).kp (Kp.of_same (S2.trans t9))
    · exact (bad z mz).kp (Kp.of_same t9)
end

end My
namespace My
open PySem L2
/-! ### the law -/
section
variable {K : PySem.W.Frag} {mg : Str → Option Value} {H H' : Hp}
theorem tb_none (T : Top K mg) (h : Tb T.tbs H) (g : ∀ P, GxR.TabG H P → GxR.TabG H' P) : Tb T.tbs H' := .mk (fun P m => g P (h.g m)) (fun P q m => by simp [Top.tbs] at m)
theorem tb_but2 (T : Top K mg) {b L : Addr} {m : Int} (h : Tb T.tbs H) (p : PotAt H b L m) (k : But2 b L H H') : Tb T.tbs H' := by
  obtain ⟨ns, tot, n, p, _⟩ := p
  refine tb_none T h fun P g => ?_
  obtain ⟨ps, e, t⟩ := g
  refine ⟨ps, k _ _ e (fun z => ?_) (fun z => ?_), t⟩
  · rw [z, p.hb] at e
    cases e
  · rw [z, p.hL] at e
    cases e
end
theorem shw_own {os : O3s} {n : Nat} {ks : List Int} {rs : List NR} (B : BdO os n) (Y : Kru os os.length ks) (up : ks.Pairwise (· < ·)) (hd : rs.map Prod.fst = goneO os.length ks) (ok : ∀ r ∈ rs, GoodL os ks r) : Shw os ks rs := by
  refine ⟨up, Y.nr, hd, fun r mr => ?_⟩
  have g := ok r mr
  have mg : r.1 ∈ goneO os.length ks := by
    rw [← hd]
    exact List.mem_map.mpr ⟨r, mr, rfl⟩
  obtain ⟨⟨g0, g1⟩, nk⟩ := mem_gone.mp mg
  exact ⟨g.nd, fun k mk => ⟨g.sub k mk, kru_pay B Y g0 g1 nk g.ld g.nd g.sub k mk⟩, g.ld⟩
theorem rep1A {K : PySem.W.Frag} {x y : V} {H : Hp} {Q : VK} {l : Addr} {k : Int} {v : V} (ex : x = .ref l) (ey : y = .int k) (h : H l = some (.tup [v])) (k1 : 1 ≤ k) (k2 : k ≤ 1000) (q : ∀ (p : Addr) (H' : Hp), Same H H' → H' p = some (.tup (List.replicate k.toNat v)) → Q (.ref p) H') : rRep1 K x y H Q :=
  ⟨l, k, v, ex, ey, SqT.of h, k1, k2, fun e => q l H (fun _ _ e => e) (by rw [h, e]; rfl), fun _ p np => q p _ (same_new np) upd_same⟩
section
variable {P : Program} {w : World} {K : PySem.W.Frag} {mg : Str → Option Value} {base : Heap}
theorem run_law (T : Top K mg) {s : Shared} {H : Hp} {a : Addr} {ns : List Int} (TA : GxR.TabB base mg T.cA T.PA) (TR : GxR.TabB base mg T.cR T.PR) (TO : GxR.TabB base mg T.cO T.PO) (TP : GxR.TabB base mg T.cP T.PP) (TE : GxR.TabB base mg T.cE T.PE) (TH : GxR.TabB base mg T.cH T.PH) (e0 : Env0 P w K mg base callerA [] s H) (hA : H T.PA = some (.tbl #[])) (hR : H T.PR = some (.tbl #[])) (hO : H T.PO = some (.tbl #[])) (hZ : H T.PP = some (.tbl #[])) (hE : H T.PE = some (.tbl #[])) (hH : H T.PH = some (.tbl #[])) (hS : SqL K H a (ns.map V.int)) (hlen : ns.length ≤ 63) (room : Room 10 callerA) (bind : ∀ (s : Shared) (u : Value), BindsTo s T.d_law ⟨[u], []⟩ [("_law_script", u)]) :
    codeAny (model P w) callerA (.call (.ref T.a_law) ⟨[.ref a], []⟩) (CR CX0 [] P w H s (fun v _ => v = .bl true) E0) s := by
  have G_Lpot : FnOk P w K mg base CX0 1 _ _ _ _ := ok_pot T
  have G_Loffers : FnOk P w K mg base CX0 3 _ _ _ _ := ok_offers T
  have G_Lkept : FnOk P w K mg base CX0 3 _ _ _ _ := ok_keptL T
  have G_Lpaper : FnOk P w K mg base CX0 2 _ _ _ _ := ok_paperL T
  have G_Ldeep : FnOk P w K mg base CX0 3 _ _ _ _ := ok_deep T
  have G_Lodd : FnOk P w K mg base CX0 1 _ _ _ _ := ok_oddL T
  have G_Lpairs : FnOk P w K mg base CX0 1 _ _ _ _ := ok_pairs T
  have G_showslightest : FnOk P w K mg base CX0 9 _ _ _ _ := fnor (ok_shows71 T TA TR TO TE TP) (ok_showsX T TA TR TO TE TP)
  have G_showsholding : FnOk P w K mg base CX0 8 _ _ _ _ := ok_hldsX T TA TH
  have tb0 := tbs0 T hA hR hO hZ hE hH
  obtain ⟨oc, od, kV', doc, pm, an, cdv, ct, osl, ed, lk, hcd⟩ := T.F_law.ex
  rw [ed] at lk
  refine LamX.run_ofS (k := 9) (N := ["_law_script", "_law_pot_here", "_law_turn", "_law_many", "_law_offers_here", "_law_kept_here", "_law_pair", "_law_twos", "_law_a", "_law_b", "_law_price", "_law_thing", "_law_odd_here", "_law_rows", "_law_row"]) (ps := ["_law_script"]) (us := [.ref a]) (vs := [.ref a]) lk hcd sc_law room e0 (by rw [← ed]; exact bind s _) (.cons rfl .nil) rfl fun hr => ?_
  refine ⟨_, PSs.nox (pss_cons (ps_set (i := 1) sc_law.nd rfl (.inl rfl) (pe_call G_Lpot (hr.mono (by decide)) (by rfl) T.g_Lpot T.F_Lpot.kp T.b_Lpot .nil pass0 (pa_cons (pv 0) pa_nil)))
      (pss_cons (ps_for PassesOwn.never rfl (pi_range1 (by rfl) T.m_range (pa_cons pe_int pa_nil)) (pg_name (i := 2) sc_law.nd rfl (.inl rfl)) (pss_cons (ps_asg (pe_call G_Loffers (hr.mono (by decide)) (by rfl) T.g_Loffers T.F_Loffers.kp T.b_Loffers .nil pass0 (pa_cons (pv 1) pa_nil)) (pg_tup rfl (pgs_cons (pg_name (i := 3) sc_law.nd rfl (.inl rfl)) (pgs_cons (pg_name (i := 4) sc_law.nd rfl (.inl rfl)) pgs_nil))))
      (pss_cons (ps_set (i := 5) sc_law.nd rfl (.inl rfl) (pe_call G_Lkept (hr.mono (by decide)) (by rfl) T.g_Lkept T.F_Lkept.kp T.b_Lkept .nil pass0 (pa_cons (pv 4) pa_nil)))
      (pss_cons (ps_set (i := 6) sc_law.nd rfl (.inl rfl) (pe_tup (pa_cons (pe_callTy call_tuple_of (by rfl) T.m_tuple (by decide +kernel) (pa_cons (pv 5) pa_nil)) (pa_cons (pe_call G_Lpaper (hr.mono (by decide)) (by rfl) T.g_Lpaper T.F_Lpaper.kp T.b_Lpaper .nil pass0 (pa_cons (pv 4) (pa_cons (pv 5) pa_nil))) pa_nil))))
      (pss_cons (ps_if (pt_cmpR op_isnot_bl (pe_call G_showslightest hr (by rfl) T.g_showslightest T.F_showslightest.kp T.b_showslightest .nil pass0 (pa_cons (pv 3) (pa_cons (pe_callTy call_tuple_of (by rfl) T.m_tuple (by decide +kernel) (pa_cons (pv 4) pa_nil)) (pa_cons (pv 6) pa_nil)))) pe_bl (nomark _)) (pss_one (ps_ret pe_bl)) pss_nil)
      (pss_cons (ps_set (i := 7) sc_law.nd rfl (.inl rfl) (pe_callTy call_tuple_of (by rfl) T.m_tuple (by decide +kernel) (pa_cons (pe_lc (own := [("_law_a", 8), ("_law_b", 9), ("_law_price", 10)]) (tt := tYes) (by rfl) sc_law.nd (pi_list (pv 4)) (blkOk_by (own := [("_law_a", 8), ("_law_b", 9), ("_law_price", 10)]) (N := ["_law_script", "_law_pot_here", "_law_turn", "_law_many", "_law_offers_here", "_law_kept_here", "_law_pair", "_law_twos", "_law_a", "_law_b", "_law_price", "_law_thing", "_law_odd_here", "_law_rows", "_law_row"]) (sc := defScope s_law) (by decide +kernel)) (fun _ _ _ _ _ => (pg_tupK (K := K) (n := 3) rfl rfl (pgs_cons (pg_name (i := 8) sc_law.nd rfl (.inl rfl)) (pgs_cons (pg_name (i := 9) sc_law.nd rfl (.inl rfl)) (pgs_cons (pg_name (i := 10) sc_law.nd rfl (.inl rfl)) pgs_nil))) rfl)) (fun _ _ _ _ _ => pts_nil) (fun _ _ _ _ _ => (pe_tup (pa_cons (pv 8) (pa_cons (pv 9) pa_nil))))) pa_nil)))
      (pss_cons (ps_set (i := 11) sc_law.nd rfl (.inl rfl) (pe_call G_Ldeep (hr.mono (by decide)) (by rfl) T.g_Ldeep T.F_Ldeep.kp T.b_Ldeep .nil pass0 (pa_cons (pv 1) pa_nil)))
      (pss_cons (ps_for PassesOwn.never rfl (pi_list (pe_op op_catL (pe_call G_Lodd (hr.mono (by decide)) (by rfl) T.g_Lodd T.F_Lodd.kp T.b_Lodd .nil pass0 (pa_cons (pv 11) pa_nil)) (pe_call G_Lpairs (hr.mono (by decide)) (by rfl) T.g_Lpairs T.F_Lpairs.kp T.b_Lpairs .nil pass0 (pa_cons (pe_ix ix_tup (pv 6) pe_int (fun _ _ => rfl)) (pa_cons (pe_ix ix_tup (pv 6) pe_int (fun _ _ => rfl)) pa_nil))))) (pg_name (i := 12) sc_law.nd rfl (.inl rfl)) (pss_one (ps_if (pt_cmpR op_isnot_bl (pe_call G_showslightest hr (by rfl) T.g_showslightest T.F_showslightest.kp T.b_showslightest .nil pass0 (pa_cons (pv 3) (pa_cons (pe_callTy call_tuple_of (by rfl) T.m_tuple (by decide +kernel) (pa_cons (pv 4) pa_nil)) (pa_cons (pv 12) pa_nil)))) pe_bl (nomark _)) (pss_one (ps_ret pe_bl)) pss_nil)))
      (pss_cons (ps_for PassesOwn.never rfl (pi_list (pe_op op_catL (pe_call G_Lodd (hr.mono (by decide)) (by rfl) T.g_Lodd T.F_Lodd.kp T.b_Lodd .nil pass0 (pa_cons (pv 11) pa_nil)) (pe_lst (pa_cons (pe_op op_rep (pe_lst (pa_cons (pe_tup (pa_cons pe_str (pa_cons (pe_tup pa_nil) pa_nil))) pa_nil)) (pe_callB call_len_seq (by rfl) T.m_len PySem.boot_len (pa_cons (pv 7) pa_nil))) (pa_cons (pe_op op_rep1 (pe_tup (pa_cons (pe_tup (pa_cons pe_str (pa_cons (pe_tup pa_nil) pa_nil))) pa_nil)) (pe_op op_add (pe_callB call_len_seq (by rfl) T.m_len PySem.boot_len (pa_cons (pv 7) pa_nil)) pe_int)) pa_nil))))) (pg_name (i := 12) sc_law.nd rfl (.inl rfl)) (pss_one (ps_if (pt_cmpR op_isnot_bl (pe_call G_showsholding (hr.mono (by decide)) (by rfl) T.g_showsholding T.F_showsholding.kp T.b_showsholding .nil pass0 (pa_cons (pv 3) (pa_cons (pv 7) (pa_cons (pv 12) pa_nil)))) pe_bl (nomark _)) (pss_one (ps_ret pe_bl)) pss_nil)))
      (pss_cons (ps_set (i := 13) sc_law.nd rfl (.inl rfl) (pe_lst (pa_cons pe_non (pa_cons pe_str (pa_cons (pe_tup pa_nil) (pa_cons (pe_tup (pa_cons pe_str pa_nil)) (pa_cons (pe_lst (pa_cons pe_str (pa_cons (pe_tup pa_nil) pa_nil))) (pa_cons (pe_tup (pa_cons pe_str (pa_cons (pe_lst (pa_cons pe_int pa_nil)) pa_nil))) (pa_cons (pe_tup (pa_cons pe_str (pa_cons (pe_lst (pa_cons pe_int pa_nil)) pa_nil))) pa_nil)))))))))
      (pss_one (ps_for PassesOwn.never rfl (pi_list (pe_op op_catL (pv 13) (pe_lst (pa_cons (pe_tup (pa_cons pe_non (pa_cons (pe_tup pa_nil) pa_nil))) (pa_cons (pe_tup (pa_cons pe_str (pa_cons (pe_tup pa_nil) pa_nil))) pa_nil))))) (pg_name (i := 14) sc_law.nd rfl (.inl rfl)) (pss_one (ps_if (PW.pt (pw_and (pt_cmpR (op_neE (u0 hr)) (pv 7) (pe_tup pa_nil) (nomark _)) (pw_and1 (pt_cmpR op_isnot_bl (pe_call G_showsholding (hr.mono (by decide)) (by rfl) T.g_showsholding T.F_showsholding.kp T.b_showsholding .nil pass0 (pa_cons (pv 3) (pa_cons (pv 7) (pa_cons (pe_op op_rep1 (pe_tup (pa_cons (pv 14) pa_nil)) (pe_callB call_len_seq (by rfl) T.m_len PySem.boot_len (pa_cons (pv 7) pa_nil))) pa_nil)))) pe_bl (nomark _))))) (pss_one (ps_ret pe_bl)) pss_nil))))))))))))))
      (pss_one (ps_ret pe_bl)))), ?_⟩
  refine ⟨_, rfl, a, ns, rfl, hS, fun b L H1 s1 nb nL P1 => ?_⟩
  refine ⟨_, rfl, (by decide), (by decide), ?_⟩
  refine for_range (lo := 0) (n := 3) (fun i σ H2 => ∃ y2 y3 y4 y5 y6 y7 y8 y9 y10 y11 y12 y13 y14 : Option V, σ = [some (.ref a), some (.ref b), y2, y3, y4, y5, y6, y7, y8, y9, y10, y11, y12, y13, y14] ∧ PotAt H2 b L (1000 * (i : Int)) ∧ Tb T.tbs H2) ⟨none, none, none, none, none, none, none, none, none, none, none, none, none, rfl, P1.le (by omega), tb0.same s1⟩ ?_ ?_
  case refine_2 =>
    rintro σ H2 ⟨y2, y3, y4, y5, y6, y7, y8, y9, y10, y11, y12, y13, y14, rfl, P2, tb2⟩
    exact rfl
  rintro i σ H2 hi ⟨y2, y3, y4, y5, y6, y7, y8, y9, y10, y11, y12, y13, y14, rfl, P2, tb2⟩
  refine ⟨_, rfl, b, L, _, rfl, P2, by omega, fun f D vs os n H3 P3 k3 hf hD d1 d2 oa n1 n40 lo B pz => ?_⟩
  have tb3 := tb_but2 T tb2 P2 k3
  have lv := oa.length
  refine ⟨f, _, rfl, SqT.of hf, rfl, _, _, rfl, _, _, rfl, rfl, ?_⟩
  refine ⟨_, rfl, D, n, vs, os, rfl, hD, oa, B, pz, n40, lo, fun E ks H4 s4 nE hE Y up => ?_⟩
  obtain ⟨e1, e2⟩ := P3.ne nE
  have rk := Y.rg
  have lk := kru_len Y
  refine ⟨_, rfl, E, _, rfl, .inl ⟨SqL.of hE, fun c nc => ?_⟩⟩
  have sc := same_new (o := .tup (ks.map V.int)) nc
  have hc : upd H4 c (.tup (ks.map V.int)) c = some (.tup (ks.map V.int)) := upd_same
  generalize upd H4 c (.tup (ks.map V.int)) = H4' at sc hc ⊢
  have s4' := s4.trans sc
  refine ⟨_, rfl, _, rfl, D, E, n, vs, os, ks, rfl, s4' _ _ hD, oa.same s4', sc _ _ hE, rk, B, n40, lo, fun j lj nj => lgt_rch (Y.lt j (by omega) (by omega) nj), fun p xs rs H5 s5 hp ra hd ok => ?_⟩
  have s45 := s4'.trans s5
  have hD5 := s45 _ _ hD
  have hc5 := s5 _ _ hc
  have oa5 := oa.same s45
  have tb5 := tb3.same s45
  have P5 := P3.same s45
  have lr2 : rs.length = (goneO os.length ks).length := by
    have y := congrArg List.length hd
    rw [List.length_map] at y
    exact y
  have lr : rs.length ≤ 63 := by
    have := gone_len (i := os.length) (ks := ks)
    omega
  have rok : ∀ r ∈ rs, -100 ≤ r.1 ∧ r.1 ≤ 100 ∧ r.2.length ≤ 63 ∧ ∀ k ∈ r.2, 0 ≤ k ∧ k < (os.length : Int) := fun r mr => by
    have g := ok r mr
    have rg : ∀ k ∈ r.2, 0 ≤ k ∧ k < (os.length : Int) := fun k mk => rk k (g.sub k mk)
    have := nodup_le (n := os.length) g.nd rg
    have mg : r.1 ∈ goneO os.length ks := by
      rw [← hd]
      exact List.mem_map.mpr ⟨r, mr, rfl⟩
    have := (mem_gone.mp mg).1
    exact ⟨by omega, by omega, by omega, rg⟩
  have own := shw_own B Y up hd ok
  clear hf oa hD nE P3 tb3 s45 s4 s5 hE s4' sc hc
  refine ⟨(by show 2 ≤ sizeLine; decide), fun f2 nf2 => ?_⟩
  have sf := same_new (o := .tup [V.ref c, V.ref p]) nf2
  have hf2 : upd H5 f2 (.tup [V.ref c, V.ref p]) f2 = some (.tup [V.ref c, V.ref p]) := upd_same
  generalize upd H5 f2 (.tup [V.ref c, V.ref p]) = H6 at sf hf2 ⊢
  have hD6 := sf _ _ hD5
  have hc6 := sf _ _ hc5
  have hp6 := sf _ _ hp
  have oa6 := oa5.same sf
  have ra6 := ra.same sf
  have tb6 := tb5.same sf
  have P6 := P5.same sf
  clear hD5 hc5 hp oa5 ra tb5 P5 sf nf2
  -- the paper is shown
  refine ⟨_, rfl, _, rfl, D, _, rfl, .inl ⟨SqL.of hD6, fun o no => ?_⟩⟩
  have so := same_new (o := .tup vs) no
  refine ⟨_, rfl, .inl ⟨n, o, f2, c, p, vs, xs, os, ks, rs, rfl, so _ _ hf2, B, by omega, upd_same, oa6.same so, by omega, so _ _ hc6, by omega, rk, so _ _ hp6, ra6.same so, fun r mr => ⟨by have := (rok r mr).2.2.1; omega, (rok r mr).2.2.2⟩, tb6.same so, fun H7 k7 tb7 => ?_⟩⟩
  rw [dcd_t own]
  refine ⟨true, true, rfl, rfl, _, rfl, iteNS rfl ?_⟩
  have k67 : Kp H6 H7 := (Kp.of_same so).trans k7
  have hD7 := k67.lst hD6
  have hc7 := k67.tup hc6
  have hp7 := k67.tup hp6
  have hf7 := k67.tup hf2
  have oa7 := oa6.kp k67
  have ra7 := ra6.kp k67
  have P7 := P6.kp k67
  clear hD6 hc6 hp6 hf2 oa6 ra6 P6 tb6 k67 k7 so no
  -- the ties alone
  refine ⟨_, rfl, D, rfl, ⟨_, SqL.of hD7⟩, fun M nM => ?_⟩
  refine lc_list (xs := vs) (fun j G => Same H7 G ∧ ∃ ws, G M = some (.lst ws) ∧ PAll G ws (prs (os.take j)) ∧ ws.length = j) ⟨same_new nM, [], upd_same, .nil, rfl⟩ (fun j G _ z => SqL.of (z.1 _ _ hD7)) ?_ ?_
  · rintro j x G hx ⟨s2, ws, hM, pa, lw⟩
    obtain ⟨tp, u, rfl, hu, htp⟩ := (oa7.same s2).at hx
    have lj := (List.getElem?_eq_some_iff.mp hx).1
    refine ⟨tp, _, rfl, SqT.of htp, rfl, _, _, rfl, _, _, rfl, _, _, rfl, rfl, rfl, yes_ite ?_⟩
    refine ⟨_, rfl, _, rfl, (by show 2 ≤ sizeLine; decide), fun g wg => ?_⟩
    have sg := same_new (o := .tup [V.int u.1.1, .int u.1.2]) wg
    refine ⟨ws, sg _ _ hM, szl (by omega), same_put (s2.trans sg) nM, ws ++ [.ref g], upd_same, ?_, by rw [List.length_append, lw]; rfl⟩
    have z : PAll (upd G g (.tup [V.int u.1.1, .int u.1.2])) (ws ++ [.ref g]) (prs (os.take (j + 1))) := by
      rw [take_at hu]
      unfold prs
      rw [List.map_append]
      exact PAll.snoc upd_same (pa.same sg)
    exact z.put (sg _ _ hM)
  rintro H8 ⟨s8, ws, hM, pa, lw⟩
  rw [lv, List.take_length] at pa
  refine ⟨M, _, rfl, .inl ⟨SqL.of hM, fun t nt => ?_⟩⟩
  have st := same_new (o := .tup ws) nt
  have ht : upd H8 t (.tup ws) t = some (.tup ws) := upd_same
  have pa8 := pa.same st
  have s78 := s8.trans st
  generalize upd H8 t (.tup ws) = H9 at ht pa8 s78 ⊢
  have hD9 := s78 _ _ hD7
  have hc9 := s78 _ _ hc7
  have hp9 := s78 _ _ hp7
  have hf9 := s78 _ _ hf7
  have oa9 := oa7.same s78
  have ra9 := ra7.same s78
  have tb9 := tb7.same s78
  have P9 := P7.same s78
  clear hD7 hc7 hp7 hf7 oa7 ra7 tb7 P7 s78 st s8 hM pa nt nM
  -- something deep
  refine ⟨_, rfl, b, L, _, rfl, P9, by omega, by omega, fun l v0 H10 P10 k10 hl => ?_⟩
  have hD10 := k10 _ _ hD9 d1 d2
  have hc10 := k10.tup P9 hc9
  have hp10 := k10.tup P9 hp9
  have hf10 := k10.tup P9 hf9
  have ht10 := k10.tup P9 ht
  have oa10 := oa9.but2 k10 P9
  have ra10 := ra9.but2 k10 P9
  have pa10 : PAll H10 ws (prs os) := pa8.mono fun _ _ _ e => k10.tup P9 e
  have tb10 := tb_but2 T tb9 P9 k10
  clear hD9 hc9 hp9 hf9 ht oa9 ra9 pa8 tb9 P9 k10
  -- what shows no light paper
  refine ⟨_, rfl, l, v0, rfl, hl, fun p1 zs1 H11 s11 hp1 len1 od1 => ?_⟩
  refine ⟨_, rfl, f2, _, _, _, rfl, rfl, SqT.of (s11 _ _ hf10), atI_nat (j := 0) rfl, _, rfl, f2, _, _, _, rfl, rfl, SqT.of (s11 _ _ hf10), atI_nat (j := 1) rfl, c, p, ks, xs, rs, os.length, rfl, s11 _ _ hc10, by omega, rk, s11 _ _ hp10, ra10.same s11, lr2, lr, lo, rok, fun p2 zs2 H12 s12 hp2 len2 od2 => ?_⟩
  refine ⟨p1, p2, _, _, rfl, rfl, SqL.of (s12 _ _ hp1), SqL.of hp2, sz (by omega), fun p3 np3 => ?_⟩
  have s13 := same_new (o := .lst (zs1 ++ zs2)) np3
  have hp3 : upd H12 p3 (.lst (zs1 ++ zs2)) p3 = some (.lst (zs1 ++ zs2)) := upd_same
  generalize upd H12 p3 (.lst (zs1 ++ zs2)) = H13 at s13 hp3 ⊢
  have od : ∀ z ∈ zs1 ++ zs2, ShwOdd H13 os.length z := fun z mz => by
    rcases List.mem_append.mp mz with mz | mz
    · exact ((od1 z mz).kp (Kp.of_same (s12.trans s13))).shw
    · exact (od2 z mz).kp (Kp.of_same s13)
  have S : Same H10 H13 := s11.trans (s12.trans s13)
  refine ⟨p3, rfl, ⟨_, SqL.of hp3⟩, for_list (xs := zs1 ++ zs2) (fun j σ G => ∃ y12 y13 y14 : Option V, σ = [some (.ref a), some (.ref b), some (.int (0 + (i : Int))), some (.int (n : Int)), some (.ref D), some (.ref E), some (.ref f2), some (.ref t), y8, y9, y10, some (.ref l), y12, y13, y14] ∧ Kp H13 G ∧ Tb T.tbs G) ⟨_, _, _, rfl, Kp.refl _, tb10.same S⟩ (fun j σ G _ z => by obtain ⟨_, _, _, _, z, _⟩ := z; exact SqL.of (z.lst hp3)) ?_ ?_⟩
  · rintro j z σ G hz ⟨y12, y13, y14, rfl, kg, tbg⟩
    have mz := List.mem_of_getElem? hz
    refine ⟨_, rfl, _, rfl, D, _, rfl, .inl ⟨SqL.of (kg.lst (S _ _ hD10)), fun o no => ?_⟩⟩
    have so := same_new (o := .tup vs) no
    have kgo : Kp H13 (upd G o (.tup vs)) := kg.same so
    refine ⟨_, rfl, .inr ⟨n, o, z, vs, os, rfl, B, by omega, upd_same, (oa10.same S).kp kgo, by omega, (od z mz).kp kgo, tbg.same so, fun G2 k2 tb2 => ?_⟩⟩
    refine ⟨false, false, rfl, rfl, _, rfl, iteNS rfl ?_⟩
    exact ⟨_, _, _, rfl, kgo.trans k2, tb2⟩
  rintro σ H14 ⟨y12, y13, y14, rfl, k14, tb14⟩
  have K14 : Kp H10 H14 := (Kp.of_same S).trans k14
  have hl14 := K14.lst hl
  have ht14 := K14.tup ht10
  have pa14 := pa10.kp K14
  have P14 := P10.kp K14
  clear hD10 hc10 hp10 hf10 ht10 oa10 ra10 pa10 tb10 S od od1 od2 s11 s12 s13 hp1 hp2 hp3 k14 K14 P10 hl
  -- what shows no holding
  have S : Same H14 H14 := same_refl
  refine ⟨_, rfl, l, v0, rfl, hl14, fun p1 zs1 H15 s15 hp1 len1 od1 => ?_⟩
  have ht14 := s15 _ _ ht14
  have hl14 := s15 _ _ hl14
  have pa14 := pa14.same s15
  have tb14 := tb14.same s15
  have P14 := P14.same s15
  have S := S.trans s15
  have S1 : Same H15 H15 := same_refl
  refine ⟨Nat.zero_le _, fun q1 w1 => ?_⟩
  have t1 := same_new (o := .tup []) w1
  have g1 : upd H15 q1 (.tup []) q1 = some (.tup []) := upd_same
  generalize upd H15 q1 (.tup []) = G1 at t1 g1 ⊢
  have ht14 := t1 _ _ ht14
  have hp1 := t1 _ _ hp1
  have pa14 := pa14.same t1
  have tb14 := tb14.same t1
  have P14 := P14.same t1
  have S := S.trans t1
  have S1 := S1.trans t1
  refine ⟨(by show 2 ≤ sizeLine; decide), fun q2 w2 => ?_⟩
  have t2 := same_new (o := .tup [.str "round", .ref q1]) w2
  have g2 : upd G1 q2 (.tup [.str "round", .ref q1]) q2 = some (.tup [.str "round", .ref q1]) := upd_same
  generalize upd G1 q2 (.tup [.str "round", .ref q1]) = G2 at t2 g2 ⊢
  have ht14 := t2 _ _ ht14
  have hp1 := t2 _ _ hp1
  have g1 := t2 _ _ g1
  have pa14 := pa14.same t2
  have tb14 := tb14.same t2
  have P14 := P14.same t2
  have S := S.trans t2
  have S1 := S1.trans t2
  refine ⟨(by show 1 ≤ sizeLine; decide), fun q3 w3 => ?_⟩
  have t3 := same_new (o := .lst [.ref q2]) w3
  have g3 : upd G2 q3 (.lst [.ref q2]) q3 = some (.lst [.ref q2]) := upd_same
  generalize upd G2 q3 (.lst [.ref q2]) = G3 at t3 g3 ⊢
  have ht14 := t3 _ _ ht14
  have hp1 := t3 _ _ hp1
  have g1 := t3 _ _ g1
  have g2 := t3 _ _ g2
  have pa14 := pa14.same t3
  have tb14 := tb14.same t3
  have P14 := P14.same t3
  have S := S.trans t3
  have S1 := S1.trans t3
  refine ⟨_, rfl, t, _, rfl, .inr (SqT.of ht14), q3, _, _, rfl, rfl, g3, by omega, by omega, sz (by simp; omega), fun q4 w4 => ?_⟩
  have t4 := same_new (o := .lst (List.replicate ((ws.length : Int)).toNat [V.ref q2]).flatten) w4
  have g4 : upd G3 q4 (.lst (List.replicate ((ws.length : Int)).toNat [V.ref q2]).flatten) q4 = some (.lst (List.replicate ((ws.length : Int)).toNat [V.ref q2]).flatten) := upd_same
  generalize upd G3 q4 (.lst (List.replicate ((ws.length : Int)).toNat [V.ref q2]).flatten) = G4 at t4 g4 ⊢
  have ht14 := t4 _ _ ht14
  have hp1 := t4 _ _ hp1
  have g1 := t4 _ _ g1
  have g2 := t4 _ _ g2
  have g3 := t4 _ _ g3
  have pa14 := pa14.same t4
  have tb14 := tb14.same t4
  have P14 := P14.same t4
  have S := S.trans t4
  have S1 := S1.trans t4
  have o5 : HldsOdd G4 ws.length (.ref q4) := .nt (.lst g4)
  refine ⟨Nat.zero_le _, fun q6 w6 => ?_⟩
  have t6 := same_new (o := .tup []) w6
  have g6 : upd G4 q6 (.tup []) q6 = some (.tup []) := upd_same
  generalize upd G4 q6 (.tup []) = G6 at t6 g6 ⊢
  have ht14 := t6 _ _ ht14
  have hp1 := t6 _ _ hp1
  have o5 := o5.kp (Kp.of_same t6)
  have pa14 := pa14.same t6
  have tb14 := tb14.same t6
  have P14 := P14.same t6
  have S := S.trans t6
  have S1 := S1.trans t6
  refine ⟨(by show 2 ≤ sizeLine; decide), fun q7 w7 => ?_⟩
  have t7 := same_new (o := .tup [.str "round", .ref q6]) w7
  have g7 : upd G6 q7 (.tup [.str "round", .ref q6]) q7 = some (.tup [.str "round", .ref q6]) := upd_same
  generalize upd G6 q7 (.tup [.str "round", .ref q6]) = G7 at t7 g7 ⊢
  have ht14 := t7 _ _ ht14
  have hp1 := t7 _ _ hp1
  have g6 := t7 _ _ g6
  have o5 := o5.kp (Kp.of_same t7)
  have pa14 := pa14.same t7
  have tb14 := tb14.same t7
  have P14 := P14.same t7
  have S := S.trans t7
  have S1 := S1.trans t7
  refine ⟨(by show 1 ≤ sizeLine; decide), fun q8 w8 => ?_⟩
  have t8 := same_new (o := .tup [.ref q7]) w8
  have g8 : upd G7 q8 (.tup [.ref q7]) q8 = some (.tup [.ref q7]) := upd_same
  generalize upd G7 q8 (.tup [.ref q7]) = G8 at t8 g8 ⊢
  have ht14 := t8 _ _ ht14
  have hp1 := t8 _ _ hp1
  have g6 := t8 _ _ g6
  have g7 := t8 _ _ g7
  have o5 := o5.kp (Kp.of_same t8)
  have pa14 := pa14.same t8
  have tb14 := tb14.same t8
  have P14 := P14.same t8
  have S := S.trans t8
  have S1 := S1.trans t8
  refine ⟨_, rfl, t, _, rfl, .inr (SqT.of ht14), _, _, rfl, rfl, ?_⟩
  refine rep1A rfl rfl g8 (by omega) (by omega) fun q9 G9 t9 g9 => ?_
  have ht14 := t9 _ _ ht14
  have hp1 := t9 _ _ hp1
  have g6 := t9 _ _ g6
  have g7 := t9 _ _ g7
  have g8 := t9 _ _ g8
  have o5 := o5.kp (Kp.of_same t9)
  have pa14 := pa14.same t9
  have tb14 := tb14.same t9
  have P14 := P14.same t9
  have S := S.trans t9
  have S1 := S1.trans t9
  have o10 : HldsOdd G9 ws.length (.ref q9) := .len g9 (by rw [List.length_replicate]; omega)
  refine ⟨(by show 2 ≤ sizeLine; decide), fun q11 w11 => ?_⟩
  have t11 := same_new (o := .lst [V.ref q4, .ref q9]) w11
  have g11 : upd G9 q11 (.lst [V.ref q4, .ref q9]) q11 = some (.lst [V.ref q4, .ref q9]) := upd_same
  generalize upd G9 q11 (.lst [V.ref q4, .ref q9]) = G11 at t11 g11 ⊢
  have ht14 := t11 _ _ ht14
  have hp1 := t11 _ _ hp1
  have o5 := o5.kp (Kp.of_same t11)
  have o10 := o10.kp (Kp.of_same t11)
  have pa14 := pa14.same t11
  have tb14 := tb14.same t11
  have P14 := P14.same t11
  have S := S.trans t11
  have S1 := S1.trans t11
  refine ⟨p1, q11, _, _, rfl, rfl, SqL.of hp1, SqL.of g11, (sz (by rw [len1]; show 15 + 2 ≤ 100000; omega)), fun q12 w12 => ?_⟩
  have t12 := same_new (o := .lst (zs1 ++ [V.ref q4, .ref q9])) w12
  have g12 : upd G11 q12 (.lst (zs1 ++ [V.ref q4, .ref q9])) q12 = some (.lst (zs1 ++ [V.ref q4, .ref q9])) := upd_same
  generalize upd G11 q12 (.lst (zs1 ++ [V.ref q4, .ref q9])) = G12 at t12 g12 ⊢
  have ht14 := t12 _ _ ht14
  have hp1 := t12 _ _ hp1
  have g11 := t12 _ _ g11
  have o5 := o5.kp (Kp.of_same t12)
  have o10 := o10.kp (Kp.of_same t12)
  have pa14 := pa14.same t12
  have tb14 := tb14.same t12
  have P14 := P14.same t12
  have S := S.trans t12
  have S1 := S1.trans t12
  have od : ∀ z ∈ zs1 ++ [V.ref q4, .ref q9], HldsOdd G12 ws.length z := fun z mz => by
    rcases List.mem_append.mp mz with mz | mz
    · exact ((od1 z mz).kp (Kp.of_same S1)).hlds
    · simp only [List.mem_cons, List.not_mem_nil, or_false] at mz
      rcases mz with rfl | rfl <;> assumption
  refine ⟨q12, rfl, ⟨_, SqL.of g12⟩, for_list (xs := zs1 ++ [V.ref q4, .ref q9]) (fun j σ G => ∃ y12 y13 y14 : Option V, σ = [some (.ref a), some (.ref b), some (.int (0 + (i : Int))), some (.int (n : Int)), some (.ref D), some (.ref E), some (.ref f2), some (.ref t), y8, y9, y10, some (.ref l), y12, y13, y14] ∧ Kp G12 G ∧ Tb T.tbs G) ⟨_, _, _, rfl, Kp.refl _, tb14⟩ (fun j σ G _ z => by obtain ⟨_, _, _, _, z, _⟩ := z; exact SqL.of (z.lst g12)) ?_ ?_⟩
  · rintro j z σ G hz ⟨y12, y13, y14, rfl, kg, tbg⟩
    have mz := List.mem_of_getElem? hz
    refine ⟨_, rfl, _, rfl, _, rfl, n, t, z, ws, prs os, rfl, kg.tup ht14, pa14.kp kg, (od z mz).kp kg, tbg, fun G2 k2 tb2 => ?_⟩
    refine ⟨false, false, rfl, rfl, _, rfl, iteNS rfl ?_⟩
    exact ⟨_, _, _, rfl, kg.trans k2, tb2⟩
  rintro σ H16 ⟨y12, y13, y14, rfl, k16, tb16⟩
  have ht16 := k16.tup ht14
  have pa16 := pa14.kp k16
  have P16 := P14.kp k16
  clear ht14 pa14 P14 tb14 k16 S S1 od od1 o5 o10 hp1
  -- rows that hold nothing
  have S : Same H16 H16 := same_refl
  refine ⟨Nat.zero_le _, fun q13 w13 => ?_⟩
  have t13 := same_new (o := .tup []) w13
  have g13 : upd H16 q13 (.tup []) q13 = some (.tup []) := upd_same
  generalize upd H16 q13 (.tup []) = G13 at t13 g13 ⊢
  have ht16 := t13 _ _ ht16
  have pa16 := pa16.same t13
  have tb16 := tb16.same t13
  have P16 := P16.same t13
  have S := S.trans t13
  have o14 : HldOdd G13 (.ref q13) := .wrd (.len g13 (by simp))
  refine ⟨(by show 1 ≤ sizeLine; decide), fun q15 w15 => ?_⟩
  have t15 := same_new (o := .tup [.str "holds"]) w15
  have g15 : upd G13 q15 (.tup [.str "holds"]) q15 = some (.tup [.str "holds"]) := upd_same
  generalize upd G13 q15 (.tup [.str "holds"]) = G15 at t15 g15 ⊢
  have ht16 := t15 _ _ ht16
  have o14 := o14.kp (Kp.of_same t15)
  have pa16 := pa16.same t15
  have tb16 := tb16.same t15
  have P16 := P16.same t15
  have S := S.trans t15
  have o16 : HldOdd G15 (.ref q15) := .wrd (.len g15 (by simp))
  refine ⟨Nat.zero_le _, fun q17 w17 => ?_⟩
  have t17 := same_new (o := .tup []) w17
  have g17 : upd G15 q17 (.tup []) q17 = some (.tup []) := upd_same
  generalize upd G15 q17 (.tup []) = G17 at t17 g17 ⊢
  have ht16 := t17 _ _ ht16
  have o14 := o14.kp (Kp.of_same t17)
  have o16 := o16.kp (Kp.of_same t17)
  have pa16 := pa16.same t17
  have tb16 := tb16.same t17
  have P16 := P16.same t17
  have S := S.trans t17
  refine ⟨(by show 2 ≤ sizeLine; decide), fun q18 w18 => ?_⟩
  have t18 := same_new (o := .lst [.str "holds", .ref q17]) w18
  have g18 : upd G17 q18 (.lst [.str "holds", .ref q17]) q18 = some (.lst [.str "holds", .ref q17]) := upd_same
  generalize upd G17 q18 (.lst [.str "holds", .ref q17]) = G18 at t18 g18 ⊢
  have ht16 := t18 _ _ ht16
  have g17 := t18 _ _ g17
  have o14 := o14.kp (Kp.of_same t18)
  have o16 := o16.kp (Kp.of_same t18)
  have pa16 := pa16.same t18
  have tb16 := tb16.same t18
  have P16 := P16.same t18
  have S := S.trans t18
  have o19 : HldOdd G18 (.ref q18) := .wrd (.nt (.lst g18))
  refine ⟨(by show 1 ≤ sizeLine; decide), fun q20 w20 => ?_⟩
  have t20 := same_new (o := .lst [.int 0]) w20
  have g20 : upd G18 q20 (.lst [.int 0]) q20 = some (.lst [.int 0]) := upd_same
  generalize upd G18 q20 (.lst [.int 0]) = G20 at t20 g20 ⊢
  have ht16 := t20 _ _ ht16
  have o14 := o14.kp (Kp.of_same t20)
  have o16 := o16.kp (Kp.of_same t20)
  have o19 := o19.kp (Kp.of_same t20)
  have pa16 := pa16.same t20
  have tb16 := tb16.same t20
  have P16 := P16.same t20
  have S := S.trans t20
  refine ⟨(by show 2 ≤ sizeLine; decide), fun q21 w21 => ?_⟩
  have t21 := same_new (o := .tup [.str "round", .ref q20]) w21
  have g21 : upd G20 q21 (.tup [.str "round", .ref q20]) q21 = some (.tup [.str "round", .ref q20]) := upd_same
  generalize upd G20 q21 (.tup [.str "round", .ref q20]) = G21 at t21 g21 ⊢
  have ht16 := t21 _ _ ht16
  have g20 := t21 _ _ g20
  have o14 := o14.kp (Kp.of_same t21)
  have o16 := o16.kp (Kp.of_same t21)
  have o19 := o19.kp (Kp.of_same t21)
  have pa16 := pa16.same t21
  have tb16 := tb16.same t21
  have P16 := P16.same t21
  have S := S.trans t21
  have o22 : HldOdd G21 (.ref q21) := .wrd (.ns g21 (.inl (.lst g20)))
  refine ⟨(by show 1 ≤ sizeLine; decide), fun q23 w23 => ?_⟩
  have t23 := same_new (o := .lst [.int 0]) w23
  have g23 : upd G21 q23 (.lst [.int 0]) q23 = some (.lst [.int 0]) := upd_same
  generalize upd G21 q23 (.lst [.int 0]) = G23 at t23 g23 ⊢
  have ht16 := t23 _ _ ht16
  have o14 := o14.kp (Kp.of_same t23)
  have o16 := o16.kp (Kp.of_same t23)
  have o19 := o19.kp (Kp.of_same t23)
  have o22 := o22.kp (Kp.of_same t23)
  have pa16 := pa16.same t23
  have tb16 := tb16.same t23
  have P16 := P16.same t23
  have S := S.trans t23
  refine ⟨(by show 2 ≤ sizeLine; decide), fun q24 w24 => ?_⟩
  have t24 := same_new (o := .tup [.str "holds", .ref q23]) w24
  have g24 : upd G23 q24 (.tup [.str "holds", .ref q23]) q24 = some (.tup [.str "holds", .ref q23]) := upd_same
  generalize upd G23 q24 (.tup [.str "holds", .ref q23]) = G24 at t24 g24 ⊢
  have ht16 := t24 _ _ ht16
  have g23 := t24 _ _ g23
  have o14 := o14.kp (Kp.of_same t24)
  have o16 := o16.kp (Kp.of_same t24)
  have o19 := o19.kp (Kp.of_same t24)
  have o22 := o22.kp (Kp.of_same t24)
  have pa16 := pa16.same t24
  have tb16 := tb16.same t24
  have P16 := P16.same t24
  have S := S.trans t24
  have o25 : HldOdd G24 (.ref q24) := .wrd (.ns g24 (.inl (.lst g23)))
  refine ⟨(by show 7 ≤ sizeLine; decide), fun q26 w26 => ?_⟩
  have t26 := same_new (o := .lst [V.non, .str "holds", .ref q13, .ref q15, .ref q18, .ref q21, .ref q24]) w26
  have g26 : upd G24 q26 (.lst [V.non, .str "holds", .ref q13, .ref q15, .ref q18, .ref q21, .ref q24]) q26 = some (.lst [V.non, .str "holds", .ref q13, .ref q15, .ref q18, .ref q21, .ref q24]) := upd_same
  generalize upd G24 q26 (.lst [V.non, .str "holds", .ref q13, .ref q15, .ref q18, .ref q21, .ref q24]) = G26 at t26 g26 ⊢
  have ht16 := t26 _ _ ht16
  have o14 := o14.kp (Kp.of_same t26)
  have o16 := o16.kp (Kp.of_same t26)
  have o19 := o19.kp (Kp.of_same t26)
  have o22 := o22.kp (Kp.of_same t26)
  have o25 := o25.kp (Kp.of_same t26)
  have pa16 := pa16.same t26
  have tb16 := tb16.same t26
  have P16 := P16.same t26
  have S := S.trans t26
  refine ⟨_, rfl, ?_⟩
  refine ⟨Nat.zero_le _, fun q27 w27 => ?_⟩
  have t27 := same_new (o := .tup []) w27
  have g27 : upd G26 q27 (.tup []) q27 = some (.tup []) := upd_same
  generalize upd G26 q27 (.tup []) = G27 at t27 g27 ⊢
  have ht16 := t27 _ _ ht16
  have g26 := t27 _ _ g26
  have o14 := o14.kp (Kp.of_same t27)
  have o16 := o16.kp (Kp.of_same t27)
  have o19 := o19.kp (Kp.of_same t27)
  have o22 := o22.kp (Kp.of_same t27)
  have o25 := o25.kp (Kp.of_same t27)
  have pa16 := pa16.same t27
  have tb16 := tb16.same t27
  have P16 := P16.same t27
  have S := S.trans t27
  refine ⟨(by show 2 ≤ sizeLine; decide), fun q28 w28 => ?_⟩
  have t28 := same_new (o := .tup [.non, .ref q27]) w28
  have g28 : upd G27 q28 (.tup [.non, .ref q27]) q28 = some (.tup [.non, .ref q27]) := upd_same
  generalize upd G27 q28 (.tup [.non, .ref q27]) = G28 at t28 g28 ⊢
  have ht16 := t28 _ _ ht16
  have g26 := t28 _ _ g26
  have g27 := t28 _ _ g27
  have o14 := o14.kp (Kp.of_same t28)
  have o16 := o16.kp (Kp.of_same t28)
  have o19 := o19.kp (Kp.of_same t28)
  have o22 := o22.kp (Kp.of_same t28)
  have o25 := o25.kp (Kp.of_same t28)
  have pa16 := pa16.same t28
  have tb16 := tb16.same t28
  have P16 := P16.same t28
  have S := S.trans t28
  have o29 : HldOdd G28 (.ref q28) := .wrd (.word g28 .non rfl)
  refine ⟨Nat.zero_le _, fun q30 w30 => ?_⟩
  have t30 := same_new (o := .tup []) w30
  have g30 : upd G28 q30 (.tup []) q30 = some (.tup []) := upd_same
  generalize upd G28 q30 (.tup []) = G30 at t30 g30 ⊢
  have ht16 := t30 _ _ ht16
  have g26 := t30 _ _ g26
  have o14 := o14.kp (Kp.of_same t30)
  have o16 := o16.kp (Kp.of_same t30)
  have o19 := o19.kp (Kp.of_same t30)
  have o22 := o22.kp (Kp.of_same t30)
  have o25 := o25.kp (Kp.of_same t30)
  have o29 := o29.kp (Kp.of_same t30)
  have pa16 := pa16.same t30
  have tb16 := tb16.same t30
  have P16 := P16.same t30
  have S := S.trans t30
  refine ⟨(by show 2 ≤ sizeLine; decide), fun q31 w31 => ?_⟩
  have t31 := same_new (o := .tup [.str "way", .ref q30]) w31
  have g31 : upd G30 q31 (.tup [.str "way", .ref q30]) q31 = some (.tup [.str "way", .ref q30]) := upd_same
  generalize upd G30 q31 (.tup [.str "way", .ref q30]) = G31 at t31 g31 ⊢
  have ht16 := t31 _ _ ht16
  have g26 := t31 _ _ g26
  have g30 := t31 _ _ g30
  have o14 := o14.kp (Kp.of_same t31)
  have o16 := o16.kp (Kp.of_same t31)
  have o19 := o19.kp (Kp.of_same t31)
  have o22 := o22.kp (Kp.of_same t31)
  have o25 := o25.kp (Kp.of_same t31)
  have o29 := o29.kp (Kp.of_same t31)
  have pa16 := pa16.same t31
  have tb16 := tb16.same t31
  have P16 := P16.same t31
  have S := S.trans t31
  have o32 : HldOdd G31 (.ref q31) := .way g31 g30
  refine ⟨(by show 2 ≤ sizeLine; decide), fun q33 w33 => ?_⟩
  have t33 := same_new (o := .lst [V.ref q28, .ref q31]) w33
  have g33 : upd G31 q33 (.lst [V.ref q28, .ref q31]) q33 = some (.lst [V.ref q28, .ref q31]) := upd_same
  generalize upd G31 q33 (.lst [V.ref q28, .ref q31]) = G33 at t33 g33 ⊢
  have ht16 := t33 _ _ ht16
  have g26 := t33 _ _ g26
  have o14 := o14.kp (Kp.of_same t33)
  have o16 := o16.kp (Kp.of_same t33)
  have o19 := o19.kp (Kp.of_same t33)
  have o22 := o22.kp (Kp.of_same t33)
  have o25 := o25.kp (Kp.of_same t33)
  have o29 := o29.kp (Kp.of_same t33)
  have o32 := o32.kp (Kp.of_same t33)
  have pa16 := pa16.same t33
  have tb16 := tb16.same t33
  have P16 := P16.same t33
  have S := S.trans t33
  refine ⟨q26, q33, _, _, rfl, rfl, SqL.of g26, SqL.of g33, (by show 9 ≤ sizeLine; decide), fun q34 w34 => ?_⟩
  have t34 := same_new (o := .lst ([V.non, .str "holds", .ref q13, .ref q15, .ref q18, .ref q21, .ref q24] ++ [V.ref q28, .ref q31])) w34
  have g34 : upd G33 q34 (.lst ([V.non, .str "holds", .ref q13, .ref q15, .ref q18, .ref q21, .ref q24] ++ [V.ref q28, .ref q31])) q34 = some (.lst ([V.non, .str "holds", .ref q13, .ref q15, .ref q18, .ref q21, .ref q24] ++ [V.ref q28, .ref q31])) := upd_same
  generalize upd G33 q34 (.lst ([V.non, .str "holds", .ref q13, .ref q15, .ref q18, .ref q21, .ref q24] ++ [V.ref q28, .ref q31])) = G34 at t34 g34 ⊢
  have ht16 := t34 _ _ ht16
  have g26 := t34 _ _ g26
  have g33 := t34 _ _ g33
  have o14 := o14.kp (Kp.of_same t34)
  have o16 := o16.kp (Kp.of_same t34)
  have o19 := o19.kp (Kp.of_same t34)
  have o22 := o22.kp (Kp.of_same t34)
  have o25 := o25.kp (Kp.of_same t34)
  have o29 := o29.kp (Kp.of_same t34)
  have o32 := o32.kp (Kp.of_same t34)
  have pa16 := pa16.same t34
  have tb16 := tb16.same t34
  have P16 := P16.same t34
  have S := S.trans t34
  have od : ∀ z ∈ [V.non, .str "holds", .ref q13, .ref q15, .ref q18, .ref q21, .ref q24] ++ [V.ref q28, .ref q31], HldOdd G34 z := fun z mz => by
    simp only [List.cons_append, List.nil_append, List.mem_cons, List.not_mem_nil, or_false] at mz
    rcases mz with rfl | rfl | rfl | rfl | rfl | rfl | rfl | rfl | rfl
    · exact .wrd (.nt .non)
    · exact .wrd (.nt (.str _))
    · assumption
    · assumption
    · assumption
    · assumption
    · assumption
    · assumption
    · assumption
  refine ⟨q34, rfl, ⟨_, SqL.of g34⟩, for_list (xs := [V.non, .str "holds", .ref q13, .ref q15, .ref q18, .ref q21, .ref q24] ++ [V.ref q28, .ref q31]) (fun j σ G => ∃ y12 y14 : Option V, σ = [some (.ref a), some (.ref b), some (.int (0 + (i : Int))), some (.int (n : Int)), some (.ref D), some (.ref E), some (.ref f2), some (.ref t), y8, y9, y10, some (.ref l), y12, some (.ref q26), y14] ∧ Kp G34 G ∧ Tb T.tbs G) ⟨_, _, rfl, Kp.refl _, tb16⟩ (fun j σ G _ z => by obtain ⟨_, _, _, z, _⟩ := z; exact SqL.of (z.lst g34)) ?_ ?_⟩
  · rintro j z σ G hz ⟨y12, y14, rfl, kg, tbg⟩
    have mz := List.mem_of_getElem? hz
    refine ⟨_, rfl, Nat.zero_le _, fun e we => ?_⟩
    have se := same_new (o := .tup []) we
    have he : upd G e (.tup []) e = some (.tup []) := upd_same
    generalize upd G e (.tup []) = Ge at se he ⊢
    have ke : Kp G34 Ge := kg.same se
    refine ⟨e, rfl, he, .inl ⟨t, ws, rfl, ke.tup ht16, _, rfl, ?_⟩⟩
    refine ite2 (fun ne => ?_) (fun ne => ?_)
    case refine_2 => exact ⟨_, _, rfl, ke, tbg.same se⟩
    obtain ⟨m, hm⟩ : ∃ m, ws.length = m + 1 := by
      cases ws with
      | nil => cases ne
      | cons x l => exact ⟨l.length, rfl⟩
    refine ⟨_, rfl, _, rfl, _, rfl, (by show 1 ≤ sizeLine; decide), fun g wg => ?_⟩
    have sg := same_new (o := .tup [z]) wg
    refine ⟨_, rfl, t, _, rfl, .inr (SqT.of (sg _ _ (ke.tup ht16))), ?_⟩
    refine rep1A rfl rfl upd_same (by omega) (by omega) fun g2 G2 s2 h2 => ?_
    have k2 : Kp G34 G2 := (ke.same sg).same s2
    have h3 : G2 g2 = some (.tup (z :: List.replicate m z)) := by
      rw [h2, hm]
      rfl
    refine ⟨n, t, .ref g2, ws, prs os, rfl, k2.tup ht16, pa16.kp k2, .row h3 ((od z mz).kp k2), ((tbg.same se).same sg).same s2, fun G3 k3 tb3 => ?_⟩
    refine ⟨false, false, rfl, rfl, _, rfl, iteNS rfl ?_⟩
    exact ⟨_, _, rfl, k2.trans k3, tb3⟩
  rintro σ G ⟨y12, y14, rfl, kg, tbg⟩
  exact ⟨_, _, _, _, _, _, _, _, _, _, _, _, _, rfl, (P16.kp kg).le (by omega), tbg⟩
end

end My
namespace My
open PySem L2
theorem all_mk {l : PySem.W.OpenLaw} {w : World} {K : PySem.W.Frag} {h : Heap} {mg : Str → Option Value} {fa f0 f1 f2 f3 f4 f5 f6 f7 f8 f9 f10 f11 f12 f13 f14 f15 f16 f17 f18 f19 f20 f21 f22 f23 f24 f25 f26 f27 f28 : Addr} {cA PA : Addr} {eA : Value} {ddA : Option Addr} {vsA : Array Value} {sloA : Array (Option Value)} {cR PR : Addr} {eR : Value} {ddR : Option Addr} {vsR : Array Value} {sloR : Array (Option Value)} {cO PO : Addr} {eO : Value} {ddO : Option Addr} {vsO : Array Value} {sloO : Array (Option Value)} {cP PP : Addr} {eP : Value} {ddP : Option Addr} {vsP : Array Value} {sloP : Array (Option Value)} {cE PE : Addr} {eE : Value} {ddE : Option Addr} {vsE : Array Value} {sloE : Array (Option Value)} {cH PH : Addr} {eH : Value} {ddH : Option Addr} {vsH : Array Value} {sloH : Array (Option Value)} (X : K.In h) (G : h.Ns mainGlobals mg) (hfa : mg "law" = some (.ref fa))
    {od0 an0 od1 an1 od2 an2 od3 an3 od4 an4 od5 an5 od6 an6 od7 an7 od8 an8 od9 an9 od10 an10 od11 an11 od12 an12 od13 an13 od14 an14 od15 an15 od16 an16 od17 an17 od18 an18 od19 an19 od20 an20 od21 an21 od22 an22 od23 an23 od24 an24 od25 an25 od26 an26 od27 an27 od28 an28 : Option Addr} {sl0 sl1 sl2 sl3 sl4 sl5 sl6 sl7 sl8 sl9 sl10 sl11 sl12 sl13 sl14 sl15 sl16 sl17 sl18 sl19 sl20 sl21 sl22 sl23 sl24 sl25 sl26 sl27 sl28 : Array (Option Value)} {oc0 kV0 dc0 pm0 cd0 ct0 oc1 kV1 dc1 pm1 cd1 ct1 oc2 kV2 dc2 pm2 cd2 ct2 oc3 kV3 dc3 pm3 cd3 ct3 oc4 kV4 dc4 pm4 cd4 ct4 oc5 kV5 dc5 pm5 cd5 ct5 oc6 kV6 dc6 pm6 cd6 ct6 oc7 kV7 dc7 pm7 cd7 ct7 oc8 kV8 dc8 pm8 cd8 ct8 oc9 kV9 dc9 pm9 cd9 ct9 oc10 kV10 dc10 pm10 cd10 ct10 oc11 kV11 dc11 pm11 cd11 ct11 oc12 kV12 dc12 pm12 cd12 ct12 oc13 kV13 dc13 pm13 cd13 ct13 oc14 kV14 dc14 pm14 cd14 ct14 oc15 kV15 dc15 pm15 cd15 ct15 oc16 kV16 dc16 pm16 cd16 ct16 oc17 kV17 dc17 pm17 cd17 ct17 oc18 kV18 dc18 pm18 cd18 ct18 oc19 kV19 dc19 pm19 cd19 ct19 oc20 kV20 dc20 pm20 cd20 ct20 oc21 kV21 dc21 pm21 cd21 ct21 oc22 kV22 dc22 pm22 cd22 ct22 oc23 kV23 dc23 pm23 cd23 ct23 oc24 kV24 dc24 pm24 cd24 ct24 oc25 kV25 dc25 pm25 cd25 ct25 oc26 kV26 dc26 pm26 cd26 ct26 oc27 kV27 dc27 pm27 cd27 ct27 oc28 kV28 dc28 pm28 cd28 ct28 : Value}
    (a0 : PySem.W.nsIn K mainGlobals "is_whole" = some (some (.ref f0))) (l0 : K.lookup f0 = some ⟨oc0, od0, .func (PySem.W.fnOf "is_whole" "is_whole" (defArgs s_iswhole) (defBody s_iswhole) (defScope s_iswhole) .none kV0 dc0 pm0 an0 cd0 ct0), sl0⟩) (c0 : PySem.W.codeIn K cd0 "is_whole" = true) (k0 : PySem.W.keepIn K (.ref f0) = true)
    (a1 : PySem.W.nsIn K mainGlobals "are_wholes" = some (some (.ref f1))) (l1 : K.lookup f1 = some ⟨oc1, od1, .func (PySem.W.fnOf "are_wholes" "are_wholes" (defArgs s_arewholes) (defBody s_arewholes) (defScope s_arewholes) .none kV1 dc1 pm1 an1 cd1 ct1), sl1⟩) (c1 : PySem.W.codeIn K cd1 "are_wholes" = true) (k1 : PySem.W.keepIn K (.ref f1) = true)
    (a2 : PySem.W.nsIn K mainGlobals "is_rising" = some (some (.ref f2))) (l2 : K.lookup f2 = some ⟨oc2, od2, .func (PySem.W.fnOf "is_rising" "is_rising" (defArgs s_isrising) (defBody s_isrising) (defScope s_isrising) .none kV2 dc2 pm2 an2 cd2 ct2), sl2⟩) (c2 : PySem.W.codeIn K cd2 "is_rising" = true) (k2 : PySem.W.keepIn K (.ref f2) = true)
    (a3 : PySem.W.nsIn K mainGlobals "has_ring" = some (some (.ref f3))) (l3 : K.lookup f3 = some ⟨oc3, od3, .func (PySem.W.fnOf "has_ring" "has_ring" (defArgs s_hasring) (defBody s_hasring) (defScope s_hasring) .none kV3 dc3 pm3 an3 cd3 ct3), sl3⟩) (c3 : PySem.W.codeIn K cd3 "has_ring" = true) (k3 : PySem.W.keepIn K (.ref f3) = true)
    (a4 : PySem.W.nsIn K mainGlobals "top_of" = some (some (.ref f4))) (l4 : K.lookup f4 = some ⟨oc4, od4, .func (PySem.W.fnOf "top_of" "top_of" (defArgs s_topof) (defBody s_topof) (defScope s_topof) .none kV4 dc4 pm4 an4 cd4 ct4), sl4⟩) (c4 : PySem.W.codeIn K cd4 "top_of" = true) (k4 : PySem.W.keepIn K (.ref f4) = true)
    (a5 : PySem.W.nsIn K mainGlobals "as_forest" = some (some (.ref f5))) (l5 : K.lookup f5 = some ⟨oc5, od5, .func (PySem.W.fnOf "as_forest" "as_forest" (defArgs s_asforest) (defBody s_asforest) (defScope s_asforest) .none kV5 dc5 pm5 an5 cd5 ct5), sl5⟩) (c5 : PySem.W.codeIn K cd5 "as_forest" = true) (k5 : PySem.W.keepIn K (.ref f5) = true)
    (a6 : PySem.W.nsIn K mainGlobals "are_offers" = some (some (.ref f6))) (l6 : K.lookup f6 = some ⟨oc6, od6, .func (PySem.W.fnOf "are_offers" "are_offers" (defArgs s_areoffers) (defBody s_areoffers) (defScope s_areoffers) .none kV6 dc6 pm6 an6 cd6 ct6), sl6⟩) (c6 : PySem.W.codeIn K cd6 "are_offers" = true) (k6 : PySem.W.keepIn K (.ref f6) = true)
    (a7 : PySem.W.nsIn K mainGlobals "leads_on" = some (some (.ref f7))) (l7 : K.lookup f7 = some ⟨oc7, od7, .func (PySem.W.fnOf "leads_on" "leads_on" (defArgs s_leadson) (defBody s_leadson) (defScope s_leadson) .none kV7 dc7 pm7 an7 cd7 ct7), sl7⟩) (c7 : PySem.W.codeIn K cd7 "leads_on" = true) (k7 : PySem.W.keepIn K (.ref f7) = true)
    (a8 : PySem.W.nsIn K mainGlobals "shows_lightest" = some (some (.ref f8))) (l8 : K.lookup f8 = some ⟨oc8, od8, .func (PySem.W.fnOf "shows_lightest" "shows_lightest" (defArgs s_showslightest) (defBody s_showslightest) (defScope s_showslightest) .none kV8 dc8 pm8 an8 cd8 ct8), sl8⟩) (c8 : PySem.W.codeIn K cd8 "shows_lightest" = true) (k8 : PySem.W.keepIn K (.ref f8) = true)
    (a9 : PySem.W.nsIn K mainGlobals "are_kept" = some (some (.ref f9))) (l9 : K.lookup f9 = some ⟨oc9, od9, .func (PySem.W.fnOf "are_kept" "are_kept" (defArgs s_arekept) (defBody s_arekept) (defScope s_arekept) .none kV9 dc9 pm9 an9 cd9 ct9), sl9⟩) (c9 : PySem.W.codeIn K cd9 "are_kept" = true) (k9 : PySem.W.keepIn K (.ref f9) = true)
    (a10 : PySem.W.nsIn K mainGlobals "is_light_paper" = some (some (.ref f10))) (l10 : K.lookup f10 = some ⟨oc10, od10, .func (PySem.W.fnOf "is_light_paper" "is_light_paper" (defArgs s_islightpaper) (defBody s_islightpaper) (defScope s_islightpaper) .none kV10 dc10 pm10 an10 cd10 ct10), sl10⟩) (c10 : PySem.W.codeIn K cd10 "is_light_paper" = true) (k10 : PySem.W.keepIn K (.ref f10) = true)
    (a11 : PySem.W.nsIn K mainGlobals "is_light_entry" = some (some (.ref f11))) (l11 : K.lookup f11 = some ⟨oc11, od11, .func (PySem.W.fnOf "is_light_entry" "is_light_entry" (defArgs s_islightentry) (defBody s_islightentry) (defScope s_islightentry) .none kV11 dc11 pm11 an11 cd11 ct11), sl11⟩) (c11 : PySem.W.codeIn K cd11 "is_light_entry" = true) (k11 : PySem.W.keepIn K (.ref f11) = true)
    (a12 : PySem.W.nsIn K mainGlobals "is_worded" = some (some (.ref f12))) (l12 : K.lookup f12 = some ⟨oc12, od12, .func (PySem.W.fnOf "is_worded" "is_worded" (defArgs s_isworded) (defBody s_isworded) (defScope s_isworded) .none kV12 dc12 pm12 an12 cd12 ct12), sl12⟩) (c12 : PySem.W.codeIn K cd12 "is_worded" = true) (k12 : PySem.W.keepIn K (.ref f12) = true)
    (a13 : PySem.W.nsIn K mainGlobals "sets_apart" = some (some (.ref f13))) (l13 : K.lookup f13 = some ⟨oc13, od13, .func (PySem.W.fnOf "sets_apart" "sets_apart" (defArgs s_setsapart) (defBody s_setsapart) (defScope s_setsapart) .none kV13 dc13 pm13 an13 cd13 ct13), sl13⟩) (c13 : PySem.W.codeIn K cd13 "sets_apart" = true) (k13 : PySem.W.keepIn K (.ref f13) = true)
    (a14 : PySem.W.nsIn K mainGlobals "shows_holding" = some (some (.ref f14))) (l14 : K.lookup f14 = some ⟨oc14, od14, .func (PySem.W.fnOf "shows_holding" "shows_holding" (defArgs s_showsholding) (defBody s_showsholding) (defScope s_showsholding) .none kV14 dc14 pm14 an14 cd14 ct14), sl14⟩) (c14 : PySem.W.codeIn K cd14 "shows_holding" = true) (k14 : PySem.W.keepIn K (.ref f14) = true)
    (a15 : PySem.W.nsIn K mainGlobals "is_hold_entry" = some (some (.ref f15))) (l15 : K.lookup f15 = some ⟨oc15, od15, .func (PySem.W.fnOf "is_hold_entry" "is_hold_entry" (defArgs s_isholdentry) (defBody s_isholdentry) (defScope s_isholdentry) .none kV15 dc15 pm15 an15 cd15 ct15), sl15⟩) (c15 : PySem.W.codeIn K cd15 "is_hold_entry" = true) (k15 : PySem.W.keepIn K (.ref f15) = true)
    (a16 : PySem.W.nsIn K mainGlobals "is_way_round" = some (some (.ref f16))) (l16 : K.lookup f16 = some ⟨oc16, od16, .func (PySem.W.fnOf "is_way_round" "is_way_round" (defArgs s_iswayround) (defBody s_iswayround) (defScope s_iswayround) .none kV16 dc16 pm16 an16 cd16 ct16), sl16⟩) (c16 : PySem.W.codeIn K cd16 "is_way_round" = true) (k16 : PySem.W.keepIn K (.ref f16) = true)
    (a17 : PySem.W.nsIn K mainGlobals "_law_mixed" = some (some (.ref f17))) (l17 : K.lookup f17 = some ⟨oc17, od17, .func (PySem.W.fnOf "_law_mixed" "_law_mixed" (defArgs s_Lmixed) (defBody s_Lmixed) (defScope s_Lmixed) .none kV17 dc17 pm17 an17 cd17 ct17), sl17⟩) (c17 : PySem.W.codeIn K cd17 "_law_mixed" = true) (k17 : PySem.W.keepIn K (.ref f17) = true)
    (a18 : PySem.W.nsIn K mainGlobals "_law_pot" = some (some (.ref f18))) (l18 : K.lookup f18 = some ⟨oc18, od18, .func (PySem.W.fnOf "_law_pot" "_law_pot" (defArgs s_Lpot) (defBody s_Lpot) (defScope s_Lpot) .none kV18 dc18 pm18 an18 cd18 ct18), sl18⟩) (c18 : PySem.W.codeIn K cd18 "_law_pot" = true) (k18 : PySem.W.keepIn K (.ref f18) = true)
    (a19 : PySem.W.nsIn K mainGlobals "_law_take" = some (some (.ref f19))) (l19 : K.lookup f19 = some ⟨oc19, od19, .func (PySem.W.fnOf "_law_take" "_law_take" (defArgs s_Ltake) (defBody s_Ltake) (defScope s_Ltake) .none kV19 dc19 pm19 an19 cd19 ct19), sl19⟩) (c19 : PySem.W.codeIn K cd19 "_law_take" = true) (k19 : PySem.W.keepIn K (.ref f19) = true)
    (a20 : PySem.W.nsIn K mainGlobals "_law_offers" = some (some (.ref f20))) (l20 : K.lookup f20 = some ⟨oc20, od20, .func (PySem.W.fnOf "_law_offers" "_law_offers" (defArgs s_Loffers) (defBody s_Loffers) (defScope s_Loffers) .none kV20 dc20 pm20 an20 cd20 ct20), sl20⟩) (c20 : PySem.W.codeIn K cd20 "_law_offers" = true) (k20 : PySem.W.keepIn K (.ref f20) = true)
    (a21 : PySem.W.nsIn K mainGlobals "_law_way" = some (some (.ref f21))) (l21 : K.lookup f21 = some ⟨oc21, od21, .func (PySem.W.fnOf "_law_way" "_law_way" (defArgs s_Lway) (defBody s_Lway) (defScope s_Lway) .none kV21 dc21 pm21 an21 cd21 ct21), sl21⟩) (c21 : PySem.W.codeIn K cd21 "_law_way" = true) (k21 : PySem.W.keepIn K (.ref f21) = true)
    (a22 : PySem.W.nsIn K mainGlobals "_law_taken" = some (some (.ref f22))) (l22 : K.lookup f22 = some ⟨oc22, od22, .func (PySem.W.fnOf "_law_taken" "_law_taken" (defArgs s_Ltaken) (defBody s_Ltaken) (defScope s_Ltaken) .none kV22 dc22 pm22 an22 cd22 ct22), sl22⟩) (c22 : PySem.W.codeIn K cd22 "_law_taken" = true) (k22 : PySem.W.keepIn K (.ref f22) = true)
    (a23 : PySem.W.nsIn K mainGlobals "_law_kept" = some (some (.ref f23))) (l23 : K.lookup f23 = some ⟨oc23, od23, .func (PySem.W.fnOf "_law_kept" "_law_kept" (defArgs s_Lkept) (defBody s_Lkept) (defScope s_Lkept) .none kV23 dc23 pm23 an23 cd23 ct23), sl23⟩) (c23 : PySem.W.codeIn K cd23 "_law_kept" = true) (k23 : PySem.W.keepIn K (.ref f23) = true)
    (a24 : PySem.W.nsIn K mainGlobals "_law_paper" = some (some (.ref f24))) (l24 : K.lookup f24 = some ⟨oc24, od24, .func (PySem.W.fnOf "_law_paper" "_law_paper" (defArgs s_Lpaper) (defBody s_Lpaper) (defScope s_Lpaper) .none kV24 dc24 pm24 an24 cd24 ct24), sl24⟩) (c24 : PySem.W.codeIn K cd24 "_law_paper" = true) (k24 : PySem.W.keepIn K (.ref f24) = true)
    (a25 : PySem.W.nsIn K mainGlobals "_law_deep" = some (some (.ref f25))) (l25 : K.lookup f25 = some ⟨oc25, od25, .func (PySem.W.fnOf "_law_deep" "_law_deep" (defArgs s_Ldeep) (defBody s_Ldeep) (defScope s_Ldeep) .none kV25 dc25 pm25 an25 cd25 ct25), sl25⟩) (c25 : PySem.W.codeIn K cd25 "_law_deep" = true) (k25 : PySem.W.keepIn K (.ref f25) = true)
    (a26 : PySem.W.nsIn K mainGlobals "_law_odd" = some (some (.ref f26))) (l26 : K.lookup f26 = some ⟨oc26, od26, .func (PySem.W.fnOf "_law_odd" "_law_odd" (defArgs s_Lodd) (defBody s_Lodd) (defScope s_Lodd) .none kV26 dc26 pm26 an26 cd26 ct26), sl26⟩) (c26 : PySem.W.codeIn K cd26 "_law_odd" = true) (k26 : PySem.W.keepIn K (.ref f26) = true)
    (a27 : PySem.W.nsIn K mainGlobals "_law_pairs" = some (some (.ref f27))) (l27 : K.lookup f27 = some ⟨oc27, od27, .func (PySem.W.fnOf "_law_pairs" "_law_pairs" (defArgs s_Lpairs) (defBody s_Lpairs) (defScope s_Lpairs) .none kV27 dc27 pm27 an27 cd27 ct27), sl27⟩) (c27 : PySem.W.codeIn K cd27 "_law_pairs" = true) (k27 : PySem.W.keepIn K (.ref f27) = true)
    (a28 : PySem.W.nsIn K mainGlobals "law" = some (some (.ref f28))) (l28 : K.lookup f28 = some ⟨oc28, od28, .func (PySem.W.fnOf "law" "law" (defArgs s_law) (defBody s_law) (defScope s_law) .none kV28 dc28 pm28 an28 cd28 ct28), sl28⟩) (c28 : PySem.W.codeIn K cd28 "law" = true) (k28 : PySem.W.keepIn K (.ref f28) = true)
    (z0 : PySem.W.nsIn K mainGlobals "abs" = some none)
    (z1 : PySem.W.nsIn K mainGlobals "all" = some none)
    (z2 : PySem.W.nsIn K mainGlobals "bool" = some none)
    (z3 : PySem.W.nsIn K mainGlobals "enumerate" = some none)
    (z4 : PySem.W.nsIn K mainGlobals "int" = some none)
    (z5 : PySem.W.nsIn K mainGlobals "isinstance" = some none)
    (z6 : PySem.W.nsIn K mainGlobals "len" = some none)
    (z7 : PySem.W.nsIn K mainGlobals "list" = some none)
    (z8 : PySem.W.nsIn K mainGlobals "max" = some none)
    (z9 : PySem.W.nsIn K mainGlobals "range" = some none)
    (z10 : PySem.W.nsIn K mainGlobals "set" = some none)
    (z11 : PySem.W.nsIn K mainGlobals "sorted" = some none)
    (z12 : PySem.W.nsIn K mainGlobals "str" = some none)
    (z13 : PySem.W.nsIn K mainGlobals "tuple" = some none)
    (z14 : PySem.W.nsIn K mainGlobals "zip" = some none)
    (hcA : cd1 = .ref cA)
    (lcA : K.lookup cA = some ⟨eA, ddA, .fields vsA, sloA⟩)
    (v11A : vsA[11]? = some (.ref PA))
    (nPA : K.lookup PA = none)
    (hdA : PySem.W.codeHdIn K cA PA = true)
    (hcR : cd2 = .ref cR)
    (lcR : K.lookup cR = some ⟨eR, ddR, .fields vsR, sloR⟩)
    (v11R : vsR[11]? = some (.ref PR))
    (nPR : K.lookup PR = none)
    (hdR : PySem.W.codeHdIn K cR PR = true)
    (hcO : cd6 = .ref cO)
    (lcO : K.lookup cO = some ⟨eO, ddO, .fields vsO, sloO⟩)
    (v11O : vsO[11]? = some (.ref PO))
    (nPO : K.lookup PO = none)
    (hdO : PySem.W.codeHdIn K cO PO = true)
    (hcP : cd10 = .ref cP)
    (lcP : K.lookup cP = some ⟨eP, ddP, .fields vsP, sloP⟩)
    (v11P : vsP[11]? = some (.ref PP))
    (nPP : K.lookup PP = none)
    (hdP : PySem.W.codeHdIn K cP PP = true)
    (hcE : cd11 = .ref cE)
    (lcE : K.lookup cE = some ⟨eE, ddE, .fields vsE, sloE⟩)
    (v11E : vsE[11]? = some (.ref PE))
    (nPE : K.lookup PE = none)
    (hdE : PySem.W.codeHdIn K cE PE = true)
    (hcH : cd14 = .ref cH)
    (lcH : K.lookup cH = some ⟨eH, ddH, .fields vsH, sloH⟩)
    (v11H : vsH[11]? = some (.ref PH))
    (nPH : K.lookup PH = none)
    (hdH : PySem.W.codeHdIn K cH PH = true)
    (hneP : ([PA, PR, PO, PP, PE, PH] : List Addr).Nodup)
    (tabs : ∀ nm ∈ (["are_wholes", "is_rising", "are_offers", "is_light_paper", "is_light_entry", "shows_holding"] : List Str), TabAt mg h nm) : ∃ cs : List (Addr × Addr), (∀ p ∈ cs, h.get? p.2 = some { cls := .none, data := .fields #[] }) ∧ (∀ p ∈ cs, K.lookup p.2 = none) ∧ (∀ p ∈ cs, PySem.W.CodeHd h p.1 p.2) ∧
      ∀ (s : Shared) (H : Hp) (base : Heap) (a : Addr) (ns : List Int), ns.length ≤ 63 → (∀ z ∈ ns, Builtin.Int.intBits z ≤ 1048576) → (∀ p ∈ cs, LamX.TabB base mg p.1 p.2) → Env0 l.prog w K mg base callerA [] s H → (∀ p ∈ cs, H p.2 = some (.tbl #[])) → SqL K H a (ns.map V.int) →
        codeAny (model l.prog w) callerA (.call (.ref fa) ⟨[.ref a], []⟩) (CR CX0 [] l.prog w H s (fun v _ => v = .bl true) E0) s := by
  have e := hfa.symm.trans (PySem.W.mg_of X G a28)
  cases e
  have F0 := fun_mk (st := s_iswhole) l0 c0 k0
  have b0 := F0.binds (ps := ["thing"]) fun _ _ _ _ _ _ us hl => match us, hl with | [_], _ => rfl
  have F1 := fun_mk (st := s_arewholes) l1 c1 k1
  have b1 := F1.binds (ps := ["thing"]) fun _ _ _ _ _ _ us hl => match us, hl with | [_], _ => rfl
  have F2 := fun_mk (st := s_isrising) l2 c2 k2
  have b2 := F2.binds (ps := ["row"]) fun _ _ _ _ _ _ us hl => match us, hl with | [_], _ => rfl
  have F3 := fun_mk (st := s_hasring) l3 c3 k3
  have b3 := F3.binds (ps := ["ties", "many"]) fun _ _ _ _ _ _ us hl => match us, hl with | [_, _], _ => rfl
  have F4 := fun_mk (st := s_topof) l4 c4 k4
  have b4 := F4.binds (ps := ["above", "point"]) fun _ _ _ _ _ _ us hl => match us, hl with | [_, _], _ => rfl
  have F5 := fun_mk (st := s_asforest) l5 c5 k5
  have b5 := F5.binds (ps := ["many", "ties"]) fun _ _ _ _ _ _ us hl => match us, hl with | [_, _], _ => rfl
  have F6 := fun_mk (st := s_areoffers) l6 c6 k6
  have b6 := F6.binds (ps := ["offers", "thing"]) fun _ _ _ _ _ _ us hl => match us, hl with | [_, _], _ => rfl
  have F7 := fun_mk (st := s_leadson) l7 c7 k7
  have b7 := F7.binds (ps := ["offers", "numbers", "a", "b"]) fun _ _ _ _ _ _ us hl => match us, hl with | [_, _, _, _], _ => rfl
  have F8 := fun_mk (st := s_showslightest) l8 c8 k8
  have b8 := F8.binds (ps := ["many", "offers", "thing"]) fun _ _ _ _ _ _ us hl => match us, hl with | [_, _, _], _ => rfl
  have F9 := fun_mk (st := s_arekept) l9 c9 k9
  have b9 := F9.binds (ps := ["many", "offers", "thing"]) fun _ _ _ _ _ _ us hl => match us, hl with | [_, _, _], _ => rfl
  have F10 := fun_mk (st := s_islightpaper) l10 c10 k10
  have b10 := F10.binds (ps := ["offers", "kept", "thing"]) fun _ _ _ _ _ _ us hl => match us, hl with | [_, _, _], _ => rfl
  have F11 := fun_mk (st := s_islightentry) l11 c11 k11
  have b11 := F11.binds (ps := ["offers", "kept", "number", "thing"]) fun _ _ _ _ _ _ us hl => match us, hl with | [_, _, _, _], _ => rfl
  have F12 := fun_mk (st := s_isworded) l12 c12 k12
  have b12 := F12.binds (ps := ["thing"]) fun _ _ _ _ _ _ us hl => match us, hl with | [_], _ => rfl
  have F13 := fun_mk (st := s_setsapart) l13 c13 k13
  have b13 := F13.binds (ps := ["forest", "a", "b", "numbers"]) fun _ _ _ _ _ _ us hl => match us, hl with | [_, _, _, _], _ => rfl
  have F14 := fun_mk (st := s_showsholding) l14 c14 k14
  have b14 := F14.binds (ps := ["many", "offers", "thing"]) fun _ _ _ _ _ _ us hl => match us, hl with | [_, _, _], _ => rfl
  have F15 := fun_mk (st := s_isholdentry) l15 c15 k15
  have b15 := F15.binds (ps := ["many", "offers", "number", "thing"]) fun _ _ _ _ _ _ us hl => match us, hl with | [_, _, _, _], _ => rfl
  have F16 := fun_mk (st := s_iswayround) l16 c16 k16
  have b16 := F16.binds (ps := ["offers", "number", "way"]) fun _ _ _ _ _ _ us hl => match us, hl with | [_, _, _], _ => rfl
  have F17 := fun_mk (st := s_Lmixed) l17 c17 k17
  have b17 := F17.binds (ps := ["_law_cell", "_law_k"]) fun _ _ _ _ _ _ us hl => match us, hl with | [_, _], _ => rfl
  have F18 := fun_mk (st := s_Lpot) l18 c18 k18
  have b18 := F18.binds (ps := ["_law_script"]) fun _ _ _ _ _ _ us hl => match us, hl with | [_], _ => rfl
  have F19 := fun_mk (st := s_Ltake) l19 c19 k19
  have b19 := F19.binds (ps := ["_law_pot_here", "_law_many"]) fun _ _ _ _ _ _ us hl => match us, hl with | [_, _], _ => rfl
  have F20 := fun_mk (st := s_Loffers) l20 c20 k20
  have b20 := F20.binds (ps := ["_law_pot_here"]) fun _ _ _ _ _ _ us hl => match us, hl with | [_], _ => rfl
  have F21 := fun_mk (st := s_Lway) l21 c21 k21
  have b21 := F21.binds (ps := ["_law_offers_here", "_law_kept_here", "_law_a", "_law_b"]) fun _ _ _ _ _ _ us hl => match us, hl with | [_, _, _, _], _ => rfl
  have F22 := fun_mk (st := s_Ltaken) l22 c22 k22
  have b22 := F22.binds (ps := ["_law_offers_here", "_law_kept_here", "_law_number"]) fun _ _ _ _ _ _ us hl => match us, hl with | [_, _, _], _ => rfl
  have F23 := fun_mk (st := s_Lkept) l23 c23 k23
  have b23 := F23.binds (ps := ["_law_offers_here"]) fun _ _ _ _ _ _ us hl => match us, hl with | [_], _ => rfl
  have F24 := fun_mk (st := s_Lpaper) l24 c24 k24
  have b24 := F24.binds (ps := ["_law_offers_here", "_law_kept_here"]) fun _ _ _ _ _ _ us hl => match us, hl with | [_, _], _ => rfl
  have F25 := fun_mk (st := s_Ldeep) l25 c25 k25
  have b25 := F25.binds (ps := ["_law_pot_here"]) fun _ _ _ _ _ _ us hl => match us, hl with | [_], _ => rfl
  have F26 := fun_mk (st := s_Lodd) l26 c26 k26
  have b26 := F26.binds (ps := ["_law_thing"]) fun _ _ _ _ _ _ us hl => match us, hl with | [_], _ => rfl
  have F27 := fun_mk (st := s_Lpairs) l27 c27 k27
  have b27 := F27.binds (ps := ["_law_kept_here", "_law_paper_here"]) fun _ _ _ _ _ _ us hl => match us, hl with | [_, _], _ => rfl
  have F28 := fun_mk (st := s_law) l28 c28 k28
  have b28 := F28.binds (ps := ["_law_script"]) fun _ _ _ _ _ _ us hl => match us, hl with | [_], _ => rfl
  let T : Top K mg := ⟨_, _, F0, b0, PySem.W.mg_of X G a0, _, _, F1, b1, PySem.W.mg_of X G a1, _, _, F2, b2, PySem.W.mg_of X G a2, _, _, F3, b3, PySem.W.mg_of X G a3, _, _, F4, b4, PySem.W.mg_of X G a4, _, _, F5, b5, PySem.W.mg_of X G a5, _, _, F6, b6, PySem.W.mg_of X G a6, _, _, F7, b7, PySem.W.mg_of X G a7, _, _, F8, b8, PySem.W.mg_of X G a8, _, _, F9, b9, PySem.W.mg_of X G a9, _, _, F10, b10, PySem.W.mg_of X G a10, _, _, F11, b11, PySem.W.mg_of X G a11, _, _, F12, b12, PySem.W.mg_of X G a12, _, _, F13, b13, PySem.W.mg_of X G a13, _, _, F14, b14, PySem.W.mg_of X G a14, _, _, F15, b15, PySem.W.mg_of X G a15, _, _, F16, b16, PySem.W.mg_of X G a16, _, _, F17, b17, PySem.W.mg_of X G a17, _, _, F18, b18, PySem.W.mg_of X G a18, _, _, F19, b19, PySem.W.mg_of X G a19, _, _, F20, b20, PySem.W.mg_of X G a20, _, _, F21, b21, PySem.W.mg_of X G a21, _, _, F22, b22, PySem.W.mg_of X G a22, _, _, F23, b23, PySem.W.mg_of X G a23, _, _, F24, b24, PySem.W.mg_of X G a24, _, _, F25, b25, PySem.W.mg_of X G a25, _, _, F26, b26, PySem.W.mg_of X G a26, _, _, F27, b27, PySem.W.mg_of X G a27, _, _, F28, b28, PySem.W.mg_of X G a28, PySem.W.mg_none_of X G z0, PySem.W.mg_none_of X G z1, PySem.W.mg_none_of X G z2, PySem.W.mg_none_of X G z3, PySem.W.mg_none_of X G z4, PySem.W.mg_none_of X G z5, PySem.W.mg_none_of X G z6, PySem.W.mg_none_of X G z7, PySem.W.mg_none_of X G z8, PySem.W.mg_none_of X G z9, PySem.W.mg_none_of X G z10, PySem.W.mg_none_of X G z11, PySem.W.mg_none_of X G z12, PySem.W.mg_none_of X G z13, PySem.W.mg_none_of X G z14, cA, PA, hcA, cR, PR, hcR, cO, PO, hcO, cP, PP, hcP, cE, PE, hcE, cH, PH, hcH, hneP⟩
  refine ⟨[(cA, PA), (cR, PR), (cO, PO), (cP, PP), (cE, PE), (cH, PH)], ?_, ?_, ?_, fun s H base a ns hlen hbits tb e0 th sq => ?_⟩
  · intro p hp
    rcases mem6 hp with rfl | rfl | rfl | rfl | rfl | rfl
    · exact tab_empty (tabs _ List.mem_cons_self) X (PySem.W.mg_of X G a1) l1 rfl hcA lcA v11A
    · exact tab_empty (tabs _ (List.mem_cons_of_mem _ List.mem_cons_self)) X (PySem.W.mg_of X G a2) l2 rfl hcR lcR v11R
    · exact tab_empty (tabs _ (List.mem_cons_of_mem _ (List.mem_cons_of_mem _ List.mem_cons_self))) X (PySem.W.mg_of X G a6) l6 rfl hcO lcO v11O
    · exact tab_empty (tabs _ (List.mem_cons_of_mem _ (List.mem_cons_of_mem _ (List.mem_cons_of_mem _ List.mem_cons_self)))) X (PySem.W.mg_of X G a10) l10 rfl hcP lcP v11P
    · exact tab_empty (tabs _ (List.mem_cons_of_mem _ (List.mem_cons_of_mem _ (List.mem_cons_of_mem _ (List.mem_cons_of_mem _ List.mem_cons_self))))) X (PySem.W.mg_of X G a11) l11 rfl hcE lcE v11E
    · exact tab_empty (tabs _ (List.mem_cons_of_mem _ (List.mem_cons_of_mem _ (List.mem_cons_of_mem _ (List.mem_cons_of_mem _ (List.mem_cons_of_mem _ List.mem_cons_self)))))) X (PySem.W.mg_of X G a14) l14 rfl hcH lcH v11H
  · intro p hp
    rcases mem6 hp with rfl | rfl | rfl | rfl | rfl | rfl
    · exact nPA
    · exact nPR
    · exact nPO
    · exact nPP
    · exact nPE
    · exact nPH
  · intro p hp
    rcases mem6 hp with rfl | rfl | rfl | rfl | rfl | rfl
    · exact PySem.W.codeHd_of_K X hdA
    · exact PySem.W.codeHd_of_K X hdR
    · exact PySem.W.codeHd_of_K X hdO
    · exact PySem.W.codeHd_of_K X hdP
    · exact PySem.W.codeHd_of_K X hdE
    · exact PySem.W.codeHd_of_K X hdH
  · exact run_law T ⟨(tb _ List.mem_cons_self).code, (tb _ List.mem_cons_self).bm, (tb _ List.mem_cons_self).gP⟩ ⟨(tb _ (List.mem_cons_of_mem _ List.mem_cons_self)).code, (tb _ (List.mem_cons_of_mem _ List.mem_cons_self)).bm, (tb _ (List.mem_cons_of_mem _ List.mem_cons_self)).gP⟩ ⟨(tb _ (List.mem_cons_of_mem _ (List.mem_cons_of_mem _ List.mem_cons_self))).code, (tb _ (List.mem_cons_of_mem _ (List.mem_cons_of_mem _ List.mem_cons_self))).bm, (tb _ (List.mem_cons_of_mem _ (List.mem_cons_of_mem _ List.mem_cons_self))).gP⟩ ⟨(tb _ (List.mem_cons_of_mem _ (List.mem_cons_of_mem _ (List.mem_cons_of_mem _ List.mem_cons_self)))).code, (tb _ (List.mem_cons_of_mem _ (List.mem_cons_of_mem _ (List.mem_cons_of_mem _ List.mem_cons_self)))).bm, (tb _ (List.mem_cons_of_mem _ (List.mem_cons_of_mem _ (List.mem_cons_of_mem _ List.mem_cons_self)))).gP⟩ ⟨(tb _ (List.mem_cons_of_mem _ (List.mem_cons_of_mem _ (List.mem_cons_of_mem _ (List.mem_cons_of_mem _ List.mem_cons_self))))).code, (tb _ (List.mem_cons_of_mem _ (List.mem_cons_of_mem _ (List.mem_cons_of_mem _ (List.mem_cons_of_mem _ List.mem_cons_self))))).bm, (tb _ (List.mem_cons_of_mem _ (List.mem_cons_of_mem _ (List.mem_cons_of_mem _ (List.mem_cons_of_mem _ List.mem_cons_self))))).gP⟩ ⟨(tb _ (List.mem_cons_of_mem _ (List.mem_cons_of_mem _ (List.mem_cons_of_mem _ (List.mem_cons_of_mem _ (List.mem_cons_of_mem _ List.mem_cons_self)))))).code, (tb _ (List.mem_cons_of_mem _ (List.mem_cons_of_mem _ (List.mem_cons_of_mem _ (List.mem_cons_of_mem _ (List.mem_cons_of_mem _ List.mem_cons_self)))))).bm, (tb _ (List.mem_cons_of_mem _ (List.mem_cons_of_mem _ (List.mem_cons_of_mem _ (List.mem_cons_of_mem _ (List.mem_cons_of_mem _ List.mem_cons_self)))))).gP⟩ e0 (th _ List.mem_cons_self) (th _ (List.mem_cons_of_mem _ List.mem_cons_self)) (th _ (List.mem_cons_of_mem _ (List.mem_cons_of_mem _ List.mem_cons_self))) (th _ (List.mem_cons_of_mem _ (List.mem_cons_of_mem _ (List.mem_cons_of_mem _ List.mem_cons_self)))) (th _ (List.mem_cons_of_mem _ (List.mem_cons_of_mem _ (List.mem_cons_of_mem _ (List.mem_cons_of_mem _ List.mem_cons_self))))) (th _ (List.mem_cons_of_mem _ (List.mem_cons_of_mem _ (List.mem_cons_of_mem _ (List.mem_cons_of_mem _ (List.mem_cons_of_mem _ List.mem_cons_self)))))) sq hlen ⟨rfl, by decide, by decide⟩ (fun s u => .of_eq rfl)
end My
open PySem PySem.W PyProof.Rows
set_option maxRecDepth 100000 in
set_option maxHeartbeats 0 in
theorem PySem.Challenge.cw_tiedcut_k72_papers_of_anything_holds : PySem.Challenge.rw_tiedcut_k72_papers_of_anything.Holds := by
  w_on; o_law; k_head; (case hw => w_witness2)
  k_fill
  refine My.walk_law0 (l := PySem.Challenge.rw_tiedcut_k72_papers_of_anything) (most := 63) ["are_wholes", "is_rising", "are_offers", "is_light_paper", "is_light_entry", "shows_holding"] rfl (by decide) rfl (by decide +kernel) (fun w h Y => by first | exact PySem.W.kIn_of Y | exact PySem.W.km_in_of Y) ?F
  case F =>
    intro w mg fa h KX G hmg tabs
    refine' My.all_mk KX G hmg ?a0 ?l0 ?c0 ?k0 ?a1 ?l1 ?c1 ?k1 ?a2 ?l2 ?c2 ?k2 ?a3 ?l3 ?c3 ?k3 ?a4 ?l4 ?c4 ?k4 ?a5 ?l5 ?c5 ?k5 ?a6 ?l6 ?c6 ?k6 ?a7 ?l7 ?c7 ?k7 ?a8 ?l8 ?c8 ?k8 ?a9 ?l9 ?c9 ?k9 ?a10 ?l10 ?c10 ?k10 ?a11 ?l11 ?c11 ?k11 ?a12 ?l12 ?c12 ?k12 ?a13 ?l13 ?c13 ?k13 ?a14 ?l14 ?c14 ?k14 ?a15 ?l15 ?c15 ?k15 ?a16 ?l16 ?c16 ?k16 ?a17 ?l17 ?c17 ?k17 ?a18 ?l18 ?c18 ?k18 ?a19 ?l19 ?c19 ?k19 ?a20 ?l20 ?c20 ?k20 ?a21 ?l21 ?c21 ?k21 ?a22 ?l22 ?c22 ?k22 ?a23 ?l23 ?c23 ?k23 ?a24 ?l24 ?c24 ?k24 ?a25 ?l25 ?c25 ?k25 ?a26 ?l26 ?c26 ?k26 ?a27 ?l27 ?c27 ?k27 ?a28 ?l28 ?c28 ?k28 ?z0 ?z1 ?z2 ?z3 ?z4 ?z5 ?z6 ?z7 ?z8 ?z9 ?z10 ?z11 ?z12 ?z13 ?z14 ?hcA ?lcA ?v11A ?nPA ?hdA ?hcR ?lcR ?v11R ?nPR ?hdR ?hcO ?lcO ?v11O ?nPO ?hdO ?hcP ?lcP ?v11P ?nPP ?hdP ?hcE ?lcE ?v11E ?nPE ?hdE ?hcH ?lcH ?v11H ?nPH ?hdH ?hneP tabs
    (case a0 => k_is)
    (case l0 => k_is)
    (case c0 => k_is)
    (case k0 => k_is)
    (case a1 => k_is)
    (case l1 => k_is)
    (case c1 => k_is)
    (case k1 => k_is)
    (case a2 => k_is)
    (case l2 => k_is)
    (case c2 => k_is)
    (case k2 => k_is)
    (case a3 => k_is)
    (case l3 => k_is)
    (case c3 => k_is)
    (case k3 => k_is)
    (case a4 => k_is)
    (case l4 => k_is)
    (case c4 => k_is)
    (case k4 => k_is)
    (case a5 => k_is)
    (case l5 => k_is)
    (case c5 => k_is)
    (case k5 => k_is)
    (case a6 => k_is)
    (case l6 => k_is)
    (case c6 => k_is)
    (case k6 => k_is)
    (case a7 => k_is)
    (case l7 => k_is)
    (case c7 => k_is)
    (case k7 => k_is)
    (case a8 => k_is)
    (case l8 => k_is)
    (case c8 => k_is)
    (case k8 => k_is)
    (case a9 => k_is)
    (case l9 => k_is)
    (case c9 => k_is)
    (case k9 => k_is)
    (case a10 => k_is)
    (case l10 => k_is)
    (case c10 => k_is)
    (case k10 => k_is)
    (case a11 => k_is)
    (case l11 => k_is)
    (case c11 => k_is)
    (case k11 => k_is)
    (case a12 => k_is)
    (case l12 => k_is)
    (case c12 => k_is)
    (case k12 => k_is)
    (case a13 => k_is)
    (case l13 => k_is)
    (case c13 => k_is)
    (case k13 => k_is)
    (case a14 => k_is)
    (case l14 => k_is)
    (case c14 => k_is)
    (case k14 => k_is)
    (case a15 => k_is)
    (case l15 => k_is)
    (case c15 => k_is)
    (case k15 => k_is)
    (case a16 => k_is)
    (case l16 => k_is)
    (case c16 => k_is)
    (case k16 => k_is)
    (case a17 => k_is)
    (case l17 => k_is)
    (case c17 => k_is)
    (case k17 => k_is)
    (case a18 => k_is)
    (case l18 => k_is)
    (case c18 => k_is)
    (case k18 => k_is)
    (case a19 => k_is)
    (case l19 => k_is)
    (case c19 => k_is)
    (case k19 => k_is)
    (case a20 => k_is)
    (case l20 => k_is)
    (case c20 => k_is)
    (case k20 => k_is)
    (case a21 => k_is)
    (case l21 => k_is)
    (case c21 => k_is)
    (case k21 => k_is)
    (case a22 => k_is)
    (case l22 => k_is)
    (case c22 => k_is)
    (case k22 => k_is)
    (case a23 => k_is)
    (case l23 => k_is)
    (case c23 => k_is)
    (case k23 => k_is)
    (case a24 => k_is)
    (case l24 => k_is)
    (case c24 => k_is)
    (case k24 => k_is)
    (case a25 => k_is)
    (case l25 => k_is)
    (case c25 => k_is)
    (case k25 => k_is)
    (case a26 => k_is)
    (case l26 => k_is)
    (case c26 => k_is)
    (case k26 => k_is)
    (case a27 => k_is)
    (case l27 => k_is)
    (case c27 => k_is)
    (case k27 => k_is)
    (case a28 => k_is)
    (case l28 => k_is)
    (case c28 => k_is)
    (case k28 => k_is)
    (case z0 => k_is)
    (case z1 => k_is)
    (case z2 => k_is)
    (case z3 => k_is)
    (case z4 => k_is)
    (case z5 => k_is)
    (case z6 => k_is)
    (case z7 => k_is)
    (case z8 => k_is)
    (case z9 => k_is)
    (case z10 => k_is)
    (case z11 => k_is)
    (case z12 => k_is)
    (case z13 => k_is)
    (case z14 => k_is)
    (case hcA => rfl)
    (case lcA => k_is)
    (case v11A => rfl)
    (case nPA => kernel_rfl)
    (case hdA => kernel_rfl)
    (case hcR => rfl)
    (case lcR => k_is)
    (case v11R => rfl)
    (case nPR => kernel_rfl)
    (case hdR => kernel_rfl)
    (case hcO => rfl)
    (case lcO => k_is)
    (case v11O => rfl)
    (case nPO => kernel_rfl)
    (case hdO => kernel_rfl)
    (case hcP => rfl)
    (case lcP => k_is)
    (case v11P => rfl)
    (case nPP => kernel_rfl)
    (case hdP => kernel_rfl)
    (case hcE => rfl)
    (case lcE => k_is)
    (case v11E => rfl)
    (case nPE => kernel_rfl)
    (case hdE => kernel_rfl)
    (case hcH => rfl)
    (case lcH => k_is)
    (case v11H => rfl)
    (case nPH => kernel_rfl)
    (case hdH => kernel_rfl)
    (case hneP => decide +kernel)
