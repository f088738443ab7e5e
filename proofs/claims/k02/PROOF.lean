import PyProof.Rows.All
import Wide.All
import OpenK.AllK
import Wide.FinOn
import HandS.ForMost
import HandS.More
import HandS.Sort
import HandS.Wide
import HandS.WideBits
import HandS.IsInst
import HandS.EndBits
import HandS.Exc
import HandS.ExcOwn
import HandS.ExcValue
import HandS.ExcInit
import HandS.ExcField
import HandS.WordsExc
import KE.KExcIs
import HandS.TupLe
import HandS.TupAny
import HandS.Zip
import HandS.Walk
import HandS.Star
import HandS.Style
import HandS.CallLocal
import HandS.Deep
import HandS.AnyAll
import HandS.GenOver
import HandS.EndTab
import HandS.Lambda
import PyProof.TupleOfGen
import PyProof.GenCompD
import PyProof.EqLayable
import HandS.SortInts
import HandS.RaiseMore
import HandS.SetFor
import HandS.Strs
import HandS.SortRule
import HandS.TryOnly
import HandS.Set
import HandS.Flow
import HandS.TupLen
import KE.KDictPairs
import KE.DataFind
import KE.GoesMore
import HandS.RevTup
import HandS.Rev
import HandS.Text
import HandS.StrMore
import HandS.Replace
import PyProof.StrLawsAffix
import PyProof.JoinWalk
import HandS.Conv
import HandS.Iter
import KE.KUnpackStar
import HandS.DictComp
import HandS.TupSets
import HandS.TupMul
import HandS.RevTup
import PySem.Challenge.RW_tiedcut_k02_forests_of_anything
set_option Elab.async false
set_option linter.all false
set_option maxRecDepth 100000
set_option maxHeartbeats 4000000
namespace My
open PySem PySem.Spec PyProof.Rows L2
/-! ### a generator expression, consumed by all: its own frame -/
def gcx (X : Cx) (s : Shared) (H : Hp) (ge : Env) (fp : List Addr) (Ag : Around) : Cx :=
  { X with A := Ag, s_0 := s, H_0 := H, env := ge, outer := X.stack, stack := ge :: X.stack, ex := fp, fn := fun _ => false, pn := [], xe := fun _ _ => False }
section
variable {X : Cx} {pins : List (Addr × Obj)} {σ : L2.St} {H : Hp} {s : Shared}
theorem clo_in {scope : Scope} {own : List (Str × Nat)} (I : Inv X pins σ H s) (ok : BlkOk X.N X.env.scope scope own) {y : Str} {c : Addr} (hm : (y, c) ∈ cloFrom X.env.cells scope.names []) : X.env.cells.lookup y = some c ∧ c < s.heap.objs.size ∧ (y, NameKind.free) ∈ scope.names := by
  rcases cloFrom_mem hm with z | ⟨h1, rfl⟩
  · cases z
  · have hc : ∃ c, X.env.cells.lookup y = some c := by
      rcases ok.free _ h1 rfl with k | k
      · exact I.ok.has _ (.inl k)
      · exact I.ok.has _ (.inr k)
    obtain ⟨c, hc⟩ := hc
    obtain ⟨v, z⟩ := I.cell _ _ hc
    rw [hc]
    exact ⟨rfl, z.lt, h1⟩
theorem gen_start {scope : Scope} {own : List (Str × Nat)} {fp : List Addr} {ge : Env} {code : Value} {Ag : Around} {s5 : Shared} {m : Str → Option Value} {ga : Addr} {go : Obj} (I : Inv X pins σ H s) (ok : BlkOk X.N X.env.scope scope own) (hN : X.N.Nodup)
    (hfp : ∀ b ∈ fp, FpOk X pins H b ∧ b < s.heap.objs.size) (hge : ge = genEnv scope (cloFrom X.env.cells scope.names []) s.heap.objs.size code builtinsNs X.env) (nocell : ∀ y ∈ scope.names, y.2 ≠ .cell)
    (hA : Ag.handled = none) (hfr : Ag.frames = some (ge :: X.stack)) (k5 : ∀ b o, s.heap.get? b = some o → s5.heap.get? b = some o) (os5 : s5.os = s.os) (bare5 : AllBare s5.gens)
    (ns5 : s5.heap.Ns s.heap.objs.size m) (hga : s5.heap.get? ga = some go) (hgt : s.heap.objs.size < ga) (hgd : ∀ v, go.data ≠ .cell v) :
    Inv (gcx X s H ge fp Ag) [(ga, go)] (wipe σ (own.map (·.2))) H s5 := by
  have hL : ge.locals = s.heap.objs.size := by
    rw [hge]
    rfl
  have hC : ge.cells = cloFrom X.env.cells scope.names [] := by
    rw [hge]
    rfl
  have hS : ge.scope = scope := by
    rw [hge]
    rfl
  have inC : ∀ {y c}, ge.cells.lookup y = some c → X.env.cells.lookup y = some c ∧ c < s.heap.objs.size := fun {y c} e => by
    rw [hC] at e
    have z := clo_in I ok (PySem.mem_of_lookup e)
    exact ⟨z.1, z.2.1⟩
  have look : ∀ {y}, scope.names.lookup y = some .free → ∃ c, ge.cells.lookup y = some c ∧ X.env.cells.lookup y = some c := fun {y} hl => by
    have hm := cloFrom_has (cells := X.env.cells) (acc := []) (PySem.mem_of_lookup hl)
    obtain ⟨c, e⟩ := mem_lookup hm
    rw [← hC] at e
    exact ⟨c, e, (inC e).1⟩
  have kindF : ∀ {y k}, scope.names.lookup y = some k → (k = .cell ∨ k = .free) → scope.names.lookup y = some .free := fun {y k} e hk => by
    rcases hk with rfl | rfl
    · exact absurd rfl (nocell _ (PySem.mem_of_lookup e))
    · exact e
  have okG : (gcx X s H ge fp Ag).Ok := by
    refine ⟨I.ok.mod, ?_, ?_, ?_, ?_, ?_, ?_, ?_, fun _ => hA, hfr, .inr ⟨rfl, ?_⟩, ?_, I.bs, Nat.le_trans I.ok.bsz I.sz, ?_, ?_, I.stack, I.stkFree⟩
    · show ge.scope.kind = .function
      rw [hS]
      exact ok.kind
    · show ge.globals = mainGlobals
      rw [hge]
      exact I.ok.glob
    · show ge.builtins = builtinsNs
      rw [hge]
      rfl
    · show s.heap.objs.size ≤ ge.locals
      rw [hL]
      exact Nat.le_refl _
    · intro y z c e1 e2
      exact I.ok.inj y z c (inC e1).1 (inC e2).1
    · intro y hy
      have e : scope.names.lookup y = some .free := by
        rcases hy with hy | hy
        · have hy2 : ge.scope.names.lookup y = some .cell := hy
          rw [hS] at hy2
          exact kindF hy2 (.inl rfl)
        · have hy2 : ge.scope.names.lookup y = some .free := hy
          rw [hS] at hy2
          exact hy2
      obtain ⟨c, e1, _⟩ := look e
      exact ⟨c, e1⟩
    · intro y c z
      cases z
    · show ge.frame = some ge.locals
      rw [hge]
      rfl
    · intro b hb
      refine ⟨?_, fun y c e z => ?_⟩
      · show b ≠ ge.locals
        rw [hL]
        exact Nat.ne_of_lt (hfp b hb).2
      · exact (hfp b hb).1.2.2.2.2.1 y c (inC e).1 z
    · intro b o e hb
      rcases (hfp b hb).1.2.2.2.1 with z | z
      · exact I.ok.noex b o e z
      · exact absurd (Nat.lt_of_lt_of_le (Heap.lt_size e) (Nat.le_trans I.ok.bsz z)) (Nat.lt_irrefl _)
    · intro b hb z
      rcases List.mem_cons.mp (I.stkSub b z) with z | z
      · exact (hfp b hb).1.2.1 z
      · exact (hfp b hb).1.2.2.1 z
  have frL : H s.heap.objs.size = none := I.hok.fresh (Nat.le_refl _)
  refine ⟨okG, os5, bare5, Un.kept k5, ⟨m, ?_, fun i y av e1 e2 e3 => ?_⟩, fun y c e => ?_, ?_, fun y c e => I.freeC y c (inC e).1, fun p hp => ?_, I.hok.kept k5, by rw [wipe_length]; exact I.len⟩
  · show s5.heap.Ns ge.locals m
    rw [hL]
    exact ns5
  · obtain ⟨e2, hne⟩ := wipe_some e2
    have e3 : Vis ge.scope y := e3
    rw [hS] at e3
    have nol : scope.names.lookup y ≠ some .local := fun z => by
      rcases ok.own _ (PySem.mem_of_lookup z) (.inl rfl) with q | q
      · obtain ⟨p, hp, hpy⟩ := List.mem_map.mp q
        have e5 := ok.ix p hp
        have e6 : p.1 = y := hpy
        rw [e6] at e5
        exact hne (List.mem_map.mpr ⟨p, hp, nodup_ix hN e5 e1⟩)
      · exact q (List.mem_of_getElem? e1)
    have hf : scope.names.lookup y = some .free := by
      rcases e3 with z | z | z
      · exact absurd z nol
      · exact kindF z (.inl rfl)
      · exact z
    obtain ⟨m0, hn, hl⟩ := I.loc
    have hvis : Vis X.env.scope y := (ok.free _ (PySem.mem_of_lookup hf) rfl).elim (fun k => .inr (.inl k)) (fun k => .inr (.inr k))
    obtain ⟨u, r, q⟩ := hl i y av e1 e2 hvis
    obtain ⟨c, g1, g2⟩ := look hf
    refine ⟨u, r, .inr ⟨.inr ?_, c, g1, ?_⟩⟩
    · show ge.scope.names.lookup y = some .free
      rw [hS]
      exact hf
    · rcases q with ⟨k, _⟩ | ⟨_, c', e', z⟩
      · have k : X.env.scope.names.lookup y = some .local := k
        rcases ok.free _ (PySem.mem_of_lookup hf) rfl with k' | k'
        · have k2 : X.env.scope.names.lookup y = some .cell := k'
          rw [k2] at k
          cases k
        · have k2 : X.env.scope.names.lookup y = some .free := k'
          rw [k2] at k
          cases k
      · rw [g2] at e'
        cases e'
        exact z.keeps k5
  · obtain ⟨v, z⟩ := I.cell y c (inC e).1
    exact ⟨v, z.keeps k5⟩
  · show H ge.locals = none
    rw [hL]
    exact frL
  · have hp2 : p ∈ ([] : List (Addr × Obj)) ++ [(ga, go)] := hp
    rw [List.nil_append] at hp2
    rcases List.mem_cons.mp hp2 with e | e
    · subst e
      refine ⟨hga, I.hok.fresh (Nat.le_of_lt hgt), ?_, fun z => ?_, hgd⟩
      · show ga ≠ ge.locals
        rw [hL]
        exact Nat.ne_of_gt hgt
      · have z2 : ga ∈ frs X.stack := z
        obtain ⟨_, o, ho, _⟩ := I.stack.mem z2
        exact absurd (Nat.lt_trans (Heap.lt_size ho) hgt) (Nat.lt_irrefl _)
    · cases e
end
section
variable {X : Cx} {pins : List (Addr × Obj)} {σ : L2.St} {H : Hp} {s : Shared}
/-- the generator's object -/
def genO (X : Cx) (s4 : Shared) : Obj := { cls := .type "generator", data := .fields #[.int s4.gens.size 0, .str "<genexpr>" (s4.toks + 1), .str (X.env.qual ++ "<genexpr>") (s4.toks + 1 + 1)] }
/-- the generator is made: its source has come, the def's table may have grown -/
theorem gen_make {c P : Addr} {elt tg iter : Expr} {gpos : Pos} {scope : Scope} {own : List (Str × Nat)} {wi : TI} {k : Nat} {Q' : Value → Shared → Prop} {R : It → Hp → Prop} (hr : Room k X.A) (TB : GxR.TabB X.base X.mg c P) (hcode : X.env.code = .ref c)
    (ok : BlkOk X.N X.env.scope scope own) (hco : scope.isCoroutine = false) (nocell : ∀ y ∈ scope.names, y.2 ≠ .cell) (hdot : scope.names.lookup (".0" : Str) = some NameKind.local) (hi : PI X tg iter wi) (hs : ∀ v, genFold iter X.env v = pure v)
    (I : Inv X pins σ H s) (h : wi σ H fun J H1 => GxR.TabG H1 P ∧ R J H1)
    (hQ : ∀ (it : Addr) (fp : List Addr) (tn : Nat → Heap → Prop) (J : It) (H1 H2 : Hp) (code : Value) (s4 : Shared) (h5 : Heap), Inv X pins σ H2 s4 → GxR.Tabbed P H1 H2 → Turn X.prog X.w X.K tg J fp it tn → tn 0 s4.heap →
      (∀ b ∈ fp, FpOk X pins H2 b ∧ b < s4.heap.objs.size) → R J H1 → h5.Ns s4.heap.objs.size (fun y => if y = ".0" then some (.ref it) else none) → Heap.SameBut s4.heap.objs.size (s4.heap.push { cls := .type "frame", data := .dict #[] }) h5 →
      Q' (.ref h5.objs.size) { s4 with gens := s4.gens.push (.fresh (.compStart (.GeneratorExp elt [⟨tg, iter, [], 0⟩] scope gpos) 0 (.ref it) .none (genEnv scope (cloFrom X.env.cells scope.names []) s4.heap.objs.size code builtinsNs X.env))), toks := s4.toks + 1 + 1 + 1, heap := h5.push (genO X s4) }) :
    wpAny (model X.prog X.w) X.A (eval (.GeneratorExp elt [⟨tg, iter, [], 0⟩] scope gpos) X.env) Q' X.xe s := by
  have hfree : ∀ y ∈ scope.names, y.2 = .free → ∃ c, X.env.cells.lookup y.1 = some c := fun y hy e => by
    rcases ok.free y hy e with z | z
    · exact I.ok.has _ (.inl z)
    · exact I.ok.has _ (.inr z)
  refine wpAny_GeneratorExp_make hco (closure_ok hfree) nocell hdot ok.kind (by have := hr.dp; omega) ?_ hs
  refine thn (hi.run pins s σ H _ I h) fun xv s1 hx => thn hx fun itv s2 h2 => ?_
  obtain ⟨it, fp, tn, J, H1, rfl, I1, T, st, f1, ⟨ps, hP, ht⟩, q1⟩ := h2
  have hPs : s2.heap.get? P = some { cls := .none, data := .fields ps } := I1.hok P _ hP
  have cd : PySem.W.CodeHd s2.heap c P := TB.code.keeps fun b u e => I1.bk b u e
  have nP : ∀ b, H1 b = none → b ≠ P := fun b e z => by
    rw [z, hP] at e
    cases e
  have fsz : ∀ b ∈ fp, b < s2.heap.objs.size := fun b hb => by
    obtain ⟨o, e, _⟩ := T.obj _ _ st b hb
    exact Heap.lt_size e
  have cont : ∀ (code : Value) (h3 : Heap) (tk : Nat) (ps' : Array Value), Heap.ExtBut P s2.heap h3 → s2.heap.objs.size ≤ h3.objs.size → h3.get? P = some { cls := .none, data := .fields ps' } → (∃ more, ps' = ps ++ more) → TriplesOk ps'.toList →
      wpAny (model X.prog X.w) X.A (builtinsFor X.env.globals X.env.builtins) (fun bi s4 => ∀ h5, h5.Ns s4.heap.objs.size (fun y => if y = ".0" then some (.ref it) else none) → Heap.SameBut s4.heap.objs.size (s4.heap.push { cls := .type "frame", data := .dict #[] }) h5 →
        Q' (.ref h5.objs.size) { s4 with gens := s4.gens.push (.fresh (.compStart (.GeneratorExp elt [⟨tg, iter, [], 0⟩] scope gpos) 0 (.ref it) .none (genEnv scope (cloFrom X.env.cells scope.names []) s4.heap.objs.size code bi X.env))), toks := s4.toks + 1 + 1 + 1, heap := h5.push (genO X s4) }) X.xe { s2 with heap := h3, toks := tk } := by
    intro code h3 tk ps' hx hsz hP3 hmore ht3
    obtain ⟨bm, ob, e1, e2, e3, e4, e5, e6, e7, e8⟩ := TB.bm
    have keep3 : ∀ b u, b ≠ P → s2.heap.get? b = some u → h3.get? b = some u := fun b u hb e => hx b u hb e
    refine wpAny_builtinsFor (m := X.mg) (by rw [I1.ok.glob]; exact (I1.mod.glob.keeps I1.bk).extBut hx TB.gP) e1 e2 (keep3 _ _ e4 (I1.bk _ _ e5)) e6 e7 e8 ?_
    intro h5 n5 b5
    obtain ⟨more, em⟩ := hmore
    have J0 := GxR.inv_tab (more := more) (h' := h3) (g' := s2.gens) (d' := s2.drawn) (t' := tk) I1 hP keep3 (by rw [← em]; exact hP3) I1.bare
    refine hQ it fp tn J H1 (upd H1 P (.tbl (ps ++ more))) code { s2 with heap := h3, toks := tk } h5 J0 ⟨⟨ps ++ more, upd_same, by rw [← em]; exact ht3⟩, fun b hb => upd_ne hb⟩ T ?_ ?_ q1 n5 b5
    · refine T.keep _ _ _ st fun b hb o e => keep3 b o (nP b (f1 b hb).1) e
    · intro b hb
      refine ⟨⟨?_, (f1 b hb).2⟩, Nat.lt_of_lt_of_le (fsz b hb) hsz⟩
      rw [upd_ne (nP b (f1 b hb).1)]
      exact (f1 b hb).1
  refine ⟨I1.nolimit, ?_⟩
  cases hf : codeAmong gpos ps.toList with
  | none =>
    refine wpAny_genexprCodeX hcode (cd.code hPs ht) (cd.tab hPs) hf fun c' h' tk hx hge hlt hco' _ htab' _ => ?_
    obtain ⟨o1, vs, f1', tf, fl, tg', inF, tx, tt, op, _, _, _, _, _, _, _, _, _, htr, _⟩ := hco'
    exact cont _ h' tk _ hx (Nat.le_trans hge (Nat.le_of_lt hlt)) htab'.2 ⟨_, rfl⟩ htr
  | some cv =>
    refine wpAny_genexprCode_hit hcode (cd.code hPs ht) hf ?_
    exact cont cv s2.heap s2.toks ps (Heap.ExtBut.refl _ _) (Nat.le_refl _) hPs ⟨#[], by simp⟩ ht
end
/-- nothing but the table of generators has changed -/
structure Woke (s s2 : Shared) : Prop where
  hp : s2.heap = s.heap
  os : s2.os = s.os
  br : AllBare s2.gens
theorem inv_woke {X : Cx} {pins : List (Addr × Obj)} {σ : L2.St} {H : Hp} {s s2 : Shared} (I : Inv X pins σ H s) (k : Woke s s2) : Inv X pins σ H s2 := by
  obtain ⟨h2, g2, d2, t2, o2⟩ := s2
  obtain ⟨h1, g1, d1, t1, o1⟩ := s
  obtain ⟨e1, e2, br⟩ := k
  dsimp only at e1 e2
  subst e1 e2
  exact ⟨I.ok, I.os, br, I.base, I.loc, I.cell, I.free, I.freeC, I.pin, I.hok, I.len⟩
/-- what a generator expression under all is asked -/
def gTurns (J : It) (g : TG) (te : TE) (σw : L2.St) (vs : List Nat) (W : Nat → Nat → Hp → Prop) (Q : Bool → Hp → Prop) : Prop :=
  ∀ i m H, W i m H → (J.stop i H ∧ Q true H) ∨ (J.go i H ∧ ∀ x H', J.yld i H x H' → g x σw H' fun σ2 H2 => wipe σ2 vs = σw ∧ te σ2 H2 fun y H3 => ∃ b, y = .bl b ∧ if b = true then ∃ m', m' < m ∧ W (i + 1) m' H3 else Q false H3)
def gFin (G : Cx) (pn : Addr × Obj) (σw : L2.St) (Q : Bool → Hp → Prop) (b : Bool) (s : Shared) : Prop := ∃ H', Inv G [pn] σw H' s ∧ Q b H'
def gY (G : Cx) (pn : Addr × Obj) (σw : L2.St) (Q : Bool → Hp → Prop) : Protocol := fun _ _ v s kap =>
  ∃ b : Bool, v = .bool b ∧ (∃ H', Inv G [pn] σw H' s) ∧ (b = true → ∀ s2, Woke s s2 → kap (.send .none) s2) ∧ (b = false → gFin G pn σw Q false s)
section
variable {G : Cx} {pn : Addr × Obj} {σw : L2.St} {Q : Bool → Hp → Prop} {A2 : Around} {elt tg iter : Expr} {scope : Scope} {gpos : Pos} {it : Addr} {fp : List Addr} {tn : Nat → Heap → Prop} {J : It} {g : TG} {te : TE} {vs : List Nat} {W : Nat → Nat → Hp → Prop}
theorem gen_loop (hA : G.A = A2.over (.compLoop (.GeneratorExp elt [⟨tg, iter, [], 0⟩] scope gpos) 0 (.ref it) .none G.env) []) (hc : G.calm = true) (hex : G.ex = fp) (hpn : G.pn = []) (hxe : G.xe = fun _ _ => False) (hco : G.env.scope.isCoroutine = false)
    (T : Turn G.prog G.w G.K tg J fp it tn) (hgp : ∀ b ∈ fp, pn.1 ≠ b) (pg : PG G tg g) (pe : PE G elt te) (hsw : ∀ σ2 : L2.St, wipe σ2 vs = σw → σ2.length = σw.length ∧ ∀ (i : Nat) v, σw[i]? = some (some v) → σ2[i]? = some (some v)) (turn : gTurns J g te σw vs W Q) :
    ∀ (m n i : Nat) (s₀ s : Shared), m < n → (∃ H', Inv G [pn] σw H' s ∧ tn i s.heap ∧ (∀ b ∈ fp, H' b = none) ∧ W i m H') →
      Seg (model G.prog G.w) A2 (fun _ _ r s1 => r = .ok .next ∧ gFin G pn σw Q true s1) (gY G pn σw Q) n s₀ (.compLoop (.GeneratorExp elt [⟨tg, iter, [], 0⟩] scope gpos) 0 (.ref it) .none G.env)
        ((model G.prog G.w).den (.compLoop (.GeneratorExp elt [⟨tg, iter, [], 0⟩] scope gpos) 0 (.ref it) .none G.env)) [] s := by
  have stat : ∀ {σ' : L2.St} {H' : Hp} {s' : Shared}, Inv G [pn] σ' H' s' → (∀ b ∈ fp, H' b = none) → ∀ b ∈ fp, FpOk G [pn] H' b := fun {σ' H' s'} I' hn b hb => by
    have hb2 : b ∈ G.ex := by
      rw [hex]
      exact hb
    refine ⟨hn b hb, (I'.ok.exf b hb2).1, I'.ok.exfs b hb2, .inl hb2, fun x c e => (I'.ok.exf b hb2).2 x c e, fun p hp => ?_⟩
    rw [hpn] at hp
    have hp2 : p ∈ [pn] := hp
    rw [List.mem_singleton.mp hp2]
    exact hgp b hb
  intro m
  induction m using Nat.strongRecOn with
  | ind m ih =>
    rintro n i s₀ s hmn ⟨H', I, st, nf, w⟩
    obtain ⟨n, rfl⟩ : ∃ n', n = n' + 1 := ⟨n - 1, by omega⟩
    show Seg _ A2 _ _ _ s₀ _ ((compTurn (.GeneratorExp elt [⟨tg, iter, [], 0⟩] scope gpos) 0 (.ref it) .none G.env).onRaise (leaving G.env)) [] s
    rw [compTurn_gen, Sem.onRaise_eq_wrap]
    refine seg_bind_wrap (wpAny_standAt ?_)
    rcases turn i m H' w with ⟨stop, qq⟩ | ⟨gox, step⟩
    · have td := T.done G rfl rfl rfl hc i [pn] s σw H' (fun _ _ => False) I (stat I nf) st stop
      rw [hA] at td
      refine seg_bind_wrap (thnF td fun r s6 z => ?_)
      obtain ⟨hr, I6⟩ := z
      subst hr
      exact seg_end (.ok .next) ⟨rfl, H', I6, qq⟩
    · have ti := T.item G rfl rfl rfl hc i [pn] s σw H' (fun _ _ => False) I (stat I nf) st gox
      rw [hA] at ti
      refine seg_bind_wrap (thnF ti fun r s6 z => ?_)
      obtain ⟨u, hr, h6⟩ := z
      subst hr
      refine seg_bind_wrap (thnF h6 fun _ s7 z => ?_)
      obtain ⟨x, H7, I7, r7, y7, st7, n7⟩ := z
      have I7' := I7.pinned (stat I7 n7) (T.obj _ _ st7)
      have pr := pg.run _ s7 _ H7 x u _ I7' r7 (step x H7 y7)
      rw [hA, hxe] at pr
      refine seg_bind_wrap (thnF pr fun _ s8 z => ?_)
      obtain ⟨σ8, H8, I8, hw8, q8⟩ := z
      have hy : ∀ v, yieldOut G.env v = yieldValue v := fun v => by simp only [yieldOut, hco, Bool.false_eq_true, if_false]
      simp only [List.forIn_nil, hy]
      refine seg_bind_wrap (wpAny_pure ?_)
      simp only [if_true]
      rw [Sem.bind_eq_wrap', Sem.bind_eq_wrap', Sem.wrap_wrap, Sem.wrap_wrap]
      have er := pe.run _ s8 σ8 H8 _ I8 q8
      rw [hA, hxe] at er
      refine seg_wrap (thnF er fun z s10 zz => ?_)
      obtain ⟨yv, H10, I10, r10, b, rfl, nx⟩ := zz
      cases r10
      have pin' : ∀ b ∈ fp, ∀ o, s7.heap.get? b = some o → s10.heap.get? b = some o ∧ H10 b = none := fun b hb o e =>
        let z := I10.pin (b, o) (List.mem_append_right _ (List.mem_append_right _ (mem_pinsAt hb e)))
        ⟨z.1, z.2.1⟩
      obtain ⟨hl8, hk8⟩ := hsw σ8 hw8
      have J10 : Inv G [pn] σw H10 s10 := (I10.unpinned (pins := [pn])).weak hl8.symm hk8
      refine seg_at (seg_yield rfl rfl rfl ⟨b, rfl, ⟨H10, J10⟩, fun hb s2 wk => ?_, fun hb => ?_⟩)
      · subst hb
        rw [if_pos rfl] at nx
        obtain ⟨m', hm', w'⟩ := nx
        refine seg_again rfl (ih m' hm' n (i + 1) s2 s2 (by omega) ⟨H10, inv_woke J10 wk, ?_, fun b hb => ?_, w'⟩)
        · rw [wk.hp]
          exact T.keep _ _ _ st7 fun b hb o e => (pin' b hb o e).1
        · obtain ⟨o, e, _⟩ := T.obj _ _ st7 b hb
          exact (pin' b hb o e).2
      · subst hb
        exact ⟨H10, J10, nx⟩
end
section
variable {M : Model} {A2 : Around} {R : GenEnd} {Y : Protocol} {n : Nat} {s₀ s : Shared} {elt tg iter : Expr} {scope : Scope} {gpos : Pos} {it : Addr} {ge : Env}
/-- the first turn -/
theorem gen_first {P : Program} {w : World} (hself : ∀ (Q : Value → Shared → Prop) (E : Value → Shared → Prop), Q (.ref it) s → wpAny (model P w) (A2.over (.compStart (.GeneratorExp elt [⟨tg, iter, [], 0⟩] scope gpos) 0 (.ref it) .none ge) []) (pyIter (.ref it)) Q E s)
    (loop : Seg (model P w) A2 R Y n s₀ (.compLoop (.GeneratorExp elt [⟨tg, iter, [], 0⟩] scope gpos) 0 (.ref it) .none ge) ((model P w).den (.compLoop (.GeneratorExp elt [⟨tg, iter, [], 0⟩] scope gpos) 0 (.ref it) .none ge)) [] s) :
    Seg (model P w) A2 R Y n s₀ (.compStart (.GeneratorExp elt [⟨tg, iter, [], 0⟩] scope gpos) 0 (.ref it) .none ge) ((model P w).den (.compStart (.GeneratorExp elt [⟨tg, iter, [], 0⟩] scope gpos) 0 (.ref it) .none ge)) [] s := by
  show Seg _ A2 _ _ _ s₀ _ ((compStart (.GeneratorExp elt [⟨tg, iter, [], 0⟩] scope gpos) 0 (.ref it) .none ge).onRaise (leaving ge)) [] s
  unfold compStart
  rw [Sem.onRaise_eq_wrap]
  show Seg _ A2 _ _ _ s₀ _ ((ask >>= _).wrap _ _ _ _) [] s
  refine seg_bind_wrap (wpAny_askSetting ?_)
  split
  · exact seg_again rfl loop
  · first
      | exact seg_bind_wrap (wpAny_rule (seg_bind_wrap (wpAny_standAt (seg_bind_wrap (hself _ _ (seg_again rfl loop))))))
      | (refine seg_bind_wrap (wpAny_rule ?_)
         show Seg _ A2 _ _ _ s₀ _ ((standAt iter.pos >>= _).wrap _ _ _ _) [] s
         exact seg_bind_wrap (wpAny_standAt (seg_bind_wrap (hself _ _ (seg_again rfl loop)))))
end
theorem bare_set {gens : Array GenState} {x : GenState} (h : AllBare gens) (hx : x.bare = true) (i : Nat) : AllBare (gens.setIfInBounds i x) := fun y hy => by
  rw [Array.mem_iff_getElem?] at hy
  obtain ⟨j, hj⟩ := hy
  by_cases e : i = j
  · subst e
    by_cases hi : i < gens.size
    · rw [Array.getElem?_setIfInBounds_self_of_lt hi] at hj
      rw [← Option.some.inj hj]
      exact hx
    · rw [Array.getElem?_eq_none (by simpa using hi)] at hj
      cases hj
  · rw [Array.getElem?_setIfInBounds_ne e] at hj
    exact h y (Array.mem_iff_getElem?.mpr ⟨j, hj⟩)
/-- all over the generator at a, number gi: its turns by the protocol -/
theorem all_gen {G : Cx} {pn : Addr × Obj} {σw : L2.St} {Q : Bool → Hp → Prop} {A : Around} {gi : Nat} {RR : Result → Shared → Prop} (hh : A.handled = none) (hroom : A.depth < recursionLimit) (hgen : ∀ h : Heap, h.get? pn.1 = some pn.2 → h.IsGen pn.1 gi)
    (hR : ∀ b s1, gFin G pn σw Q b s1 → ∀ s2 : Shared, (∀ b o, s1.heap.get? b = some o → s2.heap.get? b = some o) → s2.os = s1.os → AllBare s2.gens → RR (.ok (.ret (.bool b))) s2) :
    ∀ (n : Nat) (s : Shared), (∃ H', Inv G [pn] σw H' s) → gi < s.gens.size → (∃ gs, s.gens[gi]? = some gs ∧ ∀ s2, Woke s s2 → gs.Goes (model G.prog G.w) A.in1.in1 (fun _ _ r s1 => r = .ok .next ∧ gFin G pn σw Q true s1) (gY G pn σw Q) n (.send .none) s2) →
      codeAny (model G.prog G.w) A (.builtin "all.loop" ⟨[.ref pn.1], []⟩) RR s := by
  intro n
  induction n using Nat.strongRecOn with
  | ind n ih =>
    rintro s ⟨H', I⟩ hgi ⟨gs, hgs, hgo⟩
    have hpin := (I.pin pn (List.mem_append_right _ (List.mem_singleton.mpr rfl))).1
    have brun : AllBare (s.setGen gi .running).gens := bare_set I.bare rfl gi
    refine codeAny_builtin F.entry_all_loop ?_
    rw [Around.under_plainId F.plain_all_loop _]
    show wpAny _ A.in1 (pyNext (.ref pn.1) >>= _) _ _ s
    refine wpAny_bind (GenW.wpAny_gsz (n := s.gens.size) (Nat.le_refl _) ?_)
    refine wpAny_pyNext_genexpQ (P := fun _ _ s1 => gFin G pn σw Q true s1) hh I.nolimit hroom (hgen _ hpin) hgs (hgo _ ⟨rfl, rfl, brun⟩) (fun v s₁ gs' hb hv hsz => ?_) (fun s₁ hp h' hk hsz => ?_)
    · obtain ⟨b, rfl, ⟨H1, I1⟩, ht, hf⟩ := hv
      have b1 : AllBare (s₁.setGen gi gs').gens := bare_set I1.bare hb gi
      refine wpAny_bind (wpAny_holding (wpAny_truthy_bool ?_))
      refine wpAny_bind (wpAny_letGo ?_)
      cases b with
      | false =>
        simp only [Bool.false_eq_true, if_false]
        refine wpAny_bind (wpAny_rule (wpAny_pure ?_))
        exact hR false s₁ (hf rfl) (s₁.setGen gi gs') (fun _ _ e => e) rfl b1
      | true =>
        simp only [if_true]
        have hlt : gi < (s₁.setGen gi gs').gens.size := Nat.lt_of_lt_of_le hgi hsz
        have hlt1 : gi < s₁.gens.size := by
          have e := GenW.setGen_size s₁ gi gs'
          omega
        cases n with
        | zero => exact absurd (ht rfl s₁ ⟨rfl, rfl, I1.bare⟩) id
        | succ n =>
          refine wpAny_pure ⟨plainId_quiet F.plain_all_loop _, ih n (Nat.lt_succ_self n) (s₁.setGen gi gs') ⟨H1, inv_woke I1 ⟨rfl, rfl, b1⟩⟩ hlt ⟨gs', ?_, fun s2 wk => ht rfl s2 ⟨wk.hp, wk.os, wk.br⟩⟩⟩
          show (s₁.gens.setIfInBounds gi gs')[gi]? = some gs'
          rw [Array.getElem?_setIfInBounds_self_of_lt hlt1]
    · refine wpAny_bind (wpAny_rule (wpAny_pure ?_))
      obtain ⟨H1, I1, q1⟩ := id hp
      exact hR true s₁ hp { s₁.setGen gi .finished with heap := h' } hk rfl (bare_set I1.bare rfl gi)
def tAllG (P : Addr) (wi : TI) (g : TG) (te : TE) (vs : List Nat) : TE := fun σ H Q => wi σ H fun J H1 => GxR.TabG H1 P ∧ ∀ H2, GxR.Tabbed P H1 H2 → ∃ W : Nat → Nat → Hp → Prop, (∃ m, W 0 m H2) ∧ gTurns J g te (wipe σ vs) vs W (fun b H' => Q (.bl b) H')
theorem pe_allG {X : Cx} {c P : Addr} {elt tg iter : Expr} {p pos gpos : Pos} {scope : Scope} {own : List (Str × Nat)} {wi : TI} {g : TG} {te : TE} {k : Nat} (hr : Room (k + 1) X.A) (hc : X.calm = true) (hN : X.N.Nodup) (hg : Gl X "all") (hm : X.mg "all" = none) (hb : bootBuiltins "all" = some (.builtin "all"))
    (TB : GxR.TabB X.base X.mg c P) (hcode : X.env.code = .ref c) (ok : BlkOk X.N X.env.scope scope own) (hco : scope.isCoroutine = false) (nocell : ∀ y ∈ scope.names, y.2 ≠ .cell) (hdot : scope.names.lookup (".0" : Str) = some NameKind.local) (hi : PI X tg iter wi)
    (hgt : ∀ (s : Shared) (H : Hp) (cl : List (Str × Addr)) (C : Addr) (code : Value) (fp : List Addr) (Ag : Around), PG (gcx X s H (genEnv scope cl C code builtinsNs X.env) fp Ag) tg g)
    (hel : ∀ (s : Shared) (H : Hp) (cl : List (Str × Addr)) (C : Addr) (code : Value) (fp : List Addr) (Ag : Around), Room k Ag → PE (gcx X s H (genEnv scope cl C code builtinsNs X.env) fp Ag) elt te)
    (hs : ∀ v, genFold iter X.env v = pure v := by intro _; rfl)
    (he : starEach [.GeneratorExp elt [⟨tg, iter, [], 0⟩] scope gpos] X.env = (false, eval (.GeneratorExp elt [⟨tg, iter, [], 0⟩] scope gpos) X.env) :: starEach [] X.env := by rfl) :
    PE X (.Call (.Name "all" p) [.GeneratorExp elt [⟨tg, iter, [], 0⟩] scope gpos] [] pos) (tAllG P wi g te (own.map (·.2))) := by
  constructor
  intro pins s σ H Q I h
  refine wpAny_Call_Name_kw (ld_blt I hg hm hb ?_)
  refine PyProof.Rows.callWith_builtin1 ?_ he (by rfl)
  rw [he]
  show wpAny _ _ (spliced ((false, eval (.GeneratorExp elt [⟨tg, iter, [], 0⟩] scope gpos) X.env) :: backTo pos (starEach [] X.env))) _ _ s
  refine Calls.spliced_cons (gen_make (hr.mono (Nat.le_succ k)) TB hcode ok hco nocell hdot hi hs I h fun it fp tn J H1 H2 code s4 h5 I4 tb T st f4 hR n5 b5 => ?_)
  refine Calls.spliced_nil ?_
  obtain ⟨W, ⟨m, w0⟩, turns⟩ := hR H2 tb
  show wpAny _ _ (call (.builtin "all") [.ref h5.objs.size]) _ _ _
  have sz5 : h5.objs.size = s4.heap.objs.size + 1 := by
    rw [b5.1, Heap.size_push]
  generalize hge : genEnv scope (cloFrom X.env.cells scope.names []) s4.heap.objs.size code builtinsNs X.env = ge
  have k5 : ∀ b o, s4.heap.get? b = some o → (h5.push (genO X s4)).get? b = some o := fun b o e =>
    Heap.get?_push_of_some _ (b5.extBut b o (Nat.ne_of_lt (Heap.lt_size e)) (Heap.get?_push_of_some _ e))
  have ga5 : (h5.push (genO X s4)).get? h5.objs.size = some (genO X s4) := Heap.get?_push_size _ rfl
  have hAg : (X.A.in1.in1.over (.compLoop (.GeneratorExp elt [⟨tg, iter, [], 0⟩] scope gpos) 0 (.ref it) .none ge) []).handled = none := hr.hd
  have hFr : (X.A.in1.in1.over (.compLoop (.GeneratorExp elt [⟨tg, iter, [], 0⟩] scope gpos) 0 (.ref it) .none ge) []).frames = some (ge :: X.stack) := by
    show pushEnvs [ge] (pushEnvs [] X.A.frames) = some (ge :: X.stack)
    rw [I4.ok.frames]
    rfl
  have hRm : Room k (X.A.in1.in1.over (.compLoop (.GeneratorExp elt [⟨tg, iter, [], 0⟩] scope gpos) 0 (.ref it) .none ge) []) := by
    have e1 : (X.A.in1.in1.over (.compLoop (.GeneratorExp elt [⟨tg, iter, [], 0⟩] scope gpos) 0 (.ref it) .none ge) []).depth = X.A.depth + 1 := rfl
    have e2 : (X.A.in1.in1.over (.compLoop (.GeneratorExp elt [⟨tg, iter, [], 0⟩] scope gpos) 0 (.ref it) .none ge) []).units = X.A.units + 5 := rfl
    have d1 := hr.dp
    have d2 := hr.un
    exact ⟨hr.hd, by rw [e1]; omega, by rw [e2]; omega⟩
  have I5 := gen_start (s5 := { s4 with gens := s4.gens.push (.fresh (.compStart (.GeneratorExp elt [⟨tg, iter, [], 0⟩] scope gpos) 0 (.ref it) .none ge)), toks := s4.toks + 1 + 1 + 1, heap := h5.push (genO X s4) }) I4 ok hN f4 hge.symm nocell hAg hFr k5 rfl (I4.bare.push rfl) (n5.keeps fun b o e => Heap.get?_push_of_some _ e) ga5 (by omega) (fun v z => by cases z)
  have st5 : tn 0 (h5.push (genO X s4)) := T.keep _ _ _ st fun b _ o e => k5 b o e
  refine call_function_tree F.kind_all F.plain_all F.entry_all (F.args_all1 _) ?_
  unfold Builtin.«all»
  refine wpAny_bind (m := oneArg "all" _) (wpAny_pure ?_)
  have isg : ∀ hh : Heap, hh.get? h5.objs.size = some (genO X s4) → hh.IsGen h5.objs.size s4.gens.size := fun hh e => ⟨_, _, _, e, rfl, rfl, rfl⟩
  refine wpAny_bind (wpAny_pyIter_gen (isg _ ga5) ?_)
  refine wpAny_pure ⟨plainId_quiet F.plain_all_loop _, ?_⟩
  refine all_gen (G := gcx X s4 H2 ge fp (X.A.in1.in1.over (.compLoop (.GeneratorExp elt [⟨tg, iter, [], 0⟩] scope gpos) 0 (.ref it) .none ge) [])) (pn := (h5.objs.size, genO X s4)) (σw := wipe σ (own.map (·.2))) (Q := fun b H' => Q (.bl b) H') (gi := s4.gens.size)
    hr.hd (by have := hr.dp; omega) isg (fun b s1 hf s2 hk ho hbr => ?_) (m + 1) _ ⟨H2, I5⟩ (by show s4.gens.size < (s4.gens.push _).size; rw [Array.size_push]; omega) ⟨.fresh (.compStart (.GeneratorExp elt [⟨tg, iter, [], 0⟩] scope gpos) 0 (.ref it) .none ge), by show (s4.gens.push _)[s4.gens.size]? = some _; rw [Array.getElem?_push_size], fun s2 wk => ⟨rfl, ?_⟩⟩
  · obtain ⟨H', I', q'⟩ := hf
    have un : Un (frs X.stack) fp H2 H' s4.heap s2.heap := Un.trans I'.base (Un.kept hk)
    have J' : Inv X pins σ H' s2 := I4.call' (ch := fp) (ho.trans I'.os) un (I'.hok.kept hk) hbr fun b hb => ⟨(f4 b hb).1.2.2.2.1, (f4 b hb).1.2.1, (f4 b hb).1.2.2.2.2.1, (f4 b hb).1.2.2.2.2.2⟩
    exact ⟨.bl b, H', J', rfl, q'⟩
  · have nfp : ∀ b ∈ fp, H2 b = none := fun b hb => (f4 b hb).1.1
    refine gen_first (fun Q1 E1 q1 => T.self _ 0 s2 Q1 E1 (by rw [wk.hp]; exact st5) q1) ?_
    refine gen_loop (G := gcx X s4 H2 ge fp (X.A.in1.in1.over (.compLoop (.GeneratorExp elt [⟨tg, iter, [], 0⟩] scope gpos) 0 (.ref it) .none ge) [])) (tn := tn) (vs := own.map (·.2)) (W := W) rfl hc rfl rfl rfl ?_ T (fun b hb => ?_) ?_ ?_ ?_ turns m (m + 1) 0 s2 s2 (Nat.lt_succ_self m) ⟨H2, inv_woke I5 wk, by rw [wk.hp]; exact st5, nfp, w0⟩
    · show ge.scope.isCoroutine = false
      rw [← hge]
      exact hco
    · have hb4 : b < s4.heap.objs.size := (f4 b hb).2
      intro z
      have z2 : h5.objs.size = b := z
      rw [← z2, sz5] at hb4
      exact absurd hb4 (Nat.not_lt.mpr (Nat.le_succ _))
    · rw [← hge]
      exact hgt _ _ _ _ _ _ _
    · subst hge
      exact hel _ _ _ _ _ _ _ hRm
    · intro σ2 e2
      refine ⟨?_, fun i v e3 => ?_⟩
      · rw [← wipe_length σ2 (own.map (·.2)), e2]
      · rw [← e2] at e3
        exact (wipe_some e3).1

/-- all over zip of two tuples of one length -/
theorem gturns_zipT {K : PySem.W.Frag} {a b : Addr} {xs ys : List V} {g : TG} {te : TE} {σw : L2.St} {vs : List Nat} {Q : Bool → Hp → Prop} {H : Hp} (hl : xs.length = ys.length) (Pv : Nat → Hp → Prop) (h0 : Pv 0 H) (hq : ∀ i H, Pv i H → SqT K H a xs ∧ SqT K H b ys)
    (hs : ∀ (i : Nat) (x y : V) (T : Addr) (H : Hp) (N : Hp → Prop), xs[i]? = some x → ys[i]? = some y → Pv i H → H T = none → (∀ H3, Pv (i + 1) H3 → N H3) → g (.ref T) σw (upd H T (.tup [x, y])) fun σ2 H2 => wipe σ2 vs = σw ∧ te σ2 H2 fun v H3 => ∃ b, v = .bl b ∧ if b = true then N H3 else Q false H3)
    (hd : ∀ H, Pv xs.length H → Q true H) : ∃ W : Nat → Nat → Hp → Prop, (∃ m, W 0 m H) ∧ gTurns (RZ.ItzT K a b) g te σw vs W Q := by
  refine ⟨fun i m H => m = xs.length - i ∧ i ≤ xs.length ∧ Pv i H, ⟨xs.length, rfl, Nat.zero_le _, h0⟩, fun i m H st => ?_⟩
  obtain ⟨em, le, pv⟩ := st
  have two := hq i H pv
  rcases Nat.lt_or_eq_of_le le with lt | eq
  · refine .inr ⟨⟨xs, ys, xs[i], ys[i], two.1, two.2, List.getElem?_eq_getElem lt, List.getElem?_eq_getElem (hl ▸ lt)⟩, fun v H' y => ?_⟩
    obtain ⟨tp, a1, a2, rfl, free, rfl, w1, w2⟩ := y
    exact hs i a1 a2 tp H _ (w1 xs two.1) (w2 ys two.2) pv free fun H3 p' => ⟨xs.length - (i + 1), by omega, rfl, lt, p'⟩
  · subst eq
    exact .inl ⟨⟨xs, ys, two.1, two.2, Or.inl (Nat.le_refl _)⟩, hd H pv⟩

/-! ### zip of a text and a tuple -/
def ItzS (K : PySem.W.Frag) (x : Str) (b : Addr) : It :=
  ⟨fun i H => ∃ (ys : List V) (c : Nat) (y : V), SqT K H b ys ∧ x.cps[i]? = some c ∧ ys[i]? = some y,
    fun i H v H' => ∃ (T : Addr) (c : Nat) (y : V), v = .ref T ∧ H T = none ∧ H' = upd H T (.tup [.str ⟨#[c]⟩, y]) ∧ x.cps[i]? = some c ∧ ∀ ys, SqT K H b ys → ys[i]? = some y,
    fun i H => ∃ ys : List V, SqT K H b ys ∧ i ≤ x.cps.size ∧ i ≤ ys.length ∧ (i = x.cps.size ∨ i = ys.length)⟩
theorem zip_sep {z TI TO i1 i2 b : Addr} (D : ZipApart z TI TO i1 i2 b b) : ZipSep2 z TI TO i1 i2 [i1] [i2, b] where
  TIz := D.TIz
  TOz := D.TOz
  TITO := D.TITO
  TIi1 := D.TIi1
  mem1 := List.mem_singleton.mpr rfl
  zf1 := fun h => D.i1z (List.mem_singleton.mp h).symm
  Tf1 := fun h => D.TOi1 (List.mem_singleton.mp h)
  TIi2 := D.TIi2
  mem2 := List.mem_cons_self
  zf2 := fun h => by
    rcases List.mem_cons.mp h with e | e
    · exact D.i2z e.symm
    · exact D.l1z (List.mem_singleton.mp e).symm
  Tf2 := fun h => by
    rcases List.mem_cons.mp h with e | e
    · exact D.TOi2 e
    · exact D.l1TO (List.mem_singleton.mp e).symm
  sep1_2 := fun h => by
    rcases List.mem_cons.mp h with e | e
    · exact D.i12 e
    · exact D.l1i1 (List.mem_singleton.mp e).symm
  sep2_1 := fun h => D.i12 (List.mem_singleton.mp h).symm
/-- the five cells of a running zip of the text x and the tuple at b, i turns done -/
structure ZipGo (x : Str) (t : Tok) (z TI TO i1 i2 b : Addr) (i : Nat) (h : Heap) : Prop where
  zp : IsZip h z TI TO .none
  ins : IsPair h TI (.ref i1) (.ref i2)
  out : ∃ p : Value × Value, IsPair h TO p.1 p.2
  txt : h.IsStrIter i1 (strIterType x) x t i
  tup : h.IsTupleIter i2 b i
theorem five {z TI TO i1 i2 c : Addr} {Pr : Addr → Prop} (h : c ∈ [z, TI, TO, i1, i2]) (pz : Pr z) (pI : Pr TI) (pO : Pr TO) (p1 : Pr i1) (p2 : Pr i2) : Pr c := by
  simp only [List.mem_cons, List.not_mem_nil, or_false] at h
  rcases h with rfl | rfl | rfl | rfl | rfl
  all_goals assumption
theorem apart5 {z TI TO i1 i2 c : Addr} (h : c ∉ [z, TI, TO, i1, i2]) : c ≠ z ∧ c ≠ TO ∧ c ≠ i1 ∧ c ≠ i2 := by
  simp only [List.mem_cons, List.not_mem_nil, or_false, not_or] at h
  exact ⟨h.1, h.2.2.1, h.2.2.2.1, h.2.2.2.2⟩
section
variable {x : Str} {t : Tok} {z TI TO i1 i2 b : Addr} {i : Nat} {h h' : Heap}
theorem ZipGo.obj (g : ZipGo x t z TI TO i1 i2 b i h) {c : Addr} (hc : c ∈ [z, TI, TO, i1, i2]) : ∃ o, h.get? c = some o ∧ ∀ v, o.data ≠ .cell v := by
  obtain ⟨p, hp⟩ := g.out
  obtain ⟨oa, ea, _, da⟩ := g.txt
  obtain ⟨ob, eb, _, db⟩ := g.tup
  refine five (Pr := fun c => ∃ o, h.get? c = some o ∧ ∀ v, o.data ≠ .cell v) hc ⟨_, g.zp, ?_⟩ ⟨_, g.ins, ?_⟩ ⟨_, hp, ?_⟩ ⟨oa, ea, ?_⟩ ⟨ob, eb, ?_⟩
  · intro v e; cases e
  · intro v e; cases e
  · intro v e; cases e
  · intro v e; rw [da] at e; cases e
  · intro v e; rw [db] at e; cases e
theorem ZipGo.lt (g : ZipGo x t z TI TO i1 i2 b i h) {c : Addr} (hc : c ∈ [z, TI, TO, i1, i2]) : c < h.objs.size := by
  obtain ⟨o, e, _⟩ := g.obj hc
  exact Heap.lt_size e
theorem ZipGo.on (g : ZipGo x t z TI TO i1 i2 b i h) (k : ∀ c ∈ [z, TI, TO, i1, i2], ∀ o, h.get? c = some o → h'.get? c = some o) : ZipGo x t z TI TO i1 i2 b i h' := by
  obtain ⟨p, hp⟩ := g.out
  obtain ⟨oa, ea, ra⟩ := g.txt
  exact ⟨k z (by simp) _ g.zp, k TI (by simp) _ g.ins, ⟨p, k TO (by simp) _ hp⟩, ⟨oa, k i1 (by simp) _ ea, ra⟩, g.tup.at (k i2 (by simp))⟩
end
theorem turn_zipS {P : Program} {w : World} {K : PySem.W.Frag} {elts : List Expr} {kk : Nat} {tpos : Pos} {x : Str} {t : Tok} {b z TI TO i1 i2 : Addr} (D : ZipApart z TI TO i1 i2 b b) :
    Turn P w K (.Tuple elts kk tpos) (ItzS K x b) [z, TI, TO, i1, i2] z (ZipGo x t z TI TO i1 i2 b) where
  mem := List.mem_cons_self
  obj := fun _ _ g _ hc => g.obj hc
  keep := fun _ _ _ g k => g.on k
  item := by
    intro X eP ew eK calm n pins s σ H E I fps g go
    subst eP ew eK
    obtain ⟨ys, c, y, tys, ec, ey⟩ := go
    obtain ⟨vs, rel, tupAt, _⟩ := I.tuple tys
    obtain ⟨u, eu, ru⟩ := rel.get ey
    obtain ⟨p, hp⟩ := g.out
    have zlt := g.lt (c := z) (by simp)
    have n1 : n < x.cps.size := Nat.lt_of_not_le fun le => by
      rw [Array.getElem?_eq_none le] at ec
      cases ec
    have n2 : n < vs.toArray.size := by simpa using (List.getElem?_eq_some_iff.mp eu).1
    have calmA : X.A.in1.handled = none := I.ok.hd calm
    refine wpAny_pyNext_zipD2_item (zip_sep D) (Draws.text calmA i1 x t) (Draws.tuple calmA i2 b D.l1i2 vs.toArray) g.zp g.ins hp g.txt ⟨g.tup, tupAt⟩ n1 n2 fun v1 v2 h1 tk P1 P2 zp1 out1 txt1 tup1 new1 _ kept1 => ?_
    obtain ⟨c', k, ec', rfl⟩ := P1
    obtain rfl : c = c' := Option.some.inj (ec.symm.trans ec')
    obtain rfl : u = v2 := Option.some.inj (eu.symm.trans (by simpa using P2))
    refine ⟨_, rfl, wpAny_letOwnedTupleGo_zip (s := { s with heap := h1, toks := tk }) zp1 fun h2 zp2 sb => ?_⟩
    have up : ∀ d, d ≠ z → h2.get? d = h1.get? d := fun d nd => sb.2 d nd
    have kept2 : ∀ d o, d ∉ [z, TI, TO, i1, i2] → s.heap.get? d = some o → h2.get? d = some o := fun d o nd e => by
      obtain ⟨a1, a2, a3, a4⟩ := apart5 nd
      rw [up d a1]
      exact kept1 d o a1 a2 a3 a4 e
    have new2 : h2.get? s.heap.objs.size = some { cls := .type "tuple", data := .seq #[.str ⟨#[c]⟩ k, u] } := (up _ (Nat.ne_of_gt zlt)).trans new1
    have I2 := I.turnedNew (t' := tk) (ch := [z, TI, TO, i1, i2]) (ob := .tup [.str ⟨#[c]⟩, y]) kept2 fps (Nat.le_refl _) ⟨show 2 ≤ sizeLine by decide, [.str ⟨#[c]⟩ k, u], .cons ⟨k, rfl⟩ (.cons ru .nil), ⟨_, new2, rfl, _, rfl⟩⟩
    refine ⟨.ref s.heap.objs.size, _, I2, rfl, ⟨_, c, y, rfl, I.hok.fresh (Nat.le_refl _), rfl, ec, fun l tl => (I.tuple_inj tl tys) ▸ ey⟩, ⟨zp2, ?_, ⟨(_, _), (up _ D.TOz).trans out1⟩, ?_, tup1.1.at fun o e => (up _ D.i2z).trans e⟩, fun d hd => ?_⟩
    · exact (up _ D.TIz).trans (kept1 TI _ D.TIz D.TITO D.TIi1 D.TIi2 g.ins)
    · obtain ⟨o, e, r⟩ := txt1
      exact ⟨o, (up _ D.i1z).trans e, r⟩
    · rw [upd_ne (Nat.ne_of_lt (g.lt hd))]
      exact (fps d hd).1
  done := by
    intro X eP ew eK calm n pins s σ H E I fps g stop
    subst eP ew eK
    obtain ⟨ys, tys, le1, le2, last⟩ := stop
    obtain ⟨vs, rel, tupAt, _⟩ := I.tuple tys
    obtain ⟨p, hp⟩ := g.out
    have lv : vs.toArray.size = ys.length := by simpa using rel.length.symm
    have calmA : X.A.in1.handled = none := I.ok.hd calm
    refine wpAny_pyNext_zipD2_end (zip_sep D) (Draws.text calmA i1 x t) (Draws.tuple calmA i2 b D.l1i2 vs.toArray) g.zp g.ins hp g.txt ⟨g.tup, tupAt⟩ le1 (by omega) (by omega) fun h1 tk kept1 => ⟨rfl, ?_⟩
    refine I.turnedL (t' := tk) (ch := [z, TI, TO, i1, i2]) (fun d o nd e => ?_) fps
    obtain ⟨a1, a2, a3, a4⟩ := apart5 nd
    exact kept1 d o a1 a2 a3 a4 e
  self := fun _ _ _ _ _ g q => wpAny_pyIter_zip g.zp q
def iZipS (K : PySem.W.Frag) (ta : TA) : TI := fun σ H R => ta σ H fun vs H1 => ∃ x b ys, vs = [.str x, .ref b] ∧ SqT K H1 b ys ∧ R (ItzS K x b) H1
theorem pi_zipS {X : Cx} {ea eb : Expr} {ta : TA} {p pos tpos : Pos} {elts : List Expr} {kk : Nat} (gl : Gl X "zip") (own : X.mg "zip" = none) (args : PA X [ea, eb] ta)
    (star : starEach [ea, eb] X.env = (false, eval ea X.env) :: starEach [eb] X.env := by rfl) (plain : (backTo pos (starEach [eb] X.env)).any (·.1) = false := by rfl) :
    PI X (.Tuple elts kk tpos) (.Call (.Name "zip" p) [ea, eb] [] pos) (iZipS X.K ta) := by
  constructor
  intro pins s σ H R I q
  refine Call_ (ld_blt I gl own PyProof.Rows.boot_zip (PyProof.Rows.callWith_type1 ?_ star plain))
  refine thn (args.run pos pins s σ H _ I q) fun us s1 ans => ?_
  obtain ⟨vs, H1, J, rel, x, b, ys, rfl, tys, go⟩ := ans
  obtain ⟨u1, u2, rfl, r1, r2⟩ := vals2 rel
  obtain ⟨t, rfl⟩ := r1
  obtain rfl : u2 = Value.ref b := r2
  obtain ⟨its, _, tupAt, _⟩ := J.tuple tys
  have blt : b < s1.heap.objs.size := by
    obtain ⟨_, e, _⟩ := id tupAt
    exact Heap.lt_size e
  have fresh : ∀ c, s1.heap.objs.size ≤ c → FpOk X pins H1 c := fun c le => J.fpOk le (J.hok.fresh le)
  refine zip_begins2 (begins_text x t) (begins_tuple b its.toArray) trivial tupAt fun h2 zp ins out o1 o2 _ kept => wpAny_pyIter_zip zp ?_
  refine ⟨_, [s1.heap.objs.size + 4, s1.heap.objs.size + 2, s1.heap.objs.size + 3, s1.heap.objs.size, s1.heap.objs.size + 1], _, _, H1, rfl, J.kept (t' := s1.toks) kept, turn_zipS (t := t) (PySem.W.ktu_apart s1.heap.objs.size b b blt blt), ?_, fun c hc => ?_, go⟩
  · exact ⟨zp, ins, ⟨(_, _), out⟩, ⟨_, o1, rfl, rfl⟩, ⟨_, o2, rfl, rfl⟩⟩
  · exact five (Pr := FpOk X pins H1) hc (fresh _ (by omega)) (fresh _ (by omega)) (fresh _ (by omega)) (fresh _ (by omega)) (fresh _ (by omega))
/-- a loop over zip of a text and a tuple of one length -/
theorem for_zipS {K : PySem.W.Frag} {x : Str} {b : Addr} {ys : List V} {g : TG} {tb : TS} {D : Ends} {σ : L2.St} {H : Hp} (hl : x.cps.size = ys.length) (Pv : Nat → L2.St → Hp → Prop) (h0 : Pv 0 σ H) (hq : ∀ i σ H, Pv i σ H → SqT K H b ys)
    (hs : ∀ (i c : Nat) (y : V) (T : Addr) (σ : L2.St) (H : Hp), x.cps[i]? = some c → ys[i]? = some y → Pv i σ H → H T = none → g (.ref T) σ (upd H T (.tup [.str ⟨#[c]⟩, y])) fun σ2 H2 => tb { D with nx := Pv (i + 1), ct := Pv (i + 1), bk := D.nx } σ2 H2) (hd : ∀ σ H, Pv ys.length σ H → D.nx σ H) :
    ∃ W : Nat → Nat → L2.St → Hp → Prop, (∃ m, W 0 m σ H) ∧ ∀ i m σ H, W i m σ H →
      ((ItzS K x b).stop i H ∧ D.nx σ H) ∨ ((ItzS K x b).go i H ∧ ∃ N : L2.St → Hp → Prop, (∀ σ' H', N σ' H' → ∃ m', m' < m ∧ W (i + 1) m' σ' H') ∧ ∀ v H', (ItzS K x b).yld i H v H' → g v σ H' fun σ2 H2 => tb { D with nx := N, ct := N, bk := D.nx } σ2 H2) := by
  refine ⟨fun i m σ H => m = ys.length - i ∧ i ≤ ys.length ∧ Pv i σ H, ⟨ys.length, rfl, Nat.zero_le _, h0⟩, fun i m σ H st => ?_⟩
  obtain ⟨em, le, pv⟩ := st
  have tys := hq i σ H pv
  rcases Nat.lt_or_eq_of_le le with lt | eq
  · refine .inr ⟨⟨ys, x.cps[i], ys[i], tys, Array.getElem?_eq_getElem (hl.symm ▸ lt), List.getElem?_eq_getElem lt⟩, Pv (i + 1), fun σ' H' p' => ⟨ys.length - (i + 1), by omega, rfl, lt, p'⟩, fun v H' y => ?_⟩
    obtain ⟨tp, c, a2, rfl, free, rfl, w1, w2⟩ := y
    exact hs i c a2 tp σ H w1 (w2 ys tys) pv free
  · subst eq
    exact .inl ⟨⟨ys, tys, Nat.le_of_eq hl.symm, Nat.le_refl _, .inr rfl⟩, hd σ H pv⟩
/-! ### d.update(e) -/
def tDUpd (td ty : TE) : TE := fun σ H Q => td σ H fun x H1 => ∃ a, x = .ref a ∧ IsD H1 a ∧ ty σ H1 fun y H2 => ∃ b kvs more, y = .ref b ∧ H2 a = some (.dK kvs) ∧ H2 b = some (.dK more) ∧ a ≠ b ∧ kvs.length + more.length ≤ sizeLine ∧ Q .non (upd H2 a (.dK (mergeK kvs more)))
theorem pe_dupd {X : Cx} {o e : Expr} {apos cpos : Pos} {td ty : TE} (ho : PE X o td) (he : PE X e ty) (m : M1 X o "update" apos e cpos) : PE X (.Call (.Attribute o "update" apos) [e] [] cpos) (tDUpd td ty) := by
  refine ⟨fun pins s σ H Q I h => ?_⟩
  refine wpAny_Call_method m.base m.few m.line PySem.F.plainAttrs_dict PySem.F.slot_dict_update PySem.F.type_dict_update (thn (ho.run pins s σ H _ I h) fun u s1 ⟨x, H1, I1, rx, a, ex, d, q1⟩ => ?_)
  subst ex
  obtain rfl : u = Value.ref a := rx
  obtain ⟨t1, t2, _⟩ := isD_at I1 d
  refine ⟨t1, t2, ?_⟩
  rw [m.trees]
  refine Calls.callWith_builtin rfl (Calls.evalArgs_plain (Calls.spliced_cons (thn (he.run pins s1 σ H1 _ I1 q1) fun iv s2 ⟨y, H2, I2, ry, b, kvs, more, ey, ea, eb, ne, hz, q2⟩ => Calls.spliced_nil ?_)))
  subst ey
  obtain rfl : iv = Value.ref b := ry
  obtain ⟨za, hda, vs, ra, dda⟩ := dk_of I2.hok ea
  obtain ⟨zb, hdb, ws, rb, ddb⟩ := dk_of I2.hok eb
  refine call_meetsIn PySem.F.slot_dict_update dda.typeIs PySem.F.entry_dict_update (PySem.F.args_dict_update_2 _ _) (meets_dict_update (mixKind X.prog X.w) a b ne hdb) ⟨vs, ws, dda, ddb, (by rw [← ra.length, ← rb.length]; exact hz), fun h' hmm _ hs => ?_⟩
  have he' : ∃ q, h'.get? a = some q := let ⟨q, _, _, hq, _⟩ := hmm; ⟨q, hq⟩
  exact ⟨.non, _, d_write I2 (by rw [ea]; exact True.intro) hs he' (dk_new (Nat.le_trans (length_mergeK more kvs) hz) hda (rb.merge ra) hmm), rfl, q2⟩
/-! ### list(text), tuple == () -/
def sgs (x : Str) : List V := x.cps.toList.map fun c => V.str ⟨#[c]⟩
theorem vals_at : ∀ {xs : List V} {us : List Value}, xs.length = us.length → (∀ (j : Nat) (v : V) (u : Value), xs[j]? = some v → us[j]? = some u → RelV v u) → Vals xs us
  | [], [], _, _ => .nil
  | [], _ :: _, h, _ => nomatch h
  | _ :: _, [], h, _ => nomatch h
  | v :: xs, u :: us, h, k => .cons (k 0 v u rfl rfl) (vals_at (Nat.succ.inj h) fun j a b ha hb => k (j + 1) a b ha hb)
theorem call_list_txt {X : Cx} (hc : X.calm = true) : CallR X (.type "list") (fun xs H Q => ∃ x : Str, xs = [.str x] ∧ x.cps.size ≤ sizeLine ∧ ∀ l, H l = none → Q (.ref l) (upd H l (.lst (sgs x)))) := by
  intro pins s σ H xs us Q I r h
  obtain ⟨x, rfl, hz, q⟩ := h
  obtain ⟨u, rfl, rx⟩ := vals1 r
  obtain ⟨t, rfl⟩ := rx
  refine call_list_str (I.ok.hd hc) x t (hn := hz) fun h' tk acc' c' hk hS' hacc => ?_
  have hl : (sgs x).length = acc'.toList.length := by
    unfold sgs
    rw [List.length_map, Array.length_toList, Array.length_toList]
    exact hacc.1.symm
  have rv : Vals (sgs x) acc'.toList := vals_at hl fun j v u hv hu => by
    obtain ⟨c, k, hc', rfl⟩ := hacc.2 j u (by simpa using hu)
    unfold sgs at hv
    rw [List.getElem?_map] at hv
    obtain ⟨c2, h2, rfl⟩ := Option.map_eq_some_iff.mp hv
    have z : x.cps.toList[j]? = some c := by simpa using hc'
    rw [z] at h2
    cases h2
    exact ⟨k, rfl⟩
  have hz2 : (sgs x).length ≤ sizeLine := by
    unfold sgs
    rw [List.length_map, Array.length_toList]
    exact hz
  exact ⟨.ref s.heap.objs.size, _, I.laid (t' := tk) hk (Nat.le_refl _) (show ObjOk X.prog X.w _ h' _ (.lst (sgs x)) from ⟨hz2, acc'.toList, c', rv, by simpa using hS'⟩), rfl, q _ (I.hok.fresh (Nat.le_refl _))⟩
def rEq0 (K : PySem.W.Frag) : R2 := fun x y H Q => ∃ a b xs, x = .ref a ∧ y = .ref b ∧ SqT K H a xs ∧ SqT K H b [] ∧ Q (.bl xs.isEmpty) H
theorem op_eq0 {X : Cx} (hu : X.A.units < cLine) : OpR X (compareOp .Eq) (rEq0 X.K) := by
  intro pins s σ H x y v u Q I rx ry h
  obtain ⟨a, b, xs, rfl, rfl, ha, hb, q⟩ := h
  cases rx
  cases ry
  obtain ⟨its, r1, p1, _⟩ := I.tuple ha
  obtain ⟨its2, r2, p2, _⟩ := I.tuple hb
  cases r2
  refine SeqAt.eq_tupleAt (e := fun _ => true) p1 p2 hu (fun j h1 h2 => by simp at h2) ?_
  have e : ((List.range (min its.toArray.size ([] : List Value).toArray.size)).all (fun _ => true) && its.toArray.size == ([] : List Value).toArray.size) = xs.isEmpty := by
    cases r1 with
    | nil => rfl
    | cons _ _ => simp
  rw [e]
  exact ⟨.bl _, H, I, rfl, q⟩

/-! ### the end of a law whose defs make generator expressions -/
/-- the def nm of the top, its code object's table empty -/
def TabAt (mg : Str → Option Value) (h : Heap) (nm : Str) : Prop := ∃ (f : Addr) (o : Obj) (fd : FuncData) (c P : Addr), mg nm = some (.ref f) ∧ h.get? f = some o ∧ o.data = .func fd ∧ fd.code = .ref c ∧ h.TableAt c P #[]
theorem tab_empty {K : PySem.W.Frag} {mg : Str → Option Value} {h : Heap} {nm : Str} {f c P : Addr} {o : Obj} {fd : FuncData} {e : Value} {dd : Option Addr} {vs : Array Value} {sl : Array (Option Value)} (t : TabAt mg h nm) (X : K.In h) (g : mg nm = some (.ref f))
    (lf : K.lookup f = some o) (df : o.data = .func fd) (cf : fd.code = .ref c) (lc : K.lookup c = some ⟨e, dd, .fields vs, sl⟩) (at11 : vs[11]? = some (.ref P)) : h.get? P = some { cls := .none, data := .fields #[] } := by
  obtain ⟨f', o', fd', c', P', m1, m2, m3, m4, ⟨oc, vc, w1, _, w3, w4⟩, tp⟩ := t
  have ef : f = f' := Value.ref.inj (Option.some.inj (g.symm.trans m1))
  subst ef
  have eo : o = o' := Option.some.inj ((X f o lf).symm.trans m2)
  subst eo
  have ed : fd = fd' := Data.func.inj (df.symm.trans m3)
  subst ed
  have ec : c = c' := Value.ref.inj (cf.symm.trans m4)
  subst ec
  have eq : (⟨e, dd, .fields vs, sl⟩ : Obj) = oc := Option.some.inj ((X c _ lc).symm.trans w1)
  subst eq
  have ev : vs = vc := Data.fields.inj w3
  subst ev
  have eP : P = P' := Value.ref.inj (Option.some.inj (at11.symm.trans w4))
  subst eP
  exact tp
theorem walk_tabs {l : PySem.W.OpenLaw} {most lv : Nat} {prog : Program} {lo : List Str} {XP : (Str → Option Value) → Heap → Prop} {YP : World → Heap → Prop} {df : DefRec} {K : Params → PySem.W.Frag} {par : Str} (names : List Str)
    (h1 : l.most = some most) (h2 : most ≤ sizeLine) (h3 : df.params.defaults = []) (room : Room lv callerA) (recs : (names.all fun nm => (recsOf prog).any fun r => r.name == nm) = true) (kin : ∀ (w : World) (h : Heap), YP w h → (K w.params).In h)
    (at_ : ∀ (w : World) (mg : Str → Option Value) (fa : Addr) (h : Heap), (K w.params).In h → h.Ns mainGlobals mg → mg df.name = some (.ref fa) → (∀ nm ∈ names, TabAt mg h nm) → LamX.LawAtS l w (K w.params) CX0 lv most par mg fa h) :
    PySem.W.WalkO prog lo XP YP l.row.toRowW df [] (fun f vs => PySem.call f vs) := by
  refine Att.attach_callB h1 h3 fun w s0 s mg mb fa o pm cd doc a vs ns Gr Y _ _ _ name ob iar len bits gens => ?_
  have tabs : ∀ nm ∈ names, TabAt mg s.heap nm := fun nm hm => by
    obtain ⟨r, hr, er⟩ := List.any_eq_true.mp (List.all_eq_true.mp recs nm hm)
    obtain ⟨x1, x2, x3, x4, x5, y1, y2, y3, y4, _, y6⟩ := Gr.T.tab r hr
    rw [beq_iff_eq.mp er] at y1
    exact ⟨x1, x2, x3, x4, x5, y1, y2, y3, y4, y6⟩
  obtain ⟨fd, cs, sp, t1, t2, t3, bind, asked, ok⟩ := at_ w mg fa _ (kin w _ Y) Gr.T.g name tabs
  exact LamX.law_callTs (kin w _ Y) Gr.T.g Gr.T.b Gr.T.builtins Gr.T.nolimit gens t1 t2 t3 Gr.T.bmain ob iar (Nat.le_trans len h2) room ok bind (fun H hH hS => asked H a ns len bits hH hS) fun _ _ _ z => z

end My
namespace My
open PySem L2
/-! ### a mid-condition behind a statement, an expression, a test -/
def sMid (t : TS) : TS := fun D σ H => ∃ M : L2.St → Hp → Prop, t { D with nx := M } σ H ∧ ∀ σ' H', M σ' H' → D.nx σ' H'
theorem ps_mid {X : Cx} {st : Stmt} {t : TS} (h : PS X st t) : PS X st (sMid t) := by
  refine ⟨fun pins s σ H D I z => ?_⟩
  obtain ⟨M, q, k⟩ := z
  refine thn (h.run pins s σ H { D with nx := M } I q) fun f s1 y => ?_
  cases f with
  | next =>
    obtain ⟨σ', H', I', y⟩ := y
    exact ⟨σ', H', I', k _ _ y⟩
  | ret v => exact y
  | brk => exact y
  | cont => exact y
def tMid (t : TT) : TT := fun σ H Q => ∃ M : Bool → Hp → Prop, t σ H M ∧ ∀ b H', M b H' → Q b H'
theorem pt_mid {X : Cx} {e : Expr} {t : TT} (h : PT X e t) : PT X e (tMid t) := by
  refine ⟨fun pins s σ H Q I z => ?_⟩
  obtain ⟨M, q, k⟩ := z
  exact thn (h.run pins s σ H M I q) fun b s1 ⟨H', I', y⟩ => ⟨H', I', k _ _ y⟩
def eMid (t : TE) : TE := fun σ H Q => ∃ M : V → Hp → Prop, t σ H M ∧ ∀ v H', M v H' → Q v H'
theorem pe_mid {X : Cx} {e : Expr} {t : TE} (h : PE X e t) : PE X e (eMid t) := by
  refine ⟨fun pins s σ H Q I z => ?_⟩
  obtain ⟨M, q, k⟩ := z
  exact thn (h.run pins s σ H M I q) fun u s1 ⟨v, H', I', r, y⟩ => ⟨v, H', I', r, k _ _ y⟩
theorem yes_ite {σ : L2.St} {H : Hp} {A B : Hp → Prop} (h : A H) : tYes σ H (fun b H3 => if b = true then A H3 else B H3) := by
  unfold tYes
  exact (show (if true = true then A H else B H) from iteT h)
/-- xs[i] op= e, the read -/
theorem get_list {X : Cx} : PGet X (rIxL X.K) := by
  intro pins s σ H x y v u Q I rx ry h
  obtain ⟨p, xs, i, z, rfl, rfl, hq, he, q⟩ := h
  cases rx
  obtain ⟨t, rfl⟩ := ry
  obtain ⟨its, r, pl, hz⟩ := I.list hq
  obtain ⟨j, h1, h2, h3, h4, h5⟩ := atI_get he
  obtain ⟨w, ew, rw'⟩ := r.get h2
  have hl := r.length
  have hn := line63
  have fin : EP X pins σ Q w s := ⟨z, H, I, rw', q⟩
  by_cases h0 : 0 ≤ i
  · have hj : i.toNat = j := by
      rw [PySem.seqIndex_of h0 h5] at h1
      exact Option.some.inj h1
    exact PySem.wpAny_getItem_list pl.isList h0 (by omega) (by rw [hj]; simpa using ew) fin
  · have hj : (i + (its.toArray.size : Int)).toNat = j := by
      rw [PySem.seqIndex_neg (by omega) h4] at h1
      rw [List.size_toArray, ← hl]
      exact Option.some.inj h1
    exact PySem.wpAny_getItem_list_neg pl.isList (by omega) (by rw [List.size_toArray] <;> omega) (by omega) (by rw [hj]; simpa using ew) fin
theorem same_new {H : Hp} {p : Addr} {o : HO} (h : H p = none) : Same H (upd H p o) := fun b u q => by rw [upd_ne (ne_of_none q h)]; exact q
/-- all but d as it was -/
def But (d : Addr) (H H' : Hp) : Prop := ∀ b o, H b = some o → b ≠ d → H' b = some o
theorem But.refl {d : Addr} {H : Hp} : But d H H := fun _ _ e _ => e
theorem But.trans {d : Addr} {H H1 H2 : Hp} (x : But d H H1) (y : But d H1 H2) : But d H H2 := fun b o e n => y b o (x b o e n) n
theorem But.put {d : Addr} {H H1 : Hp} {o : HO} (x : But d H H1) : But d H (upd H1 d o) := fun b u e n => by
  rw [upd_ne n]
  exact x b u e n
theorem But.new {d p : Addr} {H H1 : Hp} {o : HO} (x : But d H H1) (n : H1 p = none) : But d H (upd H1 p o) := fun b u e nb => by
  have q := x b u e nb
  rw [upd_ne (ne_of_none q n)]
  exact q
theorem But.same {d : Addr} {H H1 H2 : Hp} (x : But d H H1) (s : Same H1 H2) : But d H H2 := fun b u e nb => s _ _ (x b u e nb)
theorem at_map {ns : List Int} {k : Int} (h0 : 0 ≤ k) (h : k < (ns.length : Int)) : ∃ v : Int, atI (ns.map V.int) k = some (.int v) ∧ v ∈ ns := by
  have hk : k.toNat < ns.length := by omega
  have ek : k = ((k.toNat : Nat) : Int) := by omega
  have q : atI (ns.map V.int) ((k.toNat : Nat) : Int) = some (.int ns[k.toNat]) := atI_nat (by rw [List.getElem?_map, List.getElem?_eq_getElem hk] <;> rfl)
  rw [← ek] at q
  exact ⟨_, q, List.getElem_mem _⟩
theorem at_any {α : Type} {xs : List α} {k : Int} (h0 : 0 ≤ k) (h : k < (xs.length : Int)) : ∃ v : α, atI xs k = some v ∧ v ∈ xs := by
  have hk : k.toNat < xs.length := by omega
  have ek : k = ((k.toNat : Nat) : Int) := by omega
  have q : atI xs ((k.toNat : Nat) : Int) = some xs[k.toNat] := atI_nat (List.getElem?_eq_getElem hk)
  rw [← ek] at q
  exact ⟨_, q, List.getElem_mem _⟩
theorem wide_ok {i j : Int} (h : 0 < j) (h2 : j < 2 ^ 100) : CDivW i j := wide_div (b := 100) h (by
  have e : ((j.natAbs : Nat) : Int) < ((2 ^ 100 : Nat) : Int) := by
    rw [Int.natCast_pow]
    show (j.natAbs : Int) < 2 ^ 100
    omega
  exact_mod_cast e) (by decide) (by decide)
theorem cut_map (ns : List Int) (hi : Option Int) : ∃ k : Nat, cutV (ns.map V.int) none hi = (ns.take k).map V.int := by
  refine ⟨HT.sIx ns.length ns.length hi, ?_⟩
  unfold cutV
  rw [HT.sIx_none, List.drop_zero, Nat.sub_zero, List.length_map, List.map_take]
theorem cut_nat {α : Type} (xs : List V) (k : Nat) : cutV xs none (some (k : Int)) = xs.take k := by
  unfold cutV
  rw [HT.sIx_none, List.drop_zero, Nat.sub_zero, HT.sIx_nat]
  by_cases h : k ≤ xs.length
  · rw [Nat.min_eq_left h]
  · rw [Nat.min_eq_right (by omega), List.take_of_length_le (Nat.le_refl _), List.take_of_length_le (by omega)]
theorem sz {n : Nat} (h : n ≤ 100000) : n ≤ sizeLine := Nat.le_trans h (by decide)
theorem szl {n : Nat} (h : n < 100000) : n < sizeLine := Nat.lt_of_lt_of_le h (by decide)
def spLaw (K : PySem.W.Frag) : Sp := fun vs H Q _ => ∃ (a : Addr) (ns : List Int), vs = [.ref a] ∧ SqL K H a (ns.map V.int) ∧ ns.length ≤ 63 ∧ (∀ z ∈ ns, Builtin.Int.intBits z ≤ 1048576) ∧ ∀ H', Q (.bl true) H'
/-! ### data of tuples -/
mutual
inductive Td (K : PySem.W.Frag) (H : Hp) : V → PyData → Prop
  | non : Td K H .non .none
  | bl (b : Bool) : Td K H (.bl b) (.bool b)
  | int (i : Int) : Td K H (.int i) (.int i)
  | str (x : Str) : Td K H (.str x) (.str x)
  | tup {a : Addr} {xs : List V} {ds : List PyData} : SqT K H a xs → TdAll K H xs ds → Td K H (.ref a) (.tuple ds)
inductive TdAll (K : PySem.W.Frag) (H : Hp) : List V → List PyData → Prop
  | nil : TdAll K H [] []
  | cons {v : V} {vs : List V} {d : PyData} {ds : List PyData} : Td K H v d → TdAll K H vs ds → TdAll K H (v :: vs) (d :: ds)
end
/-- tuples stay -/
def Tups (K : PySem.W.Frag) (H H' : Hp) : Prop := ∀ a xs, SqT K H a xs → SqT K H' a xs
theorem Tups.of_same {K : PySem.W.Frag} {H H' : Hp} (s : Same H H') : Tups K H H' := fun a xs h => by
  rcases h with h | h
  · rcases h with h | ⟨o, h⟩
    · exact .inl (.inl (s _ _ h))
    · exact .inl (.inr ⟨o, s _ _ h⟩)
  · exact .inr h
theorem Tups.of_but {K : PySem.W.Frag} {H H' : Hp} {d : Addr} {l : List V} (s : But d H H') (e : H d = some (.lst l)) : Tups K H H' := fun a xs h => by
  rcases h with h | h
  · rcases h with h | ⟨o, h⟩
    · exact .inl (.inl (s _ _ h (ne_of h e (by intro z; cases z))))
    · exact .inl (.inr ⟨o, s _ _ h (ne_of h e (by intro z; cases z))⟩)
  · exact .inr h
theorem Tups.trans {K : PySem.W.Frag} {H H1 H2 : Hp} (a : Tups K H H1) (b : Tups K H1 H2) : Tups K H H2 := fun p xs h => b _ _ (a _ _ h)
mutual
theorem Td.mono {K : PySem.W.Frag} {H H' : Hp} (t : Tups K H H') : ∀ {v : V} {d : PyData}, Td K H v d → Td K H' v d
  | _, _, .non => .non
  | _, _, .bl b => .bl b
  | _, _, .int i => .int i
  | _, _, .str x => .str x
  | _, _, .tup h k => .tup (t _ _ h) (TdAll.mono t k)
theorem TdAll.mono {K : PySem.W.Frag} {H H' : Hp} (t : Tups K H H') : ∀ {vs : List V} {ds : List PyData}, TdAll K H vs ds → TdAll K H' vs ds
  | _, _, .nil => .nil
  | _, _, .cons h k => .cons (Td.mono t h) (TdAll.mono t k)
end
mutual
theorem Td.dp {K : PySem.W.Frag} {H : Hp} : ∀ {v : V} {d : PyData}, Td K H v d → Dp K H v d
  | _, _, .non => .non
  | _, _, .bl b => .bl b
  | _, _, .int i => .int i
  | _, _, .str x => .str x
  | _, _, .tup h k => .tup h (TdAll.dp k)
theorem TdAll.dp {K : PySem.W.Frag} {H : Hp} : ∀ {vs : List V} {ds : List PyData}, TdAll K H vs ds → DpAll K H vs ds
  | _, _, .nil => .nil
  | _, _, .cons h k => .cons (Td.dp h) (TdAll.dp k)
end
theorem TdAll.length {K : PySem.W.Frag} {H : Hp} : ∀ {vs : List V} {ds : List PyData}, TdAll K H vs ds → vs.length = ds.length
  | _, _, .nil => rfl
  | _, _, .cons _ k => congrArg (· + 1) (TdAll.length k)
theorem TdAll.append {K : PySem.W.Frag} {H : Hp} : ∀ {vs ws : List V} {ds es : List PyData}, TdAll K H vs ds → TdAll K H ws es → TdAll K H (vs ++ ws) (ds ++ es)
  | _, _, _, _, .nil, k => k
  | _, _, _, _, .cons h k, z => .cons h (TdAll.append k z)
theorem TdAll.get {K : PySem.W.Frag} {H : Hp} : ∀ {vs : List V} {ds : List PyData}, TdAll K H vs ds → ∀ {v : V}, v ∈ vs → ∃ d, d ∈ ds ∧ Td K H v d
  | _, _, .nil, _, h => nomatch h
  | _, _, .cons (d := d) h k, v, m => by
    rcases List.mem_cons.mp m with e | m
    · subst e
      exact ⟨d, List.mem_cons_self, h⟩
    · obtain ⟨d', hd, t⟩ := TdAll.get k m
      exact ⟨d', List.mem_cons_of_mem _ hd, t⟩
theorem inV_str (w : Str) : ∀ ws : List Str, inV (.str w) (ws.map V.str) = decide (w ∈ ws)
  | [] => rfl
  | x :: r => by
    have ih := inV_str w r
    unfold inV at ih ⊢
    rw [List.map_cons, List.any_cons, ih]
    by_cases e : x = w
    · subst e
      simp [eqV]
    · have e2 : ¬ w = x := fun z => e z.symm
      simp [eqV, e, e2]
theorem flat_strs : ∀ ws : List Str, (ws.map V.str).all flatV = true
  | [] => rfl
  | _ :: r => by
    rw [List.map_cons, List.all_cons, flat_strs r]
    rfl
/-- the kinds -/
def kinds : List Str := ["a", "b", "c", "d", "e", "f", "g", "h"]
/-- a tuple as a target, the table and the number as they are written -/
theorem pg_tupK {X : Cx} {K : PySem.W.Frag} {pos : Pos} {es : List Expr} {k : Nat} {t : TGs} {n : Nat} (hK : X.K = K) (hc : X.calm = true) (h : PGs X es t)
    (hn : (assignEach es X.env).length = n) (hst : (assignEach es X.env).findIdx? (·.1) = none := by rfl) : PG X (.Tuple es k pos) (gTup K n t) := by
  subst hK
  exact pg_tup hc h hn hst
theorem cut_tail (x : V) (ps : List V) : cutV (x :: ps) (some 1) none = ps := by
  unfold cutV
  rw [show (1 : Int) = ((1 : Nat) : Int) from rfl, HT.sIx_nat, HT.sIx_none, List.length_cons]
  have e : min 1 (ps.length + 1) = 1 := by omega
  rw [e, List.drop_succ_cons, List.drop_zero, Nat.add_sub_cancel, List.take_of_length_le (Nat.le_refl _)]
theorem u1 {k : Nat} {A : Around} (h : Room k A) : A.units + 1 < cLine := by
  have := h.units
  omega
theorem u0 {k : Nat} {A : Around} (h : Room k A) : A.units < cLine := by
  have := h.units
  omega
theorem u65 {k : Nat} {A : Around} (h : Room k A) : A.units + 65 < cLine := by
  have := h.un
  omega
theorem op_in_seqK {X : Cx} {K : PySem.W.Frag} (hK : X.K = K) : OpR X (compareOp .In) (rIn K false) := by
  subst hK
  exact op_in_seq
theorem op_notIn_seqK {X : Cx} {K : PySem.W.Frag} (hK : X.K = K) : OpR X (compareOp .NotIn) (rIn K true) := by
  subst hK
  exact op_notIn_seq

/-! ### own exceptions as values -/
def veB : List Value := [.type "ValueError", .type "Exception", .type "BaseException", .type "object"]
/-- an exception object of the class C, not raised, with or without fields -/
def ExAt (H : Hp) (a C : Addr) : Prop := H a = some (ExO (.ref C) a) ∨ ∃ (d : Addr) (fs : List (Str × V)), H a = some (exo a C (some d)) ∧ H d = some (exd d fs)
theorem ExAt.same {H H' : Hp} {a C : Addr} (s : Same H H') (h : ExAt H a C) : ExAt H' a C := by
  rcases h with h | ⟨d, fs, h, g⟩
  · exact .inl (s _ _ h)
  · exact .inr ⟨d, fs, s _ _ h, s _ _ g⟩
section
variable {X : Cx}
theorem ExAt.inst {pins : List (Addr × Obj)} {σ : L2.St} {H : Hp} {s : Shared} {a C : Addr} (I : Inv X pins σ H s) (h : ExAt H a C) : ∃ (oe : Obj) (od : Option Obj), PySem.W.InstAt s.heap a oe C od := by
  rcases h with h | ⟨d, fs, h, g⟩
  · obtain ⟨⟨oe, vs, ho, hz, hd, _⟩, _, _⟩ := I.hok a _ h
    refine ⟨oe, none, ho, hz.1, ?_, ?_⟩
    · unfold PySem.W.notCls
      rw [hd]
    · rw [hz.2]
      trivial
  · obtain ⟨t1, ho⟩ := exo_at I.hok h
    obtain ⟨mA, hm, _⟩ := exd_at I.hok g
    obtain ⟨od, hod, _⟩ := lookIn_ns hm
    exact ⟨_, some od, ho, rfl, rfl, hod⟩
theorem pe_exc0 {C : Addr} {x : Str} {p pos : Pos} (hc : PySem.W.excIn X.K C veB "ValueError.__new__" = true) (gC : X.mg x = some (.ref C)) (kC : PySem.W.keepIn X.K (.ref C) = true) (hg : Gl X x) (hdb : (x == ("__debug__" : Str)) = false := by decide) :
    PE X (.Call (.Name x p) [] [] pos) (fun _ H Q => ∀ a, H a = none → Q (.ref a) (upd H a (ExO (.ref C) a))) := by
  constructor
  intro pins st σ H Q I h
  refine wpAny_Call_Name_kw (ld_glob I hg gC ?_ hdb)
  refine PySem.W.callWith_K0 I.kIn kC ?_
  obtain ⟨bm, N, nm, qn, bs, hdct, sn, sub, ab, col, dd, k0, k1, k2, k3, k5, mN, hC, hN, hni, OT⟩ := exc_obj I.kIn hc
  refine wpAny_call_exc_subT PySem.F.excBase_ValueError OT hC hN hni (fun h' a hm => ?_) (Nat.zero_le _)
  have free : H a = none := I.hok.gone hm.new
  obtain ⟨t, ht, _, _⟩ := hm.there
  have ok : ObjOk X.prog X.w (upd H a (ExO (.ref C) a)) h' a (ExO (.ref C) a) := exO_ok ht ⟨rfl, rfl⟩ rfl rfl rfl (show 4 < 6 by decide)
  exact ⟨.ref a, _, I.laidN hm.keeps hm.new free ok, rfl, h a free⟩
/-- C(e, ..), C an own exception class with an own __init__, as a value -/
def tOexV (C : Addr) (sp : Sp) (ta : TA) : TE := fun σ H Q => ta σ H fun vs H1 => vs.length ≤ 1000 ∧ ∀ a, H1 a = none → sp (.ref a :: vs) (upd H1 a (exo a C none)) (fun v H2 => v = .non ∧ Q (.ref a) H2) (fun _ _ _ => False)
theorem pe_oexV {x : Str} {C fI : Addr} {k : Nat} {fd : FuncData} {ps : List Str} {sp : Sp} {e : Expr} {es : List Expr} {ta : TA} {p pos : Pos} (OC : OexC X.K C) (iC : PySem.W.findIn X.K (.ref C) "__init__" = some (some (.ref fI)))
    (tI : PySem.W.typeIn X.K (.ref fI) = some (.type "function")) (F1 : FnOk X.prog X.w X.K X.mg X.base CX0 k fI fd ps sp) (hr : Room (k + 1) X.A) (hb : Binds X.K fd ps []) (hg : Gl X x) (hm : X.mg x = some (.ref C)) (ha : PA X (e :: es) ta)
    (hdb : (x == ("__debug__" : Str)) = false := by decide) (he : starEach (e :: es) X.env = (false, eval e X.env) :: starEach es X.env := by rfl) (hpl : (backTo pos (starEach es X.env)).any (·.1) = false := by rfl) :
    PE X (.Call (.Name x p) (e :: es) [] pos) (tOexV C sp ta) := by
  constructor
  intro pins st σ H Q I h
  obtain ⟨nm, q, N, bs, bm, sn, sub, ab, col, dd, k0, k1, k2, k3, k5, hC, hbm⟩ := OC.cls
  refine wpAny_Call_Name_kw (ld_glob I hg hm ?_ hdb)
  refine PySem.W.callWith_K (h₀ := X.base) I.ok.mod.kin OC.kC (thn (ha.run pos pins st σ H _ I h) fun us s1 z => ?_) he hpl
  obtain ⟨vs, H1, I1, r1, hz, q1⟩ := z
  refine ⟨I1.kIn, ?_⟩
  obtain ⟨hp, g, dr, tk, os⟩ := s1
  have hn : H1 (hp.objs.size + 1) = none := I1.hok.fresh (Nat.le_succ _)
  have hq := q1 _ hn
  have kk : ∀ b o, hp.get? b = some o → ((hp.push (PySem.W.kdv_tup us)).push (PySem.HandSPX.excO C hp.objs.size)).get? b = some o := fun b o z =>
    Heap.get?_push_of_some _ (Heap.get?_push_of_some _ z)
  have hget : ((hp.push (PySem.W.kdv_tup us)).push (PySem.HandSPX.excO C hp.objs.size)).get? (hp.objs.size + 1) = some (PySem.HandSPX.excO C hp.objs.size) := by
    heap_get
  have I2 : Inv X pins σ (upd H1 (hp.objs.size + 1) (exo (hp.objs.size + 1) C none)) ⟨(hp.push (PySem.W.kdv_tup us)).push (PySem.HandSPX.excO C hp.objs.size), g, dr, tk, os⟩ :=
    I1.laid (t' := tk) (a := hp.objs.size + 1) (o := exo (hp.objs.size + 1) C none) (h' := (hp.push (PySem.W.kdv_tup us)).push (PySem.HandSPX.excO C hp.objs.size)) kk (Nat.le_succ _) (exo_ok hget)
  have r2 : Vals (V.ref (hp.objs.size + 1) :: vs) (Value.ref (hp.objs.size + 1) :: us) := .cons rfl r1
  have hl : (Value.ref (hp.objs.size + 1) :: us).length = ps.length := by
    rw [← r2.length]
    exact F1.len _ _ _ _ hq
  have hus : us.length ≤ sizeLine := by
    rw [← Paired.length r1, sizeLine_eq]
    omega
  have hb2 := hb ⟨(hp.push (PySem.W.kdv_tup us)).push (PySem.HandSPX.excO C hp.objs.size), g, dr, tk, os⟩ (Value.ref (hp.objs.size + 1) :: us) I2.kIn (by rw [List.append_nil]; exact hl)
  rw [List.append_nil] at hb2
  refine wpAny_call (PySem.HandSPX.call_own PySem.F.excBase_ValueError (fun Y => PySem.HandSPX.refsVE_contains Y bm hbm) (I1.kIn _ _ hC) (PySem.W.looks_findIn I1.kIn iC) (fun self => PySem.W.bind_fn I1.kIn self tI) hus
    (codeAny_mono (F1.run _ X.stack _ _ ⟨Value.ref (hp.objs.size + 1) :: us, []⟩ (Value.ref (hp.objs.size + 1) :: us) _ _ (fun _ _ _ => False) (hr.make C us []) (I2.env0.make C us []) hb2 r2 hq) fun r s' z => ?_))
  cases r with
  | error er => exact absurd z id
  | ok fl =>
    cases fl with
    | ret u =>
      obtain ⟨v, H', J, rv, ev, qq⟩ := I2.after z
      subst ev
      exact ⟨rv, .ref (hp.objs.size + 1), H', J, rfl, qq⟩
    | next => exact absurd z id
    | brk => exact absurd z id
    | cont => exact absurd z id
/-- what isinstance asks of the class of an exception -/
structure XcC (K : PySem.W.Frag) (C : Addr) : Prop where
  cl : (PySem.W.clsIn K C).isSome = true
  hg : PySem.W.findIn K (.ref C) "__getattribute__" = some (some (.builtin "BaseException.__getattribute__"))
  hk : PySem.W.findIn K (.ref C) "__getattr__" = some none
  hs : PySem.W.subIn K (.ref C) (.type "BaseException") = some true
  ha : PySem.W.findIn K (.ref C) "__class__" = some (some (.builtin "object.__class__"))
  hn : PySem.W.specialIn K (.builtin "object.__class__") "__get__" = some (some (.builtin "getset_descriptor.__get__"))
  ht : PySem.W.takesIn K (.builtin "object.__class__") = some true
  hm : PySem.W.mroIn K C (.type "object") = some true
def xcB (K : PySem.W.Frag) (C : Addr) : Bool := (PySem.W.clsIn K C).isSome && (decide (PySem.W.findIn K (.ref C) "__getattribute__" = some (some (.builtin "BaseException.__getattribute__"))) && (decide (PySem.W.findIn K (.ref C) "__getattr__" = some none) &&
  (decide (PySem.W.subIn K (.ref C) (.type "BaseException") = some true) && (decide (PySem.W.findIn K (.ref C) "__class__" = some (some (.builtin "object.__class__"))) && (decide (PySem.W.specialIn K (.builtin "object.__class__") "__get__" = some (some (.builtin "getset_descriptor.__get__"))) &&
  (decide (PySem.W.takesIn K (.builtin "object.__class__") = some true) && decide (PySem.W.mroIn K C (.type "object") = some true)))))))
theorem xcB_ok {K : PySem.W.Frag} {C : Addr} (h : xcB K C = true) : XcC K C := by
  unfold xcB at h
  simp only [Bool.and_eq_true, decide_eq_true_eq] at h
  obtain ⟨h1, h2, h3, h4, h5, h6, h7, h8⟩ := h
  exact ⟨h1, h2, h3, h4, h5, h6, h7, h8⟩
def rIsX (K : PySem.W.Frag) : List V → Hp → VK → Prop := fun xs H Q => ∃ (a C : Addr) (c : V) (cv : Value) (b : Bool), xs = [.ref a, c] ∧ ExAt H a C ∧ XcC K C ∧ ClsV c cv ∧ PySem.W.kitOne K (.ref C) cv = some b ∧ Q (.bl b) H
theorem call_isX : CallR X (.builtin "isinstance") (rIsX X.K) := by
  intro pins st σ H xs us Q I r h
  obtain ⟨a, C, c, cv, b, rfl, ex, xc, kc, e, q⟩ := h
  obtain ⟨u1, u2, rfl, r1, r2⟩ := vals2 r
  cases r1
  have e2 := kc.eq r2
  subst e2
  obtain ⟨oe, od, J⟩ := ex.inst I
  exact PySem.W.kia_one (PySem.W.kitx_exc xc.cl xc.hg xc.hk xc.hs xc.ha xc.hn xc.ht xc.hm) I.kIn J e (fun z => nomatch z) fun tk => ⟨.bl b, H, I.kept (t' := tk) fun _ _ z => z, rfl, q⟩
theorem call_isXK {K : PySem.W.Frag} (hK : X.K = K) : CallR X (.builtin "isinstance") (rIsX K) := by
  subst hK
  exact call_isX
/-- e.f of such an object -/
def tXv (K : PySem.W.Frag) (f : Str) (te : TE) : TE := fun σ H Q => te σ H fun x H1 => ∃ (a C d : Addr) (fs : List (Str × V)) (v : V), x = .ref a ∧ H1 a = some (exo a C (some d)) ∧ H1 d = some (exd d fs) ∧ XfC K C ∧ PySem.W.findIn K (.ref C) f = some none ∧ fs.lookup f = some v ∧ Q v H1
theorem pe_xv {e : Expr} {te : TE} {pos : Pos} {n : Str} (he : PE X e te) (hb : attributeBase e n X.env (eval e X.env) = eval e X.env := by rfl) : PE X (.Attribute e n pos) (tXv X.K n te) := by
  constructor
  intro pins st σ H Q I h
  refine attr_of hb (thn (he.run pins st σ H _ I h) fun u s1 z => ?_)
  obtain ⟨x, H1, I1, rx, a, C, d, fs, v, rfl, h1, h2, xf, hno, hl, q⟩ := z
  cases rx
  obtain ⟨t1, ho⟩ := exo_at I1.hok h1
  obtain ⟨mA, hns, hrel⟩ := exd_at I1.hok h2
  obtain ⟨od, hod, hlk⟩ := lookIn_ns hns
  obtain ⟨u, hu, ru⟩ := RelO.some_of (v := v) (o := mA n) (by rw [← hl]; exact hrel n)
  have J : PySem.W.InstAt s1.heap a _ C (some od) := ⟨ho, rfl, rfl, hod⟩
  exact HandSPX.exc_get I1.kIn J xf.ga xf.gg xf.exC (PySem.W.findObj_own xf.hdC hno rfl (by rw [hlk, hu])) (handed_of ru) ⟨v, H1, I1.tok _, ru, q⟩
end
/-! ### facts of the written part, by one kernel run each -/
/-- a written tuple of texts -/
def strOf : Value → Option Str
  | .str x _ => some x
  | _ => none
def tupB (K : PySem.W.Frag) (a : Addr) (ws : List Str) : Bool := match K.lookup a with
  | some o => decide (o.cls = .type "tuple") && (match o.data with
    | .seq its _ => decide (its.size ≤ 1000) && decide (its.toList.map strOf = ws.map some)
    | _ => false)
  | none => false
theorem vals_str : ∀ {us : List Value} {ws : List Str}, us.map strOf = ws.map some → Vals (ws.map V.str) us
  | [], [], _ => .nil
  | [], _ :: _, h => nomatch h
  | _ :: _, [], h => nomatch h
  | u :: us, w :: ws, h => by
    rw [List.map_cons, List.map_cons] at h
    obtain ⟨h1, h2⟩ := List.cons.inj h
    refine .cons ?_ (vals_str h2)
    cases u with
    | str x t =>
      have e : x = w := Option.some.inj h1
      subst e
      exact ⟨t, rfl⟩
    | _ => exact nomatch h1
theorem tupB_ok {K : PySem.W.Frag} {a : Addr} {ws : List Str} (h : tupB K a ws = true) (H : Hp) : SqT K H a (ws.map V.str) := by
  unfold tupB at h
  split at h
  · rename_i o ho
    rw [Bool.and_eq_true] at h
    obtain ⟨h1, h2⟩ := h
    split at h2
    · rename_i its n hd
      rw [Bool.and_eq_true] at h2
      exact .inr ⟨o, its, n, ho, of_decide_eq_true h1, hd, sz (Nat.le_trans (of_decide_eq_true h2.1) (by decide)), vals_str (of_decide_eq_true h2.2)⟩
    · cases h2
  · cases h
/-- the refusals among one another, and under the first of them -/
def kitsB (K : PySem.W.Frag) (t : Addr) (cs : List Addr) : Bool := (List.range cs.length).all fun i => decide (PySem.W.kitOne K (.ref (cs.getD i 0)) (.ref t) = some true) && (List.range cs.length).all fun j => decide (PySem.W.kitOne K (.ref (cs.getD i 0)) (.ref (cs.getD j 0)) = some (decide (i = j)))
theorem kitsB_top {K : PySem.W.Frag} {t : Addr} {cs : List Addr} (h : kitsB K t cs = true) {i : Nat} (hi : i < cs.length) : PySem.W.kitOne K (.ref (cs.getD i 0)) (.ref t) = some true := by
  unfold kitsB at h
  have z := List.all_eq_true.mp h i (List.mem_range.mpr hi)
  rw [Bool.and_eq_true] at z
  exact of_decide_eq_true z.1
theorem kitsB_two {K : PySem.W.Frag} {t : Addr} {cs : List Addr} (h : kitsB K t cs = true) {i j : Nat} (hi : i < cs.length) (hj : j < cs.length) : PySem.W.kitOne K (.ref (cs.getD i 0)) (.ref (cs.getD j 0)) = some (decide (i = j)) := by
  unfold kitsB at h
  have z := List.all_eq_true.mp h i (List.mem_range.mpr hi)
  rw [Bool.and_eq_true] at z
  exact of_decide_eq_true (List.all_eq_true.mp z.2 j (List.mem_range.mpr hj))
def dws : List Str := ["new", "put", "paint", "tie", "cut", "add", "spread"]

end My
namespace My
open PySem PySem.Spec PyProof.Rows L2
/-! ### an exception caught and kept -/
/-- at a stands an exception of the class cls that was raised -/
def ExC (cls : Value) (d : Option Addr) (a : Addr) : HO := .ext fun h => ∃ (oe : Obj) (vs : Array Value), h.get? a = some oe ∧ Zc cls d oe ∧ oe.data = .fields vs
theorem exC_ok {P : Program} {w : World} {H : Hp} {h : Heap} {a : Addr} {cls : Value} {d : Option Addr} {oe : Obj} {vs : Array Value} (e : h.get? a = some oe) (z : Zc cls d oe) (dd : oe.data = .fields vs) : ObjOk P w H h a (ExC cls d a) := by
  refine ⟨⟨oe, vs, e, z, dd⟩, ⟨oe, e⟩, ?_⟩
  rintro h1 h2 ⟨o, v, e1, z1, d1⟩ st
  exact ⟨o, v, st _ e1, z1, d1⟩
/-- what stood nowhere at sI is none of the context's own: it may be tracked -/
theorem inv_seen {X : Cx} {pins : List (Addr × Obj)} {σI σ : L2.St} {HI H : Hp} {sI s : Shared} {a : Addr} {o : HO} (J : Inv X pins σI HI sI) (new : sI.heap.get? a = none) (I : Inv X pins σ H s) (na : H a = none) (ok : ObjOk X.prog X.w (upd H a o) s.heap a o) :
    Inv X pins σ (upd H a o) s := by
  have old : ∀ {b : Addr} {ob : Obj}, sI.heap.get? b = some ob → upd H a o b = H b := fun {b ob} e => upd_ne fun z => by
    rw [z, new] at e
    cases e
  have trk : ∀ {b : Addr} {u : HO}, H b = some u → upd H a o b = some u := fun {b u} e => (upd_ne (ne_of_none e na)).trans e
  refine ⟨I.ok, I.os, I.bare, ⟨I.base.keep, I.base.slot, ?_, I.base.there, ?_, ?_, ?_⟩, I.loc, I.cell, ?_, ?_, ?_, ?_, I.len⟩
  · intro b ob e nb hx
    obtain ⟨o', e'⟩ := J.base.there b ob e hx
    rw [old e']
    exact I.base.free b ob e nb hx
  · intro b xs e
    exact trk (I.base.tups b xs e)
  · intro b ob u e
    exact trk (I.base.frzs b ob u e)
  · intro b ps e
    obtain ⟨more, q⟩ := I.base.tbls b ps e
    exact ⟨more, trk q⟩
  · obtain ⟨m, ⟨ol, _, _, el, _⟩, _⟩ := J.loc
    rw [old el]
    exact I.free
  · intro y c e
    obtain ⟨v, oc, ec, _⟩ := J.cell y c e
    rw [old ec]
    exact I.freeC y c e
  · intro p hp
    obtain ⟨p1, p2, p3⟩ := I.pin p hp
    exact ⟨p1, (old (J.pin p hp).1).trans p2, p3⟩
  · intro b u e
    by_cases hb : b = a
    · subst hb
      rw [upd_same] at e
      cases e
      exact ok
    · rw [upd_ne hb] at e
      exact (I.hok b u e).stay (fun _ _ _ q => q) (fun _ q => trk q) fun _ _ q => trk q
/-- what 'except x as n' wishes, the exception kept behind it -/
def wKeep (K : PySem.W.Frag) (c : Value) (i : Nat) (ts : Addr → TS) (D : Ends) : WX := fun cls d σ H =>
  PySem.W.exmOne K cls c = some true ∧ ∀ a, H a = none → ts a { nx := fun σ' H' => H' a = none ∧ D.nx (σ'.set i none) (upd H' a (ExC cls d a)), rt := fun _ _ => False, bk := fun _ _ => False, ct := fun _ _ => False } (σ.set i (some (.ref a))) H
theorem ps_try_keep {X : Cx} {x n : Str} {c : Value} {i : Nat} {body suite : List Stmt} {b0 : Stmt} {np pos pos' : Pos} {tb : WX → TS} {ts : Addr → TS} (stk : X.stack = X.env :: X.outer) (frm : X.env.frame = some X.env.locals) (nd : X.N.Nodup) (hi : X.N[i]? = some n) (loc : X.env.kindOf n = some .local) (nm : Names X x c)
    (hb : ∀ (W : WX) (pn : List (Addr × Obj)) (xe : Value → Shared → Prop), Takes (X.tr pn xe) W → PSs (X.tr pn xe) body (tb W))
    (hsu : ∀ (a : Addr) (pn : List (Addr × Obj)), PSs (X.suite a pn) (b0 :: suite) (ts a)) :
    PS X (.Try body [.ExceptHandler (some (.Name x np)) (some n) (b0 :: suite) pos'] [] [] pos) (fun D σ H => tb (wKeep X.K c i ts D) D σ H) := by
  constructor
  intro pins s σ H D I h
  have frs' : X.A.frames = some (X.env :: X.outer) := by rw [I.ok.frames, stk]
  refine wpAny_Try_except (wpAny_mono ((hb (wKeep X.K c i ts D) (X.pn ++ pins) _ fun u s' ex => ?_).run [] s σ H D (I.toTry _) h) (fun f s1 sp => ?_) fun e s1 q => q)
  · obtain ⟨a, B, sI, pins', σ', H', cls, d, rfl, JT, nb, up, sky, na, os, ag, hm, go⟩ := ex
    have J : Inv X pins σ' H' sI := JT.ofTry I.ok
    have sky2 : Sky B (X.env :: X.outer) a (Zc cls d) X.env.locals s'.heap := stk ▸ sky
    refine Sky.land Zc.steady frs' frm sky2 fun h3 fl3 up3 => ?_
    have J3 : Inv X pins σ' H' { s' with heap := h3 } := J.landed nb fl3.1 (up.trans up3) os ag
    have away : ∀ {hp : Heap} {o : Obj} {vs : Array Value}, hp.FunFrames B (X.env :: X.outer) → hp.get? a = some o → o.data = .fields vs → a ∉ frs (X.env :: X.outer) := fun {hp o vs} ff e dd m => by
      obtain ⟨_, o', e', nf⟩ := ff.mem m
      rw [e] at e'
      cases e'
      exact nf _ dd
    obtain ⟨oe3, vs3, he3, hz3, hd3⟩ := fl3.there
    have nfr := away fl3.2.2.1 he3 hd3
    have nl : a ≠ X.env.locals := fun z => nfr (List.mem_filterMap.mpr ⟨X.env, List.mem_cons_self, by rw [frm, z]⟩)
    have nfs : a ∉ X.fs := fun m => by
      obtain ⟨e, he, q⟩ := List.mem_filterMap.mp m
      exact nfr (List.mem_filterMap.mpr ⟨e, List.mem_cons_of_mem _ he, q⟩)
    have newI : sI.heap.get? a = none := by
      cases q : sI.heap.get? a with
      | none => rfl
      | some ob =>
        have z := nb a ob q (by rw [stk]; exact nfr)
        rw [fl3.2.1] at z
        cases z
    have S3 := J3.suite he3 hd3 na nl nfs
    refine wpAny_handleBy_cons (codeAny_handlers_test ?_) (fun z => nomatch z)
    have name : ∀ {Q' : Value → Shared → Prop} {E' : Value → Shared → Prop}, Q' c { s' with heap := h3 } → wpAny (model X.prog X.w) (X.A.mark (some (.ref a))) (eval (.Name x np) X.env) Q' E' { s' with heap := h3 } := fun {Q' E'} q => by
      obtain ⟨gl, dbg, hit | ⟨miss, bt, nn⟩⟩ := nm
      · exact ld_glob (X := X.suite a ((a, oe3) :: (X.pn ++ pins))) S3 gl hit q dbg
      · exact ld_blt (X := X.suite a ((a, oe3) :: (X.pn ++ pins))) S3 gl miss bt q nn dbg
    have looks : PySem.W.Looks (model X.prog X.w) h3 (typeOf (.ref a)) cls := fun A' Q' E' t k q => wpAny_typeOf_ref (k _ _ he3) (hz3.1.symm ▸ q)
    refine name ((PySem.W.exm_one (M := model X.prog X.w) J3.kIn looks hm).here (codeAny_handlers_suite_as (HandSPX.lands_againZ fl3 fun h4 fl4 up4 => ?_)))
    · have J4 : Inv X pins σ' H' { s' with heap := h4 } := J.landed nb fl4.1 ((up.trans up3).trans up4) os ag
      obtain ⟨oe4, vs4, he4, hz4, hd4⟩ := fl4.there
      refine store_ok (X := X.suite a ((a, oe4) :: (X.pn ++ pins))) (v := .ref a) (J4.suite he4 hd4 na nl nfs) nd hi (.inl loc) rfl (fun s5 S5 => ?_) (.inr loc)
      refine wpAny_mono ((hsu a ((a, oe4) :: (X.pn ++ pins))).run [] s5 _ H' _ S5 (go a na)) (fun f s6 sp => ?_) fun _ _ z => (show False from z).elim
      cases f with
      | next =>
        obtain ⟨σ6, H6, S6, n6, q6⟩ := sp
        refine gone_ok (X := X.suite a ((a, oe4) :: (X.pn ++ pins))) S6 nd hi loc fun s7 S7 => ?_
        have at7 := (S7.pin (a, oe4) (List.mem_append_left _ List.mem_cons_self)).1
        exact ⟨_, _, inv_seen J newI (S7.unsuite I.ok) n6 (exC_ok at7 hz4 hd4), q6⟩
      | brk =>
        obtain ⟨_, _, _, z⟩ := sp
        exact (show False from z).elim
      | cont =>
        obtain ⟨_, _, _, z⟩ := sp
        exact (show False from z).elim
      | ret u =>
        obtain ⟨_, _, _, _, _, z⟩ := sp
        exact (show False from z).elim
  · cases f with
    | next =>
      obtain ⟨σ', H', J, q⟩ := sp
      exact wpAny_execs_nil ⟨σ', H', J.ofTry I.ok, q⟩
    | brk =>
      obtain ⟨σ', H', J, q⟩ := sp
      exact ⟨σ', H', J.ofTry I.ok, q⟩
    | cont =>
      obtain ⟨σ', H', J, q⟩ := sp
      exact ⟨σ', H', J.ofTry I.ok, q⟩
    | ret u =>
      obtain ⟨v, σ', H', J, r, q⟩ := sp
      exact ⟨v, σ', H', J.ofTry I.ok, r, q⟩

/-! ### a lambda of one parameter -/
structure LamP (sc scope : Scope) (p : Str) : Prop where
  kind : scope.kind = .function
  co : scope.isCoroutine = false
  gen : scope.isGenerator = false
  par : scope.names.lookup p = some .local
  own : ∀ y ∈ scope.names, y.2 ≠ .cell ∧ (y.2 = .local → y.1 = p)
  free : ∀ y ∈ scope.names, y.2 = .free → sc.names.lookup y.1 = some .cell ∨ sc.names.lookup y.1 = some .free
def lamPB (sc scope : Scope) (p : Str) : Bool := decide (scope.kind = .function) && (!scope.isCoroutine && (!scope.isGenerator && (decide (scope.names.lookup p = some .local) && scope.names.all fun y => !decide (y.2 = .cell) && ((!decide (y.2 = .local) || decide (y.1 = p)) && (!decide (y.2 = .free) || (decide (sc.names.lookup y.1 = some .cell) || decide (sc.names.lookup y.1 = some .free)))))))
theorem lamP_by {sc scope : Scope} {p : Str} (h : lamPB sc scope p = true) : LamP sc scope p := by
  unfold lamPB at h
  simp only [Bool.and_eq_true, Bool.or_eq_true, Bool.not_eq_true', decide_eq_true_eq, decide_eq_false_iff_not, List.all_eq_true] at h
  obtain ⟨h1, h2, h3, h4, h5⟩ := h
  refine ⟨h1, h2, h3, h4, fun y hy => ⟨(h5 y hy).1, fun e => ?_⟩, fun y hy e => ?_⟩
  · rcases (h5 y hy).2.1 with z | z
    · exact absurd e z
    · exact z
  · rcases (h5 y hy).2.2 with z | z
    · exact absurd e z
    · exact z
theorem LamP.has {X : Cx} {scope : Scope} {p : Str} (L : LamP X.env.scope scope p) (ok : X.Ok) {y : Str × NameKind} (hy : y ∈ scope.names) (e : y.2 = .free) : ∃ c, X.env.cells.lookup y.1 = some c := ok.has _ (L.free y hy e)
/-- the context of its body -/
def cxP (X : Cx) (A : Around) (outer : List Env) (s : Shared) (H : Hp) (E : XK) (scope : Scope) (p : Str) (f c' : Addr) : Cx := { LamX.lamCx X A outer s H E scope f c' with N := X.N ++ [p] }
section
variable {X : Cx} {pins : List (Addr × Obj)} {σ : L2.St} {H HZ : Hp} {s s1 : Shared} {A : Around} {outer : List Env} {E : XK} {scope : Scope} {p : Str} {f c' : Addr}
theorem lamP_start {h1 : Heap} {tk : Nat} {v : V} {u : Value} (I : Inv X pins σ H s) (L : LamP X.env.scope scope p) (np : ∀ (i : Nat) (v : V), X.N[i]? = some p → σ[i]? = some (some v) → False) (e0 : Env0 X.prog X.w X.K X.mg X.base A outer s1 HZ) (calm : A.handled = none)
    (un : Un (frs X.stack) [] H HZ s.heap s1.heap) (ns : h1.Ns s1.heap.objs.size fun y => ([(p, u)] : List (Str × Value)).reverse.lookup y) (kp : ∀ b o, s1.heap.get? b = some o → h1.get? b = some o) (r : RelV v u) :
    Inv (cxP X A outer s1 HZ E scope p f c') [] (σ ++ [some v]) HZ { s1 with heap := h1, toks := tk } := by
  -- the closure's cells are the maker's
  have back : ∀ {y : Str} {c : Addr}, (cloFrom X.env.cells scope.names []).lookup y = some c → X.env.cells.lookup y = some c := fun {y c} e => by
    rcases cloFrom_mem (PySem.mem_of_lookup e) with z | ⟨z, ec⟩
    · cases z
    · obtain ⟨c1, e1⟩ := L.has I.ok z rfl
      rw [ec, e1]
      rfl
  have fwd : ∀ {y : Str}, scope.names.lookup y = some .free → ∃ c, (cloFrom X.env.cells scope.names []).lookup y = some c := fun {y} e =>
    mem_lookup (cloFrom_has (cells := X.env.cells) (acc := []) (show (y, NameKind.free) ∈ scope.names from PySem.mem_of_lookup e))
  have cellOn : ∀ {c : Addr} {x : Option Value}, H c = none → s.heap.IsCell c x → h1.IsCell c x := fun {c x} n z => by
    obtain ⟨o, ho, hd⟩ := z
    obtain ⟨sl, q⟩ := un.any ho n (fun z => nomatch z)
    exact ⟨_, kp _ _ q, hd⟩
  have noCell : ∀ {y : Str}, scope.names.lookup y ≠ some .cell := fun {y} e => (L.own _ (PySem.mem_of_lookup e)).1 rfl
  have isOwn : ∀ {y : Str}, scope.names.lookup y = some .local → y = p := fun {y} e => (L.own _ (PySem.mem_of_lookup e)).2 rfl
  have ok : (cxP X A outer s1 HZ E scope p f c').Ok :=
    { mod := e0.mod
      kind := L.kind
      glob := rfl
      blt := rfl
      above := Nat.le_refl _
      inj := fun y z c e1 e2 => I.ok.inj y z c (back e1) (back e2)
      has := fun y hy => by
        rcases hy with hy | hy
        · exact absurd hy noCell
        · exact fwd hy
      cab := fun y c z _ => absurd (show false = true from z) Bool.false_ne_true
      hd := fun _ => calm
      frames := Around.frames_deeper e0.frames
      stk := .inr ⟨rfl, rfl⟩
      exf := fun b z => absurd (show b ∈ ([] : List Addr) from z) List.not_mem_nil
      bs := e0.bs
      bsz := e0.bsz
      noex := fun b _ _ z => absurd (show b ∈ ([] : List Addr) from z) List.not_mem_nil
      exfs := fun b z => absurd (show b ∈ ([] : List Addr) from z) List.not_mem_nil
      funs := e0.funs
      frf := e0.frf }
  refine ⟨ok, rfl, e0.bare, Un.kept kp, ⟨_, ns, fun i y x e1 e2 e3 => ?_⟩, fun y c e => ?_, e0.hok.fresh (Nat.le_refl _), fun y c e => ?_, fun q hq => absurd (show q ∈ ([] : List (Addr × Obj)) ++ [] from hq) List.not_mem_nil, e0.hok.kept kp, ?_⟩
  · have e1 : (X.N ++ [p])[i]? = some y := e1
    have e3 : Vis scope y := e3
    have ll : σ.length = X.N.length := I.len
    by_cases lt : i < X.N.length
    · rw [List.getElem?_append_left lt] at e1
      rw [List.getElem?_append_left (by rw [ll]; exact lt)] at e2
      have ny : y ≠ p := fun z => np i x (z ▸ e1) e2
      rcases e3 with k | k | k
      · exact absurd (isOwn k) ny
      · exact absurd k noCell
      · obtain ⟨m, _, at_⟩ := I.loc
        have fr := L.free _ (PySem.mem_of_lookup k) rfl
        obtain ⟨u', r', q⟩ := at_ i y x e1 e2 (.inr fr)
        obtain ⟨c, ec⟩ := fwd k
        refine ⟨u', r', .inr ⟨.inr k, c, ec, ?_⟩⟩
        rcases q with ⟨k', _⟩ | ⟨_, c2, ec2, z⟩
        · have k' : X.env.scope.names.lookup y = some .local := k'
          rcases fr with k2 | k2
          · rw [k'] at k2
            cases k2
          · rw [k'] at k2
            cases k2
        · rw [back ec] at ec2
          cases ec2
          exact cellOn (I.freeC y c (back ec)) z
    · have ge : X.N.length ≤ i := Nat.le_of_not_lt lt
      rw [List.getElem?_append_right ge] at e1
      rw [List.getElem?_append_right (by rw [ll]; exact ge), ll] at e2
      cases hi : i - X.N.length with
      | zero =>
        rw [hi] at e1 e2
        have ey : p = y := Option.some.inj e1
        have ev : v = x := Option.some.inj (Option.some.inj e2)
        subst ey ev
        refine ⟨u, r, .inl ⟨L.par, ?_⟩⟩
        show ([(p, u)] : List (Str × Value)).lookup p = some u
        rw [List.lookup_cons, beq_self_eq_true]
      | succ n =>
        rw [hi] at e1
        cases e1
  · obtain ⟨x, z⟩ := I.cell y c (back e)
    exact ⟨x, cellOn (I.freeC y c (back e)) z⟩
  · obtain ⟨x, o, ho, _⟩ := I.cell y c (back e)
    exact un.free c o ho (I.freeC y c (back e)) (fun z => nomatch z)
  · show (σ ++ [some v]).length = (X.N ++ [p]).length
    rw [List.length_append, List.length_append, I.len]
    rfl
/-- the lambda at f called with one thing, at any time behind its making -/
theorem lamP_run {k : Nat} {params : Arguments} {b : Expr} {pm ctv : Value} {tb : TE} {v : V} {u : Value} {Q : VK} (I : Inv X pins σ H s) (L : LamP X.env.scope scope p) (np : ∀ (i : Nat) (v : V), X.N[i]? = some p → σ[i]? = some (some v) → False)
    (hf : s.heap.get? f = some (PySem.W.kla_obj "<lambda>" (X.env.qual ++ "<lambda>") params b scope (cloFrom X.env.cells scope.names []) pm c' ctv)) (hfn : H f = none) (hfr : f ∉ frs X.stack)
    (bind : ∀ u, bindArgs (PySem.W.kla_fn "<lambda>" (X.env.qual ++ "<lambda>") params b scope (cloFrom X.env.cells scope.names []) pm (.ref c') ctv) ⟨[u], []⟩ = pure [(p, u)]) (room : Room (k + 1) A) (e0 : Env0 X.prog X.w X.K X.mg X.base A outer s1 HZ)
    (un : Un (frs X.stack) [] H HZ s.heap s1.heap) (code : HZ c' = some (LamX.CodeO c' (X.env.qual ++ "<lambda>"))) (body : ∀ (A : Around) (outer : List Env) (s : Shared) (H : Hp), Room k (A.deeper (LamX.lamEnv X scope s.heap.objs.size f c')) → PE (cxP X A outer s H E scope p f c') b tb)
    (r : RelV v u) (t : tb (σ ++ [some v]) HZ Q) : codeAny (model X.prog X.w) A (.call (.ref f) ⟨[u], []⟩) (CR (L2.CX X.prog X.w) outer X.prog X.w HZ s1 Q E) s1 := by
  have here := un.keep f _ hf hfn hfr (fun z => nomatch z)
  obtain ⟨⟨oc, vs, tk, ho, hd, hv⟩, _, _⟩ := e0.hok c' _ code
  refine PySem.W.kla_callFunE room.depth here rfl L.co L.gen rfl ⟨c', oc, vs, tk, rfl, ho, hd, hv⟩ ?_
  rw [bind u]
  refine wpAny_pure (wpAny_newFunctionEnv (fun y hy => (L.own y hy).1) (fun y hy => ?_) (fun h1 ns sb => ⟨?_, ?_⟩) L.kind)
  · rw [List.mem_singleton.mp hy]
    exact L.par
  · have kin : s1.heap.NoLimit := e0.mod.nolimit.keeps fun b o e => (e0.bs b o e).1
    exact kin.fresh _ sb
  · have kp : ∀ b o, s1.heap.get? b = some o → h1.get? b = some o := fun b o e => sb.extBut b o (Nat.ne_of_lt (Heap.lt_size e)) (Heap.get?_push_of_some _ e)
    have J := lamP_start (E := E) (f := f) (c' := c') (tk := s1.toks + ([(p, u)] : List (Str × Value)).length) I L np e0 room.hd un ns kp r
    show codeAny _ _ (.expr b (LamX.lamEnv X scope s1.heap.objs.size f c')) _ _
    refine PySem.W.kla_codeExpr (wpAny_mono ((body _ _ s1 HZ (room.deeper _)).run [] _ _ HZ Q J t) (fun w' s' z => ?_) fun e s' z => z)
    obtain ⟨x, H', J', rx, q⟩ := z
    exact ⟨x, H', J'.os, J'.bare, J'.base, J'.hok, rx, q⟩
end
/-! ### it is called by the def that got it -/
/-- that def's context, entered at s -/
abbrev gotCx (X : Cx) (Ng : List Str) (x : Str) (sg : Scope) (g : Addr) (cdg : Value) (s : Shared) (H : Hp) : Cx := cxOf CX0 X.prog X.w X.K X.mg X.base Ng x sg g cdg X.A X.stack s H E0
/-- a(e), a's slot the i-th: e's reading, then the lambda's of e's value -/
def tAct (i : Nat) (f c' : Addr) (q : Str) (ta : TA) (W : WX) (tl : XK → V → Hp → VK → Prop) : TE := fun σ H Q => σ[i]? = some (some (.ref f)) ∧ ta σ H fun vs H1 => ∃ v, vs = [v] ∧ H1 c' = some (LamX.CodeO c' q) ∧ tl (fun cls d H' => W cls d σ H') v H1 Q
theorem pe_actP {X : Cx} {pins : List (Addr × Obj)} {σ : L2.St} {H : Hp} {s : Shared} {scope : Scope} {p x a : Str} {f c' g : Addr} {k i : Nat} {params : Arguments} {b e : Expr} {pm ctv cdg : Value} {tb : XK → TE} {ta : TA} {Ng : List Str} {sg : Scope} {pn : List (Addr × Obj)} {xe : Value → Shared → Prop} {W : WX} {p1 p2 : Pos}
    (I : Inv X pins σ H s) (L : LamP X.env.scope scope p) (np : ∀ (i : Nat) (v : V), X.N[i]? = some p → σ[i]? = some (some v) → False) (hf : s.heap.get? f = some (PySem.W.kla_obj "<lambda>" (X.env.qual ++ "<lambda>") params b scope (cloFrom X.env.cells scope.names []) pm c' ctv)) (hfn : H f = none) (hfr : f ∉ frs X.stack)
    (bind : ∀ u, bindArgs (PySem.W.kla_fn "<lambda>" (X.env.qual ++ "<lambda>") params b scope (cloFrom X.env.cells scope.names []) pm (.ref c') ctv) ⟨[u], []⟩ = pure [(p, u)])
    (tk : Takes ((gotCx X Ng x sg g cdg s H).tr pn xe) W) (room : Room (k + 1) (X.A.deeper (envOfC x sg s.heap.objs.size g cdg)))
    (body : ∀ (A : Around) (outer : List Env) (s : Shared) (H : Hp) (E : XK), Room k (A.deeper (LamX.lamEnv X scope s.heap.objs.size f c')) → PE (cxP X A outer s H E scope p f c') b (tb E))
    (at_ : Ng[i]? = some a) (vis : Vis sg a) (args : PA ((gotCx X Ng x sg g cdg s H).tr pn xe) [e] ta)
    (star : starEach [e] ((gotCx X Ng x sg g cdg s H).tr pn xe).env = (false, eval e ((gotCx X Ng x sg g cdg s H).tr pn xe).env) :: starEach [] ((gotCx X Ng x sg g cdg s H).tr pn xe).env := by rfl)
    (d1 : (a == ("__debug__" : Str)) = false := by decide) (d2 : (a == ("__classdict__" : Str)) = false := by decide) :
    PE ((gotCx X Ng x sg g cdg s H).tr pn xe) (.Call (.Name a p1) [e] [] p2) (tAct i f c' (X.env.qual ++ "<lambda>") ta W fun E v H1 Q => tb E (σ ++ [some v]) H1 Q) := by
  constructor
  intro pz sz σz Hz Q Iz h
  obtain ⟨slot, ht⟩ := h
  refine wpAny_Call_Name_kw (thn ((pe_var (pos := p1) (i := i) at_ vis d1 d2).run pz sz σz Hz (fun v H1 => v = .ref f ∧ H1 = Hz) Iz ⟨.ref f, slot, rfl, rfl⟩) fun u s1 z => ?_)
  obtain ⟨v0, H1, I1, r1, rfl, rfl⟩ := z
  obtain rfl : u = Value.ref f := r1
  have still : ∀ {σ' : L2.St} {H' : Hp} {s' : Shared}, Inv ((gotCx X Ng x sg g cdg s H).tr pn xe) pz σ' H' s' → s'.heap.get? f = some (PySem.W.kla_obj "<lambda>" (X.env.qual ++ "<lambda>") params b scope (cloFrom X.env.cells scope.names []) pm c' ctv) := fun J => J.base.keep f _ hf hfn hfr (fun z => nomatch z)
  refine PySem.W.callWith_F ⟨_, _, _, _, still I1⟩ (thn (args.run p2 pz s1 σz H1 _ I1 ht) fun us s2 z => ?_) star rfl
  obtain ⟨vs, H2, I2, rv, v, rfl, hc, tl⟩ := z
  obtain ⟨u, rfl, ru⟩ := vals1 rv
  have e2 : Env0 X.prog X.w X.K X.mg X.base (X.A.deeper (envOfC x sg s.heap.objs.size g cdg)) (envOfC x sg s.heap.objs.size g cdg :: X.stack) s2 H2 := I2.env0
  have un : Un (frs X.stack) [] H H2 s.heap s2.heap := I2.base
  have run := lamP_run (X := X) (E := fun cls d H' => W cls d σz H') (k := k) (u := u) (Q := Q) I L np hf hfn hfr bind room e2 un hc (fun A outer s H rm => body A outer s H _ rm) ru tl
  refine ⟨⟨_, _, _, _, still I2⟩, wpAny_call (codeAny_mono run fun res s3 z => ?_)⟩
  cases res with
  | error er => exact tk er s3 (XE.of_call I2 (fun _ _ _ w => w) z)
  | ok fl =>
    cases fl with
    | ret u' => exact I2.after z
    | next => exact (show False from z).elim
    | brk => exact (show False from z).elim
    | cont => exact (show False from z).elim
/-- what the def makes of the lambda's reading tl and of the thing v: TT -/
def GivesP (X : Cx) (k : Nat) (Ng : List Str) (x : Str) (sg : Scope) (g : Addr) (cdg : Value) (bg : List Stmt) (a : Str) (q : Str) (TT : V → (XK → V → Hp → VK → Prop) → Hp → VK → Prop) : Prop :=
  ∀ (f c' : Addr) (v : V) (s : Shared) (H : Hp) (Q : VK) (tl : XK → V → Hp → VK → Prop), Room k (X.A.deeper (envOfC x sg s.heap.objs.size g cdg)) →
    (∀ (W : WX) (pn : List (Addr × Obj)) (xe : Value → Shared → Prop) (p1 p2 : Pos) (e : Expr) (ta : TA), Takes ((gotCx X Ng x sg g cdg s H).tr pn xe) W → PA ((gotCx X Ng x sg g cdg s H).tr pn xe) [e] ta →
      starEach [e] ((gotCx X Ng x sg g cdg s H).tr pn xe).env = (false, eval e ((gotCx X Ng x sg g cdg s H).tr pn xe).env) :: starEach [] ((gotCx X Ng x sg g cdg s H).tr pn xe).env →
      PE ((gotCx X Ng x sg g cdg s H).tr pn xe) (.Call (.Name a p1) [e] [] p2) (tAct 0 f c' q ta W tl)) →
    H c' = some (LamX.CodeO c' q) → TT v tl H Q →
    ∃ t, PSs (gotCx X Ng x sg g cdg s H).nox bg t ∧ t { nx := fun _ H' => Q .non H', rt := Q } (L2.start Ng [.ref f, v]) H
/-- the lambda is made: all but the table at P is as it was -/
theorem lam_new {X : Cx} {pins : List (Addr × Obj)} {σ : L2.St} {H : Hp} {s : Shared} {c P : Addr} {params : Arguments} {b : Expr} {scope : Scope} {pos : Pos} {E Q : Value → Shared → Prop} (J : Inv X pins σ H s) (tab : LamX.TabB X.base X.mg c P) (own : X.env.code = .ref c)
    (t0 : LamX.TabS H P (X.env.qual ++ "<lambda>")) (nodef : defaultsOf params X.env = ([], [])) (has : ∀ y ∈ scope.names, y.2 = .free → ∃ c, X.env.cells.lookup y.1 = some c)
    (go : ∀ (f c' : Addr) (pm ctv : Value) (H1 : Hp) (s1 : Shared), Inv X pins σ H1 s1 → But P H H1 → LamX.TabS H1 P (X.env.qual ++ "<lambda>") → s1.heap.get? f = some (PySem.W.kla_obj "<lambda>" (X.env.qual ++ "<lambda>") params b scope (cloFrom X.env.cells scope.names []) pm c' ctv) →
      H1 f = none → f ∉ frs X.stack → H1 c' = some (LamX.CodeO c' (X.env.qual ++ "<lambda>")) → Q (.ref f) s1) : wpAny (model X.prog X.w) X.A (eval (.Lambda params b scope pos) X.env) Q E s := by
  have seen := t0
  obtain ⟨ps, atP, tri, each⟩ := seen
  have blt : s.heap.BuiltinsAt X.mg P := tab.bm.keeps J.bk
  have objP : s.heap.get? P = some { cls := .none, data := .fields ps } := J.hok P _ atP
  have far : ∀ f, s.heap.objs.size ≤ f → f ∉ frs X.stack := fun f le m => by
    rcases List.mem_cons.mp (J.stkSub _ m) with e | e
    · have lt := J.lt
      rw [← e] at lt
      exact absurd (Nat.lt_of_lt_of_le lt le) (Nat.lt_irrefl _)
    · exact J.nofs le e
  refine PySem.W.kla_eval nodef ?_
  cases found : codeAmong pos ps.toList with
  | some cv =>
    obtain ⟨c', rfl, here⟩ := each pos cv found
    refine PySem.W.kla_makeFunctionHit (P := P) (c := c) (mg := X.mg) (ps := ps) (closure_ok has) J.ok.glob (J.mod.glob.keeps J.bk) own (tab.code.keeps J.bk) objP tri found blt fun ctv h' tk kept le => ?_
    have J1 : Inv X pins σ H { s with heap := h'.push (PySem.W.kla_obj "<lambda>" (X.env.qual ++ "<lambda>") params b scope (cloFrom X.env.cells scope.names []) ((X.mg "__name__").getD .none) c' ctv), toks := tk } := J.kept fun _ _ e => Heap.get?_push_of_some _ (kept _ _ e)
    exact go _ c' _ ctv H _ J1 .refl t0 (Heap.get?_push_size _ rfl) (J.hok.fresh le) (far _ le) here
  | none =>
    refine PySem.W.kla_makeFunction (P := P) (c := c) (mg := X.mg) (ps := ps) (closure_ok has) J.ok.glob (J.mod.glob.keeps J.bk) own (tab.code.keeps J.bk) objP tri found tab.gP blt fun c' ctv h' tk kept ge lt rec_ grown => ?_
    obtain ⟨c2, oc, vs, tk2, e2, atC, dat, nm⟩ := rec_
    cases e2
    have le : s.heap.objs.size ≤ h'.objs.size := Nat.le_trans ge (Nat.le_of_lt lt)
    have newC : H c' = none := J.hok.fresh ge
    have J1 := LamX.inv_table (t' := tk) (more := #[rawInt pos.line, rawInt pos.col, .ref c']) (h' := h'.push (PySem.W.kla_obj "<lambda>" (X.env.qual ++ "<lambda>") params b scope (cloFrom X.env.cells scope.names []) ((X.mg "__name__").getD .none) c' ctv)) J atP
      (fun _ _ nb e => Heap.get?_push_of_some _ (kept _ _ nb e)) (Heap.get?_push_of_some _ grown) ge ⟨oc, vs, tk2, Heap.get?_push_of_some _ atC, dat, nm⟩
    have but : But P H (upd (upd H P (.tbl (ps ++ #[rawInt pos.line, rawInt pos.col, .ref c']))) c' (LamX.CodeO c' (X.env.qual ++ "<lambda>"))) := fun d o e n => by
      rw [upd_ne (ne_of_none e newC), upd_ne n]
      exact e
    have toL : (ps ++ #[rawInt pos.line, rawInt pos.col, .ref c']).toList = ps.toList ++ [rawInt pos.line, rawInt pos.col, .ref c'] := by simp
    have away : ∀ {d : Addr} {q : Str}, H d = some (LamX.CodeO d q) → d ≠ P := fun {d q} e z => by
      rw [z, atP] at e
      exact LamX.codeO_ne ps (Option.some.inj e).symm
    refine go h'.objs.size c' _ ctv _ _ J1 but ⟨ps ++ #[rawInt pos.line, rawInt pos.col, .ref c'], ?_, ?_, fun p' cv among => ?_⟩ (Heap.get?_push_size _ rfl) ?_ (far _ le) upd_same
    · rw [upd_ne (ne_of_none atP newC), upd_same]
    · rw [toL]
      exact PySem.TriplesOk_snoc _ _ _ _ tri
    · rw [toL] at among
      rcases LamX.among_app _ tri among with z | z
      · obtain ⟨c0, e1, e2⟩ := each p' cv z
        exact ⟨c0, e1, but _ _ e2 (away e2)⟩
      · exact ⟨c', z, upd_same⟩
    · rw [upd_ne (Nat.ne_of_gt lt), upd_ne (Nat.ne_of_gt (Nat.lt_of_lt_of_le (Heap.lt_size objP) le))]
      exact J.hok.fresh le
def tLamP (P : Addr) (qn : Str) (TT : V → (XK → V → Hp → VK → Prop) → Hp → VK → Prop) (t : XK → TE) (ta : TA) : TE := fun σ H Q => LamX.TabS H P qn ∧ ∀ H1, But P H H1 → LamX.TabS H1 P qn → ta σ H1 fun vs H2 => ∃ v, vs = [v] ∧ LamX.ExtN H1 H2 ∧ TT v (fun E v H' Q' => t E (σ ++ [some v]) H' Q') H2 Q
theorem pinned_one {X : Cx} {pins : List (Addr × Obj)} {σ : L2.St} {H : Hp} {s : Shared} {f : Addr} {o : Obj} {fd : FuncData} (I : Inv X pins σ H s) (hf : s.heap.get? f = some o) (hd : o.data = .func fd) (hn : H f = none) (hfr : f ∉ frs X.stack) : Inv X ((f, o) :: pins) σ H s := by
  refine ⟨I.ok, I.os, I.bare, I.base, I.loc, I.cell, I.free, I.freeC, fun q hq => ?_, I.hok, I.len⟩
  rcases List.mem_append.mp hq with z | z
  · exact I.pin q (List.mem_append_left _ z)
  · rcases List.mem_cons.mp z with e | z
    · subst e
      refine ⟨hf, hn, fun e => ?_, fun m => hfr ?_, fun v e => ?_⟩
      · obtain ⟨m, ⟨ol, es, ep, el, dl, _⟩, _⟩ := I.loc
        have e' : f = X.env.locals := e
        rw [← e', hf] at el
        cases el
        rw [hd] at dl
        cases dl
      · rcases I.ok.stk with st | ⟨st, _⟩
        · rw [st]
          exact m
        · rw [st]
          obtain ⟨e1, m1, m2⟩ := List.mem_filterMap.mp m
          exact List.mem_filterMap.mpr ⟨e1, List.mem_cons_of_mem _ m1, m2⟩
      · have e' : o.data = .cell v := e
        rw [hd] at e'
        cases e'
    · exact I.pin q (List.mem_append_right _ z)
theorem unpin_one {X : Cx} {pins : List (Addr × Obj)} {σ : L2.St} {H : Hp} {s : Shared} {q : Addr × Obj} (I : Inv X (q :: pins) σ H s) : Inv X pins σ H s := by
  refine ⟨I.ok, I.os, I.bare, I.base, I.loc, I.cell, I.free, I.freeC, fun z hz => I.pin z ?_, I.hok, I.len⟩
  rcases List.mem_append.mp hz with m | m
  · exact List.mem_append_left _ m
  · exact List.mem_append_right _ (List.mem_cons_of_mem _ m)
/-- x(lambda p: b, e) -/
theorem pe_lamP {X : Cx} {TT : V → (XK → V → Hp → VK → Prop) → Hp → VK → Prop} {x a a2 p : Str} {g c P : Addr} {k : Nat} {pg : Arguments} {bg : List Stmt} {sg : Scope} {dV kV doc pm cdv ct oc : Value} {an od : Option Addr} {osl : Array (Option Value)} {Ng : List Str} {params : Arguments} {b e : Expr} {scope : Scope} {t : XK → TE} {ta : TA} {pp lpos pos : Pos}
    (gl : Gl X x) (mg : X.mg x = some (.ref g)) (keep : PySem.W.keepIn X.K (.ref g) = true) (look : X.K.lookup g = some ⟨oc, od, .func (PySem.W.fnOf x x pg bg sg dV kV doc pm an cdv ct), osl⟩) (code : PySem.W.codeIn X.K cdv x = true)
    (binds : L2.Binds X.K (PySem.W.fnOf x x pg bg sg dV kV doc pm an cdv ct) [a, a2] []) (S : FnScope Ng [a, a2] sg) (at0 : Ng[0]? = some a) (vis : Vis sg a) (gives : GivesP X (k + 1) Ng x sg g cdv bg a (X.env.qual ++ "<lambda>") TT)
    (TB : LamX.TabB X.base X.mg c P) (own : X.env.code = .ref c) (room : Room (k + 2) X.A) (L : LamP X.env.scope scope p) (np : p ∉ X.N) (nodef : defaultsOf params X.env = ([], []))
    (bind : ∀ (q : Str) (cl : List (Str × Addr)) (pm cv ctv u : Value), bindArgs (PySem.W.kla_fn "<lambda>" q params b scope cl pm cv ctv) ⟨[u], []⟩ = pure [(p, u)])
    (body : ∀ (A : Around) (outer : List Env) (s : Shared) (H : Hp) (E : XK) (f c' : Addr), Room k (A.deeper (LamX.lamEnv X scope s.heap.objs.size f c')) → PE (cxP X A outer s H E scope p f c') b (t E)) (args : PA X [e] ta)
    (star : starEach (.Lambda params b scope lpos :: [e]) X.env = (false, eval (.Lambda params b scope lpos) X.env) :: starEach [e] X.env := by rfl) (plain : (backTo pos (starEach [e] X.env)).any (·.1) = false := by rfl)
    (d0 : (x == ("__debug__" : Str)) = false := by decide) (d1 : (a == ("__debug__" : Str)) = false := by decide) (d2 : (a == ("__classdict__" : Str)) = false := by decide) :
    PE X (.Call (.Name x pp) [.Lambda params b scope lpos, e] [] pos) (tLamP P (X.env.qual ++ "<lambda>") TT t ta) := by
  constructor
  intro pins s σ H Q I h
  obtain ⟨hT, h⟩ := h
  refine wpAny_Call_Name_kw (ld_glob I gl mg ?_ d0)
  refine PySem.W.callWith_K (h₀ := X.base) I.ok.mod.kin keep ?_ star plain
  rw [star]
  show wpAny _ _ (spliced ((false, eval (.Lambda params b scope lpos) X.env) :: backTo pos (starEach [e] X.env))) _ _ s
  refine Calls.spliced_cons (lam_new I TB own hT nodef (fun y hy z => L.has I.ok hy z) fun f c' pm' ctv H1 s1 I1 ext T1 hf hfn hfr hco => ?_)
  have Ip := pinned_one I1 hf rfl hfn hfr
  refine thn (args.run pos _ s1 σ H1 _ Ip (h H1 ext T1)) fun us s2 z => ?_
  obtain ⟨vs, H2, I2, rv, v, rfl, ext2, tt⟩ := z
  obtain ⟨u, rfl, ru⟩ := vals1 rv
  have f2 := I2.pin (f, _) (List.mem_append_right _ List.mem_cons_self)
  have co2 : H2 c' = some (LamX.CodeO c' (X.env.qual ++ "<lambda>")) := ext2 _ _ hco (LamX.codeO_ne)
  refine ⟨I2.kIn, ?_⟩
  have run : codeAny (model X.prog X.w) X.A (.call (.ref g) ⟨[.ref f, u], []⟩) (CR CX0 X.stack X.prog X.w H2 s2 Q E0) s2 := by
    refine LamX.run_ofS (N := Ng) (ps := [a, a2]) (us := [.ref f, u]) (vs := [.ref f, v]) look code S room I2.env0 (binds s2 [.ref f, u] I2.kIn rfl) (.cons rfl (.cons ru .nil)) rfl fun hr' => ?_
    obtain ⟨t', ht', q'⟩ := gives f c' v s2 H2 Q (fun E v H' Q' => t E (σ ++ [some v]) H' Q') hr' (fun W pn xe p1 p2 e ta tk args star => pe_actP (k := k) I2 L (fun i v e _ => np (List.mem_of_getElem? e)) f2.1 f2.2.1 hfr (fun u => bind _ _ _ _ _ u) tk hr' (fun A outer s H E rm => body A outer s H E f c' rm) at0 vis args star d1 d2) co2 tt
    exact ⟨t', ht'.nox, q'⟩
  refine wpAny_call (codeAny_mono run fun res s3 z => ?_)
  cases res with
  | error er => exact (show False from z).elim
  | ok fl =>
    cases fl with
    | ret u' =>
      obtain ⟨v', H', J, r', q'⟩ := I2.after z
      exact ⟨v', H', unpin_one J, r', q'⟩
    | next => exact (show False from z).elim
    | brk => exact (show False from z).elim
    | cont => exact (show False from z).elim
/-- the same by the def's own facts -/
theorem pe_lamF {X : Cx} {TT : V → (XK → V → Hp → VK → Prop) → Hp → VK → Prop} {x a a2 p : Str} {g c P : Addr} {k : Nat} {st : Stmt} {fd : FuncData} {Ng : List Str} {params : Arguments} {b e : Expr} {scope : Scope} {t : XK → TE} {ta : TA} {pp lpos pos : Pos}
    (gl : Gl X x) (mg : X.mg x = some (.ref g)) (F : Fun X.K x x st g fd) (binds : L2.Binds X.K fd [a, a2] []) (S : FnScope Ng [a, a2] (defScope st)) (at0 : Ng[0]? = some a) (vis : Vis (defScope st) a) (gives : ∀ cdg, GivesP X (k + 1) Ng x (defScope st) g cdg (defBody st) a (X.env.qual ++ "<lambda>") TT)
    (TB : LamX.TabB X.base X.mg c P) (own : X.env.code = .ref c) (room : Room (k + 2) X.A) (L : LamP X.env.scope scope p) (np : p ∉ X.N) (nodef : defaultsOf params X.env = ([], []))
    (bind : ∀ (q : Str) (cl : List (Str × Addr)) (pm cv ctv u : Value), bindArgs (PySem.W.kla_fn "<lambda>" q params b scope cl pm cv ctv) ⟨[u], []⟩ = pure [(p, u)])
    (body : ∀ (A : Around) (outer : List Env) (s : Shared) (H : Hp) (E : XK) (f c' : Addr), Room k (A.deeper (LamX.lamEnv X scope s.heap.objs.size f c')) → PE (cxP X A outer s H E scope p f c') b (t E)) (args : PA X [e] ta)
    (star : starEach (.Lambda params b scope lpos :: [e]) X.env = (false, eval (.Lambda params b scope lpos) X.env) :: starEach [e] X.env := by rfl) (plain : (backTo pos (starEach [e] X.env)).any (·.1) = false := by rfl)
    (d0 : (x == ("__debug__" : Str)) = false := by decide) (d1 : (a == ("__debug__" : Str)) = false := by decide) (d2 : (a == ("__classdict__" : Str)) = false := by decide) :
    PE X (.Call (.Name x pp) [.Lambda params b scope lpos, e] [] pos) (tLamP P (X.env.qual ++ "<lambda>") TT t ta) := by
  have keep := F.kp
  obtain ⟨oc, od, kV, doc, pm, an, cdv, ct, osl, rfl, lk, hcd⟩ := F.ex
  exact pe_lamP gl mg keep lk hcd binds S at0 vis (gives cdv) TB own room L np nodef bind body args star plain d0 d1 d2

/-! ### a law called from the caller itself: nothing is shown around it -/
/-- at the law's call: its tables are empty, the script is frozen (or known by K) -/
def lawH (K : PySem.W.Frag) (cs : List (Addr × Addr)) (a : Addr) (o : Obj) (ns : List Int) : Hp := fun b => if b ∈ cs.map (·.2) then some (.tbl #[]) else if b = a ∧ K.lookup a = none then some (.frz o (.lst (ns.map V.int))) else none
theorem lawH_some {K : PySem.W.Frag} {cs : List (Addr × Addr)} {a b : Addr} {o : Obj} {ns : List Int} {u : HO} (h : lawH K cs a o ns b = some u) : (b ∈ cs.map (·.2) ∧ u = .tbl #[]) ∨ (b = a ∧ K.lookup a = none ∧ u = .frz o (.lst (ns.map V.int))) := by
  unfold lawH at h
  split at h
  · rename_i m
    exact .inl ⟨m, (Option.some.inj h).symm⟩
  · split at h
    · rename_i m
      exact .inr ⟨m.1, m.2, (Option.some.inj h).symm⟩
    · cases h
theorem call_law {P : Program} {w : World} {K : PySem.W.Frag} {mg mb : Str → Option Value} {fa a : Addr} {cs : List (Addr × Addr)} {s : Shared} {vs : List Value} {ns : List Int} (kin : K.In s.heap) (gl : s.heap.Ns mainGlobals mg) (bi : s.heap.Ns builtinsNs mb)
    (boot : ∀ x : Str, x ≠ "__name__" → mb x = bootBuiltins x) (lim : s.heap.NoLimit) (gens : s.gens = #[]) (tabs : ∀ p ∈ cs, s.heap.get? p.2 = some { cls := .none, data := .fields #[] }) (away : ∀ p ∈ cs, K.lookup p.2 = none) (code : ∀ p ∈ cs, PySem.W.CodeHd s.heap p.1 p.2)
    (bm : ∃ (bm : Addr) (ob : Obj), mg "__builtins__" = some (.ref bm) ∧ bm ≠ builtinsNs ∧ s.heap.get? bm = some ob ∧ ob.cls = .type "module" ∧ ob.dict = some builtinsNs ∧ ob.data = .plain) (scr : s.heap.get? a = some { cls := .type "list", data := .seq vs.toArray }) (iar : IntsAre vs ns) (len : ns.length ≤ sizeLine)
    (run : ∀ (base : Heap) (H : Hp), (∀ p ∈ cs, LamX.TabB base mg p.1 p.2) → Env0 P w K mg base callerA [] s H → (∀ p ∈ cs, H p.2 = some (.tbl #[])) → SqL K H a (ns.map V.int) →
      codeAny (model P w) callerA (.call (.ref fa) ⟨[.ref a], []⟩) (CR CX0 [] P w H s (fun v _ => v = .bl true) E0) s) :
    codeAny (model P w) callerA (.call (.ref fa) ⟨[.ref a], []⟩) (fun r s' => r = .ok (.ret (.bool true)) ∧ OldK s.heap s'.heap ∧ s'.os = s.os ∧ AllBare s'.gens) s := by
  have rel := vals_ints iar
  have tabAt : ∀ {b : Addr}, b ∈ cs.map (·.2) → s.heap.get? b = some { cls := .none, data := .fields #[] } := fun {b} m => by
    obtain ⟨p, hp, rfl⟩ := List.mem_map.mp m
    exact tabs p hp
  have notTab : a ∉ cs.map (·.2) := fun m => by
    have z := (tabAt m).symm.trans scr
    have z2 := congrArg Obj.data (Option.some.inj z)
    cases z2
  generalize hH : lawH K cs a { cls := .type "list", data := .seq vs.toArray } ns = H
  have some_ : ∀ {b : Addr} {u : HO}, H b = some u → (b ∈ cs.map (·.2) ∧ u = .tbl #[]) ∨ (b = a ∧ K.lookup a = none ∧ u = .frz { cls := .type "list", data := .seq vs.toArray } (.lst (ns.map V.int))) := fun {b u} e => by
    rw [← hH] at e
    exact lawH_some e
  have tabH : ∀ p ∈ cs, H p.2 = some (.tbl #[]) := fun p hp => by
    rw [← hH]
    exact if_pos (List.mem_map.mpr ⟨p, hp, rfl⟩)
  -- what is neither a list nor an empty table isn't tracked
  have loose : ∀ {b : Addr} {ob : Obj}, s.heap.get? b = some ob → (∀ xs n, ob.data ≠ .seq xs n) → ob.data ≠ .fields #[] → H b = none := fun {b ob} e n1 n2 => by
    cases q : H b with
    | none => rfl
    | some u =>
      rcases some_ q with ⟨m, _⟩ | ⟨rfl, _⟩
      · rw [tabAt m] at e
        cases e
        exact absurd rfl n2
      · rw [scr] at e
        cases e
        exact absurd rfl (n1 _ _)
  have nsOn : ∀ {b : Addr} {m : Str → Option Value}, s.heap.Ns b m → (hidT s.heap H).Ns b m := fun {b m} z => by
    obtain ⟨o, es, ep, e, d, r⟩ := z
    refine ⟨o, es, ep, hidT_get e (loose e (fun _ _ q => ?_) fun q => ?_), d, r⟩
    · rw [d] at q
      cases q
    · rw [d] at q
      cases q
  have kin' : K.In (hidT s.heap H) := fun b o e => hidT_get (kin b o e) (by
    cases q : H b with
    | none => rfl
    | some u =>
      rcases some_ q with ⟨m, _⟩ | ⟨rfl, n, _⟩
      · obtain ⟨p, hp, rfl⟩ := List.mem_map.mp m
        rw [away p hp] at e
        cases e
      · rw [n] at e
        cases e)
  have hok : HOk P w H s.heap := fun b u e => by
    rcases some_ e with ⟨m, rfl⟩ | ⟨rfl, _, rfl⟩
    · exact tabAt m
    · exact ⟨scr, by rw [List.length_map]; exact len, vs, _, rel, scr⟩
  have sq : SqL K H a (ns.map V.int) := by
    cases q : K.lookup a with
    | none =>
      refine .inl (.inr ⟨{ cls := .type "list", data := .seq vs.toArray }, ?_⟩)
      rw [← hH]
      exact (if_neg notTab).trans (if_pos ⟨rfl, q⟩)
    | some o =>
      have e := kin a o q
      rw [scr] at e
      cases e
      exact .inr ⟨_, vs.toArray, _, q, rfl, rfl, rfl, by rw [List.size_toArray, iar.length]; exact len, rel⟩
  have tb : ∀ p ∈ cs, LamX.TabB (hidT s.heap H) mg p.1 p.2 := fun p hp => by
    have pt := tabs p hp
    refine ⟨?_, ?_, fun e => ?_⟩
    · obtain ⟨o, us, fl, tf, fg, tg, iF, tx, tt, g1, g2, g3, g4, g5⟩ := code p hp
      refine ⟨o, us, fl, tf, fg, tg, iF, tx, tt, hidT_get g1 (loose g1 (fun _ _ q => ?_) fun q => ?_), g2, g3, g4, g5⟩
      · rw [g3] at q
        cases q
      · rw [g3] at q
        cases q
        simp at g4
    · obtain ⟨b, ob, m1, m2, m3, m4, m5, m6⟩ := bm
      refine ⟨b, ob, m1, m2, fun e => ?_, fun e => ?_, hidT_get m3 (loose m3 (fun _ _ q => ?_) fun q => ?_), m4, m5, m6⟩
      · obtain ⟨o, es, ep, e1, d1, _⟩ := gl
        rw [e, e1] at m3
        cases m3
        rw [d1] at m6
        cases m6
      · rw [e, pt] at m3
        cases m3
        cases m6
      · rw [m6] at q
        cases q
      · rw [m6] at q
        cases q
    · obtain ⟨o, es, ep, e1, d1, _⟩ := gl
      rw [e, pt] at e1
      cases e1
      cases d1
  have limOn : (hidT s.heap H).NoLimit := by
    obtain ⟨mc, l1, l2⟩ := lim
    exact ⟨mc, nsOn l1, l2⟩
  have env : Env0 P w K mg (hidT s.heap H) callerA [] s H := ⟨rfl, ⟨kin', nsOn gl, ⟨mb, nsOn bi, boot⟩, limOn⟩, fun b o e => of_hidT e, Nat.le_of_eq (hidT_size _ _), trivial, fun b hb => absurd (show b ∈ ([] : List Addr) from hb) List.not_mem_nil, hok, .of_eq gens⟩
  refine codeAny_mono (run _ H tb env tabH sq) fun r s' z => ?_
  cases r with
  | error e => exact (show False from z).elim
  | ok fl =>
    cases fl with
    | next => exact (show False from z).elim
    | brk => exact (show False from z).elim
    | cont => exact (show False from z).elim
    | ret u =>
      obtain ⟨v, H', os, bare, un, hok', rv, ev⟩ := z
      have ev : v = .bl true := ev
      subst ev
      obtain rfl : u = Value.bool true := rv
      have grown : ∀ p ∈ cs, ∃ more : Array Value, s'.heap.get? p.2 = some { cls := .none, data := .fields more } := fun p hp => by
        obtain ⟨more, q⟩ := un.tbls p.2 #[] (tabH p hp)
        exact ⟨_, hok' p.2 _ q⟩
      have stays : ∀ b o, b ∉ cs.map (·.2) → s.heap.get? b = some o → s'.heap.get? b = some o := fun b o nb e => by
        cases q : H b with
        | none => exact un.keep b o e q (fun z => absurd (show b ∈ ([] : List Addr) from z) List.not_mem_nil) List.not_mem_nil
        | some u =>
          rcases some_ q with ⟨m, _⟩ | ⟨_, _, rfl⟩
          · exact absurd m nb
          · have e1 := (hok b _ q).1
            have e2 := (hok' b _ (un.frzs b _ _ q)).1
            rw [e] at e1
            rw [Option.some.inj e1]
            exact e2
      refine ⟨rfl, ⟨fun b o e => ?_, fun b o e => ?_⟩, os, bare⟩
      · by_cases m : b ∈ cs.map (·.2)
        · obtain ⟨p, hp, rfl⟩ := List.mem_map.mp m
          obtain ⟨more, hm⟩ := grown p hp
          rw [tabs p hp] at e
          cases e
          exact .inr (.inl ⟨((code p hp).tab (tabs p hp)).isCodeTable, rfl, #[], more, rfl, by rw [Array.empty_append]; exact hm⟩)
        · exact .inl (stays b o m e)
      · by_cases m : b ∈ cs.map (·.2)
        · obtain ⟨p, hp, rfl⟩ := List.mem_map.mp m
          obtain ⟨more, hm⟩ := grown p hp
          exact ⟨_, hm⟩
        · exact ⟨o, stays b o m e⟩
theorem walk_law0 {l : PySem.W.OpenLaw} {most : Nat} {prog : Program} {lo : List Str} {XP : (Str → Option Value) → Heap → Prop} {YP : World → Heap → Prop} {df : DefRec} {K : Params → PySem.W.Frag} (names : List Str)
    (h1 : l.most = some most) (h2 : most ≤ sizeLine) (h3 : df.params.defaults = []) (recs : (names.all fun nm => (recsOf prog).any fun r => r.name == nm) = true) (kin : ∀ (w : World) (h : Heap), YP w h → (K w.params).In h)
    (at_ : ∀ (w : World) (mg : Str → Option Value) (fa : Addr) (h : Heap), (K w.params).In h → h.Ns mainGlobals mg → mg df.name = some (.ref fa) → (∀ nm ∈ names, TabAt mg h nm) →
      ∃ cs : List (Addr × Addr), (∀ p ∈ cs, h.get? p.2 = some { cls := .none, data := .fields #[] }) ∧ (∀ p ∈ cs, (K w.params).lookup p.2 = none) ∧ (∀ p ∈ cs, PySem.W.CodeHd h p.1 p.2) ∧
        ∀ (s : Shared) (H : Hp) (base : Heap) (a : Addr) (ns : List Int), ns.length ≤ most → (∀ z ∈ ns, Builtin.Int.intBits z ≤ 1048576) → (∀ p ∈ cs, LamX.TabB base mg p.1 p.2) → Env0 l.prog w (K w.params) mg base callerA [] s H → (∀ p ∈ cs, H p.2 = some (.tbl #[])) → SqL (K w.params) H a (ns.map V.int) →
          codeAny (model l.prog w) callerA (.call (.ref fa) ⟨[.ref a], []⟩) (CR CX0 [] l.prog w H s (fun v _ => v = .bl true) E0) s) :
    PySem.W.WalkO prog lo XP YP l.row.toRowW df [] (fun f vs => PySem.call f vs) := by
  refine Att.attach_callB h1 h3 fun w s0 s mg mb fa o pm cd doc a vs ns Gr Y _ _ _ name ob iar len bits gens => ?_
  have tabs : ∀ nm ∈ names, TabAt mg s.heap nm := fun nm hm => by
    obtain ⟨r, hr, er⟩ := List.any_eq_true.mp (List.all_eq_true.mp recs nm hm)
    obtain ⟨x1, x2, x3, x4, x5, y1, y2, y3, y4, _, y6⟩ := Gr.T.tab r hr
    rw [beq_iff_eq.mp er] at y1
    exact ⟨x1, x2, x3, x4, x5, y1, y2, y3, y4, y6⟩
  obtain ⟨cs, t1, t2, t3, go⟩ := at_ w mg fa _ (kin w _ Y) Gr.T.g name tabs
  exact call_law (kin w _ Y) Gr.T.g Gr.T.b Gr.T.builtins Gr.T.nolimit gens t1 t2 t3 Gr.T.bmain ob iar (Nat.le_trans len h2) fun base H tb e0 th sq => go s H base a ns len bits tb e0 th sq

end My
namespace My
open PySem PySem.Spec PyProof.Rows L2
/-! ### repr of what is nested; a list of truths counted; raise X() -/
def rRepr (K : PySem.W.Frag) : List V → Hp → VK → Prop := fun xs H Q => ∃ (v : V) (d : PyData), xs = [v] ∧ Dp K H v d ∧ isDisplay d = true ∧ d.showable = true ∧ d.hasDict = false ∧ d.depth ≤ 50 ∧ d.shown.length ≤ sizeLine ∧ Q (.str d.shown) H
theorem call_repr {X : Cx} (none_ : X.A.guards = some []) (room : X.A.units + 64 < cLine) : CallR X (.builtin "repr") (rRepr X.K) := by
  intro pins s σ H xs us Q I r h
  obtain ⟨v, d, rfl, dp, disp, shw, nod, dep, len, q⟩ := h
  obtain ⟨u, rfl, ru⟩ := vals1 r
  obtain ⟨as, rd⟩ := Dp.reads I d v u dp ru
  obtain ⟨a, rfl⟩ := isRef_of_reads rd disp
  exact repr_of_reads' rd shw (PyData.noDict_hsm nod) none_ (by omega) (fun _ _ e => e) (fun h' t tk hk => ⟨.str d.shown, H, I.kept (t' := tk) hk, ⟨t, rfl⟩, q⟩) len
/-- l.count(True), l a list of truths -/
def rCntB (K : PySem.W.Frag) : V → List V → Hp → VK → Prop := fun x xs H Q => ∃ (p : Addr) (bs : List Bool) (b : Bool), x = .ref p ∧ xs = [.bl b] ∧ SqL K H p (bs.map V.bl) ∧ Q (.int (bs.count b : Nat)) H
def isB (b : Bool) : Value → Bool
  | .bool c => c == b
  | _ => false
theorem bools_of {b : Bool} : ∀ {bs : List Bool} {us : List Value}, Vals (bs.map V.bl) us → (∀ y ∈ us, ∃ c, y = .bool c) ∧ us.countP (isB b) = bs.count b
  | [], _, r => by
    cases r
    exact ⟨fun y h => (nomatch h), rfl⟩
  | c :: bs, _, r => by
    rw [List.map_cons] at r
    cases r with
    | @cons a u as us ru rr =>
      obtain ⟨h1, h2⟩ := bools_of (b := b) rr
      obtain rfl : u = Value.bool c := ru
      refine ⟨fun y hy => ?_, ?_⟩
      · rcases List.mem_cons.mp hy with e | e
        · exact ⟨c, e⟩
        · exact h1 y e
      · rw [List.countP_cons, List.count_cons, h2]
        rfl
theorem mt_countB {X : Cx} : MtR X "list.count" (rCntB X.K) := by
  intro pins s σ H x xs v us Q I rx rxs h
  obtain ⟨p, bs, b, rfl, rfl, sq, q⟩ := h
  obtain rfl : v = Value.ref p := rx
  obtain ⟨u, rfl, ru⟩ := rxs.one
  obtain rfl : u = Value.bool b := ru
  obtain ⟨its, rel, ⟨ob, n, hob, cls, dct, dat⟩, _⟩ := I.list sq
  obtain ⟨oc, od, odt, osl⟩ := ob
  simp only at cls dat
  subst cls dat
  obtain ⟨all, cnt⟩ := bools_of (b := b) rel
  refine call_meets PySem.F.slot_list_count ⟨_, hob, rfl⟩ PySem.F.entry_list_count (PySem.F.args_list_count_2 _ _) (SeqAt.list_countAt p its.toArray n od osl (.bool b) (isB b)) ⟨hob, fun y hy => ?_, ?_⟩
  · obtain ⟨c, rfl⟩ := all y (by simpa using hy)
    exact SeqAt.EqAt.bool_bool c b
  · refine ⟨.int (bs.count b : Nat), H, I.tok _, ⟨s.toks, ?_⟩, q⟩
    show Value.int ((its.toArray.toList.countP (isB b) : Nat) : Int) s.toks = Value.int ((bs.count b : Nat) : Int) s.toks
    rw [← cnt]
/-- raise X() -/
theorem pmk_own0 {X : Cx} {C : Addr} {x : Str} {p pos : Pos} (ex : PySem.W.excIn X.K C veB "ValueError.__new__" = true) (gC : X.mg x = some (.ref C)) (kC : PySem.W.keepIn X.K (.ref C) = true) (rs : Raises X (.ref C)) (gl : Gl X x) (dbg : (x == ("__debug__" : Str)) = false := by decide) :
    PMk X (.Call (.Name x p) [] [] pos) (fun _ H Q => Q (.ref C) none H) := by
  intro pins st σ H Q I q
  refine wpAny_Call_Name_kw (ld_glob I gl gC ?_ dbg)
  refine PySem.W.callWith_K0 I.kIn kC ?_
  obtain ⟨bm, N, nm, qn, bs, hdct, sn, sub, ab, col, dd, k0, k1, k2, k3, k5, mN, hC, hN, hni, OT⟩ := exc_obj I.kIn ex
  exact wpAny_call_exc_subT PySem.F.excBase_ValueError OT hC hN hni (fun h' a made => mk_of I made rs q (I.hok.gone made.new)) (Nat.zero_le _)
/-- isinstance of a kept exception -/
def rIsC (K : PySem.W.Frag) : List V → Hp → VK → Prop := fun xs H Q => ∃ (a C : Addr) (c : V) (cv : Value) (b : Bool), xs = [.ref a, c] ∧ H a = some (ExC (.ref C) none a) ∧ XcC K C ∧ ClsV c cv ∧ PySem.W.kitOne K (.ref C) cv = some b ∧ Q (.bl b) H
theorem call_isC {X : Cx} : CallR X (.builtin "isinstance") (rIsC X.K) := by
  intro pins st σ H xs us Q I r h
  obtain ⟨a, C, c, cv, b, rfl, at_, xc, kc, e, q⟩ := h
  obtain ⟨u1, u2, rfl, r1, r2⟩ := vals2 r
  obtain rfl : u1 = Value.ref a := r1
  obtain rfl := kc.eq r2
  obtain ⟨⟨oe, vs, ho, hz, hd⟩, _, _⟩ := I.hok a _ at_
  have inst : PySem.W.InstAt st.heap a oe C none := by
    refine ⟨ho, hz.1, ?_, ?_⟩
    · unfold PySem.W.notCls
      rw [hd]
    · rw [hz.2]
      trivial
  exact PySem.W.kia_one (PySem.W.kitx_exc xc.cl xc.hg xc.hk xc.hs xc.ha xc.hn xc.ht xc.hm) I.kIn inst e (fun z => nomatch z) fun tk => ⟨.bl b, H, I.kept (t' := tk) fun _ _ z => z, rfl, q⟩

/-! ### len(set(t)) of a tuple of whole numbers -/
def tLenSetT (K : PySem.W.Frag) (ta : TE) : TE := fun σ H Q => ta σ H fun x H1 => ∃ (p : Addr) (ns : List Int), x = .ref p ∧ SqT K H1 p (ns.map V.int) ∧ ns.length ≤ 1000 ∧ ∀ out : List Int, out.Nodup → (∀ k, k ∈ out ↔ k ∈ ns) → Q (.int (out.length : Nat)) H1
theorem pe_lenSetT {X : Cx} {a : Expr} {ta : TE} {p p2 q pos : Pos} (hc : X.calm = true) (hg : Gl X "len") (hm : X.mg "len" = none) (hg2 : Gl X "set") (hm2 : X.mg "set" = none) (ha : PE X a ta)
    (na : starEach [a] X.env = (false, eval a X.env) :: starEach [] X.env := by rfl) : PE X (.Call (.Name "len" p) [.Call (.Name "set" p2) [a] [] q] [] pos) (tLenSetT X.K ta) := by
  refine ⟨fun pins s σ H Q I h => ?_⟩
  refine Call_ (ld_blt I hg hm boot_len ?_)
  refine PyProof.Rows.callWith_builtin1 (PyProof.Rows.args_cons ?_ rfl) rfl rfl
  refine Call_ (ld_blt I hg2 hm2 boot_set ?_)
  refine PyProof.Rows.callWith_type1 (PyProof.Rows.args_cons (thn (ha.run pins s σ H _ I h) fun v s1 ⟨x, H1, I1, r1, q1⟩ => PyProof.Rows.args_nil ?_) na) na rfl
  obtain ⟨p0, ns, rfl, hq, hl, q1⟩ := q1
  cases r1
  obtain ⟨its, rv, pt, hz⟩ := I1.tuple hq
  have hi : IntsAre its.toArray.toList ns := ints_of_vals rv
  refine call_set_tupI ns (I1.ok.hd hc) (show s1.heap.IsTuple p0 its.toArray from pt) hi (by unfold scanBound; omega) fun h' tk c R1 hcn k => ?_
  refine PyProof.Rows.args_nil ?_
  obtain ⟨o, es, ep, t, ho, hex, hdt, g, nd, hm2, hb, hf, hn, hr, hl2⟩ := R1
  have I2 : Inv X pins σ H1 { s1 with heap := h', toks := tk } := I1.kept fun b o e => k b o e
  have z := q1 (es.toList.map keyOf) nd fun j => by rw [← hm2 j, decide_eq_true_eq]
  rw [List.length_map, Array.length_toList] at z
  exact call_len_set (s := { s1 with heap := h', toks := tk }) ho hex hdt hf (by rw [hn]; omega) ⟨.int es.size, H1, I2.tok _, ⟨_, rfl⟩, z⟩
/-! ### all of a generator expression, by a walk -/
theorem gturns_it {J : It} {n : Nat} {G : Hp → Prop} {Y : Nat → Hp → V → Hp → Prop} (wk : Walk J n G Y) {g : TG} {te : TE} {σw : L2.St} {vs : List Nat} {Q : Bool → Hp → Prop} {H : Hp} (Pv : Nat → Hp → Prop) (h0 : Pv 0 H) (hG : ∀ i H, i ≤ n → Pv i H → G H)
    (hs : ∀ (i : Nat) (x : V) (H H' : Hp) (N : Hp → Prop), i < n → Pv i H → Y i H x H' → (∀ H3, Pv (i + 1) H3 → N H3) → g x σw H' fun σ2 H2 => wipe σ2 vs = σw ∧ te σ2 H2 fun v H3 => ∃ b, v = .bl b ∧ if b = true then N H3 else Q false H3)
    (hd : ∀ H, Pv n H → Q true H) : ∃ W : Nat → Nat → Hp → Prop, (∃ m, W 0 m H) ∧ gTurns J g te σw vs W Q := by
  refine ⟨fun i m H => m = n - i ∧ i ≤ n ∧ Pv i H, ⟨n, rfl, Nat.zero_le _, h0⟩, fun i m H st => ?_⟩
  obtain ⟨em, le, pv⟩ := st
  have q := hG i H le pv
  rcases Nat.lt_or_eq_of_le le with lt | eq
  · refine .inr ⟨wk.goes i H lt q, fun v H' y => ?_⟩
    exact hs i v H H' _ lt pv (wk.yields i H v H' lt q y) fun H3 p' => ⟨n - (i + 1), by omega, rfl, lt, p'⟩
  · subst eq
    exact .inl ⟨wk.stops H q, hd H pv⟩
theorem walk_zipT {K : PySem.W.Frag} {a b : Addr} {xs ys : List V} {n : Nat} (hn : n = min xs.length ys.length) : Walk (RZ.ItzT K a b) n (fun H => SqT K H a xs ∧ SqT K H b ys) (YPair (fun i => xs[i]?) (fun i => ys[i]?)) := by
  subst hn
  refine ⟨fun i _ hi q => ?_, fun _ q => ⟨xs, ys, q.1, q.2, by omega⟩, fun i H v H' _ q y => ?_⟩
  · have h1 : i < xs.length := by omega
    have h2 : i < ys.length := by omega
    exact ⟨xs, ys, xs[i], ys[i], q.1, q.2, by simp [h1], by simp [h2]⟩
  · obtain ⟨T, x, z, h1, h2, h3, h4, h5⟩ := y
    exact ⟨T, x, z, h1, h2, h3, h4 xs q.1, h5 ys q.2⟩

end My
namespace My
open PySem PySem.Spec PyProof.Rows L2
/-! ### x, *ys = a tuple -/
theorem items_star {prog : Program} {w : World} {A : Around} {E : Value → Shared → Prop} {s : Shared} {l : Addr} {items : Array Value} {x : Value} {xs : List Value} {Q : List Value → Shared → Prop} (hl : s.heap.IsTuple l items) (hh : A.handled = none) (hx : items.toList = x :: xs) (hz : items.size ≤ 16384)
    (h : ∀ h' tk, Heap.ExtBut s.heap.objs.size s.heap h' → Q [x, .ref h'.objs.size] { s with heap := h'.push { cls := .type "list", data := .seq xs.toArray }, toks := tk }) : wpAny (model prog w) A (unpackItems (.ref l) 2 (some 1)) Q E s := by
  have hs : items.size = xs.length + 1 := by
    rw [← Array.length_toList, hx]
    rfl
  have hlt : l ≠ s.heap.objs.size := by obtain ⟨o, ho, _⟩ := hl; exact Nat.ne_of_lt (Heap.lt_size ho)
  unfold unpackItems
  refine wpAny_bind ?_
  unfold notIterableAtAll
  refine wpAny_bind (wpAny_specialOf hl.typeIs PySem.F.slot_tuple_iter.lookup ?_)
  refine wpAny_pure ?_
  simp only [Bool.false_eq_true, if_false]
  refine wpAny_bind (wpAny_holding (iter_tuple hl ?_))
  refine wpAny_bind (wpAny_holding (draw_tuple hlt 1 0 _ _ ⟨_, Heap.get?_push_size _ rfl, rfl, rfl⟩ (hl.push _) (by omega) fun h₁ hit₁ hs₁ => ?_))
  have hl₁ : h₁.IsTuple l items := (hl.push _).extBut hs₁.extBut hlt
  rw [Nat.zero_add] at hit₁
  have hit₁' := hit₁
  obtain ⟨oi, hoi, _⟩ := hit₁'
  have hl₁' := hl₁
  obtain ⟨ol, hol, _⟩ := hl₁'
  rw [List.drop_zero]
  have e1 : items.toList.take 1 = [x] := by rw [hx]; rfl
  rw [e1]
  rw [if_neg (show ¬ (([x] : List Value).length < 1) from Nat.lt_irrefl 1)]
  refine wpAny_bind (wpAny_holding (PySem.W.kun_collect (s := { s with heap := h₁ }) (T := "tuple_iterator") (.inr (.inr (.inr rfl))) (Walks.tuple (A := A.in1) hh s.heap.objs.size l hlt items) (fun j u st => st.1.typeIs) (k := 1) (by omega) ⟨hit₁, hl₁⟩ (Heap.lt_size hoi) (Heap.lt_size hol) (fun h₂ tk hk => ?_) (by rw [sizeLine_eq]; omega)))
  have e2 : items.toList.drop 1 = xs := by rw [hx]; rfl
  rw [e2]
  show wpAny _ _ (if xs.length < 2 - 1 - 1 then _ else _) _ _ _
  rw [if_neg (by omega)]
  have he : Heap.ExtBut s.heap.objs.size s.heap h₂ := fun b o hb e => hk b o hb (hs₁.extBut b o hb (Heap.get?_push_of_some _ e))
  refine wpAny_bind (wpAny_newList ?_ ?_)
  · refine wpAny_pure ?_
    show Q ([x] ++ [Value.ref h₂.objs.size] ++ List.drop (xs.length - (2 - 1 - 1)) xs) _
    have e3 : List.take (xs.length - (2 - 1 - 1)) xs = xs := List.take_of_length_le (by omega)
    have e4 : List.drop (xs.length - (2 - 1 - 1)) xs = [] := List.drop_of_length_le (by omega)
    rw [e4]
    have := h h₂ tk he
    simp only [e3]
    exact this
  · rw [List.length_take, sizeLine_eq]
    omega
section
variable {X : Cx} {pos : Pos}
theorem pgs_star {e : Expr} {es : List Expr} {sp : Pos} {t : TG} {u : TGs} (h1 : PG X e t) (h2 : PGs X es u)
    (hs : (assignEach (.Starred e sp :: es) X.env).map (·.2) = assign e X.env :: (assignEach es X.env).map (·.2) := by rfl) : PGs X (.Starred e sp :: es) (gCons t u) := by
  refine ⟨fun pins s σ H vs us Q I r h => ?_⟩
  obtain ⟨v, vr, e1, h⟩ := h
  subst e1
  cases r with
  | cons r rr =>
    rw [hs]
    refine assignInOrder_cons (thn (h1.run pins s σ H _ _ _ I r h) fun _ s1 ⟨σ1, H1, I1, q1⟩ => ?_)
    exact h2.run pins s1 σ1 H1 _ _ Q I1 rr q1
def gStar (K : PySem.W.Frag) (t : TGs) : TG := fun v σ H Q => ∃ a x xs, v = .ref a ∧ SqT K H a (x :: xs) ∧ xs.length ≤ 1000 ∧ ∀ l, H l = none → t [x, .ref l] σ (upd H l (.lst xs)) Q
theorem pg_star {es : List Expr} {k : Nat} {t : TGs} (hc : X.calm = true) (h : PGs X es t)
    (hn : (assignEach es X.env).length = 2 := by rfl) (hst : (assignEach es X.env).findIdx? (·.1) = some 1 := by rfl) : PG X (.Tuple es k pos) (gStar X.K t) := by
  refine ⟨fun pins s σ H v u Q I r hw => ?_⟩
  obtain ⟨a, x, xs, e1, hq, hl, hw⟩ := hw
  subst e1
  cases r
  obtain ⟨its, rv, ht, hz⟩ := I.tuple hq
  cases rv with
  | cons r1 rr =>
    rename_i u1 us
    have hus : xs.length = us.length := rr.length
    rw [PyProof.Rows.assign_Tuple]
    refine wpAny_bind (wpAny_standAt ?_)
    unfold unpack
    rw [hn, hst]
    refine wpAny_bind (wpAny_holding (items_star (x := u1) (xs := us) ht (I.ok.hd hc) (by simp) (by simp; omega) fun h' tk hx => ?_))
    have I1 : Inv X pins σ H { s with heap := h', toks := tk } := I.kept (t' := tk) fun b o e => hx b o (Nat.ne_of_lt (Heap.lt_size e)) e
    have I2 := I1.laid (t' := tk) (o := .lst xs) (h' := h'.push { cls := .type "list", data := .seq us.toArray }) (fun b ob q => Heap.get?_push_of_some _ q) (Nat.le_refl _) ⟨Nat.le_trans hl (by decide), us, 0, rr, Heap.get?_push_size _ rfl⟩
    exact h.run pins _ σ _ _ _ Q I2 (.cons r1 (.cons (show L2.RelV (.ref h'.objs.size) (.ref h'.objs.size) from rfl) .nil)) (hw _ (I1.hok.fresh (Nat.le_refl _)))
/-- a op1 b op2 c op3 d -/
def tChain3 (r r' r'' : R2) (ta tb tc td : TE) : TE := fun σ H Q => ta σ H fun x H1 => tb σ H1 fun y H2 => r x y H2 fun z H3 => ∃ k, z = .bl k ∧
  (if k = true then tc σ H3 fun w' H4 => r' y w' H4 fun z2 H5 => ∃ k2, z2 = .bl k2 ∧ (if k2 = true then td σ H5 fun u H6 => r'' w' u H6 Q else Q (.bl false) H5) else Q (.bl false) H3)
theorem pe_chain3 {a b c d : Expr} {ta tb tc td : TE} {op op' op'' : CmpOp} {r r' r'' : R2} (ho : OpR X (compareOp op) r) (ho' : OpR X (compareOp op') r') (ho'' : OpR X (compareOp op'') r'') (ha : PE X a ta) (hb : PE X b tb) (hc : PE X c tc) (hd : PE X d td)
    (hm : lastMarks [op, op', op''] [b, c, d] = false := by with_unfolding_all rfl) : PE X (.Compare a [op, op', op''] [b, c, d] pos) (tChain3 r r' r'' ta tb tc td) := by
  refine ⟨fun pins s σ H Q I h => ?_⟩
  refine Compare_chain (thn (ha.run pins s σ H _ I h) fun v s1 ⟨x, H1, I1, r1, q1⟩ => chain_link (thn (hb.run pins s1 σ H1 _ I1 q1) fun u s2 ⟨y, H2, I2, r2, q2⟩ =>
    thn (ho pins s2 σ H2 x y v u _ I2 r1 r2 q2) fun d s3 ⟨z, H3, I3, r3, k, e, q3⟩ => ?_)) hm
  subst e
  cases r3
  refine wpAny_truthy_bool ?_
  cases k with
  | false => exact ite_ff ⟨.bl false, H3, I3, rfl, q3⟩
  | true =>
    refine ite_tt (chain_link (thn (hc.run pins s3 σ H3 _ I3 q3) fun w' s4 ⟨z', H4, I4, r4, q4⟩ => thn (ho' pins s4 σ H4 y z' u w' _ I4 r2 r4 q4) fun d' s5 ⟨z5, H5, I5, r5, k5, e5, q5⟩ => ?_))
    subst e5
    cases r5
    refine wpAny_truthy_bool ?_
    cases k5 with
    | false => exact ite_ff ⟨.bl false, H5, I5, rfl, q5⟩
    | true => exact ite_tt (chain_last (thn (hd.run pins s5 σ H5 _ I5 q5) fun u6 s6 ⟨z6, H6, I6, r6, q6⟩ => ho'' pins s6 σ H6 z' z6 w' u6 Q I6 r4 r6 q6))
end
theorem op_ltTK {X : Cx} {K : PySem.W.Frag} (hK : X.K = K) (hu : X.A.units < cLine) : OpR X (compareOp .Lt) (rLtT K) := by
  subst hK
  exact op_ltT hu

end My
namespace My
open PySem L2
inductive Sl | pt | oth | num | plc | knd
  deriving DecidableEq
def fit : Sl → V → Prop
  | .pt, v => ∃ i, v = .int i
  | .oth, v => v = .non ∨ ∃ i, v = .int i
  | .num, v => ∃ i, v = .int i
  | .plc, v => ∃ i : Int, v = .int i ∧ 0 ≤ i
  | .knd, v => ∃ k, v = .str k ∧ k ∈ kinds
inductive FitAll : List Sl → List V → Prop
  | nil : FitAll [] []
  | cons {s : Sl} {v : V} {ss : List Sl} {vs : List V} : fit s v → FitAll ss vs → FitAll (s :: ss) (v :: vs)
def forms : List (Str × List Sl) := [("new", [.num, .knd]), ("put", [.pt, .num]), ("paint", [.pt, .knd]), ("tie", [.pt, .pt]), ("cut", [.pt, .pt]), ("add", [.pt, .pt, .num]), ("spread", [.pt, .oth, .num]),
  ("joined", [.pt, .pt]), ("way", [.pt, .pt]), ("total", [.pt, .pt]), ("many", [.pt, .pt]), ("most", [.pt, .pt]), ("first", [.pt, .pt, .knd]), ("reach", [.pt, .pt, .num]), ("kth", [.pt, .pt, .plc]), ("meet", [.pt, .pt, .pt]), ("sum", [.pt, .oth]), ("size", [.pt, .oth]), ("top", [.pt, .oth]), ("least", [.pt, .oth, .knd])]
def evs : List Str := ["new", "put", "paint", "tie", "cut", "add", "spread", "joined", "way", "total", "many", "most", "first", "reach", "kth", "meet", "sum", "size", "top", "least"]

/-! ### a written dict from texts to tuples of texts -/
def formB (K : PySem.W.Frag) : List DictEntry → List (Str × List Str) → Bool
  | [], [] => true
  | e :: es, f :: fs => e.key.isStr f.1 && ((match e.val with | .ref a => tupB K a f.2 | _ => false) && formB K es fs)
  | _, _ => false
theorem isStr_key {v : Value} {x : Str} (h : v.isStr x = true) : ∃ t, v = .str x t := by
  cases v with
  | str y t =>
    have e : (y == x) = true := h
    exact ⟨t, by rw [beq_iff_eq.mp e]⟩
  | _ => exact nomatch h
theorem formB_ns {K : PySem.W.Frag} : ∀ {es : List DictEntry} {fs : List (Str × List Str)}, formB K es fs = true → es.any (·.refKey) = false ∧ ∀ z : Str, match fs.lookup z with
    | none => es.find? (·.key.isStr z) = none
    | some ws => ∃ e a, es.find? (·.key.isStr z) = some e ∧ e.val = .ref a ∧ tupB K a ws = true
  | [], [], _ => ⟨rfl, fun _ => rfl⟩
  | [], _ :: _, h => nomatch h
  | _ :: _, [], h => nomatch h
  | e :: es, f :: fs, h => by
    unfold formB at h
    rw [Bool.and_eq_true, Bool.and_eq_true] at h
    obtain ⟨h1, h2, h3⟩ := h
    obtain ⟨r1, r2⟩ := formB_ns h3
    obtain ⟨t, ek⟩ := isStr_key h1
    refine ⟨?_, fun z => ?_⟩
    · rw [List.any_cons, r1, Bool.or_false]
      obtain ⟨hs, k, v⟩ := e
      dsimp only at ek
      subst ek
      rfl
    · have q := r2 z
      rw [List.lookup_cons, List.find?_cons]
      by_cases ez : z = f.1
      · subst ez
        rw [beq_self_eq_true]
        dsimp only
        rw [h1]
        dsimp only
        cases ev : e.val with
        | ref a =>
          rw [ev] at h2
          exact ⟨e, a, rfl, ev, h2⟩
        | _ =>
          rw [ev] at h2
          exact nomatch h2
      · have e1 : (z == f.1) = false := beq_eq_false_iff_ne.mpr ez
        have e2 : e.key.isStr z = false := by
          rw [ek]
          show (f.1 == z) = false
          exact beq_eq_false_iff_ne.mpr fun y => ez y.symm
        rw [e1, e2]
        dsimp only
        exact q
theorem formB_get {K : PySem.W.Frag} {d : Addr} {c : Value} {od : Option Addr} {es : Array DictEntry} {n : Nat} {sl : Array (Option Value)} {fs : List (Str × List Str)} (hl : K.lookup d = some ⟨c, od, .dict es n, sl⟩) (h : formB K es.toList fs = true) (z : Str) :
    match fs.lookup z with
    | none => PySem.W.nsIn K d z = some none
    | some ws => ∃ a, PySem.W.nsIn K d z = some (some (.ref a)) ∧ tupB K a ws = true := by
  obtain ⟨r1, r2⟩ := formB_ns h
  have q := r2 z
  unfold PySem.W.nsIn
  rw [hl]
  cases e : fs.lookup z with
  | none =>
    rw [e] at q
    dsimp only at q ⊢
    rw [q]
    dsimp only
    rw [r1]
    rfl
  | some ws =>
    rw [e] at q
    obtain ⟨en, a, h1, h2, h3⟩ := q
    refine ⟨a, ?_, h3⟩
    dsimp only
    rw [h1]
    dsimp only
    rw [h2]
/-! ### anything -/
inductive AnyV (H : Hp) : V → Prop
  | non : AnyV H .non
  | bl (b : Bool) : AnyV H (.bl b)
  | int (i : Int) : AnyV H (.int i)
  | str (x : Str) : AnyV H (.str x)
  | tup {a : Addr} {xs : List V} (h : H a = some (.tup xs)) : AnyV H (.ref a)
  | lst {a : Addr} {xs : List V} (h : H a = some (.lst xs)) : AnyV H (.ref a)
  | dK {a : Addr} {kvs : List (Key × V)} (h : H a = some (.dK kvs)) : AnyV H (.ref a)
/-- all but tables of code objects stays -/
def Kp (H H' : Hp) : Prop := ∀ a o, H a = some o → (∀ ps, o ≠ .tbl ps) → H' a = some o
theorem Kp.refl (H : Hp) : Kp H H := fun _ _ e _ => e
theorem Kp.trans {H H1 H2 : Hp} (x : Kp H H1) (y : Kp H1 H2) : Kp H H2 := fun a o e n => y a o (x a o e n) n
theorem Kp.of_same {H H' : Hp} (s : Same H H') : Kp H H' := fun a o e _ => s a o e
theorem Kp.of_tab {H H' : Hp} {P : Addr} (g : GxR.TabG H P) (t : GxR.Tabbed P H H') : Kp H H' := fun a o e n => by
  by_cases h : a = P
  · subst h
    obtain ⟨ps, hp, _⟩ := g
    rw [hp] at e
    exact absurd (Option.some.inj e).symm (n ps)
  · rw [t.2 a h]
    exact e
theorem AnyV.kp {H H' : Hp} (k : Kp H H') {v : V} (h : AnyV H v) : AnyV H' v := by
  cases h with
  | non => exact .non
  | bl b => exact .bl b
  | int i => exact .int i
  | str x => exact .str x
  | tup h => exact .tup (k _ _ h (by intro ps z; cases z))
  | lst h => exact .lst (k _ _ h (by intro ps z; cases z))
  | dK h => exact .dK (k _ _ h (by intro ps z; cases z))
/-- isinstance with int, bool, str, tuple -/
def isIntV : V → Bool
  | .bl _ => true
  | .int _ => true
  | _ => false
def isBoolV : V → Bool
  | .bl _ => true
  | _ => false
def isStrV : V → Bool
  | .str _ => true
  | _ => false
theorem int_ok {K : PySem.W.Frag} {H : Hp} {v : V} (h : AnyV H v) : ∃ t, TyX K H v t ∧ PySem.W.kitOne K t (.type "int") = some (isIntV v) := by
  cases h with
  | non => exact ⟨_, .base .non, kit_ty (show kitB _ _ = some false by decide +kernel)⟩
  | bl b => exact ⟨_, .base (.bl b), kit_ty (show kitB _ _ = some true by decide +kernel)⟩
  | int i => exact ⟨_, .base (.int i), kit_ty (show kitB _ _ = some true by decide +kernel)⟩
  | str x => exact ⟨_, .base (.str x), kit_ty (show kitB _ _ = some false by decide +kernel)⟩
  | tup h => exact ⟨_, .base (.tup h), kit_ty (show kitB _ _ = some false by decide +kernel)⟩
  | lst h => exact ⟨_, .base (.lst h), kit_ty (show kitB _ _ = some false by decide +kernel)⟩
  | dK h => exact ⟨_, .base (.dK h), kit_ty (show kitB _ _ = some false by decide +kernel)⟩
theorem bool_ok {K : PySem.W.Frag} {H : Hp} {v : V} (h : AnyV H v) : ∃ t, TyX K H v t ∧ PySem.W.kitOne K t (.type "bool") = some (isBoolV v) := by
  cases h with
  | non => exact ⟨_, .base .non, kit_ty (show kitB _ _ = some false by decide +kernel)⟩
  | bl b => exact ⟨_, .base (.bl b), kit_ty (show kitB _ _ = some true by decide +kernel)⟩
  | int i => exact ⟨_, .base (.int i), kit_ty (show kitB _ _ = some false by decide +kernel)⟩
  | str x => exact ⟨_, .base (.str x), kit_ty (show kitB _ _ = some false by decide +kernel)⟩
  | tup h => exact ⟨_, .base (.tup h), kit_ty (show kitB _ _ = some false by decide +kernel)⟩
  | lst h => exact ⟨_, .base (.lst h), kit_ty (show kitB _ _ = some false by decide +kernel)⟩
  | dK h => exact ⟨_, .base (.dK h), kit_ty (show kitB _ _ = some false by decide +kernel)⟩
theorem str_ok {K : PySem.W.Frag} {H : Hp} {v : V} (h : AnyV H v) : ∃ t, TyX K H v t ∧ PySem.W.kitOne K t (.type "str") = some (isStrV v) := by
  cases h with
  | non => exact ⟨_, .base .non, kit_ty (show kitB _ _ = some false by decide +kernel)⟩
  | bl b => exact ⟨_, .base (.bl b), kit_ty (show kitB _ _ = some false by decide +kernel)⟩
  | int i => exact ⟨_, .base (.int i), kit_ty (show kitB _ _ = some false by decide +kernel)⟩
  | str x => exact ⟨_, .base (.str x), kit_ty (show kitB _ _ = some true by decide +kernel)⟩
  | tup h => exact ⟨_, .base (.tup h), kit_ty (show kitB _ _ = some false by decide +kernel)⟩
  | lst h => exact ⟨_, .base (.lst h), kit_ty (show kitB _ _ = some false by decide +kernel)⟩
  | dK h => exact ⟨_, .base (.dK h), kit_ty (show kitB _ _ = some false by decide +kernel)⟩
/-! ### rows by their form -/
def wholeB : V → Bool
  | .int _ => true
  | _ => false
def kindB : V → Bool
  | .str k => decide (k ∈ kinds)
  | _ => false
def fitB : Sl → V → Bool
  | .knd, v => kindB v
  | .oth, v => decide (v = .non) || wholeB v
  | .plc, .int i => decide (0 ≤ i)
  | .plc, _ => false
  | _, v => wholeB v
def slT : Sl → Str
  | .pt => "point"
  | .oth => "other"
  | .num => "number"
  | .plc => "place"
  | .knd => "kind"
def fitsB : List Sl → List V → Bool
  | [], [] => true
  | s :: ss, v :: vs => fitB s v && fitsB ss vs
  | _, _ => false
theorem fits_len : ∀ {ss : List Sl} {vs : List V}, vs.length ≠ ss.length → fitsB ss vs = false
  | [], [], h => absurd rfl h
  | [], _ :: _, _ => rfl
  | _ :: _, [], _ => rfl
  | s :: ss, v :: vs, h => by
    show (fitB s v && fitsB ss vs) = false
    rw [fits_len (ss := ss) (vs := vs) fun z => h (by rw [List.length_cons, List.length_cons, z]), Bool.and_false]
theorem drop_at {α : Type} {xs : List α} {i : Nat} {x : α} (h : xs[i]? = some x) : xs.drop i = x :: xs.drop (i + 1) := by
  obtain ⟨hl, e⟩ := List.getElem?_eq_some_iff.mp h
  rw [List.drop_eq_getElem_cons hl, e]
def rowB : List V → Bool
  | .str w :: ps => (match forms.lookup w with | some sl => fitsB sl ps | none => false)
  | _ => false
def formsT : List (Str × List Str) := forms.map fun f => (f.1, f.2.map slT)
theorem formsT_lookup (z : Str) : formsT.lookup z = (forms.lookup z).map fun sl => sl.map slT := by
  have g : ∀ l : List (Str × List Sl), (l.map fun f => (f.1, f.2.map slT)).lookup z = (l.lookup z).map fun sl => sl.map slT := by
    intro l
    induction l with
    | nil => rfl
    | cons f r ih =>
      obtain ⟨a, b⟩ := f
      rw [List.map_cons, List.lookup_cons, List.lookup_cons]
      cases e : z == a with
      | true => rfl
      | false => exact ih
  exact g forms
/-- a def by its body, its code object known -/
theorem okC {P : Program} {w : World} {K : PySem.W.Frag} {mg : Str → Option Value} {base : Heap} {x qual : Str} {st : Stmt} {f c : Addr} {fd : FuncData} {N ps : List Str} {k : Nat} {sp : Sp} (F : Fun K x qual st f fd) (hcd : fd.code = .ref c) (S : FnScope N ps (defScope st))
    (len : ∀ vs H Q E, sp vs H Q E → vs.length = ps.length)
    (body : ∀ (A : Around) (outer : List Env) (s : Shared) (H : Hp) (vs : List V) (Q : VK) (E : XK), Room k (A.deeper (PyProof.Rows.envOfC qual (defScope st) s.heap.objs.size f (.ref c))) → sp vs H Q E →
      ∃ t, PSs (cxOf CX0 P w K mg base N qual (defScope st) f (.ref c) A outer s H E).nox (defBody st) t ∧ t { nx := fun _ H' => Q .non H', rt := Q } (start N vs) H) : FnOk P w K mg base CX0 (k + 1) f fd ps sp := by
  obtain ⟨oc, od, kV, doc, pm, an, cdv, ct, osl, rfl, lk, hc⟩ := F.ex
  have e : cdv = .ref c := hcd
  subst e
  refine fn_of lk hc S len fun A outer s H vs Q E hr hsp => ?_
  obtain ⟨t, h, q⟩ := body A outer s H vs Q E hr hsp
  exact ⟨t, h.nox, q⟩

end My
namespace My
open PySem L2
/-! ### ties, ways, what is joined -/
abbrev Ties := List (Int × Int)
/-- a and b are a tied pair, either way about -/
def Adj (ts : Ties) (a b : Int) : Prop := (a, b) ∈ ts ∨ (b, a) ∈ ts
theorem Adj.symm {ts : Ties} {a b : Int} (h : Adj ts a b) : Adj ts b a := h.elim .inr .inl
theorem Adj.mono {ts us : Ties} {a b : Int} (s : ∀ t ∈ ts, t ∈ us) (h : Adj ts a b) : Adj us a b := h.imp (s _) (s _)
inductive Rch (ts : Ties) (a : Int) : Int → Prop
  | refl : Rch ts a a
  | step {b c : Int} : Rch ts a b → Adj ts b c → Rch ts a c
theorem Rch.trans {ts : Ties} {a b c : Int} (h : Rch ts a b) (g : Rch ts b c) : Rch ts a c := by
  induction g with
  | refl => exact h
  | step _ e ih => exact .step ih e
theorem Rch.one {ts : Ties} {a b : Int} (h : Adj ts a b) : Rch ts a b := .step .refl h
theorem Rch.symm {ts : Ties} {a b : Int} (h : Rch ts a b) : Rch ts b a := by
  induction h with
  | refl => exact .refl
  | step _ e ih => exact (Rch.one e.symm).trans ih
theorem Rch.mono {ts us : Ties} {a b : Int} (s : ∀ t ∈ ts, t ∈ us) (h : Rch ts a b) : Rch us a b := by
  induction h with
  | refl => exact .refl
  | step _ e ih => exact .step ih (e.mono s)
/-- gone along ties -/
inductive Wlk (ts : Ties) : Int → Int → List Int → Prop
  | one (a : Int) : Wlk ts a a [a]
  | cons {a b c : Int} {l : List Int} : Adj ts a b → Wlk ts b c l → Wlk ts a c (a :: l)
theorem Wlk.mono {ts us : Ties} (s : ∀ t ∈ ts, t ∈ us) {a b : Int} {l : List Int} (h : Wlk ts a b l) : Wlk us a b l := by
  induction h with
  | one a => exact .one a
  | cons e _ ih => exact .cons (e.mono s) ih
theorem Wlk.rch {ts : Ties} {a b : Int} {l : List Int} (h : Wlk ts a b l) : Rch ts a b := by
  induction h with
  | one a => exact .refl
  | cons e _ ih => exact (Rch.one e).trans ih
theorem Wlk.ne_nil {ts : Ties} {a b : Int} {l : List Int} (h : Wlk ts a b l) : l ≠ [] := by
  cases h <;> exact List.cons_ne_nil _ _
theorem Wlk.head {ts : Ties} {a b : Int} {l : List Int} (h : Wlk ts a b l) : l.head? = some a := by
  cases h <;> rfl
theorem Wlk.mem_a {ts : Ties} {a b : Int} {l : List Int} (h : Wlk ts a b l) : a ∈ l := by
  cases h <;> exact List.mem_cons_self
theorem Wlk.mem_b {ts : Ties} {a b : Int} {l : List Int} (h : Wlk ts a b l) : b ∈ l := by
  induction h with
  | one a => exact List.mem_cons_self
  | cons _ _ ih => exact List.mem_cons_of_mem _ ih
theorem Wlk.snoc {ts : Ties} {a b c : Int} {l : List Int} (h : Wlk ts a b l) (e : Adj ts b c) : Wlk ts a c (l ++ [c]) := by
  induction h with
  | one a => exact .cons e (.one c)
  | cons e' _ ih => exact .cons e' (ih e)
theorem Wlk.rev {ts : Ties} {a b : Int} {l : List Int} (h : Wlk ts a b l) : Wlk ts b a l.reverse := by
  induction h with
  | one a => exact .one a
  | cons e _ ih =>
    rw [List.reverse_cons]
    exact ih.snoc e.symm
/-- every point of it is joined with the first -/
theorem Wlk.rch_of_mem {ts : Ties} {a b : Int} {l : List Int} (h : Wlk ts a b l) : ∀ x ∈ l, Rch ts a x := by
  induction h with
  | one a =>
    intro x m
    rw [List.mem_singleton.mp m]
    exact .refl
  | cons e _ ih =>
    intro x m
    rcases List.mem_cons.mp m with rfl | m
    · exact .refl
    · exact (Rch.one e).trans (ih x m)
/-- a way: gone along ties, none twice -/
structure Way (ts : Ties) (a b : Int) (l : List Int) : Prop where
  wk : Wlk ts a b l
  nd : l.Nodup
/-- no tie can be gone round -/
def Tree (ts : Ties) : Prop := ∀ t ∈ ts, ¬ Rch (ts.filter fun u => decide (u ≠ t)) t.1 t.2
/-- whoever goes along a walk that hasn't a, doesn't use a's ties -/
theorem Wlk.avoid {ts : Ties} {b c a : Int} {l : List Int} (h : Wlk ts b c l) (n : a ∉ l) (t : Int × Int) (ht : t.1 = a ∨ t.2 = a) : Wlk (ts.filter fun u => decide (u ≠ t)) b c l := by
  induction h with
  | one x => exact .one x
  | @cons x y z l e w ih =>
    have nx : a ≠ x := fun q => n (q ▸ List.mem_cons_self)
    have nl : a ∉ l := fun q => n (List.mem_cons_of_mem _ q)
    have ny : a ≠ y := fun q => nl (q ▸ w.mem_a)
    refine .cons ?_ (ih nl)
    rcases e with e | e
    · refine .inl (List.mem_filter.mpr ⟨e, decide_eq_true fun q => ?_⟩)
      subst q
      rcases ht with q | q
      · exact nx q.symm
      · exact ny q.symm
    · refine .inr (List.mem_filter.mpr ⟨e, decide_eq_true fun q => ?_⟩)
      subst q
      rcases ht with q | q
      · exact ny q.symm
      · exact nx q.symm
theorem Way.self {ts : Ties} {a : Int} {l : List Int} (h : Way ts a a l) : l = [a] := by
  obtain ⟨w, nd⟩ := h
  cases w with
  | one => rfl
  | cons e w => exact absurd w.mem_b (List.nodup_cons.mp nd).1
/-- there is one way -/
theorem way_unique {ts : Ties} (T : Tree ts) : ∀ {l m : List Int} {a b : Int}, Way ts a b l → Way ts a b m → l = m := by
  intro l
  induction l with
  | nil =>
    intro m a b h _
    exact absurd rfl h.wk.ne_nil
  | cons x l ih =>
    intro m a b h g
    obtain ⟨w, nd⟩ := h
    cases w with
    | one => exact (Way.self g).symm
    | @cons _ y _ _ e w =>
      have nl := (List.nodup_cons.mp nd).1
      obtain ⟨w2, nd2⟩ := g
      cases w2 with
      | one => exact absurd w.mem_b nl
      | @cons _ z _ m e2 w2 =>
        have nm := (List.nodup_cons.mp nd2).1
        by_cases q : y = z
        · subst q
          rw [ih ⟨w, (List.nodup_cons.mp nd).2⟩ ⟨w2, (List.nodup_cons.mp nd2).2⟩]
        · exfalso
          -- the tie of x and y is gone round
          have go : ∀ t : Int × Int, (t = (x, y) ∨ t = (y, x)) → t ∈ ts → False := by
            intro t ht mt
            have h1 : t.1 = x ∨ t.2 = x := by
              rcases ht with rfl | rfl
              · exact .inl rfl
              · exact .inr rfl
            have r1 : Rch (ts.filter fun u => decide (u ≠ t)) y b := (w.avoid nl t h1).rch
            have r2 : Rch (ts.filter fun u => decide (u ≠ t)) z b := (w2.avoid nm t h1).rch
            have nxy : x ≠ y := fun q => nl (q ▸ w.mem_a)
            have e3 : Adj (ts.filter fun u => decide (u ≠ t)) x z := by
              rcases e2 with e2 | e2
              · refine .inl (List.mem_filter.mpr ⟨e2, decide_eq_true fun k => ?_⟩)
                rcases ht with rfl | rfl
                · exact q (Prod.mk.inj k).2.symm
                · exact nxy (Prod.mk.inj k).1
              · refine .inr (List.mem_filter.mpr ⟨e2, decide_eq_true fun k => ?_⟩)
                rcases ht with rfl | rfl
                · exact nxy (Prod.mk.inj k).2
                · exact q (Prod.mk.inj k).1.symm
            have r3 : Rch (ts.filter fun u => decide (u ≠ t)) x y := ((Rch.one e3).trans r2).trans r1.symm
            rcases ht with rfl | rfl
            · exact T _ mt r3
            · exact T _ mt r3.symm
          rcases e with e | e
          · exact go _ (.inl rfl) e
          · exact go _ (.inr rfl) e
theorem Way.rev {ts : Ties} {a b : Int} {l : List Int} (h : Way ts a b l) : Way ts b a l.reverse := ⟨h.wk.rev, List.pairwise_reverse.mpr (h.nd.imp fun n e => n e.symm)⟩
theorem Way.snoc {ts : Ties} {a b c : Int} {l : List Int} (h : Way ts a b l) (e : Adj ts b c) (n : c ∉ l) : Way ts a c (l ++ [c]) :=
  ⟨h.wk.snoc e, List.nodup_append.mpr ⟨h.nd, List.nodup_cons.mpr ⟨List.not_mem_nil, List.nodup_nil⟩, fun x m y k z => by
    rw [List.mem_singleton.mp k] at z
    exact n (z ▸ m)⟩⟩
/-- a way up to a point of it -/
theorem Wlk.upto {ts : Ties} {a b : Int} {l : List Int} (h : Wlk ts a b l) : ∀ {x : Int}, x ∈ l → ∃ p s, l = p ++ s ∧ Wlk ts a x p ∧ ∃ s', Wlk ts x b (x :: s') ∧ s = s' := by
  induction h with
  | one a =>
    intro x m
    have e := List.mem_singleton.mp m
    subst e
    exact ⟨[x], [], rfl, .one x, [], .one x, rfl⟩
  | @cons a c b l e w ih =>
    intro x m
    rcases List.mem_cons.mp m with rfl | m
    · exact ⟨[x], l, rfl, .one x, l, .cons e w, rfl⟩
    · obtain ⟨p, s, h1, h2, s', h3, h4⟩ := ih m
      exact ⟨a :: p, s, by rw [h1]; rfl, .cons e h2, s', h3, h4⟩
/-- where two are joined there is a way -/
theorem rch_way {ts : Ties} {a b : Int} (h : Rch ts a b) : ∃ l, Way ts a b l := by
  induction h with
  | refl => exact ⟨[a], .one a, by simp⟩
  | @step b c _ e ih =>
    obtain ⟨l, w⟩ := ih
    by_cases m : c ∈ l
    · obtain ⟨p, s, h1, h2, _⟩ := w.wk.upto m
      refine ⟨p, h2, ?_⟩
      have nd := w.nd
      rw [h1] at nd
      exact (List.nodup_append.mp nd).1
    · exact ⟨_, w.snoc e m⟩
/-! ### a tie that leads to a new point -/
theorem rch_contract {ts : Ties} {u v p q : Int} {k : Ties} (hv : ∀ t ∈ ts, t.1 ≠ v ∧ t.2 ≠ v) (hk : ∀ t ∈ k, t ∈ ts ∨ t = (u, v) ∨ t = (v, u)) (nuv : u ≠ v) (us : Ties) (hus : ∀ t ∈ k, t ∈ ts → t ∈ us) (h : Rch k p q) :
    Rch us (if p = v then u else p) (if q = v then u else q) := by
  induction h with
  | refl => exact .refl
  | @step b c _ e ih =>
    refine ih.trans ?_
    have one : ∀ {x y : Int}, (x, y) ∈ k → Rch us (if x = v then u else x) (if y = v then u else y) := by
      intro x y m
      rcases hk _ m with z | z | z
      · have n := hv _ z
        rw [if_neg n.1, if_neg n.2]
        exact .one (.inl (hus _ m z))
      · obtain ⟨rfl, rfl⟩ := Prod.mk.inj z
        rw [if_neg nuv, if_pos rfl]
        exact .refl
      · obtain ⟨rfl, rfl⟩ := Prod.mk.inj z
        rw [if_neg nuv, if_pos rfl]
        exact .refl
    rcases e with e | e
    · exact one e
    · exact (one e).symm
theorem tree_nil : Tree [] := fun _ m => absurd m List.not_mem_nil
theorem rch_isolated {ts : Ties} {a v : Int} (hv : ∀ t ∈ ts, t.1 ≠ v ∧ t.2 ≠ v) (h : Rch ts a v) : a = v := by
  cases h with
  | refl => rfl
  | step _ e =>
    rcases e with e | e
    · exact absurd rfl (hv _ e).2
    · exact absurd rfl (hv _ e).1
theorem tree_snoc {ts : Ties} {u v : Int} {t : Int × Int} (T : Tree ts) (hv : ∀ t ∈ ts, t.1 ≠ v ∧ t.2 ≠ v) (nuv : u ≠ v) (ht : t = (u, v) ∨ t = (v, u)) : Tree (ts ++ [t]) := by
  intro e me h
  have tv : t.1 = v ∨ t.2 = v := by
    rcases ht with rfl | rfl
    · exact .inr rfl
    · exact .inl rfl
  rcases List.mem_append.mp me with m | m
  · have ne : e ≠ t := fun q => by
      have z := hv e m
      rw [q] at z
      rcases tv with y | y
      · exact z.1 y
      · exact z.2 y
    have n := hv e m
    have r := rch_contract (ts := ts) (u := u) (v := v) (us := ts.filter fun x => decide (x ≠ e)) hv (fun x hx => ?_) nuv (fun x hx hm => ?_) h
    · rw [if_neg n.1, if_neg n.2] at r
      exact T e m r
    · rcases List.mem_append.mp (List.mem_filter.mp hx).1 with z | z
      · exact .inl z
      · rw [List.mem_singleton.mp z]
        exact .inr ht
    · exact List.mem_filter.mpr ⟨hm, (List.mem_filter.mp hx).2⟩
  · have q := List.mem_singleton.mp m
    subst q
    have iso : ∀ x ∈ ((ts ++ [e]).filter fun x => decide (x ≠ e)), x.1 ≠ v ∧ x.2 ≠ v := fun x hx => by
      obtain ⟨h1, h2⟩ := List.mem_filter.mp hx
      rcases List.mem_append.mp h1 with z | z
      · exact hv x z
      · exact absurd (List.mem_singleton.mp z) (of_decide_eq_true h2)
    rcases ht with rfl | rfl
    · exact nuv (rch_isolated iso h)
    · exact nuv (rch_isolated iso h.symm)
theorem rch_perm {ts us : Ties} (p : ∀ t, t ∈ ts ↔ t ∈ us) {a b : Int} (h : Rch ts a b) : Rch us a b := h.mono fun t m => (p t).mp m
theorem tree_perm {ts us : Ties} (p : ∀ t, t ∈ ts ↔ t ∈ us) (T : Tree ts) : Tree us := fun t m h => T t ((p t).mpr m) (h.mono fun x hx => by
  obtain ⟨h1, h2⟩ := List.mem_filter.mp hx
  exact List.mem_filter.mpr ⟨(p x).mpr h1, h2⟩)
/-- with a tie cut its two are apart, and each is with one of them -/
theorem rch_cut {ts : Ties} {t : Int × Int} (mt : t ∈ ts) {a b : Int} (h : Rch ts a b) : Rch (ts.filter fun u => decide (u ≠ t)) a b ∨ (Rch (ts.filter fun u => decide (u ≠ t)) a t.1 ∧ Rch (ts.filter fun u => decide (u ≠ t)) t.2 b) ∨ (Rch (ts.filter fun u => decide (u ≠ t)) a t.2 ∧ Rch (ts.filter fun u => decide (u ≠ t)) t.1 b) := by
  induction h with
  | refl => exact .inl .refl
  | @step b c _ e ih =>
    have key : Adj (ts.filter fun u => decide (u ≠ t)) b c ∨ (b = t.1 ∧ c = t.2) ∨ (b = t.2 ∧ c = t.1) := by
      rcases e with e | e
      · by_cases q : (b, c) = t
        · exact .inr (.inl (by rw [← q]; exact ⟨rfl, rfl⟩))
        · exact .inl (.inl (List.mem_filter.mpr ⟨e, decide_eq_true q⟩))
      · by_cases q : (c, b) = t
        · exact .inr (.inr (by rw [← q]; exact ⟨rfl, rfl⟩))
        · exact .inl (.inr (List.mem_filter.mpr ⟨e, decide_eq_true q⟩))
    rcases key with k | ⟨rfl, rfl⟩ | ⟨rfl, rfl⟩
    · rcases ih with h | ⟨h1, h2⟩ | ⟨h1, h2⟩
      · exact .inl (.step h k)
      · exact .inr (.inl ⟨h1, .step h2 k⟩)
      · exact .inr (.inr ⟨h1, .step h2 k⟩)
    · rcases ih with h | ⟨h1, h2⟩ | ⟨h1, h2⟩
      · exact .inr (.inl ⟨h, .refl⟩)
      · exact .inr (.inl ⟨h1, .refl⟩)
      · exact .inl h1
    · rcases ih with h | ⟨h1, h2⟩ | ⟨h1, h2⟩
      · exact .inr (.inr ⟨h, .refl⟩)
      · exact .inl h1
      · exact .inr (.inr ⟨h1, .refl⟩)

end My
namespace My

/-! ### parts by their least point -/
open Classical in
noncomputable def rpOf (ts : Ties) (j : Nat) : Nat := ((List.range (j + 1)).find? fun i : Nat => decide (Rch ts (j : Int) (i : Int))).getD j
section
variable {ts : Ties}
theorem rp_spec (j : Nat) : Rch ts (j : Int) (rpOf ts j : Int) ∧ rpOf ts j ≤ j ∧ ∀ i, i < rpOf ts j → ¬ Rch ts (j : Int) (i : Int) := by
  classical
  unfold rpOf
  cases e : (List.range (j + 1)).find? fun i : Nat => decide (Rch ts (j : Int) (i : Int)) with
  | none =>
    have := List.find?_eq_none.mp e j (List.mem_range.mpr (Nat.lt_succ_self j))
    exact absurd (decide_eq_true (Rch.refl (ts := ts) (a := (j : Int)))) (by simpa using this)
  | some i =>
    obtain ⟨h1, h2, h3⟩ := List.find?_range_eq_some.mp e
    have h2 := List.mem_range.mp h2
    refine ⟨by simpa using h1, by show i ≤ j; omega, fun k hk => ?_⟩
    have := h3 k hk
    simpa using this
theorem rp_eq {u v : Nat} (h : Rch ts (u : Int) (v : Int)) : rpOf ts u = rpOf ts v := by
  obtain ⟨u1, _, u3⟩ := rp_spec (ts := ts) u
  obtain ⟨v1, _, v3⟩ := rp_spec (ts := ts) v
  rcases Nat.lt_trichotomy (rpOf ts u) (rpOf ts v) with l | e | l
  · exact absurd (h.symm.trans u1) (v3 _ l)
  · exact e
  · exact absurd (h.trans v1) (u3 _ l)
theorem rp_iff {u v : Nat} : rpOf ts u = rpOf ts v ↔ Rch ts (u : Int) (v : Int) := ⟨fun e => by
  have h1 := (rp_spec (ts := ts) u).1
  have h2 := (rp_spec (ts := ts) v).1
  rw [e] at h1
  exact h1.trans h2.symm, rp_eq⟩
theorem rp_idem (j : Nat) : rpOf ts (rpOf ts j) = rpOf ts j := (rp_eq (rp_spec j).1).symm
theorem rp_le (j : Nat) : rpOf ts j ≤ j := (rp_spec j).2.1
end

inductive Up (ab : List Int) : Int → Int → Nat → Prop
  | root {p : Int} (p0 : 0 ≤ p) (h : ab[p.toNat]? = some p) : Up ab p p 0
  | step {p q t : Int} {n : Nat} (p0 : 0 ≤ p) (h : ab[p.toNat]? = some q) (ne : q ≠ p) (u : Up ab q t n) : Up ab p t (n + 1)
theorem Up.top {ab : List Int} {p t : Int} {n : Nat} (h : Up ab p t n) : 0 ≤ t ∧ ab[t.toNat]? = some t := by
  induction h with
  | root p0 h => exact ⟨p0, h⟩
  | step p0 h ne u ih => exact ih
theorem nat_ne {a b : Int} (ha : 0 ≤ a) (hb : 0 ≤ b) (h : a ≠ b) : a.toNat ≠ b.toNat := by omega
theorem Up.keep {ab : List Int} {o u : Int} (o0 : 0 ≤ o) (ho : ab[o.toNat]? = some o) {p t : Int} {n : Nat} (h : Up ab p t n) : t ≠ o → Up (ab.set o.toNat u) p t n := by
  induction h with
  | root p0 h =>
    intro ne
    refine .root p0 ?_
    rw [List.getElem?_set_ne (nat_ne o0 p0 ne.symm)]
    exact h
  | @step p q t n p0 h ne' w ih =>
    intro ne
    have po : o ≠ p := by
      rintro rfl
      rw [ho] at h
      exact ne' (Option.some.inj h).symm
    refine .step p0 ?_ ne' (ih ne)
    rw [List.getElem?_set_ne (nat_ne o0 p0 po)]
    exact h
theorem Up.move {ab : List Int} {o u : Int} (o0 : 0 ≤ o) (ho : ab[o.toNat]? = some o) (u0 : 0 ≤ u) (hu : ab[u.toNat]? = some u) (nuo : u ≠ o) {p t : Int} {n : Nat} (h : Up ab p t n) : t = o → Up (ab.set o.toNat u) p u (n + 1) := by
  induction h with
  | @root p p0 h =>
    intro e
    subst e
    refine .step p0 (q := u) ?_ nuo (.root u0 ?_)
    · rw [List.getElem?_set_self (List.getElem?_eq_some_iff.mp h).1]
    · rw [List.getElem?_set_ne (nat_ne p0 u0 nuo.symm)]
      exact hu
  | @step p q t n p0 h ne' w ih =>
    intro e
    have po : o ≠ p := by
      rintro rfl
      rw [ho] at h
      exact ne' (Option.some.inj h).symm
    refine .step p0 ?_ ne' (ih e)
    rw [List.getElem?_set_ne (nat_ne o0 p0 po)]
    exact h
structure Uf (ts : Ties) (m : Nat) (ab : List Int) : Prop where
  len : ab.length = m
  ex : ∀ p : Int, 0 ≤ p → p < (m : Int) → ∃ t n, Up ab p t n ∧ Rch ts p t
theorem uf0 (m : Nat) : Uf [] m ((List.range m).map fun (i : Nat) => (i : Int)) := by
  refine ⟨by rw [List.length_map, List.length_range], fun p p0 p1 => ⟨p, 0, .root p0 ?_, .refl⟩⟩
  rw [List.getElem?_map, List.getElem?_range (by omega)]
  show some ((p.toNat : Nat) : Int) = some p
  rw [Int.toNat_of_nonneg p0]
theorem uf_snoc {ts : Ties} {m : Nat} {ab : List Int} (U : Uf ts m ab) {a b u o : Int} {n1 n2 : Nat} (h1 : Up ab a u n1) (r1 : Rch ts a u) (h2 : Up ab b o n2) (r2 : Rch ts b o) (ne : u ≠ o) : Uf (ts ++ [(a, b)]) m (ab.set o.toNat u) := by
  refine ⟨by rw [List.length_set]; exact U.len, fun p p0 p1 => ?_⟩
  obtain ⟨t, n, hp, rp⟩ := U.ex p p0 p1
  have up : ∀ t ∈ ts, t ∈ ts ++ [(a, b)] := fun t m => List.mem_append_left _ m
  by_cases e : t = o
  · refine ⟨u, n + 1, hp.move h2.top.1 h2.top.2 h1.top.1 h1.top.2 ne e, ?_⟩
    subst e
    have ad : Adj (ts ++ [(a, b)]) b a := .inr (List.mem_append_right _ List.mem_cons_self)
    exact (rp.mono up).trans ((r2.symm.mono up).trans ((Rch.one ad).trans (r1.mono up)))
  · exact ⟨t, n, hp.keep h2.top.1 h2.top.2 e, rp.mono up⟩

/-- all that are joined with a, rising -/
structure IsPart (ts : Ties) (a : Int) (l : List Int) : Prop where
  up : l.Pairwise (· < ·)
  mem : ∀ v, v ∈ l ↔ Rch ts a v
theorem rising_ext : ∀ {l m : List Int}, l.Pairwise (· < ·) → m.Pairwise (· < ·) → (∀ v, v ∈ l ↔ v ∈ m) → l = m
  | [], [], _, _, _ => rfl
  | [], y :: _, _, _, h => nomatch (h y).mpr List.mem_cons_self
  | x :: _, [], _, _, h => nomatch (h x).mp List.mem_cons_self
  | x :: l, y :: m, hl, hm, h => by
    rw [List.pairwise_cons] at hl hm
    have e : x = y := by
      rcases List.mem_cons.mp ((h x).mp List.mem_cons_self) with e | e
      · exact e
      · rcases List.mem_cons.mp ((h y).mpr List.mem_cons_self) with e2 | e2
        · exact e2.symm
        · have z1 := hm.1 x e
          have z2 := hl.1 y e2
          omega
    subst e
    have t : l = m := rising_ext hl.2 hm.2 fun v => ⟨fun hv => by
      rcases List.mem_cons.mp ((h v).mp (List.mem_cons_of_mem _ hv)) with e | e
      · have := hl.1 v hv
        omega
      · exact e, fun hv => by
      rcases List.mem_cons.mp ((h v).mpr (List.mem_cons_of_mem _ hv)) with e | e
      · have := hm.1 v hv
        omega
      · exact e⟩
    rw [t]
theorem part_unique {ts : Ties} {a : Int} {l m : List Int} (h : IsPart ts a l) (g : IsPart ts a m) : l = m := rising_ext h.up g.up fun v => (h.mem v).trans (g.mem v).symm
theorem part_of_sorted {ts : Ties} {a : Int} {ks ns : List Int} (nd : ks.Nodup) (mem : ∀ v, v ∈ ks ↔ Rch ts a v) (pm : ns.Perm ks) (srt : ns.Pairwise (· ≤ ·)) : IsPart ts a ns := by
  have nd2 : ns.Nodup := pm.nodup_iff.mpr nd
  refine ⟨?_, fun v => (pm.mem_iff).trans (mem v)⟩
  have both := List.Pairwise.and srt nd2
  exact both.imp fun ⟨h1, h2⟩ => Int.lt_iff_le_and_ne.mpr ⟨h1, h2⟩

/-! ### rings and parts, counted -/
theorem Up.det {ab : List Int} {p t : Int} {n : Nat} (h : Up ab p t n) : ∀ {t' : Int} {n' : Nat}, Up ab p t' n' → t = t' := by
  induction h with
  | root p0 h =>
    intro t' n' g
    cases g with
    | root _ _ => rfl
    | step _ h2 ne _ =>
      rw [h] at h2
      exact absurd (Option.some.inj h2).symm ne
  | step p0 h ne u ih =>
    intro t' n' g
    cases g with
    | root _ h2 =>
      rw [h] at h2
      exact absurd (Option.some.inj h2) ne
    | step _ h2 _ u2 =>
      rw [h] at h2
      cases Option.some.inj h2
      exact ih u2
/-- joined ones have one top -/
structure Uf2 (ts : Ties) (m : Nat) (ab : List Int) : Prop where
  uf : Uf ts m ab
  eq : ∀ t ∈ ts, ∃ x n1 n2, Up ab t.1 x n1 ∧ Up ab t.2 x n2
theorem uf20 (m : Nat) : Uf2 [] m ((List.range m).map fun (i : Nat) => (i : Int)) := ⟨uf0 m, fun t z => nomatch z⟩
theorem uf2_snoc {ts : Ties} {m : Nat} {ab : List Int} (U : Uf2 ts m ab) {a b u o : Int} {n1 n2 : Nat} (h1 : Up ab a u n1) (r1 : Rch ts a u) (h2 : Up ab b o n2) (r2 : Rch ts b o) (ne : u ≠ o) : Uf2 (ts ++ [(a, b)]) m (ab.set o.toNat u) := by
  refine ⟨uf_snoc U.uf h1 r1 h2 r2 ne, fun t mt => ?_⟩
  rcases List.mem_append.mp mt with mt | mt
  · obtain ⟨x, k1, k2, g1, g2⟩ := U.eq t mt
    by_cases e : x = o
    · exact ⟨u, _, _, g1.move h2.top.1 h2.top.2 h1.top.1 h1.top.2 ne e, g2.move h2.top.1 h2.top.2 h1.top.1 h1.top.2 ne e⟩
    · exact ⟨x, _, _, g1.keep h2.top.1 h2.top.2 e, g2.keep h2.top.1 h2.top.2 e⟩
  · rw [List.mem_singleton.mp mt]
    exact ⟨u, _, _, h1.keep h2.top.1 h2.top.2 ne, h2.move h2.top.1 h2.top.2 h1.top.1 h1.top.2 ne rfl⟩
theorem Uf2.one {ts : Ties} {m : Nat} {ab : List Int} (U : Uf2 ts m ab) {a b : Int} (h : Rch ts a b) : ∀ {x : Int} {n : Nat}, Up ab a x n → ∃ k, Up ab b x k := by
  induction h with
  | refl => exact fun g => ⟨_, g⟩
  | step _ e ih =>
    intro x n g
    obtain ⟨k, g⟩ := ih g
    rcases e with e | e
    · obtain ⟨y, k1, k2, g1, g2⟩ := U.eq _ e
      cases g.det g1
      exact ⟨_, g2⟩
    · obtain ⟨y, k1, k2, g1, g2⟩ := U.eq _ e
      cases g.det g2
      exact ⟨_, g1⟩
theorem Uf2.ne {ts : Ties} {m : Nat} {ab : List Int} (U : Uf2 ts m ab) {a b x y : Int} {n1 n2 : Nat} (h1 : Up ab a x n1) (h2 : Up ab b y n2) (ne : x ≠ y) : ¬ Rch ts a b := fun r => by
  obtain ⟨k, g⟩ := U.one r h1
  exact ne (g.det h2)
/-- some tie closes a ring -/
def Ring (ts : Ties) : Prop := ∃ (i : Nat) (t : Int × Int), ts[i]? = some t ∧ Rch (ts.take i) t.1 t.2
open Classical in
noncomputable def ringB (ts : Ties) : Bool := decide (Ring ts)
theorem ring_snoc {ts : Ties} {t : Int × Int} : Ring (ts ++ [t]) ↔ Ring ts ∨ Rch ts t.1 t.2 := by
  constructor
  · rintro ⟨i, u, h, r⟩
    by_cases e : i < ts.length
    · rw [List.getElem?_append_left e] at h
      rw [List.take_append_of_le_length (by omega)] at r
      exact .inl ⟨i, u, h, r⟩
    · rw [List.getElem?_append_right (by omega)] at h
      have e2 : i - ts.length = 0 := by
        cases q : i - ts.length with
        | zero => rfl
        | succ k =>
          rw [q] at h
          cases h
      rw [e2] at h
      cases Option.some.inj h
      have e3 : i = ts.length := by omega
      rw [e3, List.take_left'] at r
      · exact .inr r
      · rfl
  · rintro (⟨i, u, h, r⟩ | r)
    · have l := (List.getElem?_eq_some_iff.mp h).1
      refine ⟨i, u, ?_, ?_⟩
      · rw [List.getElem?_append_left l]
        exact h
      · rw [List.take_append_of_le_length (by omega)]
        exact r
    · refine ⟨ts.length, t, ?_, ?_⟩
      · rw [List.getElem?_append_right (Nat.le_refl _), Nat.sub_self]
        rfl
      · rw [List.take_left' rfl]
        exact r
theorem ring_nil : ¬ Ring [] := by
  rintro ⟨i, t, h, _⟩
  rw [List.getElem?_nil] at h
  cases h
theorem ring_take {ts : Ties} {i : Nat} (h : Ring (ts.take i)) : Ring ts := by
  obtain ⟨j, t, h1, r⟩ := h
  have l := (List.getElem?_eq_some_iff.mp h1).1
  rw [List.length_take] at l
  refine ⟨j, t, ?_, ?_⟩
  · rw [List.getElem?_take_of_lt (by omega)] at h1
    exact h1
  · rw [List.take_take, Nat.min_eq_left (by omega)] at r
    exact r
theorem tree_noring {ts : Ties} (T : Tree ts) (nd : ts.Nodup) : ¬ Ring ts := by
  rintro ⟨i, t, h, r⟩
  obtain ⟨hi, e⟩ := List.getElem?_eq_some_iff.mp h
  refine T t (List.mem_of_getElem? h) (r.mono fun u mu => List.mem_filter.mpr ⟨List.mem_of_mem_take mu, decide_eq_true fun z => ?_⟩)
  obtain ⟨j, hj, ej⟩ := List.getElem_of_mem mu
  rw [List.getElem_take] at ej
  rw [List.length_take] at hj
  have pw := List.pairwise_iff_getElem.mp nd j i (by omega) hi (by omega)
  exact pw (by rw [ej, e, z])
theorem rch_snoc {ts : Ties} {a b x y : Int} : Rch (ts ++ [(a, b)]) x y ↔ Rch ts x y ∨ (Rch ts x a ∧ Rch ts b y) ∨ (Rch ts x b ∧ Rch ts a y) := by
  have up : ∀ t ∈ ts, t ∈ ts ++ [(a, b)] := fun t m => List.mem_append_left _ m
  have ad : Adj (ts ++ [(a, b)]) a b := .inl (List.mem_append_right _ List.mem_cons_self)
  constructor
  · intro h
    induction h with
    | refl => exact .inl .refl
    | @step c d _ e ih =>
      have key : Adj ts c d ∨ (c = a ∧ d = b) ∨ (c = b ∧ d = a) := by
        rcases e with e | e
        · rcases List.mem_append.mp e with e | e
          · exact .inl (.inl e)
          · cases List.mem_singleton.mp e
            exact .inr (.inl ⟨rfl, rfl⟩)
        · rcases List.mem_append.mp e with e | e
          · exact .inl (.inr e)
          · cases List.mem_singleton.mp e
            exact .inr (.inr ⟨rfl, rfl⟩)
      rcases key with k | ⟨rfl, rfl⟩ | ⟨rfl, rfl⟩
      · rcases ih with h | ⟨h1, h2⟩ | ⟨h1, h2⟩
        · exact .inl (.step h k)
        · exact .inr (.inl ⟨h1, .step h2 k⟩)
        · exact .inr (.inr ⟨h1, .step h2 k⟩)
      · rcases ih with h | ⟨h1, h2⟩ | ⟨h1, h2⟩
        · exact .inr (.inl ⟨h, .refl⟩)
        · exact .inr (.inl ⟨h1, .refl⟩)
        · exact .inl h1
      · rcases ih with h | ⟨h1, h2⟩ | ⟨h1, h2⟩
        · exact .inr (.inr ⟨h, .refl⟩)
        · exact .inl h1
        · exact .inr (.inr ⟨h1, .refl⟩)
  · rintro (h | ⟨h1, h2⟩ | ⟨h1, h2⟩)
    · exact h.mono up
    · exact (h1.mono up).trans ((Rch.one ad).trans (h2.mono up))
    · exact (h1.mono up).trans ((Rch.one ad.symm).trans (h2.mono up))
/-- how many parts -/
noncomputable def cntP (ts : Ties) (n : Nat) : Nat := ((List.range n).filter fun j => decide (rpOf ts j = j)).length
theorem rp_self {ts : Ties} {j : Nat} : rpOf ts j = j ↔ ∀ i : Nat, i < j → ¬ Rch ts (j : Int) (i : Int) := by
  constructor
  · intro e i hi
    have z := (rp_spec (ts := ts) j).2.2
    rw [e] at z
    exact z i hi
  · intro h
    rcases Nat.lt_or_eq_of_le (rp_le (ts := ts) j) with l | e
    · exact absurd (rp_spec j).1 (h _ l)
    · exact e
theorem cnt_same {ts us : Ties} (n : Nat) (h : ∀ x y, Rch us x y ↔ Rch ts x y) : cntP us n = cntP ts n := by
  unfold cntP
  congr 1
  refine List.filter_congr fun j _ => decide_eq_decide.mpr ?_
  rw [rp_self, rp_self]
  exact ⟨fun z i hi r => z i hi ((h _ _).mpr r), fun z i hi r => z i hi ((h _ _).mp r)⟩
theorem cnt_less {ts us : Ties} {n a b : Nat} (ha : a < n) (hb : b < n) (h : ∀ x y : Int, Rch us x y ↔ Rch ts x y ∨ (Rch ts x a ∧ Rch ts b y) ∨ (Rch ts x b ∧ Rch ts a y)) (lt : rpOf ts a < rpOf ts b) : cntP us n + 1 = cntP ts n := by
  have key : ∀ j : Nat, rpOf us j = j ↔ rpOf ts j = j ∧ j ≠ rpOf ts b := fun j => by
    constructor
    · intro e
      have e1 := rp_self.mp e
      refine ⟨rp_self.mpr fun i hi r => e1 i hi ((h _ _).mpr (.inl r)), ?_⟩
      rintro rfl
      refine e1 (rpOf ts a) lt ((h _ _).mpr (.inr (.inr ⟨(rp_spec b).1.symm, (rp_spec a).1⟩)))
    · rintro ⟨e, ne⟩
      refine rp_self.mpr fun i hi r => ?_
      rcases (h _ _).mp r with r | ⟨r1, r2⟩ | ⟨r1, r2⟩
      · exact rp_self.mp e i hi r
      · have e2 := rp_eq r1
        rw [e] at e2
        refine (rp_spec (ts := ts) b).2.2 i (by omega) r2
      · have e2 := rp_eq r1
        rw [e] at e2
        exact ne e2
  have lb : rpOf ts b < n := Nat.lt_of_le_of_lt (rp_le b) hb
  have nd : ((List.range n).filter fun j => decide (rpOf ts j = j)).Nodup := List.nodup_range.filter _
  have mb : rpOf ts b ∈ (List.range n).filter fun j => decide (rpOf ts j = j) := List.mem_filter.mpr ⟨List.mem_range.mpr lb, decide_eq_true (rp_idem b)⟩
  have e : ((List.range n).filter fun j => decide (rpOf us j = j)) = ((List.range n).filter fun j => decide (rpOf ts j = j)).erase (rpOf ts b) := by
    rw [nd.erase_eq_filter, List.filter_filter]
    refine List.filter_congr fun j _ => ?_
    rw [Bool.eq_iff_iff]
    simp only [Bool.and_eq_true, decide_eq_true_eq, bne_iff_ne, key j]
    exact ⟨fun z => ⟨z.2, z.1⟩, fun z => ⟨z.2, z.1⟩⟩
  unfold cntP
  rw [e, List.length_erase_of_mem mb]
  have := List.length_pos_of_mem mb
  omega
theorem cnt_snoc {ts : Ties} {n a b : Nat} (ha : a < n) (hb : b < n) (nr : ¬ Rch ts (a : Int) (b : Int)) : cntP (ts ++ [((a : Int), (b : Int))]) n + 1 = cntP ts n := by
  rcases Nat.lt_trichotomy (rpOf ts a) (rpOf ts b) with l | e | l
  · exact cnt_less ha hb (fun x y => rch_snoc) l
  · exact absurd (rp_iff.mp e) nr
  · exact cnt_less hb ha (fun x y => rch_snoc.trans (or_congr_right Or.comm)) l
theorem cnt_nil (n : Nat) : cntP [] n = n := by
  unfold cntP
  rw [List.filter_eq_self.mpr, List.length_range]
  intro j _
  refine decide_eq_true (rp_self.mpr fun i hi r => ?_)
  have : ∀ {x y : Int}, Rch [] x y → x = y := fun {x y} h => by
    induction h with
    | refl => rfl
    | step _ e _ => rcases e with e | e <;> cases e
  have := this r
  omega
/-- ties are as many as points less parts just where none closes a ring -/
theorem cnt_ring {n : Nat} : ∀ (k : Nat) {ts : Ties}, ts.length = k → (∀ t ∈ ts, 0 ≤ t.1 ∧ 0 ≤ t.2 ∧ t.1 < (n : Int) ∧ t.2 < (n : Int)) → n ≤ cntP ts n + k ∧ cntP ts n ≤ n ∧ (cntP ts n + k = n ↔ ¬ Ring ts)
  | 0, ts, e, _ => by
    have e0 := List.eq_nil_of_length_eq_zero e
    subst e0
    rw [cnt_nil]
    exact ⟨by omega, by omega, fun _ => ring_nil, fun _ => rfl⟩
  | k + 1, ts, e, h => by
    obtain ⟨us, t, rfl⟩ : ∃ us t, ts = us ++ [t] := by
      have ne : ts ≠ [] := fun z => by rw [z] at e; cases e
      exact ⟨ts.dropLast, ts.getLast ne, (List.dropLast_concat_getLast ne).symm⟩
    have lu : us.length = k := by
      rw [List.length_append] at e
      exact Nat.succ.inj e
    obtain ⟨i1, i2, i3⟩ := cnt_ring k lu fun u m => h u (List.mem_append_left _ m)
    have ht := h t (List.mem_append_right _ List.mem_cons_self)
    obtain ⟨x, y⟩ := t
    obtain ⟨a, rfl⟩ : ∃ a : Nat, x = (a : Int) := ⟨x.toNat, by dsimp only at ht; omega⟩
    obtain ⟨b, rfl⟩ : ∃ b : Nat, y = (b : Int) := ⟨y.toNat, by dsimp only at ht; omega⟩
    dsimp only at ht
    rw [ring_snoc]
    by_cases r : Rch us (a : Int) (b : Int)
    · have c : cntP (us ++ [((a : Int), (b : Int))]) n = cntP us n := cnt_same n fun x y => by
        rw [rch_snoc]
        constructor
        · rintro (h | ⟨h1, h2⟩ | ⟨h1, h2⟩)
          · exact h
          · exact h1.trans (r.trans h2)
          · exact h1.trans (r.symm.trans h2)
        · exact .inl
      rw [c]
      refine ⟨by omega, i2, fun z => ?_, fun z => absurd (.inr r) z⟩
      omega
    · have c := cnt_snoc (n := n) (by omega) (by omega) r
      refine ⟨by omega, by omega, fun z => ?_, fun z => ?_⟩
      · rintro (g | g)
        · exact i3.mp (by omega) g
        · exact r g
      · have := i3.mpr fun g => z (.inl g)
        omega
/-! parts as tuples -/
open Classical in
noncomputable def partL (ts : Ties) (n : Nat) (j : Int) : List Int := ((List.range n).map fun i : Nat => (i : Int)).filter fun x => decide (Rch ts j x)
theorem rch_inN {ts : Ties} {n : Nat} (h : ∀ t ∈ ts, 0 ≤ t.1 ∧ 0 ≤ t.2 ∧ t.1 < (n : Int) ∧ t.2 < (n : Int)) {a v : Int} (a0 : 0 ≤ a) (a1 : a < (n : Int)) (r : Rch ts a v) : 0 ≤ v ∧ v < (n : Int) := by
  induction r with
  | refl => exact ⟨a0, a1⟩
  | step _ e _ =>
    rcases e with e | e
    · have := h _ e
      exact ⟨this.2.1, this.2.2.2⟩
    · have := h _ e
      exact ⟨this.1, this.2.2.1⟩
theorem is_partL {ts : Ties} {n : Nat} (h : ∀ t ∈ ts, 0 ≤ t.1 ∧ 0 ≤ t.2 ∧ t.1 < (n : Int) ∧ t.2 < (n : Int)) {j : Int} (j0 : 0 ≤ j) (j1 : j < (n : Int)) : IsPart ts j (partL ts n j) := by
  classical
  refine ⟨?_, fun v => ?_⟩
  · unfold partL
    refine List.Pairwise.filter _ (List.pairwise_map.mpr (List.pairwise_lt_range.imp fun h => ?_))
    omega
  · unfold partL
    rw [List.mem_filter, List.mem_map]
    constructor
    · rintro ⟨_, h⟩
      exact of_decide_eq_true h
    · intro g
      have r := rch_inN h j0 j1 g
      exact ⟨⟨v.toNat, List.mem_range.mpr (by omega), by omega⟩, decide_eq_true g⟩
theorem parts_cnt {κ : Type} {key : List Int → κ} (inj : ∀ l m, key l = key m → l = m) {ts : Ties} {n : Nat} (h : ∀ t ∈ ts, 0 ≤ t.1 ∧ 0 ≤ t.2 ∧ t.1 < (n : Int) ∧ t.2 < (n : Int)) {out : List κ} (nd : out.Nodup)
    (mem : ∀ k, k ∈ out ↔ k ∈ (List.range n).map fun j : Nat => key (partL ts n (j : Int))) : out.length = cntP ts n := by
  have isP : ∀ j : Nat, j < n → IsPart ts (j : Int) (partL ts n (j : Int)) := fun j hj => is_partL h (by omega) (by omega)
  have perm : out.Perm (((List.range n).filter fun j => decide (rpOf ts j = j)).map fun j : Nat => key (partL ts n (j : Int))) := by
    refine (List.perm_ext_iff_of_nodup nd ?_).mpr fun k => (mem k).trans ?_
    · refine List.pairwise_map.mpr (List.pairwise_iff_getElem.mpr fun i j hi hj lt e => ?_)
      have mi := List.mem_filter.mp (List.getElem_mem hi)
      have mj := List.mem_filter.mp (List.getElem_mem hj)
      have li := List.mem_range.mp mi.1
      have lj := List.mem_range.mp mj.1
      have e := inj _ _ e
      have m1 := ((isP _ li).mem _).mpr .refl
      rw [e] at m1
      have r := ((isP _ lj).mem _).mp m1
      have e2 := rp_eq r
      rw [of_decide_eq_true mi.2, of_decide_eq_true mj.2] at e2
      have nr : ((List.range n).filter fun j => decide (rpOf ts j = j)).Nodup := List.nodup_range.filter _
      exact List.pairwise_iff_getElem.mp nr i j hi hj lt e2.symm
    · constructor
      · intro h
        obtain ⟨j, hj, rfl⟩ := List.mem_map.mp h
        have hj := List.mem_range.mp hj
        have lr : rpOf ts j < n := Nat.lt_of_le_of_lt (rp_le j) hj
        refine List.mem_map.mpr ⟨rpOf ts j, List.mem_filter.mpr ⟨List.mem_range.mpr lr, decide_eq_true (rp_idem j)⟩, ?_⟩
        have r := (rp_spec (ts := ts) j).1
        have p1 := isP _ lr
        have p2 := isP j hj
        refine congrArg key (part_unique p1 ⟨p2.up, fun v => (p2.mem v).trans ⟨fun z => r.symm.trans z, fun z => r.trans z⟩⟩)
      · intro h
        obtain ⟨j, hj, rfl⟩ := List.mem_map.mp h
        exact List.mem_map.mpr ⟨j, (List.mem_filter.mp hj).1, rfl⟩
  rw [perm.length_eq, List.length_map]
  rfl
/-! ties in order -/
def ltT (s t : Int × Int) : Prop := s.1 < t.1 ∨ (s.1 = t.1 ∧ s.2 < t.2)
instance (s t : Int × Int) : Decidable (ltT s t) := by unfold ltT; infer_instance
theorem ltT_irr {s : Int × Int} : ¬ ltT s s := by
  unfold ltT
  omega
theorem ltT_asy {s t : Int × Int} (h : ltT s t) : ¬ ltT t s := by
  unfold ltT at *
  omega
theorem ltT_tr {s t u : Int × Int} (h : ltT s t) (g : ltT t u) : ltT s u := by
  unfold ltT at *
  omega
theorem ties_ext : ∀ {l m : Ties}, l.Pairwise ltT → m.Pairwise ltT → (∀ v, v ∈ l ↔ v ∈ m) → l = m
  | [], [], _, _, _ => rfl
  | [], y :: _, _, _, h => nomatch (h y).mpr List.mem_cons_self
  | x :: _, [], _, _, h => nomatch (h x).mp List.mem_cons_self
  | x :: l, y :: m, hl, hm, h => by
    rw [List.pairwise_cons] at hl hm
    have e : x = y := by
      rcases List.mem_cons.mp ((h x).mp List.mem_cons_self) with e | e
      · exact e
      · rcases List.mem_cons.mp ((h y).mpr List.mem_cons_self) with e2 | e2
        · exact e2.symm
        · exact absurd (hm.1 x e) (ltT_asy (hl.1 y e2))
    subst e
    have t : l = m := ties_ext hl.2 hm.2 fun v => ⟨fun hv => by
      rcases List.mem_cons.mp ((h v).mp (List.mem_cons_of_mem _ hv)) with e | e
      · subst e
        exact absurd (hl.1 _ hv) ltT_irr
      · exact e, fun hv => by
      rcases List.mem_cons.mp ((h v).mpr (List.mem_cons_of_mem _ hv)) with e | e
      · subst e
        exact absurd (hm.1 _ hv) ltT_irr
      · exact e⟩
    rw [t]
theorem rising_chain : ∀ {l : Ties}, (∀ (i : Nat) (s t : Int × Int), l[i]? = some s → l[i + 1]? = some t → ltT s t) → l.Pairwise ltT
  | [], _ => .nil
  | [x], _ => List.pairwise_singleton ..
  | x :: y :: r, h => by
    have ih : (y :: r).Pairwise ltT := rising_chain fun i s t h1 h2 => h (i + 1) s t h1 h2
    have xy : ltT x y := h 0 x y rfl rfl
    refine List.pairwise_cons.mpr ⟨fun z hz => ?_, ih⟩
    rcases List.mem_cons.mp hz with rfl | hz
    · exact xy
    · exact ltT_tr xy ((List.pairwise_cons.mp ih).1 z hz)

end My
namespace My
open PySem PySem.Spec PyProof.Rows L2
/-! ### sorted(set(xs)) of a list of whole numbers -/
def soNew (w : World) : Obj := { cls := .type "set", dict := none, data := .set #[] 0 (.fresh 0 0 (!w.params.followText "set-order")) }

/-! ### () * k -/
theorem tuple_mul0 (l : Addr) (n : Nat) (dd : Option Addr) (sl : Array (Option Value)) (x : Int) (u : Tok) (c0 : (decide (x < -(2 ^ 63)) || decide (x ≥ 2 ^ 63)) = false) :
    Meets (Builtin.«tuple.__mul__» ⟨[.ref l, .int x u], []⟩) (fun _ R s => s.heap.get? l = some { cls := .type "tuple", dict := dd, data := .seq #[] n, slots := sl } ∧ R (.ok (.ret (Value.ref l))) s) :=
  .of_wp fun prog w A R s h => by
    obtain ⟨hp, g, d, tk, os⟩ := s
    obtain ⟨hl, h⟩ := h
    have f1 := AutoSeq1.idx_int
    have c1 : ((#[] : Array Value).isEmpty || x == 1) = true := rfl
    wp_walk using wpAny_loadPart' hl
    repeat (first
      | (refine wpAny_ite_false (decide_eq_false (by rw [c0]; exact Bool.false_ne_true)) ?_; wp_walk using wpAny_loadPart' hl)
      | (refine wpAny_ite_true (decide_eq_true c1) ?_; wp_walk using wpAny_loadPart' hl))
    exact ⟨_, rfl, h⟩
/-- a tuple of any length, two times -/
def rRepA (K : PySem.W.Frag) : R2 := fun x y H Q => ∃ l xs, x = .ref l ∧ y = .int 2 ∧ SqT K H l xs ∧ xs.length ≤ 1000 ∧ (xs = [] → Q (.ref l) H) ∧ (xs ≠ [] → ∀ p, H p = none → Q (.ref p) (upd H p (.tup (xs ++ xs))))
section
variable {X : Cx}
theorem op_repA : OpR X (binaryOp .Mult) (rRepA X.K) := by
  intro pins s σ H x y v u Q I rx ry h
  obtain ⟨l, xs, rfl, rfl, hT, hz, q0, q1⟩ := h
  by_cases e : xs = []
  · subst e
    cases rx
    obtain ⟨t, rfl⟩ := ry
    obtain ⟨its, r, ⟨⟨cls, dd, data, sl⟩, ho, hc, n, hd⟩, hs⟩ := I.tuple hT
    simp only at hc hd
    subst hc hd
    cases r
    refine wpAny_binaryOp_repeat_ref (T := "tuple") (U := "int") (by decide) ⟨_, ho, rfl⟩ (fun s' => typeIs_int s' 2 t) noFill_tuple_mul F.fills_int_mul F.slot_int_rmul repeat_tuple F.slot_int_index.lookup
      (call_meets F.slot_int_rmul (typeIs_int s 2 t) F.entry_int_rmul (F.args_int_rmul_2 _ _) (int_rmul_tuple 2 t l #[] n dd sl)
        ⟨ho, rfl, ⟨_, ho, rfl⟩, call_meets F.slot_tuple_mul ⟨_, ho, rfl⟩ F.entry_tuple_mul (F.args_tuple_mul_2 _ _) (tuple_mul0 l n dd sl 2 t (by decide)) ⟨ho, ?_⟩⟩)
    exact ⟨.ref l, H, I, rfl, q0 rfl⟩
  · refine op_repT pins s σ H _ _ v u Q I rx ry ⟨l, 2, xs, rfl, rfl, hT, e, by decide, by decide, hz, fun p np => ?_⟩
    have z : (List.replicate (2 : Int).toNat xs).flatten = xs ++ xs := by
      show (xs ++ (xs ++ [])) = _
      rw [List.append_nil]
    rw [z]
    exact q1 e p np
end
/-! ### set of a tuple of tuples -/
section
variable {P : Program} {w : World} {A : Around} {E : Value → Shared → Prop} {s : Shared}
theorem call_set_tupsT {l : Addr} {items : Array Value} (ks : List (Addr × List Int)) {Q : Value → Shared → Prop} (hh : A.handled = none) (hl : IsTup s.heap l items) (hit : items.toList = ks.map fun p => Value.ref p.1)
    (hk : ∀ p ∈ ks, IsT P w s.heap p.2 p.1) (hfew : ks.length < 64) (hu : A.units + 3 < cLine)
    (h : ∀ (h' : Heap) (tk : Nat) L es ep t, SetTR P w h' s.heap.objs.size L es ep t → Got ks ks.length L → (∀ b o, s.heap.get? b = some o → h'.get? b = some o) → Q (.ref s.heap.objs.size) { s with heap := h', toks := tk }) :
    wpAny (model P w) A (call (.type "set") [.ref l]) Q E s := by
  have hisz : items.size = ks.length := by
    have q := congrArg List.length hit
    rw [Array.length_toList, List.length_map] at q
    exact q
  obtain ⟨c, tl, hmro⟩ := F.called_set.mro
  have hmade := F.called_set.made
  have hsub := F.called_set.sub
  refine wpAny_call (codeAny_of_tree ?_)
  show wpAny _ _ (callAny (.type "set") _) _ _ _
  refine wpAny_pure ⟨Code.quiet_builtin _ (by decide +kernel), codeAny_builtin F.entry_type_call ?_⟩
  rw [Around.under_plain (weight_type_call_type "set" [.ref l] []) rfl]
  have h1 := F.called_set.notType
  have h2 := F.called_set.canCreate
  have hct := F.typeCall_set_1 (.ref l)
  repeat (any_goals (first | assumption | wp_step))
  refine codeAny_mono (code_set_led1 (.ref l) (E := E) (Q₁ := fun obj s₁ => obj = .ref s.heap.objs.size ∧ s₁ = { s with heap := s.heap.push (soNew w) }) ⟨rfl, rfl⟩) fun r s₁ hr => ?_
  cases r with
  | error e => exact hr
  | ok fl =>
    cases fl with
    | ret obj =>
      obtain ⟨rfl, rfl⟩ := hr
      have hS : (s.heap.push (soNew w)).get? s.heap.objs.size = some (soNew w) := Heap.get?_push_size _ rfl
      have hT : Shared.TypeIs { s with heap := s.heap.push (soNew w) } (.ref s.heap.objs.size) "set" := ⟨_, hS, rfl⟩
      have hli := F.called_set.init.lookup
      have hbi := F.called_set.init.bind (.ref s.heap.objs.size)
      repeat (any_goals (first | assumption | wp_step))
      refine codeAny_mono (codeAny_call_builtin (R := wants (fun r s₂ => r = .none ∧ ∃ h' tk L es ep t, s₂ = { s with heap := h', toks := tk } ∧ SetTR P w h' s.heap.objs.size L es ep t ∧ Got ks ks.length L ∧
          (∀ b o, s.heap.get? b = some o → h'.get? b = some o)) E) F.called_set.init.plain F.entry_set_init (check_set_init_1 hT ?_)) fun r₂ s₂ hr₂ => ?_
      · obtain ⟨ol, hol, hcl, nl, hdl⟩ := hl
        obtain ⟨ocls, odict, odata, oslots⟩ := ol
        simp only at hcl hdl
        subst hcl; subst hdl
        have hol' : (s.heap.push (soNew w)).get? l = some { cls := .type "tuple", dict := odict, data := .seq items nl, slots := oslots } := Heap.get?_push_of_some _ hol
        have hsls := F.sub_tuple_set
        have hslf := F.sub_tuple_frozenset
        have hne : (Value.type "tuple" == Value.type "dict") = false := by decide
        have hl1 : IsTup (s.heap.push (soNew w)) l items := ⟨_, hol', rfl, nl, rfl⟩
        unfold Builtin.«set.__init__» noKeywords Builtin.Frozenset.updateFrom
        generalize hPI : pyIter = PI
        wp_walk
        subst hPI
        refine wpAny_pyIter_tuple hl1 ?_
        refine wpAny_bind (wpAny_runValue ?_)
        have hlS : l < s.heap.objs.size := Heap.lt_size hol
        have hh3 : A.in1.in1.in1.handled = none := by simp [hh]
        have hz1 : (s.heap.push (soNew w)).objs.size = s.heap.objs.size + 1 := Heap.size_push ..
        have hneI : l ≠ (s.heap.push (soNew w)).objs.size := by
          rw [Heap.size_push]; exact Nat.ne_of_lt (Nat.lt_succ_of_lt hlS)
        have hSf : s.heap.objs.size ∉ [(s.heap.push (soNew w)).objs.size, l] := by
          rw [Heap.size_push]; simp only [List.mem_cons, List.mem_singleton, List.not_mem_nil, or_false, not_or]
          exact ⟨Nat.ne_of_lt (Nat.lt_succ_self _), Nat.ne_of_gt hlS⟩
        have hval : ∀ (i : Nat) (v : Value), items[i]? = some v → ∃ p, ks[i]? = some p ∧ v = .ref p.1 := fun i v hv => by
          have q : items.toList[i]? = some v := by rw [Array.getElem?_toList]; exact hv
          rw [hit, List.getElem?_map] at q
          cases hq : ks[i]? with
          | none => rw [hq] at q; cases q
          | some p =>
            rw [hq] at q
            exact ⟨p, rfl, (Option.some.inj q).symm⟩
        have none_of : ∀ b, s.heap.objs.size ≤ b → s.heap.get? b = none := fun b hb => by
          cases q : s.heap.get? b with
          | none => rfl
          | some o => exact absurd (Nat.lt_of_lt_of_le (Heap.lt_size q) hb) (Nat.lt_irrefl _)
        refine set_update_tups ((Walks.tuple hh3 _ l hneI items).toS) s.heap.objs.size
          hSf ks hisz hfew hval s.heap hk (none_of _ (Nat.le_refl _)) (fun b hb => none_of b (by
            rw [List.mem_singleton.mp hb, Heap.size_push]
            exact Nat.le_succ _)) hu (items.size - 0) 0 _ (by omega) (Nat.zero_le _)
          ⟨⟨_, Heap.get?_push_size _ rfl, rfl, rfl⟩, (hl1.push _)⟩ (fun b o e => Heap.get?_push_of_some _ (Heap.get?_push_of_some _ e)) ?hS0 ?hR
        case hS0 =>
          have hget := Heap.get?_push_of_some { cls := .type "tuple_iterator", data := .fields #[.ref l, .int 0 0] } hS
          exact ⟨[], #[], 0, _, setTR_fresh hget, Got.zero ks⟩
        case hR =>
          intro s' L es ep t hm hS' g' hkp
          obtain ⟨h', g2, d', tk', os'⟩ := s'
          have eg : g2 = s.gens := hm.gens
          have ed : d' = s.drawn := hm.drawn
          have eo : os' = s.os := hm.os
          subst eg; subst ed; subst eo
          show wpAny _ _ _ _ _ _
          refine wpAny_pure ?_
          show wpAny _ _ (ret Value.none) _ _ _
          rw [hisz] at g'
          exact wpAny_pure ⟨rfl, h', tk', L, es, ep, t, rfl, hS', g', hkp⟩
      · cases r₂ with
        | error e => exact hr₂
        | ok fl₂ =>
          cases fl₂ with
          | ret r =>
            obtain ⟨rfl, h', tk, L, es, ep, t, rfl, hS', g', hk'⟩ := hr₂
            repeat (any_goals (first | assumption | wp_step))
            exact h _ _ _ _ _ _ hS' g' hk'
          | _ => exact hr₂.elim
    | _ => exact hr.elim
end

end My
namespace My
open PySem PySem.Spec PyProof.Rows L2
/-! ### in a tuple of texts: data, or a dict -/
theorem str_eq_declines_dict (b : Str) (u : Tok) (l : Addr) (es : Array DictEntry) (n : Nat) (dd : Option Addr) (sl : Array (Option Value)) :
    PySem.Meets (Builtin.«str.__eq__» ⟨[.str b u, .ref l], []⟩) (fun _ R s => s.heap.get? l = some { cls := .type "dict", dict := dd, data := .dict es n, slots := sl } ∧ R (.ok (.ret .notImplemented)) s) :=
  .of_wp fun prog w A R s h => by obtain ⟨hp, g, d, tk, os⟩ := s; obtain ⟨hl, h⟩ := h; wp_walk using PySem.AutoSeq1.wpAny_loadPart' hl, wpAny_load hl; exact ⟨_, rfl, h⟩
theorem dict_eq_declines_str (l : Addr) (es : Array DictEntry) (n : Nat) (dd : Option Addr) (sl : Array (Option Value)) (b : Str) (u : Tok) :
    PySem.Meets (Builtin.«dict.__eq__» ⟨[.ref l, .str b u], []⟩) (fun _ R s => s.heap.get? l = some { cls := .type "dict", dict := dd, data := .dict es n, slots := sl } ∧ R (.ok (.ret .notImplemented)) s) :=
  .of_wp fun prog w A R s h => by obtain ⟨hp, g, d, tk, os⟩ := s; obtain ⟨hl, h⟩ := h; have f1 := F.sub_str_dict; wp_walk using PySem.AutoSeq1.wpAny_loadPart' hl, wpAny_load hl; exact ⟨_, rfl, h⟩
theorem rc_str_dict {A : Around} {s : Shared} {l : Addr} {o : Obj} {es : Array DictEntry} {n : Nat} (b : Str) (u : Tok) (ho : s.heap.get? l = some o) (hc : o.cls = .type "dict") (hd : o.data = .dict es n) (hu : A.units < cLine) : PySem.SeqAt.RcAt A s (.str b u) (.ref l) false := fun prog w E Q h => by
  obtain ⟨cls, dd, data, sl⟩ := o
  simp only at hc hd
  subst hc hd
  exact PySem.SeqAt.rc_eq_decline_or (k := false) (typeIs_str s b u) ⟨_, ho, rfl⟩ (by decide) F.sub_dict_str F.slot_str_eq F.slot_dict_eq_refl
    (fun _ hq => call_meets F.slot_str_eq (typeIs_str s b u) F.entry_str_eq (F.args_str_eq_2 _ _) (str_eq_declines_dict b u l es n dd sl) ⟨ho, hq⟩)
    (fun _ hq => call_meets F.slot_dict_eq_refl ⟨_, ho, rfl⟩ F.entry_dict_eq (F.args_dict_eq_2 _ _) (dict_eq_declines_str l es n dd sl b u) ⟨ho, hq⟩)
    (fun _ hq => wpAny_of_eq (rfl : isSame (.str b u) (.ref l) = pure false) hq) (.inr hu) h
theorem eq_str_dict {A : Around} {s : Shared} {l : Addr} {o : Obj} {es : Array DictEntry} {n : Nat} (b : Str) (u : Tok) (ho : s.heap.get? l = some o) (hc : o.cls = .type "dict") (hd : o.data = .dict es n) (hu : A.units < cLine) : PySem.SeqAt.EqAt A s (.str b u) (.ref l) false := fun prog w E Q h => by
  unfold eqBool
  refine wpAny_holding ?_
  refine wpAny_ite_split (fun hab => absurd (eq_of_beq hab) nofun) (fun _ => ?_)
  exact wpAny_bind (rc_str_dict b u ho hc hd hu prog w E _ (wpAny_truthy_bool h))
def rInX (K : PySem.W.Frag) : R2 := fun x y H Q => (∃ d ds, Dp K H x d ∧ Dp K H y (.tuple ds) ∧ SeqAt.shaped d = true ∧ SeqAt.shaped (.tuple ds) = true ∧ Q (.bl (ds.any fun z => PyData.eqv z d)) H) ∨
  (∃ a kvs b, ∃ ss : List Str, x = .ref a ∧ y = .ref b ∧ H a = some (.dK kvs) ∧ SqT K H b (ss.map V.str) ∧ Q (.bl false) H)
theorem vals_strs : ∀ {ss : List Str} {us : List Value}, Vals (ss.map V.str) us → ∀ u ∈ us, ∃ z t, u = .str z t
  | [], _, .nil, _, m => nomatch m
  | _ :: ss, _, .cons r k, u, m => by
    obtain ⟨t, rfl⟩ := r
    rcases List.mem_cons.mp m with rfl | m
    · exact ⟨_, _, rfl⟩
    · exact vals_strs k u m
theorem op_inX {X : Cx} (hu : X.A.units + 65 < cLine) : OpR X (compareOp .In) (rInX X.K) := by
  intro pins s σ H x y v u Q I rx ry h
  rcases h with ⟨d, ds, hd, he, sd, se, q⟩ | ⟨a, kvs, b, ss, rfl, rfl, ha, hb, q⟩
  · obtain ⟨as, z1⟩ := Dp.reads I d x v hd rx
    obtain ⟨bs, z2⟩ := Dp.reads I (.tuple ds) y u he ry
    exact SeqAt.in_tuple_reads z2 z1 (SeqAt.canLay_of_shaped se) (SeqAt.canLay_of_shaped sd) (PyProof.Rows.room_in_shaped sd hu) ⟨.bl _, H, I, rfl, q⟩
  · cases rx
    cases ry
    obtain ⟨_, _, vs, _, o, es, ep, h1, h2, h3, _⟩ := dk_of I.hok ha
    obtain ⟨its2, r2, p2, _⟩ := I.tuple hb
    have st := vals_strs r2
    refine SeqAt.in_tupleAt (fun _ => false) p2 (fun y my => ?_) ⟨.bl false, H, I, ?_, q⟩
    · obtain ⟨z, t, rfl⟩ := st y (by simpa using my)
      exact eq_str_dict z t h1 h2.1 h3 (by show X.A.units + 1 < cLine; omega)
    · show Value.bool _ = Value.bool false
      congr 1
      rw [Bool.eq_false_iff]
      intro z
      obtain ⟨_, _, e⟩ := Array.any_eq_true'.mp z
      cases e

/-! ### sorted of a dict's keys, of a tuple: ints, any number of them -/
section
variable {X : Cx}
theorem call_sortedDX (hcalm : X.calm = true) : CallR X (.builtin "sorted") (fun xs H Q => ∃ (a : Addr) (kvs : List (Key × V)) (ks : List Int), xs = [.ref a] ∧ Rd H a (.dK kvs) ∧ kvs.map (·.1) = ks.map Sum.inl ∧ ks.length ≤ 100000 ∧
    ∀ (ys : List Int) (p : Addr), ys.Perm ks → ys.Pairwise (· ≤ ·) → H p = none → Q (.ref p) (upd H p (.lst (ys.map V.int)))) := by
  intro pins s σ H xs us Q I r q
  obtain ⟨a, kvs, ks, ex, hd, hks, hz, q⟩ := q
  subst ex
  obtain ⟨u, eu, rx⟩ := vals1 r
  subst eu
  cases rx
  obtain ⟨z, lo, vs, rel, dd⟩ := dk_rd I.hok hd
  obtain ⟨ep, hat⟩ := dd.dictAt
  have hkeys : vs.map (·.1) = ks.map Sum.inl := rel.keys.symm.trans hks
  have hl : vs.length = ks.length := by
    have e := congrArg List.length hkeys
    rw [List.length_map, List.length_map] at e
    exact e
  refine Calls.call_function_entry PyProof.Rows.kind_sorted PyProof.Rows.plain_sorted PyProof.Rows.entry_sorted (PyProof.Rows.args_sorted1 _) ?_
  unfold Builtin.«sorted»
  refine wpAny_bind (m := checkCount "sorted" 1 1 _) (wpAny_pure ?_)
  refine wpAny_bind (PySem.W.kdu_collect (A := X.A.in1) (PySem.W.kdl_dict (knd := mixKind X.prog X.w) (kvs := vs) (ep := ep) lo) (I.ok.hd hcalm) hat (by rw [hl]; exact sz hz) fun h' tk acc hk hacc => ?_)
  have hal : acc.toList.length = ks.length := by rw [Array.length_toList, hacc.1, hl]
  have hS : PyProof.Rows.IntsAre acc.toList ks := ints_each hal fun j v e => by
    obtain ⟨k, x, e1, e2⟩ := hacc.2 j v (by rw [← Array.getElem?_toList]; exact e)
    have e3 : (vs.map (·.1))[j]? = some k := by rw [List.getElem?_map, e1]; rfl
    rw [hkeys, List.getElem?_map] at e3
    cases e4 : ks[j]? with
    | none => rw [e4] at e3; cases e3
    | some y =>
      rw [e4] at e3
      have e5 : Sum.inl y = k := Option.some.inj e3
      subst e5
      rcases keyIs_shape (show keyIs (Sum.inl y) v = true from e2) with ⟨i, t, ek, ev⟩ | ⟨z, t, ek, ev⟩
      · cases ek
        exact ⟨y, t, rfl, ev⟩
      · cases ek
  have I1 : Inv X pins σ H { s with heap := h', toks := tk } := I.kept hk
  refine wpAny_bind (wpAny_newList ?_ (by rw [hal]; exact sz hz))
  have hoL : (h'.push (seqObj "list" acc.toList.toArray 0)).get? h'.objs.size = some (seqObj "list" acc.toList.toArray 0) := Heap.get?_push_size _ rfl
  show wpAny _ _ _ _ _ { s with heap := h'.push (seqObj "list" acc.toList.toArray 0), toks := tk }
  refine wpAny_bind (wpAny_holding (wpAny_call_entry PyProof.Rows.slot_list_sort ⟨_, hoL, rfl⟩ PyProof.Rows.entry_list_sort
    (SrtO.list_sort_ord (s := { s with heap := h'.push (seqObj "list" acc.toList.toArray 0), toks := tk }) SrtO.swo_int hoL (by rw [hal]; exact sz hz) (fun h2 => SrtO.ints_sortable hS h2) fun out h1 h2 => ⟨_, rfl, ?_⟩) (PyProof.Rows.args_list_sort _)))
  obtain ⟨k1, k2, k3⟩ := SrtO.ints_out hS h1 h2
  obtain ⟨e', he'⟩ := PyProof.Rows.sortedHeap_at (vs := acc.toList) (out := out.toArray) hoL
  have hlen : ((out.map SrtO.iv).map V.int).length ≤ sizeLine := by
    rw [List.length_map, k2.length_eq]
    exact sz hz
  refine wpAny_pure ⟨_, rfl, .ref h'.objs.size, upd H h'.objs.size (.lst ((out.map SrtO.iv).map V.int)), I1.laid (t' := tk) (fun b u e => ?_) (Nat.le_refl _)
    (show ObjOk X.prog X.w _ _ _ (.lst ((out.map SrtO.iv).map V.int)) from ⟨hlen, out, e', vals_of_ints k1, he'⟩), rfl, q _ _ k2 k3 (I1.hok.fresh (Nat.le_refl _))⟩
  have hb : b < h'.objs.size := Heap.lt_size e
  rw [PyProof.Rows.sortedHeap_old (Nat.ne_of_lt hb) (by rw [size_push']; exact Nat.lt_succ_of_lt hb)]
  exact Heap.get?_push_of_some _ e
end

/-! ### dict(xs) of a list of pairs whose keys are tuples of whole numbers, the values all True -/
section
variable {κ : Type} [DecidableEq κ]
theorem atKey_mem {xs : List (κ × Addr × Value)} {k : κ} : (atKey xs k).isSome = decide (k ∈ xs.map (·.1)) := by
  induction xs with
  | nil => rfl
  | cons x r ih =>
    unfold atKey at ih ⊢
    rw [List.find?_cons]
    by_cases e : x.1 = k
    · simp [e]
    · have e' : ¬ k = x.1 := fun z => e z.symm
      simp only [e, decide_false]
      rw [ih]
      simp [e']
theorem storedH_keys (xs : List (κ × Addr × Value)) (k : κ) (a : Addr) (v : Value) (j : κ) : j ∈ (storedH xs k a v).map (·.1) ↔ j ∈ xs.map (·.1) ∨ j = k := by
  unfold storedH
  by_cases h : (atKey xs k).isSome = true
  · rw [if_pos h, List.map_map]
    have e : ((fun x : κ × Addr × Value => x.1) ∘ putAt k v) = fun x : κ × Addr × Value => x.1 := by
      funext x
      show (putAt k v x).1 = x.1
      unfold putAt
      split <;> rfl
    rw [e]
    refine ⟨.inl, fun z => z.elim id fun z => ?_⟩
    subst z
    rw [atKey_mem] at h
    exact of_decide_eq_true h
  · rw [if_neg h, List.map_append, List.mem_append]
    exact ⟨fun z => z.imp id fun z => List.mem_singleton.mp z, fun z => z.imp id fun z => List.mem_singleton.mpr z⟩
theorem storedAll_keys : ∀ (ps xs : List (κ × Addr × Value)) (j : κ), j ∈ (storedAllH xs ps).map (·.1) ↔ j ∈ xs.map (·.1) ∨ j ∈ ps.map (·.1)
  | [], xs, j => ⟨.inl, fun z => z.elim id fun z => nomatch z⟩
  | p :: ps, xs, j => by
    show j ∈ (storedAllH (storedH xs p.1 p.2.1 p.2.2) ps).map (·.1) ↔ _
    rw [storedAll_keys ps, storedH_keys, List.map_cons, List.mem_cons, or_assoc]
theorem storedAll_vals {u : Value} : ∀ {ps xs : List (κ × Addr × Value)}, (∀ x ∈ xs, x.2.2 = u) → (∀ x ∈ ps, x.2.2 = u) → ∀ x ∈ storedAllH xs ps, x.2.2 = u
  | [], _, h, _ => h
  | p :: ps, xs, h, hp => storedAll_vals (ps := ps) (fun x hx => by
      have hx : x ∈ storedH xs p.1 p.2.1 p.2.2 := hx
      unfold storedH at hx
      split at hx
      · obtain ⟨y, hy, rfl⟩ := List.mem_map.mp hx
        unfold putAt
        split
        · exact hp p List.mem_cons_self
        · exact h y hy
      · rcases List.mem_append.mp hx with hx | hx
        · exact h x hx
        · rw [List.mem_singleton.mp hx]
          exact hp p List.mem_cons_self) fun x hx => hp x (List.mem_cons_of_mem _ hx)
end
section
variable {X : Cx}
/-- the pairs in the heap -/
def TPairs (H : Hp) (ps : List Addr) (ks : List (List Key)) : Prop := ps.length = ks.length ∧ ∀ (j : Nat) (p : Addr) (k : List Key), ps[j]? = some p → ks[j]? = some k → ∃ b, H p = some (.tup [.ref b, .bl true]) ∧ H b = some (.tup (k.map kV))
theorem call_dictT (hcalm : X.calm = true) (hu : X.A.units + 2 < cLine) : CallR X (.type "dict") (fun xs H Q => ∃ (a : Addr) (ps : List Addr) (ks : List (List Key)), xs = [.ref a] ∧ H a = some (.lst (ps.map V.ref)) ∧ TPairs H ps ks ∧
    ∀ (p : Addr) (out : List (List Key)), out.Nodup → (∀ k, k ∈ out ↔ k ∈ ks) → H p = none → Q (.ref p) (upd H p (.dT (out.map fun k => (k, V.bl true))))) := by
  intro pins s σ H xs us Q I r q
  obtain ⟨a, ps, ks, ex, hq, ⟨hl, hp⟩, q⟩ := q
  subst ex
  obtain ⟨u, eu, rx⟩ := vals1 r
  subst eu
  cases rx
  obtain ⟨z0, its, n0, rv, g0⟩ := (show ObjOk X.prog X.w H s.heap a (.lst (ps.map V.ref)) from I.hok a _ hq)
  have ei := refs_at rv
  subst ei
  rw [List.length_map] at z0
  have hb : ∀ j, j < ps.length → ∃ (p b : Addr) (k : List Key), ps[j]? = some p ∧ ks[j]? = some k ∧ H p = some (.tup [.ref b, .bl true]) ∧ H b = some (.tup (k.map kV)) := fun j hj => by
    have e1 : ps[j]? = some ps[j] := List.getElem?_eq_getElem hj
    have e2 : ks[j]? = some (ks[j]'(hl ▸ hj)) := List.getElem?_eq_getElem _
    obtain ⟨b, h1, h2⟩ := hp j _ _ e1 e2
    exact ⟨_, b, _, e1, e2, h1, h2⟩
  let f : Nat → Addr := fun j => if h : j < ps.length then Classical.choose (Classical.choose_spec (hb j h)) else 0
  have hf : ∀ j, j < ps.length → ∃ (p : Addr) (k : List Key), ps[j]? = some p ∧ ks[j]? = some k ∧ H p = some (.tup [.ref (f j), .bl true]) ∧ H (f j) = some (.tup (k.map kV)) := fun j hj => by
    obtain ⟨k, h1, h2, h3, h4⟩ := Classical.choose_spec (Classical.choose_spec (hb j hj))
    refine ⟨_, k, h1, h2, ?_, ?_⟩
    · show H _ = some (.tup [.ref (if h : j < ps.length then _ else 0), .bl true])
      rw [dif_pos hj]
      exact h3
    · show H (if h : j < ps.length then _ else 0) = _
      rw [dif_pos hj]
      exact h4
  let ks3 : List (List Key × Addr × Value) := (List.range ps.length).map fun j => (ks.getD j [], f j, .bool true)
  let vps : List (Value × Value) := (List.range ps.length).map fun j => (.ref (f j), .bool true)
  have vl : vps.length = ps.length := by simp [vps]
  have kl : ks3.length = ps.length := by simp [ks3]
  have va : ∀ (j : Nat) (k v : Value), vps[j]? = some (k, v) → j < ps.length ∧ k = .ref (f j) ∧ v = .bool true := fun j k v e => by
    have hj : j < ps.length := vl ▸ (List.getElem?_eq_some_iff.mp e).1
    have e2 : vps[j]? = some (.ref (f j), .bool true) := by simp [vps, hj]
    rw [e2] at e
    cases Option.some.inj e
    exact ⟨hj, rfl, rfl⟩
  have ka : ∀ j, j < ps.length → ks3[j]? = some (ks.getD j [], f j, .bool true) := fun j hj => by simp [ks3, hj]
  have km : ∀ x ∈ ks3, x.2.2 = .bool true ∧ H x.2.1 = some (.tup (x.1.map kV)) ∧ x.1 ∈ ks := fun x hx => by
    obtain ⟨j, hj, rfl⟩ := List.mem_map.mp hx
    have hj := List.mem_range.mp hj
    obtain ⟨p, k, _, h2, _, h4⟩ := hf j hj
    have e : ks.getD j [] = k := by rw [List.getD_eq_getElem?_getD, h2]; rfl
    refine ⟨rfl, ?_, ?_⟩
    · show H (f j) = some (.tup ((ks.getD j []).map kV))
      rw [e]
      exact h4
    · show ks.getD j [] ∈ ks
      rw [e]
      exact List.mem_of_getElem? h2
  have ok : PlainSeq "list" s.heap a (ps.map Value.ref).toArray ∧ PairItems s.heap (ps.map Value.ref).toArray (fun j => ps.getD j 0) vps := by
    refine ⟨⟨_, n0, g0, rfl, rfl, rfl⟩, by simp [vl], fun j k v e => ?_⟩
    obtain ⟨hj, rfl, rfl⟩ := va j k v e
    obtain ⟨p, k, h1, _, h3, _⟩ := hf j hj
    have ep : ps.getD j 0 = p := by rw [List.getD_eq_getElem?_getD, h1]; rfl
    dsimp only
    rw [ep]
    refine ⟨by simp [h1], .inl ?_⟩
    obtain ⟨_, us2, rv2, tp⟩ := (show ObjOk X.prog X.w H s.heap p (.tup [.ref (f j), .bl true]) from I.hok p _ h3)
    obtain ⟨u1, u2, e1, r1, r2⟩ := vals2 rv2
    subst e1
    cases r1
    cases r2
    exact tp
  have lt : ∀ x ∈ ks3, x.2.1 < s.heap.objs.size := fun x hx => by
    obtain ⟨_, _, _, o, ho, _⟩ := (show ObjOk X.prog X.w H s.heap x.2.1 (.tup (x.1.map kV)) from I.hok _ _ (km x hx).2.1)
    exact Heap.lt_size ho
  refine call_dict_pairsH (knd := tupleKind (mixKind X.prog X.w)) (ps := ks3) (PairArg.list a (ps.map Value.ref).toArray (fun j => ps.getD j 0) vps) (I.ok.hd hcalm) (tupleKind_room_in1 (A := X.A.in1) (show X.A.units + 1 + 1 < cLine from hu)) ok ⟨by rw [kl, vl], fun i key v e => ?_⟩ (fun h' hk x hx => ?_) (by rw [vl]; exact z0) fun h' tk hd' hk => ?_
  · obtain ⟨hj, rfl, rfl⟩ := va i key v e
    exact ⟨_, _, ka i hj, rfl⟩
  · obtain ⟨o, its, n, h1, h2, h3, h4⟩ := key_of (P := X.prog) (w := X.w) I.hok (km x hx).2.1
    exact ⟨o, its, n, hk _ _ (Nat.ne_of_lt (lt x hx)) (fun z => nomatch z) h1, h2, h3, h4⟩
  · have hm : (s.heap.objs.size == sysModules) = false := beq_eq_false_iff_ne.mpr (Nat.ne_of_gt I.big)
    have fresh : H s.heap.objs.size = none := I.hok.fresh (Nat.le_refl _)
    have hs : ∀ x ∈ storedAllH [] ks3, x.2.2 = .bool true ∧ H x.2.1 = some (.tup (x.1.map kV)) := fun x hx =>
      ⟨storedAll_vals (u := .bool true) (xs := []) (fun _ z => absurd z List.not_mem_nil) (fun y hy => (km y hy).1) x hx, storedAllH_keys (P := fun k a => H a = some (.tup (k.map kV))) (xs := []) (fun _ z => absurd z List.not_mem_nil) (fun y hy => (km y hy).2.1) x hx⟩
    have pr : ∀ {H' : Hp} {l : List (List Key × Addr × Value)}, (∀ x ∈ l, x.2.2 = .bool true ∧ H' x.2.1 = some (.tup (x.1.map kV))) → Paired (fun (p : List Key × V) (q : List Key × Addr × Value) => p.1 = q.1 ∧ H' q.2.1 = some (.tup (p.1.map kV)) ∧ RelV p.2 q.2.2) ((l.map (·.1)).map fun k => (k, V.bl true)) l := by
      intro H' l
      induction l with
      | nil => intro _; exact .nil
      | cons x r ih =>
        intro h
        refine .cons ⟨rfl, (h x List.mem_cons_self).2, ?_⟩ (ih fun y hy => h y (List.mem_cons_of_mem _ hy))
        rw [(h x List.mem_cons_self).1]
        rfl
    obtain ⟨o, es, ep, d1, d2, d3, d4, _, d6⟩ := hd'
    have mem : ∀ k, k ∈ (storedAllH [] ks3).map (·.1) ↔ k ∈ ks := fun k => by
      rw [storedAll_keys]
      constructor
      · rintro (z | z)
        · exact nomatch z
        · obtain ⟨x, hx, rfl⟩ := List.mem_map.mp z
          exact (km x hx).2.2
      · intro z
        obtain ⟨j, hj, e⟩ := List.getElem_of_mem z
        have hj' : j < ps.length := hl ▸ hj
        refine .inr (List.mem_map.mpr ⟨_, List.mem_of_getElem? (ka j hj'), ?_⟩)
        show ks.getD j [] = k
        rw [List.getD_eq_getElem?_getD, List.getElem?_eq_getElem hj, e]
        rfl
    have zl : ((storedAllH [] ks3).map (·.1)).length ≤ sizeLine := by
      rw [List.length_map]
      have := storedAllH_length ks3 ([] : List (List Key × Addr × Value))
      rw [kl] at this
      exact Nat.le_trans this (by rw [List.length_nil, Nat.zero_add]; exact z0)
    refine ⟨.ref s.heap.objs.size, upd H s.heap.objs.size (.dT (((storedAllH [] ks3).map (·.1)).map fun k => (k, V.bl true))), I.laid (t' := tk) (fun b o e => hk b o (fun z => nomatch z) e) (Nat.le_refl _) ?_, rfl, q _ _ d6 mem fresh⟩
    refine ⟨by rw [List.length_map]; exact zl, hm, storedAllH [] ks3, pr fun x hx => ⟨(hs x hx).1, ?_⟩, o, es, ep, d1, d2, d3, d4, d6⟩
    rw [upd_ne (ne_of_none (hs x hx).2 fresh)]
    exact (hs x hx).2
end

/-! ### a list's method within a block -/
theorem mt_countBK {X : Cx} {K : PySem.W.Frag} (hK : X.K = K) : MtR X "list.count" (rCntB K) := by
  subst hK
  exact mt_countB
theorem call_isiK {X : Cx} {K : PySem.W.Frag} (hK : X.K = K) : CallR X (.builtin "isinstance") (rIsi K) := by
  subst hK
  exact call_isi
theorem pe_bmK {X : Cx} {K : PySem.W.Frag} (hK : X.K = K) {o e : Expr} {es : List Expr} {to : TE} {t : TA} {name : Str} {apos cpos : Pos} {T id : String} {r : V → List V → Hp → VK → Prop} (pa : PlainAttrs T) (slot : Slot T name id) (hty : typeOf (.builtin id) = pure (.type "method_descriptor")) (hm : MtR X id r) (ho : PE X o to) (ha : PA X (e :: es) t)
    (hbase : attributeBase o name X.env (eval o X.env) = eval o X.env := by rfl)
    (hfew : ((backTo cpos (starEach (e :: es) X.env)).all (fun x => !x.1) && (backToKw cpos (keywordEach [] X.env)).all (fun x => x.1.isSome)
      && decide ((e :: es).length + ([] : List Keyword).length + (if ([] : List Keyword).isEmpty then 0 else 1) < 30)) = true := by rfl)
    (hline : (apos.endLine == cpos.line) = true := by rfl) (hs : starEach (e :: es) X.env = (false, eval e X.env) :: starEach es X.env := by rfl) (hplain : (backTo cpos (starEach es X.env)).any (·.1) = false := by rfl) :
    PE X (.Call (.Attribute o name apos) (e :: es) [] cpos) (tBM K T r to t) := by
  subst hK
  exact pe_bm pa slot hty hm ho ha hbase hfew hline hs hplain

/-! ### rules within a block, the written part by its own letter -/
theorem ix_tupK {X : Cx} {K : PySem.W.Frag} (hK : X.K = K) : IxR X (rIxT K) := by
  subst hK
  exact ix_tup
theorem ix_listK {X : Cx} {K : PySem.W.Frag} (hK : X.K = K) : IxR X (rIxL K) := by
  subst hK
  exact ix_list
theorem call_len_seqK {X : Cx} {K : PySem.W.Frag} (hK : X.K = K) : CallR X (.builtin "len") (fun xs H Q => ∃ p ys, xs = [.ref p] ∧ (SqL K H p ys ∨ SqT K H p ys) ∧ Q (.int ys.length) H) := by
  subst hK
  exact call_len_seq

/-! ### t[::-1] of a tuple -/
theorem adjust_rev (n : Nat) : Builtin.Slice.sliceAdjust none none (-1) (n : Int) = ((n : Int) - 1, -1) := by
  first
  | rfl
  | (unfold Builtin.Slice.sliceAdjust; simp)
theorem places_rev (n : Nat) : Builtin.Slice.slicePlaces ((n : Int) - 1) (-1) (-1) = n := by
  unfold Builtin.Slice.slicePlaces
  have h1 : ¬ ((-1 : Int) > 0) := by decide
  simp only [h1, if_false]
  by_cases h : (n : Int) - 1 > -1
  · rw [if_pos (by omega)]
    have e : ((n : Int) - 1 - -1 - 1) / (- -1) = (n : Int) - 1 := by
      rw [show (- -1 : Int) = 1 by decide, Int.ediv_one]
      omega
    omega
  · rw [if_neg (by omega)]
    omega
theorem filterMap_ext {α β : Type} {f g : α → Option β} : ∀ {l : List α}, (∀ x ∈ l, f x = g x) → l.filterMap f = l.filterMap g
  | [], _ => rfl
  | x :: l, h => by
    rw [List.filterMap_cons, List.filterMap_cons, h x List.mem_cons_self, filterMap_ext fun y hy => h y (List.mem_cons_of_mem _ hy)]
theorem pick_rev (xs : Array Value) : ((List.range xs.size).filterMap fun (m : Nat) => xs[(((xs.size : Int) - 1) + (m : Int) * (-1)).toNat]?).toArray = xs.toList.reverse.toArray := by
  have e : (List.range xs.size).filterMap (fun (m : Nat) => xs[(((xs.size : Int) - 1) + (m : Int) * (-1)).toNat]?) = ((List.range xs.size).map fun k => xs.size - 1 - k).filterMap (xs[·]?) := by
    rw [List.filterMap_map]
    refine filterMap_ext fun m hm => ?_
    have := List.mem_range.mp hm
    show xs[(((xs.size : Int) - 1) + (m : Int) * (-1)).toNat]? = xs[xs.size - 1 - m]?
    have e2 : (((xs.size : Int) - 1) + (m : Int) * (-1)).toNat = xs.size - 1 - m := by omega
    rw [e2]
  rw [e, PySem.W.krv_range, List.filterMap_reverse, PySem.W.krv_all]
theorem sliceApplied_rev {prog : Program} {w : World} {A : Around} {E : Value → Shared → Prop} {s : Shared} {sl : Addr} {vl vu vs : Value} {n : Nat} {Q : Int × Int × Nat → Shared → Prop} (hs : s.heap.IsSliceOf sl vl vu vs) (pl : PySem.IsPart vl none) (pu : PySem.IsPart vu none) (ps : PySem.IsPart vs (some (-1)))
    (h : Q ((n : Int) - 1, -1, n) s) : wpAny (model prog w) A (Builtin.Slice.sliceApplied (.ref sl) (pure (n : Int))) Q E s := by
  obtain ⟨os, hos, hcs, hds⟩ := id hs
  unfold Builtin.Slice.sliceApplied Builtin.Slice.sliceFields
  refine wpAny_bind (wpAny_bind (wpAny_field hos hds (x := vl) rfl (wpAny_bind (wpAny_field hos hds (x := vu) rfl (wpAny_bind (wpAny_field hos hds (x := vs) rfl (wpAny_pure ?_)))))))
  refine wpAny_bind (HT.slicePart_ ps ?_)
  show wpAny _ _ (if ((-1 : Int) == 0) = true then _ else _) _ _ s
  rw [if_neg (by decide)]
  refine wpAny_bind (HT.slicePart_ pl (wpAny_bind (HT.slicePart_ pu (wpAny_bind (wpAny_pure ?_)))))
  show wpAny _ _ (match Builtin.Slice.sliceAdjust none none (-1) (n : Int) with | (lo, hi) => pure (lo, (-1 : Int), Builtin.Slice.slicePlaces lo hi (-1))) _ _ s
  rw [adjust_rev]
  show wpAny _ _ (pure ((n : Int) - 1, (-1 : Int), Builtin.Slice.slicePlaces ((n : Int) - 1) (-1) (-1))) _ _ s
  rw [places_rev]
  exact wpAny_pure h
theorem getItem_revT {prog : Program} {w : World} {A : Around} {E : Value → Shared → Prop} {s : Shared} {t sl : Addr} {items : Array Value} {vl vu vs : Value} {Q : Value → Shared → Prop} (ht : IsTup s.heap t items) (hs : s.heap.IsSliceOf sl vl vu vs) (pl : PySem.IsPart vl none) (pu : PySem.IsPart vu none) (ps : PySem.IsPart vs (some (-1)))
    (h : Q (.ref s.heap.objs.size) { s with heap := s.heap.push { cls := .type "tuple", data := .seq items.toList.reverse.toArray } }) (hsz : items.size ≤ sizeLine) : wpAny (model prog w) A (getItem (.ref t) (.ref sl)) Q E s := by
  obtain ⟨os, hos, hcs, hds⟩ := id hs
  have hTs : s.TypeIs (.ref sl) "slice" := ⟨os, hos, hcs⟩
  have htake : sizeOk (.seq items.toList.reverse.toArray) := by
    show items.toList.reverse.toArray.size ≤ sizeLine
    rw [List.size_toArray, List.length_reverse, Array.length_toList]
    exact hsz
  unfold getItem
  try with_reducible refine wpAny_holding ?_
  first | refine wpAny_bind (wpAny_pure ?_) | skip
  refine wpAny_bind (wpAny_sequenceKey ht.typeIs (by decide) ?_)
  refine wpAny_bind (wpAny_callSpecial?_slot (name := Str.ofString "__getitem__") ht.typeIs PyProof.Rows.slot_tuple_getitem
    (wpAny_call_entry PyProof.Rows.slot_tuple_getitem ht.typeIs PyProof.Rows.entry_tuple_getitem ?_ (PyProof.Rows.args_tuple_getitem _ _)))
  show wpAny _ _ (Builtin.Tuple.tupleItemsOf (.ref t) >>= _) _ _ s
  refine wpAny_bind (tupleItemsOf_ ht ?_)
  refine wpAny_bind (wpAny_typeOf hTs ?_)
  rw [if_pos (by decide)]
  refine wpAny_bind (sliceApplied_rev hs pl pu ps ?_)
  show wpAny _ _ (if ((((items.size : Int) - 1) == 0) && ((-1 : Int) == 1) && (items.size == items.size)) = true then _ else _) _ _ s
  rw [if_neg (by rw [show ((-1 : Int) == 1) = false from rfl, Bool.and_false, Bool.false_and]; decide), pick_rev]
  first
    | exact wpAny_bind (m := Builtin.Tuple.tupleExact _) (wpAny_newObj_type (wpAny_pure ⟨_, rfl, wpAny_pure h⟩) htake)
    | exact wpAny_bind (m := Builtin.Tuple.tupleExact _) (wpAny_newObj_type (wpAny_bind (wpAny_pure (wpAny_pure ⟨_, rfl, wpAny_pure h⟩))) htake)
    | exact wpAny_bind (wpAny_bind (m := Builtin.Tuple.tupleExact _) (wpAny_newObj_type (wpAny_pure (wpAny_pure ⟨_, rfl, wpAny_pure h⟩)) htake))
    | exact wpAny_bind (wpAny_bind (m := Builtin.Tuple.tupleExact _) (wpAny_newObj_type (wpAny_pure ⟨_, rfl, wpAny_pure h⟩) htake))
section
variable {X : Cx}
def tRevT (K : PySem.W.Frag) (te : TE) : TE := fun σ H Q => te σ H fun x H1 => ∃ a xs, x = .ref a ∧ SqT K H1 a xs ∧ ∀ p, H1 p = none → Q (.ref p) (upd H1 p (.tup xs.reverse))
theorem pe_revT {e : Expr} {te : TE} {k : Nat} {p1 p2 p3 pos : Pos} (he : PE X e te) : PE X (.Subscript e (.Slice none none (some (.UnaryOp .USub (.Constant (.int 1) k p1) p2)) p3) pos) (tRevT X.K te) := by
  refine ⟨fun pins s σ H Q I h => ?_⟩
  refine Subscript_ (thn (he.run pins s σ H _ I h) fun v s1 ⟨x, H1, I1, r1, q1⟩ => ?_)
  obtain ⟨a, xs, ex, hx, q⟩ := q1
  subst ex
  cases r1
  have hst : PO X (some (.UnaryOp .USub (.Constant (.int 1) k p1) p2)) (tPart (tUn (rU fun i => .int (-i)) (tC (.int 1)))) := po_some (pe_un un_neg pe_int)
  refine wpAny_Slice (thn (po_none.run pins s1 σ H1 (fun o H2 => o = none ∧ H2 = H1) I1 ⟨rfl, rfl⟩) fun vl s2 ⟨l, H2, I2, pl, el, e2⟩ => ?_)
  subst el e2
  refine thn (po_none.run pins s2 σ H2 (fun o H3 => o = none ∧ H3 = H2) I2 ⟨rfl, rfl⟩) fun vu s3 ⟨u, H3, I3, pu, eu, e3⟩ => ?_
  subst eu e3
  refine thn (hst.run pins s3 σ H3 (fun o H4 => o = some (-1) ∧ H4 = H3) I3 ⟨1, rfl, -1, rfl, rfl, rfl⟩) fun vs s4 ⟨o, H4, I4, ps, eo, e4⟩ => ?_
  subst eo e4
  have I5 : Inv X pins σ H4 { s4 with heap := s4.heap.push { cls := .type "slice", data := .fields #[vl, vu, vs] } } := I4.kept (t' := s4.toks) fun b ob q => Heap.get?_push_of_some _ q
  obtain ⟨its, r, ht, hz⟩ := I5.tuple hx
  have hlen := r.length
  show wpAny (model X.prog X.w) X.A (subscriptTail e (.Slice none none (some (.UnaryOp .USub (.Constant (.int 1) k p1) p2)) p3) (.ref a) (.ref s4.heap.objs.size)) (EP X pins σ Q) X.xe { s4 with heap := s4.heap.push { cls := .type "slice", data := .fields #[vl, vu, vs] } }
  refine tail_any (ops := [.ref a, .ref s4.heap.objs.size]) ht.typeIs (PyProof.Rows.slot_tuple_getitem.lookup) ?_ (by with_unfolding_all rfl)
  refine getItem_revT ht (Heap.IsSliceOf.new _ vl vu vs) pl pu ps ?_ (by rw [List.size_toArray]; omega)
  refine ⟨.ref _, _, I5.laid (t' := s4.toks) (o := .tup xs.reverse) (fun b ob q => Heap.get?_push_of_some _ q) (Nat.le_refl _) ?_, rfl, q _ (I5.hok.fresh (Nat.le_refl _))⟩
  exact ⟨by rw [List.length_reverse]; exact hz, _, r.reverse, IsTup.new _ _⟩
end

end My
namespace My
open PySem L2

/-! ### the text by places -/
def topS (i : Nat) : Stmt := PySem.Challenge.pw_tiedcut_k02_forests_of_anything.main.body.getD i (.Pass ⟨0, 0, 0, 0⟩)
abbrev s_iswhole : Stmt := topS 1
abbrev s_arewholes : Stmt := topS 2
abbrev s_isrising : Stmt := topS 3
abbrev s_iskind : Stmt := topS 6
abbrev s_isforest : Stmt := topS 7
abbrev s_arepoints : Stmt := topS 8
abbrev s_ispoint : Stmt := topS 9
abbrev s_areties : Stmt := topS 10
abbrev s_istie : Stmt := topS 11
abbrev s_hasring : Stmt := topS 12
abbrev s_topof : Stmt := topS 13
abbrev s_Lbegin : Stmt := topS 15
abbrev s_Lnext : Stmt := topS 16
abbrev s_Lmany : Stmt := topS 17
abbrev s_Lworth : Stmt := topS 18
abbrev s_Lforest : Stmt := topS 19
abbrev s_Lpart : Stmt := topS 20
abbrev s_Lispoint : Stmt := topS 21
abbrev s_Listie : Stmt := topS 22
abbrev s_Lisforest : Stmt := topS 23
abbrev s_Lotherties : Stmt := topS 24
abbrev s_Lotherpoints : Stmt := topS 25
abbrev s_law : Stmt := topS 26
theorem sc_iswhole : FnScope ["thing"] ["thing"] (defScope s_iswhole) := ⟨rfl, rfl, rfl, by decide +kernel, rfl, by decide +kernel, by decide +kernel⟩
theorem sc_arewholes : FnScope ["thing", "part"] ["thing"] (defScope s_arewholes) := ⟨rfl, rfl, rfl, by decide +kernel, rfl, by decide +kernel, by decide +kernel⟩
theorem sc_isrising : FnScope ["row", "low", "high"] ["row"] (defScope s_isrising) := ⟨rfl, rfl, rfl, by decide +kernel, rfl, by decide +kernel, by decide +kernel⟩
theorem sc_iskind : FnScope ["thing"] ["thing"] (defScope s_iskind) := ⟨rfl, rfl, rfl, by decide +kernel, rfl, by decide +kernel, by decide +kernel⟩
theorem sc_isforest : FnScope ["thing", "points", "ties"] ["thing"] (defScope s_isforest) := ⟨rfl, rfl, rfl, by decide +kernel, rfl, by decide +kernel, by decide +kernel⟩
theorem sc_arepoints : FnScope ["thing", "point"] ["thing"] (defScope s_arepoints) := ⟨rfl, rfl, rfl, by decide +kernel, rfl, by decide +kernel, by decide +kernel⟩
theorem sc_ispoint : FnScope ["thing"] ["thing"] (defScope s_ispoint) := ⟨rfl, rfl, rfl, by decide +kernel, rfl, by decide +kernel, by decide +kernel⟩
theorem sc_areties : FnScope ["thing", "many", "tie"] ["thing", "many"] (defScope s_areties) := ⟨rfl, rfl, rfl, by decide +kernel, rfl, by decide +kernel, by decide +kernel⟩
theorem sc_istie : FnScope ["thing", "many"] ["thing", "many"] (defScope s_istie) := ⟨rfl, rfl, rfl, by decide +kernel, rfl, by decide +kernel, by decide +kernel⟩
theorem sc_hasring : FnScope ["ties", "many", "above", "a", "b", "top", "other"] ["ties", "many"] (defScope s_hasring) := ⟨rfl, rfl, rfl, by decide +kernel, rfl, by decide +kernel, by decide +kernel⟩
theorem sc_topof : FnScope ["above", "point"] ["above", "point"] (defScope s_topof) := ⟨rfl, rfl, rfl, by decide +kernel, rfl, by decide +kernel, by decide +kernel⟩
theorem sc_Lbegin : FnScope ["_law_script"] ["_law_script"] (defScope s_Lbegin) := ⟨rfl, rfl, rfl, by decide +kernel, rfl, by decide +kernel, by decide +kernel⟩
theorem sc_Lnext : FnScope ["_law_draws", "_law_many_here", "_law_cell", "_law_digit"] ["_law_draws", "_law_many_here"] (defScope s_Lnext) := ⟨rfl, rfl, rfl, by decide +kernel, rfl, by decide +kernel, by decide +kernel⟩
theorem sc_Lmany : FnScope ["_law_draws", "_law_few", "_law_most"] ["_law_draws", "_law_few", "_law_most"] (defScope s_Lmany) := ⟨rfl, rfl, rfl, by decide +kernel, rfl, by decide +kernel, by decide +kernel⟩
theorem sc_Lworth : FnScope ["_law_draws", "_law_way"] ["_law_draws"] (defScope s_Lworth) := ⟨rfl, rfl, rfl, by decide +kernel, rfl, by decide +kernel, by decide +kernel⟩
theorem sc_Lforest : FnScope ["_law_draws", "_law_most", "_law_many_here", "_law_names", "_law_k", "_law_way", "_law_rare", "_law_ties", "_law_former", "_law_points"] ["_law_draws", "_law_most"] (defScope s_Lforest) := ⟨rfl, rfl, rfl, by decide +kernel, rfl, by decide +kernel, by decide +kernel⟩
theorem sc_Lpart : FnScope ["_law_forest_here", "_law_a", "_law_found", "_law_many_here", "_law_one", "_law_other"] ["_law_forest_here", "_law_a"] (defScope s_Lpart) := ⟨rfl, rfl, rfl, by decide +kernel, rfl, by decide +kernel, by decide +kernel⟩
theorem sc_Lispoint : FnScope ["_law_thing"] ["_law_thing"] (defScope s_Lispoint) := ⟨rfl, rfl, rfl, by decide +kernel, rfl, by decide +kernel, by decide +kernel⟩
theorem sc_Listie : FnScope ["_law_thing", "_law_many_here", "_law_one"] ["_law_thing", "_law_many_here"] (defScope s_Listie) := ⟨rfl, rfl, rfl, by decide +kernel, rfl, by decide +kernel, by decide +kernel⟩
theorem sc_Lisforest : FnScope ["_law_thing", "_law_one", "_law_parts", "_law_point"] ["_law_thing"] (defScope s_Lisforest) := ⟨rfl, rfl, rfl, by decide +kernel, rfl, by decide +kernel, by decide +kernel⟩
theorem sc_Lotherties : FnScope ["_law_draws", "_law_many_here", "_law_ties", "_law_one", "_law_other", "_law_at", "_law_more", "_law_way"] ["_law_draws", "_law_many_here", "_law_ties"] (defScope s_Lotherties) := ⟨rfl, rfl, rfl, by decide +kernel, rfl, by decide +kernel, by decide +kernel⟩
theorem sc_Lotherpoints : FnScope ["_law_draws", "_law_points", "_law_at", "_law_worth_here", "_law_kind", "_law_more", "_law_some"] ["_law_draws", "_law_points"] (defScope s_Lotherpoints) := ⟨rfl, rfl, rfl, by decide +kernel, rfl, by decide +kernel, by decide +kernel⟩
theorem sc_law : FnScope ["_law_script", "_law_draws", "_law_odd", "_law_thing", "_law_turn", "_law_points", "_law_ties", "_law_again", "_law_other", "_law_found"] ["_law_script"] (defScope s_law) := ⟨rfl, rfl, rfl, by decide +kernel, rfl, by decide +kernel, by decide +kernel⟩
/-- what the top has left -/
structure Top (K : PySem.W.Frag) (mg : Str → Option Value) where
  a_iswhole : Addr
  d_iswhole : FuncData
  F_iswhole : Fun K "is_whole" "is_whole" s_iswhole a_iswhole d_iswhole
  b_iswhole : Binds K d_iswhole ["thing"] []
  g_iswhole : mg "is_whole" = some (.ref a_iswhole)
  a_arewholes : Addr
  d_arewholes : FuncData
  F_arewholes : Fun K "are_wholes" "are_wholes" s_arewholes a_arewholes d_arewholes
  b_arewholes : Binds K d_arewholes ["thing"] []
  g_arewholes : mg "are_wholes" = some (.ref a_arewholes)
  a_isrising : Addr
  d_isrising : FuncData
  F_isrising : Fun K "is_rising" "is_rising" s_isrising a_isrising d_isrising
  b_isrising : Binds K d_isrising ["row"] []
  g_isrising : mg "is_rising" = some (.ref a_isrising)
  a_iskind : Addr
  d_iskind : FuncData
  F_iskind : Fun K "is_kind" "is_kind" s_iskind a_iskind d_iskind
  b_iskind : Binds K d_iskind ["thing"] []
  g_iskind : mg "is_kind" = some (.ref a_iskind)
  a_isforest : Addr
  d_isforest : FuncData
  F_isforest : Fun K "is_forest" "is_forest" s_isforest a_isforest d_isforest
  b_isforest : Binds K d_isforest ["thing"] []
  g_isforest : mg "is_forest" = some (.ref a_isforest)
  a_arepoints : Addr
  d_arepoints : FuncData
  F_arepoints : Fun K "are_points" "are_points" s_arepoints a_arepoints d_arepoints
  b_arepoints : Binds K d_arepoints ["thing"] []
  g_arepoints : mg "are_points" = some (.ref a_arepoints)
  a_ispoint : Addr
  d_ispoint : FuncData
  F_ispoint : Fun K "is_point" "is_point" s_ispoint a_ispoint d_ispoint
  b_ispoint : Binds K d_ispoint ["thing"] []
  g_ispoint : mg "is_point" = some (.ref a_ispoint)
  a_areties : Addr
  d_areties : FuncData
  F_areties : Fun K "are_ties" "are_ties" s_areties a_areties d_areties
  b_areties : Binds K d_areties ["thing", "many"] []
  g_areties : mg "are_ties" = some (.ref a_areties)
  a_istie : Addr
  d_istie : FuncData
  F_istie : Fun K "is_tie" "is_tie" s_istie a_istie d_istie
  b_istie : Binds K d_istie ["thing", "many"] []
  g_istie : mg "is_tie" = some (.ref a_istie)
  a_hasring : Addr
  d_hasring : FuncData
  F_hasring : Fun K "has_ring" "has_ring" s_hasring a_hasring d_hasring
  b_hasring : Binds K d_hasring ["ties", "many"] []
  g_hasring : mg "has_ring" = some (.ref a_hasring)
  a_topof : Addr
  d_topof : FuncData
  F_topof : Fun K "top_of" "top_of" s_topof a_topof d_topof
  b_topof : Binds K d_topof ["above", "point"] []
  g_topof : mg "top_of" = some (.ref a_topof)
  a_Lbegin : Addr
  d_Lbegin : FuncData
  F_Lbegin : Fun K "_law_begin" "_law_begin" s_Lbegin a_Lbegin d_Lbegin
  b_Lbegin : Binds K d_Lbegin ["_law_script"] []
  g_Lbegin : mg "_law_begin" = some (.ref a_Lbegin)
  a_Lnext : Addr
  d_Lnext : FuncData
  F_Lnext : Fun K "_law_next" "_law_next" s_Lnext a_Lnext d_Lnext
  b_Lnext : Binds K d_Lnext ["_law_draws", "_law_many_here"] []
  g_Lnext : mg "_law_next" = some (.ref a_Lnext)
  a_Lmany : Addr
  d_Lmany : FuncData
  F_Lmany : Fun K "_law_many" "_law_many" s_Lmany a_Lmany d_Lmany
  b_Lmany : Binds K d_Lmany ["_law_draws", "_law_few", "_law_most"] []
  g_Lmany : mg "_law_many" = some (.ref a_Lmany)
  a_Lworth : Addr
  d_Lworth : FuncData
  F_Lworth : Fun K "_law_worth" "_law_worth" s_Lworth a_Lworth d_Lworth
  b_Lworth : Binds K d_Lworth ["_law_draws"] []
  g_Lworth : mg "_law_worth" = some (.ref a_Lworth)
  a_Lforest : Addr
  d_Lforest : FuncData
  F_Lforest : Fun K "_law_forest" "_law_forest" s_Lforest a_Lforest d_Lforest
  b_Lforest : Binds K d_Lforest ["_law_draws", "_law_most"] []
  g_Lforest : mg "_law_forest" = some (.ref a_Lforest)
  a_Lpart : Addr
  d_Lpart : FuncData
  F_Lpart : Fun K "_law_part" "_law_part" s_Lpart a_Lpart d_Lpart
  b_Lpart : Binds K d_Lpart ["_law_forest_here", "_law_a"] []
  g_Lpart : mg "_law_part" = some (.ref a_Lpart)
  a_Lispoint : Addr
  d_Lispoint : FuncData
  F_Lispoint : Fun K "_law_is_point" "_law_is_point" s_Lispoint a_Lispoint d_Lispoint
  b_Lispoint : Binds K d_Lispoint ["_law_thing"] []
  g_Lispoint : mg "_law_is_point" = some (.ref a_Lispoint)
  a_Listie : Addr
  d_Listie : FuncData
  F_Listie : Fun K "_law_is_tie" "_law_is_tie" s_Listie a_Listie d_Listie
  b_Listie : Binds K d_Listie ["_law_thing", "_law_many_here"] []
  g_Listie : mg "_law_is_tie" = some (.ref a_Listie)
  a_Lisforest : Addr
  d_Lisforest : FuncData
  F_Lisforest : Fun K "_law_is_forest" "_law_is_forest" s_Lisforest a_Lisforest d_Lisforest
  b_Lisforest : Binds K d_Lisforest ["_law_thing"] []
  g_Lisforest : mg "_law_is_forest" = some (.ref a_Lisforest)
  a_Lotherties : Addr
  d_Lotherties : FuncData
  F_Lotherties : Fun K "_law_other_ties" "_law_other_ties" s_Lotherties a_Lotherties d_Lotherties
  b_Lotherties : Binds K d_Lotherties ["_law_draws", "_law_many_here", "_law_ties"] []
  g_Lotherties : mg "_law_other_ties" = some (.ref a_Lotherties)
  a_Lotherpoints : Addr
  d_Lotherpoints : FuncData
  F_Lotherpoints : Fun K "_law_other_points" "_law_other_points" s_Lotherpoints a_Lotherpoints d_Lotherpoints
  b_Lotherpoints : Binds K d_Lotherpoints ["_law_draws", "_law_points"] []
  g_Lotherpoints : mg "_law_other_points" = some (.ref a_Lotherpoints)
  a_law : Addr
  d_law : FuncData
  F_law : Fun K "law" "law" s_law a_law d_law
  b_law : Binds K d_law ["_law_script"] []
  g_law : mg "law" = some (.ref a_law)
  m_all : mg "all" = none
  m_bool : mg "bool" = none
  m_dict : mg "dict" = none
  m_int : mg "int" = none
  m_isinstance : mg "isinstance" = none
  m_len : mg "len" = none
  m_list : mg "list" = none
  m_max : mg "max" = none
  m_min : mg "min" = none
  m_range : mg "range" = none
  m_set : mg "set" = none
  m_sorted : mg "sorted" = none
  m_str : mg "str" = none
  m_tuple : mg "tuple" = none
  m_zip : mg "zip" = none
  aK : Addr
  v_KINDS : mg "KINDS" = some (.ref aK)
  tK : tupB K aK kinds = true
  cA : Addr
  PA : Addr
  hcA : d_arewholes.code = .ref cA
  cR : Addr
  PR : Addr
  hcR : d_isrising.code = .ref cR
  cY : Addr
  PY : Addr
  hcY : d_areties.code = .ref cY
  cZ : Addr
  PZ : Addr
  hcZ : d_arepoints.code = .ref cZ
  neP : ([PA, PR, PY, PZ] : List Addr).Nodup
end My
namespace My
open PySem L2
/-! ### the store of draws -/
def kv (c : Addr) (a l s : Int) : List (Key × V) := [(Sum.inr "cells", .ref c), (Sum.inr "at", .int a), (Sum.inr "left", .int l), (Sum.inr "seed", .int s)]
theorem m1 : ¬ (("cells" : Str) = "at") := by decide +kernel
theorem n1 : ¬ ((Sum.inr ("cells" : Str) : Key) = Sum.inr ("at" : Str)) := fun e => m1 (Sum.inr.inj e)
theorem m2 : ¬ (("cells" : Str) = "left") := by decide +kernel
theorem n2 : ¬ ((Sum.inr ("cells" : Str) : Key) = Sum.inr ("left" : Str)) := fun e => m2 (Sum.inr.inj e)
theorem m3 : ¬ (("cells" : Str) = "seed") := by decide +kernel
theorem n3 : ¬ ((Sum.inr ("cells" : Str) : Key) = Sum.inr ("seed" : Str)) := fun e => m3 (Sum.inr.inj e)
theorem m4 : ¬ (("at" : Str) = "left") := by decide +kernel
theorem n4 : ¬ ((Sum.inr ("at" : Str) : Key) = Sum.inr ("left" : Str)) := fun e => m4 (Sum.inr.inj e)
theorem m5 : ¬ (("at" : Str) = "seed") := by decide +kernel
theorem n5 : ¬ ((Sum.inr ("at" : Str) : Key) = Sum.inr ("seed" : Str)) := fun e => m5 (Sum.inr.inj e)
theorem m6 : ¬ (("left" : Str) = "seed") := by decide +kernel
theorem n6 : ¬ ((Sum.inr ("left" : Str) : Key) = Sum.inr ("seed" : Str)) := fun e => m6 (Sum.inr.inj e)
theorem m7 : ¬ (("seed" : Str) = "left") := by decide +kernel
theorem n7 : ¬ ((Sum.inr ("seed" : Str) : Key) = Sum.inr ("left" : Str)) := fun e => m7 (Sum.inr.inj e)
theorem m8 : ¬ (("seed" : Str) = "at") := by decide +kernel
theorem n8 : ¬ ((Sum.inr ("seed" : Str) : Key) = Sum.inr ("at" : Str)) := fun e => m8 (Sum.inr.inj e)
theorem m9 : ¬ (("left" : Str) = "at") := by decide +kernel
theorem n9 : ¬ ((Sum.inr ("left" : Str) : Key) = Sum.inr ("at" : Str)) := fun e => m9 (Sum.inr.inj e)
section
variable {H : Hp} {d c : Addr} {a l s : Int}
theorem g_cells (h : H d = some (.dK (kv c a l s))) : DGet H d (.str "cells") (some (.ref c)) := by
  have q := DGet.k (k := (Sum.inr "cells" : Key)) h
  unfold kv at q
  rw [valV_pos rfl] at q
  exact q
theorem g_at (h : H d = some (.dK (kv c a l s))) : DGet H d (.str "at") (some (.int a)) := by
  have q := DGet.k (k := (Sum.inr "at" : Key)) h
  unfold kv at q
  rw [valV_neg n1, valV_pos rfl] at q
  exact q
theorem g_left (h : H d = some (.dK (kv c a l s))) : DGet H d (.str "left") (some (.int l)) := by
  have q := DGet.k (k := (Sum.inr "left" : Key)) h
  unfold kv at q
  rw [valV_neg n2, valV_neg n4, valV_pos rfl] at q
  exact q
theorem g_seed (h : H d = some (.dK (kv c a l s))) : DGet H d (.str "seed") (some (.int s)) := by
  have q := DGet.k (k := (Sum.inr "seed" : Key)) h
  unfold kv at q
  rw [valV_neg n3, valV_neg n5, valV_neg n6, valV_pos rfl] at q
  exact q
theorem small4 : (kv c a l s).length < sizeLine := by
  show 4 < sizeLine
  decide
theorem p_at (h : H d = some (.dK (kv c a l s))) (x : Int) : DPut H d (.str "at") (.int x) (upd H d (.dK (kv c x l s))) := by
  have q := DPut.k (k := (Sum.inr "at" : Key)) (v := .int x) h small4
  have e : putK (kv c a l s) (Sum.inr "at" : Key) (.int x) = kv c x l s := by
    simp [putK, kv, m1, m9, m8]
  rw [e] at q
  exact q
theorem p_left (h : H d = some (.dK (kv c a l s))) (x : Int) : DPut H d (.str "left") (.int x) (upd H d (.dK (kv c a x s))) := by
  have q := DPut.k (k := (Sum.inr "left" : Key)) (v := .int x) h small4
  have e : putK (kv c a l s) (Sum.inr "left" : Key) (.int x) = kv c a x s := by
    simp [putK, kv, m2, m4, m7]
  rw [e] at q
  exact q
theorem p_seed (h : H d = some (.dK (kv c a l s))) (x : Int) : DPut H d (.str "seed") (.int x) (upd H d (.dK (kv c a l x))) := by
  have q := DPut.k (k := (Sum.inr "seed" : Key)) (v := .int x) h small4
  have e : putK (kv c a l s) (Sum.inr "seed" : Key) (.int x) = kv c a l x := by
    simp [putK, kv, m3, m5, m6]
  rw [e] at q
  exact q
end
structure Draw (H : Hp) (d c : Addr) (ns : List Int) : Prop where
  dc : ∃ a l s : Int, H d = some (.dK (kv c a l s)) ∧ 0 ≤ a ∧ 0 ≤ l ∧ 0 ≤ s ∧ s < 2305843009213693951
  cs : H c = some (.lst (ns.map V.int))
theorem Tups.of_butD {K : PySem.W.Frag} {H H' : Hp} {d : Addr} {l : List (Key × V)} (s : But d H H') (e : H d = some (.dK l)) : Tups K H H' := fun a xs h => by
  rcases h with h | h
  · rcases h with h | ⟨o, h⟩
    · exact .inl (.inl (s _ _ h (ne_of h e (by intro z; cases z))))
    · exact .inl (.inr ⟨o, s _ _ h (ne_of h e (by intro z; cases z))⟩)
  · exact .inr h
structure DrAt (H : Hp) (d c : Addr) : Prop where
  ex : ∃ ns : List Int, Draw H d c ns
theorem DrAt.dk {H : Hp} {d c : Addr} (B : DrAt H d c) : ∃ kvs, H d = some (.dK kvs) := by
  obtain ⟨ns, ⟨⟨a, l, s, h, _⟩, _⟩⟩ := B.ex
  exact ⟨_, h⟩
theorem DrAt.ls {H : Hp} {d c : Addr} (B : DrAt H d c) : ∃ xs, H c = some (.lst xs) := by
  obtain ⟨ns, ⟨_, h⟩⟩ := B.ex
  exact ⟨_, h⟩
theorem DrAt.same {H H' : Hp} {d c : Addr} (B : DrAt H d c) (s : Same H H') : DrAt H' d c := by
  obtain ⟨ns, ⟨⟨a, l, x, h, r⟩, k⟩⟩ := B.ex
  exact ⟨ns, ⟨a, l, x, s _ _ h, r⟩, s _ _ k⟩
theorem DrAt.new {H : Hp} {d c p : Addr} {o : HO} (B : DrAt H d c) (n : H p = none) : DrAt (upd H p o) d c := B.same (same_new n)
theorem DrAt.put {H : Hp} {d c p : Addr} {o : HO} (B : DrAt H d c) (n1 : p ≠ d) (n2 : p ≠ c) : DrAt (upd H p o) d c := by
  obtain ⟨ns, ⟨⟨a, l, x, h, r⟩, k⟩⟩ := B.ex
  refine ⟨ns, ⟨a, l, x, ?_, r⟩, ?_⟩
  · rw [upd_ne n1.symm]
    exact h
  · rw [upd_ne n2.symm]
    exact k
theorem DrAt.tups {K : PySem.W.Frag} {H H' : Hp} {d c : Addr} (B : DrAt H d c) (s : But d H H') : Tups K H H' := by
  obtain ⟨kvs, h⟩ := B.dk
  exact Tups.of_butD s h
theorem DrAt.ne {H : Hp} {d c p : Addr} (B : DrAt H d c) (n : H p = none) : p ≠ d := by
  obtain ⟨kvs, h⟩ := B.dk
  exact (ne_of_none h n).symm
theorem DrAt.neL {H : Hp} {d c p : Addr} (B : DrAt H d c) (n : H p = none) : p ≠ c := by
  obtain ⟨xs, h⟩ := B.ls
  exact (ne_of_none h n).symm
theorem DrAt.back {H H' : Hp} {d c p : Addr} (B : DrAt H' d c) (s : But d H H') (n : H' p = none) : H p = none := by
  cases e : H p with
  | none => rfl
  | some o =>
    have z := s _ _ e (B.ne n)
    rw [z] at n
    cases n
def spBegin (K : PySem.W.Frag) : Sp := fun vs H Q _ => ∃ (a : Addr) (ns : List Int), vs = [.ref a] ∧ SqL K H a (ns.map V.int) ∧ ∀ (d c : Addr) (ms : List Int) (H' : Hp), Same H H' → H d = none → Draw H' d c ms → Q (.ref d) H'
def spNext : Sp := fun vs H Q _ => ∃ (d c : Addr) (ns : List Int) (many : Int), vs = [.ref d, .int many] ∧ Draw H d c ns ∧ 0 < many ∧ many < 2 ^ 100 ∧
  ∀ (x : Int) (H' : Hp), 0 ≤ x → x < many → Draw H' d c ns → But d H H' → Q (.int x) H'
def spNextD : Sp := fun vs H Q _ => ∃ (d c : Addr) (many : Int), vs = [.ref d, .int many] ∧ DrAt H d c ∧ 0 < many ∧ many < 2 ^ 100 ∧
  ∀ (x : Int) (H' : Hp), 0 ≤ x → x < many → DrAt H' d c → But d H H' → Q (.int x) H'
def spManyD : Sp := fun vs H Q _ => ∃ (d c : Addr) (f m : Int), vs = [.ref d, .int f, .int m] ∧ DrAt H d c ∧ 0 ≤ f ∧ 0 ≤ m ∧ f < 1000 ∧ m < 1000 ∧ ∀ (x : Int) (H' : Hp), 0 ≤ x → (x ≤ f ∨ x ≤ m) → DrAt H' d c → But d H H' → Q (.int x) H'
theorem pow30 : (10 : Int) ^ (30 : Int).toNat = 1000000000000000000000000000000 := by decide +kernel
theorem pow18 : (10 : Int) ^ (18 : Int).toNat = 1000000000000000000 := by decide +kernel
section
variable {P : Program} {w : World} {K : PySem.W.Frag} {mg : Str → Option Value} {base : Heap}
theorem cut63 (ns : List Int) : ∃ ms : List Int, cutV (ns.map V.int) none (some 63) = ms.map V.int := by
  refine ⟨ns.take (HT.sIx ns.length ns.length (some 63)), ?_⟩
  unfold cutV
  rw [HT.sIx_none, List.drop_zero, Nat.sub_zero, List.length_map, List.map_take]
theorem ok_begin (T : Top K mg) : FnOk P w K mg base CX0 1 T.a_Lbegin T.d_Lbegin ["_law_script"] (spBegin K) := by
  refine T.F_Lbegin.ok sc_Lbegin (fun vs H Q E h => ?_) (fun cdv A outer s H vs Q E hr h => ?_)
  · obtain ⟨x, ns, rfl, _⟩ := h
    rfl
  · obtain ⟨a, ns, rfl, hS, q⟩ := h
    refine ⟨_, (pss_one (ps_ret (pe_disp (pps_cons pe_str (pe_callTy call_list_of (by rfl) T.m_list (by decide +kernel) (pa_cons (pe_slice sl_list (pv 0) po_none (po_some pe_int)) pa_nil)) (pps_cons pe_str pe_int (pps_cons pe_str pe_int (pps_cons pe_str pe_int pps_nil)))) (by rfl) (by rfl) (fun z => by cases z) (by decide)))), ?_⟩
    intro d nd
    have s1 : Same H (upd H d (.dK [])) := same_new nd
    obtain ⟨ms, em⟩ := cut63 ns
    refine ⟨_, rfl, 63, rfl, a, _, rfl, s1.seq hS, fun p np => ?_⟩
    have s2 := same_new (H := upd H d (.dK [])) (o := .lst (cutV (ns.map V.int) none (some 63))) np
    refine ⟨p, _, rfl, .inl (SqL.of upd_same), fun c nc => ?_⟩
    have s3 := same_new (H := upd (upd H d (.dK [])) p (.lst (cutV (ns.map V.int) none (some 63)))) (o := .lst (cutV (ns.map V.int) none (some 63))) nc
    have hd2 := s3 _ _ (s2 _ _ (upd_same (H := H) (a := d) (o := .dK [])))
    refine ⟨hd2, kv c 0 0 1000003, rfl, (by show 4 ≤ 15; decide), ?_⟩
    have em2 : mergeK [] (kv c 0 0 1000003) = kv c 0 0 1000003 := by
      simp [mergeK, kv, putK, m1, m2, m3, m4, m5, m6]
    rw [em2]
    have ncd : c ≠ d := fun e => by
      subst e
      rw [s2 _ _ (upd_same (H := H) (a := c) (o := .dK []))] at nc
      cases nc
    refine q d c ms _ ?_ nd ⟨⟨0, 0, 1000003, upd_same, by decide, by decide, by decide, by decide⟩, ?_⟩
    · intro b o e
      rw [upd_ne (ne_of_none e nd)]
      exact s3 _ _ (s2 _ _ (s1 _ _ e))
    · rw [upd_ne ncd, upd_same, em]
theorem ok_next (T : Top K mg) : FnOk P w K mg base CX0 1 T.a_Lnext T.d_Lnext ["_law_draws", "_law_many_here"] spNext := by
  refine T.F_Lnext.ok sc_Lnext (fun vs H Q E h => ?_) (fun cdv A outer s H vs Q E hr h => ?_)
  · obtain ⟨d, c, ns, many, rfl, _⟩ := h
    rfl
  · obtain ⟨d, c, ns, many, rfl, ⟨⟨a, l, sd, hd, ha, hl, hs0, hs1⟩, hc⟩, hm0, hm1, q⟩ := h
    have ndc : c ≠ d := ne_of hc hd (by intro z; cases z)
    refine ⟨_, (pss_cons (ps_mid (ps_if (PW.pt (pw_and (pt_cmpR op_eq (pe_dget (u1 hr) (pv 0) pe_str (fun _ _ => rfl)) pe_int (nomark _)) (pw_and1 (pt_cmpR op_lt (pe_dget (u1 hr) (pv 0) pe_str (fun _ _ => rfl)) (pe_callB call_len_seq (by rfl) T.m_len PySem.boot_len (pa_cons (pe_dget (u1 hr) (pv 0) pe_str (fun _ _ => rfl)) pa_nil)) (nomark _))))) (pss_cons (ps_set (i := 2) sc_Lnext.nd rfl (.inl rfl) (pe_ix ix_list (pe_dget (u1 hr) (pv 0) pe_str (fun _ _ => rfl)) (pe_dget (u1 hr) (pv 0) pe_str (fun _ _ => rfl)) (fun _ _ => rfl)))
      (pss_cons (ps_dput (u1 hr) (pv 0) pe_str (pe_op op_add (pe_dget (u1 hr) (pv 0) pe_str (fun _ _ => rfl)) pe_int) rfl)
      (pss_cons (ps_dput (u1 hr) (pv 0) pe_str (pe_op op_mod (pe_op op_add (pe_op op_add (pe_op op_mul (pe_dget (u1 hr) (pv 0) pe_str (fun _ _ => rfl)) pe_int) (pe_op op_mod (pv 2) (pe_op op_pow pe_int pe_int))) pe_int) pe_int) rfl)
      (pss_one (ps_dput (u1 hr) (pv 0) pe_str (pe_op op_mul (pv 2) (pe_callTy call_int1 (by rfl) T.m_int (by decide +kernel) (pa_cons (pe_cmpR op_ge (pv 2) (pe_op op_pow pe_int pe_int) (nomark _)) pa_nil))) rfl))))) pss_nil))
      (pss_cons (ps_if (pt_cmpR op_gt (pe_dget (u1 hr) (pv 0) pe_str (fun _ _ => rfl)) pe_int (nomark _)) (pss_cons (ps_set (i := 3) sc_Lnext.nd rfl (.inl rfl) (pe_op op_mod (pe_dget (u1 hr) (pv 0) pe_str (fun _ _ => rfl)) (pv 1)))
      (pss_cons (ps_dput (u1 hr) (pv 0) pe_str (pe_op op_fdivW (pe_dget (u1 hr) (pv 0) pe_str (fun _ _ => rfl)) (pv 1)) rfl)
      (pss_one (ps_ret (pv 3))))) pss_nil)
      (pss_cons (ps_dput (u1 hr) (pv 0) pe_str (pe_op op_mod (pe_op op_add (pe_op op_mul (pe_dget (u1 hr) (pv 0) pe_str (fun _ _ => rfl)) pe_int) pe_int) pe_int) rfl)
      (pss_one (ps_ret (pe_op op_mod (pe_op op_fdivW (pe_op op_mod (pe_op op_mul (pe_dget (u1 hr) (pv 0) pe_str (fun _ _ => rfl)) (pe_dget (u1 hr) (pv 0) pe_str (fun _ _ => rfl))) pe_int) pe_int) (pv 1))))))), ?_⟩
    refine ⟨fun σ1 H1 => ∃ (y2 : Option V) (a l sd : Int), σ1 = [some (.ref d), some (.int many), y2, none] ∧ H1 d = some (.dK (kv c a l sd)) ∧ 0 ≤ a ∧ 0 ≤ l ∧ 0 ≤ sd ∧ sd < 2305843009213693951 ∧ H1 c = some (.lst (ns.map V.int)) ∧ But d H H1, ?_, ?_⟩
    · have dflt : ∃ (y2 : Option V) (a l sd : Int), (start ["_law_draws", "_law_many_here", "_law_cell", "_law_digit"] [V.ref d, V.int many]) = [some (.ref d), some (.int many), y2, none] ∧ H d = some (.dK (kv c a l sd)) ∧ 0 ≤ a ∧ 0 ≤ l ∧ 0 ≤ sd ∧ sd < 2305843009213693951 ∧ H c = some (.lst (ns.map V.int)) ∧ But d H H :=
        ⟨none, a, l, sd, rfl, hd, ha, hl, hs0, hs1, hc, But.refl⟩
      refine ⟨_, rfl, d, _, rfl, g_left hd, rfl, _, rfl, ite2 (fun e1 => ?_) (fun e1 => iteF dflt)⟩
      refine ⟨_, rfl, d, _, rfl, g_at hd, _, rfl, d, _, rfl, g_cells hd, c, _, rfl, .inl (SqL.of hc), _, _, rfl, rfl, _, rfl, ?_⟩
      refine ite2 (fun e2 => ?_) (fun e2 => dflt)
      have e3 : a < ((ns.map V.int).length : Int) := of_decide_eq_true e2
      rw [List.length_map] at e3
      obtain ⟨v, hv, _⟩ := at_map ha e3
      refine ⟨_, rfl, d, _, rfl, g_cells hd, _, rfl, d, _, rfl, g_at hd, c, _, _, _, rfl, rfl, SqL.of hc, hv, ?_⟩
      refine ⟨_, rfl, d, _, rfl, g_at hd, _, _, rfl, rfl, _, rfl, d, _, rfl, p_at hd _, ?_⟩
      refine ⟨_, rfl, d, _, rfl, g_seed upd_same, _, _, rfl, rfl, .inr ⟨by decide, by decide⟩, _, rfl, _, _, rfl, rfl, ⟨by decide, by decide, by decide⟩, _, _, rfl, rfl, (by show (0 : Int) < 10 ^ (30 : Int).toNat; rw [pow30]; decide), _, _, rfl, rfl, _, _, rfl, rfl, _, _, rfl, rfl, (by show (0 : Int) < 2305843009213693951; decide), _, rfl, d, _, rfl, p_seed upd_same _, ?_⟩
      refine ⟨_, rfl, _, rfl, _, _, rfl, rfl, ⟨by decide, by decide, by decide⟩, _, _, rfl, rfl, .inr ⟨_, rfl, _, _, rfl, rfl, ?_, _, rfl, d, _, rfl, p_left upd_same _, ?_⟩⟩
      · right
        constructor <;> split <;> decide
      · refine ⟨some (.int v), _, _, _, rfl, upd_same, by omega, ?_, Int.emod_nonneg _ (by decide), Int.emod_lt_of_pos _ (by decide), ?_, ((But.refl.put).put).put⟩
        · rw [pow18]
          by_cases z : (1000000000000000000 : Int) ≤ v
          · rw [decide_eq_true z]
            simp
            omega
          · rw [decide_eq_false z]
            simp
        · rw [upd_ne ndc, upd_ne ndc, upd_ne ndc]
          exact hc
    · rintro σ1 H1 ⟨y2, a, l, sd, rfl, hd, ha, hl, hs0, hs1, hc, kp⟩
      refine ⟨_, rfl, d, _, rfl, g_left hd, _, _, rfl, rfl, _, rfl, ite2 (fun e1 => ?_) (fun e1 => ?_)⟩
      · refine ⟨_, rfl, d, _, rfl, g_left hd, _, rfl, _, _, rfl, rfl, hm0, ?_⟩
        refine ⟨_, rfl, d, _, rfl, g_left hd, _, rfl, _, _, rfl, rfl, wide_ok hm0 hm1, _, rfl, d, _, rfl, p_left hd _, _, rfl, ?_⟩
        exact q _ _ (Int.emod_nonneg _ (by omega)) (Int.emod_lt_of_pos _ hm0) ⟨⟨a, _, sd, upd_same, ha, Int.ediv_nonneg hl (by omega), hs0, hs1⟩, by rw [upd_ne ndc]; exact hc⟩ kp.put
      · refine ⟨_, rfl, d, _, rfl, g_seed hd, _, _, rfl, rfl, .inr ⟨by decide, by decide⟩, _, _, rfl, rfl, _, _, rfl, rfl, (by show (0 : Int) < 2305843009213693951; decide), _, rfl, d, _, rfl, p_seed hd _, ?_⟩
        refine ⟨_, rfl, d, _, rfl, g_seed upd_same, _, rfl, d, _, rfl, g_seed upd_same, _, _, rfl, rfl, .inl ?_, _, _, rfl, rfl, (by show (0 : Int) < 2305843009213693921; decide), _, _, rfl, rfl, ?_, _, rfl, _, _, rfl, rfl, hm0, ?_⟩
        · have z1 := Int.emod_nonneg (sd * 1181783497276652981 + 12345678910987) (show (2305843009213693951 : Int) ≠ 0 by decide)
          have z2 := Int.emod_lt_of_pos (sd * 1181783497276652981 + 12345678910987) (show (0 : Int) < 2305843009213693951 by decide)
          constructor <;> omega
        · exact wide_ok (by decide) (by decide)
        · exact q _ _ (Int.emod_nonneg _ (by omega)) (Int.emod_lt_of_pos _ hm0) ⟨⟨a, l, _, upd_same, ha, hl, Int.emod_nonneg _ (by decide), Int.emod_lt_of_pos _ (by decide)⟩, by rw [upd_ne ndc]; exact hc⟩ kp.put
theorem ok_nextD (T : Top K mg) : FnOk P w K mg base CX0 1 T.a_Lnext T.d_Lnext ["_law_draws", "_law_many_here"] spNextD := by
  refine (ok_next T).imp fun vs H Q E h => ?_
  obtain ⟨d, c, many, e, B, m0, m1, q⟩ := h
  obtain ⟨ns, D⟩ := B.ex
  exact ⟨d, c, ns, many, e, D, m0, m1, fun x H' x0 x1 D' k => q x H' x0 x1 ⟨ns, D'⟩ k⟩
theorem ok_manyD (T : Top K mg) : FnOk P w K mg base CX0 2 T.a_Lmany T.d_Lmany ["_law_draws", "_law_few", "_law_most"] spManyD := by
  have G_Lnext : FnOk P w K mg base CX0 1 _ _ _ _ := ok_nextD T
  refine T.F_Lmany.ok sc_Lmany (fun vs H Q E h => ?_) (fun cdv A outer s H vs Q E hr h => ?_)
  · obtain ⟨d, c, f, m, rfl, _⟩ := h
    rfl
  · obtain ⟨d, c, f, m, rfl, B, f0, m0, f1, m1, q⟩ := h
    refine ⟨_, (pss_cons (ps_if (pt_cmpR op_eq (pe_call G_Lnext hr (by rfl) T.g_Lnext T.F_Lnext.kp T.b_Lnext .nil pass0 (pa_cons (pv 0) (pa_cons pe_int pa_nil))) pe_int (nomark _)) (pss_one (ps_ret (pe_call G_Lnext hr (by rfl) T.g_Lnext T.F_Lnext.kp T.b_Lnext .nil pass0 (pa_cons (pv 0) (pa_cons (pe_op op_add (pv 2) pe_int) pa_nil))))) pss_nil)
      (pss_one (ps_ret (pe_call G_Lnext hr (by rfl) T.g_Lnext T.F_Lnext.kp T.b_Lnext .nil pass0 (pa_cons (pv 0) (pa_cons (pe_op op_add (pv 1) pe_int) pa_nil)))))), ?_⟩
    refine ⟨_, rfl, d, c, 8, rfl, B, by decide, by decide, fun x H1 x0 x1 B1 k1 => ?_⟩
    refine ⟨rfl, _, rfl, ite2 (fun _ => ?_) (fun _ => ?_)⟩
    · refine ⟨_, rfl, _, rfl, _, _, rfl, rfl, d, c, m + 1, rfl, B1, by omega, by omega, fun y H2 y0 y1 B2 k2 => ?_⟩
      exact q y H2 y0 (.inr (by omega)) B2 (k1.trans k2)
    · refine ⟨_, rfl, _, rfl, _, _, rfl, rfl, d, c, f + 1, rfl, B1, by omega, by omega, fun y H2 y0 y1 B2 k2 => ?_⟩
      exact q y H2 y0 (.inl (by omega)) B2 (k1.trans k2)
end

end My
namespace My
open PySem L2
/-! ### forests drawn from the store -/
def pdata (p : Int × Str) : PyData := .tuple [.int p.1, .str p.2]
def tdata (t : Int × Int) : PyData := .tuple [.int t.1, .int t.2]
def PtOk (p : Int × Str) : Prop := -(2 ^ 100) < p.1 ∧ p.1 < 2 ^ 100 ∧ p.2 ∈ kinds
def fdata (pts : List (Int × Str)) (ts : List (Int × Int)) : PyData := .tuple [.tuple (pts.map pdata), .tuple (ts.map tdata)]
structure FrOk (pts : List (Int × Str)) (ts : List (Int × Int)) : Prop where
  pos : 0 < pts.length
  few : pts.length ≤ 100
  pok : ∀ p ∈ pts, PtOk p
  tok : ∀ t ∈ ts, 0 ≤ t.1 ∧ 0 ≤ t.2 ∧ t.1 < (pts.length : Int) ∧ t.2 < (pts.length : Int)
  tl : ts.length ≤ pts.length
  tree : Tree ts
  nd : ts.Nodup
theorem Td.two {K : PySem.W.Frag} {H : Hp} {x y : Int} {t : Addr} (h : H t = some (.tup [.int x, .int y])) : Td K H (.ref t) (tdata (x, y)) := .tup (SqT.of h) (.cons (.int x) (.cons (.int y) .nil))
theorem Td.pt {K : PySem.W.Frag} {H : Hp} {x : Int} {y : Str} {t : Addr} (h : H t = some (.tup [.int x, .str y])) : Td K H (.ref t) (pdata (x, y)) := .tup (SqT.of h) (.cons (.int x) (.cons (.str y) .nil))
/-- tied pairs stand in H itself -/
inductive PAll (H : Hp) : List V → List (Int × Int) → Prop
  | nil : PAll H [] []
  | cons {t : Addr} {x y : Int} {vs : List V} {ts : List (Int × Int)} : H t = some (.tup [.int x, .int y]) → PAll H vs ts → PAll H (.ref t :: vs) ((x, y) :: ts)
theorem PAll.td {K : PySem.W.Frag} {H : Hp} : ∀ {vs : List V} {ts : List (Int × Int)}, PAll H vs ts → TdAll K H vs (ts.map tdata)
  | _, _, .nil => .nil
  | _, _, .cons h k => .cons (Td.two h) (PAll.td k)
theorem PAll.mono {H H' : Hp} (s : ∀ t x y, H t = some (.tup [.int x, .int y]) → H' t = some (.tup [.int x, .int y])) : ∀ {vs : List V} {ts : List (Int × Int)}, PAll H vs ts → PAll H' vs ts
  | _, _, .nil => .nil
  | _, _, .cons h k => .cons (s _ _ _ h) (PAll.mono s k)
theorem PAll.same {H H' : Hp} (s : Same H H') {vs : List V} {ts : List (Int × Int)} (h : PAll H vs ts) : PAll H' vs ts := h.mono fun _ _ _ e => s _ _ e
theorem PAll.put {H : Hp} {l : Addr} {xs ys : List V} (e : H l = some (.lst xs)) {vs : List V} {ts : List (Int × Int)} (h : PAll H vs ts) : PAll (upd H l (.lst ys)) vs ts := h.mono fun t _ _ z => by
  rw [upd_ne (ne_of z e (by intro z; cases z))]
  exact z
theorem PAll.but {H H' : Hp} {b L : Addr} (B : DrAt H b L) (s : But b H H') {vs : List V} {ts : List (Int × Int)} (h : PAll H vs ts) : PAll H' vs ts := h.mono fun t _ _ z => by
  obtain ⟨kvs, h1⟩ := B.dk
  exact s _ _ z (ne_of z h1 (by intro z; cases z))
theorem PAll.snoc {H : Hp} {t : Addr} {x y : Int} (e : H t = some (.tup [.int x, .int y])) : ∀ {vs : List V} {ts : List (Int × Int)}, PAll H vs ts → PAll H (vs ++ [.ref t]) (ts ++ [(x, y)])
  | _, _, .nil => .cons e .nil
  | _, _, .cons h k => .cons h (PAll.snoc e k)
theorem PAll.length {H : Hp} : ∀ {vs : List V} {ts : List (Int × Int)}, PAll H vs ts → vs.length = ts.length
  | _, _, .nil => rfl
  | _, _, .cons _ k => congrArg (· + 1) k.length
theorem PAll.pairs {H : Hp} : ∀ {vs : List V} {ts : List (Int × Int)}, PAll H vs ts → ∀ x ∈ vs, ∃ t i j, x = V.ref t ∧ H t = some (.tup [.int i, .int j])
  | _, _, .nil, _, m => nomatch m
  | _, _, .cons h k, x, m => by
    rcases List.mem_cons.mp m with e | m
    · subst e
      exact ⟨_, _, _, rfl, h⟩
    · exact k.pairs x m
theorem PAll.perm {H : Hp} {xs ys : List V} (p : ys.Perm xs) : ∀ {ts : List (Int × Int)}, PAll H xs ts → ∃ us : List (Int × Int), us.Perm ts ∧ PAll H ys us := by
  induction p with
  | nil =>
    intro ts h
    cases h
    exact ⟨[], .refl _, .nil⟩
  | cons x p ih =>
    intro ts h
    cases h with
    | cons h1 h2 =>
      obtain ⟨us, pu, hu⟩ := ih h2
      exact ⟨_ :: us, pu.cons _, .cons h1 hu⟩
  | swap x y l =>
    intro ts h
    cases h with
    | cons h1 h2 =>
      cases h2 with
      | cons h2 h3 => exact ⟨_, .swap .., .cons h2 (.cons h1 h3)⟩
  | trans p1 p2 ih1 ih2 =>
    intro ts h
    obtain ⟨us, pu, hu⟩ := ih2 h
    obtain ⟨vs, pv, hv⟩ := ih1 hu
    exact ⟨vs, pv.trans pu, hv⟩
/-- the list of names -/
def Names (n : Nat) (ns : List Int) : Prop := ns.length = n ∧ (∀ x ∈ ns, 0 ≤ x ∧ x < (n : Int)) ∧ ns.Nodup
theorem names_put {n : Nat} {ns : List Int} {k : Nat} (h : Names n ns) : Names (n + 1) (ns.take k ++ [(n : Int)] ++ ns.drop k) := by
  have hn : (n : Int) ∉ ns := fun m => by
    have := h.2.1 _ m
    omega
  refine ⟨?_, fun x m => ?_, ?_⟩
  · have z := List.take_append_drop k ns
    have z2 := congrArg List.length z
    rw [List.length_append] at z2
    rw [List.length_append, List.length_append]
    show (ns.take k).length + 1 + (ns.drop k).length = n + 1
    have := h.1
    omega
  · rcases List.mem_append.mp m with m | m
    · rcases List.mem_append.mp m with m | m
      · have := h.2.1 x (List.mem_of_mem_take m)
        omega
      · rcases List.mem_cons.mp m with e | m
        · omega
        · cases m
    · have := h.2.1 x (List.mem_of_mem_drop m)
      omega
  · have nd := h.2.2
    rw [← List.take_append_drop k ns] at nd
    obtain ⟨n1, n2, n3⟩ := List.nodup_append.mp nd
    refine List.nodup_append.mpr ⟨List.nodup_append.mpr ⟨n1, List.nodup_cons.mpr ⟨List.not_mem_nil, List.nodup_nil⟩, fun x m y k z => ?_⟩, n2, fun x m y k z => ?_⟩
    · rw [List.mem_singleton.mp k] at z
      exact hn (z ▸ List.mem_of_mem_take m)
    · rcases List.mem_append.mp m with m | m
      · exact n3 x m y k z
      · rw [List.mem_singleton.mp m] at z
        exact hn (z ▸ List.mem_of_mem_drop k)
/-- a tie to a name that has none yet -/
theorem tie_more {ns : List Int} {ts : List (Int × Int)} {i k : Nat} {v1 v2 : Int} {u : Nat} (nd : ns.Nodup) (hk : k = 1 + i) (h1 : ns[k]? = some v1) (h2 : ns[u]? = some v2) (hu : u < k) (tr : Tree ts) (tn : ts.Nodup) (hm : ∀ t ∈ ts, t.1 ∈ ns.take k ∧ t.2 ∈ ns.take k) :
    Tree (ts ++ [((if v2 < v1 then v2 else v1), (if v2 > v1 then v2 else v1))]) ∧ (ts ++ [((if v2 < v1 then v2 else v1), (if v2 > v1 then v2 else v1))]).Nodup ∧ ∀ t ∈ ts ++ [((if v2 < v1 then v2 else v1), (if v2 > v1 then v2 else v1))], t.1 ∈ ns.take (k + 1) ∧ t.2 ∈ ns.take (k + 1) := by
  have n1 : v1 ∉ ns.take k := fun m => by
    obtain ⟨j, hj⟩ := List.mem_iff_getElem?.mp m
    have jl := (List.getElem?_eq_some_iff.mp hj).1
    rw [List.length_take] at jl
    rw [List.getElem?_take_of_lt (by omega)] at hj
    have l1 := (List.getElem?_eq_some_iff.mp h1)
    obtain ⟨x1, y1⟩ := l1
    obtain ⟨x2, y2⟩ := List.getElem?_eq_some_iff.mp hj
    have z := List.pairwise_iff_getElem.mp nd j k x2 x1 (by omega)
    exact z (y2.trans y1.symm)
  have m2 : v2 ∈ ns.take k := List.mem_iff_getElem?.mpr ⟨u, by rw [List.getElem?_take_of_lt hu]; exact h2⟩
  have ne : v2 ≠ v1 := fun z => n1 (z ▸ m2)
  have hv : ∀ t ∈ ts, t.1 ≠ v1 ∧ t.2 ≠ v1 := fun t m => ⟨fun z => n1 (z ▸ (hm t m).1), fun z => n1 (z ▸ (hm t m).2)⟩
  have two : ((if v2 < v1 then v2 else v1), (if v2 > v1 then v2 else v1)) = (v2, v1) ∨ ((if v2 < v1 then v2 else v1), (if v2 > v1 then v2 else v1)) = (v1, v2) := by
    by_cases lt : v2 < v1
    · rw [if_pos lt, if_neg (by omega)]
      exact .inl rfl
    · rw [if_neg lt, if_pos (by omega)]
      exact .inr rfl
  have up : ∀ {x : Int}, x ∈ ns.take k → x ∈ ns.take (k + 1) := fun {x} m => by
    rw [List.take_succ]
    exact List.mem_append_left _ m
  have m1 : v1 ∈ ns.take (k + 1) := by
    rw [List.take_succ, h1]
    exact List.mem_append_right _ List.mem_cons_self
  refine ⟨tree_snoc tr hv ne two, List.nodup_append.mpr ⟨tn, List.nodup_cons.mpr ⟨List.not_mem_nil, List.nodup_nil⟩, fun x m y k z => ?_⟩, fun t m => ?_⟩
  · rw [List.mem_singleton.mp k] at z
    have w := hv x m
    rw [z] at w
    rcases two with e | e
    · rw [e] at w
      exact w.2 rfl
    · rw [e] at w
      exact w.1 rfl
  · rcases List.mem_append.mp m with m | m
    · exact ⟨up (hm t m).1, up (hm t m).2⟩
    · rw [List.mem_singleton.mp m]
      rcases two with e | e
      · rw [e]
        exact ⟨up m2, m1⟩
      · rw [e]
        exact ⟨m1, up m2⟩
def spWorthD : Sp := fun vs H Q _ => ∃ (d c : Addr), vs = [.ref d] ∧ DrAt H d c ∧ ∀ (x : Int) (H' : Hp), -(2 ^ 100) < x → x < 2 ^ 100 → DrAt H' d c → But d H H' → Q (.int x) H'
def leT (s t : Int × Int) : Prop := s.1 < t.1 ∨ (s.1 = t.1 ∧ s.2 ≤ t.2)
/-- points stand in H itself -/
inductive QAll (H : Hp) : List V → List (Int × Str) → Prop
  | nil : QAll H [] []
  | cons {t : Addr} {x : Int} {k : Str} {vs : List V} {ps : List (Int × Str)} : H t = some (.tup [.int x, .str k]) → QAll H vs ps → QAll H (.ref t :: vs) ((x, k) :: ps)
theorem QAll.mono {H H' : Hp} (s : ∀ t x y, H t = some (.tup [.int x, .str y]) → H' t = some (.tup [.int x, .str y])) : ∀ {vs : List V} {ps : List (Int × Str)}, QAll H vs ps → QAll H' vs ps
  | _, _, .nil => .nil
  | _, _, .cons e h => .cons (s _ _ _ e) (h.mono s)
theorem QAll.same {H H' : Hp} (s : Same H H') {vs : List V} {ps : List (Int × Str)} (h : QAll H vs ps) : QAll H' vs ps := h.mono fun _ _ _ e => s _ _ e
theorem QAll.put {H : Hp} {l : Addr} {xs ys : List V} (e : H l = some (.lst xs)) {vs : List V} {ps : List (Int × Str)} (h : QAll H vs ps) : QAll (upd H l (.lst ys)) vs ps := h.mono fun t _ _ z => by
  rw [upd_ne (ne_of z e (by intro z; cases z))]
  exact z
theorem QAll.but {H H' : Hp} {b L : Addr} (B : DrAt H b L) (s : But b H H') {vs : List V} {ps : List (Int × Str)} (h : QAll H vs ps) : QAll H' vs ps := h.mono fun t _ _ z => by
  obtain ⟨kvs, e⟩ := B.dk
  exact s _ _ z (ne_of z e (by intro z; cases z))
theorem QAll.snoc {H : Hp} {t : Addr} {x : Int} {y : Str} (e : H t = some (.tup [.int x, .str y])) : ∀ {vs : List V} {ps : List (Int × Str)}, QAll H vs ps → QAll H (vs ++ [.ref t]) (ps ++ [(x, y)])
  | _, _, .nil => .cons e .nil
  | _, _, .cons e' h => .cons e' (h.snoc e)
theorem QAll.length {H : Hp} : ∀ {vs : List V} {ps : List (Int × Str)}, QAll H vs ps → vs.length = ps.length
  | _, _, .nil => rfl
  | _, _, .cons _ h => congrArg (· + 1) h.length
def spForest (K : PySem.W.Frag) : Sp := fun vs H Q _ => ∃ (b L : Addr) (m : Int), vs = [.ref b, .int m] ∧ DrAt H b L ∧ 9 ≤ m ∧ m ≤ 100 ∧
  ∀ (p a1 a2 : Addr) (xs ys : List V) (pts : List (Int × Str)) (ts : List (Int × Int)) (H' : Hp), FrOk pts ts → (pts.length : Int) ≤ m → (∀ t ∈ ts, t.1 ≤ t.2) → ts.Pairwise leT → DrAt H' b L → But b H H' → H' p = some (.tup [.ref a1, .ref a2]) → H' a1 = some (.tup xs) → H' a2 = some (.tup ys) → QAll H' xs pts → PAll H' ys ts → Q (.ref p) H'
theorem pow20 : (10 : Int) ^ (20 : Int).toNat = 100000000000000000000 := by decide +kernel
section
variable {P : Program} {w : World} {K : PySem.W.Frag} {mg : Str → Option Value} {base : Heap}
theorem ok_worthD (T : Top K mg) : FnOk P w K mg base CX0 2 T.a_Lworth T.d_Lworth ["_law_draws"] spWorthD := by
  have G_Lnext : FnOk P w K mg base CX0 1 _ _ _ _ := ok_nextD T
  refine T.F_Lworth.ok sc_Lworth (fun vs H Q E h => ?_) (fun cdv A outer s H vs Q E hr h => ?_)
  · obtain ⟨d, c, rfl, _⟩ := h
    rfl
  · obtain ⟨d, c, rfl, B, q⟩ := h
    refine ⟨_, (pss_cons (ps_set (i := 1) sc_Lworth.nd rfl (.inl rfl) (pe_call G_Lnext hr (by rfl) T.g_Lnext T.F_Lnext.kp T.b_Lnext .nil pass0 (pa_cons (pv 0) (pa_cons pe_int pa_nil))))
      (pss_cons (ps_if (pt_cmpR op_lt (pv 1) pe_int (nomark _)) (pss_one (ps_ret (pe_call G_Lnext hr (by rfl) T.g_Lnext T.F_Lnext.kp T.b_Lnext .nil pass0 (pa_cons (pv 0) (pa_cons pe_int pa_nil))))) pss_nil)
      (pss_cons (ps_if (pt_cmpR op_eq (pv 1) pe_int (nomark _)) (pss_one (ps_ret (pe_op op_sub (pe_un un_neg pe_int) (pe_call G_Lnext hr (by rfl) T.g_Lnext T.F_Lnext.kp T.b_Lnext .nil pass0 (pa_cons (pv 0) (pa_cons pe_int pa_nil)))))) pss_nil)
      (pss_one (ps_ret (pe_ix ix_list (pe_lst (pa_cons (pe_op op_sub (pe_op op_pow pe_int pe_int) pe_int) (pa_cons (pe_op op_sub pe_int (pe_op op_pow pe_int pe_int)) (pa_cons pe_int (pa_cons (pe_call G_Lnext hr (by rfl) T.g_Lnext T.F_Lnext.kp T.b_Lnext .nil pass0 (pa_cons (pv 0) (pa_cons (pe_op op_pow pe_int pe_int) pa_nil))) pa_nil))))) (pe_call G_Lnext hr (by rfl) T.g_Lnext T.F_Lnext.kp T.b_Lnext .nil pass0 (pa_cons (pv 0) (pa_cons pe_int pa_nil))) (fun _ _ => rfl))))))), ?_⟩
    refine ⟨_, rfl, d, c, 6, rfl, B, by decide, by decide, fun x H1 x0 x1 B1 k1 => ?_⟩
    refine ⟨_, rfl, _, _, rfl, rfl, _, rfl, ite2 (fun _ => ?_) (fun _ => ?_)⟩
    · exact ⟨_, rfl, d, c, 7, rfl, B1, by decide, by decide, fun y H2 y0 y1 B2 k2 => q y H2 (by omega) (by omega) B2 (k1.trans k2)⟩
    refine ⟨_, rfl, rfl, _, rfl, ite2 (fun _ => ?_) (fun _ => ?_)⟩
    · refine ⟨_, rfl, _, rfl, d, c, 9, rfl, B1, by decide, by decide, fun y H2 y0 y1 B2 k2 => ⟨_, _, rfl, rfl, q _ H2 (by omega) (by omega) B2 (k1.trans k2)⟩⟩
    refine ⟨_, _, rfl, rfl, ⟨by decide, by decide, by decide⟩, _, _, rfl, rfl, _, _, rfl, rfl, ⟨by decide, by decide, by decide⟩, _, _, rfl, rfl, _, rfl, _, _, rfl, rfl, ⟨by decide, by decide, by decide⟩, d, c, _, rfl, B1, (by show (0 : Int) < 10 ^ (20 : Int).toNat; rw [pow20]; decide), (by show (10 : Int) ^ (20 : Int).toNat < 2 ^ 100; rw [pow20]; decide), fun y H2 y0 y1 B2 k2 => ⟨(by show 4 ≤ sizeLine; decide), fun p np => ?_⟩⟩
    refine ⟨_, rfl, d, c, 4, rfl, B2.new np, by decide, by decide, fun z H3 z0 z1 B3 k3 => ?_⟩
    have hp := k3 _ _ upd_same ((B2.ne np))
    rw [pow20] at y1
    have pick : ∃ v : Int, atI [V.int (10 ^ (30 : Int).toNat - 1), V.int (1 - 10 ^ (30 : Int).toNat), V.int 0, V.int y] z = some (.int v) ∧ -(2 ^ 100) < v ∧ v < 2 ^ 100 := by
      rw [pow30]
      have hc : z = 0 ∨ z = 1 ∨ z = 2 ∨ z = 3 := by omega
      rcases hc with rfl | rfl | rfl | rfl
      all_goals exact ⟨_, rfl, by omega, by omega⟩
    obtain ⟨v, hv, v0, v1⟩ := pick
    refine ⟨p, _, _, _, rfl, rfl, SqL.of hp, hv, ?_⟩
    exact q v H3 v0 v1 B3 (((k1.trans k2).new np).trans k3)
end

end My
namespace My
open PySem PySem.Spec PyProof.Rows L2
/-! ### sorted of pairs -/
/-- the two ints of the pair at u -/
def kkOf (h : Heap) (u : Value) : Int × Int := match u with
  | .ref a => match h.get? a with
    | some o => match o.data with
      | .seq vs _ => match vs.toList with
        | [.int i _, .int j _] => (i, j)
        | _ => (0, 0)
      | _ => (0, 0)
    | none => (0, 0)
  | _ => (0, 0)
theorem kk_pair {h : Heap} {u : Value} {i j : Int} (p : Srt.IsPair h u i j) : kkOf h u = (i, j) := by
  obtain ⟨a, o, t, w, n, rfl, h1, _, h3⟩ := p
  unfold kkOf
  simp only [h1, h3]
section
variable {X : Cx} {pins : List (Addr × Obj)} {σ : L2.St} {H : Hp} {s : Shared}
theorem pair_at (I : Inv X pins σ H s) {v : V} {u : Value} {t : Int × Int} (h : Td X.K H v (tdata t)) (r : RelV v u) : Srt.IsPair s.heap u t.1 t.2 ∧ v = backV u := by
  obtain ⟨i, j⟩ := t
  cases h with
  | @tup a xs ds h1 h2 =>
    obtain rfl : u = Value.ref a := r
    obtain ⟨its, rv, ⟨o, g1, g2, n, g3⟩, _⟩ := I.tuple h1
    cases h2 with
    | cons k1 h2 =>
      cases h2 with
      | cons k2 h2 =>
        cases h2
        cases k1
        cases k2
        cases rv with
        | cons r1 rv =>
          cases rv with
          | cons r2 rv =>
            cases rv
            obtain ⟨t1, rfl⟩ := r1
            obtain ⟨t2, rfl⟩ := r2
            exact ⟨⟨a, o, t1, t2, n, rfl, g1, g2, g3⟩, rfl⟩
theorem pairs_at (I : Inv X pins σ H s) : ∀ {xs : List V} {ts : List (Int × Int)} {us : List Value}, TdAll X.K H xs (ts.map tdata) → Vals xs us → us.map (kkOf s.heap) = ts ∧ ∀ u ∈ us, Srt.IsPair s.heap u (kkOf s.heap u).1 (kkOf s.heap u).2 ∧ Td X.K H (backV u) (tdata (kkOf s.heap u))
  | [], [], _, _, .nil => ⟨rfl, fun u m => nomatch m⟩
  | [], _ :: _, _, h, _ => nomatch h
  | _ :: _, [], _, h, _ => nomatch h
  | x :: xs, t :: ts, _ :: us, .cons h1 h2, .cons r1 r2 => by
    obtain ⟨e, f⟩ := pairs_at I h2 r2
    obtain ⟨p, b⟩ := pair_at I h1 r1
    have k := kk_pair p
    refine ⟨by rw [List.map_cons, e, k], fun u m => ?_⟩
    rcases List.mem_cons.mp m with rfl | m
    · rw [k]
      exact ⟨p, by rw [← b]; exact h1⟩
    · exact f u m
theorem pairs_atH (I : Inv X pins σ H s) : ∀ {xs : List V} {ts : List (Int × Int)} {us : List Value}, PAll H xs ts → Vals xs us → us.map (kkOf s.heap) = ts ∧ ∀ u ∈ us, Srt.IsPair s.heap u (kkOf s.heap u).1 (kkOf s.heap u).2 ∧ ∃ a, u = Value.ref a ∧ H a = some (.tup [.int (kkOf s.heap u).1, .int (kkOf s.heap u).2])
  | _, _, _, .nil, .nil => ⟨rfl, fun u m => nomatch m⟩
  | _, _, _ :: us, .cons (t := t) (x := x) (y := y) e h2, .cons r1 r2 => by
    obtain ⟨e2, f⟩ := pairs_atH I h2 r2
    obtain ⟨p, b⟩ := pair_at I (Td.two (K := X.K) e) r1
    have k := kk_pair p
    refine ⟨by rw [List.map_cons, e2, k], fun u m => ?_⟩
    rcases List.mem_cons.mp m with rfl | m
    · rw [k]
      refine ⟨p, t, ?_, e⟩
      exact r1
    · exact f u m
theorem pall_back {h : Heap} {H : Hp} : ∀ {us : List Value}, (∀ u ∈ us, ∃ a, u = Value.ref a ∧ H a = some (.tup [.int (kkOf h u).1, .int (kkOf h u).2])) → PAll H (us.map backV) (us.map (kkOf h))
  | [], _ => .nil
  | u :: us, f => by
    obtain ⟨a, e, ha⟩ := f u List.mem_cons_self
    subst e
    exact .cons ha (pall_back fun y m => f y (List.mem_cons_of_mem _ m))
def rSortedPH (K : PySem.W.Frag) : List V → Hp → VK → Prop := fun vs H Q => ∃ (l : Addr) (zs : List V) (ts : List (Int × Int)), vs = [V.ref l] ∧ (SqL K H l zs ∨ SqT K H l zs) ∧ PAll H zs ts ∧
  ∀ (ys : List V) (us : List (Int × Int)) (c : Addr), PAll H ys us → us.Perm ts → us.Pairwise leT → H c = none → Q (.ref c) (upd H c (.lst ys))
theorem cr_sortedPH : CallR X (.builtin "sorted") (rSortedPH X.K) := by
  intro pins s σ H vs us Q I r hh
  obtain ⟨l, zs, ts, rfl, sq, pa, q⟩ := hh
  obtain ⟨u, rfl, ru⟩ := vals1 r
  obtain rfl : u = Value.ref l := ru
  rcases sq with sq | sq
  · obtain ⟨its, rv, hl, hz⟩ := I.list sq
    obtain ⟨e, f⟩ := pairs_atH I pa rv
    refine SrtO.sorted_pairsO (k := kkOf s.heap) hl.isList (by rw [← rv.length]; exact hz) (fun v m => (f v m).1) fun h' d out g1 g2 kp hd hn => ?_
    have back : ∀ v ∈ out, v ∈ its := fun v m => g2.perm.mem_iff.mp m
    have refs : ∀ v ∈ out, ∃ b, v = Value.ref b := fun v m => by
      obtain ⟨b, _, _, _, _, e1, _⟩ := (f v (back v m)).1
      exact ⟨b, e1⟩
    obtain ⟨n, hn⟩ := hn
    have len : (out.map backV).length ≤ sizeLine := by
      rw [List.length_map, g2.perm.length_eq, ← rv.length]
      exact hz
    refine ⟨.ref d, upd H d (.lst (out.map backV)), I.laid (t' := s.toks) kp hd ⟨len, out, n, vals_back refs, hn⟩, rfl, q _ (out.map (kkOf s.heap)) d (pall_back fun v m => (f v (back v m)).2) ?_ ?_ (I.hok.fresh hd)⟩
    · rw [← e]
      exact g2.perm.map _
    · refine List.pairwise_map.mpr (g1.imp fun {x y} z => ?_)
      have z2 := SrtO.lexB_no.mp z
      unfold leT
      omega
  · obtain ⟨its, rv, ht, hz⟩ := I.tuple sq
    obtain ⟨e, f⟩ := pairs_atH I pa rv
    have hal : its.length = zs.length := rv.length.symm
    obtain ⟨o, ho, hc, n, hdt⟩ := id ht
    refine Calls.call_function_entry PyProof.Rows.kind_sorted PyProof.Rows.plain_sorted PyProof.Rows.entry_sorted (PyProof.Rows.args_sorted1 _) ?_
    unfold Builtin.«sorted»
    refine wpAny_bind (m := checkCount "sorted" 1 1 _) (wpAny_pure ?_)
    refine wpAny_bind (wpAny_collect_seq l (T := "tuple") (.inr rfl) ho hc hdt (fun h' hk => ?_) (by rw [List.size_toArray, hal]; exact hz))
    have I1 : Inv X pins σ H { s with heap := h' } := I.kept (t' := s.toks) hk
    refine wpAny_bind (wpAny_newList ?_ (by rw [List.toList_toArray, hal]; exact hz))
    have hoL : (h'.push (seqObj "list" its.toArray.toList.toArray 0)).get? h'.objs.size = some (seqObj "list" its.toArray.toList.toArray 0) := Heap.get?_push_size _ rfl
    show wpAny _ _ _ _ _ { s with heap := h'.push (seqObj "list" its.toArray.toList.toArray 0) }
    refine wpAny_bind (wpAny_holding (wpAny_call_entry PyProof.Rows.slot_list_sort ⟨_, hoL, rfl⟩ PyProof.Rows.entry_list_sort
      (SrtO.list_sort_ord (s := { s with heap := h'.push (seqObj "list" its.toArray.toList.toArray 0) }) (vs := its) (SrtO.swo_lex (kkOf s.heap)) hoL (by rw [hal]; exact hz) (fun h2 => ?_) fun out g1 g2 => ⟨_, rfl, ?_⟩) (PyProof.Rows.args_list_sort _)))
    · refine SrtO.pairs_sortableO (s := { s with heap := h'.push (seqObj "list" its.toArray.toList.toArray 0) }) (by omega) (fun v hm => (f v hm).1.keeps fun b o e _ => Heap.get?_push_of_some _ (hk b o e)) fun o e => ?_
      have e' := e.symm.trans hoL
      cases e'
      intro c
      exact absurd (Value.type.inj c) (by decide)
    · have back : ∀ v ∈ out, v ∈ its := fun v m => g2.perm.mem_iff.mp m
      have refs : ∀ v ∈ out, ∃ b, v = Value.ref b := fun v m => by
        obtain ⟨b, _, _, _, _, e1, _⟩ := (f v (back v m)).1
        exact ⟨b, e1⟩
      obtain ⟨e', he'⟩ := PyProof.Rows.sortedHeap_at (vs := its) (out := out.toArray) hoL
      have len : (out.map backV).length ≤ sizeLine := by
        rw [List.length_map, g2.perm.length_eq, ← rv.length]
        exact hz
      refine wpAny_pure ⟨_, rfl, .ref h'.objs.size, upd H h'.objs.size (.lst (out.map backV)), I1.laid (t' := s.toks) (fun b u e => ?_) (Nat.le_refl _)
        (show ObjOk X.prog X.w _ _ _ (.lst (out.map backV)) from ⟨len, out, e', vals_back refs, he'⟩), rfl, q _ (out.map (kkOf s.heap)) _ (pall_back fun v m => (f v (back v m)).2) ?_ ?_ (I1.hok.fresh (Nat.le_refl _))⟩
      · have hb : b < h'.objs.size := Heap.lt_size e
        rw [PyProof.Rows.sortedHeap_old (Nat.ne_of_lt hb) (by rw [size_push']; exact Nat.lt_succ_of_lt hb)]
        exact Heap.get?_push_of_some _ e
      · rw [← e]
        exact g2.perm.map _
      · refine List.pairwise_map.mpr (g1.imp fun {x y} z => ?_)
        have z2 := SrtO.lexB_no.mp z
        unfold leT
        omega
/-! ### set of a tuple of pairs -/
def rSetOfTT (K : PySem.W.Frag) (P : Program) (w : World) : List V → Hp → VK → Prop := fun xs H Q => ∃ (l : Addr) (ks : List (Addr × List Int)), xs = [V.ref l] ∧ SqT K H l (ks.map fun p => V.ref p.1) ∧ (∀ p ∈ ks, SqT K H p.1 (p.2.map V.int)) ∧ ks.length < 64 ∧
  ∀ a L, H a = none → (∀ p ∈ L, p ∈ ks) → (∀ p ∈ ks, p.2 ∈ L.map (·.2)) → Q (.ref a) (upd H a (SetTO P w a L))
theorem cr_setOfTT (hc : X.calm = true) (hu : X.A.units + 64 < cLine) : CallR X (.type "set") (rSetOfTT X.K X.prog X.w) := by
  intro pins s σ H xs us Q I r h
  obtain ⟨l, ks, rfl, hl, hk, hf, q⟩ := h
  rw [Vals.ref1 r]
  obtain ⟨its, rv, pl, hz⟩ := I.tuple hl
  have hn : H s.heap.objs.size = none := I.hok.fresh (Nat.le_refl _)
  refine call_set_tupsT (P := X.prog) (w := X.w) ks (I.ok.hd hc) pl (by simpa using refs_of_vals rv) (fun p hp => I.isT (hk p hp)) hf (by omega) fun h' tk L es ep t R g k => ?_
  refine ⟨.ref s.heap.objs.size, upd H s.heap.objs.size (SetTO X.prog X.w s.heap.objs.size L), I.laid (t' := tk) k (Nat.le_refl _) (setTO_new R.t0), rfl, q _ L hn (fun p hp => ?_) fun p hp => ?_⟩
  · exact List.mem_of_mem_take (g.sub p hp)
  · exact g.all p (by rw [List.take_length]; exact hp)
end

end My
namespace My
open PySem L2
/-! ### forests drawn from the store -/
theorem kind_at {r : Int} (d0 : 0 ≤ r) (d1 : r < 8) : ∃ c : Nat, atI ("abcdefgh" : Str).cps.toList r = some c ∧ (⟨#[c]⟩ : Str) ∈ kinds := by
  have hc : r = 0 ∨ r = 1 ∨ r = 2 ∨ r = 3 ∨ r = 4 ∨ r = 5 ∨ r = 6 ∨ r = 7 := by omega
  rcases hc with h | h | h | h | h | h | h | h
  all_goals
    subst h
    exact ⟨_, rfl, by decide +kernel⟩
section
variable {P : Program} {w : World} {K : PySem.W.Frag} {mg : Str → Option Value} {base : Heap}
theorem ok_forest (T : Top K mg) : FnOk P w K mg base CX0 3 T.a_Lforest T.d_Lforest ["_law_draws", "_law_most"] (spForest K) := by
  have G_Lnext : FnOk P w K mg base CX0 1 _ _ _ _ := ok_nextD T
  have G_Lmany : FnOk P w K mg base CX0 2 _ _ _ _ := ok_manyD T
  have G_Lworth : FnOk P w K mg base CX0 2 _ _ _ _ := ok_worthD T
  refine T.F_Lforest.ok sc_Lforest (fun vs H Q E h => ?_) (fun cdv A outer s H vs Q E hr h => ?_)
  · obtain ⟨b, L, m, rfl, _⟩ := h
    rfl
  · obtain ⟨b, L, m, rfl, B, m0, m1, q⟩ := h
    refine ⟨_, (pss_cons (ps_set (i := 2) sc_Lforest.nd rfl (.inl rfl) (pe_op op_add pe_int (pe_call G_Lmany hr (by rfl) T.g_Lmany T.F_Lmany.kp T.b_Lmany .nil pass0 (pa_cons (pv 0) (pa_cons pe_int (pa_cons (pe_op op_sub (pv 1) pe_int) pa_nil))))))
      (pss_cons (ps_set (i := 3) sc_Lforest.nd rfl (.inl rfl) (pe_lst pa_nil))
      (pss_cons (ps_for PassesOwn.never rfl (pi_range1 (by rfl) T.m_range (pa_cons (pv 2) pa_nil)) (pg_name (i := 4) sc_Lforest.nd rfl (.inl rfl)) (pss_one (ps_expr (pe_bm PySem.F.plainAttrs_list PySem.F.slot_list_insert PySem.F.type_list_insert mt_insert (pv 3) (pa_cons (pe_call G_Lnext (hr.mono (by decide)) (by rfl) T.g_Lnext T.F_Lnext.kp T.b_Lnext .nil pass0 (pa_cons (pv 0) (pa_cons (pe_op op_add (pv 4) pe_int) pa_nil))) (pa_cons (pv 4) pa_nil))))))
      (pss_cons (ps_par (i := 5) (j := 6) (by rfl) sc_Lforest.nd rfl rfl (by decide) rfl rfl (pa_cons (pe_call G_Lnext (hr.mono (by decide)) (by rfl) T.g_Lnext T.F_Lnext.kp T.b_Lnext .nil pass0 (pa_cons (pv 0) (pa_cons pe_int pa_nil))) (pa_cons (pe_ix ix_list (pe_lst (pa_cons pe_int (pa_cons pe_int (pa_cons pe_int pa_nil)))) (pe_call G_Lnext (hr.mono (by decide)) (by rfl) T.g_Lnext T.F_Lnext.kp T.b_Lnext .nil pass0 (pa_cons (pv 0) (pa_cons pe_int pa_nil))) (fun _ _ => rfl)) pa_nil)) (by rfl))
      (pss_cons (ps_set (i := 7) sc_Lforest.nd rfl (.inl rfl) (pe_lst pa_nil))
      (pss_cons (ps_for PassesOwn.never rfl (pi_range2 (by rfl) T.m_range (pa_cons pe_int (pa_cons (pv 2) pa_nil))) (pg_name (i := 4) sc_Lforest.nd rfl (.inl rfl)) (pss_cons (ps_set (i := 8) sc_Lforest.nd rfl (.inl rfl) (pe_ix ix_list (pe_lst (pa_cons (pe_op op_sub (pv 4) pe_int) (pa_cons pe_int (pa_cons (pe_call G_Lnext (hr.mono (by decide)) (by rfl) T.g_Lnext T.F_Lnext.kp T.b_Lnext .nil pass0 (pa_cons (pv 0) (pa_cons (pv 4) pa_nil))) (pa_cons (pe_callB (call_max2 rfl) (by rfl) T.m_max (by decide +kernel) (pa_cons pe_int (pa_cons (pe_op op_sub (pe_op op_sub (pv 4) pe_int) (pe_call G_Lnext (hr.mono (by decide)) (by rfl) T.g_Lnext T.F_Lnext.kp T.b_Lnext .nil pass0 (pa_cons (pv 0) (pa_cons pe_int pa_nil)))) pa_nil))) (pa_cons (pe_op op_fdivW (pe_op op_sub (pv 4) pe_int) pe_int) pa_nil)))))) (pv 5) (fun _ _ => rfl)))
      (pss_one (ps_if (pt_mid (PW.pt (pw_or (pt_cmpR op_eq (pv 6) pe_int (nomark _)) (pw_or1 (pt_cmpR op_gt (pe_call G_Lnext (hr.mono (by decide)) (by rfl) T.g_Lnext T.F_Lnext.kp T.b_Lnext .nil pass0 (pa_cons (pv 0) (pa_cons (pv 6) pa_nil))) pe_int (nomark _)))))) (pss_one (ps_expr (pe_bm PySem.F.plainAttrs_list PySem.F.slot_list_append PySem.F.type_list_append mt_append (pv 7) (pa_cons (pe_tup (pa_cons (pe_callB (call_min2 rfl) (by rfl) T.m_min (by decide +kernel) (pa_cons (pe_ix ix_list (pv 3) (pv 8) (fun _ _ => rfl)) (pa_cons (pe_ix ix_list (pv 3) (pv 4) (fun _ _ => rfl)) pa_nil))) (pa_cons (pe_callB (call_max2 rfl) (by rfl) T.m_max (by decide +kernel) (pa_cons (pe_ix ix_list (pv 3) (pv 8) (fun _ _ => rfl)) (pa_cons (pe_ix ix_list (pv 3) (pv 4) (fun _ _ => rfl)) pa_nil))) pa_nil))) pa_nil)))) pss_nil))))
      (pss_cons (ps_set (i := 9) sc_Lforest.nd rfl (.inl rfl) (pe_callTy call_tuple_of (by rfl) T.m_tuple (by decide +kernel) (pa_cons (pe_lc (own := [("_law_k", 4)]) (g := gName 4) (tt := tYes) (by rfl) sc_Lforest.nd (pi_range1 (by rfl) T.m_range (pa_cons (pv 2) pa_nil)) (blkOk_by (own := [("_law_k", 4)]) (N := ["_law_draws", "_law_most", "_law_many_here", "_law_names", "_law_k", "_law_way", "_law_rare", "_law_ties", "_law_former", "_law_points"]) (sc := defScope s_Lforest) (by decide +kernel)) (fun _ _ _ _ _ => (pg_name (i := 4) sc_Lforest.nd rfl (.inl rfl))) (fun _ _ _ _ _ => pts_nil) (fun _ _ _ _ _ => (pe_tup (pa_cons (pe_call G_Lworth hr (by rfl) T.g_Lworth T.F_Lworth.kp T.b_Lworth .nil pass0 (pa_cons (pv 0) pa_nil)) (pa_cons (pe_ix ix_str pe_str (pe_call G_Lnext (hr.mono (by decide)) (by rfl) T.g_Lnext T.F_Lnext.kp T.b_Lnext .nil pass0 (pa_cons (pv 0) (pa_cons pe_int pa_nil))) (fun _ _ => rfl)) pa_nil))))) pa_nil)))
      (pss_one (ps_ret (pe_tup (pa_cons (pv 9) (pa_cons (pe_callTy call_tuple_of (by rfl) T.m_tuple (by decide +kernel) (pa_cons (pe_callB cr_sortedPH (by rfl) T.m_sorted (by decide +kernel) (pa_cons (pv 7) pa_nil)) pa_nil)) pa_nil)))))))))))), ?_⟩
    refine ⟨_, rfl, _, rfl, _, _, rfl, rfl, b, L, 8, m - 1, rfl, B, by decide, by omega, by decide, by omega, fun x1 H1 a0 a1 B1 k1 => ⟨_, _, rfl, rfl, Nat.zero_le _, fun nm nnm => ?_⟩⟩
    have nnb : nm ≠ b := B1.ne nnm
    have nnL : nm ≠ L := B1.neL nnm
    have a2 : x1 ≤ m - 1 := by omega
    clear a1
    refine ⟨_, rfl, _, rfl, by omega, by omega, for_range (lo := 0) (n := (1 + x1).toNat) (fun i σ H3 => ∃ (ns : List Int) (y6 : Option V), σ = [some (.ref b), some (.int m), some (.int (1 + x1)), some (.ref nm), y6, none, none, none, none, none] ∧ DrAt H3 b L ∧ H3 nm = some (.lst (ns.map V.int)) ∧ Names i ns ∧ But b H1 H3)
      ⟨[], none, rfl, B1.new nnm, upd_same, ⟨rfl, (fun x z => nomatch z), List.nodup_nil⟩, But.refl.new nnm⟩ ?_ ?_⟩
    · rintro i σ H3 hi ⟨ns, y6, rfl, B3, hnm, hN, k3⟩
      have e0 : (0 : Int) + (i : Int) = (i : Int) := by omega
      refine ⟨_, rfl, .inl ⟨rfl, _, SqL.of hnm⟩, _, rfl, _, rfl, _, _, rfl, rfl, b, L, _, rfl, B3, (by show (0 : Int) < 0 + (i : Int) + 1; omega), (by show (0 : Int) + (i : Int) + 1 < 2 ^ 100; omega), fun x3 H4 z0 z1 B4 k4 => ⟨_, rfl, ?_⟩⟩
      have h4 := k4 _ _ hnm nnb
      refine ⟨nm, _, _, _, rfl, rfl, h4, szl (by rw [List.length_map, hN.1]; omega), z0, by omega, ?_⟩
      refine ⟨ns.take x3.toNat ++ [(i : Int)] ++ ns.drop x3.toNat, _, rfl, B4.put nnb nnL, ?_, names_put hN, fun a o e ne => ?_⟩
      · rw [upd_same, e0, List.map_append, List.map_append, List.map_take, List.map_drop]
        rfl
      · rw [upd_ne (ne_of_none e nnm)]
        exact k4 _ _ (k3 _ _ e ne) ne
    · rintro σ H3 ⟨ns, y6, rfl, B3, hnm, hN, k3⟩
      have nmy : (ns.length : Int) = 1 + x1 := by
        have := hN.1
        omega
      have pk : ∀ k : Int, 0 ≤ k → k < 1 + x1 → ∃ v : Int, atI (ns.map V.int) k = some (.int v) ∧ 0 ≤ v ∧ v < 1 + x1 ∧ ns[k.toNat]? = some v := fun k k0 k1 => by
        have hkl : k.toNat < ns.length := by omega
        have ek : k = ((k.toNat : Nat) : Int) := by omega
        have hg : ns[k.toNat]? = some ns[k.toNat] := List.getElem?_eq_getElem hkl
        have hv : atI (ns.map V.int) ((k.toNat : Nat) : Int) = some (.int ns[k.toNat]) := atI_nat (by rw [List.getElem?_map, hg]; rfl)
        rw [← ek] at hv
        have := hN.2.1 _ (List.mem_of_getElem? hg)
        have := hN.1
        exact ⟨_, hv, by omega, by omega, hg⟩
      refine ⟨_, rfl, b, L, 5, rfl, B3, by decide, by decide, fun sh H4 s0 s1 B4 k4 => ⟨(by show 3 ≤ sizeLine; decide), fun p np => ?_⟩⟩
      refine ⟨_, rfl, b, L, 3, rfl, B4.new np, by decide, by decide, fun rz H5 r0 r1 B5 k5 => ?_⟩
      have hp5 := k5 _ _ upd_same (B4.ne np)
      have pick : ∃ v : Int, atI [V.int 0, V.int 7, V.int 3] rz = some (.int v) ∧ 0 ≤ v ∧ v < 10 := by
        have hc : rz = 0 ∨ rz = 1 ∨ rz = 2 := by omega
        rcases hc with rfl | rfl | rfl
        all_goals exact ⟨_, rfl, by decide, by decide⟩
      obtain ⟨ra, hra, ra0, ra1⟩ := pick
      refine ⟨p, _, _, _, rfl, rfl, SqL.of hp5, hra, _, _, rfl, Nat.zero_le _, fun tl ntl => ?_⟩
      have k35 : But b H3 H5 := ((k4.new np).trans k5)
      have hnm5 := k35 _ _ hnm nnb
      have ntb : tl ≠ b := B5.ne ntl
      have ntL : tl ≠ L := B5.neL ntl
      have ntn : nm ≠ tl := ne_of_none hnm5 ntl
      have hnm' : (upd H5 tl (.lst [])) nm = some (.lst (ns.map V.int)) := by
        rw [upd_ne ntn]
        exact hnm5
      refine ⟨_, rfl, _, _, rfl, ⟨by decide, by decide, by omega, by omega⟩, for_range (lo := 1) (n := _) (fun i σ H6 => ∃ (xs : List V) (ts : List (Int × Int)) (y6 y9 : Option V), σ = [some (.ref b), some (.int m), some (.int (1 + x1)), some (.ref nm), y6, some (.int sh), some (.int ra), some (.ref tl), y9, none] ∧ DrAt H6 b L ∧ H6 nm = some (.lst (ns.map V.int)) ∧ H6 tl = some (.lst xs) ∧ PAll H6 xs ts ∧ ts.length ≤ i ∧ (∀ t ∈ ts, 0 ≤ t.1 ∧ 0 ≤ t.2 ∧ t.1 < 1 + x1 ∧ t.2 < 1 + x1 ∧ t.1 ≤ t.2) ∧ (Tree ts ∧ ts.Nodup ∧ ∀ t ∈ ts, t.1 ∈ ns.take (1 + i) ∧ t.2 ∈ ns.take (1 + i)) ∧ But b H5 H6)
        ⟨[], [], _, none, rfl, B5.new ntl, hnm', upd_same, .nil, Nat.zero_le _, (fun t z => nomatch z), ⟨tree_nil, List.nodup_nil, (fun t z => nomatch z)⟩, But.refl.new ntl⟩ ?_ ?_⟩
      · rintro i σ H5' hi ⟨xs, ts, y6, y9, rfl, B5', hnm5', htl5, pa5, hl5, ht5, ⟨tr5, tn5, tm5⟩, k5'⟩
        have hk0 : (1 : Int) ≤ 1 + (i : Int) := by omega
        have hk1 : (1 : Int) + (i : Int) < 1 + x1 := by omega
        generalize hk : (1 : Int) + (i : Int) = k at hk0 hk1
        refine ⟨_, rfl, _, _, rfl, rfl, _, rfl, _, rfl, b, L, k, rfl, B5', by omega, by omega, fun x5 H6 z0 z1 B6 k6 => ?_⟩
        refine ⟨_, rfl, _, _, rfl, rfl, _, rfl, b, L, 3, rfl, B6, by decide, by decide, fun x6 H7 w0 w1 B7 k7 => ⟨_, _, rfl, rfl, _, _, rfl, _, rfl, _, _, rfl, rfl, _, _, rfl, rfl, wide_ok (by decide) (by decide), (by show 5 ≤ sizeLine; decide), fun p np => ?_⟩⟩
        have pick : ∃ v : Int, atI [V.int (k - 1), V.int 0, V.int x5, V.int (if k - 1 - x6 > 0 then k - 1 - x6 else 0), V.int ((k - 1) / 2)] sh = some (.int v) ∧ 0 ≤ v ∧ v < k := by
          have hc : sh = 0 ∨ sh = 1 ∨ sh = 2 ∨ sh = 3 ∨ sh = 4 := by omega
          rcases hc with h | h | h | h | h
          all_goals subst h
          · exact ⟨_, rfl, by omega, by omega⟩
          · exact ⟨_, rfl, by omega, by omega⟩
          · exact ⟨_, rfl, by omega, by omega⟩
          · refine ⟨_, rfl, ?_, ?_⟩ <;> split <;> omega
          · exact ⟨_, rfl, by omega, by omega⟩
        obtain ⟨u, hu, u0, u1⟩ := pick
        refine ⟨_, rfl, p, _, _, _, rfl, rfl, SqL.of upd_same, hu, ?_⟩
        have B8 : DrAt (upd H7 p (.lst [V.int (k - 1), V.int 0, V.int x5, V.int (if k - 1 - x6 > 0 then k - 1 - x6 else 0), V.int ((k - 1) / 2)])) b L := B7.new np
        have k8 : But b H5' (upd H7 p (.lst [V.int (k - 1), V.int 0, V.int x5, V.int (if k - 1 - x6 > 0 then k - 1 - x6 else 0), V.int ((k - 1) / 2)])) := (k6.trans k7).new np
        generalize (upd H7 p (.lst [V.int (k - 1), V.int 0, V.int x5, V.int (if k - 1 - x6 > 0 then k - 1 - x6 else 0), V.int ((k - 1) / 2)])) = H8 at B8 k8
        have hnm8 := k8 _ _ hnm5' nnb
        have htl8 := k8 _ _ htl5 ntb
        have pa8 := pa5.but B5' k8
        refine ⟨fun _ H9 => DrAt H9 b L ∧ But b H8 H9, ?_, ?_⟩
        · refine ⟨_, rfl, rfl, _, rfl, ite2 (fun _ => ⟨B8, But.refl⟩) (fun e9 => ?_)⟩
          have ra2 : 0 < ra := by
            by_cases z : ra = 0
            · exfalso
              subst z
              exact absurd e9 (by decide)
            · omega
          exact ⟨_, rfl, _, rfl, b, L, ra, rfl, B8, ra2, by omega, fun x8 H9 _ _ B9 k9 => ⟨_, _, rfl, rfl, _, rfl, B9, k9⟩⟩
        · rintro bb H9 ⟨B9, k9⟩
          have hnm9 := k9 _ _ hnm8 nnb
          have htl9 := k9 _ _ htl8 ntb
          have pa9 := pa8.but B8 k9
          have k59 := (k5'.trans k8).trans k9
          refine ite2 (fun _ => ?_) (fun _ => ?_)
          · obtain ⟨v1, hv1, c1, b1, g1⟩ := pk k (by omega) hk1
            obtain ⟨v2, hv2, c2, b2, g2⟩ := pk u u0 (by omega)
            refine ⟨_, rfl, .inl ⟨rfl, _, SqL.of htl9⟩, _, rfl, _, rfl, nm, _, _, _, rfl, rfl, SqL.of hnm9, hv2, _, rfl, _, rfl, nm, _, _, _, rfl, rfl, SqL.of hnm9, hv1, _, _, rfl, _, rfl, _, rfl, nm, _, _, _, rfl, rfl, SqL.of hnm9, hv2, _, rfl, _, rfl, nm, _, _, _, rfl, rfl, SqL.of hnm9, hv1, _, _, rfl, (by show 2 ≤ sizeLine; decide), fun t nt => ?_⟩
            have e1 : (if v1 < v2 then v1 else v2) = (if v2 < v1 then v2 else v1) := by
              split <;> split <;> omega
            have e2 : (if v1 > v2 then v1 else v2) = (if v2 > v1 then v2 else v1) := by
              split <;> split <;> omega
            rw [e1, e2]
            have nt1 : tl ≠ t := ne_of_none htl9 nt
            have nt2 : nm ≠ t := ne_of_none hnm9 nt
            have htl10 : (upd H9 t (.tup [.int (if v2 < v1 then v2 else v1), .int (if v2 > v1 then v2 else v1)])) tl = some (.lst xs) := by
              rw [upd_ne nt1]
              exact htl9
            refine ⟨tl, _, _, rfl, rfl, htl10, szl ?_, ?_⟩
            · have := pa9.length
              omega
            · refine ⟨xs ++ [.ref t], ts ++ [((if v2 < v1 then v2 else v1), (if v2 > v1 then v2 else v1))], _, _, rfl, (B9.new nt).put ntb ntL, ?_, upd_same, ?_, ?_, ?_, ?_, ?_⟩
              · rw [upd_ne ntn, upd_ne nt2]
                exact hnm9
              · exact (PAll.snoc upd_same (pa9.same (same_new nt))).put htl10
              · rw [List.length_append]
                show ts.length + 1 ≤ i + 1
                omega
              · intro t' m'
                rcases List.mem_append.mp m' with m' | m'
                · exact ht5 t' m'
                · rcases List.mem_cons.mp m' with e | m'
                  · subst e
                    dsimp only
                    refine ⟨?_, ?_, ?_, ?_, ?_⟩ <;> split <;> (try split) <;> omega
                  · cases m'
              · have ek : k.toNat = 1 + i := by omega
                have z := tie_more (i := i) (k := 1 + i) (u := u.toNat) hN.2.2 rfl (by rw [← ek]; exact g1) g2 (by omega) tr5 tn5 tm5
                exact z
              · intro a o e ne
                have z := k59 _ _ e ne
                rw [upd_ne (ne_of_none e ntl), upd_ne (ne_of_none z nt)]
                exact z
          · refine ⟨xs, ts, _, _, rfl, B9, hnm9, htl9, pa9, by omega, ht5, ⟨tr5, tn5, fun t m => ?_⟩, k59⟩
            have up : ∀ {x : Int}, x ∈ ns.take (1 + i) → x ∈ ns.take (1 + (i + 1)) := fun {x} m => by
              rw [show 1 + (i + 1) = (1 + i) + 1 from rfl, List.take_succ]
              exact List.mem_append_left _ m
            exact ⟨up (tm5 t m).1, up (tm5 t m).2⟩
      · rintro σ H5' ⟨xs, ts, y6, y9, rfl, B5', hnm5', htl5, pa5, hl5, ht5, ⟨tr5, tn5, tm5⟩, k5'⟩
        refine ⟨_, rfl, _, rfl, by omega, by omega, fun D nD => ?_⟩
        have nDb : D ≠ b := B5'.ne nD
        have nDL : D ≠ L := B5'.neL nD
        refine lc_range (lo := 0) (n := (1 + x1).toNat) (fun i H6 => DrAt H6 b L ∧ ∃ (pts : List (Int × Str)) (ys : List V), H6 D = some (.lst ys) ∧ QAll H6 ys pts ∧ pts.length = i ∧ (∀ p ∈ pts, PtOk p) ∧ But b H5' H6) ⟨B5'.new nD, [], [], upd_same, .nil, rfl, (fun p z => nomatch z), But.refl.new nD⟩ ?_ ?_
        · rintro i H6 hi ⟨B6, pts, ys, hD6, hp6, hl6, ho6, k6⟩
          refine ⟨rfl, yes_ite ?_⟩
          refine ⟨_, rfl, b, L, rfl, B6, fun x H7 hx0 hx1 B7 k7 => ⟨_, rfl, b, L, 8, rfl, B7, by decide, by decide, fun kx H8 kx0 kx1 B8 k8 => ?_⟩⟩
          obtain ⟨c, hc, ck⟩ := kind_at kx0 kx1
          refine ⟨_, _, _, rfl, rfl, (by decide +kernel), hc, (by show 2 ≤ sizeLine; decide), fun p np => ?_⟩
          have s9 := same_new (o := .tup [.int x, .str ⟨#[c]⟩]) np
          have k69 : But b H6 (upd H8 p (.tup [.int x, .str ⟨#[c]⟩])) := (k7.trans k8).new np
          have B9 := B8.new (o := .tup [.int x, .str ⟨#[c]⟩]) np
          have hp9 : (upd H8 p (.tup [.int x, .str ⟨#[c]⟩])) p = some (.tup [.int x, .str ⟨#[c]⟩]) := upd_same
          generalize upd H8 p (.tup [.int x, .str ⟨#[c]⟩]) = H9 at s9 k69 B9 hp9
          have hD9 := k69 _ _ hD6 nDb
          have hl7 := hp6.length
          refine ⟨ys, hD9, szl (by omega), B9.put nDb nDL, pts ++ [(x, ⟨#[c]⟩)], ys ++ [.ref p], upd_same, ?_, ?_, ?_, ?_⟩
          · exact (QAll.snoc hp9 (hp6.but B6 k69)).put hD9
          · rw [List.length_append, hl6]
            rfl
          · intro p' m'
            rcases List.mem_append.mp m' with m' | m'
            · exact ho6 p' m'
            · rcases List.mem_cons.mp m' with e | m'
              · subst e
                exact ⟨hx0, hx1, ck⟩
              · cases m'
          · intro a o e ne
            rw [upd_ne (ne_of_none e nD)]
            exact k69 _ _ (k6 _ _ e ne) ne
        · rintro H6 ⟨B6, pts, ys, hD6, hp6, hl6, ho6, k6⟩
          refine ⟨D, ys, rfl, .inl ⟨SqL.of hD6, fun a1 n1 => ?_⟩⟩
          have s7 := same_new (o := .tup ys) n1
          have htl7 := s7 _ _ (k6 _ _ htl5 ntb)
          have pa7 := (pa5.but B5' k6).same s7
          refine ⟨_, rfl, _, rfl, tl, xs, _, rfl, .inl (SqL.of htl7), pa7, fun zs us p8 tdz pu up n8 => ?_⟩
          have s8 := same_new (o := .lst zs) n8
          refine ⟨p8, zs, rfl, .inl ⟨SqL.of upd_same, fun a2 n2 => ?_⟩⟩
          have s9 := same_new (o := .tup zs) n2
          refine ⟨(by show 2 ≤ sizeLine; decide), fun r nr => ?_⟩
          have s10 := same_new (o := .tup [.ref a1, .ref a2]) nr
          have tail : Same H6 _ := (((s7.trans s8).trans s9).trans s10)
          have hd1 := s10 _ _ (s9 _ _ (s8 _ _ (upd_same (H := H6) (a := a1) (o := .tup ys))))
          have hd2 := s10 _ _ (upd_same (H := upd (upd H6 a1 (.tup ys)) p8 (.lst zs)) (a := a2) (o := .tup zs))
          refine q r a1 a2 ys zs pts us _ ⟨by omega, by omega, ho6, fun t m' => ?_, ?_, tree_perm (fun t => (pu.mem_iff (a := t)).symm) tr5, pu.nodup_iff.mpr tn5⟩ ?_ ?_ ?_ ((B6.same tail)) ((((k1.trans k3).trans k35).trans k5').trans k6 |>.same tail) upd_same hd1 hd2 (hp6.same tail) (tdz.same ((s8.trans s9).trans s10))
          · have := ht5 t (pu.mem_iff.mp m')
            omega
          · have := pu.length_eq
            omega
          · omega
          · exact fun t m' => (ht5 t (pu.mem_iff.mp m')).2.2.2.2
          · exact up
end

end My
namespace My
open PySem L2
theorem tabg_same {H H' : Hp} {P : Addr} (s : Same H H') (g : GxR.TabG H P) : GxR.TabG H' P := by
  obtain ⟨ps, h, t⟩ := g
  exact ⟨ps, s _ _ h, t⟩
/-! ### the tables of code made on the way: what is no table stays -/
theorem But.of_same {P : Addr} {H H' : Hp} (s : Same H H') : But P H H' := fun a o e _ => s a o e
theorem But.of_tab {P : Addr} {H H' : Hp} (t : GxR.Tabbed P H H') : But P H H' := fun a o e n => (t.2 a n).trans e
theorem Kp.of_but {P : Addr} {H H' : Hp} (g : GxR.TabG H P) (k : But P H H') : Kp H H' := fun a o e n => by
  refine k a o e fun h => ?_
  subst h
  obtain ⟨ps, hp, _⟩ := g
  rw [hp] at e
  exact n ps (Option.some.inj e).symm
theorem TabG.ne {P a : Addr} {H : Hp} {o : HO} (g : GxR.TabG H P) (e : H a = some o) (n : ∀ ps, o ≠ .tbl ps) : a ≠ P := fun h => by
  subst h
  obtain ⟨ps, hp, _⟩ := g
  rw [hp] at e
  exact n ps (Option.some.inj e).symm
/-! ### tables kept -/
theorem tabg_but {H H' : Hp} {b L P : Addr} (B : DrAt H b L) (k : But b H H') (g : GxR.TabG H P) : GxR.TabG H' P := by
  obtain ⟨kvs, h1⟩ := B.dk
  obtain ⟨ps, hp, t⟩ := g
  exact ⟨ps, k _ _ hp (ne_of hp h1 (by intro z; cases z)), t⟩
theorem tabs_but {H H' : Hp} {b L P : Addr} {q : Str} (B : DrAt H b L) (k : But b H H') (g : LamX.TabS H P q) : LamX.TabS H' P q := by
  obtain ⟨kvs, h1⟩ := B.dk
  obtain ⟨ps, hp, t, e⟩ := g
  refine ⟨ps, k _ _ hp (ne_of hp h1 (by intro z; cases z)), t, fun pos cv hc => ?_⟩
  obtain ⟨c, e1, e2⟩ := e pos cv hc
  exact ⟨c, e1, k _ _ e2 (ne_of e2 h1 (by intro z; cases z))⟩
theorem tabs_same {H H' : Hp} {P : Addr} {q : Str} (s : Same H H') (g : LamX.TabS H P q) : LamX.TabS H' P q := g.ext s
/-- the other table's writing -/
theorem tabs_other {H H' : Hp} {P R : Addr} {q : Str} (n : P ≠ R) (gR : GxR.TabG H R) (k : But R H H') (g : LamX.TabS H P q) : LamX.TabS H' P q := by
  obtain ⟨ps, hp, t, e⟩ := g
  refine ⟨ps, k _ _ hp n, t, fun pos cv hc => ?_⟩
  obtain ⟨c, e1, e2⟩ := e pos cv hc
  exact ⟨c, e1, k _ _ e2 (TabG.ne gR e2 LamX.codeO_ne)⟩
theorem tabg_other {H H' : Hp} {P R : Addr} (n : R ≠ P) (k : But P H H') (g : GxR.TabG H R) : GxR.TabG H' R := by
  obtain ⟨ps, hp, t⟩ := g
  exact ⟨ps, k _ _ hp n, t⟩
theorem TabS.g {H : Hp} {P : Addr} {q : Str} (g : LamX.TabS H P q) : GxR.TabG H P := by
  obtain ⟨ps, hp, t, _⟩ := g
  exact ⟨ps, hp, t⟩
theorem Tups.of_tab {K : PySem.W.Frag} {H H' : Hp} {P : Addr} (g : GxR.TabG H P) (k : But P H H') : Tups K H H' := fun a xs h => by
  rcases h with h | h
  · rcases h with h | ⟨o, h⟩
    · exact .inl (.inl (k _ _ h (TabG.ne g h (by intro ps z; cases z))))
    · exact .inl (.inr ⟨o, k _ _ h (TabG.ne g h (by intro ps z; cases z))⟩)
  · exact .inr h

theorem Tups.of_kp {K : PySem.W.Frag} {H H' : Hp} (k : Kp H H') : Tups K H H' := fun a xs h => by
  rcases h with h | h
  · rcases h with h | ⟨o, h⟩
    · exact .inl (.inl (k _ _ h (by intro ps z; cases z)))
    · exact .inl (.inr ⟨o, k _ _ h (by intro ps z; cases z)⟩)
  · exact .inr h
theorem Kp.same {H H1 H2 : Hp} (k : Kp H H1) (s : Same H1 H2) : Kp H H2 := k.trans (Kp.of_same s)
theorem DrAt.kp {H H' : Hp} {b L : Addr} (B : DrAt H b L) (k : Kp H H') : DrAt H' b L := by
  obtain ⟨ns, ⟨⟨a, l, x, h, r⟩, e⟩⟩ := B.ex
  exact ⟨ns, ⟨a, l, x, k _ _ h (by intro ps z; cases z), r⟩, k _ _ e (by intro ps z; cases z)⟩
/-- each table as it has to be: of generators (none), of lambdas that stand in one def (its name) -/
def Tb (ts : List (Addr × Option Str)) (H : Hp) : Prop := ∀ t ∈ ts, match t.2 with | none => GxR.TabG H t.1 | some q => LamX.TabS H t.1 q
section
variable {ts : List (Addr × Option Str)} {H H' : Hp}
theorem Tb.g {P : Addr} (h : Tb ts H) (m : (P, none) ∈ ts) : GxR.TabG H P := h _ m
theorem Tb.s {P : Addr} {q : Str} (h : Tb ts H) (m : (P, some q) ∈ ts) : LamX.TabS H P q := h _ m
theorem Tb.mk (h : ∀ P, (P, none) ∈ ts → GxR.TabG H P) (k : ∀ P q, (P, some q) ∈ ts → LamX.TabS H P q) : Tb ts H := fun t m => by
  obtain ⟨P, o⟩ := t
  cases o with
  | none => exact h P m
  | some q => exact k P q m
theorem Tb.same (h : Tb ts H) (s : Same H H') : Tb ts H' := .mk (fun P m => tabg_same s (h.g m)) (fun P q m => tabs_same s (h.s m))
theorem Tb.but {b L : Addr} (h : Tb ts H) (B : DrAt H b L) (k : But b H H') : Tb ts H' := .mk (fun P m => tabg_but B k (h.g m)) (fun P q m => tabs_but B k (h.s m))
theorem nd_fst : ∀ {ts : List (Addr × Option Str)}, (ts.map (·.1)).Nodup → ∀ {x y : Addr × Option Str}, x ∈ ts → y ∈ ts → x.1 = y.1 → x = y
  | [], _, _, _, hx, _, _ => nomatch hx
  | t :: r, nd, x, y, hx, hy, e => by
    rw [List.map_cons, List.nodup_cons] at nd
    rcases List.mem_cons.mp hx with e1 | h1
    · rcases List.mem_cons.mp hy with e2 | h2
      · rw [e1, e2]
      · exact absurd (List.mem_map.mpr ⟨y, h2, by rw [← e, e1]⟩) nd.1
    · rcases List.mem_cons.mp hy with e2 | h2
      · exact absurd (List.mem_map.mpr ⟨x, h1, by rw [e, e2]⟩) nd.1
      · exact nd_fst nd.2 h1 h2 e
/-- one of generators was written -/
theorem Tb.tab {P : Addr} (h : Tb ts H) (nd : (ts.map (·.1)).Nodup) (m : (P, none) ∈ ts) (k : But P H H') (g : GxR.TabG H' P) : Tb ts H' := by
  refine .mk (fun R mR => ?_) (fun R q mR => ?_)
  · by_cases e : R = P
    · subst e
      exact g
    · exact tabg_other e k (h.g mR)
  · refine tabs_other (fun e => ?_) (h.g m) k (h.s mR)
    subst e
    cases nd_fst nd m mR rfl
/-- one of lambdas was written -/
theorem Tb.lam {P : Addr} {q : Str} (h : Tb ts H) (nd : (ts.map (·.1)).Nodup) (m : (P, some q) ∈ ts) (k : But P H H') (g : LamX.TabS H' P q) : Tb ts H' := by
  refine .mk (fun R mR => ?_) (fun R q2 mR => ?_)
  · refine tabg_other (fun e => ?_) k (h.g mR)
    subst e
    cases nd_fst nd m mR rfl
  · by_cases e : R = P
    · subst e
      cases nd_fst nd m mR rfl
      exact g
    · exact tabs_other e (TabS.g (h.s m)) k (h.s mR)
end

section
variable {K : PySem.W.Frag} {mg : Str → Option Value}
def Top.tbs (T : Top K mg) : List (Addr × Option Str) := [(T.PA, none), (T.PR, none), (T.PY, none), (T.PZ, none)]
theorem Top.mA (T : Top K mg) : (T.PA, none) ∈ T.tbs := List.mem_cons_self
theorem Top.mR (T : Top K mg) : (T.PR, none) ∈ T.tbs := (List.mem_cons_of_mem _ List.mem_cons_self)
theorem Top.mY (T : Top K mg) : (T.PY, none) ∈ T.tbs := (List.mem_cons_of_mem _ (List.mem_cons_of_mem _ List.mem_cons_self))
theorem Top.mZ (T : Top K mg) : (T.PZ, none) ∈ T.tbs := (List.mem_cons_of_mem _ (List.mem_cons_of_mem _ (List.mem_cons_of_mem _ List.mem_cons_self)))
theorem Top.nd (T : Top K mg) : (T.tbs.map (·.1)).Nodup := T.neP
structure TBs (T : Top K mg) (base : Heap) : Prop where
  A : GxR.TabB base mg T.cA T.PA
  R : GxR.TabB base mg T.cR T.PR
  Y : GxR.TabB base mg T.cY T.PY
  Z : GxR.TabB base mg T.cZ T.PZ
theorem tbs0 (T : Top K mg) {H : Hp} (hA : H T.PA = some (.tbl #[])) (hR : H T.PR = some (.tbl #[])) (hY : H T.PY = some (.tbl #[])) (hZ : H T.PZ = some (.tbl #[])) : Tb T.tbs H := by
  intro t m
  rcases List.mem_cons.mp m with rfl | m
  · exact ⟨#[], hA, True.intro⟩
  rcases List.mem_cons.mp m with rfl | m
  · exact ⟨#[], hR, True.intro⟩
  rcases List.mem_cons.mp m with rfl | m
  · exact ⟨#[], hY, True.intro⟩
  rw [List.mem_singleton.mp m]
  exact ⟨#[], hZ, True.intro⟩
end
theorem mem1 {α : Type} {p a : α} (h : p ∈ [a]) : p = a := List.mem_singleton.mp h
theorem mem2 {α : Type} {p a0 a1 : α} (h : p ∈ [a0, a1]) : p = a0 ∨ p = a1 := (List.mem_cons.mp h).imp id mem1
theorem mem3 {α : Type} {p a0 a1 a2 : α} (h : p ∈ [a0, a1, a2]) : p = a0 ∨ p = a1 ∨ p = a2 := (List.mem_cons.mp h).imp id mem2
theorem mem4 {α : Type} {p a0 a1 a2 a3 : α} (h : p ∈ [a0, a1, a2, a3]) : p = a0 ∨ p = a1 ∨ p = a2 ∨ p = a3 := (List.mem_cons.mp h).imp id mem3
end My
namespace My
open PySem L2
/-! ### things and what they are -/
inductive Th
  | non
  | bl (b : Bool)
  | int (i : Int)
  | str (s : Str)
  | lst (ds : List Th)
  | tup (ds : List Th)
  | dct
def KpN (N : Addr → Prop) (H H' : Hp) : Prop := ∀ a o, N a → H a = some o → (∀ ps, o ≠ .tbl ps) → H' a = some o
theorem KpN.of_same {N : Addr → Prop} {H H' : Hp} (s : Same H H') : KpN N H H' := fun a o _ e _ => s a o e
theorem KpN.of_kp {N : Addr → Prop} {H H' : Hp} (s : Kp H H') : KpN N H H' := fun a o _ e n => s a o e n
theorem KpN.of_but {d : Addr} {H H' : Hp} (s : But d H H') : KpN (fun a => a ≠ d) H H' := fun a o n e _ => s a o e n
theorem KpN.tup {N : Addr → Prop} {H H' : Hp} (k : KpN N H H') {a : Addr} {xs : List V} (n : N a) (h : H a = some (.tup xs)) : H' a = some (.tup xs) := k _ _ n h (by intro ps z; cases z)
mutual
inductive ThV (N : Addr → Prop) (H : Hp) : V → Th → Prop
  | non : ThV N H .non .non
  | bl (b : Bool) : ThV N H (.bl b) (.bl b)
  | int (i : Int) : ThV N H (.int i) (.int i)
  | str (x : Str) : ThV N H (.str x) (.str x)
  | lst {a : Addr} {xs : List V} {ds : List Th} (n : N a) (h : H a = some (.lst xs)) (k : ThAll N H xs ds) : ThV N H (.ref a) (.lst ds)
  | tup {a : Addr} {xs : List V} {ds : List Th} (n : N a) (h : H a = some (.tup xs)) (k : ThAll N H xs ds) : ThV N H (.ref a) (.tup ds)
  | dct {a : Addr} {kvs : List (Key × V)} (n : N a) (h : H a = some (.dK kvs)) : ThV N H (.ref a) .dct
inductive ThAll (N : Addr → Prop) (H : Hp) : List V → List Th → Prop
  | nil : ThAll N H [] []
  | cons {v : V} {vs : List V} {d : Th} {ds : List Th} : ThV N H v d → ThAll N H vs ds → ThAll N H (v :: vs) (d :: ds)
end
mutual
theorem ThV.mono {N : Addr → Prop} {H H' : Hp} (t : KpN N H H') : ∀ {v : V} {d : Th}, ThV N H v d → ThV N H' v d
  | _, _, .non => .non
  | _, _, .bl b => .bl b
  | _, _, .int i => .int i
  | _, _, .str x => .str x
  | _, _, .lst n h k => .lst n (t _ _ n h (by intro ps z; cases z)) (ThAll.mono t k)
  | _, _, .tup n h k => .tup n (t _ _ n h (by intro ps z; cases z)) (ThAll.mono t k)
  | _, _, .dct n h => .dct n (t _ _ n h (by intro ps z; cases z))
theorem ThAll.mono {N : Addr → Prop} {H H' : Hp} (t : KpN N H H') : ∀ {vs : List V} {ds : List Th}, ThAll N H vs ds → ThAll N H' vs ds
  | _, _, .nil => .nil
  | _, _, .cons h k => .cons (ThV.mono t h) (ThAll.mono t k)
end
section
variable {N : Addr → Prop} {H H' : Hp}
theorem ThV.same (s : Same H H') {v : V} {d : Th} (h : ThV N H v d) : ThV N H' v d := h.mono (.of_same s)
theorem ThV.kp (s : Kp H H') {v : V} {d : Th} (h : ThV N H v d) : ThV N H' v d := h.mono (.of_kp s)
theorem ThAll.same (s : Same H H') {vs : List V} {ds : List Th} (h : ThAll N H vs ds) : ThAll N H' vs ds := h.mono (.of_same s)
theorem ThAll.kp (s : Kp H H') {vs : List V} {ds : List Th} (h : ThAll N H vs ds) : ThAll N H' vs ds := h.mono (.of_kp s)
theorem ThV.any {v : V} {d : Th} (h : ThV N H v d) : AnyV H v := by
  cases h with
  | non => exact .non
  | bl x => exact .bl x
  | int i => exact .int i
  | str x => exact .str x
  | lst n h k => exact .lst h
  | tup n h k => exact .tup h
  | dct n h => exact .dK h
theorem ThAll.length : ∀ {vs : List V} {ds : List Th}, ThAll N H vs ds → vs.length = ds.length
  | _, _, .nil => rfl
  | _, _, .cons _ k => congrArg (· + 1) k.length
theorem ThAll.at : ∀ {vs : List V} {ds : List Th}, ThAll N H vs ds → ∀ {i : Nat} {v : V}, vs[i]? = some v → ∃ d, ds[i]? = some d ∧ ThV N H v d
  | _, _, .nil, i, v, h => by
    rw [List.getElem?_nil] at h
    cases h
  | _, _, .cons h k, 0, v, e => by
    cases Option.some.inj e
    exact ⟨_, rfl, h⟩
  | _, _, .cons h k, i + 1, v, e => ThAll.at k (i := i) e
theorem ThAll.get : ∀ {vs : List V} {ds : List Th}, ThAll N H vs ds → ∀ {v : V}, v ∈ vs → ∃ d, d ∈ ds ∧ ThV N H v d
  | _, _, .nil, v, h => nomatch h
  | _, _, .cons h k, v, m => by
    rcases List.mem_cons.mp m with rfl | m
    · exact ⟨_, List.mem_cons_self, h⟩
    · obtain ⟨d, h1, h2⟩ := ThAll.get k m
      exact ⟨d, List.mem_cons_of_mem _ h1, h2⟩
theorem ThAll.append : ∀ {vs us : List V} {ds es : List Th}, ThAll N H vs ds → ThAll N H us es → ThAll N H (vs ++ us) (ds ++ es)
  | _, _, _, _, .nil, k => k
  | _, _, _, _, .cons h k, z => .cons h (k.append z)
theorem ThAll.take : ∀ {vs : List V} {ds : List Th}, ThAll N H vs ds → ∀ n : Nat, ThAll N H (vs.take n) (ds.take n)
  | _, _, .nil, n => by
    rw [List.take_nil, List.take_nil]
    exact .nil
  | _, _, .cons h k, 0 => .nil
  | _, _, .cons h k, n + 1 => .cons h (k.take n)
theorem ThAll.drop : ∀ {vs : List V} {ds : List Th}, ThAll N H vs ds → ∀ n : Nat, ThAll N H (vs.drop n) (ds.drop n)
  | _, _, .nil, n => by
    rw [List.drop_nil, List.drop_nil]
    exact .nil
  | _, _, .cons h k, 0 => .cons h k
  | _, _, .cons h k, n + 1 => k.drop n
theorem ThAll.one {v : V} {d : Th} (h : ThV N H v d) : ThAll N H [v] [d] := .cons h .nil
theorem ThAll.rev : ∀ {vs : List V} {ds : List Th}, ThAll N H vs ds → ThAll N H vs.reverse ds.reverse
  | _, _, .nil => .nil
  | _, _, .cons h k => by
    rw [List.reverse_cons, List.reverse_cons]
    exact k.rev.append (.one h)
end
/-! what they are -/
def wholeT : Th → Bool
  | .int _ => true
  | _ => false
def kindT : Th → Bool
  | .str k => decide (k ∈ kinds)
  | _ => false
theorem ThV.whole {N : Addr → Prop} {H : Hp} {v : V} {d : Th} (h : ThV N H v d) : wholeB v = wholeT d := by cases h <;> rfl
theorem ThV.kind {N : Addr → Prop} {H : Hp} {v : V} {d : Th} (h : ThV N H v d) : kindB v = kindT d := by cases h <;> rfl
def pointT : Th → Bool
  | .tup [w, k] => wholeT w && kindT k
  | _ => false
def ptsT : Th → Bool
  | .tup ds => !ds.isEmpty && ds.all pointT
  | _ => false
def lenT : Th → Nat
  | .tup ds => ds.length
  | _ => 0
def pairT : Th → Int × Int
  | .tup [.int a, .int b] => (a, b)
  | _ => (0, 0)
def tieT (m : Int) : Th → Bool
  | .tup [.int a, .int b] => decide (0 ≤ a) && (decide (a < b) && decide (b < m))
  | _ => false
theorem tieT_some {m : Int} {d : Th} (h : tieT m d = true) : ∃ a b : Int, d = .tup [.int a, .int b] ∧ 0 ≤ a ∧ a < b ∧ b < m := by
  unfold tieT at h
  split at h
  · rename_i a b
    rw [Bool.and_eq_true, Bool.and_eq_true] at h
    exact ⟨a, b, rfl, of_decide_eq_true h.1, of_decide_eq_true h.2.1, of_decide_eq_true h.2.2⟩
  · cases h
noncomputable def tiesT (m : Nat) : Th → Bool
  | .tup ds => ds.all (tieT m) && (decide ((ds.map pairT).Pairwise ltT) && !ringB (ds.map pairT))
  | _ => false
noncomputable def forestT : Th → Bool
  | .tup [p, t] => ptsT p && tiesT (lenT p) t
  | _ => false
theorem ThAll.pairs {N : Addr → Prop} {H : Hp} {m : Int} : ∀ {vs : List V} {ds : List Th}, ThAll N H vs ds → ds.all (tieT m) = true → ∀ {i : Nat} {v : V}, vs[i]? = some v → ∃ (t : Addr) (a b : Int), v = .ref t ∧ (ds.map pairT)[i]? = some (a, b) ∧ H t = some (.tup [.int a, .int b]) ∧ 0 ≤ a ∧ a < b ∧ b < m
  | vs, ds, k, al, i, v, e => by
    obtain ⟨d, h1, h2⟩ := k.at e
    have h3 := List.all_eq_true.mp al d (List.mem_of_getElem? h1)
    obtain ⟨a, b, rfl, b1, b2, b3⟩ := tieT_some h3
    cases h2 with
    | tup n h k2 =>
      cases k2 with
      | cons q1 k2 =>
        cases k2 with
        | cons q2 k2 =>
          cases k2
          cases q1
          cases q2
          refine ⟨_, a, b, rfl, ?_, h, b1, b2, b3⟩
          rw [List.getElem?_map, h1]
          rfl
theorem all_true_at {p : Th → Bool} {ds : List Th} {i : Nat} {d : Th} (h : (ds.take i).all p = true) (e : ds[i]? = some d) (t : p d = true) : (ds.take (i + 1)).all p = true := by
  rw [List.take_succ, e, List.all_append, h]
  show (true && (p d && true)) = true
  rw [t]
  rfl
theorem all_false_at {p : Th → Bool} {ds : List Th} {i : Nat} {d : Th} (e : ds[i]? = some d) (t : p d = false) : ds.all p = false := by
  rw [List.all_eq_false]
  exact ⟨d, List.mem_of_getElem? e, by rw [t]; exact Bool.false_ne_true⟩
theorem tup_ok {K : PySem.W.Frag} {N : Addr → Prop} {H : Hp} {v : V} {d : Th} (h : ThV N H v d) : (∃ (a : Addr) (xs : List V) (ds : List Th), v = .ref a ∧ N a ∧ H a = some (.tup xs) ∧ ThAll N H xs ds ∧ d = .tup ds) ∨ ((∃ t, TyX K H v t ∧ PySem.W.kitOne K t (.type "tuple") = some false) ∧ ∀ ds, d ≠ .tup ds) := by
  cases h with
  | non => exact .inr ⟨⟨_, .base .non, kit_ty (show kitB _ _ = some false by decide +kernel)⟩, fun ds z => nomatch z⟩
  | bl b => exact .inr ⟨⟨_, .base (.bl b), kit_ty (show kitB _ _ = some false by decide +kernel)⟩, fun ds z => nomatch z⟩
  | int i => exact .inr ⟨⟨_, .base (.int i), kit_ty (show kitB _ _ = some false by decide +kernel)⟩, fun ds z => nomatch z⟩
  | str x => exact .inr ⟨⟨_, .base (.str x), kit_ty (show kitB _ _ = some false by decide +kernel)⟩, fun ds z => nomatch z⟩
  | lst n h k => exact .inr ⟨⟨_, .base (.lst h), kit_ty (show kitB _ _ = some false by decide +kernel)⟩, fun ds z => nomatch z⟩
  | tup n h k => exact .inl ⟨_, _, _, rfl, n, h, k, rfl⟩
  | dct n h => exact .inr ⟨⟨_, .base (.dK h), kit_ty (show kitB _ _ = some false by decide +kernel)⟩, fun ds z => nomatch z⟩
theorem no_forest {d : Th} (h : ∀ ds, d ≠ .tup ds) : forestT d = false := by
  cases d with
  | tup ds => exact absurd rfl (h ds)
  | _ => rfl
theorem no_len {ds : List Th} (h : ds.length ≠ 2) : forestT (.tup ds) = false := by
  match ds, h with
  | [], _ => rfl
  | [_], _ => rfl
  | [_, _], h => exact absurd rfl h
  | _ :: _ :: _ :: _, _ => rfl
theorem no_pts {d : Th} (h : ∀ ds, d ≠ .tup ds) : ptsT d = false := by
  cases d with
  | tup ds => exact absurd rfl (h ds)
  | _ => rfl
theorem no_ties {m : Nat} {d : Th} (h : ∀ ds, d ≠ .tup ds) : tiesT m d = false := by
  cases d with
  | tup ds => exact absurd rfl (h ds)
  | _ => rfl
theorem no_point {d : Th} (h : ∀ ds, d ≠ .tup ds) : pointT d = false := by
  cases d with
  | tup ds => exact absurd rfl (h ds)
  | _ => rfl
theorem no_point2 {ds : List Th} (h : ds.length ≠ 2) : pointT (.tup ds) = false := by
  match ds, h with
  | [], _ => rfl
  | [_], _ => rfl
  | [_, _], h => exact absurd rfl h
  | _ :: _ :: _ :: _, _ => rfl
theorem no_tie {m : Int} {d : Th} (h : ∀ ds, d ≠ .tup ds) : tieT m d = false := by
  cases d with
  | tup ds => exact absurd rfl (h ds)
  | _ => rfl
theorem no_tie2 {m : Int} {ds : List Th} (h : ds.length ≠ 2) : tieT m (.tup ds) = false := by
  unfold tieT
  split
  · rename_i e
    cases e
    exact absurd rfl h
  · rfl
theorem no_tie3 {m : Int} {ds : List Th} (h : ds.all wholeT = false) : tieT m (.tup ds) = false := by
  unfold tieT
  split
  · rename_i e
    cases e
    cases h
  · rfl

end My
namespace My
open PySem L2
/-! ### the program's look at anything -/
theorem nil_whole : HT.sIx ([] : List V).length 0 (some 1) = 0 ∧ HT.sIx ([] : List V).length ([] : List V).length none = ([] : List V).length := by decide
theorem not_whole {x : V} {ps : List V} : ¬ (HT.sIx (x :: ps).length 0 (some 1) = 0 ∧ HT.sIx (x :: ps).length (x :: ps).length none = (x :: ps).length) := by
  rintro ⟨z1, _⟩
  have e1 : HT.sIx (x :: ps).length 0 (some 1) = 1 := by
    rw [show (1 : Int) = ((1 : Nat) : Int) from rfl, HT.sIx_nat, List.length_cons]
    omega
  rw [e1] at z1
  exact nomatch z1
theorem Kp.of_tabd {P : Addr} {H H' : Hp} (g : GxR.TabG H P) (t : GxR.Tabbed P H H') : Kp H H' := Kp.of_but g (But.of_tab t)
theorem Kp.tup {H H' : Hp} (k : Kp H H') {t : Addr} {xs : List V} (e : H t = some (.tup xs)) : H' t = some (.tup xs) := k _ _ e (by intro ps z; cases z)
theorem PAll.kp {H H' : Hp} (k : Kp H H') {vs : List V} {ts : List (Int × Int)} (h : PAll H vs ts) : PAll H' vs ts := h.mono fun _ _ _ e => k _ _ e (by intro ps z; cases z)
theorem PAll.at {H : Hp} : ∀ {vs : List V} {ts : List (Int × Int)}, PAll H vs ts → ∀ {i : Nat} {v : V}, vs[i]? = some v → ∃ t u, v = .ref t ∧ ts[i]? = some u ∧ H t = some (.tup [.int u.1, .int u.2])
  | _, _, .nil, i, v, h => by
    rw [List.getElem?_nil] at h
    cases h
  | _, _, .cons (t := t) (x := x) (y := y) e r, 0, v, h => ⟨t, (x, y), (Option.some.inj h).symm, rfl, e⟩
  | _, _, .cons e r, i + 1, v, h => PAll.at r (i := i) h
theorem atI_up {ab : List Int} {q x : Int} (q0 : 0 ≤ q) (h : ab[q.toNat]? = some x) : atI (ab.map V.int) q = some (.int x) := by
  have e : q = ((q.toNat : Nat) : Int) := (Int.toNat_of_nonneg q0).symm
  rw [e]
  refine atI_nat ?_
  rw [List.getElem?_map, h]
  rfl
theorem ix_up {n : Nat} {q : Int} (q0 : 0 ≤ q) (h : q.toNat < n) : ixN n q = some q.toNat := by
  unfold ixN
  rw [if_pos q0]
  simp
  omega
theorem lex_eq (s t : Int × Int) : HT.lexLt [s.1, s.2] [t.1, t.2] = decide (ltT s t) := by
  rw [HT.lexLt_cons, HT.lexLt_cons]
  by_cases h : ltT s t
  · rw [decide_eq_true h]
    rcases h with h | ⟨h1, h2⟩
    · rw [if_neg (by omega)]
      exact decide_eq_true h
    · rw [if_pos h1, if_neg (by omega)]
      exact decide_eq_true h2
  · rw [decide_eq_false h]
    unfold ltT at h
    by_cases e : s.1 = t.1
    · rw [if_pos e]
      by_cases e2 : s.2 = t.2
      · rw [if_pos e2]
        rfl
      · rw [if_neg e2]
        exact decide_eq_false (by omega)
    · rw [if_neg e]
      exact decide_eq_false (by omega)
/-- ties of good pairs are the pairs -/
theorem ThAll.pall {N : Addr → Prop} {H : Hp} {m : Int} : ∀ {vs : List V} {ds : List Th}, ThAll N H vs ds → ds.all (tieT m) = true → PAll H vs (ds.map pairT)
  | _, _, .nil, _ => .nil
  | _, _, .cons h k, al => by
    rw [List.all_cons, Bool.and_eq_true] at al
    obtain ⟨a, b, rfl, _, _, _⟩ := tieT_some al.1
    cases h with
    | tup n h k2 =>
      cases k2 with
      | cons q1 k2 =>
        cases k2 with
        | cons q2 k2 =>
          cases k2
          cases q1
          cases q2
          exact .cons h (k.pall al.2)
theorem tie_bounds {m : Int} {ds : List Th} (al : ds.all (tieT m) = true) : ∀ t ∈ ds.map pairT, 0 ≤ t.1 ∧ t.1 < t.2 ∧ t.2 < m := fun t h => by
  obtain ⟨d, hd, rfl⟩ := List.mem_map.mp h
  obtain ⟨a, b, rfl, h1, h2, h3⟩ := tieT_some (List.all_eq_true.mp al d hd)
  exact ⟨h1, h2, h3⟩
def wholesT : Th → Bool
  | .tup ds => ds.all wholeT
  | _ => false
theorem ringB_t {ts : Ties} (h : Ring ts) : ringB ts = true := by
  classical
  unfold ringB
  exact decide_eq_true h
theorem ringB_f {ts : Ties} (h : ¬ Ring ts) : ringB ts = false := by
  classical
  unfold ringB
  exact decide_eq_false h
theorem no_wholes {d : Th} (h : ∀ ds, d ≠ .tup ds) : wholesT d = false := by
  cases d with
  | tup ds => exact absurd rfl (h ds)
  | _ => rfl
theorem whole_int {N : Addr → Prop} {H : Hp} {v : V} {d : Th} (h : ThV N H v d) (e : wholeT d = true) : ∃ i, v = .int i ∧ d = .int i := by
  cases h with
  | int i => exact ⟨i, rfl, rfl⟩
  | _ => exact nomatch e
section
variable {P : Program} {w : World} {K : PySem.W.Frag} {mg : Str → Option Value} {base : Heap}
def spWhole : Sp := fun vs H Q _ => ∃ v, vs = [v] ∧ AnyV H v ∧ Q (.bl (wholeB v)) H
theorem ok_whole (T : Top K mg) : FnOk P w K mg base CX0 1 T.a_iswhole T.d_iswhole ["thing"] spWhole := by
  refine T.F_iswhole.ok sc_iswhole (fun vs H Q E h => ?_) (fun cdv A outer s H vs Q E hr h => ?_)
  · obtain ⟨v, rfl, _⟩ := h
    rfl
  · obtain ⟨v, rfl, hv, q⟩ := h
    refine ⟨_, (pss_one (ps_ret (pe_and (pe_callB call_isi (by rfl) T.m_isinstance (by decide +kernel) (pa_cons (pv 0) (pa_cons (pe_bltn (v := .ty "int") (by rfl) T.m_int (by decide +kernel) rfl) pa_nil))) (pe_one (pe_not (pe_callB call_isi (by rfl) T.m_isinstance (by decide +kernel) (pa_cons (pv 0) (pa_cons (pe_bltn (v := .ty "bool") (by rfl) T.m_bool (by decide +kernel) rfl) pa_nil)))))))), ?_⟩
    obtain ⟨t, ty, kt⟩ := int_ok (K := K) hv
    refine ⟨_, rfl, _, _, _, _, _, rfl, ClsV.ty _, ty, kt, _, rfl, ?_⟩
    obtain ⟨t2, ty2, kt2⟩ := bool_ok (K := K) hv
    have fin : isIntV v = true → ∀ b, b = isBoolV v → Q (.bl (!b)) H := fun e b eb => by
      have z : (!b) = wholeB v := by
        subst eb
        cases v <;> first | rfl | exact nomatch e
      rw [z]
      exact q
    refine ite2 (fun e => ?_) (fun e => ?_)
    · exact ⟨_, rfl, _, _, _, _, _, rfl, ClsV.ty _, ty2, kt2, _, rfl, fin e _ rfl⟩
    · have z : wholeB v = false := by
        cases v <;> first | rfl | exact absurd rfl e
      rw [z] at q
      exact q
def spKind : Sp := fun vs H Q _ => ∃ v, vs = [v] ∧ AnyV H v ∧ Q (.bl (kindB v)) H
theorem ok_kind (T : Top K mg) : FnOk P w K mg base CX0 1 T.a_iskind T.d_iskind ["thing"] spKind := by
  refine T.F_iskind.ok sc_iskind (fun vs H Q E h => ?_) (fun cdv A outer s H vs Q E hr h => ?_)
  · obtain ⟨v, rfl, _⟩ := h
    rfl
  · obtain ⟨v, rfl, hv, q⟩ := h
    refine ⟨_, (pss_one (ps_ret (pe_and (pe_callB call_isi (by rfl) T.m_isinstance (by decide +kernel) (pa_cons (pv 0) (pa_cons (pe_bltn (v := .ty "str") (by rfl) T.m_str (by decide +kernel) rfl) pa_nil))) (pe_one (pe_cmpR op_in_seq (pv 0) (pe_glob (v := .ref T.aK) (by rfl) T.v_KINDS rfl) (by rfl)))))), ?_⟩
    obtain ⟨t, ty, kt⟩ := str_ok (K := K) hv
    refine ⟨_, rfl, _, _, _, _, _, rfl, ClsV.ty _, ty, kt, _, rfl, ite2 (fun e => ?_) (fun e => ?_)⟩
    · cases v with
      | str z =>
        refine ⟨_, rfl, T.aK, _, rfl, .inr (tupB_ok T.tK H), rfl, flat_strs kinds, ?_⟩
        rw [inV_str]
        exact q
      | _ => exact nomatch e
    · have z : kindB v = false := by
        cases v <;> first | rfl | exact absurd rfl e
      rw [z] at q
      exact q
def spWholesT (T : Top K mg) : Sp := fun vs H Q _ => ∃ (N : Addr → Prop) (v : V) (d : Th), vs = [v] ∧ Tb T.tbs H ∧ ThV N H v d ∧ ∀ H', Kp H H' → Tb T.tbs H' → Q (.bl (wholesT d)) H'
theorem ok_wholesT (T : Top K mg) (TB : GxR.TabB base mg T.cA T.PA) : FnOk P w K mg base CX0 3 T.a_arewholes T.d_arewholes ["thing"] (spWholesT T) := by
  have G_iswhole : FnOk P w K mg base CX0 1 _ _ _ _ := ok_whole T
  refine okC T.F_arewholes T.hcA sc_arewholes (fun vs H Q E h => ?_) (fun A outer s H vs Q E hr h => ?_)
  · obtain ⟨N, v, d, rfl, _⟩ := h
    rfl
  · obtain ⟨N, v, d, rfl, tb, hx, q⟩ := h
    refine ⟨_, (pss_one (ps_ret (pe_and (pe_callB call_isi (by rfl) T.m_isinstance (by decide +kernel) (pa_cons (pv 0) (pa_cons (pe_bltn (v := .ty "tuple") (by rfl) T.m_tuple (by decide +kernel) rfl) pa_nil))) (pe_one (pe_allG (own := [("part", 1)]) hr rfl sc_arewholes.nd (by rfl) T.m_all (by decide +kernel) TB rfl (blkOk_by (own := [("part", 1)]) (N := ["thing", "part"]) (sc := defScope s_arewholes) (by decide +kernel)) (by rfl) (by decide +kernel) (by rfl) (pi_tup (pv 0)) (fun _ _ _ _ _ _ _ => (pg_name (i := 1) sc_arewholes.nd rfl (.inl rfl) (hf := Or.inr rfl))) (fun _ _ _ _ _ _ _ hr' => (pe_call G_iswhole hr' (by rfl) T.g_iswhole T.F_iswhole.kp T.b_iswhole .nil pass0 (pa_cons (pv 1) pa_nil)))))))), ?_⟩
    rcases tup_ok (K := K) hx with ⟨a, ys, ds, rfl, na, ha, al, rfl⟩ | ⟨⟨t, ty, kt⟩, nt⟩
    · refine ⟨_, rfl, _, _, _, _, true, rfl, ClsV.ty _, .base (.tup ha), kit_ty (by decide +kernel), _, rfl, iteT ?_⟩
      refine ⟨_, rfl, a, rfl, ⟨_, SqT.of ha⟩, tb.g T.mA, fun H2 tab => ?_⟩
      have k2 := Kp.of_tabd (tb.g T.mA) tab
      have tb2 := tb.tab T.nd T.mA (But.of_tab tab) tab.1
      refine gturns_it (walk_tup (xs := ys)) (fun i H3 => Kp H H3 ∧ Tb T.tbs H3 ∧ (ds.take i).all wholeT = true) ⟨k2, tb2, rfl⟩ (fun i H3 _ z => SqT.of (z.1.tup ha)) ?_ (fun H3 z => ?_)
      · rintro i x H3 H4 N2 hi ⟨k3, tb3, al3⟩ ⟨rfl, hx⟩ nx
        obtain ⟨d, hd, tx⟩ := al.at hx
        have ew := tx.whole
        refine ⟨rfl, _, rfl, x, rfl, (tx.any).kp k3, wholeB x, rfl, ?_⟩
        cases e : wholeB x with
        | true => exact iteT (nx _ ⟨k3, tb3, all_true_at al3 hd (ew.symm.trans e)⟩)
        | false =>
          refine iteF ?_
          have z := q _ k3 tb3
          rw [show wholesT (.tup ds) = false from all_false_at hd (ew.symm.trans e)] at z
          exact z
      · obtain ⟨k3, tb3, al3⟩ := z
        rw [al.length, List.take_of_length_le (Nat.le_refl _)] at al3
        have z := q H3 k3 tb3
        rw [show wholesT (.tup ds) = true from al3] at z
        exact z
    · have z := q H (Kp.refl H) tb
      rw [no_wholes nt] at z
      exact ⟨_, rfl, _, _, _, _, false, rfl, ClsV.ty _, ty, kt, _, rfl, iteF z⟩
def spRisB (T : Top K mg) : Sp := fun vs H Q _ => ∃ (a : Addr) (ys : List V) (ts : Ties), vs = [.ref a] ∧ H a = some (.tup ys) ∧ PAll H ys ts ∧ Tb T.tbs H ∧ ∀ H', Kp H H' → Tb T.tbs H' → Q (.bl (decide (ts.Pairwise ltT))) H'
theorem ok_risB (T : Top K mg) (TB : GxR.TabB base mg T.cR T.PR) : FnOk P w K mg base CX0 2 T.a_isrising T.d_isrising ["row"] (spRisB T) := by
  refine okC T.F_isrising T.hcR sc_isrising (fun vs H Q E h => ?_) (fun A outer s H vs Q E hr h => ?_)
  · obtain ⟨a, ys, ts, rfl, _⟩ := h
    rfl
  · obtain ⟨a, ys, ts, rfl, ha, pa, tb, q⟩ := h
    refine ⟨_, (pss_one (ps_ret (pe_allG (own := [("low", 1), ("high", 2)]) hr rfl sc_isrising.nd (by rfl) T.m_all (by decide +kernel) TB rfl (blkOk_by (own := [("low", 1), ("high", 2)]) (N := ["row", "low", "high"]) (sc := defScope s_isrising) (by decide +kernel)) (by rfl) (by decide +kernel) (by rfl) (RZ.pi_zipA (by rfl) T.m_zip (pa_cons (pv 0) (pa_cons (pe_slice sl_tupA (pv 0) (po_some pe_int) po_none) pa_nil))) (fun _ _ _ _ _ _ _ => (pg_tupK (K := K) (n := 2) rfl rfl (pgs_cons (pg_name (i := 1) sc_isrising.nd rfl (.inl rfl) (hf := Or.inr rfl)) (pgs_cons (pg_name (i := 2) sc_isrising.nd rfl (.inl rfl) (hf := Or.inr rfl)) pgs_nil)) rfl)) (fun _ _ _ _ _ _ _ hr' => (pe_cmpR (op_ltTK (K := K) rfl (u0 hr')) (pv 1) (pv 2) (nomark _)))))), ?_⟩
    cases ys with
    | nil =>
      cases pa
      refine ⟨_, rfl, _, rfl, 1, rfl, a, _, rfl, SqT.of ha, fun _ => ?_, fun nw => absurd nil_whole nw⟩
      refine ⟨a, a, _, _, rfl, .inr ⟨SqT.of ha, SqT.of ha, tb.g T.mR, fun H2 tab => ?_⟩⟩
      have k2 := Kp.of_tabd (tb.g T.mR) tab
      have tb2 := tb.tab T.nd T.mR (But.of_tab tab) tab.1
      refine gturns_it (walk_zipT (xs := []) (ys := []) (n := 0) rfl) (fun i H3 => Kp H H3 ∧ Tb T.tbs H3) ⟨k2, tb2⟩ (fun i H3 _ z => ⟨SqT.of (z.1.tup ha), SqT.of (z.1.tup ha)⟩) (fun i x H3 H4 N hi => absurd hi (Nat.not_lt_zero _)) (fun H3 z => ?_)
      have y := q H3 z.1 z.2
      rw [decide_eq_true List.Pairwise.nil] at y
      exact y
    | cons y0 yr =>
    refine ⟨_, rfl, _, rfl, 1, rfl, a, _, rfl, SqT.of ha, fun wh => absurd wh not_whole, fun _ p np => ?_⟩
    have ec : cutV (y0 :: yr) (some 1) none = yr := cut_tail _ _
    rw [ec]
    have sp := same_new (o := .tup yr) np
    have hp : upd H p (.tup yr) p = some (.tup yr) := upd_same
    have ha1 := sp _ _ ha
    have tb1 := tb.same sp
    have k1 := Kp.of_same sp
    have pa1 := pa.same sp
    have lp := pa.length
    rw [List.length_cons] at lp
    generalize upd H p (.tup yr) = H1 at sp hp ha1 tb1 k1 pa1 ⊢
    refine ⟨a, p, _, _, rfl, .inr ⟨SqT.of ha1, SqT.of hp, tb1.g T.mR, fun H2 tab => ?_⟩⟩
    have k2 := Kp.of_tabd (tb1.g T.mR) tab
    have tb2 := tb1.tab T.nd T.mR (But.of_tab tab) tab.1
    refine gturns_it (walk_zipT (xs := y0 :: yr) (ys := yr) (n := yr.length) (by rw [List.length_cons]; omega)) (fun i H3 => Kp H1 H3 ∧ Tb T.tbs H3 ∧ ∀ (j : Nat) (s t : Int × Int), j < i → ts[j]? = some s → ts[j + 1]? = some t → ltT s t) ⟨k2, tb2, fun j s t z => absurd z (Nat.not_lt_zero _)⟩ (fun i H3 _ z => ⟨SqT.of (z.1.tup ha1), SqT.of (z.1.tup hp)⟩) ?_ (fun H3 z => ?_)
    · rintro i x H3 H4 N hi ⟨k3, tb3, c3⟩ ⟨t, x, y, rfl, nt, rfl, hx, hy⟩ nx
      dsimp only at hx hy
      have hy' : (y0 :: yr)[i + 1]? = some y := hy
      obtain ⟨t1, u, rfl, hu, h1⟩ := (pa1.kp k3).at hx
      obtain ⟨t2, v, rfl, hv, h2⟩ := (pa1.kp k3).at hy'
      have st := same_new (o := .tup [V.ref t1, V.ref t2]) nt
      refine ⟨t, _, rfl, SqT.of upd_same, rfl, _, _, rfl, _, _, rfl, rfl, rfl, _, rfl, _, rfl, t1, t2, [u.1, u.2], [v.1, v.2], rfl, rfl, SqT.of (st _ _ h1), SqT.of (st _ _ h2), decide (ltT u v), congrArg V.bl (lex_eq u v), ?_⟩
      cases e : decide (ltT u v) with
      | true =>
        refine iteT (nx _ ⟨k3.same st, tb3.same st, fun j s t z h1 h2 => ?_⟩)
        by_cases ej : j < i
        · exact c3 j s t ej h1 h2
        · have ej : j = i := by omega
          subst ej
          rw [hu] at h1
          rw [hv] at h2
          cases Option.some.inj h1
          cases Option.some.inj h2
          exact of_decide_eq_true e
      | false =>
        refine iteF ?_
        have z := q _ (k1.trans (k3.same st)) (tb3.same st)
        rw [show decide (ts.Pairwise ltT) = false from decide_eq_false fun pw => ?_] at z
        · exact z
        · obtain ⟨l1, e1⟩ := List.getElem?_eq_some_iff.mp hu
          obtain ⟨l2, e2⟩ := List.getElem?_eq_some_iff.mp hv
          have lt := List.pairwise_iff_getElem.mp pw i (i + 1) l1 l2 (by omega)
          rw [e1, e2] at lt
          exact (of_decide_eq_false e) lt
    · obtain ⟨k3, tb3, c3⟩ := z
      have z := q H3 (k1.trans k3) tb3
      rw [decide_eq_true (rising_chain fun i s t h1 h2 => ?_)] at z
      · exact z
      · have l2 := (List.getElem?_eq_some_iff.mp h2).1
        exact c3 i s t (by omega) h1 h2
def spTopOf : Sp := fun vs H Q _ => ∃ (l : Addr) (ab : List Int) (p t : Int) (n : Nat), vs = [.ref l, .int p] ∧ H l = some (.lst (ab.map V.int)) ∧ Up ab p t n ∧ Q (.int t) H
theorem ok_topof (T : Top K mg) : FnOk P w K mg base CX0 1 T.a_topof T.d_topof ["above", "point"] spTopOf := by
  refine T.F_topof.ok sc_topof (fun vs H Q E h => ?_) (fun cdv A outer s H vs Q E hr h => ?_)
  · obtain ⟨l, ab, p, t, n, rfl, _⟩ := h
    rfl
  · obtain ⟨l, ab, p, t, n, rfl, hl, up, q⟩ := h
    refine ⟨_, (pss_cons (ps_while PassesOwn.never (pt_cmpR op_ne (pe_ix ix_list (pv 0) (pv 1) (fun _ _ => rfl)) (pv 1) (nomark _)) (pss_one (ps_set (i := 1) sc_topof.nd rfl (.inl rfl) (pe_ix ix_list (pv 0) (pv 1) (fun _ _ => rfl)))))
      (pss_one (ps_ret (pv 1)))), ?_⟩
    refine ⟨fun m σ H2 => ∃ x, σ = [some (.ref l), some (.int x)] ∧ H2 = H ∧ Up ab x t m, ⟨n, p, rfl, rfl, up⟩, ?_⟩
    rintro m σ H2 ⟨x, rfl, rfl, ux⟩
    cases ux with
    | root p0 h =>
      refine ⟨_, rfl, _, rfl, l, _, _, _, rfl, rfl, SqL.of hl, atI_up p0 h, _, rfl, rfl, _, rfl, iteNS rfl ?_⟩
      exact ⟨_, rfl, q⟩
    | @step _ y _ m p0 h ne u =>
      refine ⟨_, rfl, _, rfl, l, _, _, _, rfl, rfl, SqL.of hl, atI_up p0 h, _, rfl, rfl, _, rfl, ite2 (fun _ => ?_) (fun z => ?_)⟩
      · refine ⟨fun σ' H' => σ' = [some (.ref l), some (.int y)] ∧ H' = H2, fun σ' H' z => ⟨m, Nat.lt_succ_self m, y, z.1, z.2, u⟩, ?_⟩
        exact ⟨_, rfl, _, rfl, l, _, _, _, rfl, rfl, SqL.of hl, atI_up p0 h, rfl, rfl⟩
      · exfalso
        apply z
        have : decide (V.int y = V.int x) = false := decide_eq_false fun e => ne (V.int.inj e)
        show (!decide (V.int y = V.int x)) = true
        rw [this]
        rfl
def spRing : Sp := fun vs H Q _ => ∃ (t : Addr) (ys : List V) (ts : Ties) (m : Nat), vs = [.ref t, .int (m : Int)] ∧ H t = some (.tup ys) ∧ PAll H ys ts ∧ m ≤ 100 ∧ (∀ u ∈ ts, 0 ≤ u.1 ∧ u.1 < (m : Int) ∧ 0 ≤ u.2 ∧ u.2 < (m : Int)) ∧ ∀ H', Same H H' → Q (.bl (ringB ts)) H'
theorem ok_ring (T : Top K mg) : FnOk P w K mg base CX0 2 T.a_hasring T.d_hasring ["ties", "many"] spRing := by
  have G_topof : FnOk P w K mg base CX0 1 _ _ _ _ := ok_topof T
  refine T.F_hasring.ok sc_hasring (fun vs H Q E h => ?_) (fun cdv A outer s H vs Q E hr h => ?_)
  · obtain ⟨t, ys, ts, m, rfl, _⟩ := h
    rfl
  · obtain ⟨t, ys, ts, m, rfl, ht, pa, hm, bd, q⟩ := h
    refine ⟨_, (pss_cons (ps_set (i := 2) sc_hasring.nd rfl (.inl rfl) (pe_listRg rfl (by rfl) T.m_list (prg_1 (by rfl) T.m_range (pv 1))))
      (pss_cons (ps_for PassesOwn.never rfl (pi_tup (pv 0)) (pg_tup rfl (pgs_cons (pg_name (i := 3) sc_hasring.nd rfl (.inl rfl)) (pgs_cons (pg_name (i := 4) sc_hasring.nd rfl (.inl rfl)) pgs_nil))) (pss_cons (ps_set (i := 5) sc_hasring.nd rfl (.inl rfl) (pe_call G_topof hr (by rfl) T.g_topof T.F_topof.kp T.b_topof .nil pass0 (pa_cons (pv 2) (pa_cons (pv 3) pa_nil))))
      (pss_cons (ps_set (i := 6) sc_hasring.nd rfl (.inl rfl) (pe_call G_topof hr (by rfl) T.g_topof T.F_topof.kp T.b_topof .nil pass0 (pa_cons (pv 2) (pa_cons (pv 4) pa_nil))))
      (pss_cons (ps_if (pt_cmpR op_eq (pv 5) (pv 6) (nomark _)) (pss_one (ps_ret pe_bl)) pss_nil)
      (pss_one (ps_asg (pv 5) (pg_sub (pv 2) (pv 6) set_list)))))))
      (pss_one (ps_ret pe_bl)))), ?_⟩
    refine ⟨_, rfl, _, rfl, RgOk.of_le (by omega) (by omega) (by omega) (by omega), fun l nl => ?_⟩
    have e0 : rgV 0 (m : Int) = ((List.range m).map fun (i : Nat) => (i : Int)).map V.int := by
      unfold rgV
      rw [List.map_map, show ((m : Int) - 0).toNat = m by omega]
      refine List.map_congr_left fun i _ => ?_
      show V.int (0 + (i : Int)) = V.int (i : Int)
      rw [Int.zero_add]
    rw [e0]
    have lts : ys.length = ts.length := pa.length
    refine ⟨_, rfl, t, rfl, ⟨_, SqT.of (same_new nl _ _ ht)⟩, for_tup (xs := ys) (fun i σ H2 => ∃ (ab : List Int) (y3 y4 y5 y6 : Option V), σ = [some (.ref t), some (.int (m : Int)), some (.ref l), y3, y4, y5, y6] ∧ Same H H2 ∧ H2 l = some (.lst (ab.map V.int)) ∧ Uf2 (ts.take i) m ab ∧ ¬ Ring (ts.take i)) ⟨_, none, none, none, none, rfl, same_new nl, upd_same, uf20 m, ring_nil⟩ (fun i σ H2 _ z => by obtain ⟨_, _, _, _, _, _, z, _⟩ := z; exact SqT.of (z _ _ ht)) ?_ ?_⟩
    · rintro i v σ H2 hv ⟨ab, y3, y4, y5, y6, rfl, s2, hl2, U2, nr⟩
      obtain ⟨tt, u, rfl, hu, htt⟩ := pa.at hv
      obtain ⟨a, b⟩ := u
      have mu := bd _ (List.mem_of_getElem? hu)
      dsimp only at mu
      refine ⟨tt, _, rfl, SqT.of (s2 _ _ htt), rfl, _, _, rfl, _, _, rfl, rfl, ?_⟩
      have U := U2.uf
      obtain ⟨x1, n1, up1, r1⟩ := U.ex a mu.1 mu.2.1
      obtain ⟨x2, n2, up2, r2⟩ := U.ex b mu.2.2.1 mu.2.2.2
      refine ⟨_, rfl, _, rfl, l, ab, a, x1, n1, rfl, hl2, up1, ?_⟩
      refine ⟨_, rfl, _, rfl, l, ab, b, x2, n2, rfl, hl2, up2, ?_⟩
      have e1 : ts.take (i + 1) = ts.take i ++ [(a, b)] := by
        rw [List.take_succ, hu]
        rfl
      refine ⟨_, rfl, _, rfl, rfl, _, rfl, ite2 (fun z => ?_) (fun z => ?_)⟩
      · have e := V.int.inj (of_decide_eq_true z)
        have z := q H2 s2
        have rr : Ring ts := ring_take (i := i + 1) (by
          rw [e1]
          exact ring_snoc.mpr (.inr (r1.trans (e ▸ r2.symm))))
        rw [ringB_t rr] at z
        exact z
      have ne : x1 ≠ x2 := fun e => z (decide_eq_true (congrArg V.int e))
      have l2 : x2.toNat < ab.length := (List.getElem?_eq_some_iff.mp up2.top.2).1
      have upR : Uf2 (ts.take (i + 1)) m (ab.set x2.toNat x1) := by
        rw [e1]
        exact uf2_snoc U2 up1 r1 up2 r2 ne
      have nr' : ¬ Ring (ts.take (i + 1)) := by
        rw [e1]
        intro z
        rcases ring_snoc.mp z with z | z
        · exact nr z
        · exact U2.ne up1 up2 ne z
      refine ⟨_, rfl, _, rfl, _, rfl, l, _, x2, x2.toNat, rfl, rfl, hl2, ix_up up2.top.1 (by rw [List.length_map]; exact l2), ?_⟩
      refine ⟨ab.set x2.toNat x1, _, _, _, _, rfl, ?_, ?_, upR, nr'⟩
      · intro c o e
        rw [upd_ne (ne_of_none e nl)]
        exact s2 _ _ e
      · rw [upd_same, List.map_set]
    · rintro σ H2 ⟨ab, y3, y4, y5, y6, rfl, s2, hl2, U, nr⟩
      rw [lts, List.take_of_length_le (Nat.le_refl _)] at nr
      have z := q H2 s2
      rw [ringB_f nr] at z
      exact z
def spTieT (T : Top K mg) : Sp := fun vs H Q _ => ∃ (N : Addr → Prop) (v : V) (d : Th) (m : Int), vs = [v, .int m] ∧ ThV N H v d ∧ Tb T.tbs H ∧ ∀ H', Kp H H' → Tb T.tbs H' → Q (.bl (tieT m d)) H'
theorem ok_tieT (T : Top K mg) (TB : GxR.TabB base mg T.cA T.PA) : FnOk P w K mg base CX0 4 T.a_istie T.d_istie ["thing", "many"] (spTieT T) := by
  have G_arewholes : FnOk P w K mg base CX0 3 _ _ _ _ := ok_wholesT T TB
  refine T.F_istie.ok sc_istie (fun vs H Q E h => ?_) (fun cdv A outer s H vs Q E hr h => ?_)
  · obtain ⟨N, v, d, m, rfl, _⟩ := h
    rfl
  · obtain ⟨N, v, d, m, rfl, hv, tb, q⟩ := h
    refine ⟨_, (pss_one (ps_ret (pe_and (pe_call G_arewholes hr (by rfl) T.g_arewholes T.F_arewholes.kp T.b_arewholes .nil pass0 (pa_cons (pv 0) pa_nil)) (pe_and (pe_cmpR op_eq (pe_callB call_len_seq (by rfl) T.m_len PySem.boot_len (pa_cons (pv 0) pa_nil)) pe_int (nomark _)) (pe_one (pe_chain3 op_le op_lt op_lt pe_int (pe_ix ix_tup (pv 0) pe_int (fun _ _ => rfl)) (pe_ix ix_tup (pv 0) pe_int (fun _ _ => rfl)) (pv 1))))))), ?_⟩
    refine ⟨_, rfl, N, v, d, rfl, tb, hv, fun H1 k1 tb1 => ⟨_, rfl, ?_⟩⟩
    cases ew : wholesT d with
    | false =>
      refine iteF ?_
      have z := q H1 k1 tb1
      rw [show tieT m d = false from ?_] at z
      · exact z
      · cases d with
        | tup ds => exact no_tie3 ew
        | _ => rfl
    | true =>
      refine iteT ?_
      cases hv.kp k1 with
      | @tup t xs ds n h1 al =>
        refine ⟨_, rfl, t, _, rfl, .inr (SqT.of h1), rfl, _, rfl, ?_⟩
        refine ite2 (fun z => ?_) (fun z => ?_)
        · have l2 : xs.length = 2 := by
            have := V.int.inj (of_decide_eq_true z)
            omega
          clear z
          match xs, ds, al, l2 with
          | [x, y], [dx, dy], .cons hx (.cons hy .nil), _ =>
            have ew : (wholeT dx && (wholeT dy && true)) = true := ew
            rw [Bool.and_eq_true, Bool.and_eq_true] at ew
            obtain ⟨i, rfl, rfl⟩ := whole_int hx ew.1
            obtain ⟨j, rfl, rfl⟩ := whole_int hy ew.2.1
            have q : ∀ b, b = (decide (0 ≤ i) && (decide (i < j) && decide (j < m))) → Q (.bl b) H1 := fun b e => e ▸ q H1 k1 tb1
            refine ⟨_, rfl, t, _, _, _, rfl, rfl, SqT.of h1, atI_nat (j := 0) rfl, _, _, rfl, rfl, decide (0 ≤ i), rfl, ?_⟩
            cases e1 : decide (0 ≤ i) with
            | false => exact iteF (q _ (by rw [e1]; rfl))
            | true =>
            refine iteT ?_
            refine ⟨_, rfl, t, _, _, _, rfl, rfl, SqT.of h1, atI_nat (j := 1) rfl, _, _, rfl, rfl, decide (i < j), rfl, ?_⟩
            cases e2 : decide (i < j) with
            | false => exact iteF (q _ (by rw [e1, e2]; rfl))
            | true =>
            refine iteT ?_
            exact ⟨_, rfl, _, _, rfl, rfl, q _ (by rw [e1, e2]; rfl)⟩
        · have l2 : ds.length ≠ 2 := fun e => z (decide_eq_true (congrArg V.int (by rw [al.length, e]; rfl)))
          have z := q H1 k1 tb1
          rw [no_tie2 l2] at z
          exact z
      | _ => exact nomatch ew
def spTiesT (T : Top K mg) : Sp := fun vs H Q _ => ∃ (N : Addr → Prop) (v : V) (d : Th) (m : Nat), vs = [v, .int (m : Int)] ∧ ThV N H v d ∧ m ≤ 100 ∧ Tb T.tbs H ∧ ∀ H', Kp H H' → Tb T.tbs H' → Q (.bl (tiesT m d)) H'
theorem ok_tiesT (T : Top K mg) (TA : GxR.TabB base mg T.cA T.PA) (TR : GxR.TabB base mg T.cR T.PR) (TB : GxR.TabB base mg T.cY T.PY) : FnOk P w K mg base CX0 6 T.a_areties T.d_areties ["thing", "many"] (spTiesT T) := by
  have G_istie : FnOk P w K mg base CX0 4 _ _ _ _ := ok_tieT T TA
  have G_isrising : FnOk P w K mg base CX0 2 _ _ _ _ := ok_risB T TR
  have G_hasring : FnOk P w K mg base CX0 2 _ _ _ _ := ok_ring T
  refine okC T.F_areties T.hcY sc_areties (fun vs H Q E h => ?_) (fun A outer s H vs Q E hr h => ?_)
  · obtain ⟨N, v, d, m, rfl, _⟩ := h
    rfl
  · obtain ⟨N, v, d, m, rfl, hv, hm, tb, q⟩ := h
    refine ⟨_, (pss_cons (ps_if (PW.pt (pw_or (pt_not (pt_val (pe_callB call_isi (by rfl) T.m_isinstance (by decide +kernel) (pa_cons (pv 0) (pa_cons (pe_bltn (v := .ty "tuple") (by rfl) T.m_tuple (by decide +kernel) rfl) pa_nil))))) (pw_or1 (pt_not (pt_val (pe_allG (own := [("tie", 2)]) hr rfl sc_areties.nd (by rfl) T.m_all (by decide +kernel) TB rfl (blkOk_by (own := [("tie", 2)]) (N := ["thing", "many", "tie"]) (sc := defScope s_areties) (by decide +kernel)) (by rfl) (by decide +kernel) (by rfl) (pi_tup (pv 0)) (fun _ _ _ _ _ _ _ => (pg_name (i := 2) sc_areties.nd rfl (.inl rfl) (hf := Or.inr rfl))) (fun _ _ _ _ _ _ _ hr' => (pe_call G_istie hr' (by rfl) T.g_istie T.F_istie.kp T.b_istie .nil pass0 (pa_cons (pv 2) (pa_cons (pv 1) pa_nil)))))))))) (pss_one (ps_ret pe_bl)) pss_nil)
      (pss_one (ps_ret (pe_and (pe_call G_isrising (hr.mono (by decide)) (by rfl) T.g_isrising T.F_isrising.kp T.b_isrising .nil pass0 (pa_cons (pv 0) pa_nil)) (pe_one (pe_not (pe_call G_hasring (hr.mono (by decide)) (by rfl) T.g_hasring T.F_hasring.kp T.b_hasring .nil pass0 (pa_cons (pv 0) (pa_cons (pv 1) pa_nil))))))))), ?_⟩
    rcases tup_ok (K := K) hv with ⟨a, ys, ds, rfl, na, ha, al, rfl⟩ | ⟨⟨t, ty, kt⟩, nt⟩
    · refine ⟨_, rfl, _, _, _, _, true, rfl, ClsV.ty _, .base (.tup ha), kit_ty (by decide +kernel), _, rfl, iteF ?_⟩
      refine ⟨_, rfl, a, rfl, ⟨_, SqT.of ha⟩, tb.g T.mY, fun H2 tab => ?_⟩
      have k2 := Kp.of_tabd (tb.g T.mY) tab
      have tb2 := tb.tab T.nd T.mY (But.of_tab tab) tab.1
      refine gturns_it (walk_tup (xs := ys)) (fun i H3 => Kp H H3 ∧ Tb T.tbs H3 ∧ (ds.take i).all (tieT (m : Int)) = true) ⟨k2, tb2, rfl⟩ (fun i H3 _ z => SqT.of (z.1.tup ha)) ?_ (fun H3 z => ?_)
      · rintro i x H3 H4 N2 hi ⟨k3, tb3, al3⟩ ⟨rfl, hx⟩ nx
        obtain ⟨d, hd, tx⟩ := al.at hx
        refine ⟨rfl, _, rfl, _, rfl, N, x, d, (m : Int), rfl, tx.kp k3, tb3, fun H5 k5 tb5 => ⟨tieT (m : Int) d, rfl, ?_⟩⟩
        cases e : tieT (m : Int) d with
        | true => exact iteT (nx _ ⟨k3.trans k5, tb5, all_true_at al3 hd e⟩)
        | false =>
          refine iteF ⟨_, rfl, iteT ?_⟩
          have z := q _ (k3.trans k5) tb5
          rw [show tiesT m (.tup ds) = false from by show (ds.all _ && _) = false; rw [all_false_at hd e]; rfl] at z
          exact z
      · obtain ⟨k3, tb3, al3⟩ := z
        rw [al.length, List.take_of_length_le (Nat.le_refl _)] at al3
        refine ⟨_, rfl, iteF ?_⟩
        have pa := al.pall al3
        have bd := tie_bounds al3
        have q : ∀ H', Kp H H' → Tb T.tbs H' → Q (.bl (decide ((ds.map pairT).Pairwise ltT) && !ringB (ds.map pairT))) H' := fun H' k' t' => by
          have z := q H' k' t'
          rw [show tiesT m (.tup ds) = (decide ((ds.map pairT).Pairwise ltT) && !ringB (ds.map pairT)) from by show (ds.all _ && _) = _; rw [al3]; rfl] at z
          exact z
        refine ⟨_, rfl, a, ys, _, rfl, k3.tup ha, pa.kp k3, tb3, fun H4 k4 tb4 => ⟨_, rfl, ?_⟩⟩
        have k34 := k3.trans k4
        cases e : decide ((ds.map pairT).Pairwise ltT) with
        | false =>
          refine iteF ?_
          have z := q H4 k34 tb4
          rw [e] at z
          exact z
        | true =>
          refine iteT ?_
          refine ⟨_, rfl, _, rfl, a, ys, _, m, rfl, k34.tup ha, pa.kp k34, hm, fun u mu => ?_, fun H5 s5 => ⟨_, rfl, ?_⟩⟩
          · have b1 := bd u mu
            omega
          · have z := q H5 (k34.same s5) (tb4.same s5)
            rw [e] at z
            exact z
    · have z := q H (Kp.refl H) tb
      rw [no_ties nt] at z
      exact ⟨_, rfl, _, _, _, _, false, rfl, ClsV.ty _, ty, kt, _, rfl, iteT (iteT z)⟩
def spPointT : Sp := fun vs H Q _ => ∃ (N : Addr → Prop) (v : V) (d : Th), vs = [v] ∧ ThV N H v d ∧ Q (.bl (pointT d)) H
theorem ok_pointT (T : Top K mg) : FnOk P w K mg base CX0 2 T.a_ispoint T.d_ispoint ["thing"] spPointT := by
  have G_iswhole : FnOk P w K mg base CX0 1 _ _ _ _ := ok_whole T
  have G_iskind : FnOk P w K mg base CX0 1 _ _ _ _ := ok_kind T
  refine T.F_ispoint.ok sc_ispoint (fun vs H Q E h => ?_) (fun cdv A outer s H vs Q E hr h => ?_)
  · obtain ⟨N, v, d, rfl, _⟩ := h
    rfl
  · obtain ⟨N, v, d, rfl, hv, q⟩ := h
    refine ⟨_, (pss_one (ps_ret (pe_and (pe_callB call_isi (by rfl) T.m_isinstance (by decide +kernel) (pa_cons (pv 0) (pa_cons (pe_bltn (v := .ty "tuple") (by rfl) T.m_tuple (by decide +kernel) rfl) pa_nil))) (pe_and (pe_cmpR op_eq (pe_callB call_len_seq (by rfl) T.m_len PySem.boot_len (pa_cons (pv 0) pa_nil)) pe_int (nomark _)) (pe_and (pe_call G_iswhole hr (by rfl) T.g_iswhole T.F_iswhole.kp T.b_iswhole .nil pass0 (pa_cons (pe_ix ix_tup (pv 0) pe_int (fun _ _ => rfl)) pa_nil)) (pe_one (pe_call G_iskind hr (by rfl) T.g_iskind T.F_iskind.kp T.b_iskind .nil pass0 (pa_cons (pe_ix ix_tup (pv 0) pe_int (fun _ _ => rfl)) pa_nil)))))))), ?_⟩
    rcases tup_ok (K := K) hv with ⟨a, ys, ds, rfl, na, ha, al, rfl⟩ | ⟨⟨t, ty, kt⟩, nt⟩
    · refine ⟨_, rfl, _, _, _, _, true, rfl, ClsV.ty _, .base (.tup ha), kit_ty (by decide +kernel), _, rfl, iteT ?_⟩
      refine ⟨_, rfl, a, _, rfl, .inr (SqT.of ha), rfl, _, rfl, ?_⟩
      refine ite2 (fun z => ?_) (fun z => ?_)
      · have l2 : ys.length = 2 := by
          have := V.int.inj (of_decide_eq_true z)
          omega
        clear z
        match ys, ds, al, l2 with
        | [x, y], [dx, dy], .cons hx (.cons hy .nil), _ =>
          have q : Q (.bl (wholeT dx && kindT dy)) H := q
          refine ⟨_, rfl, a, _, _, _, rfl, rfl, SqT.of ha, atI_nat (j := 0) rfl, x, rfl, hx.any, _, rfl, ?_⟩
          rw [← hx.whole, ← hy.kind] at q
          cases e : wholeB x with
          | false =>
            rw [e] at q
            exact iteF q
          | true =>
            rw [e] at q
            exact iteT ⟨_, rfl, a, _, _, _, rfl, rfl, SqT.of ha, atI_nat (j := 1) rfl, y, rfl, hy.any, q⟩
      · have l2 : ds.length ≠ 2 := fun e => z (decide_eq_true (congrArg V.int (by rw [al.length, e]; rfl)))
        rw [no_point2 l2] at q
        exact q
    · rw [no_point nt] at q
      exact ⟨_, rfl, _, _, _, _, false, rfl, ClsV.ty _, ty, kt, _, rfl, iteF q⟩
def spPointsT (T : Top K mg) : Sp := fun vs H Q _ => ∃ (N : Addr → Prop) (v : V) (d : Th), vs = [v] ∧ ThV N H v d ∧ Tb T.tbs H ∧ ∀ H', Kp H H' → Tb T.tbs H' → Q (.bl (ptsT d)) H'
theorem ok_pointsT (T : Top K mg) (TB : GxR.TabB base mg T.cZ T.PZ) : FnOk P w K mg base CX0 4 T.a_arepoints T.d_arepoints ["thing"] (spPointsT T) := by
  have G_ispoint : FnOk P w K mg base CX0 2 _ _ _ _ := ok_pointT T
  refine okC T.F_arepoints T.hcZ sc_arepoints (fun vs H Q E h => ?_) (fun A outer s H vs Q E hr h => ?_)
  · obtain ⟨N, v, d, rfl, _⟩ := h
    rfl
  · obtain ⟨N, v, d, rfl, hv, tb, q⟩ := h
    refine ⟨_, (pss_one (ps_ret (pe_and (pe_callB call_isi (by rfl) T.m_isinstance (by decide +kernel) (pa_cons (pv 0) (pa_cons (pe_bltn (v := .ty "tuple") (by rfl) T.m_tuple (by decide +kernel) rfl) pa_nil))) (pe_and (pe_cmpR op_gt (pe_callB call_len_seq (by rfl) T.m_len PySem.boot_len (pa_cons (pv 0) pa_nil)) pe_int (nomark _)) (pe_one (pe_allG (own := [("point", 1)]) hr rfl sc_arepoints.nd (by rfl) T.m_all (by decide +kernel) TB rfl (blkOk_by (own := [("point", 1)]) (N := ["thing", "point"]) (sc := defScope s_arepoints) (by decide +kernel)) (by rfl) (by decide +kernel) (by rfl) (pi_tup (pv 0)) (fun _ _ _ _ _ _ _ => (pg_name (i := 1) sc_arepoints.nd rfl (.inl rfl) (hf := Or.inr rfl))) (fun _ _ _ _ _ _ _ hr' => (pe_call G_ispoint hr' (by rfl) T.g_ispoint T.F_ispoint.kp T.b_ispoint .nil pass0 (pa_cons (pv 1) pa_nil))))))))), ?_⟩
    rcases tup_ok (K := K) hv with ⟨a, ys, ds, rfl, na, ha, al, rfl⟩ | ⟨⟨t, ty, kt⟩, nt⟩
    · refine ⟨_, rfl, _, _, _, _, true, rfl, ClsV.ty _, .base (.tup ha), kit_ty (by decide +kernel), _, rfl, iteT ?_⟩
      cases al with
      | nil =>
        refine ⟨_, rfl, a, _, rfl, .inr (SqT.of ha), _, _, rfl, rfl, false, rfl, iteF ?_⟩
        exact q H (Kp.refl H) tb
      | @cons v0 vr d0 dr h0 ar =>
        have al : ThAll N H (v0 :: vr) (d0 :: dr) := .cons h0 ar
        refine ⟨_, rfl, a, _, rfl, .inr (SqT.of ha), _, _, rfl, rfl, true, congrArg V.bl (decide_eq_true (by rw [List.length_cons]; omega)), iteT ?_⟩
        refine ⟨_, rfl, a, rfl, ⟨_, SqT.of ha⟩, tb.g T.mZ, fun H2 tab => ?_⟩
        have k2 := Kp.of_tabd (tb.g T.mZ) tab
        have tb2 := tb.tab T.nd T.mZ (But.of_tab tab) tab.1
        refine gturns_it (walk_tup (xs := v0 :: vr)) (fun i H3 => Kp H H3 ∧ Tb T.tbs H3 ∧ ((d0 :: dr).take i).all pointT = true) ⟨k2, tb2, rfl⟩ (fun i H3 _ z => SqT.of (z.1.tup ha)) ?_ (fun H3 z => ?_)
        · rintro i x H3 H4 N2 hi ⟨k3, tb3, al3⟩ ⟨rfl, hx⟩ nx
          obtain ⟨d, hd, tx⟩ := al.at hx
          refine ⟨rfl, _, rfl, N, x, d, rfl, tx.kp k3, pointT d, rfl, ?_⟩
          cases e : pointT d with
          | true => exact iteT (nx _ ⟨k3, tb3, all_true_at al3 hd e⟩)
          | false =>
            refine iteF ?_
            have z := q _ k3 tb3
            rw [show ptsT (.tup (d0 :: dr)) = false from all_false_at hd e] at z
            exact z
        · obtain ⟨k3, tb3, al3⟩ := z
          rw [al.length, List.take_of_length_le (Nat.le_refl _)] at al3
          have z := q H3 k3 tb3
          rw [show ptsT (.tup (d0 :: dr)) = true from al3] at z
          exact z
    · have z := q H (Kp.refl H) tb
      rw [no_pts nt] at z
      exact ⟨_, rfl, _, _, _, _, false, rfl, ClsV.ty _, ty, kt, _, rfl, iteF z⟩
def smallT : Th → Prop
  | .tup (.tup ps :: _) => ps.length ≤ 100
  | _ => True
def spForestT (T : Top K mg) : Sp := fun vs H Q _ => ∃ (N : Addr → Prop) (v : V) (d : Th), vs = [v] ∧ ThV N H v d ∧ smallT d ∧ Tb T.tbs H ∧ ∀ H', Kp H H' → Tb T.tbs H' → Q (.bl (forestT d)) H'
theorem ok_forestT (T : Top K mg) (TA : GxR.TabB base mg T.cA T.PA) (TR : GxR.TabB base mg T.cR T.PR) (TY : GxR.TabB base mg T.cY T.PY) (TZ : GxR.TabB base mg T.cZ T.PZ) : FnOk P w K mg base CX0 7 T.a_isforest T.d_isforest ["thing"] (spForestT T) := by
  have G_areties : FnOk P w K mg base CX0 6 _ _ _ _ := ok_tiesT T TA TR TY
  have G_arepoints : FnOk P w K mg base CX0 4 _ _ _ _ := ok_pointsT T TZ
  refine T.F_isforest.ok sc_isforest (fun vs H Q E h => ?_) (fun cdv A outer s H vs Q E hr h => ?_)
  · obtain ⟨N, v, d, rfl, _⟩ := h
    rfl
  · obtain ⟨N, v, d, rfl, hv, sm, tb, q⟩ := h
    refine ⟨_, (pss_cons (ps_if (PW.pt (pw_or (pt_not (pt_val (pe_callB call_isi (by rfl) T.m_isinstance (by decide +kernel) (pa_cons (pv 0) (pa_cons (pe_bltn (v := .ty "tuple") (by rfl) T.m_tuple (by decide +kernel) rfl) pa_nil))))) (pw_or1 (pt_cmpR op_ne (pe_callB call_len_seq (by rfl) T.m_len PySem.boot_len (pa_cons (pv 0) pa_nil)) pe_int (nomark _))))) (pss_one (ps_ret pe_bl)) pss_nil)
      (pss_cons (ps_asg (pv 0) (pg_tup rfl (pgs_cons (pg_name (i := 1) sc_isforest.nd rfl (.inl rfl)) (pgs_cons (pg_name (i := 2) sc_isforest.nd rfl (.inl rfl)) pgs_nil))))
      (pss_one (ps_ret (pe_and (pe_call G_arepoints (hr.mono (by decide)) (by rfl) T.g_arepoints T.F_arepoints.kp T.b_arepoints .nil pass0 (pa_cons (pv 1) pa_nil)) (pe_one (pe_call G_areties hr (by rfl) T.g_areties T.F_areties.kp T.b_areties .nil pass0 (pa_cons (pv 2) (pa_cons (pe_callB call_len_seq (by rfl) T.m_len PySem.boot_len (pa_cons (pv 1) pa_nil)) pa_nil))))))))), ?_⟩
    rcases tup_ok (K := K) hv with ⟨a, ys, ds, rfl, na, ha, al, rfl⟩ | ⟨⟨t, ty, kt⟩, nt⟩
    · refine ⟨_, rfl, _, _, _, _, true, rfl, ClsV.ty _, .base (.tup ha), kit_ty (by decide +kernel), _, rfl, iteF ?_⟩
      refine ⟨_, rfl, a, _, rfl, .inr (SqT.of ha), rfl, _, rfl, ?_⟩
      refine ite2 (fun z => ?_) (fun z => ?_)
      · have l2 : ds.length ≠ 2 := fun e => by
          rw [al.length, e] at z
          cases z
        have z := q H (Kp.refl H) tb
        rw [no_len l2] at z
        exact z
      · have l2 : ys.length = 2 := by
          by_cases e : ys.length = 2
          · exact e
          · exfalso
            apply z
            have : decide (V.int (ys.length : Int) = V.int 2) = false := decide_eq_false fun h => e (by have := V.int.inj h; omega)
            show (!decide (V.int (ys.length : Int) = V.int 2)) = true
            rw [this]
            rfl
        clear z
        match ys, ds, al, l2 with
        | [x, y], [dx, dy], .cons hx (.cons hy .nil), _ =>
          have q : ∀ H', Kp H H' → Tb T.tbs H' → Q (.bl (ptsT dx && tiesT (lenT dx) dy)) H' := q
          refine ⟨_, rfl, a, _, rfl, SqT.of ha, rfl, _, _, rfl, _, _, rfl, rfl, ?_⟩
          refine ⟨_, rfl, N, x, dx, rfl, hx, tb, fun H1 k1 tb1 => ⟨_, rfl, ?_⟩⟩
          cases e : ptsT dx with
          | false =>
            refine iteF ?_
            have z := q H1 k1 tb1
            rw [e] at z
            exact z
          | true =>
            refine iteT ?_
            cases hx.kp k1 with
            | @tup t xs ps n h1 pl =>
              refine ⟨_, rfl, _, rfl, t, _, rfl, .inr (SqT.of h1), N, y, dy, ps.length, ?_, hy.kp k1, sm, tb1, fun H2 k2 tb2 => ?_⟩
              · rw [pl.length]
                rfl
              · have z := q H2 (k1.trans k2) tb2
                rw [e] at z
                exact z
            | _ => exact nomatch e
    · have z := q H (Kp.refl H) tb
      rw [no_forest nt] at z
      exact ⟨_, rfl, _, _, _, _, false, rfl, ClsV.ty _, ty, kt, _, rfl, iteT (iteT z)⟩
end

end My
namespace My
open PySem L2
/-! ### the law's own look -/
theorem take_at {α : Type} {xs : List α} {i : Nat} {x : α} (h : xs[i]? = some x) : xs.take (i + 1) = xs.take i ++ [x] := by
  rw [List.take_succ, h]
  rfl
theorem same_put {H H1 : Hp} {d : Addr} {o : HO} (s : Same H H1) (n : H d = none) : Same H (upd H1 d o) := fun b u z => by
  rw [upd_ne (ne_of_none z n)]
  exact s b u z
theorem ne_int {x y : Int} (z : (!decide (V.int x = V.int y)) = true) : x ≠ y := fun e => by
  subst e
  rw [decide_eq_true rfl] at z
  cases z
theorem eq_int {x y : Int} (z : ¬ (!decide (V.int x = V.int y)) = true) : x = y := by
  by_cases e : x = y
  · exact e
  · exact absurd (by rw [decide_eq_false fun h => e (V.int.inj h)]; rfl) z
theorem kinds_list : sgs "abcdefgh" = kinds.map V.str := by decide +kernel
theorem same_refl {H : Hp} : Same H H := fun _ _ e => e
theorem ThV.int_ok {K : PySem.W.Frag} {N : Addr → Prop} {H : Hp} {v : V} {d : Th} (h : ThV N H v d) : ∃ t, TyX K H v t ∧ PySem.W.kitOne K t (.type "int") = some (isIntV v) := My.int_ok h.any
theorem whole_int_bool {v : V} : (isIntV v && !isBoolV v) = wholeB v := by cases v <;> rfl
section
variable {P : Program} {w : World} {K : PySem.W.Frag} {mg : Str → Option Value} {base : Heap}
def spLPoint : Sp := fun vs H Q _ => ∃ (N : Addr → Prop) (v : V) (d : Th), vs = [v] ∧ ThV N H v d ∧ ∀ H', Same H H' → Q (.bl (pointT d)) H'
theorem ok_lpoint (T : Top K mg) : FnOk P w K mg base CX0 1 T.a_Lispoint T.d_Lispoint ["_law_thing"] spLPoint := by
  refine T.F_Lispoint.ok sc_Lispoint (fun vs H Q E h => ?_) (fun cdv A outer s H vs Q E hr h => ?_)
  · obtain ⟨N, v, d, rfl, _⟩ := h
    rfl
  · obtain ⟨N, v, d, rfl, hv, q⟩ := h
    refine ⟨_, (pss_cons (ps_if (PW.pt (pw_or (pt_not (pt_val (pe_callB call_isi (by rfl) T.m_isinstance (by decide +kernel) (pa_cons (pv 0) (pa_cons (pe_bltn (v := .ty "tuple") (by rfl) T.m_tuple (by decide +kernel) rfl) pa_nil))))) (pw_or1 (pt_cmpR op_ne (pe_callB call_len_seq (by rfl) T.m_len PySem.boot_len (pa_cons (pv 0) pa_nil)) pe_int (nomark _))))) (pss_one (ps_ret pe_bl)) pss_nil)
      (pss_cons (ps_if (PW.pt (pw_or (pt_not (pt_val (pe_callB call_isi (by rfl) T.m_isinstance (by decide +kernel) (pa_cons (pe_ix ix_tup (pv 0) pe_int (fun _ _ => rfl)) (pa_cons (pe_bltn (v := .ty "int") (by rfl) T.m_int (by decide +kernel) rfl) pa_nil))))) (pw_or1 (pt_val (pe_callB call_isi (by rfl) T.m_isinstance (by decide +kernel) (pa_cons (pe_ix ix_tup (pv 0) pe_int (fun _ _ => rfl)) (pa_cons (pe_bltn (v := .ty "bool") (by rfl) T.m_bool (by decide +kernel) rfl) pa_nil))))))) (pss_one (ps_ret pe_bl)) pss_nil)
      (pss_one (ps_ret (pe_and (pe_callB call_isi (by rfl) T.m_isinstance (by decide +kernel) (pa_cons (pe_ix ix_tup (pv 0) pe_int (fun _ _ => rfl)) (pa_cons (pe_bltn (v := .ty "str") (by rfl) T.m_str (by decide +kernel) rfl) pa_nil))) (pe_one (pe_cmpR op_in_seq (pe_ix ix_tup (pv 0) pe_int (fun _ _ => rfl)) (pe_callTy (call_list_txt rfl) (by rfl) T.m_list (by decide +kernel) (pa_cons pe_str pa_nil)) (by rfl)))))))), ?_⟩
    rcases tup_ok (K := K) hv with ⟨a, ys, ds, rfl, na, ha, al, rfl⟩ | ⟨⟨t, ty, kt⟩, nt⟩
    · refine ⟨_, rfl, _, _, _, _, true, rfl, ClsV.ty _, .base (.tup ha), kit_ty (by decide +kernel), _, rfl, iteF ?_⟩
      refine ⟨_, rfl, a, _, rfl, .inr (SqT.of ha), rfl, _, rfl, ite2 (fun z => ?_) (fun z => ?_)⟩
      · have l2 : ds.length ≠ 2 := fun e => ne_int z (by rw [al.length, e]; rfl)
        have y := q H same_refl
        rw [no_point2 l2] at y
        exact y
      have l2 : ys.length = 2 := by
        have := eq_int z
        omega
      clear z
      match ys, ds, al, l2 with
      | [x, y], [dx, dy], .cons hx (.cons hy .nil), _ =>
        have q : ∀ H', Same H H' → Q (.bl (wholeB x && kindB y)) H' := fun H' s' => by
          rw [hx.whole, hy.kind]
          exact q H' s'
        obtain ⟨t1, ty1, kt1⟩ := int_ok (K := K) hx.any
        obtain ⟨t2, ty2, kt2⟩ := bool_ok (K := K) hx.any
        refine ⟨_, rfl, a, _, _, _, rfl, rfl, SqT.of ha, atI_nat (j := 0) rfl, _, _, _, _, _, rfl, ClsV.ty _, ty1, kt1, _, rfl, ?_⟩
        cases e1 : isIntV x with
        | false =>
          have e : wholeB x = false := by rw [← whole_int_bool, e1]; rfl
          rw [e] at q
          exact iteT (iteT (q H same_refl))
        | true =>
        refine iteF ?_
        refine ⟨_, rfl, a, _, _, _, rfl, rfl, SqT.of ha, atI_nat (j := 0) rfl, _, _, _, _, _, rfl, ClsV.ty _, ty2, kt2, _, rfl, ?_⟩
        cases e2 : isBoolV x with
        | true =>
          have e : wholeB x = false := by rw [← whole_int_bool, e1, e2]; rfl
          rw [e] at q
          exact iteT (q H same_refl)
        | false =>
        have e : wholeB x = true := by rw [← whole_int_bool, e1, e2]; rfl
        rw [e] at q
        refine iteF ?_
        obtain ⟨t3, ty3, kt3⟩ := str_ok (K := K) hy.any
        refine ⟨_, rfl, a, _, _, _, rfl, rfl, SqT.of ha, atI_nat (j := 1) rfl, _, _, _, _, _, rfl, ClsV.ty _, ty3, kt3, _, rfl, ite2 (fun z => ?_) (fun z => ?_)⟩
        · cases y with
          | str z =>
            refine ⟨_, rfl, a, _, _, _, rfl, rfl, SqT.of ha, atI_nat (j := 1) rfl, _, rfl, (by decide +kernel), fun l nl => ?_⟩
            rw [kinds_list]
            refine ⟨l, _, rfl, .inl (SqL.of upd_same), rfl, flat_strs kinds, ?_⟩
            rw [inV_str]
            exact q _ (same_new nl)
          | _ => exact nomatch z
        · have e : kindB y = false := by
            cases y <;> first | rfl | exact absurd rfl z
          rw [e] at q
          exact q H same_refl
    · have y := q H same_refl
      rw [no_point nt] at y
      exact ⟨_, rfl, _, _, _, _, false, rfl, ClsV.ty _, ty, kt, _, rfl, iteT (iteT y)⟩
def spLTie : Sp := fun vs H Q _ => ∃ (N : Addr → Prop) (v : V) (d : Th) (m : Int), vs = [v, .int m] ∧ ThV N H v d ∧ ∀ H', Same H H' → Q (.bl (tieT m d)) H'
theorem ok_ltie (T : Top K mg) : FnOk P w K mg base CX0 1 T.a_Listie T.d_Listie ["_law_thing", "_law_many_here"] spLTie := by
  refine T.F_Listie.ok sc_Listie (fun vs H Q E h => ?_) (fun cdv A outer s H vs Q E hr h => ?_)
  · obtain ⟨N, v, d, m, rfl, _⟩ := h
    rfl
  · obtain ⟨N, v, d, m, rfl, hv, q⟩ := h
    refine ⟨_, (pss_cons (ps_if (PW.pt (pw_or (pt_not (pt_val (pe_callB call_isi (by rfl) T.m_isinstance (by decide +kernel) (pa_cons (pv 0) (pa_cons (pe_bltn (v := .ty "tuple") (by rfl) T.m_tuple (by decide +kernel) rfl) pa_nil))))) (pw_or1 (pt_cmpR op_ne (pe_callB call_len_seq (by rfl) T.m_len PySem.boot_len (pa_cons (pv 0) pa_nil)) pe_int (nomark _))))) (pss_one (ps_ret pe_bl)) pss_nil)
      (pss_cons (ps_if (pt_not (pt_val (pe_callB (cr_all rfl) (by rfl) T.m_all (by decide +kernel) (pa_cons (pe_lc (own := [("_law_one", 2)]) (g := gName 2) (tt := tYes) (by rfl) sc_Listie.nd (pi_tup (pv 0)) (blkOk_by (own := [("_law_one", 2)]) (N := ["_law_thing", "_law_many_here", "_law_one"]) (sc := defScope s_Listie) (by decide +kernel)) (fun _ _ _ _ _ => (pg_name (i := 2) sc_Listie.nd rfl (.inl rfl))) (fun _ _ _ _ _ => pts_nil) (fun _ _ _ _ _ => (pe_and (pe_callB (call_isiK (K := K) rfl) (by rfl) T.m_isinstance (by decide +kernel) (pa_cons (pv 2) (pa_cons (pe_bltn (v := .ty "int") (by rfl) T.m_int (by decide +kernel) rfl) pa_nil))) (pe_one (pe_not (pe_callB (call_isiK (K := K) rfl) (by rfl) T.m_isinstance (by decide +kernel) (pa_cons (pv 2) (pa_cons (pe_bltn (v := .ty "bool") (by rfl) T.m_bool (by decide +kernel) rfl) pa_nil)))))))) pa_nil)))) (pss_one (ps_ret pe_bl)) pss_nil)
      (pss_one (ps_ret (pe_and (pe_cmpR op_ge (pe_ix ix_tup (pv 0) pe_int (fun _ _ => rfl)) pe_int (nomark _)) (pe_and (pe_cmpR op_lt (pe_ix ix_tup (pv 0) pe_int (fun _ _ => rfl)) (pe_ix ix_tup (pv 0) pe_int (fun _ _ => rfl)) (nomark _)) (pe_one (pe_cmpR op_lt (pe_ix ix_tup (pv 0) pe_int (fun _ _ => rfl)) (pv 1) (nomark _))))))))), ?_⟩
    rcases tup_ok (K := K) hv with ⟨a, ys, ds, rfl, na, ha, al, rfl⟩ | ⟨⟨t, ty, kt⟩, nt⟩
    · refine ⟨_, rfl, _, _, _, _, true, rfl, ClsV.ty _, .base (.tup ha), kit_ty (by decide +kernel), _, rfl, iteF ?_⟩
      refine ⟨_, rfl, a, _, rfl, .inr (SqT.of ha), rfl, _, rfl, ite2 (fun z => ?_) (fun z => ?_)⟩
      · have l2 : ds.length ≠ 2 := fun e => ne_int z (by rw [al.length, e]; rfl)
        have y := q H same_refl
        rw [no_tie2 l2] at y
        exact y
      have l2 : ys.length = 2 := by
        have := eq_int z
        omega
      clear z
      refine ⟨_, rfl, a, rfl, ⟨_, SqT.of ha⟩, fun D nD => ?_⟩
      refine lc_tup (xs := ys) (fun i H2 => Same H H2 ∧ H2 D = some (.lst (((ys.take i).map wholeB).map V.bl))) ⟨same_new nD, upd_same⟩ (fun i H2 _ z => SqT.of (z.1 _ _ ha)) ?_ ?_
      · rintro i y H2 hx ⟨s2, hD⟩
        have hi := (List.getElem?_eq_some_iff.mp hx).1
        obtain ⟨dy, _, hy⟩ := al.at hx
        have ay := (hy.same s2).any
        refine ⟨rfl, yes_ite ?_⟩
        have fin : ∀ bb : Bool, bb = wholeB y → ∃ acc, H2 D = some (.lst acc) ∧ acc.length < sizeLine ∧ (Same H (upd H2 D (.lst (acc ++ [V.bl bb]))) ∧ upd H2 D (.lst (acc ++ [V.bl bb])) D = some (.lst (((ys.take (i + 1)).map wholeB).map V.bl))) := fun bb e => by
          refine ⟨_, hD, szl (by rw [List.length_map, List.length_map, List.length_take]; omega), same_put s2 nD, ?_⟩
          rw [upd_same, take_at hx, List.map_append, List.map_append, e]
          rfl
        obtain ⟨tt, ty, kt⟩ := int_ok (K := K) ay
        refine ⟨_, rfl, _, _, _, _, _, rfl, ClsV.ty _, ty, kt, _, rfl, ?_⟩
        obtain ⟨t2, ty2, kt2⟩ := bool_ok (K := K) ay
        refine ite2 (fun e => ?_) (fun e => ?_)
        · refine ⟨_, rfl, _, _, _, _, _, rfl, ClsV.ty _, ty2, kt2, _, rfl, fin _ ?_⟩
          cases y <;> first | rfl | exact nomatch e
        · refine fin _ ?_
          cases y <;> first | rfl | exact absurd rfl e
      rintro H2 ⟨s2, hD⟩
      rw [List.take_length] at hD
      refine ⟨D, ys.map wholeB, rfl, SqL.of hD, ?_⟩
      match ys, ds, al, l2 with
      | [x, y], [dx, dy], .cons hx (.cons hy .nil), _ =>
        have ea : ([x, y].map wholeB).all id = (wholeT dx && wholeT dy) := by
          rw [← hx.whole, ← hy.whole]
          show (wholeB x && (wholeB y && true)) = _
          rw [Bool.and_true]
        rw [ea]
        cases e : (wholeT dx && wholeT dy) with
        | false =>
          have y := q H2 s2
          rw [no_tie3 (ds := [dx, dy]) (show (wholeT dx && (wholeT dy && true)) = false by rw [Bool.and_true]; exact e)] at y
          exact ⟨_, rfl, iteT y⟩
        | true =>
        rw [Bool.and_eq_true] at e
        obtain ⟨i, rfl, rfl⟩ := whole_int hx e.1
        obtain ⟨j, rfl, rfl⟩ := whole_int hy e.2
        have q : ∀ b, b = (decide (0 ≤ i) && (decide (i < j) && decide (j < m))) → Q (.bl b) H2 := fun b e => e ▸ q H2 s2
        have h2 := s2 _ _ ha
        refine ⟨_, rfl, iteF ?_⟩
        refine ⟨_, rfl, a, _, _, _, rfl, rfl, SqT.of h2, atI_nat (j := 0) rfl, _, _, rfl, rfl, _, rfl, ?_⟩
        refine ite2 (fun e1 => ?_) (fun e1 => ?_)
        · have e1 : decide (0 ≤ i) = true := e1
          refine ⟨_, rfl, a, _, _, _, rfl, rfl, SqT.of h2, atI_nat (j := 0) rfl, _, rfl, a, _, _, _, rfl, rfl, SqT.of h2, atI_nat (j := 1) rfl, _, _, rfl, rfl, _, rfl, ?_⟩
          refine ite2 (fun e2 => ?_) (fun e2 => ?_)
          · have e2 : decide (i < j) = true := e2
            refine ⟨_, rfl, a, _, _, _, rfl, rfl, SqT.of h2, atI_nat (j := 1) rfl, _, rfl, _, _, rfl, rfl, q _ ?_⟩
            rw [e1, e2]
            rfl
          · have e2 : decide (i < j) = false := Bool.eq_false_iff.mpr e2
            exact q _ (by rw [e1, e2]; rfl)
        · have e1 : decide (0 ≤ i) = false := Bool.eq_false_iff.mpr e1
          exact q _ (by rw [e1]; rfl)
    · have y := q H same_refl
      rw [no_tie nt] at y
      exact ⟨_, rfl, _, _, _, _, false, rfl, ClsV.ty _, ty, kt, _, rfl, iteT (iteT y)⟩
end

end My
namespace My
open PySem L2
theorem filter_ne_length {a : Int} : ∀ {l : List Int}, l.Nodup → l.length ≤ (l.filter fun x => decide (x ≠ a)).length + 1
  | [], _ => Nat.zero_le _
  | x :: l, nd => by
    rw [List.nodup_cons] at nd
    by_cases e : x = a
    · subst e
      have h : (l.filter fun y => decide (y ≠ x)) = l := List.filter_eq_self.mpr fun y hy => decide_eq_true fun z => nd.1 (z ▸ hy)
      rw [List.filter_cons_of_neg (by simp), h, List.length_cons]
      omega
    · rw [List.filter_cons_of_pos (by simpa using e), List.length_cons, List.length_cons]
      have := filter_ne_length (a := a) nd.2
      omega
theorem nodup_le : ∀ {n : Nat} {l : List Int}, l.Nodup → (∀ x ∈ l, 0 ≤ x ∧ x < (n : Int)) → l.length ≤ n
  | 0, [], _, _ => Nat.le_refl _
  | 0, x :: l, _, h => by
    have := h x List.mem_cons_self
    omega
  | n + 1, l, nd, h => by
    have h1 := filter_ne_length (a := (n : Int)) nd
    have h2 := nodup_le (n := n) (l := l.filter fun x => decide (x ≠ (n : Int))) (nd.filter _) fun x hx => by
      obtain ⟨m1, m2⟩ := List.mem_filter.mp hx
      have := h x m1
      have := of_decide_eq_true m2
      omega
    omega
theorem no_part {σ : L2.St} {H : Hp} {Q : Option Int → Hp → Prop} (h : Q none H) : tNoPart σ H Q := h
theorem cutV_whole {xs : List V} {lo hi : Option Int} (h : HT.sIx xs.length 0 lo = 0 ∧ HT.sIx xs.length xs.length hi = xs.length) : cutV xs lo hi = xs := by
  unfold cutV
  rw [h.1, h.2, List.drop_zero, Nat.sub_zero, List.take_length]
theorem slA {K : PySem.W.Frag} {x : V} {lo hi : Option Int} {H : Hp} {Q : VK} {t : Addr} {xs : List V} (ex : x = .ref t) (h : H t = some (.tup xs)) (k : ∀ (p : Addr) (H' : Hp), Same H H' → H' p = some (.tup (cutV xs lo hi)) → Q (.ref p) H') : rSlA K x lo hi H Q :=
  ⟨t, xs, ex, SqT.of h, fun wh => k t H (fun _ _ e => e) (by rw [cutV_whole wh]; exact h), fun _ p np => k p _ (same_new np) upd_same⟩
theorem catA {K : PySem.W.Frag} {x y : V} {H : Hp} {Q : VK} {a b : Addr} {xs ys : List V} (ex : x = .ref a) (ey : y = .ref b) (h1 : H a = some (.tup xs)) (h2 : H b = some (.tup ys)) (l : xs.length + ys.length ≤ sizeLine) (k : ∀ (p : Addr) (H' : Hp), Same H H' → H' p = some (.tup (xs ++ ys)) → Q (.ref p) H') : rCatA K x y H Q :=
  ⟨a, b, xs, ys, ex, ey, SqT.of h1, SqT.of h2, l, fun e => k b H (fun _ _ e => e) (by rw [e]; exact h2), fun _ e => k a H (fun _ _ e => e) (by rw [e, List.append_nil]; exact h1), fun _ _ p np => k p _ (same_new np) upd_same⟩
/-- tuples stay -/
def TK (H H' : Hp) : Prop := ∀ a xs, H a = some (.tup xs) → H' a = some (.tup xs)
theorem TK.same {H H' : Hp} (s : Same H H') : TK H H' := fun a xs e => s _ _ e
theorem TK.kp {H H' : Hp} (s : Kp H H') : TK H H' := fun a xs e => s _ _ e (by intro ps z; cases z)
theorem TK.put {H : Hp} {D : Addr} {us : List V} {o : HO} (e : H D = some (.lst us)) : TK H (upd H D o) := fun a xs h => by
  rw [upd_ne (ne_of h e (by intro z; cases z))]
  exact h
theorem TK.trans {H H1 H2 : Hp} (x : TK H H1) (y : TK H1 H2) : TK H H2 := fun a xs e => y _ _ (x _ _ e)
def keyL (l : List Int) : List Key := l.map Sum.inl
theorem keyL_kV (l : List Int) : (keyL l).map kV = l.map V.int := by
  unfold keyL
  rw [List.map_map]
  rfl
theorem keyL_inj {l m : List Int} (h : keyL l = keyL m) : l = m := by
  have := congrArg (List.map kV) h
  rw [keyL_kV, keyL_kV] at this
  exact (List.map_inj_right (fun x y e => V.int.inj e)).mp this
theorem TPairs.mono {H H' : Hp} {ps : List Addr} {ks : List (List Key)} (t : TK H H') (h : TPairs H ps ks) : TPairs H' ps ks := ⟨h.1, fun j p k e1 e2 => by
  obtain ⟨b, h1, h2⟩ := h.2 j p k e1 e2
  exact ⟨b, t _ _ h1, t _ _ h2⟩⟩
theorem TPairs.snoc {H : Hp} {ps : List Addr} {ks : List (List Key)} (h : TPairs H ps ks) {p b : Addr} {k : List Key} (h1 : H p = some (.tup [.ref b, .bl true])) (h2 : H b = some (.tup (k.map kV))) : TPairs H (ps ++ [p]) (ks ++ [k]) := by
  refine ⟨by rw [List.length_append, List.length_append, h.1]; rfl, fun j p' k' e1 e2 => ?_⟩
  by_cases lt : j < ps.length
  · rw [List.getElem?_append_left lt] at e1
    rw [List.getElem?_append_left (h.1 ▸ lt)] at e2
    exact h.2 j p' k' e1 e2
  · have l1 := (List.getElem?_eq_some_iff.mp e1).1
    rw [List.length_append, List.length_singleton] at l1
    have ej : j = ps.length := by omega
    subst ej
    rw [List.getElem?_append_right (Nat.le_refl _), Nat.sub_self] at e1
    rw [List.getElem?_append_right (by rw [h.1]; exact Nat.le_refl _), h.1, Nat.sub_self] at e2
    cases Option.some.inj e1
    cases Option.some.inj e2
    exact ⟨b, h1, h2⟩
theorem eqv_td (t u : Int × Int) : PyData.eqv (tdata t) (tdata u) = decide (t = u) := by
  obtain ⟨a, b⟩ := t
  obtain ⟨c, d⟩ := u
  show (PyData.eqv (.int a) (.int c) && (PyData.eqv (.int b) (.int d) && true)) = _
  have e : ∀ x y : Int, PyData.eqv (.int x) (.int y) = decide (x = y) := fun x y => by
    rfl
  rw [e, e, Bool.and_true, ← Bool.decide_and]
  exact decide_eq_decide.mpr ⟨fun ⟨h1, h2⟩ => by rw [h1, h2], fun h => ⟨congrArg Prod.fst h, congrArg Prod.snd h⟩⟩
theorem shaped_td (t : Int × Int) : SeqAt.shaped (tdata t) = true := by
  obtain ⟨a, b⟩ := t
  rfl
theorem lay_tds : ∀ ts : Ties, PyData.canLayAll0 (ts.map tdata) = true ∧ PyData.depthAll (ts.map tdata) ≤ 1
  | [] => ⟨rfl, Nat.zero_le _⟩
  | t :: r => by
    have ih := lay_tds r
    obtain ⟨a, b⟩ := t
    refine ⟨?_, ?_⟩
    · show (PyData.canLay0 (tdata (a, b)) && PyData.canLayAll0 (r.map tdata)) = true
      rw [ih.1, Bool.and_true]
      rfl
    · show max (PyData.depth (tdata (a, b))) (PyData.depthAll (r.map tdata)) ≤ 1
      exact Nat.max_le.mpr ⟨Nat.le_refl _, ih.2⟩
theorem shaped_tds (ts : Ties) : SeqAt.shaped (.tuple (ts.map tdata)) = true := by
  obtain ⟨h1, h2⟩ := lay_tds ts
  show (PyData.canLayAll0 (ts.map tdata) && decide (PyData.depthAll (ts.map tdata) + 1 ≤ 64)) = true
  rw [h1, decide_eq_true (show PyData.depthAll (ts.map tdata) + 1 ≤ 64 by omega)]
  rfl
theorem eqv_all_td : ∀ ts us : Ties, PyData.eqvAll (ts.map tdata) (us.map tdata) = decide (ts = us)
  | [], [] => rfl
  | [], _ :: _ => rfl
  | _ :: _, [] => rfl
  | t :: ts, u :: us => by
    show (PyData.eqv (tdata t) (tdata u) && PyData.eqvAll (ts.map tdata) (us.map tdata)) = _
    rw [eqv_td, eqv_all_td ts us, ← Bool.decide_and]
    exact decide_eq_decide.mpr ⟨fun ⟨h1, h2⟩ => by rw [h1, h2], fun h => by cases h; exact ⟨rfl, rfl⟩⟩
theorem shaped_ltds (ts : Ties) : SeqAt.shaped (.list (ts.map tdata)) = true := by
  obtain ⟨h1, h2⟩ := lay_tds ts
  show (PyData.canLayAll0 (ts.map tdata) && decide (PyData.depthAll (ts.map tdata) + 1 ≤ 64)) = true
  rw [h1, decide_eq_true (show PyData.depthAll (ts.map tdata) + 1 ≤ 64 by omega)]
  rfl

/-! ### the law's own part: a closure over the ties -/
def kvF (ks : List Int) : List (Key × V) := ks.map fun k => ((Sum.inl k : Key), V.bl true)
def addK (ks : List Int) (x : Int) : List Int := if x ∈ ks then ks else ks ++ [x]
theorem kvF_some {ks : List Int} {x : Int} (h : x ∈ ks) : valV (kvF ks) (Sum.inl x) = some (.bl true) := by
  induction ks with
  | nil => cases h
  | cons k r ih =>
    by_cases e : k = x
    · exact valV_pos (p := ((Sum.inl k : Key), V.bl true)) (congrArg Sum.inl e)
    · show valV (((Sum.inl k : Key), V.bl true) :: kvF r) (Sum.inl x) = _
      rw [valV_neg (fun z => e (Sum.inl.inj z))]
      rcases List.mem_cons.mp h with z | z
      · exact absurd z.symm e
      · exact ih z
theorem kvF_none {ks : List Int} {x : Int} (h : x ∉ ks) : valV (kvF ks) (Sum.inl x) = none := by
  induction ks with
  | nil => rfl
  | cons k r ih =>
    show valV (((Sum.inl k : Key), V.bl true) :: kvF r) (Sum.inl x) = _
    have n1 : ¬ ((Sum.inl k : Key) = Sum.inl x) := fun z => h (Sum.inl.inj z ▸ List.mem_cons_self)
    rw [valV_neg n1]
    exact ih fun m => h (List.mem_cons_of_mem _ m)
theorem kvF_is (ks : List Int) (x : Int) : (valV (kvF ks) (Sum.inl x)).isSome = decide (x ∈ ks) := by
  by_cases h : x ∈ ks
  · rw [kvF_some h, decide_eq_true h]
    rfl
  · rw [kvF_none h, decide_eq_false h]
    rfl
theorem kvF_put (ks : List Int) (x : Int) : putK (kvF ks) (Sum.inl x) (.bl true) = kvF (addK ks x) := by
  unfold putK addK
  rw [valV_any]
  by_cases h : x ∈ ks
  · rw [kvF_some h, if_pos (show (some (V.bl true)).isSome = true from rfl), if_pos h]
    unfold kvF
    rw [List.map_map]
    refine List.map_congr_left fun k _ => ?_
    show (if (Sum.inl k : Key) = Sum.inl x then ((Sum.inl k : Key), V.bl true) else ((Sum.inl k : Key), V.bl true)) = _
    split <;> rfl
  · rw [kvF_none h, if_neg (by decide), if_neg h]
    unfold kvF
    rw [List.map_append]
    rfl
theorem addK_mem {ks : List Int} {x y : Int} : y ∈ addK ks x ↔ y ∈ ks ∨ y = x := by
  unfold addK
  by_cases h : x ∈ ks
  · rw [if_pos h]
    exact ⟨.inl, fun z => z.elim id fun e => e ▸ h⟩
  · rw [if_neg h, List.mem_append, List.mem_singleton]
theorem addK_nd {ks : List Int} {x : Int} (h : ks.Nodup) : (addK ks x).Nodup := by
  unfold addK
  by_cases m : x ∈ ks
  · rw [if_pos m]
    exact h
  · rw [if_neg m]
    refine List.nodup_append.mpr ⟨h, List.nodup_cons.mpr ⟨List.not_mem_nil, List.nodup_nil⟩, fun a ha b hb e => ?_⟩
    rw [List.mem_singleton.mp hb] at e
    exact m (e ▸ ha)
theorem addK_pre {ks0 ks : List Int} {x : Int} (h : ∃ r, ks = ks0 ++ r) : ∃ r, addK ks x = ks0 ++ r := by
  obtain ⟨r, rfl⟩ := h
  unfold addK
  split
  · exact ⟨r, rfl⟩
  · exact ⟨r ++ [x], List.append_assoc ..⟩
/-- what is closed holds all that is joined -/
theorem closedT_rch {ts : Ties} {a : Int} {ks : List Int} (ha : a ∈ ks) (cl : ∀ t ∈ ts, (t.1 ∈ ks ∨ t.2 ∈ ks) → t.1 ∈ ks ∧ t.2 ∈ ks) {v : Int} (h : Rch ts a v) : v ∈ ks := by
  induction h with
  | refl => exact ha
  | step _ e ih =>
    rcases e with e | e
    · exact (cl _ e (.inl ih)).2
    · exact (cl _ e (.inr ih)).1
def spLPart : Sp := fun vs H Q _ => ∃ (fa : Addr) (u0 : V) (ta : Addr) (ys : List V) (a : Int) (ts : Ties) (n : Nat), vs = [.ref fa, .int a] ∧ H fa = some (.tup [u0, .ref ta]) ∧ H ta = some (.tup ys) ∧ PAll H ys ts ∧ n ≤ 100 ∧ (∀ t ∈ ts, 0 ≤ t.1 ∧ 0 ≤ t.2 ∧ t.1 < (n : Int) ∧ t.2 < (n : Int)) ∧ 0 ≤ a ∧ a < (n : Int) ∧
  ∀ (D : Addr) (l : List Int) (H' : Hp), Same H H' → IsPart ts a l → H' D = some (.lst (l.map V.int)) → Q (.ref D) H'
section
variable {P : Program} {w : World} {K : PySem.W.Frag} {mg : Str → Option Value} {base : Heap}
theorem ok_lpart (T : Top K mg) : FnOk P w K mg base CX0 1 T.a_Lpart T.d_Lpart ["_law_forest_here", "_law_a"] spLPart := by
  refine T.F_Lpart.ok sc_Lpart (fun vs H Q E h => ?_) (fun cdv A outer s H vs Q E hr h => ?_)
  · obtain ⟨fa, u0, ta, ys, a, ts, n, rfl, _⟩ := h
    rfl
  · obtain ⟨fa, u0, ta, ys, a, ts, n, rfl, f1, f4, pa, few, bd, a0, a1, q⟩ := h
    have ly := pa.length
    have inN : ∀ {ks : List Int}, ks.Nodup → (∀ v ∈ ks, Rch ts a v) → ks.length ≤ n := fun {ks} nd hr => nodup_le nd fun v hv => rch_inN bd a0 a1 (hr v hv)
    refine ⟨_, (pss_cons (ps_set (i := 2) sc_Lpart.nd rfl (.inl rfl) (pe_disp (pps_cons (pv 1) pe_bl pps_nil) (by rfl) (by rfl) (fun z => by cases z) (by decide)))
      (pss_cons (ps_set (i := 3) sc_Lpart.nd rfl (.inl rfl) pe_int)
      (pss_cons (ps_while PassesOwn.never (pt_cmpR op_gt (pe_callB call_lenD (by rfl) T.m_len PySem.boot_len (pa_cons (pv 2) pa_nil)) (pv 3) (nomark _)) (pss_cons (ps_set (i := 3) sc_Lpart.nd rfl (.inl rfl) (pe_callB call_lenD (by rfl) T.m_len PySem.boot_len (pa_cons (pv 2) pa_nil)))
      (pss_one (ps_for PassesOwn.never rfl (pi_tup (pe_ix ix_tup (pv 0) pe_int (fun _ _ => rfl))) (pg_tup rfl (pgs_cons (pg_name (i := 4) sc_Lpart.nd rfl (.inl rfl)) (pgs_cons (pg_name (i := 5) sc_Lpart.nd rfl (.inl rfl)) pgs_nil))) (pss_one (ps_if (pt_mid (PW.pt (pw_or (pt_cmp (pc_din (u1 hr) (pv 4) (pv 2))) (pw_or1 (pt_cmp (pc_din (u1 hr) (pv 5) (pv 2))))))) (pss_cons (ps_dput (u1 hr) (pv 2) (pv 4) pe_bl rfl)
      (pss_one (ps_dput (u1 hr) (pv 2) (pv 5) pe_bl rfl))) pss_nil))))))
      (pss_one (ps_ret (pe_callB (call_sortedDX rfl) (by rfl) T.m_sorted (by decide +kernel) (pa_cons (pv 2) pa_nil))))))), ?_⟩
    refine fun d nd => ⟨_, rfl, upd_same, [(.inl a, .bl true)], rfl, (by show 1 ≤ 15; decide), ?_⟩
    rw [upd_upd]
    have s1 : Same H (upd H d (.dK (kvF [a]))) := same_new nd
    refine ⟨fun m σ H1 => ∃ (ks : List Int) (mh : Int) (y4 y5 : Option V), σ = [some (.ref fa), some (.int a), some (.ref d), some (.int mh), y4, y5] ∧ H1 d = some (.dK (kvF ks)) ∧ ks.Nodup ∧ (∀ v ∈ ks, Rch ts a v) ∧ a ∈ ks ∧ Same H H1 ∧ 0 ≤ mh ∧ mh ≤ (ks.length : Int) ∧ (mh = (ks.length : Int) → ∀ t ∈ ts, (t.1 ∈ ks ∨ t.2 ∈ ks) → t.1 ∈ ks ∧ t.2 ∈ ks) ∧ m = n - mh.toNat, ⟨_, [a], 0, none, none, rfl, upd_same, List.nodup_cons.mpr ⟨List.not_mem_nil, List.nodup_nil⟩, fun v hv => (List.mem_singleton.mp hv) ▸ .refl, List.mem_cons_self, s1, Int.le_refl _, (by show (0 : Int) ≤ 1; decide), fun z => absurd z (by show ¬ (0 : Int) = 1; decide), rfl⟩, ?_⟩
    rintro m σ H1 ⟨ks, mh, y4, y5, rfl, hd, ndk, hrk, ak, sm, mh0, mhl, cl, rfl⟩
    have lk : (kvF ks).length = ks.length := List.length_map ..
    refine ⟨_, rfl, d, _, rfl, hd, _, rfl, _, _, rfl, rfl, _, rfl, ite2 (fun e => ?_) (fun e => ?_)⟩
    · have gt : mh < (ks.length : Int) := by
        have z := of_decide_eq_true e
        rw [lk] at z
        omega
      have ln := inN ndk hrk
      refine ⟨fun σ' H' => ∃ (ks' : List Int) (y4 y5 : Option V), σ' = [some (.ref fa), some (.int a), some (.ref d), some (.int (ks.length : Int)), y4, y5] ∧ H' d = some (.dK (kvF ks')) ∧ ks'.Nodup ∧ (∀ v ∈ ks', Rch ts a v) ∧ a ∈ ks' ∧ Same H H' ∧ (∃ r, ks' = ks ++ r) ∧ ∀ t ∈ ts, (t.1 ∈ ks ∨ t.2 ∈ ks) → t.1 ∈ ks' ∧ t.2 ∈ ks', ?_, ?_⟩
      · rintro σ' H' ⟨ks', z4, z5, rfl, hd', nd', hr', ak', sm', ⟨r, er⟩, cl'⟩
        refine ⟨n - ks.length, by omega, ks', _, z4, z5, rfl, hd', nd', hr', ak', sm', by omega, ?_, fun el => ?_, rfl⟩
        · rw [er, List.length_append]
          omega
        · have r0 : r = [] := by
            rw [er, List.length_append] at el
            exact List.eq_nil_of_length_eq_zero (by omega)
          rw [r0, List.append_nil] at er
          subst er
          exact cl'
      · refine ⟨_, rfl, d, _, rfl, hd, ?_⟩
        rw [lk]
        refine ⟨_, rfl, fa, _, _, _, rfl, rfl, SqT.of (sm _ _ f1), atI_nat (j := 1) rfl, ta, rfl, ⟨ys, SqT.of (sm _ _ f4)⟩, for_tup (xs := ys) (fun i σ H2 => ∃ (ks' : List Int) (z4 z5 : Option V), σ = [some (.ref fa), some (.int a), some (.ref d), some (.int (ks.length : Int)), z4, z5] ∧ H2 d = some (.dK (kvF ks')) ∧ ks'.Nodup ∧ (∀ v ∈ ks', Rch ts a v) ∧ a ∈ ks' ∧ Same H H2 ∧ (∃ r, ks' = ks ++ r) ∧ ∀ t ∈ ts.take i, (t.1 ∈ ks ∨ t.2 ∈ ks) → t.1 ∈ ks' ∧ t.2 ∈ ks') ⟨ks, _, _, rfl, hd, ndk, hrk, ak, sm, ⟨[], (List.append_nil _).symm⟩, fun t m => nomatch m⟩ (fun i σ H2 _ z => by obtain ⟨_, _, _, _, _, _, _, _, z, _⟩ := z; exact SqT.of (z _ _ f4)) ?_ ?_⟩
        · rintro i x σ H2 hx ⟨ks', z4, z5, rfl, hd2, nd2, hr2, ak2, sm2, pre2, cl2⟩
          obtain ⟨tp, t, rfl, ht, htp⟩ := pa.at hx
          obtain ⟨u, v⟩ := t
          have mt : (u, v) ∈ ts := List.mem_of_getElem? ht
          refine ⟨tp, _, rfl, SqT.of (sm2 _ _ htp), rfl, _, _, rfl, _, _, rfl, rfl, ?_⟩
          refine ⟨fun b H3 => H3 = H2 ∧ (b = true ↔ (u ∈ ks' ∨ v ∈ ks')), ?_, ?_⟩
          · refine ⟨_, rfl, _, rfl, d, _, rfl, DGet.k (k := Sum.inl u) hd2, _, rfl, ite2 (fun e => ?_) (fun e => ?_)⟩
            · have mu : u ∈ ks' := of_decide_eq_true ((kvF_is ks' u).symm.trans e)
              exact ⟨rfl, fun _ => .inl mu, fun _ => rfl⟩
            · have mu : u ∉ ks' := fun m => e ((kvF_is ks' u).trans (decide_eq_true m))
              refine ⟨_, rfl, _, rfl, d, _, rfl, DGet.k (k := Sum.inl v) hd2, _, rfl, rfl, ?_⟩
              rw [kvF_is]
              exact ⟨fun z => .inr (of_decide_eq_true z), fun z => decide_eq_true (z.resolve_left mu)⟩
          · rintro b H3 ⟨rfl, hb⟩
            have upc : ∀ {ks2 : List Int}, (∀ y ∈ ks', y ∈ ks2) → ((u ∈ ks ∨ v ∈ ks) → u ∈ ks2 ∧ v ∈ ks2) → ∀ t ∈ ts.take (i + 1), (t.1 ∈ ks ∨ t.2 ∈ ks) → t.1 ∈ ks2 ∧ t.2 ∈ ks2 := by
              intro ks2 sub new t m c
              rw [take_at ht] at m
              rcases List.mem_append.mp m with m | m
              · have z := cl2 t m c
                exact ⟨sub _ z.1, sub _ z.2⟩
              · rw [List.mem_singleton.mp m] at c ⊢
                exact new c
            refine ite2 (fun e => ?_) (fun e => ?_)
            · have both := hb.mp e
              have ru : Rch ts a u := both.elim (hr2 u) fun m => (hr2 v m).trans (.one (.inr mt))
              have rv : Rch ts a v := both.elim (fun m => (hr2 u m).trans (.one (.inl mt))) (hr2 v)
              have l2 := inN nd2 hr2
              have nd3 : (addK ks' u).Nodup := addK_nd nd2
              have hr3 : ∀ y ∈ addK ks' u, Rch ts a y := fun y m => (addK_mem.mp m).elim (hr2 y) fun e => e ▸ ru
              have l3 := inN nd3 hr3
              refine ⟨_, rfl, _, rfl, d, _, rfl, DPut.k (k := Sum.inl u) (v := .bl true) hd2 (szl (by unfold kvF; rw [List.length_map]; omega)), ?_⟩
              rw [kvF_put]
              refine ⟨_, rfl, _, rfl, d, _, rfl, DPut.k (k := Sum.inl v) (v := .bl true) upd_same (szl (by unfold kvF; rw [List.length_map]; omega)), ?_⟩
              rw [kvF_put]
              refine ⟨addK (addK ks' u) v, _, _, rfl, upd_same, addK_nd nd3, fun y m => (addK_mem.mp m).elim (hr3 y) fun e => e ▸ rv, addK_mem.mpr (.inl (addK_mem.mpr (.inl ak2))), same_put (same_put sm2 nd) nd, addK_pre (addK_pre pre2), ?_⟩
              exact upc (fun y m => addK_mem.mpr (.inl (addK_mem.mpr (.inl m)))) fun _ => ⟨addK_mem.mpr (.inl (addK_mem.mpr (.inr rfl))), addK_mem.mpr (.inr rfl)⟩
            · refine ⟨ks', _, _, rfl, hd2, nd2, hr2, ak2, sm2, pre2, upc (fun _ m => m) fun c => ?_⟩
              obtain ⟨r, er⟩ := pre2
              exact absurd (hb.mpr (c.imp (fun m => er ▸ List.mem_append_left _ m) fun m => er ▸ List.mem_append_left _ m)) e
        · rintro σ H2 ⟨ks', z4, z5, rfl, hd2, nd2, hr2, ak2, sm2, pre2, cl2⟩
          rw [ly, List.take_length] at cl2
          exact ⟨ks', _, _, rfl, hd2, nd2, hr2, ak2, sm2, pre2, cl2⟩
    · have el : mh = (ks.length : Int) := by
        have z : ¬ _ := fun y => e (decide_eq_true y)
        rw [lk] at z
        omega
      have ln := inN ndk hrk
      refine ⟨_, rfl, d, kvF ks, ks, rfl, .inl hd, ?_, by omega, fun ns p pm srt np => ?_⟩
      · unfold kvF
        rw [List.map_map]
        rfl
      · exact q p ns _ (sm.trans (same_new np)) (part_of_sorted ndk (fun v => ⟨hrk v, closedT_rch ak (cl el)⟩) pm srt) upd_same
end

end My
namespace My
open PySem L2
theorem call_tuple_ofK {X : Cx} {K : PySem.W.Frag} (hK : X.K = K) : CallR X (.type "tuple") (fun xs H Q => ∃ p ys, xs = [.ref p] ∧ ((SqL K H p ys ∧ ∀ l, H l = none → Q (.ref l) (upd H l (.tup ys))) ∨ (SqT K H p ys ∧ Q (.ref p) H))) := by
  subst hK
  exact call_tuple_of
theorem u2 {k : Nat} {A : Around} (h : Room k A) : A.units + 2 < cLine := by
  have := h.units
  omega
/-! ### the law's own look at a forest -/
def prL : List Int → Int × Int
  | [a, b] => (a, b)
  | _ => (0, 0)
def lsT (t : Int × Int) : List Int := [t.1, t.2]
theorem sorted_set {ks L : List (Addr × List Int)} {ts : Ties} (e : ks.map (·.2) = ts.map lsT) (bd : ∀ t ∈ ts, 0 ≤ t.1 ∧ t.1 < 64 ∧ 0 ≤ t.2 ∧ t.2 < 64) (sub : ∀ p ∈ L, p ∈ ks) (al : ∀ p ∈ ks, p.2 ∈ L.map (·.2)) (nd : (L.map (·.2)).Nodup)
    (pw : L.Pairwise fun q r => TS.code 64 q.2 ≤ TS.code 64 r.2) : (∀ p ∈ L, p.2 = lsT (prL p.2)) ∧ (L.map fun p => prL p.2).Pairwise ltT ∧ ∀ v, v ∈ (L.map fun p => prL p.2) ↔ v ∈ ts := by
  have key : ∀ p ∈ ks, ∃ t ∈ ts, p.2 = lsT t := fun p hp => by
    have m : p.2 ∈ ts.map lsT := e ▸ List.mem_map.mpr ⟨p, hp, rfl⟩
    obtain ⟨t, ht, h⟩ := List.mem_map.mp m
    exact ⟨t, ht, h.symm⟩
  have pr : ∀ t : Int × Int, prL (lsT t) = t := fun t => rfl
  refine ⟨fun p hp => ?_, ?_, fun v => ⟨fun h => ?_, fun h => ?_⟩⟩
  · obtain ⟨t, _, h⟩ := key p (sub p hp)
    rw [h, pr]
  · refine List.pairwise_map.mpr ?_
    have nd2 : L.Pairwise fun q r => q.2 ≠ r.2 := List.pairwise_map.mp nd
    refine List.Pairwise.imp_of_mem (fun {p q} mp mq h => ?_) (pw.and nd2)
    obtain ⟨t, ht, h1⟩ := key p (sub p mp)
    obtain ⟨u, hu, h2⟩ := key q (sub q mq)
    obtain ⟨h, ne⟩ := h
    rw [h1, h2] at h ne
    rw [h1, h2, pr, pr]
    have b1 := bd t ht
    have b2 := bd u hu
    exact pair_lt h ne ⟨b1.1, b1.2.1⟩ ⟨b1.2.2.1, b1.2.2.2⟩ ⟨b2.1, b2.2.1⟩ ⟨b2.2.2.1, b2.2.2.2⟩
  · obtain ⟨p, hp, rfl⟩ := List.mem_map.mp h
    obtain ⟨t, ht, h1⟩ := key p (sub p hp)
    rw [h1, pr]
    exact ht
  · have m : lsT v ∈ ks.map (·.2) := e ▸ List.mem_map.mpr ⟨v, h, rfl⟩
    obtain ⟨p, hp, h1⟩ := List.mem_map.mp m
    have m2 := al p hp
    obtain ⟨q, hq, h2⟩ := List.mem_map.mp m2
    refine List.mem_map.mpr ⟨q, hq, ?_⟩
    show prL q.2 = v
    rw [show q.2 = p.2 from h2, show p.2 = lsT v from h1, pr]
theorem PAll.ks {H : Hp} : ∀ {vs : List V} {ts : Ties}, PAll H vs ts → ∃ ks : List (Addr × List Int), vs = ks.map (fun p => V.ref p.1) ∧ ks.map (·.2) = ts.map lsT ∧ ∀ p ∈ ks, H p.1 = some (.tup (p.2.map V.int))
  | _, _, .nil => ⟨[], rfl, rfl, fun p z => nomatch z⟩
  | _, _, .cons (t := t) (x := x) (y := y) h k => by
    obtain ⟨ks, e1, e2, e3⟩ := k.ks
    refine ⟨(t, [x, y]) :: ks, by rw [e1]; rfl, by rw [List.map_cons, e2]; rfl, fun p m => ?_⟩
    rcases List.mem_cons.mp m with rfl | m
    · exact h
    · exact e3 p m
theorem td_sorted {K : PySem.W.Frag} {H : Hp} : ∀ {L : List (Addr × List Int)}, (∀ p ∈ L, p.2 = lsT (prL p.2)) → (∀ p ∈ L, H p.1 = some (.tup (p.2.map V.int))) → TdAll K H (L.map fun q => V.ref q.1) ((L.map fun p => prL p.2).map tdata)
  | [], _, _ => .nil
  | p :: L, h, g => by
    refine .cons (Td.two ?_) (td_sorted (fun q m => h q (List.mem_cons_of_mem _ m)) fun q m => g q (List.mem_cons_of_mem _ m))
    have z := g p List.mem_cons_self
    rw [h p List.mem_cons_self] at z
    exact z
def smallL (d : Th) : Prop := ∀ ps ts, d = .tup [.tup ps, .tup ts] → ps.length ≤ 63 ∧ ts.length ≤ 63
theorem forest_two {p t : Th} (h : (∀ ps, p ≠ .tup ps) ∨ (∀ ts, t ≠ .tup ts)) : forestT (.tup [p, t]) = false := by
  show (ptsT p && tiesT (lenT p) t) = false
  rcases h with h | h
  · rw [no_pts h]
    rfl
  · rw [no_ties h, Bool.and_false]
theorem ring_count {n k c : Nat} {ts : Ties} (h : n ≤ c + k ∧ c ≤ n ∧ (c + k = n ↔ ¬ Ring ts)) : decide (V.int (k : Int) = V.int ((n : Int) - (c : Int))) = !ringB ts := by
  obtain ⟨h1, h2, h3⟩ := h
  by_cases r : Ring ts
  · rw [ringB_t r]
    refine decide_eq_false fun e => ?_
    have e := V.int.inj e
    exact h3.mp (by omega) r
  · rw [ringB_f r]
    refine decide_eq_true (congrArg V.int ?_)
    have := h3.mpr r
    omega
section
variable {P : Program} {w : World} {K : PySem.W.Frag} {mg : Str → Option Value} {base : Heap}
def spLForest : Sp := fun vs H Q _ => ∃ (N : Addr → Prop) (v : V) (d : Th), vs = [v] ∧ ThV N H v d ∧ smallL d ∧ ∀ H', Same H H' → Q (.bl (forestT d)) H'
theorem ok_lforest (T : Top K mg) : FnOk P w K mg base CX0 2 T.a_Lisforest T.d_Lisforest ["_law_thing"] spLForest := by
  have G_Lispoint : FnOk P w K mg base CX0 1 _ _ _ _ := ok_lpoint T
  have G_Listie : FnOk P w K mg base CX0 1 _ _ _ _ := ok_ltie T
  have G_Lpart : FnOk P w K mg base CX0 1 _ _ _ _ := ok_lpart T
  refine T.F_Lisforest.ok sc_Lisforest (fun vs H Q E h => ?_) (fun cdv A outer s H vs Q E hr h => ?_)
  · obtain ⟨N, v, d, rfl, _⟩ := h
    rfl
  · obtain ⟨N, v, d, rfl, hv, sm, q⟩ := h
    refine ⟨_, (pss_cons (ps_if (PW.pt (pw_or (pt_not (pt_val (pe_callB call_isi (by rfl) T.m_isinstance (by decide +kernel) (pa_cons (pv 0) (pa_cons (pe_bltn (v := .ty "tuple") (by rfl) T.m_tuple (by decide +kernel) rfl) pa_nil))))) (pw_or (pt_cmpR op_ne (pe_callB call_len_seq (by rfl) T.m_len PySem.boot_len (pa_cons (pv 0) pa_nil)) pe_int (nomark _)) (pw_or1 (pt_not (pt_val (pe_callB call_isi (by rfl) T.m_isinstance (by decide +kernel) (pa_cons (pe_ix ix_tup (pv 0) pe_int (fun _ _ => rfl)) (pa_cons (pe_bltn (v := .ty "tuple") (by rfl) T.m_tuple (by decide +kernel) rfl) pa_nil))))))))) (pss_one (ps_ret pe_bl)) pss_nil)
      (pss_cons (ps_if (PW.pt (pw_or (pt_cmpR (op_eq0 (u0 hr)) (pe_ix ix_tup (pv 0) pe_int (fun _ _ => rfl)) (pe_tup pa_nil) (nomark _)) (pw_or (pt_not (pt_val (pe_callB call_isi (by rfl) T.m_isinstance (by decide +kernel) (pa_cons (pe_ix ix_tup (pv 0) pe_int (fun _ _ => rfl)) (pa_cons (pe_bltn (v := .ty "tuple") (by rfl) T.m_tuple (by decide +kernel) rfl) pa_nil))))) (pw_or1 (pt_not (pt_val (pe_callB (cr_all rfl) (by rfl) T.m_all (by decide +kernel) (pa_cons (pe_lc (own := [("_law_one", 1)]) (g := gName 1) (tt := tYes) (by rfl) sc_Lisforest.nd (pi_tup (pe_ix ix_tup (pv 0) pe_int (fun _ _ => rfl))) (blkOk_by (own := [("_law_one", 1)]) (N := ["_law_thing", "_law_one", "_law_parts", "_law_point"]) (sc := defScope s_Lisforest) (by decide +kernel)) (fun _ _ _ _ _ => (pg_name (i := 1) sc_Lisforest.nd rfl (.inl rfl))) (fun _ _ _ _ _ => pts_nil) (fun _ _ _ _ _ => (pe_call G_Lispoint hr (by rfl) T.g_Lispoint T.F_Lispoint.kp T.b_Lispoint .nil pass0 (pa_cons (pv 1) pa_nil)))) pa_nil)))))))) (pss_one (ps_ret pe_bl)) pss_nil)
      (pss_cons (ps_if (PW.pt (pw_or (pt_not (pt_val (pe_callB (cr_all rfl) (by rfl) T.m_all (by decide +kernel) (pa_cons (pe_lc (own := [("_law_one", 1)]) (g := gName 1) (tt := tYes) (by rfl) sc_Lisforest.nd (pi_tup (pe_ix ix_tup (pv 0) pe_int (fun _ _ => rfl))) (blkOk_by (own := [("_law_one", 1)]) (N := ["_law_thing", "_law_one", "_law_parts", "_law_point"]) (sc := defScope s_Lisforest) (by decide +kernel)) (fun _ _ _ _ _ => (pg_name (i := 1) sc_Lisforest.nd rfl (.inl rfl))) (fun _ _ _ _ _ => pts_nil) (fun _ _ _ _ _ => (pe_call G_Listie hr (by rfl) T.g_Listie T.F_Listie.kp T.b_Listie .nil pass0 (pa_cons (pv 1) (pa_cons (pe_callB (call_len_seqK (K := K) rfl) (by rfl) T.m_len PySem.boot_len (pa_cons (pe_ix (ix_tupK (K := K) rfl) (pv 0) pe_int (fun _ _ => rfl)) pa_nil)) pa_nil))))) pa_nil)))) (pw_or1 (pt_cmpR (op_neD hr.units) (pe_callTy call_list_of (by rfl) T.m_list (by decide +kernel) (pa_cons (pe_ix ix_tup (pv 0) pe_int (fun _ _ => rfl)) pa_nil)) (pe_callB (cr_sortedT rfl) (by rfl) T.m_sorted (by decide +kernel) (pa_cons (pe_callTy (cr_setOfTT rfl hr.units) (by rfl) T.m_set (by decide +kernel) (pa_cons (pe_ix ix_tup (pv 0) pe_int (fun _ _ => rfl)) pa_nil)) pa_nil)) (nomark _))))) (pss_one (ps_ret pe_bl)) pss_nil)
      (pss_cons (ps_set (i := 2) sc_Lisforest.nd rfl (.inl rfl) (pe_callTy (call_dictT rfl (u2 hr)) (by rfl) T.m_dict (by decide +kernel) (pa_cons (pe_lc (own := [("_law_point", 3)]) (g := gName 3) (tt := tYes) (by rfl) sc_Lisforest.nd (pi_range1 (by rfl) T.m_range (pa_cons (pe_callB call_len_seq (by rfl) T.m_len PySem.boot_len (pa_cons (pe_ix ix_tup (pv 0) pe_int (fun _ _ => rfl)) pa_nil)) pa_nil)) (blkOk_by (own := [("_law_point", 3)]) (N := ["_law_thing", "_law_one", "_law_parts", "_law_point"]) (sc := defScope s_Lisforest) (by decide +kernel)) (fun _ _ _ _ _ => (pg_name (i := 3) sc_Lisforest.nd rfl (.inl rfl))) (fun _ _ _ _ _ => pts_nil) (fun _ _ _ _ _ => (pe_tup (pa_cons (pe_callTy (call_tuple_ofK (K := K) rfl) (by rfl) T.m_tuple (by decide +kernel) (pa_cons (pe_call G_Lpart hr (by rfl) T.g_Lpart T.F_Lpart.kp T.b_Lpart .nil pass0 (pa_cons (pv 0) (pa_cons (pv 3) pa_nil))) pa_nil)) (pa_cons pe_bl pa_nil))))) pa_nil)))
      (pss_one (ps_ret (pe_cmpR op_eq (pe_callB call_len_seq (by rfl) T.m_len PySem.boot_len (pa_cons (pe_ix ix_tup (pv 0) pe_int (fun _ _ => rfl)) pa_nil)) (pe_op op_sub (pe_callB call_len_seq (by rfl) T.m_len PySem.boot_len (pa_cons (pe_ix ix_tup (pv 0) pe_int (fun _ _ => rfl)) pa_nil)) (pe_callB call_len_dT (by rfl) T.m_len PySem.boot_len (pa_cons (pv 2) pa_nil))) (nomark _)))))))), ?_⟩
    rcases tup_ok (K := K) hv with ⟨a, ys, ds, rfl, na, ha, al, rfl⟩ | ⟨⟨t, ty, kt⟩, nt⟩
    case inr =>
      have y := q H same_refl
      rw [no_forest nt] at y
      exact ⟨_, rfl, _, _, _, _, false, rfl, ClsV.ty _, ty, kt, _, rfl, iteT (iteT y)⟩
    refine ⟨_, rfl, _, _, _, _, true, rfl, ClsV.ty _, .base (.tup ha), kit_ty (by decide +kernel), _, rfl, iteF ?_⟩
    refine ⟨_, rfl, a, _, rfl, .inr (SqT.of ha), rfl, _, rfl, ite2 (fun z => ?_) (fun z => ?_)⟩
    · have l2 : ds.length ≠ 2 := fun e => ne_int z (by rw [al.length, e]; rfl)
      have y := q H same_refl
      rw [no_len l2] at y
      exact iteT y
    have l2 : ys.length = 2 := by
      have := eq_int z
      omega
    clear z
    match ys, ds, al, l2 with
    | [x, y], [dx, dy], .cons hx (.cons hy .nil), _ =>
    refine ⟨_, rfl, a, _, _, _, rfl, rfl, SqT.of ha, atI_nat (j := 0) rfl, ?_⟩
    rcases tup_ok (K := K) hx with ⟨pa, xs, ps, rfl, npa, hpa, pal, rfl⟩ | ⟨⟨t, ty, kt⟩, nt⟩
    case inr =>
      have y := q H same_refl
      rw [forest_two (.inl nt)] at y
      exact ⟨_, _, _, _, false, rfl, ClsV.ty _, ty, kt, _, rfl, iteT y⟩
    refine ⟨_, _, _, _, true, rfl, ClsV.ty _, .base (.tup hpa), kit_ty (by decide +kernel), _, rfl, iteF ?_⟩
    -- no points
    refine ⟨_, rfl, a, _, _, _, rfl, rfl, SqT.of ha, atI_nat (j := 0) rfl, (by show 0 ≤ sizeLine; decide), fun z0 nz0 => ⟨pa, z0, xs, rfl, rfl, SqT.of (same_new nz0 _ _ hpa), SqT.of upd_same, ?_⟩⟩
    have s0 := same_new (o := .tup ([] : List V)) nz0
    generalize upd H z0 (.tup ([] : List V)) = H0 at s0 ⊢
    refine ⟨_, rfl, ?_⟩
    cases ep : ps.isEmpty with
    | true =>
      have e1 : xs.isEmpty = true := by
        cases pal with
        | nil => rfl
        | cons _ _ => exact nomatch ep
      have y := q H0 s0
      rw [show forestT (.tup [.tup ps, dy]) = false by show ((!ps.isEmpty && _) && _) = false; rw [ep]; rfl] at y
      rw [e1]
      exact iteT (iteT y)
    | false =>
    have e1 : xs.isEmpty = false := by
      cases pal with
      | nil => exact nomatch ep
      | cons _ _ => rfl
    rw [e1]
    refine iteF ?_
    have ha0 := s0 _ _ ha
    have hpa0 := s0 _ _ hpa
    refine ⟨_, rfl, a, _, _, _, rfl, rfl, SqT.of ha0, atI_nat (j := 1) rfl, ?_⟩
    rcases tup_ok (K := K) (hy.same s0) with ⟨ta, ys, tsd, rfl, nta, hta, tal, rfl⟩ | ⟨⟨t, ty, kt⟩, nt⟩
    case inr =>
      have y := q H0 s0
      rw [forest_two (.inr nt)] at y
      exact ⟨_, _, _, _, false, rfl, ClsV.ty _, ty, kt, _, rfl, iteT (iteT y)⟩
    refine ⟨_, _, _, _, true, rfl, ClsV.ty _, .base (.tup hta), kit_ty (by decide +kernel), _, rfl, iteF ?_⟩
    obtain ⟨lps, lts⟩ := sm ps tsd rfl
    have lx := pal.length
    have ly := tal.length
    -- all points
    refine ⟨_, rfl, a, _, _, _, rfl, rfl, SqT.of ha0, atI_nat (j := 0) rfl, pa, rfl, ⟨_, SqT.of hpa0⟩, fun D nD => ?_⟩
    refine lc_tup (xs := xs) (fun i H2 => Same H0 H2 ∧ H2 D = some (.lst (((ps.take i).map pointT).map V.bl))) ⟨same_new nD, upd_same⟩ (fun i H2 _ z => SqT.of (z.1 _ _ hpa0)) ?_ ?_
    · rintro i y H2 hx ⟨s2, hD⟩
      have hi := (List.getElem?_eq_some_iff.mp hx).1
      obtain ⟨dy, hdy, hy⟩ := pal.at hx
      refine ⟨rfl, yes_ite ?_⟩
      refine ⟨_, rfl, N, y, dy, rfl, hy.same (s0.trans s2), fun H3 s3 => ?_⟩
      refine ⟨_, s3 _ _ hD, szl (by rw [List.length_map, List.length_map, List.length_take]; omega), same_put (s2.trans s3) nD, ?_⟩
      rw [upd_same, take_at hdy, List.map_append, List.map_append]
      rfl
    rintro H2 ⟨s2, hD⟩
    rw [lx, List.take_length] at hD
    refine ⟨D, ps.map pointT, rfl, SqL.of hD, ?_⟩
    have ea : (ps.map pointT).all id = ps.all pointT := by rw [List.all_map]; rfl
    rw [ea]
    have s02 := s0.trans s2
    have q : ∀ H', Same H H' → Q (.bl ((!ps.isEmpty && ps.all pointT) && tiesT ps.length (.tup tsd))) H' := q
    rw [ep] at q
    clear ea hD ep e1
    cases eps : ps.all pointT with
    | false =>
      have y := q H2 s02
      rw [eps] at y
      exact ⟨_, rfl, iteT y⟩
    | true =>
    rw [eps] at q
    have q : ∀ H', Same H H' → Q (.bl (tsd.all (tieT ps.length) && (decide ((tsd.map pairT).Pairwise ltT) && !ringB (tsd.map pairT)))) H' := q
    refine ⟨_, rfl, iteF ?_⟩
    have ha2 := s2 _ _ ha0
    have hpa2 := s2 _ _ hpa0
    have hta2 := s2 _ _ hta
    have tal2 := tal.same s2
    clear hta tal ha0 hpa0 eps
    -- all ties
    refine ⟨_, rfl, a, _, _, _, rfl, rfl, SqT.of ha2, atI_nat (j := 1) rfl, ta, rfl, ⟨_, SqT.of hta2⟩, fun D nD => ?_⟩
    refine lc_tup (xs := ys) (fun i H3 => Same H2 H3 ∧ H3 D = some (.lst (((tsd.take i).map (tieT ps.length)).map V.bl))) ⟨same_new nD, upd_same⟩ (fun i H3 _ z => SqT.of (z.1 _ _ hta2)) ?_ ?_
    · rintro i y H3 hx ⟨s3, hD⟩
      have hi := (List.getElem?_eq_some_iff.mp hx).1
      obtain ⟨dy, hdy, hy⟩ := tal2.at hx
      refine ⟨rfl, yes_ite ?_⟩
      refine ⟨_, rfl, _, rfl, a, _, _, _, rfl, rfl, SqT.of (s3 _ _ ha2), atI_nat (j := 0) rfl, pa, xs, rfl, .inr (SqT.of (s3 _ _ hpa2)), N, y, dy, ((ps.length : Nat) : Int), by rw [lx]; rfl, hy.same s3, fun H4 s4 => ?_⟩
      refine ⟨_, s4 _ _ hD, szl (by rw [List.length_map, List.length_map, List.length_take]; omega), same_put (s3.trans s4) nD, ?_⟩
      rw [upd_same, take_at hdy, List.map_append, List.map_append]
      rfl
    rintro H3 ⟨s3, hD⟩
    rw [ly, List.take_length] at hD
    refine ⟨D, tsd.map (tieT ps.length), rfl, SqL.of hD, ?_⟩
    have ea : (tsd.map (tieT ps.length)).all id = tsd.all (tieT ps.length) := by rw [List.all_map]; rfl
    rw [ea]
    have s03 := s02.trans s3
    clear ea hD
    cases ets : tsd.all (tieT ps.length) with
    | false =>
      have y := q H3 s03
      rw [ets] at y
      exact ⟨_, rfl, iteT (iteT y)⟩
    | true =>
    rw [ets] at q
    refine ⟨_, rfl, iteF ?_⟩
    have ha3 := s3 _ _ ha2
    have hpa3 := s3 _ _ hpa2
    have hta3 := s3 _ _ hta2
    have pal3 := (tal2.same s3).pall ets
    have bd := tie_bounds ets
    have lts2 : (tsd.map pairT).length = tsd.length := List.length_map ..
    generalize tsd.map pairT = ts at q pal3 bd lts2
    have q : ∀ H', Same H H' → Q (.bl (decide (ts.Pairwise ltT) && !ringB ts)) H' := q
    clear hta2 tal2 ha2 hpa2 ets
    -- as sorted
    refine ⟨_, rfl, a, _, _, _, rfl, rfl, SqT.of ha3, atI_nat (j := 1) rfl, ta, _, rfl, .inr (SqT.of hta3), fun l nl => ?_⟩
    have sl := same_new (o := .lst ys) nl
    have hl : upd H3 l (.lst ys) l = some (.lst ys) := upd_same
    generalize upd H3 l (.lst ys) = H4 at sl hl ⊢
    have pal4 := pal3.same sl
    obtain ⟨ks, e1, e2, e3⟩ := pal4.ks
    have lks : ks.length = ys.length := by rw [e1, List.length_map]
    refine ⟨_, rfl, a, _, _, _, rfl, rfl, SqT.of (sl _ _ ha3), atI_nat (j := 1) rfl, ta, ks, rfl, ?_, fun p hp => SqT.of (e3 p hp), by omega, fun S L nS sub al => ?_⟩
    · rw [← e1]
      exact SqT.of (sl _ _ hta3)
    have bd64 : ∀ t ∈ ts, 0 ≤ t.1 ∧ t.1 < 64 ∧ 0 ≤ t.2 ∧ t.2 < 64 := fun t m => by
      have := bd t m
      omega
    generalize hso : SetTO _ _ S L = so
    have sS : Same H4 (upd H4 S so) := same_new nS
    have key : ∀ p ∈ ks, p.2.length = 2 ∧ TS.Bd 64 p.2 := fun p hp => by
      have m : p.2 ∈ ts.map lsT := e2 ▸ List.mem_map.mpr ⟨p, hp, rfl⟩
      obtain ⟨t, ht, h⟩ := List.mem_map.mp m
      rw [← h]
      have b := bd64 t ht
      refine ⟨rfl, fun x hx => ?_⟩
      rcases List.mem_cons.mp hx with rfl | hx
      · exact ⟨b.1, b.2.1⟩
      · rw [List.mem_singleton.mp hx]
        exact ⟨b.2.2.1, b.2.2.2⟩
    refine ⟨S, L, 2, 64, rfl, hso ▸ upd_same, fun p hp => SqT.of (sS _ _ (e3 p (sub p hp))), by decide, fun p hp => key p (sub p hp), fun L' p pm nd few pw np => ?_⟩
    have sub' : ∀ p ∈ L', p ∈ ks := fun p hp => sub p (pm.mem_iff.mp hp)
    have al' : ∀ p ∈ ks, p.2 ∈ L'.map (·.2) := fun p hp => ((pm.map (·.2)).mem_iff).mpr (al p hp)
    obtain ⟨g1, g2, g3⟩ := sorted_set e2 bd64 sub' al' nd pw
    have sp := same_new (o := .lst (L'.map fun q => V.ref q.1)) np
    have s4 := sS.trans sp
    refine ⟨.list (ts.map tdata), .list ((L'.map fun p => prL p.2).map tdata), .lst (SqL.of (s4 _ _ hl)) (pal4.same s4).td.dp, .lst (SqL.of upd_same) (td_sorted g1 fun p hp => s4 _ _ (e3 p (sub' p hp))).dp, shaped_ltds _, shaped_ltds _, ?_⟩
    rw [show PyData.eqv (.list (ts.map tdata)) (.list ((L'.map fun p => prL p.2).map tdata)) = decide (ts = L'.map fun p => prL p.2) from eqv_all_td _ _]
    have s35 := sl.trans s4
    have s05 := s03.trans s35
    generalize upd (upd H4 S so) p (.lst (L'.map fun q => V.ref q.1)) = H5 at s4 s35 s05 sp ⊢
    have eqd : decide (ts = L'.map fun p => prL p.2) = decide (ts.Pairwise ltT) := by
      refine decide_eq_decide.mpr ⟨fun e => ?_, fun h => ?_⟩
      · rw [e]
        exact g2
      · exact ties_ext h g2 fun v => (g3 v).symm
    rw [eqd]
    have ha5 := s35 _ _ ha3
    have hpa5 := s35 _ _ hpa3
    have hta5 := s35 _ _ hta3
    have pal5 := pal3.same s35
    clear eqd g1 g2 g3 sub' al' sub al pm nd few pw sS hl key e1 e2 e3 pal4 nS np
    cases epw : decide (ts.Pairwise ltT) with
    | false =>
      have y := q H5 s05
      rw [epw] at y
      exact ⟨_, rfl, iteT y⟩
    | true =>
    rw [epw] at q
    have q : ∀ H', Same H H' → Q (.bl (!ringB ts)) H' := q
    refine ⟨_, rfl, iteF ?_⟩
    clear epw
    -- parts
    have bdn : ∀ t ∈ ts, 0 ≤ t.1 ∧ 0 ≤ t.2 ∧ t.1 < ((ps.length : Nat) : Int) ∧ t.2 < ((ps.length : Nat) : Int) := fun t m => by
      have := bd t m
      omega
    refine ⟨_, rfl, a, _, _, _, rfl, rfl, SqT.of ha5, atI_nat (j := 0) rfl, pa, xs, rfl, .inr (SqT.of hpa5), ?_⟩
    rw [lx]
    refine ⟨_, rfl, (by omega), (by omega), fun D nD => ?_⟩
    refine lc_range (lo := 0) (n := ps.length) (fun i H6 => ∃ rs : List Addr, H6 D = some (.lst (rs.map V.ref)) ∧ TPairs H6 rs ((List.range i).map fun j : Nat => keyL (partL ts ps.length (j : Int))) ∧ rs.length ≤ i ∧ Same H5 H6) ⟨[], upd_same, ⟨rfl, fun j p k e => by simp at e⟩, Nat.le_refl _, same_new nD⟩ ?_ ?_
    · rintro j H6 hj ⟨rs, hD, tp, lp, s6⟩
      refine ⟨rfl, yes_ite ?_⟩
      refine ⟨_, rfl, _, rfl, a, .ref pa, ta, ys, 0 + (j : Int), ts, ps.length, rfl, s6 _ _ ha5, s6 _ _ hta5, pal5.same s6, by omega, bdn, by omega, by omega, fun L l H7 s7 ip hL => ?_⟩
      refine ⟨L, _, rfl, .inl ⟨SqL.of hL, fun t nt => ?_⟩⟩
      have st := same_new (o := .tup (l.map V.int)) nt
      refine ⟨(by show 2 ≤ sizeLine; decide), fun p np => ?_⟩
      have sp := same_new (o := .tup [V.ref t, V.bl true]) np
      have s67 := s7.trans (st.trans sp)
      have hD7 := s67 _ _ hD
      refine ⟨_, hD7, szl (by rw [List.length_map]; omega), rs ++ [p], ?_, ?_, by rw [List.length_append]; exact Nat.succ_le_succ lp, same_put (s6.trans s67) nD⟩
      · rw [upd_same, List.map_append]
        rfl
      · rw [List.range_succ, List.map_append]
        have el : l = partL ts ps.length (j : Int) := by
          rw [Int.zero_add] at ip
          exact part_unique ip (is_partL bdn (by omega) (by omega))
        refine ((tp.mono (.same s67)).snoc (b := t) upd_same ?_).mono (TK.put hD7)
        rw [keyL_kV, ← el]
        exact sp _ _ upd_same
    rintro H6 ⟨rs, hD, tp, lp, s6⟩
    refine ⟨D, rs, _, rfl, hD, tp, fun PP out ond omem nPP => ?_⟩
    have s7 := s6.trans (same_new (o := .dT (out.map fun k => (k, V.bl true))) nPP)
    have hP : upd H6 PP (.dT (out.map fun k => (k, V.bl true))) PP = some (.dT (out.map fun k => (k, V.bl true))) := upd_same
    generalize upd H6 PP (.dT (out.map fun k => (k, V.bl true))) = H7 at s7 hP ⊢
    have cnt := parts_cnt (key := keyL) (fun l m => keyL_inj) bdn ond omem
    have rc := cnt_ring (n := ps.length) ts.length rfl bdn
    refine ⟨_, rfl, a, _, _, _, rfl, rfl, SqT.of (s7 _ _ ha5), atI_nat (j := 1) rfl, ta, ys, rfl, .inr (SqT.of (s7 _ _ hta5)), _, rfl, a, _, _, _, rfl, rfl, SqT.of (s7 _ _ ha5), atI_nat (j := 0) rfl, pa, xs, rfl, .inr (SqT.of (s7 _ _ hpa5)), _, rfl, PP, _, rfl, hP, _, _, rfl, rfl, rfl, ?_⟩
    have z := q H7 (s05.trans s7)
    rw [← ring_count rc, ← cnt] at z
    rw [List.length_map, lx, pal5.length]
    exact z
end

end My
namespace My
open PySem L2
/-! ### ties and points otherwise -/
def tieTh (t : Int × Int) : Th := .tup [.int t.1, .int t.2]
def ptTh (p : Int × Str) : Th := .tup [.int p.1, .str p.2]
theorem PAll.th {N : Addr → Prop} {H : Hp} (hN : ∀ a xs, H a = some (.tup xs) → N a) : ∀ {vs : List V} {ts : Ties}, PAll H vs ts → ThAll N H vs (ts.map tieTh)
  | _, _, .nil => .nil
  | _, _, .cons h k => .cons (.tup (hN _ _ h) h (.cons (.int _) (.cons (.int _) .nil))) (k.th hN)
theorem QAll.th {N : Addr → Prop} {H : Hp} (hN : ∀ a xs, H a = some (.tup xs) → N a) : ∀ {vs : List V} {ps : List (Int × Str)}, QAll H vs ps → ThAll N H vs (ps.map ptTh)
  | _, _, .nil => .nil
  | _, _, .cons h k => .cons (.tup (hN _ _ h) h (.cons (.int _) (.cons (.str _) .nil))) (k.th hN)
theorem ThAll.cut {N : Addr → Prop} {H : Hp} {vs : List V} {ds : List Th} (h : ThAll N H vs ds) (lo hi : Option Int) : ∃ es, ThAll N H (cutV vs lo hi) es ∧ es.length ≤ ds.length := by
  unfold cutV
  refine ⟨_, (h.drop _).take _, ?_⟩
  rw [List.length_take, List.length_drop]
  omega
theorem cut_one {xs : List V} {k : Int} (h : 0 ≤ k) : (cutV xs (some k) (some (k + 1))).length ≤ 1 := by
  obtain ⟨n, rfl⟩ : ∃ n : Nat, k = (n : Int) := ⟨k.toNat, by omega⟩
  unfold cutV
  rw [show ((n : Int) + 1) = ((n + 1 : Nat) : Int) by omega, HT.sIx_nat, HT.sIx_nat, List.length_take, List.length_drop]
  omega
theorem repA {K : PySem.W.Frag} {x : V} {H : Hp} {Q : VK} {l : Addr} {xs : List V} (ex : x = .ref l) (h : H l = some (.tup xs)) (z : xs.length ≤ 1000) (k : ∀ (p : Addr) (H' : Hp), Same H H' → H' p = some (.tup (xs ++ xs)) → Q (.ref p) H') : rRepA K x (.int 2) H Q :=
  ⟨l, xs, ex, rfl, SqT.of h, z, fun e => k l H (fun _ _ e => e) (by rw [e]; rw [e] at h; exact h), fun _ p np => k p _ (same_new np) upd_same⟩
theorem QAll.mem {H : Hp} : ∀ {vs : List V} {ps : List (Int × Str)}, QAll H vs ps → ∀ {v : V}, v ∈ vs → ∃ tp wo kd, v = V.ref tp ∧ H tp = some (.tup [.int wo, .str kd])
  | _, _, .nil, _, m => nomatch m
  | _, _, .cons h k, v, m => by
    rcases List.mem_cons.mp m with rfl | m
    · exact ⟨_, _, _, rfl, h⟩
    · exact k.mem m
theorem tc2 {v : V} {σ : L2.St} {H : Hp} {Q : VK} (h : Q v H) : tC v σ H Q := h
theorem ThAll.len2 {N : Addr → Prop} {H : Hp} {vs : List V} {ds : List Th} (h : ThAll N H vs ds) {n : Nat} (l : vs.length ≤ n) : ds.length ≤ n := h.length ▸ l
theorem th1 {N : Addr → Prop} {H : Hp} {v : V} {d : Th} (h : ThV N H v d) : ∃ d, ThV N H v d := ⟨d, h⟩
theorem ths_nil {N : Addr → Prop} {H : Hp} : ∀ v ∈ ([] : List V), ∃ d, ThV N H v d := fun _ m => nomatch m
theorem ths_cons {N : Addr → Prop} {H : Hp} {v : V} {vs : List V} {d : Th} (h : ThV N H v d) (k : ∀ v ∈ vs, ∃ d, ThV N H v d) : ∀ u ∈ v :: vs, ∃ d, ThV N H u d := fun u m => by
  rcases List.mem_cons.mp m with rfl | m
  · exact ⟨d, h⟩
  · exact k u m
theorem ths_app {N : Addr → Prop} {H : Hp} {vs us : List V} (h : ∀ v ∈ vs, ∃ d, ThV N H v d) (k : ∀ v ∈ us, ∃ d, ThV N H v d) : ∀ u ∈ vs ++ us, ∃ d, ThV N H u d := fun u m => (List.mem_append.mp m).elim (h u) (k u)
theorem ths_mono {N : Addr → Prop} {H H' : Hp} {vs : List V} (t : KpN N H H') (h : ∀ v ∈ vs, ∃ d, ThV N H v d) : ∀ v ∈ vs, ∃ d, ThV N H' v d := fun v m => by
  obtain ⟨d, g⟩ := h v m
  exact ⟨d, g.mono t⟩
theorem DrAt.lstk {H H' : Hp} {d c D : Addr} {xs : List V} (B : DrAt H d c) (k : But d H H') (h : H D = some (.lst xs)) : H' D = some (.lst xs) := by
  obtain ⟨kvs, e⟩ := B.dk
  exact k _ _ h (ne_of h e (by intro z; cases z))
theorem DrAt.tupk {H H' : Hp} {d c D : Addr} {xs : List V} (B : DrAt H d c) (k : But d H H') (h : H D = some (.tup xs)) : H' D = some (.tup xs) := by
  obtain ⟨kvs, e⟩ := B.dk
  exact k _ _ h (ne_of h e (by intro z; cases z))
theorem DrAt.netup {H : Hp} {d c D : Addr} {xs : List V} (B : DrAt H d c) (h : H D = some (.tup xs)) : D ≠ d := by
  obtain ⟨kvs, e⟩ := B.dk
  exact ne_of h e (by intro z; cases z)
/-- what is told: a thing, its row not long -/
def MkTh (d : Addr) (H : Hp) (v : V) : Prop := ∃ x, ThV (fun a => a ≠ d) H v x ∧ lenT x ≤ 63
def spOT : Sp := fun vs H Q _ => ∃ (d c t : Addr) (n : Int) (ys : List V) (ts : Ties), vs = [.ref d, .int n, .ref t] ∧ DrAt H d c ∧ H t = some (.tup ys) ∧ PAll H ys ts ∧ ts.length ≤ 30 ∧ 1 ≤ n ∧ n ≤ 100 ∧ ∀ (v : V) (H' : Hp), MkTh d H' v → DrAt H' d c → But d H H' → Q v H'
def spOP : Sp := fun vs H Q _ => ∃ (d c t : Addr) (ys : List V) (ps : List (Int × Str)), vs = [.ref d, .ref t] ∧ DrAt H d c ∧ H t = some (.tup ys) ∧ QAll H ys ps ∧ 1 ≤ ps.length ∧ ps.length ≤ 30 ∧ ∀ (v : V) (H' : Hp), MkTh d H' v → DrAt H' d c → But d H H' → Q v H'
section
variable {P : Program} {w : World} {K : PySem.W.Frag} {mg : Str → Option Value} {base : Heap}
theorem ok_otherties (T : Top K mg) : FnOk P w K mg base CX0 2 T.a_Lotherties T.d_Lotherties ["_law_draws", "_law_many_here", "_law_ties"] spOT := by
  have G_Lnext : FnOk P w K mg base CX0 1 _ _ _ _ := ok_nextD T
  refine T.F_Lotherties.ok sc_Lotherties (fun vs H Q E h => ?_) (fun cdv A outer s H vs Q E hr h => ?_)
  · obtain ⟨d, c, t, n, ys, ts, rfl, _⟩ := h
    rfl
  · obtain ⟨d, c, t, n, ys, ts, rfl, B, ht, pa, lt, n0, n1, q⟩ := h
    have ly := pa.length
    refine ⟨_, (pss_cons (ps_par (i := 3) (j := 4) (by rfl) sc_Lotherties.nd rfl rfl (by decide) rfl rfl (pa_cons (pe_call G_Lnext hr (by rfl) T.g_Lnext T.F_Lnext.kp T.b_Lnext .nil pass0 (pa_cons (pv 0) (pa_cons (pv 1) pa_nil))) (pa_cons (pe_call G_Lnext hr (by rfl) T.g_Lnext T.F_Lnext.kp T.b_Lnext .nil pass0 (pa_cons (pv 0) (pa_cons (pe_op op_add (pv 1) pe_int) pa_nil))) pa_nil)) (by rfl))
      (pss_cons (ps_set (i := 5) sc_Lotherties.nd rfl (.inl rfl) (pe_call G_Lnext hr (by rfl) T.g_Lnext T.F_Lnext.kp T.b_Lnext .nil pass0 (pa_cons (pv 0) (pa_cons (pe_op op_add (pe_callB call_len_seq (by rfl) T.m_len PySem.boot_len (pa_cons (pv 2) pa_nil)) pe_int) pa_nil))))
      (pss_cons (ps_set (i := 6) sc_Lotherties.nd rfl (.inl rfl) (pe_lst (pa_cons (pe_tup (pa_cons (pv 3) (pa_cons (pv 4) pa_nil))) (pa_cons (pe_tup (pa_cons (pv 4) (pa_cons (pv 3) pa_nil))) (pa_cons (pe_tup (pa_cons (pv 3) (pa_cons (pv 3) pa_nil))) (pa_cons (pe_tup (pa_cons (pe_un un_neg pe_int) (pa_cons (pv 3) pa_nil))) (pa_cons (pe_tup (pa_cons (pv 3) (pa_cons (pv 1) pa_nil))) (pa_cons (pe_tup (pa_cons pe_bl (pa_cons pe_bl pa_nil))) (pa_cons (pe_lst (pa_cons (pv 3) (pa_cons (pv 4) pa_nil))) pa_nil)))))))))
      (pss_cons (ps_set (i := 6) sc_Lotherties.nd rfl (.inl rfl) (pe_op op_cat (pv 6) (pe_lst (pa_cons (pe_tup (pa_cons (pv 3) (pa_cons (pv 4) (pa_cons (pv 4) pa_nil)))) (pa_cons (pe_tup (pa_cons (pv 3) pa_nil)) (pa_cons pe_non (pa_cons (pv 3) (pa_cons (pe_tup (pa_cons (pv 3) (pa_cons pe_non pa_nil))) (pa_cons (pe_tup (pa_cons pe_str (pa_cons pe_str pa_nil))) (pa_cons (pe_tup (pa_cons (pv 3) (pa_cons pe_bl pa_nil))) pa_nil))))))))))
      (pss_cons (ps_set (i := 7) sc_Lotherties.nd rfl (.inl rfl) (pe_call G_Lnext hr (by rfl) T.g_Lnext T.F_Lnext.kp T.b_Lnext .nil pass0 (pa_cons (pv 0) (pa_cons pe_int pa_nil))))
      (pss_cons (ps_if (pt_cmpR op_lt (pv 7) pe_int (nomark _)) (pss_one (ps_ret (pe_callTy call_tuple_of (by rfl) T.m_tuple (by decide +kernel) (pa_cons (pe_callB cr_sortedPH (by rfl) T.m_sorted (by decide +kernel) (pa_cons (pe_op op_catA (pv 2) (pe_tup (pa_cons (pe_tup (pa_cons (pe_callB (call_min2 rfl) (by rfl) T.m_min (by decide +kernel) (pa_cons (pv 3) (pa_cons (pv 4) pa_nil))) (pa_cons (pe_callB (call_max2 rfl) (by rfl) T.m_max (by decide +kernel) (pa_cons (pv 3) (pa_cons (pv 4) pa_nil))) pa_nil))) pa_nil))) pa_nil)) pa_nil)))) pss_nil)
      (pss_cons (ps_if (pt_cmpR op_eq (pv 7) pe_int (nomark _)) (pss_one (ps_ret (pe_op op_catA (pe_op op_catA (pe_slice sl_tupA (pv 2) po_none (po_some (pv 5))) (pe_tup (pa_cons (pe_ix ix_list (pv 6) (pe_call G_Lnext hr (by rfl) T.g_Lnext T.F_Lnext.kp T.b_Lnext .nil pass0 (pa_cons (pv 0) (pa_cons (pe_callB call_len_seq (by rfl) T.m_len PySem.boot_len (pa_cons (pv 6) pa_nil)) pa_nil))) (fun _ _ => rfl)) pa_nil))) (pe_slice sl_tupA (pv 2) (po_some (pv 5)) po_none)))) pss_nil)
      (pss_cons (ps_if (pt_cmpR op_eq (pv 7) pe_int (nomark _)) (pss_one (ps_ret (pe_op op_catA (pe_op op_catA (pe_slice sl_tupA (pv 2) po_none (po_some (pv 5))) (pe_op op_repA (pe_slice sl_tupA (pv 2) (po_some (pv 5)) (po_some (pe_op op_add (pv 5) pe_int))) pe_int)) (pe_slice sl_tupA (pv 2) (po_some (pe_op op_add (pv 5) pe_int)) po_none)))) pss_nil)
      (pss_cons (ps_if (pt_cmpR op_eq (pv 7) pe_int (nomark _)) (pss_one (ps_ret (pe_op op_catA (pe_slice sl_tupA (pv 2) (po_some (pv 5)) po_none) (pe_slice sl_tupA (pv 2) po_none (po_some (pv 5)))))) pss_nil)
      (pss_one (ps_ret (pe_ix ix_list (pe_lst (pa_cons (pe_revT (pv 2)) (pa_cons (pe_callTy call_list_of (by rfl) T.m_list (by decide +kernel) (pa_cons (pv 2) pa_nil)) (pa_cons pe_non (pa_cons pe_dnewK pa_nil))))) (pe_call G_Lnext hr (by rfl) T.g_Lnext T.F_Lnext.kp T.b_Lnext .nil pass0 (pa_cons (pv 0) (pa_cons pe_int pa_nil))) (fun _ _ => rfl))))))))))))), ?_⟩
    refine ⟨_, rfl, _, rfl, d, c, n, rfl, B, by omega, by omega, fun one H1 o0 o1 B1 k1 => ?_⟩
    refine ⟨_, rfl, _, rfl, _, _, rfl, rfl, d, c, _, rfl, B1, by omega, by omega, fun oth H2 p0 p1 B2 k2 => ?_⟩
    have k12 := k1.trans k2
    have ht2 := B.tupk k12 ht
    refine ⟨_, _, rfl, _, rfl, _, rfl, t, _, rfl, .inr (SqT.of ht2), _, _, rfl, rfl, d, c, _, rfl, B2, by omega, by omega, fun at_ H3 t0 t1 B3 k3 => ?_⟩
    have k13 := k12.trans k3
    have ht3 := B.tupk k13 ht
    have pa3 := pa.but B k13
    clear ht2
    refine ⟨_, rfl, _, rfl, (by show 2 ≤ sizeLine; decide), fun a1 na1 => ?_⟩
    have sa1 := same_new (o := .tup [V.int one, V.int oth]) na1
    have ga1 : upd H3 a1 (.tup [V.int one, V.int oth]) a1 = some (.tup [V.int one, V.int oth]) := upd_same
    have b1 := B3.same sa1
    have ia1 : a1 ≠ d := B3.ne na1
    have ht3_1 := sa1 _ _ ht3
    generalize upd H3 a1 (.tup [V.int one, V.int oth]) = W1 at sa1 ga1 b1 ht3_1 ⊢
    refine ⟨_, rfl, _, rfl, (by show 2 ≤ sizeLine; decide), fun a2 na2 => ?_⟩
    have sa2 := same_new (o := .tup [V.int oth, V.int one]) na2
    have ga2 : upd W1 a2 (.tup [V.int oth, V.int one]) a2 = some (.tup [V.int oth, V.int one]) := upd_same
    have b2 := b1.same sa2
    have ia2 : a2 ≠ d := b1.ne na2
    have ht3_2 := sa2 _ _ ht3_1
    generalize upd W1 a2 (.tup [V.int oth, V.int one]) = W2 at sa2 ga2 b2 ht3_2 ⊢
    refine ⟨_, rfl, _, rfl, (by show 2 ≤ sizeLine; decide), fun a3 na3 => ?_⟩
    have sa3 := same_new (o := .tup [V.int one, V.int one]) na3
    have ga3 : upd W2 a3 (.tup [V.int one, V.int one]) a3 = some (.tup [V.int one, V.int one]) := upd_same
    have b3 := b2.same sa3
    have ia3 : a3 ≠ d := b2.ne na3
    have ht3_3 := sa3 _ _ ht3_2
    generalize upd W2 a3 (.tup [V.int one, V.int one]) = W3 at sa3 ga3 b3 ht3_3 ⊢
    refine ⟨_, rfl, _, rfl, (by show 2 ≤ sizeLine; decide), fun a4 na4 => ?_⟩
    have sa4 := same_new (o := .tup [V.int (-1), V.int one]) na4
    have ga4 : upd W3 a4 (.tup [V.int (-1), V.int one]) a4 = some (.tup [V.int (-1), V.int one]) := upd_same
    have b4 := b3.same sa4
    have ia4 : a4 ≠ d := b3.ne na4
    have ht3_4 := sa4 _ _ ht3_3
    generalize upd W3 a4 (.tup [V.int (-1), V.int one]) = W4 at sa4 ga4 b4 ht3_4 ⊢
    refine ⟨_, rfl, _, rfl, (by show 2 ≤ sizeLine; decide), fun a5 na5 => ?_⟩
    have sa5 := same_new (o := .tup [V.int one, V.int n]) na5
    have ga5 : upd W4 a5 (.tup [V.int one, V.int n]) a5 = some (.tup [V.int one, V.int n]) := upd_same
    have b5 := b4.same sa5
    have ia5 : a5 ≠ d := b4.ne na5
    have ht3_5 := sa5 _ _ ht3_4
    generalize upd W4 a5 (.tup [V.int one, V.int n]) = W5 at sa5 ga5 b5 ht3_5 ⊢
    refine ⟨(by show 2 ≤ sizeLine; decide), fun a6 na6 => ?_⟩
    have sa6 := same_new (o := .tup [V.bl false, V.bl true]) na6
    have ga6 : upd W5 a6 (.tup [V.bl false, V.bl true]) a6 = some (.tup [V.bl false, V.bl true]) := upd_same
    have b6 := b5.same sa6
    have ia6 : a6 ≠ d := b5.ne na6
    have ht3_6 := sa6 _ _ ht3_5
    generalize upd W5 a6 (.tup [V.bl false, V.bl true]) = W6 at sa6 ga6 b6 ht3_6 ⊢
    refine ⟨_, rfl, _, rfl, (by show 2 ≤ sizeLine; decide), fun a7 na7 => ?_⟩
    have sa7 := same_new (o := .lst [V.int one, V.int oth]) na7
    have ga7 : upd W6 a7 (.lst [V.int one, V.int oth]) a7 = some (.lst [V.int one, V.int oth]) := upd_same
    have b7 := b6.same sa7
    have ia7 : a7 ≠ d := b6.ne na7
    have ht3_7 := sa7 _ _ ht3_6
    generalize upd W6 a7 (.lst [V.int one, V.int oth]) = W7 at sa7 ga7 b7 ht3_7 ⊢
    refine ⟨(by show 7 ≤ sizeLine; decide), fun l1 nl1 => ?_⟩
    have sl1 := same_new (o := .lst [V.ref a1, V.ref a2, V.ref a3, V.ref a4, V.ref a5, V.ref a6, V.ref a7]) nl1
    have gl1 : upd W7 l1 (.lst [V.ref a1, V.ref a2, V.ref a3, V.ref a4, V.ref a5, V.ref a6, V.ref a7]) l1 = some (.lst [V.ref a1, V.ref a2, V.ref a3, V.ref a4, V.ref a5, V.ref a6, V.ref a7]) := upd_same
    have b8 := b7.same sl1
    have il1 : l1 ≠ d := b7.ne nl1
    have ht3_8 := sl1 _ _ ht3_7
    generalize upd W7 l1 (.lst [V.ref a1, V.ref a2, V.ref a3, V.ref a4, V.ref a5, V.ref a6, V.ref a7]) = W8 at sl1 gl1 b8 ht3_8 ⊢
    have zl1 : Same W8 W8 := fun _ _ e => e
    have za7 := sl1.trans zl1
    have za6 := sa7.trans za7
    have za5 := sa6.trans za6
    have za4 := sa5.trans za5
    have za3 := sa4.trans za4
    have za2 := sa3.trans za3
    have za1 := sa2.trans za2
    have m1 : ∀ v ∈ [V.ref a1, V.ref a2, V.ref a3, V.ref a4, V.ref a5, V.ref a6, V.ref a7], ∃ x, ThV (fun a => a ≠ d) W8 v x := (ths_cons (.tup ia1 (za1 _ _ ga1) (.cons (.int _) (.cons (.int _) .nil))) (ths_cons (.tup ia2 (za2 _ _ ga2) (.cons (.int _) (.cons (.int _) .nil))) (ths_cons (.tup ia3 (za3 _ _ ga3) (.cons (.int _) (.cons (.int _) .nil))) (ths_cons (.tup ia4 (za4 _ _ ga4) (.cons (.int _) (.cons (.int _) .nil))) (ths_cons (.tup ia5 (za5 _ _ ga5) (.cons (.int _) (.cons (.int _) .nil))) (ths_cons (.tup ia6 (za6 _ _ ga6) (.cons (.bl _) (.cons (.bl _) .nil))) (ths_cons (.lst ia7 (za7 _ _ ga7) (.cons (.int _) (.cons (.int _) .nil))) ths_nil)))))))
    have f1 : Same H3 W8 := sa1.trans za1
    clear sa1 za1 ia1 sa2 za2 ia2 sa3 za3 ia3 sa4 za4 ia4 sa5 za5 ia5 sa6 za6 ia6 sa7 za7 ia7 sl1 zl1 il1 ga1 ga2 ga3 ga4 ga5 ga6 ga7 b1 b2 b3 b4 b5 b6 b7 nl1 na1 na2 na3 na4 na5 na6 na7
    generalize hE1 : [V.ref a1, V.ref a2, V.ref a3, V.ref a4, V.ref a5, V.ref a6, V.ref a7] = E1 at m1 gl1
    have le1 : E1.length = 7 := by rw [← hE1]; rfl
    clear hE1
    refine ⟨_, rfl, ?_⟩
    refine ⟨_, rfl, _, rfl, _, rfl, (by show 3 ≤ sizeLine; decide), fun c1 nc1 => ?_⟩
    have sc1 := same_new (o := .tup [V.int one, V.int oth, V.int oth]) nc1
    have gc1 : upd W8 c1 (.tup [V.int one, V.int oth, V.int oth]) c1 = some (.tup [V.int one, V.int oth, V.int oth]) := upd_same
    have b9 := b8.same sc1
    have ic1 : c1 ≠ d := b8.ne nc1
    have ht3_9 := sc1 _ _ ht3_8
    have gl1_9 := sc1 _ _ gl1
    generalize upd W8 c1 (.tup [V.int one, V.int oth, V.int oth]) = W9 at sc1 gc1 b9 ht3_9 gl1_9 ⊢
    refine ⟨_, rfl, (by show 1 ≤ sizeLine; decide), fun c2 nc2 => ?_⟩
    have sc2 := same_new (o := .tup [V.int one]) nc2
    have gc2 : upd W9 c2 (.tup [V.int one]) c2 = some (.tup [V.int one]) := upd_same
    have b10 := b9.same sc2
    have ic2 : c2 ≠ d := b9.ne nc2
    have ht3_10 := sc2 _ _ ht3_9
    have gl1_10 := sc2 _ _ gl1_9
    generalize upd W9 c2 (.tup [V.int one]) = W10 at sc2 gc2 b10 ht3_10 gl1_10 ⊢
    refine ⟨_, rfl, _, rfl, (by show 2 ≤ sizeLine; decide), fun c3 nc3 => ?_⟩
    have sc3 := same_new (o := .tup [V.int one, V.non]) nc3
    have gc3 : upd W10 c3 (.tup [V.int one, V.non]) c3 = some (.tup [V.int one, V.non]) := upd_same
    have b11 := b10.same sc3
    have ic3 : c3 ≠ d := b10.ne nc3
    have ht3_11 := sc3 _ _ ht3_10
    have gl1_11 := sc3 _ _ gl1_10
    generalize upd W10 c3 (.tup [V.int one, V.non]) = W11 at sc3 gc3 b11 ht3_11 gl1_11 ⊢
    refine ⟨(by show 2 ≤ sizeLine; decide), fun c4 nc4 => ?_⟩
    have sc4 := same_new (o := .tup [V.str "0", V.str "1"]) nc4
    have gc4 : upd W11 c4 (.tup [V.str "0", V.str "1"]) c4 = some (.tup [V.str "0", V.str "1"]) := upd_same
    have b12 := b11.same sc4
    have ic4 : c4 ≠ d := b11.ne nc4
    have ht3_12 := sc4 _ _ ht3_11
    have gl1_12 := sc4 _ _ gl1_11
    generalize upd W11 c4 (.tup [V.str "0", V.str "1"]) = W12 at sc4 gc4 b12 ht3_12 gl1_12 ⊢
    refine ⟨_, rfl, (by show 2 ≤ sizeLine; decide), fun c5 nc5 => ?_⟩
    have sc5 := same_new (o := .tup [V.int one, V.bl true]) nc5
    have gc5 : upd W12 c5 (.tup [V.int one, V.bl true]) c5 = some (.tup [V.int one, V.bl true]) := upd_same
    have b13 := b12.same sc5
    have ic5 : c5 ≠ d := b12.ne nc5
    have ht3_13 := sc5 _ _ ht3_12
    have gl1_13 := sc5 _ _ gl1_12
    generalize upd W12 c5 (.tup [V.int one, V.bl true]) = W13 at sc5 gc5 b13 ht3_13 gl1_13 ⊢
    refine ⟨(by show 7 ≤ sizeLine; decide), fun l2 nl2 => ?_⟩
    have sl2 := same_new (o := .lst [V.ref c1, V.ref c2, V.non, V.int one, V.ref c3, V.ref c4, V.ref c5]) nl2
    have gl2 : upd W13 l2 (.lst [V.ref c1, V.ref c2, V.non, V.int one, V.ref c3, V.ref c4, V.ref c5]) l2 = some (.lst [V.ref c1, V.ref c2, V.non, V.int one, V.ref c3, V.ref c4, V.ref c5]) := upd_same
    have b14 := b13.same sl2
    have il2 : l2 ≠ d := b13.ne nl2
    have ht3_14 := sl2 _ _ ht3_13
    have gl1_14 := sl2 _ _ gl1_13
    generalize upd W13 l2 (.lst [V.ref c1, V.ref c2, V.non, V.int one, V.ref c3, V.ref c4, V.ref c5]) = W14 at sl2 gl2 b14 ht3_14 gl1_14 ⊢
    have zl2 : Same W14 W14 := fun _ _ e => e
    have zc5 := sl2.trans zl2
    have zc4 := sc5.trans zc5
    have zc3 := sc4.trans zc4
    have zc2 := sc3.trans zc3
    have zc1 := sc2.trans zc2
    have m2 : ∀ v ∈ [V.ref c1, V.ref c2, V.non, V.int one, V.ref c3, V.ref c4, V.ref c5], ∃ x, ThV (fun a => a ≠ d) W14 v x := (ths_cons (.tup ic1 (zc1 _ _ gc1) (.cons (.int _) (.cons (.int _) (.cons (.int _) .nil)))) (ths_cons (.tup ic2 (zc2 _ _ gc2) (.cons (.int _) .nil)) (ths_cons .non (ths_cons (.int _) (ths_cons (.tup ic3 (zc3 _ _ gc3) (.cons (.int _) (.cons .non .nil))) (ths_cons (.tup ic4 (zc4 _ _ gc4) (.cons (.str _) (.cons (.str _) .nil))) (ths_cons (.tup ic5 (zc5 _ _ gc5) (.cons (.int _) (.cons (.bl _) .nil))) ths_nil)))))))
    have f2 : Same W8 W14 := sc1.trans zc1
    have m1 := ths_mono (.of_same f2) m1
    refine ⟨l1, l2, _, _, rfl, rfl, gl1_14, gl2, (by rw [le1]; show 7 + 7 ≤ sizeLine; decide), fun L nL => ?_⟩
    have sL := same_new (o := .lst (E1 ++ [V.ref c1, V.ref c2, V.non, V.int one, V.ref c3, V.ref c4, V.ref c5])) nL
    have gL : upd W14 L (.lst (E1 ++ [V.ref c1, V.ref c2, V.non, V.int one, V.ref c3, V.ref c4, V.ref c5])) L = some (.lst (E1 ++ [V.ref c1, V.ref c2, V.non, V.int one, V.ref c3, V.ref c4, V.ref c5])) := upd_same
    have B4 := b14.same sL
    have m := ths_mono (.of_same sL) (ths_app m1 m2)
    have f3 : Same H3 _ := (f1.trans f2).trans sL
    have le2 : (E1 ++ [V.ref c1, V.ref c2, V.non, V.int one, V.ref c3, V.ref c4, V.ref c5]).length = 14 := by rw [List.length_append, le1]; rfl
    generalize upd W14 L (.lst (E1 ++ [V.ref c1, V.ref c2, V.non, V.int one, V.ref c3, V.ref c4, V.ref c5])) = H4 at sL gL B4 m f3 ⊢
    generalize E1 ++ [V.ref c1, V.ref c2, V.non, V.int one, V.ref c3, V.ref c4, V.ref c5] = more at gL m le2
    have ht4 := f3 _ _ ht3
    have pa4 := pa3.same f3
    have k14 := k13.same f3
    clear sc1 zc1 ic1 sc2 zc2 ic2 sc3 zc3 ic3 sc4 zc4 ic4 sc5 zc5 ic5 sl2 zl2 il2 gc1 gc2 gc3 gc4 gc5 gl2 m1 m2 f1 f2 f3 sL nL le1
    refine ⟨_, rfl, d, c, 8, rfl, B4, by decide, by decide, fun wy H5 w0 w1 B5 k5 => ?_⟩
    have ht5 := B4.tupk k5 ht4
    have gL5 := B4.lstk k5 gL
    have pa5 := pa4.but B4 k5
    have m5 := ths_mono (.of_but k5) m
    have k15 := k14.trans k5
    have ta5 := pa5.th (N := fun a => a ≠ d) fun a xs h => B5.netup h
    clear pa4 pa3 ht4 ht3 gL m k14 k13 k12 k1 k2 k3 B1 B2 B3 B4 k5
    have lC : ∀ (lo hi : Option Int), (cutV ys lo hi).length ≤ 30 := fun lo hi => by
      have := cutV_length ys lo hi
      omega
    -- one tie more, in order
    refine ⟨_, rfl, _, _, rfl, rfl, _, rfl, ite2 (fun z => ?_) (fun z => ?_)⟩
    · refine ⟨_, rfl, _, rfl, _, rfl, _, _, rfl, _, rfl, _, rfl, _, _, rfl, (by show 2 ≤ sizeLine; decide), fun t1 n1 => ?_⟩
      have s1 := same_new (o := .tup [V.int (if oth < one then oth else one), V.int (if oth > one then oth else one)]) n1
      have g1 : upd H5 t1 (.tup [V.int (if oth < one then oth else one), V.int (if oth > one then oth else one)]) t1 = some (.tup [V.int (if oth < one then oth else one), V.int (if oth > one then oth else one)]) := upd_same
      generalize upd H5 t1 (.tup [V.int (if oth < one then oth else one), V.int (if oth > one then oth else one)]) = W1 at s1 g1 ⊢
      refine ⟨(by show 1 ≤ sizeLine; decide), fun t2 n2 => ?_⟩
      have s2 := same_new (o := .tup [V.ref t1]) n2
      refine catA rfl rfl (s2 _ _ (s1 _ _ ht5)) upd_same (sz (by show ys.length + 1 ≤ _; omega)) fun t3 W2 s3 g3 => ?_
      have s13 := (s1.trans s2).trans s3
      refine ⟨t3, _, _, rfl, .inr (SqT.of g3), PAll.snoc ((s2.trans s3) _ _ g1) (pa5.same s13), fun zs us L2 pz pu up nL2 => ?_⟩
      have s4 := same_new (o := .lst zs) nL2
      refine ⟨L2, zs, rfl, .inl ⟨SqL.of upd_same, fun r nr => ?_⟩⟩
      have s5 := same_new (o := .tup zs) nr
      have sf := s13.trans (s4.trans s5)
      have B6 := B5.same sf
      have pz := (pz.same s4).same s5
      refine q _ _ ⟨_, .tup (B6.netup upd_same) upd_same (pz.th fun a xs h => B6.netup h), ?_⟩ B6 (k15.same sf)
      show (us.map tieTh).length ≤ 63
      rw [List.length_map, pu.length_eq, List.length_append]
      show ts.length + 1 ≤ 63
      omega
    clear z
    -- one put in
    refine ⟨_, rfl, rfl, _, rfl, ite2 (fun z => ?_) (fun z => ?_)⟩
    · refine ⟨_, rfl, _, rfl, _, rfl, slA rfl ht5 fun b1 Ha sa ha => ?_⟩
      have Ba := B5.same sa
      refine ⟨_, rfl, _, rfl, _, rfl, L, _, rfl, .inl (SqL.of (sa _ _ gL5)), d, c, _, rfl, Ba, (by rw [le2]; decide), (by rw [le2]; decide), fun kx Hb kx0 kx1 Bb kb => ?_⟩
      obtain ⟨v, ev, mv⟩ := at_any (xs := more) kx0 kx1
      obtain ⟨dv, hv⟩ := m5 v mv
      refine ⟨L, _, _, _, rfl, rfl, SqL.of (Ba.lstk kb (sa _ _ gL5)), ev, (by show 1 ≤ sizeLine; decide), fun b2 nb2 => ?_⟩
      have sb := same_new (o := .tup [v]) nb2
      have gb : upd Hb b2 (.tup [v]) b2 = some (.tup [v]) := upd_same
      have Bc := Bb.same sb
      have kc := kb.same sb
      generalize upd Hb b2 (.tup [v]) = Hc at sb gb Bc kc ⊢
      refine catA rfl rfl (Ba.tupk kc ha) gb (sz (by have := lC none (some at_); show _ + 1 ≤ _; omega)) fun b3 Hd sd hd => ?_
      have kd := kc.same sd
      refine ⟨_, rfl, _, rfl, _, rfl, no_part (slA rfl (Ba.tupk kd (sa _ _ ht5)) fun b4 He se he => ?_)⟩
      refine catA rfl rfl (se _ _ hd) he (sz (by have := lC none (some at_); have := lC (some at_) none; rw [List.length_append]; show _ + 1 + _ ≤ _; omega)) fun b5 Hf sf hf => ?_
      have Bf := ((Bc.same sd).same se).same sf
      have kf : But d Ha Hf := (kd.same se).same sf
      have k5f : But d H5 Hf := (But.of_same sa).trans kf
      obtain ⟨e1, t1, l1⟩ := ta5.cut none (some at_)
      obtain ⟨e2, t2, l2⟩ := ta5.cut (some at_) none
      have hvf := hv.mono (.of_but k5f)
      refine q _ _ ⟨_, .tup (Bf.netup hf) hf (((t1.mono (.of_but k5f)).append (.one hvf)).append (t2.mono (.of_but k5f))), ?_⟩ Bf (k15.trans k5f)
      show ((e1 ++ [dv]) ++ e2).length ≤ 63
      rw [List.length_map] at l1 l2
      rw [List.length_append, List.length_append]
      show e1.length + 1 + e2.length ≤ 63
      omega
    clear z
    -- one twice
    refine ⟨_, rfl, rfl, _, rfl, ite2 (fun z => ?_) (fun z => ?_)⟩
    · refine ⟨_, rfl, _, rfl, _, rfl, slA rfl ht5 fun b1 Ha sa ha => ?_⟩
      refine ⟨_, rfl, _, rfl, _, rfl, _, rfl, _, _, rfl, rfl, _, rfl, slA rfl (sa _ _ ht5) fun b2 Hb sb hb => ?_⟩
      refine tc2 (repA rfl hb (by have := lC (some at_) (some (at_ + 1)); omega) fun b3 Hc sc hc => ?_)
      have sac := sb.trans sc
      refine catA rfl rfl (sac _ _ ha) hc (sz (by have := lC none (some at_); have := lC (some at_) (some (at_ + 1)); rw [List.length_append]; omega)) fun b4 Hd sd hd => ?_
      have s5d := sa.trans (sac.trans sd)
      refine ⟨_, rfl, _, rfl, _, _, rfl, rfl, _, rfl, no_part (slA rfl (s5d _ _ ht5) fun b5 He se he => ?_)⟩
      refine catA rfl rfl (se _ _ hd) he (sz (by have := lC none (some at_); have := lC (some at_) (some (at_ + 1)); have := lC (some (at_ + 1)) none; rw [List.length_append, List.length_append]; omega)) fun b6 Hf sf hf => ?_
      have sff := s5d.trans (se.trans sf)
      have Bf := B5.same sff
      obtain ⟨e1, t1, l1⟩ := ta5.cut none (some at_)
      obtain ⟨e2, t2, _⟩ := ta5.cut (some at_) (some (at_ + 1))
      obtain ⟨e3, t3, l3⟩ := ta5.cut (some (at_ + 1)) none
      have l2 := t2.len2 (cut_one t0)
      have g : ∀ {vs ds}, ThAll (fun a => a ≠ d) H5 vs ds → ThAll (fun a => a ≠ d) Hf vs ds := fun h => h.same sff
      refine q _ _ ⟨_, .tup (Bf.netup hf) hf (((g t1).append ((g t2).append (g t2))).append (g t3)), ?_⟩ Bf (k15.same sff)
      show ((e1 ++ (e2 ++ e2)) ++ e3).length ≤ 63
      rw [List.length_map] at l1 l3
      rw [List.length_append, List.length_append, List.length_append]
      omega
    clear z
    -- turned about
    refine ⟨_, rfl, rfl, _, rfl, ite2 (fun z => ?_) (fun z => ?_)⟩
    · refine ⟨_, rfl, _, rfl, _, rfl, no_part (slA rfl ht5 fun b1 Ha sa ha => ?_)⟩
      refine ⟨_, rfl, _, rfl, _, rfl, slA rfl (sa _ _ ht5) fun b2 Hb sb hb => ?_⟩
      refine catA rfl rfl (sb _ _ ha) hb (sz (by have := lC none (some at_); have := lC (some at_) none; omega)) fun b3 Hc sc hc => ?_
      have sff := (sa.trans sb).trans sc
      have Bf := B5.same sff
      obtain ⟨e1, t1, l1⟩ := ta5.cut (some at_) none
      obtain ⟨e2, t2, l2⟩ := ta5.cut none (some at_)
      refine q _ _ ⟨_, .tup (Bf.netup hc) hc ((t1.same sff).append (t2.same sff)), ?_⟩ Bf (k15.same sff)
      show (e1 ++ e2).length ≤ 63
      rw [List.length_map] at l1 l2
      rw [List.length_append]
      omega
    clear z
    -- other things
    refine ⟨_, rfl, t, _, rfl, SqT.of ht5, fun e1 ne1 => ?_⟩
    have s1 := same_new (o := .tup ys.reverse) ne1
    have g1 : upd H5 e1 (.tup ys.reverse) e1 = some (.tup ys.reverse) := upd_same
    generalize upd H5 e1 (.tup ys.reverse) = W1 at s1 g1 ⊢
    refine ⟨_, rfl, t, _, rfl, .inr (SqT.of (s1 _ _ ht5)), fun e2 ne2 => ?_⟩
    have s2 := same_new (o := .lst ys) ne2
    have g2 : upd W1 e2 (.lst ys) e2 = some (.lst ys) := upd_same
    have i2 : e2 ≠ d := (B5.same s1).ne ne2
    generalize upd W1 e2 (.lst ys) = W2 at s2 g2 ⊢
    refine fun e3 ne3 => ?_
    have s3 := same_new (o := .dK []) ne3
    have g3 : upd W2 e3 (.dK []) e3 = some (.dK []) := upd_same
    have i3 : e3 ≠ d := ((B5.same s1).same s2).ne ne3
    generalize upd W2 e3 (.dK []) = W3 at s3 g3 ⊢
    refine ⟨(by show 4 ≤ sizeLine; decide), fun e4 ne4 => ?_⟩
    have s4 := same_new (o := .lst [V.ref e1, V.ref e2, V.non, V.ref e3]) ne4
    have g4 : upd W3 e4 (.lst [V.ref e1, V.ref e2, V.non, V.ref e3]) e4 = some (.lst [V.ref e1, V.ref e2, V.non, V.ref e3]) := upd_same
    generalize upd W3 e4 (.lst [V.ref e1, V.ref e2, V.non, V.ref e3]) = W4 at s4 g4 ⊢
    have s14 := s1.trans (s2.trans (s3.trans s4))
    have B6 := B5.same s14
    have hall : ∀ v ∈ [V.ref e1, V.ref e2, V.non, V.ref e3], MkTh d W4 v := by
      have h1 := (s2.trans (s3.trans s4)) _ _ g1
      have h2 := (s3.trans s4) _ _ g2
      have h3 := s4 _ _ g3
      intro v mv
      simp only [List.mem_cons, List.not_mem_nil, or_false] at mv
      rcases mv with rfl | rfl | rfl | rfl
      · refine ⟨_, .tup (B6.netup h1) h1 ((ta5.same s14).rev), ?_⟩
        show (ts.map tieTh).reverse.length ≤ 63
        rw [List.length_reverse, List.length_map]
        omega
      · exact ⟨_, .lst i2 h2 (ta5.same s14), Nat.zero_le _⟩
      · exact ⟨_, .non, Nat.zero_le _⟩
      · exact ⟨_, .dct i3 h3, Nat.zero_le _⟩
    refine ⟨_, rfl, d, c, 4, rfl, B6, by decide, by decide, fun kx Hb kx0 kx1 Bb kb => ?_⟩
    obtain ⟨v, ev, mv⟩ := at_any (xs := [V.ref e1, V.ref e2, V.non, V.ref e3]) kx0 kx1
    obtain ⟨x, hx, lx⟩ := hall v mv
    exact ⟨e4, _, _, _, rfl, rfl, SqL.of (B6.lstk kb g4), ev, q _ _ ⟨x, hx.mono (.of_but kb), lx⟩ Bb ((k15.same s14).trans kb)⟩
theorem ok_otherpoints (T : Top K mg) : FnOk P w K mg base CX0 2 T.a_Lotherpoints T.d_Lotherpoints ["_law_draws", "_law_points"] spOP := by
  have G_Lnext : FnOk P w K mg base CX0 1 _ _ _ _ := ok_nextD T
  refine T.F_Lotherpoints.ok sc_Lotherpoints (fun vs H Q E h => ?_) (fun cdv A outer s H vs Q E hr h => ?_)
  · obtain ⟨d, c, t, ys, ps, rfl, _⟩ := h
    rfl
  · obtain ⟨d, c, t, ys, ps, rfl, B, ht, pa, l1, l30, q⟩ := h
    have ly := pa.length
    refine ⟨_, (pss_cons (ps_set (i := 2) sc_Lotherpoints.nd rfl (.inl rfl) (pe_call G_Lnext hr (by rfl) T.g_Lnext T.F_Lnext.kp T.b_Lnext .nil pass0 (pa_cons (pv 0) (pa_cons (pe_callB call_len_seq (by rfl) T.m_len PySem.boot_len (pa_cons (pv 1) pa_nil)) pa_nil))))
      (pss_cons (ps_asg (pe_ix ix_tup (pv 1) (pv 2) (fun _ _ => rfl)) (pg_tup rfl (pgs_cons (pg_name (i := 3) sc_Lotherpoints.nd rfl (.inl rfl)) (pgs_cons (pg_name (i := 4) sc_Lotherpoints.nd rfl (.inl rfl)) pgs_nil))))
      (pss_cons (ps_set (i := 5) sc_Lotherpoints.nd rfl (.inl rfl) (pe_lst (pa_cons (pe_tup (pa_cons (pv 3) (pa_cons pe_str pa_nil))) (pa_cons (pe_tup (pa_cons (pv 3) (pa_cons pe_str pa_nil))) (pa_cons (pe_tup (pa_cons (pv 3) (pa_cons pe_str pa_nil))) (pa_cons (pe_tup (pa_cons (pv 3) (pa_cons pe_str pa_nil))) (pa_cons (pe_tup (pa_cons pe_bl (pa_cons (pv 4) pa_nil))) (pa_cons (pe_tup (pa_cons pe_non (pa_cons (pv 4) pa_nil))) (pa_cons (pe_tup (pa_cons (pv 3) pa_nil)) pa_nil)))))))))
      (pss_cons (ps_set (i := 5) sc_Lotherpoints.nd rfl (.inl rfl) (pe_op op_cat (pv 5) (pe_lst (pa_cons (pe_tup (pa_cons (pv 3) (pa_cons (pv 4) (pa_cons (pv 4) pa_nil)))) (pa_cons (pe_lst (pa_cons (pv 3) (pa_cons (pv 4) pa_nil))) (pa_cons (pe_tup (pa_cons (pv 4) (pa_cons (pv 3) pa_nil))) (pa_cons (pe_tup (pa_cons (pv 3) (pa_cons pe_non pa_nil))) (pa_cons (pv 3) (pa_cons pe_non (pa_cons (pe_tup (pa_cons (pv 3) (pa_cons (pe_tup (pa_cons pe_str pa_nil)) pa_nil))) (pa_cons (pe_tup pa_nil) pa_nil)))))))))))
      (pss_cons (ps_set (i := 6) sc_Lotherpoints.nd rfl (.inl rfl) (pe_lst (pa_cons (pe_op op_catA (pe_op op_catA (pe_slice sl_tupA (pv 1) po_none (po_some (pv 2))) (pe_tup (pa_cons (pe_ix ix_list (pv 5) (pe_call G_Lnext hr (by rfl) T.g_Lnext T.F_Lnext.kp T.b_Lnext .nil pass0 (pa_cons (pv 0) (pa_cons (pe_callB call_len_seq (by rfl) T.m_len PySem.boot_len (pa_cons (pv 5) pa_nil)) pa_nil))) (fun _ _ => rfl)) pa_nil))) (pe_slice sl_tupA (pv 1) (po_some (pe_op op_add (pv 2) pe_int)) po_none)) (pa_cons (pe_callTy call_list_of (by rfl) T.m_list (by decide +kernel) (pa_cons (pv 1) pa_nil)) (pa_cons (pe_tup pa_nil) (pa_cons (pe_slice sl_tupA (pv 1) po_none (po_some (pe_un un_neg pe_int))) pa_nil))))))
      (pss_one (ps_ret (pe_ix ix_list (pv 6) (pe_call G_Lnext hr (by rfl) T.g_Lnext T.F_Lnext.kp T.b_Lnext .nil pass0 (pa_cons (pv 0) (pa_cons pe_int pa_nil))) (fun _ _ => rfl))))))))), ?_⟩
    refine ⟨_, rfl, _, rfl, t, _, rfl, .inr (SqT.of ht), d, c, _, rfl, B, by omega, by omega, fun at_ H3 t0 t1 B3 k3 => ?_⟩
    have ht3 := B.tupk k3 ht
    have pa3 := pa.but B k3
    obtain ⟨px, hpx, mpx⟩ := at_any (xs := ys) t0 t1
    obtain ⟨tp, wo, kd, rfl, htp⟩ : ∃ tp wo kd, px = .ref tp ∧ H3 tp = some (.tup [.int wo, .str kd]) := pa3.mem mpx
    refine ⟨_, rfl, _, rfl, t, _, _, _, rfl, rfl, SqT.of ht3, hpx, tp, _, rfl, SqT.of htp, rfl, _, _, rfl, _, _, rfl, rfl, ?_⟩
    refine ⟨_, rfl, (by show 2 ≤ sizeLine; decide), fun a1 na1 => ?_⟩
    have sa1 := same_new (o := .tup [V.int wo, V.str "i"]) na1
    have ga1 : upd H3 a1 (.tup [V.int wo, V.str "i"]) a1 = some (.tup [V.int wo, V.str "i"]) := upd_same
    have b1 := B3.same sa1
    have ia1 : a1 ≠ d := B3.ne na1
    have ht3_1 := sa1 _ _ ht3
    generalize upd H3 a1 (.tup [V.int wo, V.str "i"]) = W1 at sa1 ga1 b1 ht3_1 ⊢
    refine ⟨_, rfl, (by show 2 ≤ sizeLine; decide), fun a2 na2 => ?_⟩
    have sa2 := same_new (o := .tup [V.int wo, V.str ""]) na2
    have ga2 : upd W1 a2 (.tup [V.int wo, V.str ""]) a2 = some (.tup [V.int wo, V.str ""]) := upd_same
    have b2 := b1.same sa2
    have ia2 : a2 ≠ d := b1.ne na2
    have ht3_2 := sa2 _ _ ht3_1
    generalize upd W1 a2 (.tup [V.int wo, V.str ""]) = W2 at sa2 ga2 b2 ht3_2 ⊢
    refine ⟨_, rfl, (by show 2 ≤ sizeLine; decide), fun a3 na3 => ?_⟩
    have sa3 := same_new (o := .tup [V.int wo, V.str "ab"]) na3
    have ga3 : upd W2 a3 (.tup [V.int wo, V.str "ab"]) a3 = some (.tup [V.int wo, V.str "ab"]) := upd_same
    have b3 := b2.same sa3
    have ia3 : a3 ≠ d := b2.ne na3
    have ht3_3 := sa3 _ _ ht3_2
    generalize upd W2 a3 (.tup [V.int wo, V.str "ab"]) = W3 at sa3 ga3 b3 ht3_3 ⊢
    refine ⟨_, rfl, (by show 2 ≤ sizeLine; decide), fun a4 na4 => ?_⟩
    have sa4 := same_new (o := .tup [V.int wo, V.str "A"]) na4
    have ga4 : upd W3 a4 (.tup [V.int wo, V.str "A"]) a4 = some (.tup [V.int wo, V.str "A"]) := upd_same
    have b4 := b3.same sa4
    have ia4 : a4 ≠ d := b3.ne na4
    have ht3_4 := sa4 _ _ ht3_3
    generalize upd W3 a4 (.tup [V.int wo, V.str "A"]) = W4 at sa4 ga4 b4 ht3_4 ⊢
    refine ⟨_, rfl, (by show 2 ≤ sizeLine; decide), fun a5 na5 => ?_⟩
    have sa5 := same_new (o := .tup [V.bl true, V.str kd]) na5
    have ga5 : upd W4 a5 (.tup [V.bl true, V.str kd]) a5 = some (.tup [V.bl true, V.str kd]) := upd_same
    have b5 := b4.same sa5
    have ia5 : a5 ≠ d := b4.ne na5
    have ht3_5 := sa5 _ _ ht3_4
    generalize upd W4 a5 (.tup [V.bl true, V.str kd]) = W5 at sa5 ga5 b5 ht3_5 ⊢
    refine ⟨_, rfl, (by show 2 ≤ sizeLine; decide), fun a6 na6 => ?_⟩
    have sa6 := same_new (o := .tup [V.non, V.str kd]) na6
    have ga6 : upd W5 a6 (.tup [V.non, V.str kd]) a6 = some (.tup [V.non, V.str kd]) := upd_same
    have b6 := b5.same sa6
    have ia6 : a6 ≠ d := b5.ne na6
    have ht3_6 := sa6 _ _ ht3_5
    generalize upd W5 a6 (.tup [V.non, V.str kd]) = W6 at sa6 ga6 b6 ht3_6 ⊢
    refine ⟨_, rfl, (by show 1 ≤ sizeLine; decide), fun a7 na7 => ?_⟩
    have sa7 := same_new (o := .tup [V.int wo]) na7
    have ga7 : upd W6 a7 (.tup [V.int wo]) a7 = some (.tup [V.int wo]) := upd_same
    have b7 := b6.same sa7
    have ia7 : a7 ≠ d := b6.ne na7
    have ht3_7 := sa7 _ _ ht3_6
    generalize upd W6 a7 (.tup [V.int wo]) = W7 at sa7 ga7 b7 ht3_7 ⊢
    refine ⟨(by show 7 ≤ sizeLine; decide), fun l1 nl1 => ?_⟩
    have sl1 := same_new (o := .lst [V.ref a1, V.ref a2, V.ref a3, V.ref a4, V.ref a5, V.ref a6, V.ref a7]) nl1
    have gl1 : upd W7 l1 (.lst [V.ref a1, V.ref a2, V.ref a3, V.ref a4, V.ref a5, V.ref a6, V.ref a7]) l1 = some (.lst [V.ref a1, V.ref a2, V.ref a3, V.ref a4, V.ref a5, V.ref a6, V.ref a7]) := upd_same
    have b8 := b7.same sl1
    have il1 : l1 ≠ d := b7.ne nl1
    have ht3_8 := sl1 _ _ ht3_7
    generalize upd W7 l1 (.lst [V.ref a1, V.ref a2, V.ref a3, V.ref a4, V.ref a5, V.ref a6, V.ref a7]) = W8 at sl1 gl1 b8 ht3_8 ⊢
    have zl1 : Same W8 W8 := fun _ _ e => e
    have za7 := sl1.trans zl1
    have za6 := sa7.trans za7
    have za5 := sa6.trans za6
    have za4 := sa5.trans za5
    have za3 := sa4.trans za4
    have za2 := sa3.trans za3
    have za1 := sa2.trans za2
    have m1 : ∀ v ∈ [V.ref a1, V.ref a2, V.ref a3, V.ref a4, V.ref a5, V.ref a6, V.ref a7], ∃ x, ThV (fun a => a ≠ d) W8 v x := (ths_cons (.tup ia1 (za1 _ _ ga1) (.cons (.int _) (.cons (.str _) .nil))) (ths_cons (.tup ia2 (za2 _ _ ga2) (.cons (.int _) (.cons (.str _) .nil))) (ths_cons (.tup ia3 (za3 _ _ ga3) (.cons (.int _) (.cons (.str _) .nil))) (ths_cons (.tup ia4 (za4 _ _ ga4) (.cons (.int _) (.cons (.str _) .nil))) (ths_cons (.tup ia5 (za5 _ _ ga5) (.cons (.bl _) (.cons (.str _) .nil))) (ths_cons (.tup ia6 (za6 _ _ ga6) (.cons .non (.cons (.str _) .nil))) (ths_cons (.tup ia7 (za7 _ _ ga7) (.cons (.int _) .nil)) ths_nil)))))))
    have f1 : Same H3 W8 := sa1.trans za1
    clear sa1 za1 ia1 sa2 za2 ia2 sa3 za3 ia3 sa4 za4 ia4 sa5 za5 ia5 sa6 za6 ia6 sa7 za7 ia7 sl1 zl1 il1 ga1 ga2 ga3 ga4 ga5 ga6 ga7 b1 b2 b3 b4 b5 b6 b7 nl1 na1 na2 na3 na4 na5 na6 na7
    generalize hE1 : [V.ref a1, V.ref a2, V.ref a3, V.ref a4, V.ref a5, V.ref a6, V.ref a7] = E1 at m1 gl1
    have le1 : E1.length = 7 := by rw [← hE1]; rfl
    clear hE1
    refine ⟨_, rfl, ?_⟩
    refine ⟨_, rfl, _, rfl, _, rfl, (by show 3 ≤ sizeLine; decide), fun c1 nc1 => ?_⟩
    have sc1 := same_new (o := .tup [V.int wo, V.str kd, V.str kd]) nc1
    have gc1 : upd W8 c1 (.tup [V.int wo, V.str kd, V.str kd]) c1 = some (.tup [V.int wo, V.str kd, V.str kd]) := upd_same
    have b9 := b8.same sc1
    have ic1 : c1 ≠ d := b8.ne nc1
    have ht3_9 := sc1 _ _ ht3_8
    have gl1_9 := sc1 _ _ gl1
    generalize upd W8 c1 (.tup [V.int wo, V.str kd, V.str kd]) = W9 at sc1 gc1 b9 ht3_9 gl1_9 ⊢
    refine ⟨_, rfl, _, rfl, (by show 2 ≤ sizeLine; decide), fun c2 nc2 => ?_⟩
    have sc2 := same_new (o := .lst [V.int wo, V.str kd]) nc2
    have gc2 : upd W9 c2 (.lst [V.int wo, V.str kd]) c2 = some (.lst [V.int wo, V.str kd]) := upd_same
    have b10 := b9.same sc2
    have ic2 : c2 ≠ d := b9.ne nc2
    have ht3_10 := sc2 _ _ ht3_9
    have gl1_10 := sc2 _ _ gl1_9
    generalize upd W9 c2 (.lst [V.int wo, V.str kd]) = W10 at sc2 gc2 b10 ht3_10 gl1_10 ⊢
    refine ⟨_, rfl, _, rfl, (by show 2 ≤ sizeLine; decide), fun c3 nc3 => ?_⟩
    have sc3 := same_new (o := .tup [V.str kd, V.int wo]) nc3
    have gc3 : upd W10 c3 (.tup [V.str kd, V.int wo]) c3 = some (.tup [V.str kd, V.int wo]) := upd_same
    have b11 := b10.same sc3
    have ic3 : c3 ≠ d := b10.ne nc3
    have ht3_11 := sc3 _ _ ht3_10
    have gl1_11 := sc3 _ _ gl1_10
    generalize upd W10 c3 (.tup [V.str kd, V.int wo]) = W11 at sc3 gc3 b11 ht3_11 gl1_11 ⊢
    refine ⟨_, rfl, (by show 2 ≤ sizeLine; decide), fun c4 nc4 => ?_⟩
    have sc4 := same_new (o := .tup [V.int wo, V.non]) nc4
    have gc4 : upd W11 c4 (.tup [V.int wo, V.non]) c4 = some (.tup [V.int wo, V.non]) := upd_same
    have b12 := b11.same sc4
    have ic4 : c4 ≠ d := b11.ne nc4
    have ht3_12 := sc4 _ _ ht3_11
    have gl1_12 := sc4 _ _ gl1_11
    generalize upd W11 c4 (.tup [V.int wo, V.non]) = W12 at sc4 gc4 b12 ht3_12 gl1_12 ⊢
    refine ⟨_, rfl, _, rfl, (by show 1 ≤ sizeLine; decide), fun c5 nc5 => ?_⟩
    have sc5 := same_new (o := .tup [V.str "a"]) nc5
    have gc5 : upd W12 c5 (.tup [V.str "a"]) c5 = some (.tup [V.str "a"]) := upd_same
    have b13 := b12.same sc5
    have ic5 : c5 ≠ d := b12.ne nc5
    have ht3_13 := sc5 _ _ ht3_12
    have gl1_13 := sc5 _ _ gl1_12
    generalize upd W12 c5 (.tup [V.str "a"]) = W13 at sc5 gc5 b13 ht3_13 gl1_13 ⊢
    refine ⟨(by show 2 ≤ sizeLine; decide), fun c6 nc6 => ?_⟩
    have sc6 := same_new (o := .tup [V.int wo, V.ref c5]) nc6
    have gc6 : upd W13 c6 (.tup [V.int wo, V.ref c5]) c6 = some (.tup [V.int wo, V.ref c5]) := upd_same
    have b14 := b13.same sc6
    have ic6 : c6 ≠ d := b13.ne nc6
    have ht3_14 := sc6 _ _ ht3_13
    have gl1_14 := sc6 _ _ gl1_13
    generalize upd W13 c6 (.tup [V.int wo, V.ref c5]) = W14 at sc6 gc6 b14 ht3_14 gl1_14 ⊢
    refine ⟨(by show 0 ≤ sizeLine; decide), fun c7 nc7 => ?_⟩
    have sc7 := same_new (o := .tup ([] : List V)) nc7
    have gc7 : upd W14 c7 (.tup ([] : List V)) c7 = some (.tup ([] : List V)) := upd_same
    have b15 := b14.same sc7
    have ic7 : c7 ≠ d := b14.ne nc7
    have ht3_15 := sc7 _ _ ht3_14
    have gl1_15 := sc7 _ _ gl1_14
    generalize upd W14 c7 (.tup ([] : List V)) = W15 at sc7 gc7 b15 ht3_15 gl1_15 ⊢
    refine ⟨(by show 8 ≤ sizeLine; decide), fun l2 nl2 => ?_⟩
    have sl2 := same_new (o := .lst [V.ref c1, V.ref c2, V.ref c3, V.ref c4, V.int wo, V.non, V.ref c6, V.ref c7]) nl2
    have gl2 : upd W15 l2 (.lst [V.ref c1, V.ref c2, V.ref c3, V.ref c4, V.int wo, V.non, V.ref c6, V.ref c7]) l2 = some (.lst [V.ref c1, V.ref c2, V.ref c3, V.ref c4, V.int wo, V.non, V.ref c6, V.ref c7]) := upd_same
    have b16 := b15.same sl2
    have il2 : l2 ≠ d := b15.ne nl2
    have ht3_16 := sl2 _ _ ht3_15
    have gl1_16 := sl2 _ _ gl1_15
    generalize upd W15 l2 (.lst [V.ref c1, V.ref c2, V.ref c3, V.ref c4, V.int wo, V.non, V.ref c6, V.ref c7]) = W16 at sl2 gl2 b16 ht3_16 gl1_16 ⊢
    have zl2 : Same W16 W16 := fun _ _ e => e
    have zc7 := sl2.trans zl2
    have zc6 := sc7.trans zc7
    have zc5 := sc6.trans zc6
    have zc4 := sc5.trans zc5
    have zc3 := sc4.trans zc4
    have zc2 := sc3.trans zc3
    have zc1 := sc2.trans zc2
    have m2 : ∀ v ∈ [V.ref c1, V.ref c2, V.ref c3, V.ref c4, V.int wo, V.non, V.ref c6, V.ref c7], ∃ x, ThV (fun a => a ≠ d) W16 v x := (ths_cons (.tup ic1 (zc1 _ _ gc1) (.cons (.int _) (.cons (.str _) (.cons (.str _) .nil)))) (ths_cons (.lst ic2 (zc2 _ _ gc2) (.cons (.int _) (.cons (.str _) .nil))) (ths_cons (.tup ic3 (zc3 _ _ gc3) (.cons (.str _) (.cons (.int _) .nil))) (ths_cons (.tup ic4 (zc4 _ _ gc4) (.cons (.int _) (.cons .non .nil))) (ths_cons (.int _) (ths_cons .non (ths_cons (.tup ic6 (zc6 _ _ gc6) (.cons (.int _) (.cons (.tup ic5 (zc5 _ _ gc5) (.cons (.str _) .nil)) .nil))) (ths_cons (.tup ic7 (zc7 _ _ gc7) .nil) ths_nil))))))))
    have f2 : Same W8 W16 := sc1.trans zc1
    have m1 := ths_mono (.of_same f2) m1
    refine ⟨l1, l2, _, _, rfl, rfl, gl1_16, gl2, (by rw [le1]; show 7 + 8 ≤ sizeLine; decide), fun L nL => ?_⟩
    have sL := same_new (o := .lst (E1 ++ [V.ref c1, V.ref c2, V.ref c3, V.ref c4, V.int wo, V.non, V.ref c6, V.ref c7])) nL
    have gL : upd W16 L (.lst (E1 ++ [V.ref c1, V.ref c2, V.ref c3, V.ref c4, V.int wo, V.non, V.ref c6, V.ref c7])) L = some (.lst (E1 ++ [V.ref c1, V.ref c2, V.ref c3, V.ref c4, V.int wo, V.non, V.ref c6, V.ref c7])) := upd_same
    have B4 := b16.same sL
    have m := ths_mono (.of_same sL) (ths_app m1 m2)
    have f3 : Same H3 _ := (f1.trans f2).trans sL
    have le2 : (E1 ++ [V.ref c1, V.ref c2, V.ref c3, V.ref c4, V.int wo, V.non, V.ref c6, V.ref c7]).length = 15 := by rw [List.length_append, le1]; rfl
    generalize upd W16 L (.lst (E1 ++ [V.ref c1, V.ref c2, V.ref c3, V.ref c4, V.int wo, V.non, V.ref c6, V.ref c7])) = H4 at sL gL B4 m f3 ⊢
    generalize E1 ++ [V.ref c1, V.ref c2, V.ref c3, V.ref c4, V.int wo, V.non, V.ref c6, V.ref c7] = more at gL m le2
    have ht4 := f3 _ _ ht3
    have k14 := k3.same f3
    have ta4 := (pa3.same f3).th (N := fun a => a ≠ d) fun a xs h => B4.netup h
    clear sc1 zc1 ic1 sc2 zc2 ic2 sc3 zc3 ic3 sc4 zc4 ic4 sc5 zc5 ic5 sc6 zc6 ic6 sc7 zc7 ic7 sl2 zl2 il2 gc1 gc2 gc3 gc4 gc5 gc6 gc7 gl2 m1 m2 f1 f2 f3 sL nL le1
    have lC : ∀ (lo hi : Option Int), (cutV ys lo hi).length ≤ 30 := fun lo hi => by
      have := cutV_length ys lo hi
      omega
    -- one exchanged
    refine ⟨_, rfl, _, rfl, _, rfl, slA rfl ht4 fun b1 Ha sa ha => ?_⟩
    have Ba := B4.same sa
    refine ⟨_, rfl, _, rfl, _, rfl, L, _, rfl, .inl (SqL.of (sa _ _ gL)), d, c, _, rfl, Ba, (by rw [le2]; decide), (by rw [le2]; decide), fun kx Hb kx0 kx1 Bb kb => ?_⟩
    obtain ⟨v, ev, mv⟩ := at_any (xs := more) kx0 kx1
    obtain ⟨dv, hv⟩ := m v mv
    refine ⟨L, _, _, _, rfl, rfl, SqL.of (Ba.lstk kb (sa _ _ gL)), ev, (by show 1 ≤ sizeLine; decide), fun b2 nb2 => ?_⟩
    have sb := same_new (o := .tup [v]) nb2
    have gb : upd Hb b2 (.tup [v]) b2 = some (.tup [v]) := upd_same
    have Bc := Bb.same sb
    have kc := kb.same sb
    generalize upd Hb b2 (.tup [v]) = Hc at sb gb Bc kc ⊢
    refine catA rfl rfl (Ba.tupk kc ha) gb (sz (by have := lC none (some at_); show _ + 1 ≤ _; omega)) fun b3 Hd sd hd => ?_
    have kd2 := kc.same sd
    refine ⟨_, rfl, _, rfl, _, _, rfl, rfl, _, rfl, no_part (slA rfl (Ba.tupk kd2 (sa _ _ ht4)) fun b4 He se he => ?_)⟩
    refine catA rfl rfl (se _ _ hd) he (sz (by have := lC none (some at_); have := lC (some (at_ + 1)) none; rw [List.length_append]; show _ + 1 + _ ≤ _; omega)) fun b5 Hf sf hf => ?_
    have Bf := ((Bc.same sd).same se).same sf
    have kf : But d Ha Hf := (kd2.same se).same sf
    have k4f : But d H4 Hf := (But.of_same sa).trans kf
    have taf := ta4.mono (KpN.of_but k4f)
    obtain ⟨e1, u1, v1⟩ := taf.cut none (some at_)
    obtain ⟨e2, u2, v2⟩ := taf.cut (some (at_ + 1)) none
    have r1 : MkTh d Hf (.ref b5) := by
      refine ⟨_, .tup (Bf.netup hf) hf ((u1.append (.one (hv.mono (.of_but k4f)))).append u2), ?_⟩
      show ((e1 ++ [dv]) ++ e2).length ≤ 63
      rw [List.length_map] at v1 v2
      rw [List.length_append, List.length_append]
      show e1.length + 1 + e2.length ≤ 63
      omega
    have htf := B4.tupk k4f ht4
    have k1f := k14.trans k4f
    clear u1 u2 hv sf se sd sb gb kc kd2 Bc nb2
    -- the list, (), all but the last
    refine ⟨_, rfl, t, _, rfl, .inr (SqT.of htf), fun e2 ne2 => ?_⟩
    have s2 := same_new (o := .lst ys) ne2
    have g2 : upd Hf e2 (.lst ys) e2 = some (.lst ys) := upd_same
    have i2 : e2 ≠ d := Bf.ne ne2
    generalize upd Hf e2 (.lst ys) = W2 at s2 g2 ⊢
    refine ⟨(by show 0 ≤ sizeLine; decide), fun e3 ne3 => ?_⟩
    have s3 := same_new (o := .tup ([] : List V)) ne3
    have g3 : upd W2 e3 (.tup ([] : List V)) e3 = some (.tup ([] : List V)) := upd_same
    generalize upd W2 e3 (.tup ([] : List V)) = W3 at s3 g3 ⊢
    refine ⟨_, rfl, _, rfl, _, rfl, slA rfl ((s2.trans s3) _ _ htf) fun e5 W5 s5 g5 => ?_⟩
    refine ⟨(by show 4 ≤ sizeLine; decide), fun e4 ne4 => ?_⟩
    have s4 := same_new (o := .lst [V.ref b5, V.ref e2, V.ref e3, V.ref e5]) ne4
    have g4 : upd W5 e4 (.lst [V.ref b5, V.ref e2, V.ref e3, V.ref e5]) e4 = some (.lst [V.ref b5, V.ref e2, V.ref e3, V.ref e5]) := upd_same
    generalize upd W5 e4 (.lst [V.ref b5, V.ref e2, V.ref e3, V.ref e5]) = W4 at s4 g4 ⊢
    have s24 := s2.trans (s3.trans (s5.trans s4))
    have B6 := Bf.same s24
    have hall : ∀ v ∈ [V.ref b5, V.ref e2, V.ref e3, V.ref e5], MkTh d W4 v := by
      have h2 := (s3.trans (s5.trans s4)) _ _ g2
      have h3 := (s5.trans s4) _ _ g3
      have h5 := s4 _ _ g5
      intro v mv
      simp only [List.mem_cons, List.not_mem_nil, or_false] at mv
      rcases mv with rfl | rfl | rfl | rfl
      · obtain ⟨x, hx, lx⟩ := r1
        exact ⟨x, hx.same s24, lx⟩
      · exact ⟨_, .lst i2 h2 (taf.same s24), Nat.zero_le _⟩
      · exact ⟨_, .tup (B6.netup h3) h3 .nil, Nat.zero_le _⟩
      · obtain ⟨e, u, v⟩ := (taf.same s24).cut none (some (-1))
        refine ⟨_, .tup (B6.netup h5) h5 u, ?_⟩
        rw [List.length_map] at v
        show e.length ≤ 63
        omega
    refine ⟨_, rfl, _, rfl, d, c, 4, rfl, B6, by decide, by decide, fun kx Hb kx0 kx1 Bb kb => ?_⟩
    obtain ⟨v, ev, mv⟩ := at_any (xs := [V.ref b5, V.ref e2, V.ref e3, V.ref e5]) kx0 kx1
    obtain ⟨x, hx, lx⟩ := hall v mv
    exact ⟨e4, _, _, _, rfl, rfl, SqL.of (B6.lstk kb g4), ev, q _ _ ⟨x, hx.mono (.of_but kb), lx⟩ Bb ((k1f.same s24).trans kb)⟩
end

end My
namespace My
open PySem L2
/-! ### the law -/
mutual
inductive ThD : Th → PyData → Prop
  | non : ThD .non .none
  | bl (b : Bool) : ThD (.bl b) (.bool b)
  | int (i : Int) : ThD (.int i) (.int i)
  | str (x : Str) : ThD (.str x) (.str x)
  | lst {ds : List Th} {ps : List PyData} (k : ThDs ds ps) : ThD (.lst ds) (.list ps)
  | tup {ds : List Th} {ps : List PyData} (k : ThDs ds ps) : ThD (.tup ds) (.tuple ps)
inductive ThDs : List Th → List PyData → Prop
  | nil : ThDs [] []
  | cons {d : Th} {p : PyData} {ds : List Th} {ps : List PyData} : ThD d p → ThDs ds ps → ThDs (d :: ds) (p :: ps)
end
mutual
theorem ThD.dp {K : PySem.W.Frag} {N : Addr → Prop} {H : Hp} : ∀ {d : Th} {p : PyData}, ThD d p → ∀ {v : V}, ThV N H v d → Dp K H v p
  | _, _, .non, _, .non => .non
  | _, _, .bl b, _, .bl _ => .bl b
  | _, _, .int i, _, .int _ => .int i
  | _, _, .str x, _, .str _ => .str x
  | _, _, .lst k, _, .lst _ h al => .lst (SqL.of h) (ThDs.dp k al)
  | _, _, .tup k, _, .tup _ h al => .tup (SqT.of h) (ThDs.dp k al)
theorem ThDs.dp {K : PySem.W.Frag} {N : Addr → Prop} {H : Hp} : ∀ {ds : List Th} {ps : List PyData}, ThDs ds ps → ∀ {vs : List V}, ThAll N H vs ds → DpAll K H vs ps
  | _, _, .nil, _, .nil => .nil
  | _, _, .cons a k, _, .cons b l => .cons (ThD.dp a b) (ThDs.dp k l)
end
/-- a thing that is no forest -/
def Odd (H : Hp) (v : V) : Prop := ∃ d, ThV (fun _ => True) H v d ∧ forestT d = false ∧ smallT d ∧ ((∃ p, ThD d p ∧ SeqAt.shaped p = true ∧ ([PyData.str "a", PyData.str "h"].any fun z => PyData.eqv z p) = kindT d) ∨ d = .dct)
theorem Odd.kp {H H' : Hp} {v : V} (k : Kp H H') (h : Odd H v) : Odd H' v := by
  obtain ⟨d, h1, h2⟩ := h
  exact ⟨d, h1.kp k, h2⟩
theorem odds_nil {H : Hp} : ∀ v ∈ ([] : List V), Odd H v := fun _ m => nomatch m
theorem odds_cons {H : Hp} {v : V} {vs : List V} (h : Odd H v) (k : ∀ v ∈ vs, Odd H v) : ∀ u ∈ v :: vs, Odd H u := fun u m => by
  rcases List.mem_cons.mp m with rfl | m
  · exact h
  · exact k u m
theorem SqL.kpk {K : PySem.W.Frag} {H H' : Hp} {a : Addr} {xs : List V} (k : Kp H H') (h : SqL K H a xs) : SqL K H' a xs := by
  rcases h with h | h
  · rcases h with h | ⟨o, h⟩
    · exact .inl (.inl (k _ _ h (by intro ps z; cases z)))
    · exact .inl (.inr ⟨o, k _ _ h (by intro ps z; cases z)⟩)
  · exact .inr h
theorem small_two {x y : Th} (h : lenT x ≤ 63) : smallT (.tup [x, y]) := by
  cases x with
  | tup ds =>
    have h : ds.length ≤ 63 := h
    show ds.length ≤ 100
    omega
  | _ => exact True.intro
theorem smallL_two {x y : Th} (h : lenT x ≤ 63) (g : lenT y ≤ 63) : smallL (.tup [x, y]) := fun ps ts e => by
  cases e
  exact ⟨h, g⟩
theorem ties_lt {pts : List (Int × Str)} {ts : Ties} (h : FrOk pts ts) (le : ∀ t ∈ ts, t.1 ≤ t.2) (up : ts.Pairwise leT) : (∀ t ∈ ts, t.1 < t.2) ∧ ts.Pairwise ltT := by
  refine ⟨fun u m => ?_, (up.and h.nd).imp fun {a b} z => ?_⟩
  · have l := le u m
    by_cases e : u.1 = u.2
    · exact absurd (show Rch _ u.1 u.2 from e ▸ .refl) (h.tree u m)
    · omega
  · obtain ⟨z1, z2⟩ := z
    obtain ⟨a1, a2⟩ := a
    obtain ⟨b1, b2⟩ := b
    rcases z1 with z1 | ⟨z1, z3⟩
    · exact .inl z1
    · refine .inr ⟨z1, ?_⟩
      dsimp only at z1 z3 ⊢
      by_cases e : a2 = b2
      · subst z1 e
        exact absurd rfl z2
      · omega
theorem pts_ok : ∀ {pts : List (Int × Str)}, (∀ p ∈ pts, PtOk p) → (pts.map ptTh).all pointT = true
  | [], _ => rfl
  | p :: r, h => by
    rw [List.map_cons, List.all_cons, pts_ok fun q m => h q (List.mem_cons_of_mem _ m)]
    have z := (h p List.mem_cons_self).2.2
    show ((true && decide (p.2 ∈ kinds)) && true) = true
    rw [decide_eq_true z]
    rfl
theorem ties_ok {m : Int} : ∀ {ts : Ties}, (∀ t ∈ ts, 0 ≤ t.1 ∧ t.1 < t.2 ∧ t.2 < m) → (ts.map tieTh).all (tieT m) = true
  | [], _ => rfl
  | t :: r, h => by
    rw [List.map_cons, List.all_cons, ties_ok fun q m => h q (List.mem_cons_of_mem _ m)]
    obtain ⟨z1, z2, z3⟩ := h t List.mem_cons_self
    show ((decide (0 ≤ t.1) && (decide (t.1 < t.2) && decide (t.2 < m))) && true) = true
    rw [decide_eq_true z1, decide_eq_true z2, decide_eq_true z3]
    rfl
theorem forest_true {pts : List (Int × Str)} {ts : Ties} (h : FrOk pts ts) (le : ∀ t ∈ ts, t.1 ≤ t.2) (up : ts.Pairwise leT) : forestT (.tup [.tup (pts.map ptTh), .tup (ts.map tieTh)]) = true := by
  obtain ⟨l1, l2⟩ := ties_lt h le up
  have pos := h.pos
  show ((!(pts.map ptTh).isEmpty && (pts.map ptTh).all pointT) && ((ts.map tieTh).all (tieT ((pts.map ptTh).length : Nat)) && (decide (((ts.map tieTh).map pairT).Pairwise ltT) && !ringB ((ts.map tieTh).map pairT)))) = true
  have e : (ts.map tieTh).map pairT = ts := by
    rw [List.map_map]
    exact List.map_id _
  rw [e, pts_ok h.pok, List.length_map, ties_ok fun t m => ?_, decide_eq_true l2, ringB_f (tree_noring h.tree h.nd)]
  · cases pts with
    | nil => exact absurd pos (Nat.lt_irrefl _)
    | cons _ _ => rfl
  · have := h.tok t m
    have := l1 t m
    omega
section
variable {P : Program} {w : World} {K : PySem.W.Frag} {mg : Str → Option Value} {base : Heap}
theorem run_law (T : Top K mg) {s : Shared} {H : Hp} {a : Addr} {ns : List Int} (TA : GxR.TabB base mg T.cA T.PA) (TR : GxR.TabB base mg T.cR T.PR) (TY : GxR.TabB base mg T.cY T.PY) (TZ : GxR.TabB base mg T.cZ T.PZ) (e0 : Env0 P w K mg base callerA [] s H) (hA : H T.PA = some (.tbl #[])) (hR : H T.PR = some (.tbl #[])) (hY : H T.PY = some (.tbl #[])) (hZ : H T.PZ = some (.tbl #[])) (hS : SqL K H a (ns.map V.int)) (hlen : ns.length ≤ 63) (room : Room 8 callerA) (bind : ∀ (s : Shared) (u : Value), BindsTo s T.d_law ⟨[u], []⟩ [("_law_script", u)]) :
    codeAny (model P w) callerA (.call (.ref T.a_law) ⟨[.ref a], []⟩) (CR CX0 [] P w H s (fun v _ => v = .bl true) E0) s := by
  have G_Lbegin : FnOk P w K mg base CX0 1 _ _ _ _ := ok_begin T
  have G_Lnext : FnOk P w K mg base CX0 1 _ _ _ _ := ok_nextD T
  have G_Lforest : FnOk P w K mg base CX0 3 _ _ _ _ := ok_forest T
  have G_iskind : FnOk P w K mg base CX0 1 _ _ _ _ := ok_kind T
  have G_isforest : FnOk P w K mg base CX0 7 _ _ _ _ := ok_forestT T TA TR TY TZ
  have G_Lisforest : FnOk P w K mg base CX0 2 _ _ _ _ := ok_lforest T
  have G_Lotherties : FnOk P w K mg base CX0 2 _ _ _ _ := ok_otherties T
  have G_Lotherpoints : FnOk P w K mg base CX0 2 _ _ _ _ := ok_otherpoints T
  have tb0 := tbs0 T hA hR hY hZ
  obtain ⟨oc, od, kV, doc, pm, an, cdv, ct, osl, ed, lk, hcd⟩ := T.F_law.ex
  rw [ed] at lk
  refine LamX.run_ofS (k := 7) (N := ["_law_script", "_law_draws", "_law_odd", "_law_thing", "_law_turn", "_law_points", "_law_ties", "_law_again", "_law_other", "_law_found"]) (ps := ["_law_script"]) (us := [.ref a]) (vs := [.ref a]) lk hcd sc_law room e0 (by rw [← ed]; exact bind s _) (.cons rfl .nil) rfl fun hr => ?_
  refine ⟨_, PSs.nox (pss_cons (ps_set (i := 1) sc_law.nd rfl (.inl rfl) (pe_call G_Lbegin (hr.mono (by decide)) (by rfl) T.g_Lbegin T.F_Lbegin.kp T.b_Lbegin .nil pass0 (pa_cons (pv 0) pa_nil)))
      (pss_cons (ps_set (i := 2) sc_law.nd rfl (.inl rfl) (pe_lst (pa_cons pe_non (pa_cons pe_bl (pa_cons pe_int (pa_cons pe_str (pa_cons (pe_tup pa_nil) (pa_cons (pe_lst pa_nil) (pa_cons pe_dnewK (pa_cons (pe_tup (pa_cons (pe_tup pa_nil) (pa_cons (pe_tup pa_nil) pa_nil))) (pa_cons (pe_tup (pa_cons (pe_tup (pa_cons (pe_tup (pa_cons pe_int (pa_cons pe_str pa_nil))) pa_nil)) pa_nil)) (pa_cons (pe_tup (pa_cons (pe_tup (pa_cons (pe_tup (pa_cons pe_int (pa_cons pe_str pa_nil))) pa_nil)) (pa_cons (pe_tup pa_nil) (pa_cons (pe_tup pa_nil) pa_nil)))) (pa_cons (pe_lst (pa_cons (pe_tup (pa_cons (pe_tup (pa_cons pe_int (pa_cons pe_str pa_nil))) pa_nil)) (pa_cons (pe_tup pa_nil) pa_nil))) (pa_cons pe_str pa_nil))))))))))))))
      (pss_cons (ps_for PassesOwn.never rfl (pi_list (pe_op op_cat (pv 2) (pe_lst (pa_cons pe_str (pa_cons pe_str (pa_cons pe_str (pa_cons pe_str (pa_cons (pe_tup (pa_cons pe_str pa_nil)) (pa_cons (pe_lst (pa_cons pe_str pa_nil)) (pa_cons pe_str (pa_cons pe_str pa_nil))))))))))) (pg_name (i := 3) sc_law.nd rfl (.inl rfl)) (pss_cons (ps_if (PW.pt (pw_or (pt_cmpR op_isnot_bl (pe_call G_isforest hr (by rfl) T.g_isforest T.F_isforest.kp T.b_isforest .nil pass0 (pa_cons (pv 3) pa_nil)) pe_bl (nomark _)) (pw_or1 (pt_not (pt_val (pe_callB call_isi (by rfl) T.m_isinstance (by decide +kernel) (pa_cons (pe_call G_iskind (hr.mono (by decide)) (by rfl) T.g_iskind T.F_iskind.kp T.b_iskind .nil pass0 (pa_cons (pv 3) pa_nil)) (pa_cons (pe_bltn (v := .ty "bool") (by rfl) T.m_bool (by decide +kernel) rfl) pa_nil)))))))) (pss_one (ps_ret pe_bl)) pss_nil)
      (pss_one (ps_if (pt_cmpR op_ne (pe_call G_iskind (hr.mono (by decide)) (by rfl) T.g_iskind T.F_iskind.kp T.b_iskind .nil pass0 (pa_cons (pv 3) pa_nil)) (pe_cmpR (op_inX (u65 hr)) (pv 3) (pe_tup (pa_cons pe_str (pa_cons pe_str pa_nil))) (by rfl)) (nomark _)) (pss_one (ps_ret pe_bl)) pss_nil))))
      (pss_cons (ps_for PassesOwn.never rfl (pi_range1 (by rfl) T.m_range (pa_cons (pe_op op_add pe_int (pe_callB call_len_seq (by rfl) T.m_len PySem.boot_len (pa_cons (pe_slice sl_list (pv 0) po_none (po_some pe_int)) pa_nil))) pa_nil)) (pg_name (i := 4) sc_law.nd rfl (.inl rfl)) (pss_cons (ps_asg (pe_call G_Lforest (hr.mono (by decide)) (by rfl) T.g_Lforest T.F_Lforest.kp T.b_Lforest .nil pass0 (pa_cons (pv 1) (pa_cons pe_int pa_nil))) (pg_tup rfl (pgs_cons (pg_name (i := 5) sc_law.nd rfl (.inl rfl)) (pgs_cons (pg_name (i := 6) sc_law.nd rfl (.inl rfl)) pgs_nil))))
      (pss_cons (ps_if (pt_cmpR op_isnot_bl (pe_call G_isforest hr (by rfl) T.g_isforest T.F_isforest.kp T.b_isforest .nil pass0 (pa_cons (pe_tup (pa_cons (pv 5) (pa_cons (pv 6) pa_nil))) pa_nil)) pe_bl (nomark _)) (pss_one (ps_ret pe_bl)) pss_nil)
      (pss_one (ps_for PassesOwn.never rfl (pi_range1 (by rfl) T.m_range (pa_cons pe_int pa_nil)) (pg_name (i := 7) sc_law.nd rfl (.inl rfl)) (pss_cons (ps_set (i := 8) sc_law.nd rfl (.inl rfl) (pe_tup (pa_cons (pv 5) (pa_cons (pe_call G_Lotherties (hr.mono (by decide)) (by rfl) T.g_Lotherties T.F_Lotherties.kp T.b_Lotherties .nil pass0 (pa_cons (pv 1) (pa_cons (pe_callB call_len_seq (by rfl) T.m_len PySem.boot_len (pa_cons (pv 5) pa_nil)) (pa_cons (pv 6) pa_nil)))) pa_nil))))
      (pss_cons (ps_mid (ps_if (pt_cmpR op_eq (pe_call G_Lnext (hr.mono (by decide)) (by rfl) T.g_Lnext T.F_Lnext.kp T.b_Lnext .nil pass0 (pa_cons (pv 1) (pa_cons pe_int pa_nil))) pe_int (nomark _)) (pss_one (ps_set (i := 8) sc_law.nd rfl (.inl rfl) (pe_tup (pa_cons (pe_call G_Lotherpoints (hr.mono (by decide)) (by rfl) T.g_Lotherpoints T.F_Lotherpoints.kp T.b_Lotherpoints .nil pass0 (pa_cons (pv 1) (pa_cons (pv 5) pa_nil))) (pa_cons (pv 6) pa_nil))))) pss_nil))
      (pss_cons (ps_set (i := 9) sc_law.nd rfl (.inl rfl) (pe_call G_isforest hr (by rfl) T.g_isforest T.F_isforest.kp T.b_isforest .nil pass0 (pa_cons (pv 8) pa_nil)))
      (pss_one (ps_if (PW.pt (pw_or (pt_not (pt_val (pe_callB call_isi (by rfl) T.m_isinstance (by decide +kernel) (pa_cons (pv 9) (pa_cons (pe_bltn (v := .ty "bool") (by rfl) T.m_bool (by decide +kernel) rfl) pa_nil))))) (pw_or1 (pt_cmpR op_ne (pv 9) (pe_call G_Lisforest (hr.mono (by decide)) (by rfl) T.g_Lisforest T.F_Lisforest.kp T.b_Lisforest .nil pass0 (pa_cons (pv 8) pa_nil)) (nomark _))))) (pss_one (ps_ret pe_bl)) pss_nil))))))))))
      (pss_one (ps_ret pe_bl)))))), ?_⟩
  refine ⟨_, rfl, a, ns, rfl, hS, fun d c ms H1 s1 nd D1 => ?_⟩
  have hS1 : SqL K H1 a (ns.map V.int) := s1.seq hS
  have B1 : DrAt H1 d c := ⟨ms, D1⟩
  have tb1 := tb0.same s1
  clear hS tb0 s1 D1 hA hR hY hZ e0
  refine ⟨(by show 0 ≤ sizeLine; decide), fun o1 no1 => ?_⟩
  have so1 := same_new (o := .tup ([] : List V)) no1
  have go1 : upd H1 o1 (.tup ([] : List V)) o1 = some (.tup ([] : List V)) := upd_same
  generalize upd H1 o1 (.tup ([] : List V)) = W1 at so1 go1 ⊢
  refine ⟨(by show 0 ≤ sizeLine; decide), fun o2 no2 => ?_⟩
  have so2 := same_new (o := .lst ([] : List V)) no2
  have go2 : upd W1 o2 (.lst ([] : List V)) o2 = some (.lst ([] : List V)) := upd_same
  generalize upd W1 o2 (.lst ([] : List V)) = W2 at so2 go2 ⊢
  refine fun o3 no3 => ?_
  have so3 := same_new (o := .dK []) no3
  have go3 : upd W2 o3 (.dK []) o3 = some (.dK []) := upd_same
  generalize upd W2 o3 (.dK []) = W3 at so3 go3 ⊢
  refine ⟨(by show 0 ≤ sizeLine; decide), fun o4 no4 => ?_⟩
  have so4 := same_new (o := .tup ([] : List V)) no4
  have go4 : upd W3 o4 (.tup ([] : List V)) o4 = some (.tup ([] : List V)) := upd_same
  generalize upd W3 o4 (.tup ([] : List V)) = W4 at so4 go4 ⊢
  refine ⟨(by show 0 ≤ sizeLine; decide), fun o5 no5 => ?_⟩
  have so5 := same_new (o := .tup ([] : List V)) no5
  have go5 : upd W4 o5 (.tup ([] : List V)) o5 = some (.tup ([] : List V)) := upd_same
  generalize upd W4 o5 (.tup ([] : List V)) = W5 at so5 go5 ⊢
  refine ⟨(by show 2 ≤ sizeLine; decide), fun o6 no6 => ?_⟩
  have so6 := same_new (o := .tup [V.ref o4, V.ref o5]) no6
  have go6 : upd W5 o6 (.tup [V.ref o4, V.ref o5]) o6 = some (.tup [V.ref o4, V.ref o5]) := upd_same
  generalize upd W5 o6 (.tup [V.ref o4, V.ref o5]) = W6 at so6 go6 ⊢
  refine ⟨(by show 2 ≤ sizeLine; decide), fun o7 no7 => ?_⟩
  have so7 := same_new (o := .tup [V.int 1, V.str "a"]) no7
  have go7 : upd W6 o7 (.tup [V.int 1, V.str "a"]) o7 = some (.tup [V.int 1, V.str "a"]) := upd_same
  generalize upd W6 o7 (.tup [V.int 1, V.str "a"]) = W7 at so7 go7 ⊢
  refine ⟨(by show 1 ≤ sizeLine; decide), fun o8 no8 => ?_⟩
  have so8 := same_new (o := .tup [V.ref o7]) no8
  have go8 : upd W7 o8 (.tup [V.ref o7]) o8 = some (.tup [V.ref o7]) := upd_same
  generalize upd W7 o8 (.tup [V.ref o7]) = W8 at so8 go8 ⊢
  refine ⟨(by show 1 ≤ sizeLine; decide), fun o9 no9 => ?_⟩
  have so9 := same_new (o := .tup [V.ref o8]) no9
  have go9 : upd W8 o9 (.tup [V.ref o8]) o9 = some (.tup [V.ref o8]) := upd_same
  generalize upd W8 o9 (.tup [V.ref o8]) = W9 at so9 go9 ⊢
  refine ⟨(by show 2 ≤ sizeLine; decide), fun p1 np1 => ?_⟩
  have sp1 := same_new (o := .tup [V.int 1, V.str "a"]) np1
  have gp1 : upd W9 p1 (.tup [V.int 1, V.str "a"]) p1 = some (.tup [V.int 1, V.str "a"]) := upd_same
  generalize upd W9 p1 (.tup [V.int 1, V.str "a"]) = W10 at sp1 gp1 ⊢
  refine ⟨(by show 1 ≤ sizeLine; decide), fun p2 np2 => ?_⟩
  have sp2 := same_new (o := .tup [V.ref p1]) np2
  have gp2 : upd W10 p2 (.tup [V.ref p1]) p2 = some (.tup [V.ref p1]) := upd_same
  generalize upd W10 p2 (.tup [V.ref p1]) = W11 at sp2 gp2 ⊢
  refine ⟨(by show 0 ≤ sizeLine; decide), fun p3 np3 => ?_⟩
  have sp3 := same_new (o := .tup ([] : List V)) np3
  have gp3 : upd W11 p3 (.tup ([] : List V)) p3 = some (.tup ([] : List V)) := upd_same
  generalize upd W11 p3 (.tup ([] : List V)) = W12 at sp3 gp3 ⊢
  refine ⟨(by show 0 ≤ sizeLine; decide), fun p4 np4 => ?_⟩
  have sp4 := same_new (o := .tup ([] : List V)) np4
  have gp4 : upd W12 p4 (.tup ([] : List V)) p4 = some (.tup ([] : List V)) := upd_same
  generalize upd W12 p4 (.tup ([] : List V)) = W13 at sp4 gp4 ⊢
  refine ⟨(by show 3 ≤ sizeLine; decide), fun p5 np5 => ?_⟩
  have sp5 := same_new (o := .tup [V.ref p2, V.ref p3, V.ref p4]) np5
  have gp5 : upd W13 p5 (.tup [V.ref p2, V.ref p3, V.ref p4]) p5 = some (.tup [V.ref p2, V.ref p3, V.ref p4]) := upd_same
  generalize upd W13 p5 (.tup [V.ref p2, V.ref p3, V.ref p4]) = W14 at sp5 gp5 ⊢
  refine ⟨(by show 2 ≤ sizeLine; decide), fun p6 np6 => ?_⟩
  have sp6 := same_new (o := .tup [V.int 1, V.str "a"]) np6
  have gp6 : upd W14 p6 (.tup [V.int 1, V.str "a"]) p6 = some (.tup [V.int 1, V.str "a"]) := upd_same
  generalize upd W14 p6 (.tup [V.int 1, V.str "a"]) = W15 at sp6 gp6 ⊢
  refine ⟨(by show 1 ≤ sizeLine; decide), fun p7 np7 => ?_⟩
  have sp7 := same_new (o := .tup [V.ref p6]) np7
  have gp7 : upd W15 p7 (.tup [V.ref p6]) p7 = some (.tup [V.ref p6]) := upd_same
  generalize upd W15 p7 (.tup [V.ref p6]) = W16 at sp7 gp7 ⊢
  refine ⟨(by show 0 ≤ sizeLine; decide), fun p8 np8 => ?_⟩
  have sp8 := same_new (o := .tup ([] : List V)) np8
  have gp8 : upd W16 p8 (.tup ([] : List V)) p8 = some (.tup ([] : List V)) := upd_same
  generalize upd W16 p8 (.tup ([] : List V)) = W17 at sp8 gp8 ⊢
  refine ⟨(by show 2 ≤ sizeLine; decide), fun p9 np9 => ?_⟩
  have sp9 := same_new (o := .lst [V.ref p7, V.ref p8]) np9
  have gp9 : upd W17 p9 (.lst [V.ref p7, V.ref p8]) p9 = some (.lst [V.ref p7, V.ref p8]) := upd_same
  generalize upd W17 p9 (.lst [V.ref p7, V.ref p8]) = W18 at sp9 gp9 ⊢
  refine ⟨(by show 12 ≤ sizeLine; decide), fun l1 nl1 => ?_⟩
  have sl1 := same_new (o := .lst [V.non, V.bl true, V.int 0, V.str "", V.ref o1, V.ref o2, V.ref o3, V.ref o6, V.ref o9, V.ref p5, V.ref p9, V.str "a"]) nl1
  have gl1 : upd W18 l1 (.lst [V.non, V.bl true, V.int 0, V.str "", V.ref o1, V.ref o2, V.ref o3, V.ref o6, V.ref o9, V.ref p5, V.ref p9, V.str "a"]) l1 = some (.lst [V.non, V.bl true, V.int 0, V.str "", V.ref o1, V.ref o2, V.ref o3, V.ref o6, V.ref o9, V.ref p5, V.ref p9, V.str "a"]) := upd_same
  generalize upd W18 l1 (.lst [V.non, V.bl true, V.int 0, V.str "", V.ref o1, V.ref o2, V.ref o3, V.ref o6, V.ref o9, V.ref p5, V.ref p9, V.str "a"]) = W19 at sl1 gl1 ⊢
  have zl1 : Same W19 W19 := fun _ _ e => e
  have zp9 := sl1.trans zl1
  have zp8 := sp9.trans zp9
  have zp7 := sp8.trans zp8
  have zp6 := sp7.trans zp7
  have zp5 := sp6.trans zp6
  have zp4 := sp5.trans zp5
  have zp3 := sp4.trans zp4
  have zp2 := sp3.trans zp3
  have zp1 := sp2.trans zp2
  have zo9 := sp1.trans zp1
  have zo8 := so9.trans zo9
  have zo7 := so8.trans zo8
  have zo6 := so7.trans zo7
  have zo5 := so6.trans zo6
  have zo4 := so5.trans zo5
  have zo3 := so4.trans zo4
  have zo2 := so3.trans zo3
  have zo1 := so2.trans zo2
  have m1 : ∀ v ∈ [V.non, V.bl true, V.int 0, V.str "", V.ref o1, V.ref o2, V.ref o3, V.ref o6, V.ref o9, V.ref p5, V.ref p9, V.str "a"], Odd W19 v := by
    have r0 : Odd W19 (V.non) := ⟨_, .non, rfl, trivial, .inl ⟨_, .non, by decide +kernel, by decide +kernel⟩⟩
    have r1 : Odd W19 (V.bl true) := ⟨_, (.bl _), rfl, trivial, .inl ⟨_, (.bl _), by decide +kernel, by decide +kernel⟩⟩
    have r2 : Odd W19 (V.int 0) := ⟨_, (.int _), rfl, trivial, .inl ⟨_, (.int _), by decide +kernel, by decide +kernel⟩⟩
    have r3 : Odd W19 (V.str "") := ⟨_, (.str _), rfl, trivial, .inl ⟨_, (.str _), by decide +kernel, by decide +kernel⟩⟩
    have r4 : Odd W19 (V.ref o1) := ⟨_, (.tup trivial (zo1 _ _ go1) .nil), rfl, trivial, .inl ⟨_, (.tup .nil), by decide +kernel, by decide +kernel⟩⟩
    have r5 : Odd W19 (V.ref o2) := ⟨_, (.lst trivial (zo2 _ _ go2) .nil), rfl, trivial, .inl ⟨_, (.lst .nil), by decide +kernel, by decide +kernel⟩⟩
    have r6 : Odd W19 (V.ref o3) := ⟨_, (.dct trivial (zo3 _ _ go3)), rfl, trivial, .inr rfl⟩
    have r7 : Odd W19 (V.ref o6) := ⟨_, (.tup trivial (zo6 _ _ go6) (.cons (.tup trivial (zo4 _ _ go4) .nil) (.cons (.tup trivial (zo5 _ _ go5) .nil) .nil))), rfl, (by show (_ : Nat) ≤ 100; decide), .inl ⟨_, (.tup (.cons (.tup .nil) (.cons (.tup .nil) .nil))), by decide +kernel, by decide +kernel⟩⟩
    have r8 : Odd W19 (V.ref o9) := ⟨_, (.tup trivial (zo9 _ _ go9) (.cons (.tup trivial (zo8 _ _ go8) (.cons (.tup trivial (zo7 _ _ go7) (.cons (.int _) (.cons (.str _) .nil))) .nil)) .nil)), rfl, (by show (_ : Nat) ≤ 100; decide), .inl ⟨_, (.tup (.cons (.tup (.cons (.tup (.cons (.int _) (.cons (.str _) .nil))) .nil)) .nil)), by decide +kernel, by decide +kernel⟩⟩
    have r9 : Odd W19 (V.ref p5) := ⟨_, (.tup trivial (zp5 _ _ gp5) (.cons (.tup trivial (zp2 _ _ gp2) (.cons (.tup trivial (zp1 _ _ gp1) (.cons (.int _) (.cons (.str _) .nil))) .nil)) (.cons (.tup trivial (zp3 _ _ gp3) .nil) (.cons (.tup trivial (zp4 _ _ gp4) .nil) .nil)))), rfl, (by show (_ : Nat) ≤ 100; decide), .inl ⟨_, (.tup (.cons (.tup (.cons (.tup (.cons (.int _) (.cons (.str _) .nil))) .nil)) (.cons (.tup .nil) (.cons (.tup .nil) .nil)))), by decide +kernel, by decide +kernel⟩⟩
    have r10 : Odd W19 (V.ref p9) := ⟨_, (.lst trivial (zp9 _ _ gp9) (.cons (.tup trivial (zp7 _ _ gp7) (.cons (.tup trivial (zp6 _ _ gp6) (.cons (.int _) (.cons (.str _) .nil))) .nil)) (.cons (.tup trivial (zp8 _ _ gp8) .nil) .nil))), rfl, trivial, .inl ⟨_, (.lst (.cons (.tup (.cons (.tup (.cons (.int _) (.cons (.str _) .nil))) .nil)) (.cons (.tup .nil) .nil))), by decide +kernel, by decide +kernel⟩⟩
    have r11 : Odd W19 (V.str "a") := ⟨_, (.str _), rfl, trivial, .inl ⟨_, (.str _), by decide +kernel, by decide +kernel⟩⟩
    exact odds_cons r0 (odds_cons r1 (odds_cons r2 (odds_cons r3 (odds_cons r4 (odds_cons r5 (odds_cons r6 (odds_cons r7 (odds_cons r8 (odds_cons r9 (odds_cons r10 (odds_cons r11 (odds_nil))))))))))))
  have f1 : Same H1 W19 := so1.trans zo1
  clear so1 zo1 no1 so2 zo2 no2 so3 zo3 no3 so4 zo4 no4 so5 zo5 no5 so6 zo6 no6 so7 zo7 no7 so8 zo8 no8 so9 zo9 no9 sp1 zp1 np1 sp2 zp2 np2 sp3 zp3 np3 sp4 zp4 np4 sp5 zp5 np5 sp6 zp6 np6 sp7 zp7 np7 sp8 zp8 np8 sp9 zp9 np9 sl1 zl1 nl1 go1 go2 go3 go4 go5 go6 go7 go8 go9 gp1 gp2 gp3 gp4 gp5 gp6 gp7 gp8 gp9
  generalize hE1 : [V.non, V.bl true, V.int 0, V.str "", V.ref o1, V.ref o2, V.ref o3, V.ref o6, V.ref o9, V.ref p5, V.ref p9, V.str "a"] = E1 at m1 gl1
  have le1 : E1.length = 12 := by rw [← hE1]; rfl
  clear hE1
  refine ⟨_, rfl, ?_⟩
  refine ⟨(by show 1 ≤ sizeLine; decide), fun q1 nq1 => ?_⟩
  have sq1 := same_new (o := .tup [V.str "a"]) nq1
  have gq1 : upd W19 q1 (.tup [V.str "a"]) q1 = some (.tup [V.str "a"]) := upd_same
  generalize upd W19 q1 (.tup [V.str "a"]) = W20 at sq1 gq1 ⊢
  refine ⟨(by show 1 ≤ sizeLine; decide), fun q2 nq2 => ?_⟩
  have sq2 := same_new (o := .lst [V.str "a"]) nq2
  have gq2 : upd W20 q2 (.lst [V.str "a"]) q2 = some (.lst [V.str "a"]) := upd_same
  generalize upd W20 q2 (.lst [V.str "a"]) = W21 at sq2 gq2 ⊢
  refine ⟨(by show 8 ≤ sizeLine; decide), fun l2 nl2 => ?_⟩
  have sl2 := same_new (o := .lst [V.str "h", V.str "i", V.str "A", V.str "ab", V.ref q1, V.ref q2, V.str "\n", V.str " "]) nl2
  have gl2 : upd W21 l2 (.lst [V.str "h", V.str "i", V.str "A", V.str "ab", V.ref q1, V.ref q2, V.str "\n", V.str " "]) l2 = some (.lst [V.str "h", V.str "i", V.str "A", V.str "ab", V.ref q1, V.ref q2, V.str "\n", V.str " "]) := upd_same
  generalize upd W21 l2 (.lst [V.str "h", V.str "i", V.str "A", V.str "ab", V.ref q1, V.ref q2, V.str "\n", V.str " "]) = W22 at sl2 gl2 ⊢
  have zl2 : Same W22 W22 := fun _ _ e => e
  have zq2 := sl2.trans zl2
  have zq1 := sq2.trans zq2
  have m2 : ∀ v ∈ [V.str "h", V.str "i", V.str "A", V.str "ab", V.ref q1, V.ref q2, V.str "\n", V.str " "], Odd W22 v := by
    have r0 : Odd W22 (V.str "h") := ⟨_, (.str _), rfl, trivial, .inl ⟨_, (.str _), by decide +kernel, by decide +kernel⟩⟩
    have r1 : Odd W22 (V.str "i") := ⟨_, (.str _), rfl, trivial, .inl ⟨_, (.str _), by decide +kernel, by decide +kernel⟩⟩
    have r2 : Odd W22 (V.str "A") := ⟨_, (.str _), rfl, trivial, .inl ⟨_, (.str _), by decide +kernel, by decide +kernel⟩⟩
    have r3 : Odd W22 (V.str "ab") := ⟨_, (.str _), rfl, trivial, .inl ⟨_, (.str _), by decide +kernel, by decide +kernel⟩⟩
    have r4 : Odd W22 (V.ref q1) := ⟨_, (.tup trivial (zq1 _ _ gq1) (.cons (.str _) .nil)), rfl, trivial, .inl ⟨_, (.tup (.cons (.str _) .nil)), by decide +kernel, by decide +kernel⟩⟩
    have r5 : Odd W22 (V.ref q2) := ⟨_, (.lst trivial (zq2 _ _ gq2) (.cons (.str _) .nil)), rfl, trivial, .inl ⟨_, (.lst (.cons (.str _) .nil)), by decide +kernel, by decide +kernel⟩⟩
    have r6 : Odd W22 (V.str "\n") := ⟨_, (.str _), rfl, trivial, .inl ⟨_, (.str _), by decide +kernel, by decide +kernel⟩⟩
    have r7 : Odd W22 (V.str " ") := ⟨_, (.str _), rfl, trivial, .inl ⟨_, (.str _), by decide +kernel, by decide +kernel⟩⟩
    exact odds_cons r0 (odds_cons r1 (odds_cons r2 (odds_cons r3 (odds_cons r4 (odds_cons r5 (odds_cons r6 (odds_cons r7 (odds_nil))))))))
  have f2 : Same W19 W22 := sq1.trans zq1
  have gl1 := f2 _ _ gl1
  refine ⟨l1, l2, _, _, rfl, rfl, gl1, gl2, (by rw [le1]; show 12 + 8 ≤ sizeLine; decide), fun L nL => ?_⟩
  have sL := same_new (o := .lst (E1 ++ [V.str "h", V.str "i", V.str "A", V.str "ab", V.ref q1, V.ref q2, V.str "\n", V.str " "])) nL
  have gL : upd W22 L (.lst (E1 ++ [V.str "h", V.str "i", V.str "A", V.str "ab", V.ref q1, V.ref q2, V.str "\n", V.str " "])) L = some (.lst (E1 ++ [V.str "h", V.str "i", V.str "A", V.str "ab", V.ref q1, V.ref q2, V.str "\n", V.str " "])) := upd_same
  have f3 := (f1.trans f2).trans sL
  have mm : ∀ v ∈ E1 ++ [V.str "h", V.str "i", V.str "A", V.str "ab", V.ref q1, V.ref q2, V.str "\n", V.str " "], Odd _ v := fun v m => (((List.mem_append.mp m).elim (fun m => (m1 v m).kp (.of_same f2)) (m2 v)).kp (.of_same sL))
  generalize upd W22 L (.lst (E1 ++ [V.str "h", V.str "i", V.str "A", V.str "ab", V.ref q1, V.ref q2, V.str "\n", V.str " "])) = H2 at sL gL f3 mm ⊢
  generalize E1 ++ [V.str "h", V.str "i", V.str "A", V.str "ab", V.ref q1, V.ref q2, V.str "\n", V.str " "] = odds at gL mm
  have B2 := B1.same f3
  have tb2 := tb1.same f3
  have hS2 : SqL K H2 a (ns.map V.int) := f3.seq hS1
  clear sq1 zq1 nq1 sq2 zq2 nq2 sl2 zl2 nl2 gq1 gq2 gl2 m1 m2 f1 f2 f3 sL nL le1 gl1 hS1 B1 tb1
  refine ⟨L, rfl, ⟨_, SqL.of gL⟩, for_list (xs := odds) (fun i σ H3 => ∃ y3 : Option V, σ = [some (.ref a), some (.ref d), some (.ref l1), y3, none, none, none, none, none, none] ∧ Kp H2 H3 ∧ Tb T.tbs H3) ⟨none, rfl, Kp.refl H2, tb2⟩ (fun i σ H3 _ z => by obtain ⟨_, _, z, _⟩ := z; exact SqL.of (z _ _ gL (by intro ps z; cases z))) ?_ ?_⟩
  · rintro i v σ H3 hv ⟨y3, rfl, k3, tb3⟩
    obtain ⟨x, hx, hf, hs, hi⟩ := (mm v (List.mem_of_getElem? hv)).kp k3
    refine ⟨_, rfl, _, v, x, rfl, hx, hs, tb3, fun H4 k4 tb4 => ?_⟩
    rw [hf]
    have hx4 := hx.kp k4
    refine ⟨false, false, rfl, rfl, _, rfl, iteF ?_⟩
    refine ⟨_, rfl, v, rfl, hx4.any, _, _, _, _, true, rfl, ClsV.ty _, .base (.bl _), kit_ty (by decide +kernel), _, rfl, iteF ?_⟩
    refine ⟨_, rfl, v, rfl, hx4.any, _, rfl, (by show 2 ≤ sizeLine; decide), fun t nt => ?_⟩
    have st := same_new (o := .tup [V.str "a", V.str "h"]) nt
    have gt : upd H4 t (.tup [V.str "a", V.str "h"]) t = some (.tup [V.str "a", V.str "h"]) := upd_same
    generalize upd H4 t (.tup [V.str "a", V.str "h"]) = H5 at st gt ⊢
    have hx5 := hx4.same st
    have fin : ∃ y3 : Option V, [some (V.ref a), some (V.ref d), some (V.ref l1), some v, none, none, none, none, none, none] = [some (V.ref a), some (V.ref d), some (V.ref l1), y3, none, none, none, none, none, none] ∧ Kp H2 H5 ∧ Tb T.tbs H5 := ⟨_, rfl, (k3.trans k4).same st, tb4.same st⟩
    rcases hi with ⟨p, hp, sp, ep⟩ | rfl
    · refine .inl ⟨p, _, hp.dp hx5, .tup (SqT.of gt) (.cons (.str _) (.cons (.str _) .nil)), sp, by decide +kernel, ?_⟩
      rw [ep, ← hx5.kind]
      exact ⟨rfl, _, rfl, iteNS rfl fin⟩
    · cases hx5 with
      | dct n h => exact .inr ⟨_, _, t, ["a", "h"], rfl, rfl, h, SqT.of gt, rfl, _, rfl, iteNS rfl fin⟩
  rintro σ H3 ⟨y3, rfl, k3, tb3⟩
  have B3 := B2.kp k3
  have hS3 := SqL.kpk k3 hS2
  clear mm gL tb2 B2 hS2 k3
  refine ⟨_, rfl, 8, rfl, a, _, rfl, hS3, fun p np => ⟨p, _, rfl, .inl (SqL.of upd_same), _, _, rfl, rfl, _, rfl, by omega, ?_, ?_⟩⟩
  · have z := cutV_length (ns.map V.int) none (some 8)
    rw [List.length_map] at z
    omega
  refine for_range (lo := 0) (n := _) (fun i σ H4 => ∃ y3 y4 y5 y6 y7 y8 y9 : Option V, σ = [some (.ref a), some (.ref d), some (.ref l1), y3, y4, y5, y6, y7, y8, y9] ∧ DrAt H4 d c ∧ Tb T.tbs H4) ⟨y3, none, none, none, none, none, none, rfl, B3.new np, tb3.same (same_new np)⟩ ?_ ?_
  · rintro i σ H4 hi ⟨y3, y4, y5, y6, y7, y8, y9, rfl, B4, tb4⟩
    refine ⟨_, rfl, d, c, 30, rfl, B4, by decide, by decide, fun p a1 a2 xs ys pts ts H5 fok hm le up B5 k5 hp h1 h2 qa pl => ?_⟩
    have tb5 := tb4.but B4 k5
    have lx := qa.length
    have ly := pl.length
    have few : ts.length ≤ 30 := by
      have := fok.tl
      omega
    have pos := fok.pos
    refine ⟨p, _, rfl, SqT.of hp, rfl, _, _, rfl, _, _, rfl, rfl, ?_⟩
    refine ⟨_, rfl, _, rfl, (by show 2 ≤ sizeLine; decide), fun f nf => ?_⟩
    have sf := same_new (o := .tup [V.ref a1, V.ref a2]) nf
    have gf : upd H5 f (.tup [V.ref a1, V.ref a2]) f = some (.tup [V.ref a1, V.ref a2]) := upd_same
    generalize upd H5 f (.tup [V.ref a1, V.ref a2]) = H6 at sf gf ⊢
    have fv : ThV (fun _ => True) H6 (.ref f) (.tup [.tup (pts.map ptTh), .tup (ts.map tieTh)]) := .tup trivial gf (.cons (.tup trivial (sf _ _ h1) ((qa.same sf).th fun _ _ _ => trivial)) (.cons (.tup trivial (sf _ _ h2) ((pl.same sf).th fun _ _ _ => trivial)) .nil))
    refine ⟨_, .ref f, _, rfl, fv, small_two (by show (pts.map ptTh).length ≤ 63; rw [List.length_map]; omega), tb5.same sf, fun H7 k7 tb7 => ?_⟩
    rw [forest_true fok le up]
    refine ⟨true, true, rfl, rfl, _, rfl, iteNS rfl ?_⟩
    have k57 : Kp H5 H7 := (Kp.of_same sf).trans k7
    have B7 := B5.kp k57
    have h17 := k57.tup h1
    have h27 := k57.tup h2
    have qa7 : QAll H7 xs pts := qa.mono fun _ _ _ e => k57.tup e
    have pl7 := pl.kp k57
    clear fv qa pl h1 h2 hp gf sf nf k7 k57 tb5 B5
    refine ⟨6, rfl, by decide, by decide, for_range (lo := 0) (n := 6) (fun i σ H8 => ∃ y3 y4 y7 y8 y9 : Option V, σ = [some (.ref a), some (.ref d), some (.ref l1), y3, y4, some (.ref a1), some (.ref a2), y7, y8, y9] ∧ DrAt H8 d c ∧ Tb T.tbs H8 ∧ H8 a1 = some (.tup xs) ∧ H8 a2 = some (.tup ys) ∧ QAll H8 xs pts ∧ PAll H8 ys ts) ⟨_, _, _, _, _, rfl, B7, tb7, h17, h27, qa7, pl7⟩ ?_ ?_⟩
    · rintro i σ H8 hi ⟨z3, z4, z7, z8, z9, rfl, B8, tb8, h18, h28, qa8, pl8⟩
      refine ⟨_, rfl, _, rfl, _, rfl, a1, _, rfl, .inr (SqT.of h18), _, rfl, d, c, a2, (xs.length : Int), ys, ts, rfl, B8, h28, pl8, few, by omega, by omega, fun v H9 mv B9 k9 => ⟨(by show 2 ≤ sizeLine; decide), fun g ng => ?_⟩⟩
      have sg := same_new (o := .tup [V.ref a1, v]) ng
      have gg : upd H9 g (.tup [V.ref a1, v]) g = some (.tup [V.ref a1, v]) := upd_same
      have Ba := B9.same sg
      have ka := k9.same sg
      have ig : g ≠ d := B9.ne ng
      generalize upd H9 g (.tup [V.ref a1, v]) = Ha at sg gg Ba ka ⊢
      obtain ⟨x, hx, lx2⟩ := mv
      have hxa := hx.same sg
      have tba := tb8.but B8 ka
      have h1a := B8.tupk ka h18
      have h2a := B8.tupk ka h28
      have qaa := qa8.but B8 ka
      have pla := pl8.but B8 ka
      have tha : ThV (fun a => a ≠ d) Ha (.ref a1) (.tup (pts.map ptTh)) := .tup (Ba.netup h1a) h1a (qaa.th fun _ _ e => Ba.netup e)
      have wha : ThV (fun a => a ≠ d) Ha (.ref g) (.tup [.tup (pts.map ptTh), x]) := .tup ig gg (.cons tha (.cons hxa .nil))
      have lpt : lenT (.tup (pts.map ptTh)) ≤ 63 := by
        show (pts.map ptTh).length ≤ 63
        rw [List.length_map]
        omega
      have ltt : lenT (.tup (ts.map tieTh)) ≤ 63 := by
        show (ts.map tieTh).length ≤ 63
        rw [List.length_map]
        omega
      clear hx hxa tha gg sg
      refine ⟨fun σ' Hb => ∃ (g : Addr) (x y : Th), σ' = [some (V.ref a), some (V.ref d), some (V.ref l1), z3, z4, some (V.ref a1), some (V.ref a2), some (V.int (0 + (i : Int))), some (V.ref g), z9] ∧ ThV (fun a => a ≠ d) Hb (.ref g) (.tup [x, y]) ∧ lenT x ≤ 63 ∧ lenT y ≤ 63 ∧ DrAt Hb d c ∧ Tb T.tbs Hb ∧ Hb a1 = some (.tup xs) ∧ Hb a2 = some (.tup ys) ∧ QAll Hb xs pts ∧ PAll Hb ys ts, ?_, ?_⟩
      · refine ⟨_, rfl, d, c, 3, rfl, Ba, by decide, by decide, fun n3 Hb n30 n31 Bb kb => ?_⟩
        have tbb := tba.but Ba kb
        have h1b := Ba.tupk kb h1a
        have h2b := Ba.tupk kb h2a
        have qab := qaa.but Ba kb
        have plb := pla.but Ba kb
        refine ⟨rfl, _, rfl, ite2 (fun _ => ?_) (fun _ => ?_)⟩
        · refine ⟨_, rfl, _, rfl, d, c, a1, xs, pts, rfl, Bb, h1b, qab, by omega, by omega, fun u Hc mu Bc kc => ⟨_, rfl, (by show 2 ≤ sizeLine; decide), fun g2 ng2 => ?_⟩⟩
          have sg := same_new (o := .tup [u, V.ref a2]) ng2
          obtain ⟨y, hy, ly2⟩ := mu
          have h2c := Bb.tupk kc h2b
          have plc := plb.but Bb kc
          have tt : ThV (fun a => a ≠ d) _ (.ref a2) (.tup (ts.map tieTh)) := .tup (Bc.netup h2c) h2c (plc.th fun _ _ e => Bc.netup e)
          exact ⟨g2, y, _, rfl, .tup (Bc.ne ng2) upd_same (.cons (hy.same sg) (.cons (tt.same sg) .nil)), ly2, ltt, Bc.same sg, (tbb.but Bb kc).same sg, sg _ _ (Bb.tupk kc h1b), sg _ _ h2c, (qab.but Bb kc).same sg, plc.same sg⟩
        · exact ⟨g, _, x, rfl, wha.mono (.of_but kb), lpt, lx2, Bb, tbb, h1b, h2b, qab, plb⟩
      · rintro σ' Hb ⟨g, x, y, rfl, wh, l1x, l2y, Bb, tbb, h1b, h2b, qab, plb⟩
        refine ⟨_, rfl, _, .ref g, _, rfl, wh, small_two l1x, tbb, fun Hc kc tbc => ?_⟩
        have whc := wh.kp kc
        have Bc := Bb.kp kc
        have h1c := kc.tup h1b
        have h2c := kc.tup h2b
        have qac : QAll Hc xs pts := qab.mono fun _ _ _ e => kc.tup e
        have plc := plb.kp kc
        refine ⟨_, rfl, _, _, _, _, true, rfl, ClsV.ty _, .base (.bl _), kit_ty (by decide +kernel), _, rfl, iteF ?_⟩
        refine ⟨_, rfl, _, rfl, _, .ref g, _, rfl, whc, smallL_two l1x l2y, fun Hd sd => ?_⟩
        refine ⟨rfl, _, rfl, iteNS rfl ?_⟩
        exact ⟨_, _, _, _, _, rfl, Bc.same sd, tbc.same sd, sd _ _ h1c, sd _ _ h2c, qac.same sd, plc.same sd⟩
    · rintro σ H8 ⟨z3, z4, z7, z8, z9, rfl, B8, tb8, _⟩
      exact ⟨_, _, _, _, _, _, _, rfl, B8, tb8⟩
  · rintro σ H4 ⟨y3, y4, y5, y6, y7, y8, y9, rfl, B4, tb4⟩
    exact rfl
end

end My
namespace My
open PySem L2
theorem all_mk {l : PySem.W.OpenLaw} {w : World} {K : PySem.W.Frag} {h : Heap} {mg : Str → Option Value} {fa f0 f1 f2 f3 f4 f5 f6 f7 f8 f9 f10 f11 f12 f13 f14 f15 f16 f17 f18 f19 f20 f21 f22 : Addr} {fK : Addr} {cA PA : Addr} {eA : Value} {ddA : Option Addr} {vsA : Array Value} {sloA : Array (Option Value)} {cR PR : Addr} {eR : Value} {ddR : Option Addr} {vsR : Array Value} {sloR : Array (Option Value)} {cY PY : Addr} {eY : Value} {ddY : Option Addr} {vsY : Array Value} {sloY : Array (Option Value)} {cZ PZ : Addr} {eZ : Value} {ddZ : Option Addr} {vsZ : Array Value} {sloZ : Array (Option Value)} (X : K.In h) (G : h.Ns mainGlobals mg) (hfa : mg "law" = some (.ref fa))
    {od0 an0 od1 an1 od2 an2 od3 an3 od4 an4 od5 an5 od6 an6 od7 an7 od8 an8 od9 an9 od10 an10 od11 an11 od12 an12 od13 an13 od14 an14 od15 an15 od16 an16 od17 an17 od18 an18 od19 an19 od20 an20 od21 an21 od22 an22 : Option Addr} {sl0 sl1 sl2 sl3 sl4 sl5 sl6 sl7 sl8 sl9 sl10 sl11 sl12 sl13 sl14 sl15 sl16 sl17 sl18 sl19 sl20 sl21 sl22 : Array (Option Value)} {oc0 kV0 dc0 pm0 cd0 ct0 oc1 kV1 dc1 pm1 cd1 ct1 oc2 kV2 dc2 pm2 cd2 ct2 oc3 kV3 dc3 pm3 cd3 ct3 oc4 kV4 dc4 pm4 cd4 ct4 oc5 kV5 dc5 pm5 cd5 ct5 oc6 kV6 dc6 pm6 cd6 ct6 oc7 kV7 dc7 pm7 cd7 ct7 oc8 kV8 dc8 pm8 cd8 ct8 oc9 kV9 dc9 pm9 cd9 ct9 oc10 kV10 dc10 pm10 cd10 ct10 oc11 kV11 dc11 pm11 cd11 ct11 oc12 kV12 dc12 pm12 cd12 ct12 oc13 kV13 dc13 pm13 cd13 ct13 oc14 kV14 dc14 pm14 cd14 ct14 oc15 kV15 dc15 pm15 cd15 ct15 oc16 kV16 dc16 pm16 cd16 ct16 oc17 kV17 dc17 pm17 cd17 ct17 oc18 kV18 dc18 pm18 cd18 ct18 oc19 kV19 dc19 pm19 cd19 ct19 oc20 kV20 dc20 pm20 cd20 ct20 oc21 kV21 dc21 pm21 cd21 ct21 oc22 kV22 dc22 pm22 cd22 ct22 : Value}
    (a0 : PySem.W.nsIn K mainGlobals "is_whole" = some (some (.ref f0))) (l0 : K.lookup f0 = some ⟨oc0, od0, .func (PySem.W.fnOf "is_whole" "is_whole" (defArgs s_iswhole) (defBody s_iswhole) (defScope s_iswhole) .none kV0 dc0 pm0 an0 cd0 ct0), sl0⟩) (c0 : PySem.W.codeIn K cd0 "is_whole" = true) (k0 : PySem.W.keepIn K (.ref f0) = true)
    (a1 : PySem.W.nsIn K mainGlobals "are_wholes" = some (some (.ref f1))) (l1 : K.lookup f1 = some ⟨oc1, od1, .func (PySem.W.fnOf "are_wholes" "are_wholes" (defArgs s_arewholes) (defBody s_arewholes) (defScope s_arewholes) .none kV1 dc1 pm1 an1 cd1 ct1), sl1⟩) (c1 : PySem.W.codeIn K cd1 "are_wholes" = true) (k1 : PySem.W.keepIn K (.ref f1) = true)
    (a2 : PySem.W.nsIn K mainGlobals "is_rising" = some (some (.ref f2))) (l2 : K.lookup f2 = some ⟨oc2, od2, .func (PySem.W.fnOf "is_rising" "is_rising" (defArgs s_isrising) (defBody s_isrising) (defScope s_isrising) .none kV2 dc2 pm2 an2 cd2 ct2), sl2⟩) (c2 : PySem.W.codeIn K cd2 "is_rising" = true) (k2 : PySem.W.keepIn K (.ref f2) = true)
    (a3 : PySem.W.nsIn K mainGlobals "is_kind" = some (some (.ref f3))) (l3 : K.lookup f3 = some ⟨oc3, od3, .func (PySem.W.fnOf "is_kind" "is_kind" (defArgs s_iskind) (defBody s_iskind) (defScope s_iskind) .none kV3 dc3 pm3 an3 cd3 ct3), sl3⟩) (c3 : PySem.W.codeIn K cd3 "is_kind" = true) (k3 : PySem.W.keepIn K (.ref f3) = true)
    (a4 : PySem.W.nsIn K mainGlobals "is_forest" = some (some (.ref f4))) (l4 : K.lookup f4 = some ⟨oc4, od4, .func (PySem.W.fnOf "is_forest" "is_forest" (defArgs s_isforest) (defBody s_isforest) (defScope s_isforest) .none kV4 dc4 pm4 an4 cd4 ct4), sl4⟩) (c4 : PySem.W.codeIn K cd4 "is_forest" = true) (k4 : PySem.W.keepIn K (.ref f4) = true)
    (a5 : PySem.W.nsIn K mainGlobals "are_points" = some (some (.ref f5))) (l5 : K.lookup f5 = some ⟨oc5, od5, .func (PySem.W.fnOf "are_points" "are_points" (defArgs s_arepoints) (defBody s_arepoints) (defScope s_arepoints) .none kV5 dc5 pm5 an5 cd5 ct5), sl5⟩) (c5 : PySem.W.codeIn K cd5 "are_points" = true) (k5 : PySem.W.keepIn K (.ref f5) = true)
    (a6 : PySem.W.nsIn K mainGlobals "is_point" = some (some (.ref f6))) (l6 : K.lookup f6 = some ⟨oc6, od6, .func (PySem.W.fnOf "is_point" "is_point" (defArgs s_ispoint) (defBody s_ispoint) (defScope s_ispoint) .none kV6 dc6 pm6 an6 cd6 ct6), sl6⟩) (c6 : PySem.W.codeIn K cd6 "is_point" = true) (k6 : PySem.W.keepIn K (.ref f6) = true)
    (a7 : PySem.W.nsIn K mainGlobals "are_ties" = some (some (.ref f7))) (l7 : K.lookup f7 = some ⟨oc7, od7, .func (PySem.W.fnOf "are_ties" "are_ties" (defArgs s_areties) (defBody s_areties) (defScope s_areties) .none kV7 dc7 pm7 an7 cd7 ct7), sl7⟩) (c7 : PySem.W.codeIn K cd7 "are_ties" = true) (k7 : PySem.W.keepIn K (.ref f7) = true)
    (a8 : PySem.W.nsIn K mainGlobals "is_tie" = some (some (.ref f8))) (l8 : K.lookup f8 = some ⟨oc8, od8, .func (PySem.W.fnOf "is_tie" "is_tie" (defArgs s_istie) (defBody s_istie) (defScope s_istie) .none kV8 dc8 pm8 an8 cd8 ct8), sl8⟩) (c8 : PySem.W.codeIn K cd8 "is_tie" = true) (k8 : PySem.W.keepIn K (.ref f8) = true)
    (a9 : PySem.W.nsIn K mainGlobals "has_ring" = some (some (.ref f9))) (l9 : K.lookup f9 = some ⟨oc9, od9, .func (PySem.W.fnOf "has_ring" "has_ring" (defArgs s_hasring) (defBody s_hasring) (defScope s_hasring) .none kV9 dc9 pm9 an9 cd9 ct9), sl9⟩) (c9 : PySem.W.codeIn K cd9 "has_ring" = true) (k9 : PySem.W.keepIn K (.ref f9) = true)
    (a10 : PySem.W.nsIn K mainGlobals "top_of" = some (some (.ref f10))) (l10 : K.lookup f10 = some ⟨oc10, od10, .func (PySem.W.fnOf "top_of" "top_of" (defArgs s_topof) (defBody s_topof) (defScope s_topof) .none kV10 dc10 pm10 an10 cd10 ct10), sl10⟩) (c10 : PySem.W.codeIn K cd10 "top_of" = true) (k10 : PySem.W.keepIn K (.ref f10) = true)
    (a11 : PySem.W.nsIn K mainGlobals "_law_begin" = some (some (.ref f11))) (l11 : K.lookup f11 = some ⟨oc11, od11, .func (PySem.W.fnOf "_law_begin" "_law_begin" (defArgs s_Lbegin) (defBody s_Lbegin) (defScope s_Lbegin) .none kV11 dc11 pm11 an11 cd11 ct11), sl11⟩) (c11 : PySem.W.codeIn K cd11 "_law_begin" = true) (k11 : PySem.W.keepIn K (.ref f11) = true)
    (a12 : PySem.W.nsIn K mainGlobals "_law_next" = some (some (.ref f12))) (l12 : K.lookup f12 = some ⟨oc12, od12, .func (PySem.W.fnOf "_law_next" "_law_next" (defArgs s_Lnext) (defBody s_Lnext) (defScope s_Lnext) .none kV12 dc12 pm12 an12 cd12 ct12), sl12⟩) (c12 : PySem.W.codeIn K cd12 "_law_next" = true) (k12 : PySem.W.keepIn K (.ref f12) = true)
    (a13 : PySem.W.nsIn K mainGlobals "_law_many" = some (some (.ref f13))) (l13 : K.lookup f13 = some ⟨oc13, od13, .func (PySem.W.fnOf "_law_many" "_law_many" (defArgs s_Lmany) (defBody s_Lmany) (defScope s_Lmany) .none kV13 dc13 pm13 an13 cd13 ct13), sl13⟩) (c13 : PySem.W.codeIn K cd13 "_law_many" = true) (k13 : PySem.W.keepIn K (.ref f13) = true)
    (a14 : PySem.W.nsIn K mainGlobals "_law_worth" = some (some (.ref f14))) (l14 : K.lookup f14 = some ⟨oc14, od14, .func (PySem.W.fnOf "_law_worth" "_law_worth" (defArgs s_Lworth) (defBody s_Lworth) (defScope s_Lworth) .none kV14 dc14 pm14 an14 cd14 ct14), sl14⟩) (c14 : PySem.W.codeIn K cd14 "_law_worth" = true) (k14 : PySem.W.keepIn K (.ref f14) = true)
    (a15 : PySem.W.nsIn K mainGlobals "_law_forest" = some (some (.ref f15))) (l15 : K.lookup f15 = some ⟨oc15, od15, .func (PySem.W.fnOf "_law_forest" "_law_forest" (defArgs s_Lforest) (defBody s_Lforest) (defScope s_Lforest) .none kV15 dc15 pm15 an15 cd15 ct15), sl15⟩) (c15 : PySem.W.codeIn K cd15 "_law_forest" = true) (k15 : PySem.W.keepIn K (.ref f15) = true)
    (a16 : PySem.W.nsIn K mainGlobals "_law_part" = some (some (.ref f16))) (l16 : K.lookup f16 = some ⟨oc16, od16, .func (PySem.W.fnOf "_law_part" "_law_part" (defArgs s_Lpart) (defBody s_Lpart) (defScope s_Lpart) .none kV16 dc16 pm16 an16 cd16 ct16), sl16⟩) (c16 : PySem.W.codeIn K cd16 "_law_part" = true) (k16 : PySem.W.keepIn K (.ref f16) = true)
    (a17 : PySem.W.nsIn K mainGlobals "_law_is_point" = some (some (.ref f17))) (l17 : K.lookup f17 = some ⟨oc17, od17, .func (PySem.W.fnOf "_law_is_point" "_law_is_point" (defArgs s_Lispoint) (defBody s_Lispoint) (defScope s_Lispoint) .none kV17 dc17 pm17 an17 cd17 ct17), sl17⟩) (c17 : PySem.W.codeIn K cd17 "_law_is_point" = true) (k17 : PySem.W.keepIn K (.ref f17) = true)
    (a18 : PySem.W.nsIn K mainGlobals "_law_is_tie" = some (some (.ref f18))) (l18 : K.lookup f18 = some ⟨oc18, od18, .func (PySem.W.fnOf "_law_is_tie" "_law_is_tie" (defArgs s_Listie) (defBody s_Listie) (defScope s_Listie) .none kV18 dc18 pm18 an18 cd18 ct18), sl18⟩) (c18 : PySem.W.codeIn K cd18 "_law_is_tie" = true) (k18 : PySem.W.keepIn K (.ref f18) = true)
    (a19 : PySem.W.nsIn K mainGlobals "_law_is_forest" = some (some (.ref f19))) (l19 : K.lookup f19 = some ⟨oc19, od19, .func (PySem.W.fnOf "_law_is_forest" "_law_is_forest" (defArgs s_Lisforest) (defBody s_Lisforest) (defScope s_Lisforest) .none kV19 dc19 pm19 an19 cd19 ct19), sl19⟩) (c19 : PySem.W.codeIn K cd19 "_law_is_forest" = true) (k19 : PySem.W.keepIn K (.ref f19) = true)
    (a20 : PySem.W.nsIn K mainGlobals "_law_other_ties" = some (some (.ref f20))) (l20 : K.lookup f20 = some ⟨oc20, od20, .func (PySem.W.fnOf "_law_other_ties" "_law_other_ties" (defArgs s_Lotherties) (defBody s_Lotherties) (defScope s_Lotherties) .none kV20 dc20 pm20 an20 cd20 ct20), sl20⟩) (c20 : PySem.W.codeIn K cd20 "_law_other_ties" = true) (k20 : PySem.W.keepIn K (.ref f20) = true)
    (a21 : PySem.W.nsIn K mainGlobals "_law_other_points" = some (some (.ref f21))) (l21 : K.lookup f21 = some ⟨oc21, od21, .func (PySem.W.fnOf "_law_other_points" "_law_other_points" (defArgs s_Lotherpoints) (defBody s_Lotherpoints) (defScope s_Lotherpoints) .none kV21 dc21 pm21 an21 cd21 ct21), sl21⟩) (c21 : PySem.W.codeIn K cd21 "_law_other_points" = true) (k21 : PySem.W.keepIn K (.ref f21) = true)
    (a22 : PySem.W.nsIn K mainGlobals "law" = some (some (.ref f22))) (l22 : K.lookup f22 = some ⟨oc22, od22, .func (PySem.W.fnOf "law" "law" (defArgs s_law) (defBody s_law) (defScope s_law) .none kV22 dc22 pm22 an22 cd22 ct22), sl22⟩) (c22 : PySem.W.codeIn K cd22 "law" = true) (k22 : PySem.W.keepIn K (.ref f22) = true)
    (z0 : PySem.W.nsIn K mainGlobals "all" = some none)
    (z1 : PySem.W.nsIn K mainGlobals "bool" = some none)
    (z2 : PySem.W.nsIn K mainGlobals "dict" = some none)
    (z3 : PySem.W.nsIn K mainGlobals "int" = some none)
    (z4 : PySem.W.nsIn K mainGlobals "isinstance" = some none)
    (z5 : PySem.W.nsIn K mainGlobals "len" = some none)
    (z6 : PySem.W.nsIn K mainGlobals "list" = some none)
    (z7 : PySem.W.nsIn K mainGlobals "max" = some none)
    (z8 : PySem.W.nsIn K mainGlobals "min" = some none)
    (z9 : PySem.W.nsIn K mainGlobals "range" = some none)
    (z10 : PySem.W.nsIn K mainGlobals "set" = some none)
    (z11 : PySem.W.nsIn K mainGlobals "sorted" = some none)
    (z12 : PySem.W.nsIn K mainGlobals "str" = some none)
    (z13 : PySem.W.nsIn K mainGlobals "tuple" = some none)
    (z14 : PySem.W.nsIn K mainGlobals "zip" = some none)
    (qK : PySem.W.nsIn K mainGlobals "KINDS" = some (some (.ref fK)))
    (hK : tupB K fK kinds = true)
    (hcA : cd1 = .ref cA)
    (lcA : K.lookup cA = some ⟨eA, ddA, .fields vsA, sloA⟩)
    (v11A : vsA[11]? = some (.ref PA))
    (nPA : K.lookup PA = none)
    (hdA : PySem.W.codeHdIn K cA PA = true)
    (hcR : cd2 = .ref cR)
    (lcR : K.lookup cR = some ⟨eR, ddR, .fields vsR, sloR⟩)
    (v11R : vsR[11]? = some (.ref PR))
    (nPR : K.lookup PR = none)
    (hdR : PySem.W.codeHdIn K cR PR = true)
    (hcY : cd7 = .ref cY)
    (lcY : K.lookup cY = some ⟨eY, ddY, .fields vsY, sloY⟩)
    (v11Y : vsY[11]? = some (.ref PY))
    (nPY : K.lookup PY = none)
    (hdY : PySem.W.codeHdIn K cY PY = true)
    (hcZ : cd5 = .ref cZ)
    (lcZ : K.lookup cZ = some ⟨eZ, ddZ, .fields vsZ, sloZ⟩)
    (v11Z : vsZ[11]? = some (.ref PZ))
    (nPZ : K.lookup PZ = none)
    (hdZ : PySem.W.codeHdIn K cZ PZ = true)
    (hneP : ([PA, PR, PY, PZ] : List Addr).Nodup)
    (tabs : ∀ nm ∈ (["are_wholes", "is_rising", "are_ties", "are_points"] : List Str), TabAt mg h nm) : ∃ cs : List (Addr × Addr), (∀ p ∈ cs, h.get? p.2 = some { cls := .none, data := .fields #[] }) ∧ (∀ p ∈ cs, K.lookup p.2 = none) ∧ (∀ p ∈ cs, PySem.W.CodeHd h p.1 p.2) ∧
      ∀ (s : Shared) (H : Hp) (base : Heap) (a : Addr) (ns : List Int), ns.length ≤ 63 → (∀ z ∈ ns, Builtin.Int.intBits z ≤ 1048576) → (∀ p ∈ cs, LamX.TabB base mg p.1 p.2) → Env0 l.prog w K mg base callerA [] s H → (∀ p ∈ cs, H p.2 = some (.tbl #[])) → SqL K H a (ns.map V.int) →
        codeAny (model l.prog w) callerA (.call (.ref fa) ⟨[.ref a], []⟩) (CR CX0 [] l.prog w H s (fun v _ => v = .bl true) E0) s := by
  have e := hfa.symm.trans (PySem.W.mg_of X G a22)
  cases e
  have F0 := fun_mk (st := s_iswhole) l0 c0 k0
  have b0 := F0.binds (ps := ["thing"]) fun _ _ _ _ _ _ us hl => match us, hl with | [_], _ => rfl
  have F1 := fun_mk (st := s_arewholes) l1 c1 k1
  have b1 := F1.binds (ps := ["thing"]) fun _ _ _ _ _ _ us hl => match us, hl with | [_], _ => rfl
  have F2 := fun_mk (st := s_isrising) l2 c2 k2
  have b2 := F2.binds (ps := ["row"]) fun _ _ _ _ _ _ us hl => match us, hl with | [_], _ => rfl
  have F3 := fun_mk (st := s_iskind) l3 c3 k3
  have b3 := F3.binds (ps := ["thing"]) fun _ _ _ _ _ _ us hl => match us, hl with | [_], _ => rfl
  have F4 := fun_mk (st := s_isforest) l4 c4 k4
  have b4 := F4.binds (ps := ["thing"]) fun _ _ _ _ _ _ us hl => match us, hl with | [_], _ => rfl
  have F5 := fun_mk (st := s_arepoints) l5 c5 k5
  have b5 := F5.binds (ps := ["thing"]) fun _ _ _ _ _ _ us hl => match us, hl with | [_], _ => rfl
  have F6 := fun_mk (st := s_ispoint) l6 c6 k6
  have b6 := F6.binds (ps := ["thing"]) fun _ _ _ _ _ _ us hl => match us, hl with | [_], _ => rfl
  have F7 := fun_mk (st := s_areties) l7 c7 k7
  have b7 := F7.binds (ps := ["thing", "many"]) fun _ _ _ _ _ _ us hl => match us, hl with | [_, _], _ => rfl
  have F8 := fun_mk (st := s_istie) l8 c8 k8
  have b8 := F8.binds (ps := ["thing", "many"]) fun _ _ _ _ _ _ us hl => match us, hl with | [_, _], _ => rfl
  have F9 := fun_mk (st := s_hasring) l9 c9 k9
  have b9 := F9.binds (ps := ["ties", "many"]) fun _ _ _ _ _ _ us hl => match us, hl with | [_, _], _ => rfl
  have F10 := fun_mk (st := s_topof) l10 c10 k10
  have b10 := F10.binds (ps := ["above", "point"]) fun _ _ _ _ _ _ us hl => match us, hl with | [_, _], _ => rfl
  have F11 := fun_mk (st := s_Lbegin) l11 c11 k11
  have b11 := F11.binds (ps := ["_law_script"]) fun _ _ _ _ _ _ us hl => match us, hl with | [_], _ => rfl
  have F12 := fun_mk (st := s_Lnext) l12 c12 k12
  have b12 := F12.binds (ps := ["_law_draws", "_law_many_here"]) fun _ _ _ _ _ _ us hl => match us, hl with | [_, _], _ => rfl
  have F13 := fun_mk (st := s_Lmany) l13 c13 k13
  have b13 := F13.binds (ps := ["_law_draws", "_law_few", "_law_most"]) fun _ _ _ _ _ _ us hl => match us, hl with | [_, _, _], _ => rfl
  have F14 := fun_mk (st := s_Lworth) l14 c14 k14
  have b14 := F14.binds (ps := ["_law_draws"]) fun _ _ _ _ _ _ us hl => match us, hl with | [_], _ => rfl
  have F15 := fun_mk (st := s_Lforest) l15 c15 k15
  have b15 := F15.binds (ps := ["_law_draws", "_law_most"]) fun _ _ _ _ _ _ us hl => match us, hl with | [_, _], _ => rfl
  have F16 := fun_mk (st := s_Lpart) l16 c16 k16
  have b16 := F16.binds (ps := ["_law_forest_here", "_law_a"]) fun _ _ _ _ _ _ us hl => match us, hl with | [_, _], _ => rfl
  have F17 := fun_mk (st := s_Lispoint) l17 c17 k17
  have b17 := F17.binds (ps := ["_law_thing"]) fun _ _ _ _ _ _ us hl => match us, hl with | [_], _ => rfl
  have F18 := fun_mk (st := s_Listie) l18 c18 k18
  have b18 := F18.binds (ps := ["_law_thing", "_law_many_here"]) fun _ _ _ _ _ _ us hl => match us, hl with | [_, _], _ => rfl
  have F19 := fun_mk (st := s_Lisforest) l19 c19 k19
  have b19 := F19.binds (ps := ["_law_thing"]) fun _ _ _ _ _ _ us hl => match us, hl with | [_], _ => rfl
  have F20 := fun_mk (st := s_Lotherties) l20 c20 k20
  have b20 := F20.binds (ps := ["_law_draws", "_law_many_here", "_law_ties"]) fun _ _ _ _ _ _ us hl => match us, hl with | [_, _, _], _ => rfl
  have F21 := fun_mk (st := s_Lotherpoints) l21 c21 k21
  have b21 := F21.binds (ps := ["_law_draws", "_law_points"]) fun _ _ _ _ _ _ us hl => match us, hl with | [_, _], _ => rfl
  have F22 := fun_mk (st := s_law) l22 c22 k22
  have b22 := F22.binds (ps := ["_law_script"]) fun _ _ _ _ _ _ us hl => match us, hl with | [_], _ => rfl
  let T : Top K mg := ⟨_, _, F0, b0, PySem.W.mg_of X G a0, _, _, F1, b1, PySem.W.mg_of X G a1, _, _, F2, b2, PySem.W.mg_of X G a2, _, _, F3, b3, PySem.W.mg_of X G a3, _, _, F4, b4, PySem.W.mg_of X G a4, _, _, F5, b5, PySem.W.mg_of X G a5, _, _, F6, b6, PySem.W.mg_of X G a6, _, _, F7, b7, PySem.W.mg_of X G a7, _, _, F8, b8, PySem.W.mg_of X G a8, _, _, F9, b9, PySem.W.mg_of X G a9, _, _, F10, b10, PySem.W.mg_of X G a10, _, _, F11, b11, PySem.W.mg_of X G a11, _, _, F12, b12, PySem.W.mg_of X G a12, _, _, F13, b13, PySem.W.mg_of X G a13, _, _, F14, b14, PySem.W.mg_of X G a14, _, _, F15, b15, PySem.W.mg_of X G a15, _, _, F16, b16, PySem.W.mg_of X G a16, _, _, F17, b17, PySem.W.mg_of X G a17, _, _, F18, b18, PySem.W.mg_of X G a18, _, _, F19, b19, PySem.W.mg_of X G a19, _, _, F20, b20, PySem.W.mg_of X G a20, _, _, F21, b21, PySem.W.mg_of X G a21, _, _, F22, b22, PySem.W.mg_of X G a22, PySem.W.mg_none_of X G z0, PySem.W.mg_none_of X G z1, PySem.W.mg_none_of X G z2, PySem.W.mg_none_of X G z3, PySem.W.mg_none_of X G z4, PySem.W.mg_none_of X G z5, PySem.W.mg_none_of X G z6, PySem.W.mg_none_of X G z7, PySem.W.mg_none_of X G z8, PySem.W.mg_none_of X G z9, PySem.W.mg_none_of X G z10, PySem.W.mg_none_of X G z11, PySem.W.mg_none_of X G z12, PySem.W.mg_none_of X G z13, PySem.W.mg_none_of X G z14, _, PySem.W.mg_of X G qK, hK, cA, PA, hcA, cR, PR, hcR, cY, PY, hcY, cZ, PZ, hcZ, hneP⟩
  refine ⟨[(cA, PA), (cR, PR), (cY, PY), (cZ, PZ)], ?_, ?_, ?_, fun s H base a ns hlen hbits tb e0 th sq => ?_⟩
  · intro p hp
    rcases mem4 hp with rfl | rfl | rfl | rfl
    · exact tab_empty (tabs _ List.mem_cons_self) X (PySem.W.mg_of X G a1) l1 rfl hcA lcA v11A
    · exact tab_empty (tabs _ (List.mem_cons_of_mem _ List.mem_cons_self)) X (PySem.W.mg_of X G a2) l2 rfl hcR lcR v11R
    · exact tab_empty (tabs _ (List.mem_cons_of_mem _ (List.mem_cons_of_mem _ List.mem_cons_self))) X (PySem.W.mg_of X G a7) l7 rfl hcY lcY v11Y
    · exact tab_empty (tabs _ (List.mem_cons_of_mem _ (List.mem_cons_of_mem _ (List.mem_cons_of_mem _ List.mem_cons_self)))) X (PySem.W.mg_of X G a5) l5 rfl hcZ lcZ v11Z
  · intro p hp
    rcases mem4 hp with rfl | rfl | rfl | rfl
    · exact nPA
    · exact nPR
    · exact nPY
    · exact nPZ
  · intro p hp
    rcases mem4 hp with rfl | rfl | rfl | rfl
    · exact PySem.W.codeHd_of_K X hdA
    · exact PySem.W.codeHd_of_K X hdR
    · exact PySem.W.codeHd_of_K X hdY
    · exact PySem.W.codeHd_of_K X hdZ
  · exact run_law T ⟨(tb _ List.mem_cons_self).code, (tb _ List.mem_cons_self).bm, (tb _ List.mem_cons_self).gP⟩ ⟨(tb _ (List.mem_cons_of_mem _ List.mem_cons_self)).code, (tb _ (List.mem_cons_of_mem _ List.mem_cons_self)).bm, (tb _ (List.mem_cons_of_mem _ List.mem_cons_self)).gP⟩ ⟨(tb _ (List.mem_cons_of_mem _ (List.mem_cons_of_mem _ List.mem_cons_self))).code, (tb _ (List.mem_cons_of_mem _ (List.mem_cons_of_mem _ List.mem_cons_self))).bm, (tb _ (List.mem_cons_of_mem _ (List.mem_cons_of_mem _ List.mem_cons_self))).gP⟩ ⟨(tb _ (List.mem_cons_of_mem _ (List.mem_cons_of_mem _ (List.mem_cons_of_mem _ List.mem_cons_self)))).code, (tb _ (List.mem_cons_of_mem _ (List.mem_cons_of_mem _ (List.mem_cons_of_mem _ List.mem_cons_self)))).bm, (tb _ (List.mem_cons_of_mem _ (List.mem_cons_of_mem _ (List.mem_cons_of_mem _ List.mem_cons_self)))).gP⟩ e0 (th _ List.mem_cons_self) (th _ (List.mem_cons_of_mem _ List.mem_cons_self)) (th _ (List.mem_cons_of_mem _ (List.mem_cons_of_mem _ List.mem_cons_self))) (th _ (List.mem_cons_of_mem _ (List.mem_cons_of_mem _ (List.mem_cons_of_mem _ List.mem_cons_self)))) sq hlen ⟨rfl, by decide, by decide⟩ (fun s u => .of_eq rfl)
end My
open PySem PySem.W PyProof.Rows
set_option maxRecDepth 100000 in
set_option maxHeartbeats 0 in
theorem PySem.Challenge.cw_tiedcut_k02_forests_of_anything_holds : PySem.Challenge.rw_tiedcut_k02_forests_of_anything.Holds := by
  w_on; o_law; k_head; (case hw => w_witness2)
  k_fill
  refine My.walk_law0 (l := PySem.Challenge.rw_tiedcut_k02_forests_of_anything) (most := 63) ["are_wholes", "is_rising", "are_ties", "are_points"] rfl (by decide) rfl (by decide +kernel) (fun w h Y => by first | exact PySem.W.kIn_of Y | exact PySem.W.km_in_of Y) ?F
  case F =>
    intro w mg fa h KX G hmg tabs
    refine' My.all_mk KX G hmg ?a0 ?l0 ?c0 ?k0 ?a1 ?l1 ?c1 ?k1 ?a2 ?l2 ?c2 ?k2 ?a3 ?l3 ?c3 ?k3 ?a4 ?l4 ?c4 ?k4 ?a5 ?l5 ?c5 ?k5 ?a6 ?l6 ?c6 ?k6 ?a7 ?l7 ?c7 ?k7 ?a8 ?l8 ?c8 ?k8 ?a9 ?l9 ?c9 ?k9 ?a10 ?l10 ?c10 ?k10 ?a11 ?l11 ?c11 ?k11 ?a12 ?l12 ?c12 ?k12 ?a13 ?l13 ?c13 ?k13 ?a14 ?l14 ?c14 ?k14 ?a15 ?l15 ?c15 ?k15 ?a16 ?l16 ?c16 ?k16 ?a17 ?l17 ?c17 ?k17 ?a18 ?l18 ?c18 ?k18 ?a19 ?l19 ?c19 ?k19 ?a20 ?l20 ?c20 ?k20 ?a21 ?l21 ?c21 ?k21 ?a22 ?l22 ?c22 ?k22 ?z0 ?z1 ?z2 ?z3 ?z4 ?z5 ?z6 ?z7 ?z8 ?z9 ?z10 ?z11 ?z12 ?z13 ?z14 ?qK ?hK ?hcA ?lcA ?v11A ?nPA ?hdA ?hcR ?lcR ?v11R ?nPR ?hdR ?hcY ?lcY ?v11Y ?nPY ?hdY ?hcZ ?lcZ ?v11Z ?nPZ ?hdZ ?hneP tabs
    (case a0 => k_is)
    (case l0 => k_is)
    (case c0 => k_is)
    (case k0 => k_is)
    (case a1 => k_is)
    (case l1 => k_is)
    (case c1 => k_is)
    (case k1 => k_is)
    (case a2 => k_is)
    (case l2 => k_is)
    (case c2 => k_is)
    (case k2 => k_is)
    (case a3 => k_is)
    (case l3 => k_is)
    (case c3 => k_is)
    (case k3 => k_is)
    (case a4 => k_is)
    (case l4 => k_is)
    (case c4 => k_is)
    (case k4 => k_is)
    (case a5 => k_is)
    (case l5 => k_is)
    (case c5 => k_is)
    (case k5 => k_is)
    (case a6 => k_is)
    (case l6 => k_is)
    (case c6 => k_is)
    (case k6 => k_is)
    (case a7 => k_is)
    (case l7 => k_is)
    (case c7 => k_is)
    (case k7 => k_is)
    (case a8 => k_is)
    (case l8 => k_is)
    (case c8 => k_is)
    (case k8 => k_is)
    (case a9 => k_is)
    (case l9 => k_is)
    (case c9 => k_is)
    (case k9 => k_is)
    (case a10 => k_is)
    (case l10 => k_is)
    (case c10 => k_is)
    (case k10 => k_is)
    (case a11 => k_is)
    (case l11 => k_is)
    (case c11 => k_is)
    (case k11 => k_is)
    (case a12 => k_is)
    (case l12 => k_is)
    (case c12 => k_is)
    (case k12 => k_is)
    (case a13 => k_is)
    (case l13 => k_is)
    (case c13 => k_is)
    (case k13 => k_is)
    (case a14 => k_is)
    (case l14 => k_is)
    (case c14 => k_is)
    (case k14 => k_is)
    (case a15 => k_is)
    (case l15 => k_is)
    (case c15 => k_is)
    (case k15 => k_is)
    (case a16 => k_is)
    (case l16 => k_is)
    (case c16 => k_is)
    (case k16 => k_is)
    (case a17 => k_is)
    (case l17 => k_is)
    (case c17 => k_is)
    (case k17 => k_is)
    (case a18 => k_is)
    (case l18 => k_is)
    (case c18 => k_is)
    (case k18 => k_is)
    (case a19 => k_is)
    (case l19 => k_is)
    (case c19 => k_is)
    (case k19 => k_is)
    (case a20 => k_is)
    (case l20 => k_is)
    (case c20 => k_is)
    (case k20 => k_is)
    (case a21 => k_is)
    (case l21 => k_is)
    (case c21 => k_is)
    (case k21 => k_is)
    (case a22 => k_is)
    (case l22 => k_is)
    (case c22 => k_is)
    (case k22 => k_is)
    (case z0 => k_is)
    (case z1 => k_is)
    (case z2 => k_is)
    (case z3 => k_is)
    (case z4 => k_is)
    (case z5 => k_is)
    (case z6 => k_is)
    (case z7 => k_is)
    (case z8 => k_is)
    (case z9 => k_is)
    (case z10 => k_is)
    (case z11 => k_is)
    (case z12 => k_is)
    (case z13 => k_is)
    (case z14 => k_is)
    (case qK => k_is)
    (case hK => kernel_rfl)
    (case hcA => rfl)
    (case lcA => k_is)
    (case v11A => rfl)
    (case nPA => kernel_rfl)
    (case hdA => kernel_rfl)
    (case hcR => rfl)
    (case lcR => k_is)
    (case v11R => rfl)
    (case nPR => kernel_rfl)
    (case hdR => kernel_rfl)
    (case hcY => rfl)
    (case lcY => k_is)
    (case v11Y => rfl)
    (case nPY => kernel_rfl)
    (case hdY => kernel_rfl)
    (case hcZ => rfl)
    (case lcZ => k_is)
    (case v11Z => rfl)
    (case nPZ => kernel_rfl)
    (case hdZ => kernel_rfl)
    (case hneP => decide +kernel)
