import PyProof.Rows.All
import Wide.All
import OpenK.AllK
import Wide.FinOn
import HandS.ForMost
import HandS.More
import HandS.Sort
import HandS.Wide
import HandS.WideBits
import HandS.IsInst
import HandS.EndBits
import HandS.Exc
import HandS.ExcOwn
import HandS.ExcValue
import HandS.ExcInit
import HandS.ExcField
import HandS.WordsExc
import KE.KExcIs
import HandS.TupLe
import HandS.TupAny
import HandS.Zip
import HandS.Walk
import HandS.Star
import HandS.Style
import HandS.CallLocal
import HandS.Deep
import HandS.AnyAll
import HandS.GenOver
import HandS.EndTab
import HandS.Lambda
import KE.GoesMore
import PySem.Challenge.RW_tiedcut_k17_asked_of_ways
set_option Elab.async false
set_option linter.all false
set_option maxRecDepth 100000
set_option maxHeartbeats 4000000
namespace My
open PySem PySem.Spec PyProof.Rows L2
/-! ### a generator expression, consumed by all: its own frame -/
def gcx (X : Cx) (s : Shared) (H : Hp) (ge : Env) (fp : List Addr) (Ag : Around) : Cx :=
  { X with A := Ag, s_0 := s, H_0 := H, env := ge, outer := X.stack, stack := ge :: X.stack, ex := fp, fn := fun _ => false, pn := [], xe := fun _ _ => False }
section
variable {X : Cx} {pins : List (Addr × Obj)} {σ : L2.St} {H : Hp} {s : Shared}
theorem clo_in {scope : Scope} {own : List (Str × Nat)} (I : Inv X pins σ H s) (ok : BlkOk X.N X.env.scope scope own) {y : Str} {c : Addr} (hm : (y, c) ∈ cloFrom X.env.cells scope.names []) : X.env.cells.lookup y = some c ∧ c < s.heap.objs.size ∧ (y, NameKind.free) ∈ scope.names := by
  rcases cloFrom_mem hm with z | ⟨h1, rfl⟩
  · cases z
  · have hc : ∃ c, X.env.cells.lookup y = some c := by
      rcases ok.free _ h1 rfl with k | k
      · exact I.ok.has _ (.inl k)
      · exact I.ok.has _ (.inr k)
    obtain ⟨c, hc⟩ := hc
    obtain ⟨v, z⟩ := I.cell _ _ hc
    rw [hc]
    exact ⟨rfl, z.lt, h1⟩
theorem gen_start {scope : Scope} {own : List (Str × Nat)} {fp : List Addr} {ge : Env} {code : Value} {Ag : Around} {s5 : Shared} {m : Str → Option Value} {ga : Addr} {go : Obj} (I : Inv X pins σ H s) (ok : BlkOk X.N X.env.scope scope own) (hN : X.N.Nodup)
    (hfp : ∀ b ∈ fp, FpOk X pins H b ∧ b < s.heap.objs.size) (hge : ge = genEnv scope (cloFrom X.env.cells scope.names []) s.heap.objs.size code builtinsNs X.env) (nocell : ∀ y ∈ scope.names, y.2 ≠ .cell)
    (hA : Ag.handled = none) (hfr : Ag.frames = some (ge :: X.stack)) (k5 : ∀ b o, s.heap.get? b = some o → s5.heap.get? b = some o) (os5 : s5.os = s.os) (bare5 : AllBare s5.gens)
    (ns5 : s5.heap.Ns s.heap.objs.size m) (hga : s5.heap.get? ga = some go) (hgt : s.heap.objs.size < ga) (hgd : ∀ v, go.data ≠ .cell v) :
    Inv (gcx X s H ge fp Ag) [(ga, go)] (wipe σ (own.map (·.2))) H s5 := by
  have hL : ge.locals = s.heap.objs.size := by
    rw [hge]
    rfl
  have hC : ge.cells = cloFrom X.env.cells scope.names [] := by
    rw [hge]
    rfl
  have hS : ge.scope = scope := by
    rw [hge]
    rfl
  have inC : ∀ {y c}, ge.cells.lookup y = some c → X.env.cells.lookup y = some c ∧ c < s.heap.objs.size := fun {y c} e => by
    rw [hC] at e
    have z := clo_in I ok (PySem.mem_of_lookup e)
    exact ⟨z.1, z.2.1⟩
  have look : ∀ {y}, scope.names.lookup y = some .free → ∃ c, ge.cells.lookup y = some c ∧ X.env.cells.lookup y = some c := fun {y} hl => by
    have hm := cloFrom_has (cells := X.env.cells) (acc := []) (PySem.mem_of_lookup hl)
    obtain ⟨c, e⟩ := mem_lookup hm
    rw [← hC] at e
    exact ⟨c, e, (inC e).1⟩
  have kindF : ∀ {y k}, scope.names.lookup y = some k → (k = .cell ∨ k = .free) → scope.names.lookup y = some .free := fun {y k} e hk => by
    rcases hk with rfl | rfl
    · exact absurd rfl (nocell _ (PySem.mem_of_lookup e))
    · exact e
  have okG : (gcx X s H ge fp Ag).Ok := by
    refine ⟨I.ok.mod, ?_, ?_, ?_, ?_, ?_, ?_, ?_, fun _ => hA, hfr, .inr ⟨rfl, ?_⟩, ?_, I.bs, Nat.le_trans I.ok.bsz I.sz, ?_, ?_, I.stack, I.stkFree⟩
    · show ge.scope.kind = .function
      rw [hS]
      exact ok.kind
    · show ge.globals = mainGlobals
      rw [hge]
      exact I.ok.glob
    · show ge.builtins = builtinsNs
      rw [hge]
      rfl
    · show s.heap.objs.size ≤ ge.locals
      rw [hL]
      exact Nat.le_refl _
    · intro y z c e1 e2
      exact I.ok.inj y z c (inC e1).1 (inC e2).1
    · intro y hy
      have e : scope.names.lookup y = some .free := by
        rcases hy with hy | hy
        · have hy2 : ge.scope.names.lookup y = some .cell := hy
          rw [hS] at hy2
          exact kindF hy2 (.inl rfl)
        · have hy2 : ge.scope.names.lookup y = some .free := hy
          rw [hS] at hy2
          exact hy2
      obtain ⟨c, e1, _⟩ := look e
      exact ⟨c, e1⟩
    · intro y c z
      cases z
    · show ge.frame = some ge.locals
      rw [hge]
      rfl
    · intro b hb
      refine ⟨?_, fun y c e z => ?_⟩
      · show b ≠ ge.locals
        rw [hL]
        exact Nat.ne_of_lt (hfp b hb).2
      · exact (hfp b hb).1.2.2.2.2.1 y c (inC e).1 z
    · intro b o e hb
      rcases (hfp b hb).1.2.2.2.1 with z | z
      · exact I.ok.noex b o e z
      · exact absurd (Nat.lt_of_lt_of_le (Heap.lt_size e) (Nat.le_trans I.ok.bsz z)) (Nat.lt_irrefl _)
    · intro b hb z
      rcases List.mem_cons.mp (I.stkSub b z) with z | z
      · exact (hfp b hb).1.2.1 z
      · exact (hfp b hb).1.2.2.1 z
  have frL : H s.heap.objs.size = none := I.hok.fresh (Nat.le_refl _)
  refine ⟨okG, os5, bare5, Un.kept k5, ⟨m, ?_, fun i y av e1 e2 e3 => ?_⟩, fun y c e => ?_, ?_, fun y c e => I.freeC y c (inC e).1, fun p hp => ?_, I.hok.kept k5, by rw [wipe_length]; exact I.len⟩
  · show s5.heap.Ns ge.locals m
    rw [hL]
    exact ns5
  · obtain ⟨e2, hne⟩ := wipe_some e2
    have e3 : Vis ge.scope y := e3
    rw [hS] at e3
    have nol : scope.names.lookup y ≠ some .local := fun z => by
      rcases ok.own _ (PySem.mem_of_lookup z) (.inl rfl) with q | q
      · obtain ⟨p, hp, hpy⟩ := List.mem_map.mp q
        have e5 := ok.ix p hp
        have e6 : p.1 = y := hpy
        rw [e6] at e5
        exact hne (List.mem_map.mpr ⟨p, hp, nodup_ix hN e5 e1⟩)
      · exact q (List.mem_of_getElem? e1)
    have hf : scope.names.lookup y = some .free := by
      rcases e3 with z | z | z
      · exact absurd z nol
      · exact kindF z (.inl rfl)
      · exact z
    obtain ⟨m0, hn, hl⟩ := I.loc
    have hvis : Vis X.env.scope y := (ok.free _ (PySem.mem_of_lookup hf) rfl).elim (fun k => .inr (.inl k)) (fun k => .inr (.inr k))
    obtain ⟨u, r, q⟩ := hl i y av e1 e2 hvis
    obtain ⟨c, g1, g2⟩ := look hf
    refine ⟨u, r, .inr ⟨.inr ?_, c, g1, ?_⟩⟩
    · show ge.scope.names.lookup y = some .free
      rw [hS]
      exact hf
    · rcases q with ⟨k, _⟩ | ⟨_, c', e', z⟩
      · have k : X.env.scope.names.lookup y = some .local := k
        rcases ok.free _ (PySem.mem_of_lookup hf) rfl with k' | k'
        · have k2 : X.env.scope.names.lookup y = some .cell := k'
          rw [k2] at k
          cases k
        · have k2 : X.env.scope.names.lookup y = some .free := k'
          rw [k2] at k
          cases k
      · rw [g2] at e'
        cases e'
        exact z.keeps k5
  · obtain ⟨v, z⟩ := I.cell y c (inC e).1
    exact ⟨v, z.keeps k5⟩
  · show H ge.locals = none
    rw [hL]
    exact frL
  · have hp2 : p ∈ ([] : List (Addr × Obj)) ++ [(ga, go)] := hp
    rw [List.nil_append] at hp2
    rcases List.mem_cons.mp hp2 with e | e
    · subst e
      refine ⟨hga, I.hok.fresh (Nat.le_of_lt hgt), ?_, fun z => ?_, hgd⟩
      · show ga ≠ ge.locals
        rw [hL]
        exact Nat.ne_of_gt hgt
      · have z2 : ga ∈ frs X.stack := z
        obtain ⟨_, o, ho, _⟩ := I.stack.mem z2
        exact absurd (Nat.lt_trans (Heap.lt_size ho) hgt) (Nat.lt_irrefl _)
    · cases e
end
section
variable {X : Cx} {pins : List (Addr × Obj)} {σ : L2.St} {H : Hp} {s : Shared}
/-- the generator's object -/
def genO (X : Cx) (s4 : Shared) : Obj := { cls := .type "generator", data := .fields #[.int s4.gens.size 0, .str "<genexpr>" (s4.toks + 1), .str (X.env.qual ++ "<genexpr>") (s4.toks + 1 + 1)] }
/-- the generator is made: its source has come, the def's table may have grown -/
theorem gen_make {c P : Addr} {elt tg iter : Expr} {gpos : Pos} {scope : Scope} {own : List (Str × Nat)} {wi : TI} {k : Nat} {Q' : Value → Shared → Prop} {R : It → Hp → Prop} (hr : Room k X.A) (TB : GxR.TabB X.base X.mg c P) (hcode : X.env.code = .ref c)
    (ok : BlkOk X.N X.env.scope scope own) (hco : scope.isCoroutine = false) (nocell : ∀ y ∈ scope.names, y.2 ≠ .cell) (hdot : scope.names.lookup (".0" : Str) = some NameKind.local) (hi : PI X tg iter wi) (hs : ∀ v, genFold iter X.env v = pure v)
    (I : Inv X pins σ H s) (h : wi σ H fun J H1 => GxR.TabG H1 P ∧ R J H1)
    (hQ : ∀ (it : Addr) (fp : List Addr) (tn : Nat → Heap → Prop) (J : It) (H1 H2 : Hp) (code : Value) (s4 : Shared) (h5 : Heap), Inv X pins σ H2 s4 → GxR.Tabbed P H1 H2 → Turn X.prog X.w X.K tg J fp it tn → tn 0 s4.heap →
      (∀ b ∈ fp, FpOk X pins H2 b ∧ b < s4.heap.objs.size) → R J H1 → h5.Ns s4.heap.objs.size (fun y => if y = ".0" then some (.ref it) else none) → Heap.SameBut s4.heap.objs.size (s4.heap.push { cls := .type "frame", data := .dict #[] }) h5 →
      Q' (.ref h5.objs.size) { s4 with gens := s4.gens.push (.fresh (.compStart (.GeneratorExp elt [⟨tg, iter, [], 0⟩] scope gpos) 0 (.ref it) .none (genEnv scope (cloFrom X.env.cells scope.names []) s4.heap.objs.size code builtinsNs X.env))), toks := s4.toks + 1 + 1 + 1, heap := h5.push (genO X s4) }) :
    wpAny (model X.prog X.w) X.A (eval (.GeneratorExp elt [⟨tg, iter, [], 0⟩] scope gpos) X.env) Q' X.xe s := by
  have hfree : ∀ y ∈ scope.names, y.2 = .free → ∃ c, X.env.cells.lookup y.1 = some c := fun y hy e => by
    rcases ok.free y hy e with z | z
    · exact I.ok.has _ (.inl z)
    · exact I.ok.has _ (.inr z)
  refine wpAny_GeneratorExp_make hco (closure_ok hfree) nocell hdot ok.kind (by have := hr.dp; omega) ?_ hs
  refine thn (hi.run pins s σ H _ I h) fun xv s1 hx => thn hx fun itv s2 h2 => ?_
  obtain ⟨it, fp, tn, J, H1, rfl, I1, T, st, f1, ⟨ps, hP, ht⟩, q1⟩ := h2
  have hPs : s2.heap.get? P = some { cls := .none, data := .fields ps } := I1.hok P _ hP
  have cd : PySem.W.CodeHd s2.heap c P := TB.code.keeps fun b u e => I1.bk b u e
  have nP : ∀ b, H1 b = none → b ≠ P := fun b e z => by
    rw [z, hP] at e
    cases e
  have fsz : ∀ b ∈ fp, b < s2.heap.objs.size := fun b hb => by
    obtain ⟨o, e, _⟩ := T.obj _ _ st b hb
    exact Heap.lt_size e
  have cont : ∀ (code : Value) (h3 : Heap) (tk : Nat) (ps' : Array Value), Heap.ExtBut P s2.heap h3 → s2.heap.objs.size ≤ h3.objs.size → h3.get? P = some { cls := .none, data := .fields ps' } → (∃ more, ps' = ps ++ more) → TriplesOk ps'.toList →
      wpAny (model X.prog X.w) X.A (builtinsFor X.env.globals X.env.builtins) (fun bi s4 => ∀ h5, h5.Ns s4.heap.objs.size (fun y => if y = ".0" then some (.ref it) else none) → Heap.SameBut s4.heap.objs.size (s4.heap.push { cls := .type "frame", data := .dict #[] }) h5 →
        Q' (.ref h5.objs.size) { s4 with gens := s4.gens.push (.fresh (.compStart (.GeneratorExp elt [⟨tg, iter, [], 0⟩] scope gpos) 0 (.ref it) .none (genEnv scope (cloFrom X.env.cells scope.names []) s4.heap.objs.size code bi X.env))), toks := s4.toks + 1 + 1 + 1, heap := h5.push (genO X s4) }) X.xe { s2 with heap := h3, toks := tk } := by
    intro code h3 tk ps' hx hsz hP3 hmore ht3
    obtain ⟨bm, ob, e1, e2, e3, e4, e5, e6, e7, e8⟩ := TB.bm
    have keep3 : ∀ b u, b ≠ P → s2.heap.get? b = some u → h3.get? b = some u := fun b u hb e => hx b u hb e
    refine wpAny_builtinsFor (m := X.mg) (by rw [I1.ok.glob]; exact (I1.mod.glob.keeps I1.bk).extBut hx TB.gP) e1 e2 (keep3 _ _ e4 (I1.bk _ _ e5)) e6 e7 e8 ?_
    intro h5 n5 b5
    obtain ⟨more, em⟩ := hmore
    have J0 := GxR.inv_tab (more := more) (h' := h3) (g' := s2.gens) (d' := s2.drawn) (t' := tk) I1 hP keep3 (by rw [← em]; exact hP3) I1.bare
    refine hQ it fp tn J H1 (upd H1 P (.tbl (ps ++ more))) code { s2 with heap := h3, toks := tk } h5 J0 ⟨⟨ps ++ more, upd_same, by rw [← em]; exact ht3⟩, fun b hb => upd_ne hb⟩ T ?_ ?_ q1 n5 b5
    · refine T.keep _ _ _ st fun b hb o e => keep3 b o (nP b (f1 b hb).1) e
    · intro b hb
      refine ⟨⟨?_, (f1 b hb).2⟩, Nat.lt_of_lt_of_le (fsz b hb) hsz⟩
      rw [upd_ne (nP b (f1 b hb).1)]
      exact (f1 b hb).1
  refine ⟨I1.nolimit, ?_⟩
  cases hf : codeAmong gpos ps.toList with
  | none =>
    refine wpAny_genexprCodeX hcode (cd.code hPs ht) (cd.tab hPs) hf fun c' h' tk hx hge hlt hco' _ htab' _ => ?_
    obtain ⟨o1, vs, f1', tf, fl, tg', inF, tx, tt, op, _, _, _, _, _, _, _, _, _, htr, _⟩ := hco'
    exact cont _ h' tk _ hx (Nat.le_trans hge (Nat.le_of_lt hlt)) htab'.2 ⟨_, rfl⟩ htr
  | some cv =>
    refine wpAny_genexprCode_hit hcode (cd.code hPs ht) hf ?_
    exact cont cv s2.heap s2.toks ps (Heap.ExtBut.refl _ _) (Nat.le_refl _) hPs ⟨#[], by simp⟩ ht
end
/-- nothing but the table of generators has changed -/
structure Woke (s s2 : Shared) : Prop where
  hp : s2.heap = s.heap
  os : s2.os = s.os
  br : AllBare s2.gens
theorem inv_woke {X : Cx} {pins : List (Addr × Obj)} {σ : L2.St} {H : Hp} {s s2 : Shared} (I : Inv X pins σ H s) (k : Woke s s2) : Inv X pins σ H s2 := by
  obtain ⟨h2, g2, d2, t2, o2⟩ := s2
  obtain ⟨h1, g1, d1, t1, o1⟩ := s
  obtain ⟨e1, e2, br⟩ := k
  dsimp only at e1 e2
  subst e1 e2
  exact ⟨I.ok, I.os, br, I.base, I.loc, I.cell, I.free, I.freeC, I.pin, I.hok, I.len⟩
/-- what a generator expression under all is asked -/
def gTurns (J : It) (g : TG) (te : TE) (σw : L2.St) (vs : List Nat) (W : Nat → Nat → Hp → Prop) (Q : Bool → Hp → Prop) : Prop :=
  ∀ i m H, W i m H → (J.stop i H ∧ Q true H) ∨ (J.go i H ∧ ∀ x H', J.yld i H x H' → g x σw H' fun σ2 H2 => wipe σ2 vs = σw ∧ te σ2 H2 fun y H3 => ∃ b, y = .bl b ∧ if b = true then ∃ m', m' < m ∧ W (i + 1) m' H3 else Q false H3)
def gFin (G : Cx) (pn : Addr × Obj) (σw : L2.St) (Q : Bool → Hp → Prop) (b : Bool) (s : Shared) : Prop := ∃ H', Inv G [pn] σw H' s ∧ Q b H'
def gY (G : Cx) (pn : Addr × Obj) (σw : L2.St) (Q : Bool → Hp → Prop) : Protocol := fun _ _ v s kap =>
  ∃ b : Bool, v = .bool b ∧ (∃ H', Inv G [pn] σw H' s) ∧ (b = true → ∀ s2, Woke s s2 → kap (.send .none) s2) ∧ (b = false → gFin G pn σw Q false s)
section
variable {G : Cx} {pn : Addr × Obj} {σw : L2.St} {Q : Bool → Hp → Prop} {A2 : Around} {elt tg iter : Expr} {scope : Scope} {gpos : Pos} {it : Addr} {fp : List Addr} {tn : Nat → Heap → Prop} {J : It} {g : TG} {te : TE} {vs : List Nat} {W : Nat → Nat → Hp → Prop}
theorem gen_loop (hA : G.A = A2.over (.compLoop (.GeneratorExp elt [⟨tg, iter, [], 0⟩] scope gpos) 0 (.ref it) .none G.env) []) (hc : G.calm = true) (hex : G.ex = fp) (hpn : G.pn = []) (hxe : G.xe = fun _ _ => False) (hco : G.env.scope.isCoroutine = false)
    (T : Turn G.prog G.w G.K tg J fp it tn) (hgp : ∀ b ∈ fp, pn.1 ≠ b) (pg : PG G tg g) (pe : PE G elt te) (hsw : ∀ σ2 : L2.St, wipe σ2 vs = σw → σ2.length = σw.length ∧ ∀ (i : Nat) v, σw[i]? = some (some v) → σ2[i]? = some (some v)) (turn : gTurns J g te σw vs W Q) :
    ∀ (m n i : Nat) (s₀ s : Shared), m < n → (∃ H', Inv G [pn] σw H' s ∧ tn i s.heap ∧ (∀ b ∈ fp, H' b = none) ∧ W i m H') →
      Seg (model G.prog G.w) A2 (fun _ _ r s1 => r = .ok .next ∧ gFin G pn σw Q true s1) (gY G pn σw Q) n s₀ (.compLoop (.GeneratorExp elt [⟨tg, iter, [], 0⟩] scope gpos) 0 (.ref it) .none G.env)
        ((model G.prog G.w).den (.compLoop (.GeneratorExp elt [⟨tg, iter, [], 0⟩] scope gpos) 0 (.ref it) .none G.env)) [] s := by
  have stat : ∀ {σ' : L2.St} {H' : Hp} {s' : Shared}, Inv G [pn] σ' H' s' → (∀ b ∈ fp, H' b = none) → ∀ b ∈ fp, FpOk G [pn] H' b := fun {σ' H' s'} I' hn b hb => by
    have hb2 : b ∈ G.ex := by
      rw [hex]
      exact hb
    refine ⟨hn b hb, (I'.ok.exf b hb2).1, I'.ok.exfs b hb2, .inl hb2, fun x c e => (I'.ok.exf b hb2).2 x c e, fun p hp => ?_⟩
    rw [hpn] at hp
    have hp2 : p ∈ [pn] := hp
    rw [List.mem_singleton.mp hp2]
    exact hgp b hb
  intro m
  induction m using Nat.strongRecOn with
  | ind m ih =>
    rintro n i s₀ s hmn ⟨H', I, st, nf, w⟩
    obtain ⟨n, rfl⟩ : ∃ n', n = n' + 1 := ⟨n - 1, by omega⟩
    show Seg _ A2 _ _ _ s₀ _ ((compTurn (.GeneratorExp elt [⟨tg, iter, [], 0⟩] scope gpos) 0 (.ref it) .none G.env).onRaise (leaving G.env)) [] s
    rw [compTurn_gen, Sem.onRaise_eq_wrap]
    refine seg_bind_wrap (wpAny_standAt ?_)
    rcases turn i m H' w with ⟨stop, qq⟩ | ⟨gox, step⟩
    · have td := T.done G rfl rfl rfl hc i [pn] s σw H' (fun _ _ => False) I (stat I nf) st stop
      rw [hA] at td
      refine seg_bind_wrap (thnF td fun r s6 z => ?_)
      obtain ⟨hr, I6⟩ := z
      subst hr
      exact seg_end (.ok .next) ⟨rfl, H', I6, qq⟩
    · have ti := T.item G rfl rfl rfl hc i [pn] s σw H' (fun _ _ => False) I (stat I nf) st gox
      rw [hA] at ti
      refine seg_bind_wrap (thnF ti fun r s6 z => ?_)
      obtain ⟨u, hr, h6⟩ := z
      subst hr
      refine seg_bind_wrap (thnF h6 fun _ s7 z => ?_)
      obtain ⟨x, H7, I7, r7, y7, st7, n7⟩ := z
      have I7' := I7.pinned (stat I7 n7) (T.obj _ _ st7)
      have pr := pg.run _ s7 _ H7 x u _ I7' r7 (step x H7 y7)
      rw [hA, hxe] at pr
      refine seg_bind_wrap (thnF pr fun _ s8 z => ?_)
      obtain ⟨σ8, H8, I8, hw8, q8⟩ := z
      have hy : ∀ v, yieldOut G.env v = yieldValue v := fun v => by simp only [yieldOut, hco, Bool.false_eq_true, if_false]
      simp only [List.forIn_nil, hy]
      refine seg_bind_wrap (wpAny_pure ?_)
      simp only [if_true]
      rw [Sem.bind_eq_wrap', Sem.bind_eq_wrap', Sem.wrap_wrap, Sem.wrap_wrap]
      have er := pe.run _ s8 σ8 H8 _ I8 q8
      rw [hA, hxe] at er
      refine seg_wrap (thnF er fun z s10 zz => ?_)
      obtain ⟨yv, H10, I10, r10, b, rfl, nx⟩ := zz
      cases r10
      have pin' : ∀ b ∈ fp, ∀ o, s7.heap.get? b = some o → s10.heap.get? b = some o ∧ H10 b = none := fun b hb o e =>
        let z := I10.pin (b, o) (List.mem_append_right _ (List.mem_append_right _ (mem_pinsAt hb e)))
        ⟨z.1, z.2.1⟩
      obtain ⟨hl8, hk8⟩ := hsw σ8 hw8
      have J10 : Inv G [pn] σw H10 s10 := (I10.unpinned (pins := [pn])).weak hl8.symm hk8
      refine seg_at (seg_yield rfl rfl rfl ⟨b, rfl, ⟨H10, J10⟩, fun hb s2 wk => ?_, fun hb => ?_⟩)
      · subst hb
        rw [if_pos rfl] at nx
        obtain ⟨m', hm', w'⟩ := nx
        refine seg_again rfl (ih m' hm' n (i + 1) s2 s2 (by omega) ⟨H10, inv_woke J10 wk, ?_, fun b hb => ?_, w'⟩)
        · rw [wk.hp]
          exact T.keep _ _ _ st7 fun b hb o e => (pin' b hb o e).1
        · obtain ⟨o, e, _⟩ := T.obj _ _ st7 b hb
          exact (pin' b hb o e).2
      · subst hb
        exact ⟨H10, J10, nx⟩
end
section
variable {M : Model} {A2 : Around} {R : GenEnd} {Y : Protocol} {n : Nat} {s₀ s : Shared} {elt tg iter : Expr} {scope : Scope} {gpos : Pos} {it : Addr} {ge : Env}
/-- the first turn -/
theorem gen_first {P : Program} {w : World} (hself : ∀ (Q : Value → Shared → Prop) (E : Value → Shared → Prop), Q (.ref it) s → wpAny (model P w) (A2.over (.compStart (.GeneratorExp elt [⟨tg, iter, [], 0⟩] scope gpos) 0 (.ref it) .none ge) []) (pyIter (.ref it)) Q E s)
    (loop : Seg (model P w) A2 R Y n s₀ (.compLoop (.GeneratorExp elt [⟨tg, iter, [], 0⟩] scope gpos) 0 (.ref it) .none ge) ((model P w).den (.compLoop (.GeneratorExp elt [⟨tg, iter, [], 0⟩] scope gpos) 0 (.ref it) .none ge)) [] s) :
    Seg (model P w) A2 R Y n s₀ (.compStart (.GeneratorExp elt [⟨tg, iter, [], 0⟩] scope gpos) 0 (.ref it) .none ge) ((model P w).den (.compStart (.GeneratorExp elt [⟨tg, iter, [], 0⟩] scope gpos) 0 (.ref it) .none ge)) [] s := by
  show Seg _ A2 _ _ _ s₀ _ ((compStart (.GeneratorExp elt [⟨tg, iter, [], 0⟩] scope gpos) 0 (.ref it) .none ge).onRaise (leaving ge)) [] s
  unfold compStart
  rw [Sem.onRaise_eq_wrap]
  show Seg _ A2 _ _ _ s₀ _ ((ask >>= _).wrap _ _ _ _) [] s
  refine seg_bind_wrap (wpAny_askSetting ?_)
  split
  · exact seg_again rfl loop
  · first
      | exact seg_bind_wrap (wpAny_rule (seg_bind_wrap (wpAny_standAt (seg_bind_wrap (hself _ _ (seg_again rfl loop))))))
      | (refine seg_bind_wrap (wpAny_rule ?_)
         show Seg _ A2 _ _ _ s₀ _ ((standAt iter.pos >>= _).wrap _ _ _ _) [] s
         exact seg_bind_wrap (wpAny_standAt (seg_bind_wrap (hself _ _ (seg_again rfl loop)))))
end
theorem bare_set {gens : Array GenState} {x : GenState} (h : AllBare gens) (hx : x.bare = true) (i : Nat) : AllBare (gens.setIfInBounds i x) := fun y hy => by
  rw [Array.mem_iff_getElem?] at hy
  obtain ⟨j, hj⟩ := hy
  by_cases e : i = j
  · subst e
    by_cases hi : i < gens.size
    · rw [Array.getElem?_setIfInBounds_self_of_lt hi] at hj
      rw [← Option.some.inj hj]
      exact hx
    · rw [Array.getElem?_eq_none (by simpa using hi)] at hj
      cases hj
  · rw [Array.getElem?_setIfInBounds_ne e] at hj
    exact h y (Array.mem_iff_getElem?.mpr ⟨j, hj⟩)
/-- all over the generator at a, number gi: its turns by the protocol -/
theorem all_gen {G : Cx} {pn : Addr × Obj} {σw : L2.St} {Q : Bool → Hp → Prop} {A : Around} {gi : Nat} {RR : Result → Shared → Prop} (hh : A.handled = none) (hroom : A.depth < recursionLimit) (hgen : ∀ h : Heap, h.get? pn.1 = some pn.2 → h.IsGen pn.1 gi)
    (hR : ∀ b s1, gFin G pn σw Q b s1 → ∀ s2 : Shared, (∀ b o, s1.heap.get? b = some o → s2.heap.get? b = some o) → s2.os = s1.os → AllBare s2.gens → RR (.ok (.ret (.bool b))) s2) :
    ∀ (n : Nat) (s : Shared), (∃ H', Inv G [pn] σw H' s) → gi < s.gens.size → (∃ gs, s.gens[gi]? = some gs ∧ ∀ s2, Woke s s2 → gs.Goes (model G.prog G.w) A.in1.in1 (fun _ _ r s1 => r = .ok .next ∧ gFin G pn σw Q true s1) (gY G pn σw Q) n (.send .none) s2) →
      codeAny (model G.prog G.w) A (.builtin "all.loop" ⟨[.ref pn.1], []⟩) RR s := by
  intro n
  induction n using Nat.strongRecOn with
  | ind n ih =>
    rintro s ⟨H', I⟩ hgi ⟨gs, hgs, hgo⟩
    have hpin := (I.pin pn (List.mem_append_right _ (List.mem_singleton.mpr rfl))).1
    have brun : AllBare (s.setGen gi .running).gens := bare_set I.bare rfl gi
    refine codeAny_builtin F.entry_all_loop ?_
    rw [Around.under_plainId F.plain_all_loop _]
    show wpAny _ A.in1 (pyNext (.ref pn.1) >>= _) _ _ s
    refine wpAny_bind (GenW.wpAny_gsz (n := s.gens.size) (Nat.le_refl _) ?_)
    refine wpAny_pyNext_genexpQ (P := fun _ _ s1 => gFin G pn σw Q true s1) hh I.nolimit hroom (hgen _ hpin) hgs (hgo _ ⟨rfl, rfl, brun⟩) (fun v s₁ gs' hb hv hsz => ?_) (fun s₁ hp h' hk hsz => ?_)
    · obtain ⟨b, rfl, ⟨H1, I1⟩, ht, hf⟩ := hv
      have b1 : AllBare (s₁.setGen gi gs').gens := bare_set I1.bare hb gi
      refine wpAny_bind (wpAny_holding (wpAny_truthy_bool ?_))
      refine wpAny_bind (wpAny_letGo ?_)
      cases b with
      | false =>
        simp only [Bool.false_eq_true, if_false]
        refine wpAny_bind (wpAny_rule (wpAny_pure ?_))
        exact hR false s₁ (hf rfl) (s₁.setGen gi gs') (fun _ _ e => e) rfl b1
      | true =>
        simp only [if_true]
        have hlt : gi < (s₁.setGen gi gs').gens.size := Nat.lt_of_lt_of_le hgi hsz
        have hlt1 : gi < s₁.gens.size := by
          have e := GenW.setGen_size s₁ gi gs'
          omega
        cases n with
        | zero => exact absurd (ht rfl s₁ ⟨rfl, rfl, I1.bare⟩) id
        | succ n =>
          refine wpAny_pure ⟨plainId_quiet F.plain_all_loop _, ih n (Nat.lt_succ_self n) (s₁.setGen gi gs') ⟨H1, inv_woke I1 ⟨rfl, rfl, b1⟩⟩ hlt ⟨gs', ?_, fun s2 wk => ht rfl s2 ⟨wk.hp, wk.os, wk.br⟩⟩⟩
          show (s₁.gens.setIfInBounds gi gs')[gi]? = some gs'
          rw [Array.getElem?_setIfInBounds_self_of_lt hlt1]
    · refine wpAny_bind (wpAny_rule (wpAny_pure ?_))
      obtain ⟨H1, I1, q1⟩ := id hp
      exact hR true s₁ hp { s₁.setGen gi .finished with heap := h' } hk rfl (bare_set I1.bare rfl gi)
def tAllG (P : Addr) (wi : TI) (g : TG) (te : TE) (vs : List Nat) : TE := fun σ H Q => wi σ H fun J H1 => GxR.TabG H1 P ∧ ∀ H2, GxR.Tabbed P H1 H2 → ∃ W : Nat → Nat → Hp → Prop, (∃ m, W 0 m H2) ∧ gTurns J g te (wipe σ vs) vs W (fun b H' => Q (.bl b) H')
theorem pe_allG {X : Cx} {c P : Addr} {elt tg iter : Expr} {p pos gpos : Pos} {scope : Scope} {own : List (Str × Nat)} {wi : TI} {g : TG} {te : TE} {k : Nat} (hr : Room (k + 1) X.A) (hc : X.calm = true) (hN : X.N.Nodup) (hg : Gl X "all") (hm : X.mg "all" = none) (hb : bootBuiltins "all" = some (.builtin "all"))
    (TB : GxR.TabB X.base X.mg c P) (hcode : X.env.code = .ref c) (ok : BlkOk X.N X.env.scope scope own) (hco : scope.isCoroutine = false) (nocell : ∀ y ∈ scope.names, y.2 ≠ .cell) (hdot : scope.names.lookup (".0" : Str) = some NameKind.local) (hi : PI X tg iter wi)
    (hgt : ∀ (s : Shared) (H : Hp) (cl : List (Str × Addr)) (C : Addr) (code : Value) (fp : List Addr) (Ag : Around), PG (gcx X s H (genEnv scope cl C code builtinsNs X.env) fp Ag) tg g)
    (hel : ∀ (s : Shared) (H : Hp) (cl : List (Str × Addr)) (C : Addr) (code : Value) (fp : List Addr) (Ag : Around), Room k Ag → PE (gcx X s H (genEnv scope cl C code builtinsNs X.env) fp Ag) elt te)
    (hs : ∀ v, genFold iter X.env v = pure v := by intro _; rfl)
    (he : starEach [.GeneratorExp elt [⟨tg, iter, [], 0⟩] scope gpos] X.env = (false, eval (.GeneratorExp elt [⟨tg, iter, [], 0⟩] scope gpos) X.env) :: starEach [] X.env := by rfl) :
    PE X (.Call (.Name "all" p) [.GeneratorExp elt [⟨tg, iter, [], 0⟩] scope gpos] [] pos) (tAllG P wi g te (own.map (·.2))) := by
  constructor
  intro pins s σ H Q I h
  refine wpAny_Call_Name_kw (ld_blt I hg hm hb ?_)
  refine PyProof.Rows.callWith_builtin1 ?_ he (by rfl)
  rw [he]
  show wpAny _ _ (spliced ((false, eval (.GeneratorExp elt [⟨tg, iter, [], 0⟩] scope gpos) X.env) :: backTo pos (starEach [] X.env))) _ _ s
  refine Calls.spliced_cons (gen_make (hr.mono (Nat.le_succ k)) TB hcode ok hco nocell hdot hi hs I h fun it fp tn J H1 H2 code s4 h5 I4 tb T st f4 hR n5 b5 => ?_)
  refine Calls.spliced_nil ?_
  obtain ⟨W, ⟨m, w0⟩, turns⟩ := hR H2 tb
  show wpAny _ _ (call (.builtin "all") [.ref h5.objs.size]) _ _ _
  have sz5 : h5.objs.size = s4.heap.objs.size + 1 := by
    rw [b5.1, Heap.size_push]
  generalize hge : genEnv scope (cloFrom X.env.cells scope.names []) s4.heap.objs.size code builtinsNs X.env = ge
  have k5 : ∀ b o, s4.heap.get? b = some o → (h5.push (genO X s4)).get? b = some o := fun b o e =>
    Heap.get?_push_of_some _ (b5.extBut b o (Nat.ne_of_lt (Heap.lt_size e)) (Heap.get?_push_of_some _ e))
  have ga5 : (h5.push (genO X s4)).get? h5.objs.size = some (genO X s4) := Heap.get?_push_size _ rfl
  have hAg : (X.A.in1.in1.over (.compLoop (.GeneratorExp elt [⟨tg, iter, [], 0⟩] scope gpos) 0 (.ref it) .none ge) []).handled = none := hr.hd
  have hFr : (X.A.in1.in1.over (.compLoop (.GeneratorExp elt [⟨tg, iter, [], 0⟩] scope gpos) 0 (.ref it) .none ge) []).frames = some (ge :: X.stack) := by
    show pushEnvs [ge] (pushEnvs [] X.A.frames) = some (ge :: X.stack)
    rw [I4.ok.frames]
    rfl
  have hRm : Room k (X.A.in1.in1.over (.compLoop (.GeneratorExp elt [⟨tg, iter, [], 0⟩] scope gpos) 0 (.ref it) .none ge) []) := by
    have e1 : (X.A.in1.in1.over (.compLoop (.GeneratorExp elt [⟨tg, iter, [], 0⟩] scope gpos) 0 (.ref it) .none ge) []).depth = X.A.depth + 1 := rfl
    have e2 : (X.A.in1.in1.over (.compLoop (.GeneratorExp elt [⟨tg, iter, [], 0⟩] scope gpos) 0 (.ref it) .none ge) []).units = X.A.units + 5 := rfl
    have d1 := hr.dp
    have d2 := hr.un
    exact ⟨hr.hd, by rw [e1]; omega, by rw [e2]; omega⟩
  have I5 := gen_start (s5 := { s4 with gens := s4.gens.push (.fresh (.compStart (.GeneratorExp elt [⟨tg, iter, [], 0⟩] scope gpos) 0 (.ref it) .none ge)), toks := s4.toks + 1 + 1 + 1, heap := h5.push (genO X s4) }) I4 ok hN f4 hge.symm nocell hAg hFr k5 rfl (I4.bare.push rfl) (n5.keeps fun b o e => Heap.get?_push_of_some _ e) ga5 (by omega) (fun v z => by cases z)
  have st5 : tn 0 (h5.push (genO X s4)) := T.keep _ _ _ st fun b _ o e => k5 b o e
  refine call_function_tree F.kind_all F.plain_all F.entry_all (F.args_all1 _) ?_
  unfold Builtin.«all»
  refine wpAny_bind (m := oneArg "all" _) (wpAny_pure ?_)
  have isg : ∀ hh : Heap, hh.get? h5.objs.size = some (genO X s4) → hh.IsGen h5.objs.size s4.gens.size := fun hh e => ⟨_, _, _, e, rfl, rfl, rfl⟩
  refine wpAny_bind (wpAny_pyIter_gen (isg _ ga5) ?_)
  refine wpAny_pure ⟨plainId_quiet F.plain_all_loop _, ?_⟩
  refine all_gen (G := gcx X s4 H2 ge fp (X.A.in1.in1.over (.compLoop (.GeneratorExp elt [⟨tg, iter, [], 0⟩] scope gpos) 0 (.ref it) .none ge) [])) (pn := (h5.objs.size, genO X s4)) (σw := wipe σ (own.map (·.2))) (Q := fun b H' => Q (.bl b) H') (gi := s4.gens.size)
    hr.hd (by have := hr.dp; omega) isg (fun b s1 hf s2 hk ho hbr => ?_) (m + 1) _ ⟨H2, I5⟩ (by show s4.gens.size < (s4.gens.push _).size; rw [Array.size_push]; omega) ⟨.fresh (.compStart (.GeneratorExp elt [⟨tg, iter, [], 0⟩] scope gpos) 0 (.ref it) .none ge), by show (s4.gens.push _)[s4.gens.size]? = some _; rw [Array.getElem?_push_size], fun s2 wk => ⟨rfl, ?_⟩⟩
  · obtain ⟨H', I', q'⟩ := hf
    have un : Un (frs X.stack) fp H2 H' s4.heap s2.heap := Un.trans I'.base (Un.kept hk)
    have J' : Inv X pins σ H' s2 := I4.call' (ch := fp) (ho.trans I'.os) un (I'.hok.kept hk) hbr fun b hb => ⟨(f4 b hb).1.2.2.2.1, (f4 b hb).1.2.1, (f4 b hb).1.2.2.2.2.1, (f4 b hb).1.2.2.2.2.2⟩
    exact ⟨.bl b, H', J', rfl, q'⟩
  · have nfp : ∀ b ∈ fp, H2 b = none := fun b hb => (f4 b hb).1.1
    refine gen_first (fun Q1 E1 q1 => T.self _ 0 s2 Q1 E1 (by rw [wk.hp]; exact st5) q1) ?_
    refine gen_loop (G := gcx X s4 H2 ge fp (X.A.in1.in1.over (.compLoop (.GeneratorExp elt [⟨tg, iter, [], 0⟩] scope gpos) 0 (.ref it) .none ge) [])) (tn := tn) (vs := own.map (·.2)) (W := W) rfl hc rfl rfl rfl ?_ T (fun b hb => ?_) ?_ ?_ ?_ turns m (m + 1) 0 s2 s2 (Nat.lt_succ_self m) ⟨H2, inv_woke I5 wk, by rw [wk.hp]; exact st5, nfp, w0⟩
    · show ge.scope.isCoroutine = false
      rw [← hge]
      exact hco
    · have hb4 : b < s4.heap.objs.size := (f4 b hb).2
      intro z
      have z2 : h5.objs.size = b := z
      rw [← z2, sz5] at hb4
      exact absurd hb4 (Nat.not_lt.mpr (Nat.le_succ _))
    · rw [← hge]
      exact hgt _ _ _ _ _ _ _
    · subst hge
      exact hel _ _ _ _ _ _ _ hRm
    · intro σ2 e2
      refine ⟨?_, fun i v e3 => ?_⟩
      · rw [← wipe_length σ2 (own.map (·.2)), e2]
      · rw [← e2] at e3
        exact (wipe_some e3).1

/-- all over zip of two tuples of one length -/
theorem gturns_zipT {K : PySem.W.Frag} {a b : Addr} {xs ys : List V} {g : TG} {te : TE} {σw : L2.St} {vs : List Nat} {Q : Bool → Hp → Prop} {H : Hp} (hl : xs.length = ys.length) (Pv : Nat → Hp → Prop) (h0 : Pv 0 H) (hq : ∀ i H, Pv i H → SqT K H a xs ∧ SqT K H b ys)
    (hs : ∀ (i : Nat) (x y : V) (T : Addr) (H : Hp) (N : Hp → Prop), xs[i]? = some x → ys[i]? = some y → Pv i H → H T = none → (∀ H3, Pv (i + 1) H3 → N H3) → g (.ref T) σw (upd H T (.tup [x, y])) fun σ2 H2 => wipe σ2 vs = σw ∧ te σ2 H2 fun v H3 => ∃ b, v = .bl b ∧ if b = true then N H3 else Q false H3)
    (hd : ∀ H, Pv xs.length H → Q true H) : ∃ W : Nat → Nat → Hp → Prop, (∃ m, W 0 m H) ∧ gTurns (RZ.ItzT K a b) g te σw vs W Q := by
  refine ⟨fun i m H => m = xs.length - i ∧ i ≤ xs.length ∧ Pv i H, ⟨xs.length, rfl, Nat.zero_le _, h0⟩, fun i m H st => ?_⟩
  obtain ⟨em, le, pv⟩ := st
  have two := hq i H pv
  rcases Nat.lt_or_eq_of_le le with lt | eq
  · refine .inr ⟨⟨xs, ys, xs[i], ys[i], two.1, two.2, List.getElem?_eq_getElem lt, List.getElem?_eq_getElem (hl ▸ lt)⟩, fun v H' y => ?_⟩
    obtain ⟨tp, a1, a2, rfl, free, rfl, w1, w2⟩ := y
    exact hs i a1 a2 tp H _ (w1 xs two.1) (w2 ys two.2) pv free fun H3 p' => ⟨xs.length - (i + 1), by omega, rfl, lt, p'⟩
  · subst eq
    exact .inl ⟨⟨xs, ys, two.1, two.2, Or.inl (Nat.le_refl _)⟩, hd H pv⟩

/-! ### zip of a text and a tuple -/
def ItzS (K : PySem.W.Frag) (x : Str) (b : Addr) : It :=
  ⟨fun i H => ∃ (ys : List V) (c : Nat) (y : V), SqT K H b ys ∧ x.cps[i]? = some c ∧ ys[i]? = some y,
    fun i H v H' => ∃ (T : Addr) (c : Nat) (y : V), v = .ref T ∧ H T = none ∧ H' = upd H T (.tup [.str ⟨#[c]⟩, y]) ∧ x.cps[i]? = some c ∧ ∀ ys, SqT K H b ys → ys[i]? = some y,
    fun i H => ∃ ys : List V, SqT K H b ys ∧ i ≤ x.cps.size ∧ i ≤ ys.length ∧ (i = x.cps.size ∨ i = ys.length)⟩
theorem zip_sep {z TI TO i1 i2 b : Addr} (D : ZipApart z TI TO i1 i2 b b) : ZipSep2 z TI TO i1 i2 [i1] [i2, b] where
  TIz := D.TIz
  TOz := D.TOz
  TITO := D.TITO
  TIi1 := D.TIi1
  mem1 := List.mem_singleton.mpr rfl
  zf1 := fun h => D.i1z (List.mem_singleton.mp h).symm
  Tf1 := fun h => D.TOi1 (List.mem_singleton.mp h)
  TIi2 := D.TIi2
  mem2 := List.mem_cons_self
  zf2 := fun h => by
    rcases List.mem_cons.mp h with e | e
    · exact D.i2z e.symm
    · exact D.l1z (List.mem_singleton.mp e).symm
  Tf2 := fun h => by
    rcases List.mem_cons.mp h with e | e
    · exact D.TOi2 e
    · exact D.l1TO (List.mem_singleton.mp e).symm
  sep1_2 := fun h => by
    rcases List.mem_cons.mp h with e | e
    · exact D.i12 e
    · exact D.l1i1 (List.mem_singleton.mp e).symm
  sep2_1 := fun h => D.i12 (List.mem_singleton.mp h).symm
/-- the five cells of a running zip of the text x and the tuple at b, i turns done -/
structure ZipGo (x : Str) (t : Tok) (z TI TO i1 i2 b : Addr) (i : Nat) (h : Heap) : Prop where
  zp : IsZip h z TI TO .none
  ins : IsPair h TI (.ref i1) (.ref i2)
  out : ∃ p : Value × Value, IsPair h TO p.1 p.2
  txt : h.IsStrIter i1 (strIterType x) x t i
  tup : h.IsTupleIter i2 b i
theorem five {z TI TO i1 i2 c : Addr} {Pr : Addr → Prop} (h : c ∈ [z, TI, TO, i1, i2]) (pz : Pr z) (pI : Pr TI) (pO : Pr TO) (p1 : Pr i1) (p2 : Pr i2) : Pr c := by
  simp only [List.mem_cons, List.not_mem_nil, or_false] at h
  rcases h with rfl | rfl | rfl | rfl | rfl
  all_goals assumption
theorem apart5 {z TI TO i1 i2 c : Addr} (h : c ∉ [z, TI, TO, i1, i2]) : c ≠ z ∧ c ≠ TO ∧ c ≠ i1 ∧ c ≠ i2 := by
  simp only [List.mem_cons, List.not_mem_nil, or_false, not_or] at h
  exact ⟨h.1, h.2.2.1, h.2.2.2.1, h.2.2.2.2⟩
section
variable {x : Str} {t : Tok} {z TI TO i1 i2 b : Addr} {i : Nat} {h h' : Heap}
theorem ZipGo.obj (g : ZipGo x t z TI TO i1 i2 b i h) {c : Addr} (hc : c ∈ [z, TI, TO, i1, i2]) : ∃ o, h.get? c = some o ∧ ∀ v, o.data ≠ .cell v := by
  obtain ⟨p, hp⟩ := g.out
  obtain ⟨oa, ea, _, da⟩ := g.txt
  obtain ⟨ob, eb, _, db⟩ := g.tup
  refine five (Pr := fun c => ∃ o, h.get? c = some o ∧ ∀ v, o.data ≠ .cell v) hc ⟨_, g.zp, ?_⟩ ⟨_, g.ins, ?_⟩ ⟨_, hp, ?_⟩ ⟨oa, ea, ?_⟩ ⟨ob, eb, ?_⟩
  · intro v e; cases e
  · intro v e; cases e
  · intro v e; cases e
  · intro v e; rw [da] at e; cases e
  · intro v e; rw [db] at e; cases e
theorem ZipGo.lt (g : ZipGo x t z TI TO i1 i2 b i h) {c : Addr} (hc : c ∈ [z, TI, TO, i1, i2]) : c < h.objs.size := by
  obtain ⟨o, e, _⟩ := g.obj hc
  exact Heap.lt_size e
theorem ZipGo.on (g : ZipGo x t z TI TO i1 i2 b i h) (k : ∀ c ∈ [z, TI, TO, i1, i2], ∀ o, h.get? c = some o → h'.get? c = some o) : ZipGo x t z TI TO i1 i2 b i h' := by
  obtain ⟨p, hp⟩ := g.out
  obtain ⟨oa, ea, ra⟩ := g.txt
  exact ⟨k z (by simp) _ g.zp, k TI (by simp) _ g.ins, ⟨p, k TO (by simp) _ hp⟩, ⟨oa, k i1 (by simp) _ ea, ra⟩, g.tup.at (k i2 (by simp))⟩
end
theorem turn_zipS {P : Program} {w : World} {K : PySem.W.Frag} {elts : List Expr} {kk : Nat} {tpos : Pos} {x : Str} {t : Tok} {b z TI TO i1 i2 : Addr} (D : ZipApart z TI TO i1 i2 b b) :
    Turn P w K (.Tuple elts kk tpos) (ItzS K x b) [z, TI, TO, i1, i2] z (ZipGo x t z TI TO i1 i2 b) where
  mem := List.mem_cons_self
  obj := fun _ _ g _ hc => g.obj hc
  keep := fun _ _ _ g k => g.on k
  item := by
    intro X eP ew eK calm n pins s σ H E I fps g go
    subst eP ew eK
    obtain ⟨ys, c, y, tys, ec, ey⟩ := go
    obtain ⟨vs, rel, tupAt, _⟩ := I.tuple tys
    obtain ⟨u, eu, ru⟩ := rel.get ey
    obtain ⟨p, hp⟩ := g.out
    have zlt := g.lt (c := z) (by simp)
    have n1 : n < x.cps.size := Nat.lt_of_not_le fun le => by
      rw [Array.getElem?_eq_none le] at ec
      cases ec
    have n2 : n < vs.toArray.size := by simpa using (List.getElem?_eq_some_iff.mp eu).1
    have calmA : X.A.in1.handled = none := I.ok.hd calm
    refine wpAny_pyNext_zipD2_item (zip_sep D) (Draws.text calmA i1 x t) (Draws.tuple calmA i2 b D.l1i2 vs.toArray) g.zp g.ins hp g.txt ⟨g.tup, tupAt⟩ n1 n2 fun v1 v2 h1 tk P1 P2 zp1 out1 txt1 tup1 new1 _ kept1 => ?_
    obtain ⟨c', k, ec', rfl⟩ := P1
    obtain rfl : c = c' := Option.some.inj (ec.symm.trans ec')
    obtain rfl : u = v2 := Option.some.inj (eu.symm.trans (by simpa using P2))
    refine ⟨_, rfl, wpAny_letOwnedTupleGo_zip (s := { s with heap := h1, toks := tk }) zp1 fun h2 zp2 sb => ?_⟩
    have up : ∀ d, d ≠ z → h2.get? d = h1.get? d := fun d nd => sb.2 d nd
    have kept2 : ∀ d o, d ∉ [z, TI, TO, i1, i2] → s.heap.get? d = some o → h2.get? d = some o := fun d o nd e => by
      obtain ⟨a1, a2, a3, a4⟩ := apart5 nd
      rw [up d a1]
      exact kept1 d o a1 a2 a3 a4 e
    have new2 : h2.get? s.heap.objs.size = some { cls := .type "tuple", data := .seq #[.str ⟨#[c]⟩ k, u] } := (up _ (Nat.ne_of_gt zlt)).trans new1
    have I2 := I.turnedNew (t' := tk) (ch := [z, TI, TO, i1, i2]) (ob := .tup [.str ⟨#[c]⟩, y]) kept2 fps (Nat.le_refl _) ⟨show 2 ≤ sizeLine by decide, [.str ⟨#[c]⟩ k, u], .cons ⟨k, rfl⟩ (.cons ru .nil), ⟨_, new2, rfl, _, rfl⟩⟩
    refine ⟨.ref s.heap.objs.size, _, I2, rfl, ⟨_, c, y, rfl, I.hok.fresh (Nat.le_refl _), rfl, ec, fun l tl => (I.tuple_inj tl tys) ▸ ey⟩, ⟨zp2, ?_, ⟨(_, _), (up _ D.TOz).trans out1⟩, ?_, tup1.1.at fun o e => (up _ D.i2z).trans e⟩, fun d hd => ?_⟩
    · exact (up _ D.TIz).trans (kept1 TI _ D.TIz D.TITO D.TIi1 D.TIi2 g.ins)
    · obtain ⟨o, e, r⟩ := txt1
      exact ⟨o, (up _ D.i1z).trans e, r⟩
    · rw [upd_ne (Nat.ne_of_lt (g.lt hd))]
      exact (fps d hd).1
  done := by
    intro X eP ew eK calm n pins s σ H E I fps g stop
    subst eP ew eK
    obtain ⟨ys, tys, le1, le2, last⟩ := stop
    obtain ⟨vs, rel, tupAt, _⟩ := I.tuple tys
    obtain ⟨p, hp⟩ := g.out
    have lv : vs.toArray.size = ys.length := by simpa using rel.length.symm
    have calmA : X.A.in1.handled = none := I.ok.hd calm
    refine wpAny_pyNext_zipD2_end (zip_sep D) (Draws.text calmA i1 x t) (Draws.tuple calmA i2 b D.l1i2 vs.toArray) g.zp g.ins hp g.txt ⟨g.tup, tupAt⟩ le1 (by omega) (by omega) fun h1 tk kept1 => ⟨rfl, ?_⟩
    refine I.turnedL (t' := tk) (ch := [z, TI, TO, i1, i2]) (fun d o nd e => ?_) fps
    obtain ⟨a1, a2, a3, a4⟩ := apart5 nd
    exact kept1 d o a1 a2 a3 a4 e
  self := fun _ _ _ _ _ g q => wpAny_pyIter_zip g.zp q
def iZipS (K : PySem.W.Frag) (ta : TA) : TI := fun σ H R => ta σ H fun vs H1 => ∃ x b ys, vs = [.str x, .ref b] ∧ SqT K H1 b ys ∧ R (ItzS K x b) H1
theorem pi_zipS {X : Cx} {ea eb : Expr} {ta : TA} {p pos tpos : Pos} {elts : List Expr} {kk : Nat} (gl : Gl X "zip") (own : X.mg "zip" = none) (args : PA X [ea, eb] ta)
    (star : starEach [ea, eb] X.env = (false, eval ea X.env) :: starEach [eb] X.env := by rfl) (plain : (backTo pos (starEach [eb] X.env)).any (·.1) = false := by rfl) :
    PI X (.Tuple elts kk tpos) (.Call (.Name "zip" p) [ea, eb] [] pos) (iZipS X.K ta) := by
  constructor
  intro pins s σ H R I q
  refine Call_ (ld_blt I gl own PyProof.Rows.boot_zip (PyProof.Rows.callWith_type1 ?_ star plain))
  refine thn (args.run pos pins s σ H _ I q) fun us s1 ans => ?_
  obtain ⟨vs, H1, J, rel, x, b, ys, rfl, tys, go⟩ := ans
  obtain ⟨u1, u2, rfl, r1, r2⟩ := vals2 rel
  obtain ⟨t, rfl⟩ := r1
  obtain rfl : u2 = Value.ref b := r2
  obtain ⟨its, _, tupAt, _⟩ := J.tuple tys
  have blt : b < s1.heap.objs.size := by
    obtain ⟨_, e, _⟩ := id tupAt
    exact Heap.lt_size e
  have fresh : ∀ c, s1.heap.objs.size ≤ c → FpOk X pins H1 c := fun c le => J.fpOk le (J.hok.fresh le)
  refine zip_begins2 (begins_text x t) (begins_tuple b its.toArray) trivial tupAt fun h2 zp ins out o1 o2 _ kept => wpAny_pyIter_zip zp ?_
  refine ⟨_, [s1.heap.objs.size + 4, s1.heap.objs.size + 2, s1.heap.objs.size + 3, s1.heap.objs.size, s1.heap.objs.size + 1], _, _, H1, rfl, J.kept (t' := s1.toks) kept, turn_zipS (t := t) (PySem.W.ktu_apart s1.heap.objs.size b b blt blt), ?_, fun c hc => ?_, go⟩
  · exact ⟨zp, ins, ⟨(_, _), out⟩, ⟨_, o1, rfl, rfl⟩, ⟨_, o2, rfl, rfl⟩⟩
  · exact five (Pr := FpOk X pins H1) hc (fresh _ (by omega)) (fresh _ (by omega)) (fresh _ (by omega)) (fresh _ (by omega)) (fresh _ (by omega))
/-- a loop over zip of a text and a tuple of one length -/
theorem for_zipS {K : PySem.W.Frag} {x : Str} {b : Addr} {ys : List V} {g : TG} {tb : TS} {D : Ends} {σ : L2.St} {H : Hp} (hl : x.cps.size = ys.length) (Pv : Nat → L2.St → Hp → Prop) (h0 : Pv 0 σ H) (hq : ∀ i σ H, Pv i σ H → SqT K H b ys)
    (hs : ∀ (i c : Nat) (y : V) (T : Addr) (σ : L2.St) (H : Hp), x.cps[i]? = some c → ys[i]? = some y → Pv i σ H → H T = none → g (.ref T) σ (upd H T (.tup [.str ⟨#[c]⟩, y])) fun σ2 H2 => tb { D with nx := Pv (i + 1), ct := Pv (i + 1), bk := D.nx } σ2 H2) (hd : ∀ σ H, Pv ys.length σ H → D.nx σ H) :
    ∃ W : Nat → Nat → L2.St → Hp → Prop, (∃ m, W 0 m σ H) ∧ ∀ i m σ H, W i m σ H →
      ((ItzS K x b).stop i H ∧ D.nx σ H) ∨ ((ItzS K x b).go i H ∧ ∃ N : L2.St → Hp → Prop, (∀ σ' H', N σ' H' → ∃ m', m' < m ∧ W (i + 1) m' σ' H') ∧ ∀ v H', (ItzS K x b).yld i H v H' → g v σ H' fun σ2 H2 => tb { D with nx := N, ct := N, bk := D.nx } σ2 H2) := by
  refine ⟨fun i m σ H => m = ys.length - i ∧ i ≤ ys.length ∧ Pv i σ H, ⟨ys.length, rfl, Nat.zero_le _, h0⟩, fun i m σ H st => ?_⟩
  obtain ⟨em, le, pv⟩ := st
  have tys := hq i σ H pv
  rcases Nat.lt_or_eq_of_le le with lt | eq
  · refine .inr ⟨⟨ys, x.cps[i], ys[i], tys, Array.getElem?_eq_getElem (hl.symm ▸ lt), List.getElem?_eq_getElem lt⟩, Pv (i + 1), fun σ' H' p' => ⟨ys.length - (i + 1), by omega, rfl, lt, p'⟩, fun v H' y => ?_⟩
    obtain ⟨tp, c, a2, rfl, free, rfl, w1, w2⟩ := y
    exact hs i c a2 tp σ H w1 (w2 ys tys) pv free
  · subst eq
    exact .inl ⟨⟨ys, tys, Nat.le_of_eq hl.symm, Nat.le_refl _, .inr rfl⟩, hd σ H pv⟩
/-! ### d.update(e) -/
def tDUpd (td ty : TE) : TE := fun σ H Q => td σ H fun x H1 => ∃ a, x = .ref a ∧ IsD H1 a ∧ ty σ H1 fun y H2 => ∃ b kvs more, y = .ref b ∧ H2 a = some (.dK kvs) ∧ H2 b = some (.dK more) ∧ a ≠ b ∧ kvs.length + more.length ≤ sizeLine ∧ Q .non (upd H2 a (.dK (mergeK kvs more)))
theorem pe_dupd {X : Cx} {o e : Expr} {apos cpos : Pos} {td ty : TE} (ho : PE X o td) (he : PE X e ty) (m : M1 X o "update" apos e cpos) : PE X (.Call (.Attribute o "update" apos) [e] [] cpos) (tDUpd td ty) := by
  refine ⟨fun pins s σ H Q I h => ?_⟩
  refine wpAny_Call_method m.base m.few m.line PySem.F.plainAttrs_dict PySem.F.slot_dict_update PySem.F.type_dict_update (thn (ho.run pins s σ H _ I h) fun u s1 ⟨x, H1, I1, rx, a, ex, d, q1⟩ => ?_)
  subst ex
  obtain rfl : u = Value.ref a := rx
  obtain ⟨t1, t2, _⟩ := isD_at I1 d
  refine ⟨t1, t2, ?_⟩
  rw [m.trees]
  refine Calls.callWith_builtin rfl (Calls.evalArgs_plain (Calls.spliced_cons (thn (he.run pins s1 σ H1 _ I1 q1) fun iv s2 ⟨y, H2, I2, ry, b, kvs, more, ey, ea, eb, ne, hz, q2⟩ => Calls.spliced_nil ?_)))
  subst ey
  obtain rfl : iv = Value.ref b := ry
  obtain ⟨za, hda, vs, ra, dda⟩ := dk_of I2.hok ea
  obtain ⟨zb, hdb, ws, rb, ddb⟩ := dk_of I2.hok eb
  refine call_meetsIn PySem.F.slot_dict_update dda.typeIs PySem.F.entry_dict_update (PySem.F.args_dict_update_2 _ _) (meets_dict_update (mixKind X.prog X.w) a b ne hdb) ⟨vs, ws, dda, ddb, (by rw [← ra.length, ← rb.length]; exact hz), fun h' hmm _ hs => ?_⟩
  have he' : ∃ q, h'.get? a = some q := let ⟨q, _, _, hq, _⟩ := hmm; ⟨q, hq⟩
  exact ⟨.non, _, d_write I2 (by rw [ea]; exact True.intro) hs he' (dk_new (Nat.le_trans (length_mergeK more kvs) hz) hda (rb.merge ra) hmm), rfl, q2⟩
/-! ### list(text), tuple == () -/
def sgs (x : Str) : List V := x.cps.toList.map fun c => V.str ⟨#[c]⟩
theorem vals_at : ∀ {xs : List V} {us : List Value}, xs.length = us.length → (∀ (j : Nat) (v : V) (u : Value), xs[j]? = some v → us[j]? = some u → RelV v u) → Vals xs us
  | [], [], _, _ => .nil
  | [], _ :: _, h, _ => nomatch h
  | _ :: _, [], h, _ => nomatch h
  | v :: xs, u :: us, h, k => .cons (k 0 v u rfl rfl) (vals_at (Nat.succ.inj h) fun j a b ha hb => k (j + 1) a b ha hb)
theorem call_list_txt {X : Cx} (hc : X.calm = true) : CallR X (.type "list") (fun xs H Q => ∃ x : Str, xs = [.str x] ∧ x.cps.size ≤ sizeLine ∧ ∀ l, H l = none → Q (.ref l) (upd H l (.lst (sgs x)))) := by
  intro pins s σ H xs us Q I r h
  obtain ⟨x, rfl, hz, q⟩ := h
  obtain ⟨u, rfl, rx⟩ := vals1 r
  obtain ⟨t, rfl⟩ := rx
  refine call_list_str (I.ok.hd hc) x t (hn := hz) fun h' tk acc' c' hk hS' hacc => ?_
  have hl : (sgs x).length = acc'.toList.length := by
    unfold sgs
    rw [List.length_map, Array.length_toList, Array.length_toList]
    exact hacc.1.symm
  have rv : Vals (sgs x) acc'.toList := vals_at hl fun j v u hv hu => by
    obtain ⟨c, k, hc', rfl⟩ := hacc.2 j u (by simpa using hu)
    unfold sgs at hv
    rw [List.getElem?_map] at hv
    obtain ⟨c2, h2, rfl⟩ := Option.map_eq_some_iff.mp hv
    have z : x.cps.toList[j]? = some c := by simpa using hc'
    rw [z] at h2
    cases h2
    exact ⟨k, rfl⟩
  have hz2 : (sgs x).length ≤ sizeLine := by
    unfold sgs
    rw [List.length_map, Array.length_toList]
    exact hz
  exact ⟨.ref s.heap.objs.size, _, I.laid (t' := tk) hk (Nat.le_refl _) (show ObjOk X.prog X.w _ h' _ (.lst (sgs x)) from ⟨hz2, acc'.toList, c', rv, by simpa using hS'⟩), rfl, q _ (I.hok.fresh (Nat.le_refl _))⟩
def rEq0 (K : PySem.W.Frag) : R2 := fun x y H Q => ∃ a b xs, x = .ref a ∧ y = .ref b ∧ SqT K H a xs ∧ SqT K H b [] ∧ Q (.bl xs.isEmpty) H
theorem op_eq0 {X : Cx} (hu : X.A.units < cLine) : OpR X (compareOp .Eq) (rEq0 X.K) := by
  intro pins s σ H x y v u Q I rx ry h
  obtain ⟨a, b, xs, rfl, rfl, ha, hb, q⟩ := h
  cases rx
  cases ry
  obtain ⟨its, r1, p1, _⟩ := I.tuple ha
  obtain ⟨its2, r2, p2, _⟩ := I.tuple hb
  cases r2
  refine SeqAt.eq_tupleAt (e := fun _ => true) p1 p2 hu (fun j h1 h2 => by simp at h2) ?_
  have e : ((List.range (min its.toArray.size ([] : List Value).toArray.size)).all (fun _ => true) && its.toArray.size == ([] : List Value).toArray.size) = xs.isEmpty := by
    cases r1 with
    | nil => rfl
    | cons _ _ => simp
  rw [e]
  exact ⟨.bl _, H, I, rfl, q⟩

/-! ### the end of a law whose defs make generator expressions -/
/-- the def nm of the top, its code object's table empty -/
def TabAt (mg : Str → Option Value) (h : Heap) (nm : Str) : Prop := ∃ (f : Addr) (o : Obj) (fd : FuncData) (c P : Addr), mg nm = some (.ref f) ∧ h.get? f = some o ∧ o.data = .func fd ∧ fd.code = .ref c ∧ h.TableAt c P #[]
theorem tab_empty {K : PySem.W.Frag} {mg : Str → Option Value} {h : Heap} {nm : Str} {f c P : Addr} {o : Obj} {fd : FuncData} {e : Value} {dd : Option Addr} {vs : Array Value} {sl : Array (Option Value)} (t : TabAt mg h nm) (X : K.In h) (g : mg nm = some (.ref f))
    (lf : K.lookup f = some o) (df : o.data = .func fd) (cf : fd.code = .ref c) (lc : K.lookup c = some ⟨e, dd, .fields vs, sl⟩) (at11 : vs[11]? = some (.ref P)) : h.get? P = some { cls := .none, data := .fields #[] } := by
  obtain ⟨f', o', fd', c', P', m1, m2, m3, m4, ⟨oc, vc, w1, _, w3, w4⟩, tp⟩ := t
  have ef : f = f' := Value.ref.inj (Option.some.inj (g.symm.trans m1))
  subst ef
  have eo : o = o' := Option.some.inj ((X f o lf).symm.trans m2)
  subst eo
  have ed : fd = fd' := Data.func.inj (df.symm.trans m3)
  subst ed
  have ec : c = c' := Value.ref.inj (cf.symm.trans m4)
  subst ec
  have eq : (⟨e, dd, .fields vs, sl⟩ : Obj) = oc := Option.some.inj ((X c _ lc).symm.trans w1)
  subst eq
  have ev : vs = vc := Data.fields.inj w3
  subst ev
  have eP : P = P' := Value.ref.inj (Option.some.inj (at11.symm.trans w4))
  subst eP
  exact tp
theorem walk_tabs {l : PySem.W.OpenLaw} {most lv : Nat} {prog : Program} {lo : List Str} {XP : (Str → Option Value) → Heap → Prop} {YP : World → Heap → Prop} {df : DefRec} {K : Params → PySem.W.Frag} {par : Str} (names : List Str)
    (h1 : l.most = some most) (h2 : most ≤ sizeLine) (h3 : df.params.defaults = []) (room : Room lv callerA) (recs : (names.all fun nm => (recsOf prog).any fun r => r.name == nm) = true) (kin : ∀ (w : World) (h : Heap), YP w h → (K w.params).In h)
    (at_ : ∀ (w : World) (mg : Str → Option Value) (fa : Addr) (h : Heap), (K w.params).In h → h.Ns mainGlobals mg → mg df.name = some (.ref fa) → (∀ nm ∈ names, TabAt mg h nm) → LamX.LawAtS l w (K w.params) CX0 lv most par mg fa h) :
    PySem.W.WalkO prog lo XP YP l.row.toRowW df [] (fun f vs => PySem.call f vs) := by
  refine Att.attach_callB h1 h3 fun w s0 s mg mb fa o pm cd doc a vs ns Gr Y _ _ _ name ob iar len bits gens => ?_
  have tabs : ∀ nm ∈ names, TabAt mg s.heap nm := fun nm hm => by
    obtain ⟨r, hr, er⟩ := List.any_eq_true.mp (List.all_eq_true.mp recs nm hm)
    obtain ⟨x1, x2, x3, x4, x5, y1, y2, y3, y4, _, y6⟩ := Gr.T.tab r hr
    rw [beq_iff_eq.mp er] at y1
    exact ⟨x1, x2, x3, x4, x5, y1, y2, y3, y4, y6⟩
  obtain ⟨fd, cs, sp, t1, t2, t3, bind, asked, ok⟩ := at_ w mg fa _ (kin w _ Y) Gr.T.g name tabs
  exact LamX.law_callTs (kin w _ Y) Gr.T.g Gr.T.b Gr.T.builtins Gr.T.nolimit gens t1 t2 t3 Gr.T.bmain ob iar (Nat.le_trans len h2) room ok bind (fun H hH hS => asked H a ns len bits hH hS) fun _ _ _ z => z

end My
namespace My
open PySem L2
/-! ### a mid-condition behind a statement, an expression, a test -/
def sMid (t : TS) : TS := fun D σ H => ∃ M : L2.St → Hp → Prop, t { D with nx := M } σ H ∧ ∀ σ' H', M σ' H' → D.nx σ' H'
theorem ps_mid {X : Cx} {st : Stmt} {t : TS} (h : PS X st t) : PS X st (sMid t) := by
  refine ⟨fun pins s σ H D I z => ?_⟩
  obtain ⟨M, q, k⟩ := z
  refine thn (h.run pins s σ H { D with nx := M } I q) fun f s1 y => ?_
  cases f with
  | next =>
    obtain ⟨σ', H', I', y⟩ := y
    exact ⟨σ', H', I', k _ _ y⟩
  | ret v => exact y
  | brk => exact y
  | cont => exact y
def tMid (t : TT) : TT := fun σ H Q => ∃ M : Bool → Hp → Prop, t σ H M ∧ ∀ b H', M b H' → Q b H'
theorem pt_mid {X : Cx} {e : Expr} {t : TT} (h : PT X e t) : PT X e (tMid t) := by
  refine ⟨fun pins s σ H Q I z => ?_⟩
  obtain ⟨M, q, k⟩ := z
  exact thn (h.run pins s σ H M I q) fun b s1 ⟨H', I', y⟩ => ⟨H', I', k _ _ y⟩
def eMid (t : TE) : TE := fun σ H Q => ∃ M : V → Hp → Prop, t σ H M ∧ ∀ v H', M v H' → Q v H'
theorem pe_mid {X : Cx} {e : Expr} {t : TE} (h : PE X e t) : PE X e (eMid t) := by
  refine ⟨fun pins s σ H Q I z => ?_⟩
  obtain ⟨M, q, k⟩ := z
  exact thn (h.run pins s σ H M I q) fun u s1 ⟨v, H', I', r, y⟩ => ⟨v, H', I', r, k _ _ y⟩
theorem yes_ite {σ : L2.St} {H : Hp} {A B : Hp → Prop} (h : A H) : tYes σ H (fun b H3 => if b = true then A H3 else B H3) := by
  unfold tYes
  exact (show (if true = true then A H else B H) from iteT h)
/-- xs[i] op= e, the read -/
theorem get_list {X : Cx} : PGet X (rIxL X.K) := by
  intro pins s σ H x y v u Q I rx ry h
  obtain ⟨p, xs, i, z, rfl, rfl, hq, he, q⟩ := h
  cases rx
  obtain ⟨t, rfl⟩ := ry
  obtain ⟨its, r, pl, hz⟩ := I.list hq
  obtain ⟨j, h1, h2, h3, h4, h5⟩ := atI_get he
  obtain ⟨w, ew, rw'⟩ := r.get h2
  have hl := r.length
  have hn := line63
  have fin : EP X pins σ Q w s := ⟨z, H, I, rw', q⟩
  by_cases h0 : 0 ≤ i
  · have hj : i.toNat = j := by
      rw [PySem.seqIndex_of h0 h5] at h1
      exact Option.some.inj h1
    exact PySem.wpAny_getItem_list pl.isList h0 (by omega) (by rw [hj]; simpa using ew) fin
  · have hj : (i + (its.toArray.size : Int)).toNat = j := by
      rw [PySem.seqIndex_neg (by omega) h4] at h1
      rw [List.size_toArray, ← hl]
      exact Option.some.inj h1
    exact PySem.wpAny_getItem_list_neg pl.isList (by omega) (by rw [List.size_toArray] <;> omega) (by omega) (by rw [hj]; simpa using ew) fin
theorem same_new {H : Hp} {p : Addr} {o : HO} (h : H p = none) : Same H (upd H p o) := fun b u q => by rw [upd_ne (ne_of_none q h)]; exact q
/-- all but d as it was -/
def But (d : Addr) (H H' : Hp) : Prop := ∀ b o, H b = some o → b ≠ d → H' b = some o
theorem But.refl {d : Addr} {H : Hp} : But d H H := fun _ _ e _ => e
theorem But.trans {d : Addr} {H H1 H2 : Hp} (x : But d H H1) (y : But d H1 H2) : But d H H2 := fun b o e n => y b o (x b o e n) n
theorem But.put {d : Addr} {H H1 : Hp} {o : HO} (x : But d H H1) : But d H (upd H1 d o) := fun b u e n => by
  rw [upd_ne n]
  exact x b u e n
theorem But.new {d p : Addr} {H H1 : Hp} {o : HO} (x : But d H H1) (n : H1 p = none) : But d H (upd H1 p o) := fun b u e nb => by
  have q := x b u e nb
  rw [upd_ne (ne_of_none q n)]
  exact q
theorem But.same {d : Addr} {H H1 H2 : Hp} (x : But d H H1) (s : Same H1 H2) : But d H H2 := fun b u e nb => s _ _ (x b u e nb)
theorem at_map {ns : List Int} {k : Int} (h0 : 0 ≤ k) (h : k < (ns.length : Int)) : ∃ v : Int, atI (ns.map V.int) k = some (.int v) ∧ v ∈ ns := by
  have hk : k.toNat < ns.length := by omega
  have ek : k = ((k.toNat : Nat) : Int) := by omega
  have q : atI (ns.map V.int) ((k.toNat : Nat) : Int) = some (.int ns[k.toNat]) := atI_nat (by rw [List.getElem?_map, List.getElem?_eq_getElem hk] <;> rfl)
  rw [← ek] at q
  exact ⟨_, q, List.getElem_mem _⟩
theorem at_any {α : Type} {xs : List α} {k : Int} (h0 : 0 ≤ k) (h : k < (xs.length : Int)) : ∃ v : α, atI xs k = some v ∧ v ∈ xs := by
  have hk : k.toNat < xs.length := by omega
  have ek : k = ((k.toNat : Nat) : Int) := by omega
  have q : atI xs ((k.toNat : Nat) : Int) = some xs[k.toNat] := atI_nat (List.getElem?_eq_getElem hk)
  rw [← ek] at q
  exact ⟨_, q, List.getElem_mem _⟩
theorem wide_ok {i j : Int} (h : 0 < j) (h2 : j < 2 ^ 100) : CDivW i j := wide_div (b := 100) h (by
  have e : ((j.natAbs : Nat) : Int) < ((2 ^ 100 : Nat) : Int) := by
    rw [Int.natCast_pow]
    show (j.natAbs : Int) < 2 ^ 100
    omega
  exact_mod_cast e) (by decide) (by decide)
theorem cut_map (ns : List Int) (hi : Option Int) : ∃ k : Nat, cutV (ns.map V.int) none hi = (ns.take k).map V.int := by
  refine ⟨HT.sIx ns.length ns.length hi, ?_⟩
  unfold cutV
  rw [HT.sIx_none, List.drop_zero, Nat.sub_zero, List.length_map, List.map_take]
theorem cut_nat {α : Type} (xs : List V) (k : Nat) : cutV xs none (some (k : Int)) = xs.take k := by
  unfold cutV
  rw [HT.sIx_none, List.drop_zero, Nat.sub_zero, HT.sIx_nat]
  by_cases h : k ≤ xs.length
  · rw [Nat.min_eq_left h]
  · rw [Nat.min_eq_right (by omega), List.take_of_length_le (Nat.le_refl _), List.take_of_length_le (by omega)]
theorem sz {n : Nat} (h : n ≤ 100000) : n ≤ sizeLine := Nat.le_trans h (by decide)
theorem szl {n : Nat} (h : n < 100000) : n < sizeLine := Nat.lt_of_lt_of_le h (by decide)
def spLaw (K : PySem.W.Frag) : Sp := fun vs H Q _ => ∃ (a : Addr) (ns : List Int), vs = [.ref a] ∧ SqL K H a (ns.map V.int) ∧ ns.length ≤ 63 ∧ (∀ z ∈ ns, Builtin.Int.intBits z ≤ 1048576) ∧ ∀ H', Q (.bl true) H'
/-! ### data of tuples -/
mutual
inductive Td (K : PySem.W.Frag) (H : Hp) : V → PyData → Prop
  | non : Td K H .non .none
  | bl (b : Bool) : Td K H (.bl b) (.bool b)
  | int (i : Int) : Td K H (.int i) (.int i)
  | str (x : Str) : Td K H (.str x) (.str x)
  | tup {a : Addr} {xs : List V} {ds : List PyData} : SqT K H a xs → TdAll K H xs ds → Td K H (.ref a) (.tuple ds)
inductive TdAll (K : PySem.W.Frag) (H : Hp) : List V → List PyData → Prop
  | nil : TdAll K H [] []
  | cons {v : V} {vs : List V} {d : PyData} {ds : List PyData} : Td K H v d → TdAll K H vs ds → TdAll K H (v :: vs) (d :: ds)
end
/-- tuples stay -/
def Tups (K : PySem.W.Frag) (H H' : Hp) : Prop := ∀ a xs, SqT K H a xs → SqT K H' a xs
theorem Tups.of_same {K : PySem.W.Frag} {H H' : Hp} (s : Same H H') : Tups K H H' := fun a xs h => by
  rcases h with h | h
  · rcases h with h | ⟨o, h⟩
    · exact .inl (.inl (s _ _ h))
    · exact .inl (.inr ⟨o, s _ _ h⟩)
  · exact .inr h
theorem Tups.of_but {K : PySem.W.Frag} {H H' : Hp} {d : Addr} {l : List V} (s : But d H H') (e : H d = some (.lst l)) : Tups K H H' := fun a xs h => by
  rcases h with h | h
  · rcases h with h | ⟨o, h⟩
    · exact .inl (.inl (s _ _ h (ne_of h e (by intro z; cases z))))
    · exact .inl (.inr ⟨o, s _ _ h (ne_of h e (by intro z; cases z))⟩)
  · exact .inr h
theorem Tups.trans {K : PySem.W.Frag} {H H1 H2 : Hp} (a : Tups K H H1) (b : Tups K H1 H2) : Tups K H H2 := fun p xs h => b _ _ (a _ _ h)
mutual
theorem Td.mono {K : PySem.W.Frag} {H H' : Hp} (t : Tups K H H') : ∀ {v : V} {d : PyData}, Td K H v d → Td K H' v d
  | _, _, .non => .non
  | _, _, .bl b => .bl b
  | _, _, .int i => .int i
  | _, _, .str x => .str x
  | _, _, .tup h k => .tup (t _ _ h) (TdAll.mono t k)
theorem TdAll.mono {K : PySem.W.Frag} {H H' : Hp} (t : Tups K H H') : ∀ {vs : List V} {ds : List PyData}, TdAll K H vs ds → TdAll K H' vs ds
  | _, _, .nil => .nil
  | _, _, .cons h k => .cons (Td.mono t h) (TdAll.mono t k)
end
mutual
theorem Td.dp {K : PySem.W.Frag} {H : Hp} : ∀ {v : V} {d : PyData}, Td K H v d → Dp K H v d
  | _, _, .non => .non
  | _, _, .bl b => .bl b
  | _, _, .int i => .int i
  | _, _, .str x => .str x
  | _, _, .tup h k => .tup h (TdAll.dp k)
theorem TdAll.dp {K : PySem.W.Frag} {H : Hp} : ∀ {vs : List V} {ds : List PyData}, TdAll K H vs ds → DpAll K H vs ds
  | _, _, .nil => .nil
  | _, _, .cons h k => .cons (Td.dp h) (TdAll.dp k)
end
theorem TdAll.length {K : PySem.W.Frag} {H : Hp} : ∀ {vs : List V} {ds : List PyData}, TdAll K H vs ds → vs.length = ds.length
  | _, _, .nil => rfl
  | _, _, .cons _ k => congrArg (· + 1) (TdAll.length k)
theorem TdAll.append {K : PySem.W.Frag} {H : Hp} : ∀ {vs ws : List V} {ds es : List PyData}, TdAll K H vs ds → TdAll K H ws es → TdAll K H (vs ++ ws) (ds ++ es)
  | _, _, _, _, .nil, k => k
  | _, _, _, _, .cons h k, z => .cons h (TdAll.append k z)
theorem TdAll.get {K : PySem.W.Frag} {H : Hp} : ∀ {vs : List V} {ds : List PyData}, TdAll K H vs ds → ∀ {v : V}, v ∈ vs → ∃ d, d ∈ ds ∧ Td K H v d
  | _, _, .nil, _, h => nomatch h
  | _, _, .cons (d := d) h k, v, m => by
    rcases List.mem_cons.mp m with e | m
    · subst e
      exact ⟨d, List.mem_cons_self, h⟩
    · obtain ⟨d', hd, t⟩ := TdAll.get k m
      exact ⟨d', List.mem_cons_of_mem _ hd, t⟩
theorem inV_str (w : Str) : ∀ ws : List Str, inV (.str w) (ws.map V.str) = decide (w ∈ ws)
  | [] => rfl
  | x :: r => by
    have ih := inV_str w r
    unfold inV at ih ⊢
    rw [List.map_cons, List.any_cons, ih]
    by_cases e : x = w
    · subst e
      simp [eqV]
    · have e2 : ¬ w = x := fun z => e z.symm
      simp [eqV, e, e2]
theorem flat_strs : ∀ ws : List Str, (ws.map V.str).all flatV = true
  | [] => rfl
  | _ :: r => by
    rw [List.map_cons, List.all_cons, flat_strs r]
    rfl
/-- the kinds -/
def kinds : List Str := ["a", "b", "c", "d", "e", "f", "g", "h"]
/-- a tuple as a target, the table and the number as they are written -/
theorem pg_tupK {X : Cx} {K : PySem.W.Frag} {pos : Pos} {es : List Expr} {k : Nat} {t : TGs} {n : Nat} (hK : X.K = K) (hc : X.calm = true) (h : PGs X es t)
    (hn : (assignEach es X.env).length = n) (hst : (assignEach es X.env).findIdx? (·.1) = none := by rfl) : PG X (.Tuple es k pos) (gTup K n t) := by
  subst hK
  exact pg_tup hc h hn hst
theorem cut_tail (x : V) (ps : List V) : cutV (x :: ps) (some 1) none = ps := by
  unfold cutV
  rw [show (1 : Int) = ((1 : Nat) : Int) from rfl, HT.sIx_nat, HT.sIx_none, List.length_cons]
  have e : min 1 (ps.length + 1) = 1 := by omega
  rw [e, List.drop_succ_cons, List.drop_zero, Nat.add_sub_cancel, List.take_of_length_le (Nat.le_refl _)]
theorem u1 {k : Nat} {A : Around} (h : Room k A) : A.units + 1 < cLine := by
  have := h.units
  omega
theorem u0 {k : Nat} {A : Around} (h : Room k A) : A.units < cLine := by
  have := h.units
  omega
theorem u65 {k : Nat} {A : Around} (h : Room k A) : A.units + 65 < cLine := by
  have := h.un
  omega
theorem op_in_seqK {X : Cx} {K : PySem.W.Frag} (hK : X.K = K) : OpR X (compareOp .In) (rIn K false) := by
  subst hK
  exact op_in_seq
theorem op_notIn_seqK {X : Cx} {K : PySem.W.Frag} (hK : X.K = K) : OpR X (compareOp .NotIn) (rIn K true) := by
  subst hK
  exact op_notIn_seq

/-! ### own exceptions as values -/
def veB : List Value := [.type "ValueError", .type "Exception", .type "BaseException", .type "object"]
/-- an exception object of the class C, not raised, with or without fields -/
def ExAt (H : Hp) (a C : Addr) : Prop := H a = some (ExO (.ref C) a) ∨ ∃ (d : Addr) (fs : List (Str × V)), H a = some (exo a C (some d)) ∧ H d = some (exd d fs)
theorem ExAt.same {H H' : Hp} {a C : Addr} (s : Same H H') (h : ExAt H a C) : ExAt H' a C := by
  rcases h with h | ⟨d, fs, h, g⟩
  · exact .inl (s _ _ h)
  · exact .inr ⟨d, fs, s _ _ h, s _ _ g⟩
section
variable {X : Cx}
theorem ExAt.inst {pins : List (Addr × Obj)} {σ : L2.St} {H : Hp} {s : Shared} {a C : Addr} (I : Inv X pins σ H s) (h : ExAt H a C) : ∃ (oe : Obj) (od : Option Obj), PySem.W.InstAt s.heap a oe C od := by
  rcases h with h | ⟨d, fs, h, g⟩
  · obtain ⟨⟨oe, vs, ho, hz, hd, _⟩, _, _⟩ := I.hok a _ h
    refine ⟨oe, none, ho, hz.1, ?_, ?_⟩
    · unfold PySem.W.notCls
      rw [hd]
    · rw [hz.2]
      trivial
  · obtain ⟨t1, ho⟩ := exo_at I.hok h
    obtain ⟨mA, hm, _⟩ := exd_at I.hok g
    obtain ⟨od, hod, _⟩ := lookIn_ns hm
    exact ⟨_, some od, ho, rfl, rfl, hod⟩
theorem pe_exc0 {C : Addr} {x : Str} {p pos : Pos} (hc : PySem.W.excIn X.K C veB "ValueError.__new__" = true) (gC : X.mg x = some (.ref C)) (kC : PySem.W.keepIn X.K (.ref C) = true) (hg : Gl X x) (hdb : (x == ("__debug__" : Str)) = false := by decide) :
    PE X (.Call (.Name x p) [] [] pos) (fun _ H Q => ∀ a, H a = none → Q (.ref a) (upd H a (ExO (.ref C) a))) := by
  constructor
  intro pins st σ H Q I h
  refine wpAny_Call_Name_kw (ld_glob I hg gC ?_ hdb)
  refine PySem.W.callWith_K0 I.kIn kC ?_
  obtain ⟨bm, N, nm, qn, bs, hdct, sn, sub, ab, col, dd, k0, k1, k2, k3, k5, mN, hC, hN, hni, OT⟩ := exc_obj I.kIn hc
  refine wpAny_call_exc_subT PySem.F.excBase_ValueError OT hC hN hni (fun h' a hm => ?_) (Nat.zero_le _)
  have free : H a = none := I.hok.gone hm.new
  obtain ⟨t, ht, _, _⟩ := hm.there
  have ok : ObjOk X.prog X.w (upd H a (ExO (.ref C) a)) h' a (ExO (.ref C) a) := exO_ok ht ⟨rfl, rfl⟩ rfl rfl rfl (show 4 < 6 by decide)
  exact ⟨.ref a, _, I.laidN hm.keeps hm.new free ok, rfl, h a free⟩
/-- C(e, ..), C an own exception class with an own __init__, as a value -/
def tOexV (C : Addr) (sp : Sp) (ta : TA) : TE := fun σ H Q => ta σ H fun vs H1 => vs.length ≤ 1000 ∧ ∀ a, H1 a = none → sp (.ref a :: vs) (upd H1 a (exo a C none)) (fun v H2 => v = .non ∧ Q (.ref a) H2) (fun _ _ _ => False)
theorem pe_oexV {x : Str} {C fI : Addr} {k : Nat} {fd : FuncData} {ps : List Str} {sp : Sp} {e : Expr} {es : List Expr} {ta : TA} {p pos : Pos} (OC : OexC X.K C) (iC : PySem.W.findIn X.K (.ref C) "__init__" = some (some (.ref fI)))
    (tI : PySem.W.typeIn X.K (.ref fI) = some (.type "function")) (F1 : FnOk X.prog X.w X.K X.mg X.base CX0 k fI fd ps sp) (hr : Room (k + 1) X.A) (hb : Binds X.K fd ps []) (hg : Gl X x) (hm : X.mg x = some (.ref C)) (ha : PA X (e :: es) ta)
    (hdb : (x == ("__debug__" : Str)) = false := by decide) (he : starEach (e :: es) X.env = (false, eval e X.env) :: starEach es X.env := by rfl) (hpl : (backTo pos (starEach es X.env)).any (·.1) = false := by rfl) :
    PE X (.Call (.Name x p) (e :: es) [] pos) (tOexV C sp ta) := by
  constructor
  intro pins st σ H Q I h
  obtain ⟨nm, q, N, bs, bm, sn, sub, ab, col, dd, k0, k1, k2, k3, k5, hC, hbm⟩ := OC.cls
  refine wpAny_Call_Name_kw (ld_glob I hg hm ?_ hdb)
  refine PySem.W.callWith_K (h₀ := X.base) I.ok.mod.kin OC.kC (thn (ha.run pos pins st σ H _ I h) fun us s1 z => ?_) he hpl
  obtain ⟨vs, H1, I1, r1, hz, q1⟩ := z
  refine ⟨I1.kIn, ?_⟩
  obtain ⟨hp, g, dr, tk, os⟩ := s1
  have hn : H1 (hp.objs.size + 1) = none := I1.hok.fresh (Nat.le_succ _)
  have hq := q1 _ hn
  have kk : ∀ b o, hp.get? b = some o → ((hp.push (PySem.W.kdv_tup us)).push (PySem.HandSPX.excO C hp.objs.size)).get? b = some o := fun b o z =>
    Heap.get?_push_of_some _ (Heap.get?_push_of_some _ z)
  have hget : ((hp.push (PySem.W.kdv_tup us)).push (PySem.HandSPX.excO C hp.objs.size)).get? (hp.objs.size + 1) = some (PySem.HandSPX.excO C hp.objs.size) := by
    heap_get
  have I2 : Inv X pins σ (upd H1 (hp.objs.size + 1) (exo (hp.objs.size + 1) C none)) ⟨(hp.push (PySem.W.kdv_tup us)).push (PySem.HandSPX.excO C hp.objs.size), g, dr, tk, os⟩ :=
    I1.laid (t' := tk) (a := hp.objs.size + 1) (o := exo (hp.objs.size + 1) C none) (h' := (hp.push (PySem.W.kdv_tup us)).push (PySem.HandSPX.excO C hp.objs.size)) kk (Nat.le_succ _) (exo_ok hget)
  have r2 : Vals (V.ref (hp.objs.size + 1) :: vs) (Value.ref (hp.objs.size + 1) :: us) := .cons rfl r1
  have hl : (Value.ref (hp.objs.size + 1) :: us).length = ps.length := by
    rw [← r2.length]
    exact F1.len _ _ _ _ hq
  have hus : us.length ≤ sizeLine := by
    rw [← Paired.length r1, sizeLine_eq]
    omega
  have hb2 := hb ⟨(hp.push (PySem.W.kdv_tup us)).push (PySem.HandSPX.excO C hp.objs.size), g, dr, tk, os⟩ (Value.ref (hp.objs.size + 1) :: us) I2.kIn (by rw [List.append_nil]; exact hl)
  rw [List.append_nil] at hb2
  refine wpAny_call (PySem.HandSPX.call_own PySem.F.excBase_ValueError (fun Y => PySem.HandSPX.refsVE_contains Y bm hbm) (I1.kIn _ _ hC) (PySem.W.looks_findIn I1.kIn iC) (fun self => PySem.W.bind_fn I1.kIn self tI) hus
    (codeAny_mono (F1.run _ X.stack _ _ ⟨Value.ref (hp.objs.size + 1) :: us, []⟩ (Value.ref (hp.objs.size + 1) :: us) _ _ (fun _ _ _ => False) (hr.make C us []) (I2.env0.make C us []) hb2 r2 hq) fun r s' z => ?_))
  cases r with
  | error er => exact absurd z id
  | ok fl =>
    cases fl with
    | ret u =>
      obtain ⟨v, H', J, rv, ev, qq⟩ := I2.after z
      subst ev
      exact ⟨rv, .ref (hp.objs.size + 1), H', J, rfl, qq⟩
    | next => exact absurd z id
    | brk => exact absurd z id
    | cont => exact absurd z id
/-- what isinstance asks of the class of an exception -/
structure XcC (K : PySem.W.Frag) (C : Addr) : Prop where
  cl : (PySem.W.clsIn K C).isSome = true
  hg : PySem.W.findIn K (.ref C) "__getattribute__" = some (some (.builtin "BaseException.__getattribute__"))
  hk : PySem.W.findIn K (.ref C) "__getattr__" = some none
  hs : PySem.W.subIn K (.ref C) (.type "BaseException") = some true
  ha : PySem.W.findIn K (.ref C) "__class__" = some (some (.builtin "object.__class__"))
  hn : PySem.W.specialIn K (.builtin "object.__class__") "__get__" = some (some (.builtin "getset_descriptor.__get__"))
  ht : PySem.W.takesIn K (.builtin "object.__class__") = some true
  hm : PySem.W.mroIn K C (.type "object") = some true
def xcB (K : PySem.W.Frag) (C : Addr) : Bool := (PySem.W.clsIn K C).isSome && (decide (PySem.W.findIn K (.ref C) "__getattribute__" = some (some (.builtin "BaseException.__getattribute__"))) && (decide (PySem.W.findIn K (.ref C) "__getattr__" = some none) &&
  (decide (PySem.W.subIn K (.ref C) (.type "BaseException") = some true) && (decide (PySem.W.findIn K (.ref C) "__class__" = some (some (.builtin "object.__class__"))) && (decide (PySem.W.specialIn K (.builtin "object.__class__") "__get__" = some (some (.builtin "getset_descriptor.__get__"))) &&
  (decide (PySem.W.takesIn K (.builtin "object.__class__") = some true) && decide (PySem.W.mroIn K C (.type "object") = some true)))))))
theorem xcB_ok {K : PySem.W.Frag} {C : Addr} (h : xcB K C = true) : XcC K C := by
  unfold xcB at h
  simp only [Bool.and_eq_true, decide_eq_true_eq] at h
  obtain ⟨h1, h2, h3, h4, h5, h6, h7, h8⟩ := h
  exact ⟨h1, h2, h3, h4, h5, h6, h7, h8⟩
def rIsX (K : PySem.W.Frag) : List V → Hp → VK → Prop := fun xs H Q => ∃ (a C : Addr) (c : V) (cv : Value) (b : Bool), xs = [.ref a, c] ∧ ExAt H a C ∧ XcC K C ∧ ClsV c cv ∧ PySem.W.kitOne K (.ref C) cv = some b ∧ Q (.bl b) H
theorem call_isX : CallR X (.builtin "isinstance") (rIsX X.K) := by
  intro pins st σ H xs us Q I r h
  obtain ⟨a, C, c, cv, b, rfl, ex, xc, kc, e, q⟩ := h
  obtain ⟨u1, u2, rfl, r1, r2⟩ := vals2 r
  cases r1
  have e2 := kc.eq r2
  subst e2
  obtain ⟨oe, od, J⟩ := ex.inst I
  exact PySem.W.kia_one (PySem.W.kitx_exc xc.cl xc.hg xc.hk xc.hs xc.ha xc.hn xc.ht xc.hm) I.kIn J e (fun z => nomatch z) fun tk => ⟨.bl b, H, I.kept (t' := tk) fun _ _ z => z, rfl, q⟩
theorem call_isXK {K : PySem.W.Frag} (hK : X.K = K) : CallR X (.builtin "isinstance") (rIsX K) := by
  subst hK
  exact call_isX
/-- e.f of such an object -/
def tXv (K : PySem.W.Frag) (f : Str) (te : TE) : TE := fun σ H Q => te σ H fun x H1 => ∃ (a C d : Addr) (fs : List (Str × V)) (v : V), x = .ref a ∧ H1 a = some (exo a C (some d)) ∧ H1 d = some (exd d fs) ∧ XfC K C ∧ PySem.W.findIn K (.ref C) f = some none ∧ fs.lookup f = some v ∧ Q v H1
theorem pe_xv {e : Expr} {te : TE} {pos : Pos} {n : Str} (he : PE X e te) (hb : attributeBase e n X.env (eval e X.env) = eval e X.env := by rfl) : PE X (.Attribute e n pos) (tXv X.K n te) := by
  constructor
  intro pins st σ H Q I h
  refine attr_of hb (thn (he.run pins st σ H _ I h) fun u s1 z => ?_)
  obtain ⟨x, H1, I1, rx, a, C, d, fs, v, rfl, h1, h2, xf, hno, hl, q⟩ := z
  cases rx
  obtain ⟨t1, ho⟩ := exo_at I1.hok h1
  obtain ⟨mA, hns, hrel⟩ := exd_at I1.hok h2
  obtain ⟨od, hod, hlk⟩ := lookIn_ns hns
  obtain ⟨u, hu, ru⟩ := RelO.some_of (v := v) (o := mA n) (by rw [← hl]; exact hrel n)
  have J : PySem.W.InstAt s1.heap a _ C (some od) := ⟨ho, rfl, rfl, hod⟩
  exact HandSPX.exc_get I1.kIn J xf.ga xf.gg xf.exC (PySem.W.findObj_own xf.hdC hno rfl (by rw [hlk, hu])) (handed_of ru) ⟨v, H1, I1.tok _, ru, q⟩
end
/-! ### facts of the written part, by one kernel run each -/
/-- a written tuple of texts -/
def strOf : Value → Option Str
  | .str x _ => some x
  | _ => none
def tupB (K : PySem.W.Frag) (a : Addr) (ws : List Str) : Bool := match K.lookup a with
  | some o => decide (o.cls = .type "tuple") && (match o.data with
    | .seq its _ => decide (its.size ≤ 1000) && decide (its.toList.map strOf = ws.map some)
    | _ => false)
  | none => false
theorem vals_str : ∀ {us : List Value} {ws : List Str}, us.map strOf = ws.map some → Vals (ws.map V.str) us
  | [], [], _ => .nil
  | [], _ :: _, h => nomatch h
  | _ :: _, [], h => nomatch h
  | u :: us, w :: ws, h => by
    rw [List.map_cons, List.map_cons] at h
    obtain ⟨h1, h2⟩ := List.cons.inj h
    refine .cons ?_ (vals_str h2)
    cases u with
    | str x t =>
      have e : x = w := Option.some.inj h1
      subst e
      exact ⟨t, rfl⟩
    | _ => exact nomatch h1
theorem tupB_ok {K : PySem.W.Frag} {a : Addr} {ws : List Str} (h : tupB K a ws = true) (H : Hp) : SqT K H a (ws.map V.str) := by
  unfold tupB at h
  split at h
  · rename_i o ho
    rw [Bool.and_eq_true] at h
    obtain ⟨h1, h2⟩ := h
    split at h2
    · rename_i its n hd
      rw [Bool.and_eq_true] at h2
      exact .inr ⟨o, its, n, ho, of_decide_eq_true h1, hd, sz (Nat.le_trans (of_decide_eq_true h2.1) (by decide)), vals_str (of_decide_eq_true h2.2)⟩
    · cases h2
  · cases h
/-- the refusals among one another, and under the first of them -/
def kitsB (K : PySem.W.Frag) (t : Addr) (cs : List Addr) : Bool := (List.range cs.length).all fun i => decide (PySem.W.kitOne K (.ref (cs.getD i 0)) (.ref t) = some true) && (List.range cs.length).all fun j => decide (PySem.W.kitOne K (.ref (cs.getD i 0)) (.ref (cs.getD j 0)) = some (decide (i = j)))
theorem kitsB_top {K : PySem.W.Frag} {t : Addr} {cs : List Addr} (h : kitsB K t cs = true) {i : Nat} (hi : i < cs.length) : PySem.W.kitOne K (.ref (cs.getD i 0)) (.ref t) = some true := by
  unfold kitsB at h
  have z := List.all_eq_true.mp h i (List.mem_range.mpr hi)
  rw [Bool.and_eq_true] at z
  exact of_decide_eq_true z.1
theorem kitsB_two {K : PySem.W.Frag} {t : Addr} {cs : List Addr} (h : kitsB K t cs = true) {i j : Nat} (hi : i < cs.length) (hj : j < cs.length) : PySem.W.kitOne K (.ref (cs.getD i 0)) (.ref (cs.getD j 0)) = some (decide (i = j)) := by
  unfold kitsB at h
  have z := List.all_eq_true.mp h i (List.mem_range.mpr hi)
  rw [Bool.and_eq_true] at z
  exact of_decide_eq_true (List.all_eq_true.mp z.2 j (List.mem_range.mpr hj))
def dws : List Str := ["new", "put", "paint", "tie", "cut", "add", "spread"]

end My
namespace My
open PySem PySem.Spec PyProof.Rows L2
/-! ### an exception caught and kept -/
/-- at a stands an exception of the class cls that was raised -/
def ExC (cls : Value) (d : Option Addr) (a : Addr) : HO := .ext fun h => ∃ (oe : Obj) (vs : Array Value), h.get? a = some oe ∧ Zc cls d oe ∧ oe.data = .fields vs
theorem exC_ok {P : Program} {w : World} {H : Hp} {h : Heap} {a : Addr} {cls : Value} {d : Option Addr} {oe : Obj} {vs : Array Value} (e : h.get? a = some oe) (z : Zc cls d oe) (dd : oe.data = .fields vs) : ObjOk P w H h a (ExC cls d a) := by
  refine ⟨⟨oe, vs, e, z, dd⟩, ⟨oe, e⟩, ?_⟩
  rintro h1 h2 ⟨o, v, e1, z1, d1⟩ st
  exact ⟨o, v, st _ e1, z1, d1⟩
/-- what stood nowhere at sI is none of the context's own: it may be tracked -/
theorem inv_seen {X : Cx} {pins : List (Addr × Obj)} {σI σ : L2.St} {HI H : Hp} {sI s : Shared} {a : Addr} {o : HO} (J : Inv X pins σI HI sI) (new : sI.heap.get? a = none) (I : Inv X pins σ H s) (na : H a = none) (ok : ObjOk X.prog X.w (upd H a o) s.heap a o) :
    Inv X pins σ (upd H a o) s := by
  have old : ∀ {b : Addr} {ob : Obj}, sI.heap.get? b = some ob → upd H a o b = H b := fun {b ob} e => upd_ne fun z => by
    rw [z, new] at e
    cases e
  have trk : ∀ {b : Addr} {u : HO}, H b = some u → upd H a o b = some u := fun {b u} e => (upd_ne (ne_of_none e na)).trans e
  refine ⟨I.ok, I.os, I.bare, ⟨I.base.keep, I.base.slot, ?_, I.base.there, ?_, ?_, ?_⟩, I.loc, I.cell, ?_, ?_, ?_, ?_, I.len⟩
  · intro b ob e nb hx
    obtain ⟨o', e'⟩ := J.base.there b ob e hx
    rw [old e']
    exact I.base.free b ob e nb hx
  · intro b xs e
    exact trk (I.base.tups b xs e)
  · intro b ob u e
    exact trk (I.base.frzs b ob u e)
  · intro b ps e
    obtain ⟨more, q⟩ := I.base.tbls b ps e
    exact ⟨more, trk q⟩
  · obtain ⟨m, ⟨ol, _, _, el, _⟩, _⟩ := J.loc
    rw [old el]
    exact I.free
  · intro y c e
    obtain ⟨v, oc, ec, _⟩ := J.cell y c e
    rw [old ec]
    exact I.freeC y c e
  · intro p hp
    obtain ⟨p1, p2, p3⟩ := I.pin p hp
    exact ⟨p1, (old (J.pin p hp).1).trans p2, p3⟩
  · intro b u e
    by_cases hb : b = a
    · subst hb
      rw [upd_same] at e
      cases e
      exact ok
    · rw [upd_ne hb] at e
      exact (I.hok b u e).stay (fun _ _ _ q => q) (fun _ q => trk q) fun _ _ q => trk q
/-- what 'except x as n' wishes, the exception kept behind it -/
def wKeep (K : PySem.W.Frag) (c : Value) (i : Nat) (ts : Addr → TS) (D : Ends) : WX := fun cls d σ H =>
  PySem.W.exmOne K cls c = some true ∧ ∀ a, H a = none → ts a { nx := fun σ' H' => H' a = none ∧ D.nx (σ'.set i none) (upd H' a (ExC cls d a)), rt := fun _ _ => False, bk := fun _ _ => False, ct := fun _ _ => False } (σ.set i (some (.ref a))) H
theorem ps_try_keep {X : Cx} {x n : Str} {c : Value} {i : Nat} {body suite : List Stmt} {b0 : Stmt} {np pos pos' : Pos} {tb : WX → TS} {ts : Addr → TS} (stk : X.stack = X.env :: X.outer) (frm : X.env.frame = some X.env.locals) (nd : X.N.Nodup) (hi : X.N[i]? = some n) (loc : X.env.kindOf n = some .local) (nm : Names X x c)
    (hb : ∀ (W : WX) (pn : List (Addr × Obj)) (xe : Value → Shared → Prop), Takes (X.tr pn xe) W → PSs (X.tr pn xe) body (tb W))
    (hsu : ∀ (a : Addr) (pn : List (Addr × Obj)), PSs (X.suite a pn) (b0 :: suite) (ts a)) :
    PS X (.Try body [.ExceptHandler (some (.Name x np)) (some n) (b0 :: suite) pos'] [] [] pos) (fun D σ H => tb (wKeep X.K c i ts D) D σ H) := by
  constructor
  intro pins s σ H D I h
  have frs' : X.A.frames = some (X.env :: X.outer) := by rw [I.ok.frames, stk]
  refine wpAny_Try_except (wpAny_mono ((hb (wKeep X.K c i ts D) (X.pn ++ pins) _ fun u s' ex => ?_).run [] s σ H D (I.toTry _) h) (fun f s1 sp => ?_) fun e s1 q => q)
  · obtain ⟨a, B, sI, pins', σ', H', cls, d, rfl, JT, nb, up, sky, na, os, ag, hm, go⟩ := ex
    have J : Inv X pins σ' H' sI := JT.ofTry I.ok
    have sky2 : Sky B (X.env :: X.outer) a (Zc cls d) X.env.locals s'.heap := stk ▸ sky
    refine Sky.land Zc.steady frs' frm sky2 fun h3 fl3 up3 => ?_
    have J3 : Inv X pins σ' H' { s' with heap := h3 } := J.landed nb fl3.1 (up.trans up3) os ag
    have away : ∀ {hp : Heap} {o : Obj} {vs : Array Value}, hp.FunFrames B (X.env :: X.outer) → hp.get? a = some o → o.data = .fields vs → a ∉ frs (X.env :: X.outer) := fun {hp o vs} ff e dd m => by
      obtain ⟨_, o', e', nf⟩ := ff.mem m
      rw [e] at e'
      cases e'
      exact nf _ dd
    obtain ⟨oe3, vs3, he3, hz3, hd3⟩ := fl3.there
    have nfr := away fl3.2.2.1 he3 hd3
    have nl : a ≠ X.env.locals := fun z => nfr (List.mem_filterMap.mpr ⟨X.env, List.mem_cons_self, by rw [frm, z]⟩)
    have nfs : a ∉ X.fs := fun m => by
      obtain ⟨e, he, q⟩ := List.mem_filterMap.mp m
      exact nfr (List.mem_filterMap.mpr ⟨e, List.mem_cons_of_mem _ he, q⟩)
    have newI : sI.heap.get? a = none := by
      cases q : sI.heap.get? a with
      | none => rfl
      | some ob =>
        have z := nb a ob q (by rw [stk]; exact nfr)
        rw [fl3.2.1] at z
        cases z
    have S3 := J3.suite he3 hd3 na nl nfs
    refine wpAny_handleBy_cons (codeAny_handlers_test ?_) (fun z => nomatch z)
    have name : ∀ {Q' : Value → Shared → Prop} {E' : Value → Shared → Prop}, Q' c { s' with heap := h3 } → wpAny (model X.prog X.w) (X.A.mark (some (.ref a))) (eval (.Name x np) X.env) Q' E' { s' with heap := h3 } := fun {Q' E'} q => by
      obtain ⟨gl, dbg, hit | ⟨miss, bt, nn⟩⟩ := nm
      · exact ld_glob (X := X.suite a ((a, oe3) :: (X.pn ++ pins))) S3 gl hit q dbg
      · exact ld_blt (X := X.suite a ((a, oe3) :: (X.pn ++ pins))) S3 gl miss bt q nn dbg
    have looks : PySem.W.Looks (model X.prog X.w) h3 (typeOf (.ref a)) cls := fun A' Q' E' t k q => wpAny_typeOf_ref (k _ _ he3) (hz3.1.symm ▸ q)
    refine name ((PySem.W.exm_one (M := model X.prog X.w) J3.kIn looks hm).here (codeAny_handlers_suite_as (HandSPX.lands_againZ fl3 fun h4 fl4 up4 => ?_)))
    · have J4 : Inv X pins σ' H' { s' with heap := h4 } := J.landed nb fl4.1 ((up.trans up3).trans up4) os ag
      obtain ⟨oe4, vs4, he4, hz4, hd4⟩ := fl4.there
      refine store_ok (X := X.suite a ((a, oe4) :: (X.pn ++ pins))) (v := .ref a) (J4.suite he4 hd4 na nl nfs) nd hi (.inl loc) rfl (fun s5 S5 => ?_) (.inr loc)
      refine wpAny_mono ((hsu a ((a, oe4) :: (X.pn ++ pins))).run [] s5 _ H' _ S5 (go a na)) (fun f s6 sp => ?_) fun _ _ z => (show False from z).elim
      cases f with
      | next =>
        obtain ⟨σ6, H6, S6, n6, q6⟩ := sp
        refine gone_ok (X := X.suite a ((a, oe4) :: (X.pn ++ pins))) S6 nd hi loc fun s7 S7 => ?_
        have at7 := (S7.pin (a, oe4) (List.mem_append_left _ List.mem_cons_self)).1
        exact ⟨_, _, inv_seen J newI (S7.unsuite I.ok) n6 (exC_ok at7 hz4 hd4), q6⟩
      | brk =>
        obtain ⟨_, _, _, z⟩ := sp
        exact (show False from z).elim
      | cont =>
        obtain ⟨_, _, _, z⟩ := sp
        exact (show False from z).elim
      | ret u =>
        obtain ⟨_, _, _, _, _, z⟩ := sp
        exact (show False from z).elim
  · cases f with
    | next =>
      obtain ⟨σ', H', J, q⟩ := sp
      exact wpAny_execs_nil ⟨σ', H', J.ofTry I.ok, q⟩
    | brk =>
      obtain ⟨σ', H', J, q⟩ := sp
      exact ⟨σ', H', J.ofTry I.ok, q⟩
    | cont =>
      obtain ⟨σ', H', J, q⟩ := sp
      exact ⟨σ', H', J.ofTry I.ok, q⟩
    | ret u =>
      obtain ⟨v, σ', H', J, r, q⟩ := sp
      exact ⟨v, σ', H', J.ofTry I.ok, r, q⟩

/-! ### a lambda of one parameter -/
structure LamP (sc scope : Scope) (p : Str) : Prop where
  kind : scope.kind = .function
  co : scope.isCoroutine = false
  gen : scope.isGenerator = false
  par : scope.names.lookup p = some .local
  own : ∀ y ∈ scope.names, y.2 ≠ .cell ∧ (y.2 = .local → y.1 = p)
  free : ∀ y ∈ scope.names, y.2 = .free → sc.names.lookup y.1 = some .cell ∨ sc.names.lookup y.1 = some .free
def lamPB (sc scope : Scope) (p : Str) : Bool := decide (scope.kind = .function) && (!scope.isCoroutine && (!scope.isGenerator && (decide (scope.names.lookup p = some .local) && scope.names.all fun y => !decide (y.2 = .cell) && ((!decide (y.2 = .local) || decide (y.1 = p)) && (!decide (y.2 = .free) || (decide (sc.names.lookup y.1 = some .cell) || decide (sc.names.lookup y.1 = some .free)))))))
theorem lamP_by {sc scope : Scope} {p : Str} (h : lamPB sc scope p = true) : LamP sc scope p := by
  unfold lamPB at h
  simp only [Bool.and_eq_true, Bool.or_eq_true, Bool.not_eq_true', decide_eq_true_eq, decide_eq_false_iff_not, List.all_eq_true] at h
  obtain ⟨h1, h2, h3, h4, h5⟩ := h
  refine ⟨h1, h2, h3, h4, fun y hy => ⟨(h5 y hy).1, fun e => ?_⟩, fun y hy e => ?_⟩
  · rcases (h5 y hy).2.1 with z | z
    · exact absurd e z
    · exact z
  · rcases (h5 y hy).2.2 with z | z
    · exact absurd e z
    · exact z
theorem LamP.has {X : Cx} {scope : Scope} {p : Str} (L : LamP X.env.scope scope p) (ok : X.Ok) {y : Str × NameKind} (hy : y ∈ scope.names) (e : y.2 = .free) : ∃ c, X.env.cells.lookup y.1 = some c := ok.has _ (L.free y hy e)
/-- the context of its body -/
def cxP (X : Cx) (A : Around) (outer : List Env) (s : Shared) (H : Hp) (E : XK) (scope : Scope) (p : Str) (f c' : Addr) : Cx := { LamX.lamCx X A outer s H E scope f c' with N := X.N ++ [p] }
section
variable {X : Cx} {pins : List (Addr × Obj)} {σ : L2.St} {H HZ : Hp} {s s1 : Shared} {A : Around} {outer : List Env} {E : XK} {scope : Scope} {p : Str} {f c' : Addr}
theorem lamP_start {h1 : Heap} {tk : Nat} {v : V} {u : Value} (I : Inv X pins σ H s) (L : LamP X.env.scope scope p) (np : ∀ (i : Nat) (v : V), X.N[i]? = some p → σ[i]? = some (some v) → False) (e0 : Env0 X.prog X.w X.K X.mg X.base A outer s1 HZ) (calm : A.handled = none)
    (un : Un (frs X.stack) [] H HZ s.heap s1.heap) (ns : h1.Ns s1.heap.objs.size fun y => ([(p, u)] : List (Str × Value)).reverse.lookup y) (kp : ∀ b o, s1.heap.get? b = some o → h1.get? b = some o) (r : RelV v u) :
    Inv (cxP X A outer s1 HZ E scope p f c') [] (σ ++ [some v]) HZ { s1 with heap := h1, toks := tk } := by
  -- the closure's cells are the maker's
  have back : ∀ {y : Str} {c : Addr}, (cloFrom X.env.cells scope.names []).lookup y = some c → X.env.cells.lookup y = some c := fun {y c} e => by
    rcases cloFrom_mem (PySem.mem_of_lookup e) with z | ⟨z, ec⟩
    · cases z
    · obtain ⟨c1, e1⟩ := L.has I.ok z rfl
      rw [ec, e1]
      rfl
  have fwd : ∀ {y : Str}, scope.names.lookup y = some .free → ∃ c, (cloFrom X.env.cells scope.names []).lookup y = some c := fun {y} e =>
    mem_lookup (cloFrom_has (cells := X.env.cells) (acc := []) (show (y, NameKind.free) ∈ scope.names from PySem.mem_of_lookup e))
  have cellOn : ∀ {c : Addr} {x : Option Value}, H c = none → s.heap.IsCell c x → h1.IsCell c x := fun {c x} n z => by
    obtain ⟨o, ho, hd⟩ := z
    obtain ⟨sl, q⟩ := un.any ho n (fun z => nomatch z)
    exact ⟨_, kp _ _ q, hd⟩
  have noCell : ∀ {y : Str}, scope.names.lookup y ≠ some .cell := fun {y} e => (L.own _ (PySem.mem_of_lookup e)).1 rfl
  have isOwn : ∀ {y : Str}, scope.names.lookup y = some .local → y = p := fun {y} e => (L.own _ (PySem.mem_of_lookup e)).2 rfl
  have ok : (cxP X A outer s1 HZ E scope p f c').Ok :=
    { mod := e0.mod
      kind := L.kind
      glob := rfl
      blt := rfl
      above := Nat.le_refl _
      inj := fun y z c e1 e2 => I.ok.inj y z c (back e1) (back e2)
      has := fun y hy => by
        rcases hy with hy | hy
        · exact absurd hy noCell
        · exact fwd hy
      cab := fun y c z _ => absurd (show false = true from z) Bool.false_ne_true
      hd := fun _ => calm
      frames := Around.frames_deeper e0.frames
      stk := .inr ⟨rfl, rfl⟩
      exf := fun b z => absurd (show b ∈ ([] : List Addr) from z) List.not_mem_nil
      bs := e0.bs
      bsz := e0.bsz
      noex := fun b _ _ z => absurd (show b ∈ ([] : List Addr) from z) List.not_mem_nil
      exfs := fun b z => absurd (show b ∈ ([] : List Addr) from z) List.not_mem_nil
      funs := e0.funs
      frf := e0.frf }
  refine ⟨ok, rfl, e0.bare, Un.kept kp, ⟨_, ns, fun i y x e1 e2 e3 => ?_⟩, fun y c e => ?_, e0.hok.fresh (Nat.le_refl _), fun y c e => ?_, fun q hq => absurd (show q ∈ ([] : List (Addr × Obj)) ++ [] from hq) List.not_mem_nil, e0.hok.kept kp, ?_⟩
  · have e1 : (X.N ++ [p])[i]? = some y := e1
    have e3 : Vis scope y := e3
    have ll : σ.length = X.N.length := I.len
    by_cases lt : i < X.N.length
    · rw [List.getElem?_append_left lt] at e1
      rw [List.getElem?_append_left (by rw [ll]; exact lt)] at e2
      have ny : y ≠ p := fun z => np i x (z ▸ e1) e2
      rcases e3 with k | k | k
      · exact absurd (isOwn k) ny
      · exact absurd k noCell
      · obtain ⟨m, _, at_⟩ := I.loc
        have fr := L.free _ (PySem.mem_of_lookup k) rfl
        obtain ⟨u', r', q⟩ := at_ i y x e1 e2 (.inr fr)
        obtain ⟨c, ec⟩ := fwd k
        refine ⟨u', r', .inr ⟨.inr k, c, ec, ?_⟩⟩
        rcases q with ⟨k', _⟩ | ⟨_, c2, ec2, z⟩
        · have k' : X.env.scope.names.lookup y = some .local := k'
          rcases fr with k2 | k2
          · rw [k'] at k2
            cases k2
          · rw [k'] at k2
            cases k2
        · rw [back ec] at ec2
          cases ec2
          exact cellOn (I.freeC y c (back ec)) z
    · have ge : X.N.length ≤ i := Nat.le_of_not_lt lt
      rw [List.getElem?_append_right ge] at e1
      rw [List.getElem?_append_right (by rw [ll]; exact ge), ll] at e2
      cases hi : i - X.N.length with
      | zero =>
        rw [hi] at e1 e2
        have ey : p = y := Option.some.inj e1
        have ev : v = x := Option.some.inj (Option.some.inj e2)
        subst ey ev
        refine ⟨u, r, .inl ⟨L.par, ?_⟩⟩
        show ([(p, u)] : List (Str × Value)).lookup p = some u
        rw [List.lookup_cons, beq_self_eq_true]
      | succ n =>
        rw [hi] at e1
        cases e1
  · obtain ⟨x, z⟩ := I.cell y c (back e)
    exact ⟨x, cellOn (I.freeC y c (back e)) z⟩
  · obtain ⟨x, o, ho, _⟩ := I.cell y c (back e)
    exact un.free c o ho (I.freeC y c (back e)) (fun z => nomatch z)
  · show (σ ++ [some v]).length = (X.N ++ [p]).length
    rw [List.length_append, List.length_append, I.len]
    rfl
/-- the lambda at f called with one thing, at any time behind its making -/
theorem lamP_run {k : Nat} {params : Arguments} {b : Expr} {pm ctv : Value} {tb : TE} {v : V} {u : Value} {Q : VK} (I : Inv X pins σ H s) (L : LamP X.env.scope scope p) (np : ∀ (i : Nat) (v : V), X.N[i]? = some p → σ[i]? = some (some v) → False)
    (hf : s.heap.get? f = some (PySem.W.kla_obj "<lambda>" (X.env.qual ++ "<lambda>") params b scope (cloFrom X.env.cells scope.names []) pm c' ctv)) (hfn : H f = none) (hfr : f ∉ frs X.stack)
    (bind : ∀ u, bindArgs (PySem.W.kla_fn "<lambda>" (X.env.qual ++ "<lambda>") params b scope (cloFrom X.env.cells scope.names []) pm (.ref c') ctv) ⟨[u], []⟩ = pure [(p, u)]) (room : Room (k + 1) A) (e0 : Env0 X.prog X.w X.K X.mg X.base A outer s1 HZ)
    (un : Un (frs X.stack) [] H HZ s.heap s1.heap) (code : HZ c' = some (LamX.CodeO c' (X.env.qual ++ "<lambda>"))) (body : ∀ (A : Around) (outer : List Env) (s : Shared) (H : Hp), Room k (A.deeper (LamX.lamEnv X scope s.heap.objs.size f c')) → PE (cxP X A outer s H E scope p f c') b tb)
    (r : RelV v u) (t : tb (σ ++ [some v]) HZ Q) : codeAny (model X.prog X.w) A (.call (.ref f) ⟨[u], []⟩) (CR (L2.CX X.prog X.w) outer X.prog X.w HZ s1 Q E) s1 := by
  have here := un.keep f _ hf hfn hfr (fun z => nomatch z)
  obtain ⟨⟨oc, vs, tk, ho, hd, hv⟩, _, _⟩ := e0.hok c' _ code
  refine PySem.W.kla_callFunE room.depth here rfl L.co L.gen rfl ⟨c', oc, vs, tk, rfl, ho, hd, hv⟩ ?_
  rw [bind u]
  refine wpAny_pure (wpAny_newFunctionEnv (fun y hy => (L.own y hy).1) (fun y hy => ?_) (fun h1 ns sb => ⟨?_, ?_⟩) L.kind)
  · rw [List.mem_singleton.mp hy]
    exact L.par
  · have kin : s1.heap.NoLimit := e0.mod.nolimit.keeps fun b o e => (e0.bs b o e).1
    exact kin.fresh _ sb
  · have kp : ∀ b o, s1.heap.get? b = some o → h1.get? b = some o := fun b o e => sb.extBut b o (Nat.ne_of_lt (Heap.lt_size e)) (Heap.get?_push_of_some _ e)
    have J := lamP_start (E := E) (f := f) (c' := c') (tk := s1.toks + ([(p, u)] : List (Str × Value)).length) I L np e0 room.hd un ns kp r
    show codeAny _ _ (.expr b (LamX.lamEnv X scope s1.heap.objs.size f c')) _ _
    refine PySem.W.kla_codeExpr (wpAny_mono ((body _ _ s1 HZ (room.deeper _)).run [] _ _ HZ Q J t) (fun w' s' z => ?_) fun e s' z => z)
    obtain ⟨x, H', J', rx, q⟩ := z
    exact ⟨x, H', J'.os, J'.bare, J'.base, J'.hok, rx, q⟩
end
/-! ### it is called by the def that got it -/
/-- that def's context, entered at s -/
abbrev gotCx (X : Cx) (Ng : List Str) (x : Str) (sg : Scope) (g : Addr) (cdg : Value) (s : Shared) (H : Hp) : Cx := cxOf CX0 X.prog X.w X.K X.mg X.base Ng x sg g cdg X.A X.stack s H E0
/-- a(e), a's slot the i-th: e's reading, then the lambda's of e's value -/
def tAct (i : Nat) (f c' : Addr) (q : Str) (ta : TA) (W : WX) (tl : XK → V → Hp → VK → Prop) : TE := fun σ H Q => σ[i]? = some (some (.ref f)) ∧ ta σ H fun vs H1 => ∃ v, vs = [v] ∧ H1 c' = some (LamX.CodeO c' q) ∧ tl (fun cls d H' => W cls d σ H') v H1 Q
theorem pe_actP {X : Cx} {pins : List (Addr × Obj)} {σ : L2.St} {H : Hp} {s : Shared} {scope : Scope} {p x a : Str} {f c' g : Addr} {k i : Nat} {params : Arguments} {b e : Expr} {pm ctv cdg : Value} {tb : XK → TE} {ta : TA} {Ng : List Str} {sg : Scope} {pn : List (Addr × Obj)} {xe : Value → Shared → Prop} {W : WX} {p1 p2 : Pos}
    (I : Inv X pins σ H s) (L : LamP X.env.scope scope p) (np : ∀ (i : Nat) (v : V), X.N[i]? = some p → σ[i]? = some (some v) → False) (hf : s.heap.get? f = some (PySem.W.kla_obj "<lambda>" (X.env.qual ++ "<lambda>") params b scope (cloFrom X.env.cells scope.names []) pm c' ctv)) (hfn : H f = none) (hfr : f ∉ frs X.stack)
    (bind : ∀ u, bindArgs (PySem.W.kla_fn "<lambda>" (X.env.qual ++ "<lambda>") params b scope (cloFrom X.env.cells scope.names []) pm (.ref c') ctv) ⟨[u], []⟩ = pure [(p, u)])
    (tk : Takes ((gotCx X Ng x sg g cdg s H).tr pn xe) W) (room : Room (k + 1) (X.A.deeper (envOfC x sg s.heap.objs.size g cdg)))
    (body : ∀ (A : Around) (outer : List Env) (s : Shared) (H : Hp) (E : XK), Room k (A.deeper (LamX.lamEnv X scope s.heap.objs.size f c')) → PE (cxP X A outer s H E scope p f c') b (tb E))
    (at_ : Ng[i]? = some a) (vis : Vis sg a) (args : PA ((gotCx X Ng x sg g cdg s H).tr pn xe) [e] ta)
    (star : starEach [e] ((gotCx X Ng x sg g cdg s H).tr pn xe).env = (false, eval e ((gotCx X Ng x sg g cdg s H).tr pn xe).env) :: starEach [] ((gotCx X Ng x sg g cdg s H).tr pn xe).env := by rfl)
    (d1 : (a == ("__debug__" : Str)) = false := by decide) (d2 : (a == ("__classdict__" : Str)) = false := by decide) :
    PE ((gotCx X Ng x sg g cdg s H).tr pn xe) (.Call (.Name a p1) [e] [] p2) (tAct i f c' (X.env.qual ++ "<lambda>") ta W fun E v H1 Q => tb E (σ ++ [some v]) H1 Q) := by
  constructor
  intro pz sz σz Hz Q Iz h
  obtain ⟨slot, ht⟩ := h
  refine wpAny_Call_Name_kw (thn ((pe_var (pos := p1) (i := i) at_ vis d1 d2).run pz sz σz Hz (fun v H1 => v = .ref f ∧ H1 = Hz) Iz ⟨.ref f, slot, rfl, rfl⟩) fun u s1 z => ?_)
  obtain ⟨v0, H1, I1, r1, rfl, rfl⟩ := z
  obtain rfl : u = Value.ref f := r1
  have still : ∀ {σ' : L2.St} {H' : Hp} {s' : Shared}, Inv ((gotCx X Ng x sg g cdg s H).tr pn xe) pz σ' H' s' → s'.heap.get? f = some (PySem.W.kla_obj "<lambda>" (X.env.qual ++ "<lambda>") params b scope (cloFrom X.env.cells scope.names []) pm c' ctv) := fun J => J.base.keep f _ hf hfn hfr (fun z => nomatch z)
  refine PySem.W.callWith_F ⟨_, _, _, _, still I1⟩ (thn (args.run p2 pz s1 σz H1 _ I1 ht) fun us s2 z => ?_) star rfl
  obtain ⟨vs, H2, I2, rv, v, rfl, hc, tl⟩ := z
  obtain ⟨u, rfl, ru⟩ := vals1 rv
  have e2 : Env0 X.prog X.w X.K X.mg X.base (X.A.deeper (envOfC x sg s.heap.objs.size g cdg)) (envOfC x sg s.heap.objs.size g cdg :: X.stack) s2 H2 := I2.env0
  have un : Un (frs X.stack) [] H H2 s.heap s2.heap := I2.base
  have run := lamP_run (X := X) (E := fun cls d H' => W cls d σz H') (k := k) (u := u) (Q := Q) I L np hf hfn hfr bind room e2 un hc (fun A outer s H rm => body A outer s H _ rm) ru tl
  refine ⟨⟨_, _, _, _, still I2⟩, wpAny_call (codeAny_mono run fun res s3 z => ?_)⟩
  cases res with
  | error er => exact tk er s3 (XE.of_call I2 (fun _ _ _ w => w) z)
  | ok fl =>
    cases fl with
    | ret u' => exact I2.after z
    | next => exact (show False from z).elim
    | brk => exact (show False from z).elim
    | cont => exact (show False from z).elim
/-- what the def makes of the lambda's reading tl and of the thing v: TT -/
def GivesP (X : Cx) (k : Nat) (Ng : List Str) (x : Str) (sg : Scope) (g : Addr) (cdg : Value) (bg : List Stmt) (a : Str) (q : Str) (TT : V → (XK → V → Hp → VK → Prop) → Hp → VK → Prop) : Prop :=
  ∀ (f c' : Addr) (v : V) (s : Shared) (H : Hp) (Q : VK) (tl : XK → V → Hp → VK → Prop), Room k (X.A.deeper (envOfC x sg s.heap.objs.size g cdg)) →
    (∀ (W : WX) (pn : List (Addr × Obj)) (xe : Value → Shared → Prop) (p1 p2 : Pos) (e : Expr) (ta : TA), Takes ((gotCx X Ng x sg g cdg s H).tr pn xe) W → PA ((gotCx X Ng x sg g cdg s H).tr pn xe) [e] ta →
      starEach [e] ((gotCx X Ng x sg g cdg s H).tr pn xe).env = (false, eval e ((gotCx X Ng x sg g cdg s H).tr pn xe).env) :: starEach [] ((gotCx X Ng x sg g cdg s H).tr pn xe).env →
      PE ((gotCx X Ng x sg g cdg s H).tr pn xe) (.Call (.Name a p1) [e] [] p2) (tAct 0 f c' q ta W tl)) →
    H c' = some (LamX.CodeO c' q) → TT v tl H Q →
    ∃ t, PSs (gotCx X Ng x sg g cdg s H).nox bg t ∧ t { nx := fun _ H' => Q .non H', rt := Q } (L2.start Ng [.ref f, v]) H
/-- the lambda is made: all but the table at P is as it was -/
theorem lam_new {X : Cx} {pins : List (Addr × Obj)} {σ : L2.St} {H : Hp} {s : Shared} {c P : Addr} {params : Arguments} {b : Expr} {scope : Scope} {pos : Pos} {E Q : Value → Shared → Prop} (J : Inv X pins σ H s) (tab : LamX.TabB X.base X.mg c P) (own : X.env.code = .ref c)
    (t0 : LamX.TabS H P (X.env.qual ++ "<lambda>")) (nodef : defaultsOf params X.env = ([], [])) (has : ∀ y ∈ scope.names, y.2 = .free → ∃ c, X.env.cells.lookup y.1 = some c)
    (go : ∀ (f c' : Addr) (pm ctv : Value) (H1 : Hp) (s1 : Shared), Inv X pins σ H1 s1 → But P H H1 → LamX.TabS H1 P (X.env.qual ++ "<lambda>") → s1.heap.get? f = some (PySem.W.kla_obj "<lambda>" (X.env.qual ++ "<lambda>") params b scope (cloFrom X.env.cells scope.names []) pm c' ctv) →
      H1 f = none → f ∉ frs X.stack → H1 c' = some (LamX.CodeO c' (X.env.qual ++ "<lambda>")) → Q (.ref f) s1) : wpAny (model X.prog X.w) X.A (eval (.Lambda params b scope pos) X.env) Q E s := by
  have seen := t0
  obtain ⟨ps, atP, tri, each⟩ := seen
  have blt : s.heap.BuiltinsAt X.mg P := tab.bm.keeps J.bk
  have objP : s.heap.get? P = some { cls := .none, data := .fields ps } := J.hok P _ atP
  have far : ∀ f, s.heap.objs.size ≤ f → f ∉ frs X.stack := fun f le m => by
    rcases List.mem_cons.mp (J.stkSub _ m) with e | e
    · have lt := J.lt
      rw [← e] at lt
      exact absurd (Nat.lt_of_lt_of_le lt le) (Nat.lt_irrefl _)
    · exact J.nofs le e
  refine PySem.W.kla_eval nodef ?_
  cases found : codeAmong pos ps.toList with
  | some cv =>
    obtain ⟨c', rfl, here⟩ := each pos cv found
    refine PySem.W.kla_makeFunctionHit (P := P) (c := c) (mg := X.mg) (ps := ps) (closure_ok has) J.ok.glob (J.mod.glob.keeps J.bk) own (tab.code.keeps J.bk) objP tri found blt fun ctv h' tk kept le => ?_
    have J1 : Inv X pins σ H { s with heap := h'.push (PySem.W.kla_obj "<lambda>" (X.env.qual ++ "<lambda>") params b scope (cloFrom X.env.cells scope.names []) ((X.mg "__name__").getD .none) c' ctv), toks := tk } := J.kept fun _ _ e => Heap.get?_push_of_some _ (kept _ _ e)
    exact go _ c' _ ctv H _ J1 .refl t0 (Heap.get?_push_size _ rfl) (J.hok.fresh le) (far _ le) here
  | none =>
    refine PySem.W.kla_makeFunction (P := P) (c := c) (mg := X.mg) (ps := ps) (closure_ok has) J.ok.glob (J.mod.glob.keeps J.bk) own (tab.code.keeps J.bk) objP tri found tab.gP blt fun c' ctv h' tk kept ge lt rec_ grown => ?_
    obtain ⟨c2, oc, vs, tk2, e2, atC, dat, nm⟩ := rec_
    cases e2
    have le : s.heap.objs.size ≤ h'.objs.size := Nat.le_trans ge (Nat.le_of_lt lt)
    have newC : H c' = none := J.hok.fresh ge
    have J1 := LamX.inv_table (t' := tk) (more := #[rawInt pos.line, rawInt pos.col, .ref c']) (h' := h'.push (PySem.W.kla_obj "<lambda>" (X.env.qual ++ "<lambda>") params b scope (cloFrom X.env.cells scope.names []) ((X.mg "__name__").getD .none) c' ctv)) J atP
      (fun _ _ nb e => Heap.get?_push_of_some _ (kept _ _ nb e)) (Heap.get?_push_of_some _ grown) ge ⟨oc, vs, tk2, Heap.get?_push_of_some _ atC, dat, nm⟩
    have but : But P H (upd (upd H P (.tbl (ps ++ #[rawInt pos.line, rawInt pos.col, .ref c']))) c' (LamX.CodeO c' (X.env.qual ++ "<lambda>"))) := fun d o e n => by
      rw [upd_ne (ne_of_none e newC), upd_ne n]
      exact e
    have toL : (ps ++ #[rawInt pos.line, rawInt pos.col, .ref c']).toList = ps.toList ++ [rawInt pos.line, rawInt pos.col, .ref c'] := by simp
    have away : ∀ {d : Addr} {q : Str}, H d = some (LamX.CodeO d q) → d ≠ P := fun {d q} e z => by
      rw [z, atP] at e
      exact LamX.codeO_ne ps (Option.some.inj e).symm
    refine go h'.objs.size c' _ ctv _ _ J1 but ⟨ps ++ #[rawInt pos.line, rawInt pos.col, .ref c'], ?_, ?_, fun p' cv among => ?_⟩ (Heap.get?_push_size _ rfl) ?_ (far _ le) upd_same
    · rw [upd_ne (ne_of_none atP newC), upd_same]
    · rw [toL]
      exact PySem.TriplesOk_snoc _ _ _ _ tri
    · rw [toL] at among
      rcases LamX.among_app _ tri among with z | z
      · obtain ⟨c0, e1, e2⟩ := each p' cv z
        exact ⟨c0, e1, but _ _ e2 (away e2)⟩
      · exact ⟨c', z, upd_same⟩
    · rw [upd_ne (Nat.ne_of_gt lt), upd_ne (Nat.ne_of_gt (Nat.lt_of_lt_of_le (Heap.lt_size objP) le))]
      exact J.hok.fresh le
def tLamP (P : Addr) (qn : Str) (TT : V → (XK → V → Hp → VK → Prop) → Hp → VK → Prop) (t : XK → TE) (ta : TA) : TE := fun σ H Q => LamX.TabS H P qn ∧ ∀ H1, But P H H1 → LamX.TabS H1 P qn → ta σ H1 fun vs H2 => ∃ v, vs = [v] ∧ LamX.ExtN H1 H2 ∧ TT v (fun E v H' Q' => t E (σ ++ [some v]) H' Q') H2 Q
theorem pinned_one {X : Cx} {pins : List (Addr × Obj)} {σ : L2.St} {H : Hp} {s : Shared} {f : Addr} {o : Obj} {fd : FuncData} (I : Inv X pins σ H s) (hf : s.heap.get? f = some o) (hd : o.data = .func fd) (hn : H f = none) (hfr : f ∉ frs X.stack) : Inv X ((f, o) :: pins) σ H s := by
  refine ⟨I.ok, I.os, I.bare, I.base, I.loc, I.cell, I.free, I.freeC, fun q hq => ?_, I.hok, I.len⟩
  rcases List.mem_append.mp hq with z | z
  · exact I.pin q (List.mem_append_left _ z)
  · rcases List.mem_cons.mp z with e | z
    · subst e
      refine ⟨hf, hn, fun e => ?_, fun m => hfr ?_, fun v e => ?_⟩
      · obtain ⟨m, ⟨ol, es, ep, el, dl, _⟩, _⟩ := I.loc
        have e' : f = X.env.locals := e
        rw [← e', hf] at el
        cases el
        rw [hd] at dl
        cases dl
      · rcases I.ok.stk with st | ⟨st, _⟩
        · rw [st]
          exact m
        · rw [st]
          obtain ⟨e1, m1, m2⟩ := List.mem_filterMap.mp m
          exact List.mem_filterMap.mpr ⟨e1, List.mem_cons_of_mem _ m1, m2⟩
      · have e' : o.data = .cell v := e
        rw [hd] at e'
        cases e'
    · exact I.pin q (List.mem_append_right _ z)
theorem unpin_one {X : Cx} {pins : List (Addr × Obj)} {σ : L2.St} {H : Hp} {s : Shared} {q : Addr × Obj} (I : Inv X (q :: pins) σ H s) : Inv X pins σ H s := by
  refine ⟨I.ok, I.os, I.bare, I.base, I.loc, I.cell, I.free, I.freeC, fun z hz => I.pin z ?_, I.hok, I.len⟩
  rcases List.mem_append.mp hz with m | m
  · exact List.mem_append_left _ m
  · exact List.mem_append_right _ (List.mem_cons_of_mem _ m)
/-- x(lambda p: b, e) -/
theorem pe_lamP {X : Cx} {TT : V → (XK → V → Hp → VK → Prop) → Hp → VK → Prop} {x a a2 p : Str} {g c P : Addr} {k : Nat} {pg : Arguments} {bg : List Stmt} {sg : Scope} {dV kV doc pm cdv ct oc : Value} {an od : Option Addr} {osl : Array (Option Value)} {Ng : List Str} {params : Arguments} {b e : Expr} {scope : Scope} {t : XK → TE} {ta : TA} {pp lpos pos : Pos}
    (gl : Gl X x) (mg : X.mg x = some (.ref g)) (keep : PySem.W.keepIn X.K (.ref g) = true) (look : X.K.lookup g = some ⟨oc, od, .func (PySem.W.fnOf x x pg bg sg dV kV doc pm an cdv ct), osl⟩) (code : PySem.W.codeIn X.K cdv x = true)
    (binds : L2.Binds X.K (PySem.W.fnOf x x pg bg sg dV kV doc pm an cdv ct) [a, a2] []) (S : FnScope Ng [a, a2] sg) (at0 : Ng[0]? = some a) (vis : Vis sg a) (gives : GivesP X (k + 1) Ng x sg g cdv bg a (X.env.qual ++ "<lambda>") TT)
    (TB : LamX.TabB X.base X.mg c P) (own : X.env.code = .ref c) (room : Room (k + 2) X.A) (L : LamP X.env.scope scope p) (np : p ∉ X.N) (nodef : defaultsOf params X.env = ([], []))
    (bind : ∀ (q : Str) (cl : List (Str × Addr)) (pm cv ctv u : Value), bindArgs (PySem.W.kla_fn "<lambda>" q params b scope cl pm cv ctv) ⟨[u], []⟩ = pure [(p, u)])
    (body : ∀ (A : Around) (outer : List Env) (s : Shared) (H : Hp) (E : XK) (f c' : Addr), Room k (A.deeper (LamX.lamEnv X scope s.heap.objs.size f c')) → PE (cxP X A outer s H E scope p f c') b (t E)) (args : PA X [e] ta)
    (star : starEach (.Lambda params b scope lpos :: [e]) X.env = (false, eval (.Lambda params b scope lpos) X.env) :: starEach [e] X.env := by rfl) (plain : (backTo pos (starEach [e] X.env)).any (·.1) = false := by rfl)
    (d0 : (x == ("__debug__" : Str)) = false := by decide) (d1 : (a == ("__debug__" : Str)) = false := by decide) (d2 : (a == ("__classdict__" : Str)) = false := by decide) :
    PE X (.Call (.Name x pp) [.Lambda params b scope lpos, e] [] pos) (tLamP P (X.env.qual ++ "<lambda>") TT t ta) := by
  constructor
  intro pins s σ H Q I h
  obtain ⟨hT, h⟩ := h
  refine wpAny_Call_Name_kw (ld_glob I gl mg ?_ d0)
  refine PySem.W.callWith_K (h₀ := X.base) I.ok.mod.kin keep ?_ star plain
  rw [star]
  show wpAny _ _ (spliced ((false, eval (.Lambda params b scope lpos) X.env) :: backTo pos (starEach [e] X.env))) _ _ s
  refine Calls.spliced_cons (lam_new I TB own hT nodef (fun y hy z => L.has I.ok hy z) fun f c' pm' ctv H1 s1 I1 ext T1 hf hfn hfr hco => ?_)
  have Ip := pinned_one I1 hf rfl hfn hfr
  refine thn (args.run pos _ s1 σ H1 _ Ip (h H1 ext T1)) fun us s2 z => ?_
  obtain ⟨vs, H2, I2, rv, v, rfl, ext2, tt⟩ := z
  obtain ⟨u, rfl, ru⟩ := vals1 rv
  have f2 := I2.pin (f, _) (List.mem_append_right _ List.mem_cons_self)
  have co2 : H2 c' = some (LamX.CodeO c' (X.env.qual ++ "<lambda>")) := ext2 _ _ hco (LamX.codeO_ne)
  refine ⟨I2.kIn, ?_⟩
  have run : codeAny (model X.prog X.w) X.A (.call (.ref g) ⟨[.ref f, u], []⟩) (CR CX0 X.stack X.prog X.w H2 s2 Q E0) s2 := by
    refine LamX.run_ofS (N := Ng) (ps := [a, a2]) (us := [.ref f, u]) (vs := [.ref f, v]) look code S room I2.env0 (binds s2 [.ref f, u] I2.kIn rfl) (.cons rfl (.cons ru .nil)) rfl fun hr' => ?_
    obtain ⟨t', ht', q'⟩ := gives f c' v s2 H2 Q (fun E v H' Q' => t E (σ ++ [some v]) H' Q') hr' (fun W pn xe p1 p2 e ta tk args star => pe_actP (k := k) I2 L (fun i v e _ => np (List.mem_of_getElem? e)) f2.1 f2.2.1 hfr (fun u => bind _ _ _ _ _ u) tk hr' (fun A outer s H E rm => body A outer s H E f c' rm) at0 vis args star d1 d2) co2 tt
    exact ⟨t', ht'.nox, q'⟩
  refine wpAny_call (codeAny_mono run fun res s3 z => ?_)
  cases res with
  | error er => exact (show False from z).elim
  | ok fl =>
    cases fl with
    | ret u' =>
      obtain ⟨v', H', J, r', q'⟩ := I2.after z
      exact ⟨v', H', unpin_one J, r', q'⟩
    | next => exact (show False from z).elim
    | brk => exact (show False from z).elim
    | cont => exact (show False from z).elim
/-- the same by the def's own facts -/
theorem pe_lamF {X : Cx} {TT : V → (XK → V → Hp → VK → Prop) → Hp → VK → Prop} {x a a2 p : Str} {g c P : Addr} {k : Nat} {st : Stmt} {fd : FuncData} {Ng : List Str} {params : Arguments} {b e : Expr} {scope : Scope} {t : XK → TE} {ta : TA} {pp lpos pos : Pos}
    (gl : Gl X x) (mg : X.mg x = some (.ref g)) (F : Fun X.K x x st g fd) (binds : L2.Binds X.K fd [a, a2] []) (S : FnScope Ng [a, a2] (defScope st)) (at0 : Ng[0]? = some a) (vis : Vis (defScope st) a) (gives : ∀ cdg, GivesP X (k + 1) Ng x (defScope st) g cdg (defBody st) a (X.env.qual ++ "<lambda>") TT)
    (TB : LamX.TabB X.base X.mg c P) (own : X.env.code = .ref c) (room : Room (k + 2) X.A) (L : LamP X.env.scope scope p) (np : p ∉ X.N) (nodef : defaultsOf params X.env = ([], []))
    (bind : ∀ (q : Str) (cl : List (Str × Addr)) (pm cv ctv u : Value), bindArgs (PySem.W.kla_fn "<lambda>" q params b scope cl pm cv ctv) ⟨[u], []⟩ = pure [(p, u)])
    (body : ∀ (A : Around) (outer : List Env) (s : Shared) (H : Hp) (E : XK) (f c' : Addr), Room k (A.deeper (LamX.lamEnv X scope s.heap.objs.size f c')) → PE (cxP X A outer s H E scope p f c') b (t E)) (args : PA X [e] ta)
    (star : starEach (.Lambda params b scope lpos :: [e]) X.env = (false, eval (.Lambda params b scope lpos) X.env) :: starEach [e] X.env := by rfl) (plain : (backTo pos (starEach [e] X.env)).any (·.1) = false := by rfl)
    (d0 : (x == ("__debug__" : Str)) = false := by decide) (d1 : (a == ("__debug__" : Str)) = false := by decide) (d2 : (a == ("__classdict__" : Str)) = false := by decide) :
    PE X (.Call (.Name x pp) [.Lambda params b scope lpos, e] [] pos) (tLamP P (X.env.qual ++ "<lambda>") TT t ta) := by
  have keep := F.kp
  obtain ⟨oc, od, kV, doc, pm, an, cdv, ct, osl, rfl, lk, hcd⟩ := F.ex
  exact pe_lamP gl mg keep lk hcd binds S at0 vis (gives cdv) TB own room L np nodef bind body args star plain d0 d1 d2

/-! ### a law called from the caller itself: nothing is shown around it -/
/-- at the law's call: its tables are empty, the script is frozen (or known by K) -/
def lawH (K : PySem.W.Frag) (cs : List (Addr × Addr)) (a : Addr) (o : Obj) (ns : List Int) : Hp := fun b => if b ∈ cs.map (·.2) then some (.tbl #[]) else if b = a ∧ K.lookup a = none then some (.frz o (.lst (ns.map V.int))) else none
theorem lawH_some {K : PySem.W.Frag} {cs : List (Addr × Addr)} {a b : Addr} {o : Obj} {ns : List Int} {u : HO} (h : lawH K cs a o ns b = some u) : (b ∈ cs.map (·.2) ∧ u = .tbl #[]) ∨ (b = a ∧ K.lookup a = none ∧ u = .frz o (.lst (ns.map V.int))) := by
  unfold lawH at h
  split at h
  · rename_i m
    exact .inl ⟨m, (Option.some.inj h).symm⟩
  · split at h
    · rename_i m
      exact .inr ⟨m.1, m.2, (Option.some.inj h).symm⟩
    · cases h
theorem call_law {P : Program} {w : World} {K : PySem.W.Frag} {mg mb : Str → Option Value} {fa a : Addr} {cs : List (Addr × Addr)} {s : Shared} {vs : List Value} {ns : List Int} (kin : K.In s.heap) (gl : s.heap.Ns mainGlobals mg) (bi : s.heap.Ns builtinsNs mb)
    (boot : ∀ x : Str, x ≠ "__name__" → mb x = bootBuiltins x) (lim : s.heap.NoLimit) (gens : s.gens = #[]) (tabs : ∀ p ∈ cs, s.heap.get? p.2 = some { cls := .none, data := .fields #[] }) (away : ∀ p ∈ cs, K.lookup p.2 = none) (code : ∀ p ∈ cs, PySem.W.CodeHd s.heap p.1 p.2)
    (bm : ∃ (bm : Addr) (ob : Obj), mg "__builtins__" = some (.ref bm) ∧ bm ≠ builtinsNs ∧ s.heap.get? bm = some ob ∧ ob.cls = .type "module" ∧ ob.dict = some builtinsNs ∧ ob.data = .plain) (scr : s.heap.get? a = some { cls := .type "list", data := .seq vs.toArray }) (iar : IntsAre vs ns) (len : ns.length ≤ sizeLine)
    (run : ∀ (base : Heap) (H : Hp), (∀ p ∈ cs, LamX.TabB base mg p.1 p.2) → Env0 P w K mg base callerA [] s H → (∀ p ∈ cs, H p.2 = some (.tbl #[])) → SqL K H a (ns.map V.int) →
      codeAny (model P w) callerA (.call (.ref fa) ⟨[.ref a], []⟩) (CR CX0 [] P w H s (fun v _ => v = .bl true) E0) s) :
    codeAny (model P w) callerA (.call (.ref fa) ⟨[.ref a], []⟩) (fun r s' => r = .ok (.ret (.bool true)) ∧ OldK s.heap s'.heap ∧ s'.os = s.os ∧ AllBare s'.gens) s := by
  have rel := vals_ints iar
  have tabAt : ∀ {b : Addr}, b ∈ cs.map (·.2) → s.heap.get? b = some { cls := .none, data := .fields #[] } := fun {b} m => by
    obtain ⟨p, hp, rfl⟩ := List.mem_map.mp m
    exact tabs p hp
  have notTab : a ∉ cs.map (·.2) := fun m => by
    have z := (tabAt m).symm.trans scr
    have z2 := congrArg Obj.data (Option.some.inj z)
    cases z2
  generalize hH : lawH K cs a { cls := .type "list", data := .seq vs.toArray } ns = H
  have some_ : ∀ {b : Addr} {u : HO}, H b = some u → (b ∈ cs.map (·.2) ∧ u = .tbl #[]) ∨ (b = a ∧ K.lookup a = none ∧ u = .frz { cls := .type "list", data := .seq vs.toArray } (.lst (ns.map V.int))) := fun {b u} e => by
    rw [← hH] at e
    exact lawH_some e
  have tabH : ∀ p ∈ cs, H p.2 = some (.tbl #[]) := fun p hp => by
    rw [← hH]
    exact if_pos (List.mem_map.mpr ⟨p, hp, rfl⟩)
  -- what is neither a list nor an empty table isn't tracked
  have loose : ∀ {b : Addr} {ob : Obj}, s.heap.get? b = some ob → (∀ xs n, ob.data ≠ .seq xs n) → ob.data ≠ .fields #[] → H b = none := fun {b ob} e n1 n2 => by
    cases q : H b with
    | none => rfl
    | some u =>
      rcases some_ q with ⟨m, _⟩ | ⟨rfl, _⟩
      · rw [tabAt m] at e
        cases e
        exact absurd rfl n2
      · rw [scr] at e
        cases e
        exact absurd rfl (n1 _ _)
  have nsOn : ∀ {b : Addr} {m : Str → Option Value}, s.heap.Ns b m → (hidT s.heap H).Ns b m := fun {b m} z => by
    obtain ⟨o, es, ep, e, d, r⟩ := z
    refine ⟨o, es, ep, hidT_get e (loose e (fun _ _ q => ?_) fun q => ?_), d, r⟩
    · rw [d] at q
      cases q
    · rw [d] at q
      cases q
  have kin' : K.In (hidT s.heap H) := fun b o e => hidT_get (kin b o e) (by
    cases q : H b with
    | none => rfl
    | some u =>
      rcases some_ q with ⟨m, _⟩ | ⟨rfl, n, _⟩
      · obtain ⟨p, hp, rfl⟩ := List.mem_map.mp m
        rw [away p hp] at e
        cases e
      · rw [n] at e
        cases e)
  have hok : HOk P w H s.heap := fun b u e => by
    rcases some_ e with ⟨m, rfl⟩ | ⟨rfl, _, rfl⟩
    · exact tabAt m
    · exact ⟨scr, by rw [List.length_map]; exact len, vs, _, rel, scr⟩
  have sq : SqL K H a (ns.map V.int) := by
    cases q : K.lookup a with
    | none =>
      refine .inl (.inr ⟨{ cls := .type "list", data := .seq vs.toArray }, ?_⟩)
      rw [← hH]
      exact (if_neg notTab).trans (if_pos ⟨rfl, q⟩)
    | some o =>
      have e := kin a o q
      rw [scr] at e
      cases e
      exact .inr ⟨_, vs.toArray, _, q, rfl, rfl, rfl, by rw [List.size_toArray, iar.length]; exact len, rel⟩
  have tb : ∀ p ∈ cs, LamX.TabB (hidT s.heap H) mg p.1 p.2 := fun p hp => by
    have pt := tabs p hp
    refine ⟨?_, ?_, fun e => ?_⟩
    · obtain ⟨o, us, fl, tf, fg, tg, iF, tx, tt, g1, g2, g3, g4, g5⟩ := code p hp
      refine ⟨o, us, fl, tf, fg, tg, iF, tx, tt, hidT_get g1 (loose g1 (fun _ _ q => ?_) fun q => ?_), g2, g3, g4, g5⟩
      · rw [g3] at q
        cases q
      · rw [g3] at q
        cases q
        simp at g4
    · obtain ⟨b, ob, m1, m2, m3, m4, m5, m6⟩ := bm
      refine ⟨b, ob, m1, m2, fun e => ?_, fun e => ?_, hidT_get m3 (loose m3 (fun _ _ q => ?_) fun q => ?_), m4, m5, m6⟩
      · obtain ⟨o, es, ep, e1, d1, _⟩ := gl
        rw [e, e1] at m3
        cases m3
        rw [d1] at m6
        cases m6
      · rw [e, pt] at m3
        cases m3
        cases m6
      · rw [m6] at q
        cases q
      · rw [m6] at q
        cases q
    · obtain ⟨o, es, ep, e1, d1, _⟩ := gl
      rw [e, pt] at e1
      cases e1
      cases d1
  have limOn : (hidT s.heap H).NoLimit := by
    obtain ⟨mc, l1, l2⟩ := lim
    exact ⟨mc, nsOn l1, l2⟩
  have env : Env0 P w K mg (hidT s.heap H) callerA [] s H := ⟨rfl, ⟨kin', nsOn gl, ⟨mb, nsOn bi, boot⟩, limOn⟩, fun b o e => of_hidT e, Nat.le_of_eq (hidT_size _ _), trivial, fun b hb => absurd (show b ∈ ([] : List Addr) from hb) List.not_mem_nil, hok, .of_eq gens⟩
  refine codeAny_mono (run _ H tb env tabH sq) fun r s' z => ?_
  cases r with
  | error e => exact (show False from z).elim
  | ok fl =>
    cases fl with
    | next => exact (show False from z).elim
    | brk => exact (show False from z).elim
    | cont => exact (show False from z).elim
    | ret u =>
      obtain ⟨v, H', os, bare, un, hok', rv, ev⟩ := z
      have ev : v = .bl true := ev
      subst ev
      obtain rfl : u = Value.bool true := rv
      have grown : ∀ p ∈ cs, ∃ more : Array Value, s'.heap.get? p.2 = some { cls := .none, data := .fields more } := fun p hp => by
        obtain ⟨more, q⟩ := un.tbls p.2 #[] (tabH p hp)
        exact ⟨_, hok' p.2 _ q⟩
      have stays : ∀ b o, b ∉ cs.map (·.2) → s.heap.get? b = some o → s'.heap.get? b = some o := fun b o nb e => by
        cases q : H b with
        | none => exact un.keep b o e q (fun z => absurd (show b ∈ ([] : List Addr) from z) List.not_mem_nil) List.not_mem_nil
        | some u =>
          rcases some_ q with ⟨m, _⟩ | ⟨_, _, rfl⟩
          · exact absurd m nb
          · have e1 := (hok b _ q).1
            have e2 := (hok' b _ (un.frzs b _ _ q)).1
            rw [e] at e1
            rw [Option.some.inj e1]
            exact e2
      refine ⟨rfl, ⟨fun b o e => ?_, fun b o e => ?_⟩, os, bare⟩
      · by_cases m : b ∈ cs.map (·.2)
        · obtain ⟨p, hp, rfl⟩ := List.mem_map.mp m
          obtain ⟨more, hm⟩ := grown p hp
          rw [tabs p hp] at e
          cases e
          exact .inr (.inl ⟨((code p hp).tab (tabs p hp)).isCodeTable, rfl, #[], more, rfl, by rw [Array.empty_append]; exact hm⟩)
        · exact .inl (stays b o m e)
      · by_cases m : b ∈ cs.map (·.2)
        · obtain ⟨p, hp, rfl⟩ := List.mem_map.mp m
          obtain ⟨more, hm⟩ := grown p hp
          exact ⟨_, hm⟩
        · exact ⟨o, stays b o m e⟩
theorem walk_law0 {l : PySem.W.OpenLaw} {most : Nat} {prog : Program} {lo : List Str} {XP : (Str → Option Value) → Heap → Prop} {YP : World → Heap → Prop} {df : DefRec} {K : Params → PySem.W.Frag} (names : List Str)
    (h1 : l.most = some most) (h2 : most ≤ sizeLine) (h3 : df.params.defaults = []) (recs : (names.all fun nm => (recsOf prog).any fun r => r.name == nm) = true) (kin : ∀ (w : World) (h : Heap), YP w h → (K w.params).In h)
    (at_ : ∀ (w : World) (mg : Str → Option Value) (fa : Addr) (h : Heap), (K w.params).In h → h.Ns mainGlobals mg → mg df.name = some (.ref fa) → (∀ nm ∈ names, TabAt mg h nm) →
      ∃ cs : List (Addr × Addr), (∀ p ∈ cs, h.get? p.2 = some { cls := .none, data := .fields #[] }) ∧ (∀ p ∈ cs, (K w.params).lookup p.2 = none) ∧ (∀ p ∈ cs, PySem.W.CodeHd h p.1 p.2) ∧
        ∀ (s : Shared) (H : Hp) (base : Heap) (a : Addr) (ns : List Int), ns.length ≤ most → (∀ z ∈ ns, Builtin.Int.intBits z ≤ 1048576) → (∀ p ∈ cs, LamX.TabB base mg p.1 p.2) → Env0 l.prog w (K w.params) mg base callerA [] s H → (∀ p ∈ cs, H p.2 = some (.tbl #[])) → SqL (K w.params) H a (ns.map V.int) →
          codeAny (model l.prog w) callerA (.call (.ref fa) ⟨[.ref a], []⟩) (CR CX0 [] l.prog w H s (fun v _ => v = .bl true) E0) s) :
    PySem.W.WalkO prog lo XP YP l.row.toRowW df [] (fun f vs => PySem.call f vs) := by
  refine Att.attach_callB h1 h3 fun w s0 s mg mb fa o pm cd doc a vs ns Gr Y _ _ _ name ob iar len bits gens => ?_
  have tabs : ∀ nm ∈ names, TabAt mg s.heap nm := fun nm hm => by
    obtain ⟨r, hr, er⟩ := List.any_eq_true.mp (List.all_eq_true.mp recs nm hm)
    obtain ⟨x1, x2, x3, x4, x5, y1, y2, y3, y4, _, y6⟩ := Gr.T.tab r hr
    rw [beq_iff_eq.mp er] at y1
    exact ⟨x1, x2, x3, x4, x5, y1, y2, y3, y4, y6⟩
  obtain ⟨cs, t1, t2, t3, go⟩ := at_ w mg fa _ (kin w _ Y) Gr.T.g name tabs
  exact call_law (kin w _ Y) Gr.T.g Gr.T.b Gr.T.builtins Gr.T.nolimit gens t1 t2 t3 Gr.T.bmain ob iar (Nat.le_trans len h2) fun base H tb e0 th sq => go s H base a ns len bits tb e0 th sq

end My
namespace My
open PySem PySem.Spec PyProof.Rows L2
/-! ### a lambda given as the second thing: x(e, lambda p: b) -/
/-- what the def makes of the thing v and of the lambda's reading tl: TT -/
def GivesP2 (X : Cx) (k : Nat) (Ng : List Str) (x : Str) (sg : Scope) (g : Addr) (cdg : Value) (bg : List Stmt) (a : Str) (q : Str) (TT : V → (XK → V → Hp → VK → Prop) → Hp → VK → Prop) : Prop :=
  ∀ (f c' : Addr) (v : V) (s : Shared) (H : Hp) (Q : VK) (tl : XK → V → Hp → VK → Prop), Room k (X.A.deeper (envOfC x sg s.heap.objs.size g cdg)) →
    (∀ (W : WX) (pn : List (Addr × Obj)) (xe : Value → Shared → Prop) (p1 p2 : Pos) (e : Expr) (ta : TA), Takes ((gotCx X Ng x sg g cdg s H).tr pn xe) W → PA ((gotCx X Ng x sg g cdg s H).tr pn xe) [e] ta →
      starEach [e] ((gotCx X Ng x sg g cdg s H).tr pn xe).env = (false, eval e ((gotCx X Ng x sg g cdg s H).tr pn xe).env) :: starEach [] ((gotCx X Ng x sg g cdg s H).tr pn xe).env →
      PE ((gotCx X Ng x sg g cdg s H).tr pn xe) (.Call (.Name a p1) [e] [] p2) (tAct 1 f c' q ta W tl)) →
    H c' = some (LamX.CodeO c' q) → TT v tl H Q →
    ∃ t, PSs (gotCx X Ng x sg g cdg s H).nox bg t ∧ t { nx := fun _ H' => Q .non H', rt := Q } (L2.start Ng [v, .ref f]) H
/-- nothing stands in a slot of this name -/
def NoVal (p : Str) : List Str → L2.St → Prop
  | x :: N, o :: σ => (x = p → o = none) ∧ NoVal p N σ
  | _, _ => True
theorem NoVal.at {p : Str} : ∀ {N : List Str} {σ : L2.St}, NoVal p N σ → ∀ (i : Nat) (v : V), N[i]? = some p → σ[i]? = some (some v) → False
  | [], _, _, i, v, e, _ => by cases i <;> cases e
  | _ :: _, [], _, i, v, _, e => by cases i <;> cases e
  | x :: N, o :: σ, h, 0, v, e1, e2 => by
    have e1 : x = p := Option.some.inj e1
    have e2 : o = some v := Option.some.inj e2
    rw [h.1 e1] at e2
    cases e2
  | x :: N, o :: σ, h, i + 1, v, e1, e2 => NoVal.at (N := N) (σ := σ) h.2 i v e1 e2
def tLamP2 (N : List Str) (p : Str) (P : Addr) (qn : Str) (TT : V → (XK → V → Hp → VK → Prop) → Hp → VK → Prop) (t : XK → TE) (te : TE) : TE := fun σ H Q => NoVal p N σ ∧ te σ H fun v H1 => LamX.TabS H1 P qn ∧ ∀ H2, But P H1 H2 → LamX.TabS H2 P qn → TT v (fun E v H' Q' => t E (σ ++ [some v]) H' Q') H2 Q
theorem pe_lamP2 {X : Cx} {TT : V → (XK → V → Hp → VK → Prop) → Hp → VK → Prop} {x a a1 p : Str} {g c P : Addr} {k : Nat} {pg : Arguments} {bg : List Stmt} {sg : Scope} {dV kV doc pm cdv ct oc : Value} {an od : Option Addr} {osl : Array (Option Value)} {Ng : List Str} {params : Arguments} {b e : Expr} {scope : Scope} {t : XK → TE} {te : TE} {pp lpos pos : Pos}
    (gl : Gl X x) (mg : X.mg x = some (.ref g)) (keep : PySem.W.keepIn X.K (.ref g) = true) (look : X.K.lookup g = some ⟨oc, od, .func (PySem.W.fnOf x x pg bg sg dV kV doc pm an cdv ct), osl⟩) (code : PySem.W.codeIn X.K cdv x = true)
    (binds : L2.Binds X.K (PySem.W.fnOf x x pg bg sg dV kV doc pm an cdv ct) [a1, a] []) (S : FnScope Ng [a1, a] sg) (at1 : Ng[1]? = some a) (vis : Vis sg a) (gives : GivesP2 X (k + 1) Ng x sg g cdv bg a (X.env.qual ++ "<lambda>") TT)
    (TB : LamX.TabB X.base X.mg c P) (own : X.env.code = .ref c) (room : Room (k + 2) X.A) (L : LamP X.env.scope scope p) (nodef : defaultsOf params X.env = ([], []))
    (bind : ∀ (q : Str) (cl : List (Str × Addr)) (pm cv ctv u : Value), bindArgs (PySem.W.kla_fn "<lambda>" q params b scope cl pm cv ctv) ⟨[u], []⟩ = pure [(p, u)])
    (body : ∀ (A : Around) (outer : List Env) (s : Shared) (H : Hp) (E : XK) (f c' : Addr), Room k (A.deeper (LamX.lamEnv X scope s.heap.objs.size f c')) → PE (cxP X A outer s H E scope p f c') b (t E)) (arg : PE X e te)
    (star : starEach (e :: [.Lambda params b scope lpos]) X.env = (false, eval e X.env) :: starEach [.Lambda params b scope lpos] X.env := by rfl) (star2 : starEach [.Lambda params b scope lpos] X.env = (false, eval (.Lambda params b scope lpos) X.env) :: starEach [] X.env := by rfl) (plain : (backTo pos (starEach [.Lambda params b scope lpos] X.env)).any (·.1) = false := by rfl)
    (d0 : (x == ("__debug__" : Str)) = false := by decide) (d1 : (a == ("__debug__" : Str)) = false := by decide) (d2 : (a == ("__classdict__" : Str)) = false := by decide) :
    PE X (.Call (.Name x pp) [e, .Lambda params b scope lpos] [] pos) (tLamP2 X.N p P (X.env.qual ++ "<lambda>") TT t te) := by
  constructor
  intro pins s σ H Q I h
  obtain ⟨np, h⟩ := h
  refine wpAny_Call_Name_kw (ld_glob I gl mg ?_ d0)
  refine PySem.W.callWith_K (h₀ := X.base) I.ok.mod.kin keep ?_ star plain
  rw [star]
  show wpAny _ _ (spliced ((false, eval e X.env) :: backTo pos (starEach [.Lambda params b scope lpos] X.env))) _ _ s
  refine Calls.spliced_cons (thn (arg.run pins s σ H _ I h) fun u s1 z => ?_)
  obtain ⟨v, H1, I1, ru, hT, h1⟩ := z
  rw [star2]
  show wpAny _ _ (spliced ((false, eval (.Lambda params b scope lpos) X.env) :: backTo pos (starEach [] X.env))) _ _ s1
  refine Calls.spliced_cons (lam_new I1 TB own hT nodef (fun y hy z => L.has I1.ok hy z) fun f c' pm' ctv H2 s2 I2 ext T2 hf hfn hfr hco => ?_)
  refine Calls.spliced_nil ?_
  have tt := h1 H2 ext T2
  refine ⟨I2.kIn, ?_⟩
  have run : codeAny (model X.prog X.w) X.A (.call (.ref g) ⟨[u, .ref f], []⟩) (CR CX0 X.stack X.prog X.w H2 s2 Q E0) s2 := by
    refine LamX.run_ofS (N := Ng) (ps := [a1, a]) (us := [u, .ref f]) (vs := [v, .ref f]) look code S room I2.env0 (binds s2 [u, .ref f] I2.kIn rfl) (.cons ru (.cons rfl .nil)) rfl fun hr' => ?_
    obtain ⟨t', ht', q'⟩ := gives f c' v s2 H2 Q (fun E v H' Q' => t E (σ ++ [some v]) H' Q') hr' (fun W pn xe p1 p2 e ta tk args star => pe_actP (k := k) I2 L (NoVal.at np) hf hfn hfr (fun u => bind _ _ _ _ _ u) tk hr' (fun A outer s H E rm => body A outer s H E f c' rm) at1 vis args star d1 d2) hco tt
    exact ⟨t', ht'.nox, q'⟩
  refine wpAny_call (codeAny_mono run fun res s3 z => ?_)
  cases res with
  | error er => exact (show False from z).elim
  | ok fl =>
    cases fl with
    | ret u' => exact I2.after z
    | next => exact (show False from z).elim
    | brk => exact (show False from z).elim
    | cont => exact (show False from z).elim
theorem pe_lamF2 {X : Cx} {TT : V → (XK → V → Hp → VK → Prop) → Hp → VK → Prop} {x a a1 p : Str} {g c P : Addr} {k : Nat} {st : Stmt} {fd : FuncData} {Ng : List Str} {params : Arguments} {b e : Expr} {scope : Scope} {t : XK → TE} {te : TE} {pp lpos pos : Pos}
    (gl : Gl X x) (mg : X.mg x = some (.ref g)) (F : Fun X.K x x st g fd) (binds : L2.Binds X.K fd [a1, a] []) (S : FnScope Ng [a1, a] (defScope st)) (at1 : Ng[1]? = some a) (vis : Vis (defScope st) a) (gives : ∀ cdg, GivesP2 X (k + 1) Ng x (defScope st) g cdg (defBody st) a (X.env.qual ++ "<lambda>") TT)
    (TB : LamX.TabB X.base X.mg c P) (own : X.env.code = .ref c) (room : Room (k + 2) X.A) (L : LamP X.env.scope scope p) (nodef : defaultsOf params X.env = ([], []))
    (bind : ∀ (q : Str) (cl : List (Str × Addr)) (pm cv ctv u : Value), bindArgs (PySem.W.kla_fn "<lambda>" q params b scope cl pm cv ctv) ⟨[u], []⟩ = pure [(p, u)])
    (body : ∀ (A : Around) (outer : List Env) (s : Shared) (H : Hp) (E : XK) (f c' : Addr), Room k (A.deeper (LamX.lamEnv X scope s.heap.objs.size f c')) → PE (cxP X A outer s H E scope p f c') b (t E)) (arg : PE X e te)
    (star : starEach (e :: [.Lambda params b scope lpos]) X.env = (false, eval e X.env) :: starEach [.Lambda params b scope lpos] X.env := by rfl) (star2 : starEach [.Lambda params b scope lpos] X.env = (false, eval (.Lambda params b scope lpos) X.env) :: starEach [] X.env := by rfl) (plain : (backTo pos (starEach [.Lambda params b scope lpos] X.env)).any (·.1) = false := by rfl)
    (d0 : (x == ("__debug__" : Str)) = false := by decide) (d1 : (a == ("__debug__" : Str)) = false := by decide) (d2 : (a == ("__classdict__" : Str)) = false := by decide) :
    PE X (.Call (.Name x pp) [e, .Lambda params b scope lpos] [] pos) (tLamP2 X.N p P (X.env.qual ++ "<lambda>") TT t te) := by
  have keep := F.kp
  obtain ⟨oc, od, kV, doc, pm, an, cdv, ct, osl, rfl, lk, hcd⟩ := F.ex
  exact pe_lamP2 gl mg keep lk hcd binds S at1 vis (gives cdv) TB own room L nodef bind body arg star star2 plain d0 d1 d2

end My
namespace My
open PySem PySem.Spec PyProof.Rows L2
/-! ### repr of what is nested; a list of truths counted; raise X() -/
def rRepr (K : PySem.W.Frag) : List V → Hp → VK → Prop := fun xs H Q => ∃ (v : V) (d : PyData), xs = [v] ∧ Dp K H v d ∧ isDisplay d = true ∧ d.showable = true ∧ d.hasDict = false ∧ d.depth ≤ 50 ∧ d.shown.length ≤ sizeLine ∧ Q (.str d.shown) H
theorem call_repr {X : Cx} (none_ : X.A.guards = some []) (room : X.A.units + 64 < cLine) : CallR X (.builtin "repr") (rRepr X.K) := by
  intro pins s σ H xs us Q I r h
  obtain ⟨v, d, rfl, dp, disp, shw, nod, dep, len, q⟩ := h
  obtain ⟨u, rfl, ru⟩ := vals1 r
  obtain ⟨as, rd⟩ := Dp.reads I d v u dp ru
  obtain ⟨a, rfl⟩ := isRef_of_reads rd disp
  exact repr_of_reads' rd shw (PyData.noDict_hsm nod) none_ (by omega) (fun _ _ e => e) (fun h' t tk hk => ⟨.str d.shown, H, I.kept (t' := tk) hk, ⟨t, rfl⟩, q⟩) len
/-- l.count(True), l a list of truths -/
def rCntB (K : PySem.W.Frag) : V → List V → Hp → VK → Prop := fun x xs H Q => ∃ (p : Addr) (bs : List Bool) (b : Bool), x = .ref p ∧ xs = [.bl b] ∧ SqL K H p (bs.map V.bl) ∧ Q (.int (bs.count b : Nat)) H
def isB (b : Bool) : Value → Bool
  | .bool c => c == b
  | _ => false
theorem bools_of {b : Bool} : ∀ {bs : List Bool} {us : List Value}, Vals (bs.map V.bl) us → (∀ y ∈ us, ∃ c, y = .bool c) ∧ us.countP (isB b) = bs.count b
  | [], _, r => by
    cases r
    exact ⟨fun y h => (nomatch h), rfl⟩
  | c :: bs, _, r => by
    rw [List.map_cons] at r
    cases r with
    | @cons a u as us ru rr =>
      obtain ⟨h1, h2⟩ := bools_of (b := b) rr
      obtain rfl : u = Value.bool c := ru
      refine ⟨fun y hy => ?_, ?_⟩
      · rcases List.mem_cons.mp hy with e | e
        · exact ⟨c, e⟩
        · exact h1 y e
      · rw [List.countP_cons, List.count_cons, h2]
        rfl
theorem mt_countB {X : Cx} : MtR X "list.count" (rCntB X.K) := by
  intro pins s σ H x xs v us Q I rx rxs h
  obtain ⟨p, bs, b, rfl, rfl, sq, q⟩ := h
  obtain rfl : v = Value.ref p := rx
  obtain ⟨u, rfl, ru⟩ := rxs.one
  obtain rfl : u = Value.bool b := ru
  obtain ⟨its, rel, ⟨ob, n, hob, cls, dct, dat⟩, _⟩ := I.list sq
  obtain ⟨oc, od, odt, osl⟩ := ob
  simp only at cls dat
  subst cls dat
  obtain ⟨all, cnt⟩ := bools_of (b := b) rel
  refine call_meets PySem.F.slot_list_count ⟨_, hob, rfl⟩ PySem.F.entry_list_count (PySem.F.args_list_count_2 _ _) (SeqAt.list_countAt p its.toArray n od osl (.bool b) (isB b)) ⟨hob, fun y hy => ?_, ?_⟩
  · obtain ⟨c, rfl⟩ := all y (by simpa using hy)
    exact SeqAt.EqAt.bool_bool c b
  · refine ⟨.int (bs.count b : Nat), H, I.tok _, ⟨s.toks, ?_⟩, q⟩
    show Value.int ((its.toArray.toList.countP (isB b) : Nat) : Int) s.toks = Value.int ((bs.count b : Nat) : Int) s.toks
    rw [← cnt]
/-- raise X() -/
theorem pmk_own0 {X : Cx} {C : Addr} {x : Str} {p pos : Pos} (ex : PySem.W.excIn X.K C veB "ValueError.__new__" = true) (gC : X.mg x = some (.ref C)) (kC : PySem.W.keepIn X.K (.ref C) = true) (rs : Raises X (.ref C)) (gl : Gl X x) (dbg : (x == ("__debug__" : Str)) = false := by decide) :
    PMk X (.Call (.Name x p) [] [] pos) (fun _ H Q => Q (.ref C) none H) := by
  intro pins st σ H Q I q
  refine wpAny_Call_Name_kw (ld_glob I gl gC ?_ dbg)
  refine PySem.W.callWith_K0 I.kIn kC ?_
  obtain ⟨bm, N, nm, qn, bs, hdct, sn, sub, ab, col, dd, k0, k1, k2, k3, k5, mN, hC, hN, hni, OT⟩ := exc_obj I.kIn ex
  exact wpAny_call_exc_subT PySem.F.excBase_ValueError OT hC hN hni (fun h' a made => mk_of I made rs q (I.hok.gone made.new)) (Nat.zero_le _)
/-- isinstance of a kept exception -/
def rIsC (K : PySem.W.Frag) : List V → Hp → VK → Prop := fun xs H Q => ∃ (a C : Addr) (c : V) (cv : Value) (b : Bool), xs = [.ref a, c] ∧ H a = some (ExC (.ref C) none a) ∧ XcC K C ∧ ClsV c cv ∧ PySem.W.kitOne K (.ref C) cv = some b ∧ Q (.bl b) H
theorem call_isC {X : Cx} : CallR X (.builtin "isinstance") (rIsC X.K) := by
  intro pins st σ H xs us Q I r h
  obtain ⟨a, C, c, cv, b, rfl, at_, xc, kc, e, q⟩ := h
  obtain ⟨u1, u2, rfl, r1, r2⟩ := vals2 r
  obtain rfl : u1 = Value.ref a := r1
  obtain rfl := kc.eq r2
  obtain ⟨⟨oe, vs, ho, hz, hd⟩, _, _⟩ := I.hok a _ at_
  have inst : PySem.W.InstAt st.heap a oe C none := by
    refine ⟨ho, hz.1, ?_, ?_⟩
    · unfold PySem.W.notCls
      rw [hd]
    · rw [hz.2]
      trivial
  exact PySem.W.kia_one (PySem.W.kitx_exc xc.cl xc.hg xc.hk xc.hs xc.ha xc.hn xc.ht xc.hm) I.kIn inst e (fun z => nomatch z) fun tk => ⟨.bl b, H, I.kept (t' := tk) fun _ _ z => z, rfl, q⟩

end My
namespace My
open PySem L2
inductive Sl | pt | oth | num | plc | knd
  deriving DecidableEq
def fit : Sl → V → Prop
  | .pt, v => ∃ i, v = .int i
  | .oth, v => v = .non ∨ ∃ i, v = .int i
  | .num, v => ∃ i, v = .int i
  | .plc, v => ∃ i : Int, v = .int i ∧ 0 ≤ i
  | .knd, v => ∃ k, v = .str k ∧ k ∈ kinds
inductive FitAll : List Sl → List V → Prop
  | nil : FitAll [] []
  | cons {s : Sl} {v : V} {ss : List Sl} {vs : List V} : fit s v → FitAll ss vs → FitAll (s :: ss) (v :: vs)
def forms : List (Str × List Sl) := [("new", [.num, .knd]), ("put", [.pt, .num]), ("paint", [.pt, .knd]), ("tie", [.pt, .pt]), ("cut", [.pt, .pt]), ("add", [.pt, .pt, .num]), ("spread", [.pt, .oth, .num]),
  ("joined", [.pt, .pt]), ("way", [.pt, .pt]), ("total", [.pt, .pt]), ("many", [.pt, .pt]), ("most", [.pt, .pt]), ("first", [.pt, .pt, .knd]), ("reach", [.pt, .pt, .num]), ("kth", [.pt, .pt, .plc]), ("meet", [.pt, .pt, .pt]), ("sum", [.pt, .oth]), ("size", [.pt, .oth]), ("top", [.pt, .oth]), ("least", [.pt, .oth, .knd])]
def evs : List Str := ["new", "put", "paint", "tie", "cut", "add", "spread", "joined", "way", "total", "many", "most", "first", "reach", "kth", "meet", "sum", "size", "top", "least"]

/-! ### a written dict from texts to tuples of texts -/
def formB (K : PySem.W.Frag) : List DictEntry → List (Str × List Str) → Bool
  | [], [] => true
  | e :: es, f :: fs => e.key.isStr f.1 && ((match e.val with | .ref a => tupB K a f.2 | _ => false) && formB K es fs)
  | _, _ => false
theorem isStr_key {v : Value} {x : Str} (h : v.isStr x = true) : ∃ t, v = .str x t := by
  cases v with
  | str y t =>
    have e : (y == x) = true := h
    exact ⟨t, by rw [beq_iff_eq.mp e]⟩
  | _ => exact nomatch h
theorem formB_ns {K : PySem.W.Frag} : ∀ {es : List DictEntry} {fs : List (Str × List Str)}, formB K es fs = true → es.any (·.refKey) = false ∧ ∀ z : Str, match fs.lookup z with
    | none => es.find? (·.key.isStr z) = none
    | some ws => ∃ e a, es.find? (·.key.isStr z) = some e ∧ e.val = .ref a ∧ tupB K a ws = true
  | [], [], _ => ⟨rfl, fun _ => rfl⟩
  | [], _ :: _, h => nomatch h
  | _ :: _, [], h => nomatch h
  | e :: es, f :: fs, h => by
    unfold formB at h
    rw [Bool.and_eq_true, Bool.and_eq_true] at h
    obtain ⟨h1, h2, h3⟩ := h
    obtain ⟨r1, r2⟩ := formB_ns h3
    obtain ⟨t, ek⟩ := isStr_key h1
    refine ⟨?_, fun z => ?_⟩
    · rw [List.any_cons, r1, Bool.or_false]
      obtain ⟨hs, k, v⟩ := e
      dsimp only at ek
      subst ek
      rfl
    · have q := r2 z
      rw [List.lookup_cons, List.find?_cons]
      by_cases ez : z = f.1
      · subst ez
        rw [beq_self_eq_true]
        dsimp only
        rw [h1]
        dsimp only
        cases ev : e.val with
        | ref a =>
          rw [ev] at h2
          exact ⟨e, a, rfl, ev, h2⟩
        | _ =>
          rw [ev] at h2
          exact nomatch h2
      · have e1 : (z == f.1) = false := beq_eq_false_iff_ne.mpr ez
        have e2 : e.key.isStr z = false := by
          rw [ek]
          show (f.1 == z) = false
          exact beq_eq_false_iff_ne.mpr fun y => ez y.symm
        rw [e1, e2]
        dsimp only
        exact q
theorem formB_get {K : PySem.W.Frag} {d : Addr} {c : Value} {od : Option Addr} {es : Array DictEntry} {n : Nat} {sl : Array (Option Value)} {fs : List (Str × List Str)} (hl : K.lookup d = some ⟨c, od, .dict es n, sl⟩) (h : formB K es.toList fs = true) (z : Str) :
    match fs.lookup z with
    | none => PySem.W.nsIn K d z = some none
    | some ws => ∃ a, PySem.W.nsIn K d z = some (some (.ref a)) ∧ tupB K a ws = true := by
  obtain ⟨r1, r2⟩ := formB_ns h
  have q := r2 z
  unfold PySem.W.nsIn
  rw [hl]
  cases e : fs.lookup z with
  | none =>
    rw [e] at q
    dsimp only at q ⊢
    rw [q]
    dsimp only
    rw [r1]
    rfl
  | some ws =>
    rw [e] at q
    obtain ⟨en, a, h1, h2, h3⟩ := q
    refine ⟨a, ?_, h3⟩
    dsimp only
    rw [h1]
    dsimp only
    rw [h2]
/-! ### anything -/
inductive AnyV (H : Hp) : V → Prop
  | non : AnyV H .non
  | bl (b : Bool) : AnyV H (.bl b)
  | int (i : Int) : AnyV H (.int i)
  | str (x : Str) : AnyV H (.str x)
  | tup {a : Addr} {xs : List V} (h : H a = some (.tup xs)) : AnyV H (.ref a)
  | lst {a : Addr} {xs : List V} (h : H a = some (.lst xs)) : AnyV H (.ref a)
  | dK {a : Addr} {kvs : List (Key × V)} (h : H a = some (.dK kvs)) : AnyV H (.ref a)
/-- all but tables of code objects stays -/
def Kp (H H' : Hp) : Prop := ∀ a o, H a = some o → (∀ ps, o ≠ .tbl ps) → H' a = some o
theorem Kp.refl (H : Hp) : Kp H H := fun _ _ e _ => e
theorem Kp.trans {H H1 H2 : Hp} (x : Kp H H1) (y : Kp H1 H2) : Kp H H2 := fun a o e n => y a o (x a o e n) n
theorem Kp.of_same {H H' : Hp} (s : Same H H') : Kp H H' := fun a o e _ => s a o e
theorem Kp.of_tab {H H' : Hp} {P : Addr} (g : GxR.TabG H P) (t : GxR.Tabbed P H H') : Kp H H' := fun a o e n => by
  by_cases h : a = P
  · subst h
    obtain ⟨ps, hp, _⟩ := g
    rw [hp] at e
    exact absurd (Option.some.inj e).symm (n ps)
  · rw [t.2 a h]
    exact e
theorem AnyV.kp {H H' : Hp} (k : Kp H H') {v : V} (h : AnyV H v) : AnyV H' v := by
  cases h with
  | non => exact .non
  | bl b => exact .bl b
  | int i => exact .int i
  | str x => exact .str x
  | tup h => exact .tup (k _ _ h (by intro ps z; cases z))
  | lst h => exact .lst (k _ _ h (by intro ps z; cases z))
  | dK h => exact .dK (k _ _ h (by intro ps z; cases z))
/-- isinstance with int, bool, str, tuple -/
def isIntV : V → Bool
  | .bl _ => true
  | .int _ => true
  | _ => false
def isBoolV : V → Bool
  | .bl _ => true
  | _ => false
def isStrV : V → Bool
  | .str _ => true
  | _ => false
theorem int_ok {K : PySem.W.Frag} {H : Hp} {v : V} (h : AnyV H v) : ∃ t, TyX K H v t ∧ PySem.W.kitOne K t (.type "int") = some (isIntV v) := by
  cases h with
  | non => exact ⟨_, .base .non, kit_ty (show kitB _ _ = some false by decide +kernel)⟩
  | bl b => exact ⟨_, .base (.bl b), kit_ty (show kitB _ _ = some true by decide +kernel)⟩
  | int i => exact ⟨_, .base (.int i), kit_ty (show kitB _ _ = some true by decide +kernel)⟩
  | str x => exact ⟨_, .base (.str x), kit_ty (show kitB _ _ = some false by decide +kernel)⟩
  | tup h => exact ⟨_, .base (.tup h), kit_ty (show kitB _ _ = some false by decide +kernel)⟩
  | lst h => exact ⟨_, .base (.lst h), kit_ty (show kitB _ _ = some false by decide +kernel)⟩
  | dK h => exact ⟨_, .base (.dK h), kit_ty (show kitB _ _ = some false by decide +kernel)⟩
theorem bool_ok {K : PySem.W.Frag} {H : Hp} {v : V} (h : AnyV H v) : ∃ t, TyX K H v t ∧ PySem.W.kitOne K t (.type "bool") = some (isBoolV v) := by
  cases h with
  | non => exact ⟨_, .base .non, kit_ty (show kitB _ _ = some false by decide +kernel)⟩
  | bl b => exact ⟨_, .base (.bl b), kit_ty (show kitB _ _ = some true by decide +kernel)⟩
  | int i => exact ⟨_, .base (.int i), kit_ty (show kitB _ _ = some false by decide +kernel)⟩
  | str x => exact ⟨_, .base (.str x), kit_ty (show kitB _ _ = some false by decide +kernel)⟩
  | tup h => exact ⟨_, .base (.tup h), kit_ty (show kitB _ _ = some false by decide +kernel)⟩
  | lst h => exact ⟨_, .base (.lst h), kit_ty (show kitB _ _ = some false by decide +kernel)⟩
  | dK h => exact ⟨_, .base (.dK h), kit_ty (show kitB _ _ = some false by decide +kernel)⟩
theorem str_ok {K : PySem.W.Frag} {H : Hp} {v : V} (h : AnyV H v) : ∃ t, TyX K H v t ∧ PySem.W.kitOne K t (.type "str") = some (isStrV v) := by
  cases h with
  | non => exact ⟨_, .base .non, kit_ty (show kitB _ _ = some false by decide +kernel)⟩
  | bl b => exact ⟨_, .base (.bl b), kit_ty (show kitB _ _ = some false by decide +kernel)⟩
  | int i => exact ⟨_, .base (.int i), kit_ty (show kitB _ _ = some false by decide +kernel)⟩
  | str x => exact ⟨_, .base (.str x), kit_ty (show kitB _ _ = some true by decide +kernel)⟩
  | tup h => exact ⟨_, .base (.tup h), kit_ty (show kitB _ _ = some false by decide +kernel)⟩
  | lst h => exact ⟨_, .base (.lst h), kit_ty (show kitB _ _ = some false by decide +kernel)⟩
  | dK h => exact ⟨_, .base (.dK h), kit_ty (show kitB _ _ = some false by decide +kernel)⟩
/-! ### rows by their form -/
def wholeB : V → Bool
  | .int _ => true
  | _ => false
def kindB : V → Bool
  | .str k => decide (k ∈ kinds)
  | _ => false
def fitB : Sl → V → Bool
  | .knd, v => kindB v
  | .oth, v => decide (v = .non) || wholeB v
  | .plc, .int i => decide (0 ≤ i)
  | .plc, _ => false
  | _, v => wholeB v
def slT : Sl → Str
  | .pt => "point"
  | .oth => "other"
  | .num => "number"
  | .plc => "place"
  | .knd => "kind"
def fitsB : List Sl → List V → Bool
  | [], [] => true
  | s :: ss, v :: vs => fitB s v && fitsB ss vs
  | _, _ => false
theorem fits_len : ∀ {ss : List Sl} {vs : List V}, vs.length ≠ ss.length → fitsB ss vs = false
  | [], [], h => absurd rfl h
  | [], _ :: _, _ => rfl
  | _ :: _, [], _ => rfl
  | s :: ss, v :: vs, h => by
    show (fitB s v && fitsB ss vs) = false
    rw [fits_len (ss := ss) (vs := vs) fun z => h (by rw [List.length_cons, List.length_cons, z]), Bool.and_false]
theorem drop_at {α : Type} {xs : List α} {i : Nat} {x : α} (h : xs[i]? = some x) : xs.drop i = x :: xs.drop (i + 1) := by
  obtain ⟨hl, e⟩ := List.getElem?_eq_some_iff.mp h
  rw [List.drop_eq_getElem_cons hl, e]
def rowB : List V → Bool
  | .str w :: ps => (match forms.lookup w with | some sl => fitsB sl ps | none => false)
  | _ => false
def formsT : List (Str × List Str) := forms.map fun f => (f.1, f.2.map slT)
theorem formsT_lookup (z : Str) : formsT.lookup z = (forms.lookup z).map fun sl => sl.map slT := by
  have g : ∀ l : List (Str × List Sl), (l.map fun f => (f.1, f.2.map slT)).lookup z = (l.lookup z).map fun sl => sl.map slT := by
    intro l
    induction l with
    | nil => rfl
    | cons f r ih =>
      obtain ⟨a, b⟩ := f
      rw [List.map_cons, List.lookup_cons, List.lookup_cons]
      cases e : z == a with
      | true => rfl
      | false => exact ih
  exact g forms
/-- a def by its body, its code object known -/
theorem okC {P : Program} {w : World} {K : PySem.W.Frag} {mg : Str → Option Value} {base : Heap} {x qual : Str} {st : Stmt} {f c : Addr} {fd : FuncData} {N ps : List Str} {k : Nat} {sp : Sp} (F : Fun K x qual st f fd) (hcd : fd.code = .ref c) (S : FnScope N ps (defScope st))
    (len : ∀ vs H Q E, sp vs H Q E → vs.length = ps.length)
    (body : ∀ (A : Around) (outer : List Env) (s : Shared) (H : Hp) (vs : List V) (Q : VK) (E : XK), Room k (A.deeper (PyProof.Rows.envOfC qual (defScope st) s.heap.objs.size f (.ref c))) → sp vs H Q E →
      ∃ t, PSs (cxOf CX0 P w K mg base N qual (defScope st) f (.ref c) A outer s H E).nox (defBody st) t ∧ t { nx := fun _ H' => Q .non H', rt := Q } (start N vs) H) : FnOk P w K mg base CX0 (k + 1) f fd ps sp := by
  obtain ⟨oc, od, kV, doc, pm, an, cdv, ct, osl, rfl, lk, hc⟩ := F.ex
  have e : cdv = .ref c := hcd
  subst e
  refine fn_of lk hc S len fun A outer s H vs Q E hr hsp => ?_
  obtain ⟨t, h, q⟩ := body A outer s H vs Q E hr hsp
  exact ⟨t, h.nox, q⟩

end My
namespace My
open PySem L2
/-! ### ties, ways, what is joined -/
abbrev Ties := List (Int × Int)
/-- a and b are a tied pair, either way about -/
def Adj (ts : Ties) (a b : Int) : Prop := (a, b) ∈ ts ∨ (b, a) ∈ ts
theorem Adj.symm {ts : Ties} {a b : Int} (h : Adj ts a b) : Adj ts b a := h.elim .inr .inl
theorem Adj.mono {ts us : Ties} {a b : Int} (s : ∀ t ∈ ts, t ∈ us) (h : Adj ts a b) : Adj us a b := h.imp (s _) (s _)
inductive Rch (ts : Ties) (a : Int) : Int → Prop
  | refl : Rch ts a a
  | step {b c : Int} : Rch ts a b → Adj ts b c → Rch ts a c
theorem Rch.trans {ts : Ties} {a b c : Int} (h : Rch ts a b) (g : Rch ts b c) : Rch ts a c := by
  induction g with
  | refl => exact h
  | step _ e ih => exact .step ih e
theorem Rch.one {ts : Ties} {a b : Int} (h : Adj ts a b) : Rch ts a b := .step .refl h
theorem Rch.symm {ts : Ties} {a b : Int} (h : Rch ts a b) : Rch ts b a := by
  induction h with
  | refl => exact .refl
  | step _ e ih => exact (Rch.one e.symm).trans ih
theorem Rch.mono {ts us : Ties} {a b : Int} (s : ∀ t ∈ ts, t ∈ us) (h : Rch ts a b) : Rch us a b := by
  induction h with
  | refl => exact .refl
  | step _ e ih => exact .step ih (e.mono s)
/-- gone along ties -/
inductive Wlk (ts : Ties) : Int → Int → List Int → Prop
  | one (a : Int) : Wlk ts a a [a]
  | cons {a b c : Int} {l : List Int} : Adj ts a b → Wlk ts b c l → Wlk ts a c (a :: l)
theorem Wlk.mono {ts us : Ties} (s : ∀ t ∈ ts, t ∈ us) {a b : Int} {l : List Int} (h : Wlk ts a b l) : Wlk us a b l := by
  induction h with
  | one a => exact .one a
  | cons e _ ih => exact .cons (e.mono s) ih
theorem Wlk.rch {ts : Ties} {a b : Int} {l : List Int} (h : Wlk ts a b l) : Rch ts a b := by
  induction h with
  | one a => exact .refl
  | cons e _ ih => exact (Rch.one e).trans ih
theorem Wlk.ne_nil {ts : Ties} {a b : Int} {l : List Int} (h : Wlk ts a b l) : l ≠ [] := by
  cases h <;> exact List.cons_ne_nil _ _
theorem Wlk.head {ts : Ties} {a b : Int} {l : List Int} (h : Wlk ts a b l) : l.head? = some a := by
  cases h <;> rfl
theorem Wlk.mem_a {ts : Ties} {a b : Int} {l : List Int} (h : Wlk ts a b l) : a ∈ l := by
  cases h <;> exact List.mem_cons_self
theorem Wlk.mem_b {ts : Ties} {a b : Int} {l : List Int} (h : Wlk ts a b l) : b ∈ l := by
  induction h with
  | one a => exact List.mem_cons_self
  | cons _ _ ih => exact List.mem_cons_of_mem _ ih
theorem Wlk.snoc {ts : Ties} {a b c : Int} {l : List Int} (h : Wlk ts a b l) (e : Adj ts b c) : Wlk ts a c (l ++ [c]) := by
  induction h with
  | one a => exact .cons e (.one c)
  | cons e' _ ih => exact .cons e' (ih e)
theorem Wlk.rev {ts : Ties} {a b : Int} {l : List Int} (h : Wlk ts a b l) : Wlk ts b a l.reverse := by
  induction h with
  | one a => exact .one a
  | cons e _ ih =>
    rw [List.reverse_cons]
    exact ih.snoc e.symm
/-- every point of it is joined with the first -/
theorem Wlk.rch_of_mem {ts : Ties} {a b : Int} {l : List Int} (h : Wlk ts a b l) : ∀ x ∈ l, Rch ts a x := by
  induction h with
  | one a =>
    intro x m
    rw [List.mem_singleton.mp m]
    exact .refl
  | cons e _ ih =>
    intro x m
    rcases List.mem_cons.mp m with rfl | m
    · exact .refl
    · exact (Rch.one e).trans (ih x m)
/-- a way: gone along ties, none twice -/
structure Way (ts : Ties) (a b : Int) (l : List Int) : Prop where
  wk : Wlk ts a b l
  nd : l.Nodup
/-- no tie can be gone round -/
def Tree (ts : Ties) : Prop := ∀ t ∈ ts, ¬ Rch (ts.filter fun u => decide (u ≠ t)) t.1 t.2
/-- whoever goes along a walk that hasn't a, doesn't use a's ties -/
theorem Wlk.avoid {ts : Ties} {b c a : Int} {l : List Int} (h : Wlk ts b c l) (n : a ∉ l) (t : Int × Int) (ht : t.1 = a ∨ t.2 = a) : Wlk (ts.filter fun u => decide (u ≠ t)) b c l := by
  induction h with
  | one x => exact .one x
  | @cons x y z l e w ih =>
    have nx : a ≠ x := fun q => n (q ▸ List.mem_cons_self)
    have nl : a ∉ l := fun q => n (List.mem_cons_of_mem _ q)
    have ny : a ≠ y := fun q => nl (q ▸ w.mem_a)
    refine .cons ?_ (ih nl)
    rcases e with e | e
    · refine .inl (List.mem_filter.mpr ⟨e, decide_eq_true fun q => ?_⟩)
      subst q
      rcases ht with q | q
      · exact nx q.symm
      · exact ny q.symm
    · refine .inr (List.mem_filter.mpr ⟨e, decide_eq_true fun q => ?_⟩)
      subst q
      rcases ht with q | q
      · exact ny q.symm
      · exact nx q.symm
theorem Way.self {ts : Ties} {a : Int} {l : List Int} (h : Way ts a a l) : l = [a] := by
  obtain ⟨w, nd⟩ := h
  cases w with
  | one => rfl
  | cons e w => exact absurd w.mem_b (List.nodup_cons.mp nd).1
/-- there is one way -/
theorem way_unique {ts : Ties} (T : Tree ts) : ∀ {l m : List Int} {a b : Int}, Way ts a b l → Way ts a b m → l = m := by
  intro l
  induction l with
  | nil =>
    intro m a b h _
    exact absurd rfl h.wk.ne_nil
  | cons x l ih =>
    intro m a b h g
    obtain ⟨w, nd⟩ := h
    cases w with
    | one => exact (Way.self g).symm
    | @cons _ y _ _ e w =>
      have nl := (List.nodup_cons.mp nd).1
      obtain ⟨w2, nd2⟩ := g
      cases w2 with
      | one => exact absurd w.mem_b nl
      | @cons _ z _ m e2 w2 =>
        have nm := (List.nodup_cons.mp nd2).1
        by_cases q : y = z
        · subst q
          rw [ih ⟨w, (List.nodup_cons.mp nd).2⟩ ⟨w2, (List.nodup_cons.mp nd2).2⟩]
        · exfalso
          -- the tie of x and y is gone round
          have go : ∀ t : Int × Int, (t = (x, y) ∨ t = (y, x)) → t ∈ ts → False := by
            intro t ht mt
            have h1 : t.1 = x ∨ t.2 = x := by
              rcases ht with rfl | rfl
              · exact .inl rfl
              · exact .inr rfl
            have r1 : Rch (ts.filter fun u => decide (u ≠ t)) y b := (w.avoid nl t h1).rch
            have r2 : Rch (ts.filter fun u => decide (u ≠ t)) z b := (w2.avoid nm t h1).rch
            have nxy : x ≠ y := fun q => nl (q ▸ w.mem_a)
            have e3 : Adj (ts.filter fun u => decide (u ≠ t)) x z := by
              rcases e2 with e2 | e2
              · refine .inl (List.mem_filter.mpr ⟨e2, decide_eq_true fun k => ?_⟩)
                rcases ht with rfl | rfl
                · exact q (Prod.mk.inj k).2.symm
                · exact nxy (Prod.mk.inj k).1
              · refine .inr (List.mem_filter.mpr ⟨e2, decide_eq_true fun k => ?_⟩)
                rcases ht with rfl | rfl
                · exact nxy (Prod.mk.inj k).2
                · exact q (Prod.mk.inj k).1.symm
            have r3 : Rch (ts.filter fun u => decide (u ≠ t)) x y := ((Rch.one e3).trans r2).trans r1.symm
            rcases ht with rfl | rfl
            · exact T _ mt r3
            · exact T _ mt r3.symm
          rcases e with e | e
          · exact go _ (.inl rfl) e
          · exact go _ (.inr rfl) e
theorem Way.rev {ts : Ties} {a b : Int} {l : List Int} (h : Way ts a b l) : Way ts b a l.reverse := ⟨h.wk.rev, List.pairwise_reverse.mpr (h.nd.imp fun n e => n e.symm)⟩
theorem Way.snoc {ts : Ties} {a b c : Int} {l : List Int} (h : Way ts a b l) (e : Adj ts b c) (n : c ∉ l) : Way ts a c (l ++ [c]) :=
  ⟨h.wk.snoc e, List.nodup_append.mpr ⟨h.nd, List.nodup_cons.mpr ⟨List.not_mem_nil, List.nodup_nil⟩, fun x m y k z => by
    rw [List.mem_singleton.mp k] at z
    exact n (z ▸ m)⟩⟩
/-- a way up to a point of it -/
theorem Wlk.upto {ts : Ties} {a b : Int} {l : List Int} (h : Wlk ts a b l) : ∀ {x : Int}, x ∈ l → ∃ p s, l = p ++ s ∧ Wlk ts a x p ∧ ∃ s', Wlk ts x b (x :: s') ∧ s = s' := by
  induction h with
  | one a =>
    intro x m
    have e := List.mem_singleton.mp m
    subst e
    exact ⟨[x], [], rfl, .one x, [], .one x, rfl⟩
  | @cons a c b l e w ih =>
    intro x m
    rcases List.mem_cons.mp m with rfl | m
    · exact ⟨[x], l, rfl, .one x, l, .cons e w, rfl⟩
    · obtain ⟨p, s, h1, h2, s', h3, h4⟩ := ih m
      exact ⟨a :: p, s, by rw [h1]; rfl, .cons e h2, s', h3, h4⟩
/-- where two are joined there is a way -/
theorem rch_way {ts : Ties} {a b : Int} (h : Rch ts a b) : ∃ l, Way ts a b l := by
  induction h with
  | refl => exact ⟨[a], .one a, by simp⟩
  | @step b c _ e ih =>
    obtain ⟨l, w⟩ := ih
    by_cases m : c ∈ l
    · obtain ⟨p, s, h1, h2, _⟩ := w.wk.upto m
      refine ⟨p, h2, ?_⟩
      have nd := w.nd
      rw [h1] at nd
      exact (List.nodup_append.mp nd).1
    · exact ⟨_, w.snoc e m⟩
/-! ### a tie that leads to a new point -/
theorem rch_contract {ts : Ties} {u v p q : Int} {k : Ties} (hv : ∀ t ∈ ts, t.1 ≠ v ∧ t.2 ≠ v) (hk : ∀ t ∈ k, t ∈ ts ∨ t = (u, v) ∨ t = (v, u)) (nuv : u ≠ v) (us : Ties) (hus : ∀ t ∈ k, t ∈ ts → t ∈ us) (h : Rch k p q) :
    Rch us (if p = v then u else p) (if q = v then u else q) := by
  induction h with
  | refl => exact .refl
  | @step b c _ e ih =>
    refine ih.trans ?_
    have one : ∀ {x y : Int}, (x, y) ∈ k → Rch us (if x = v then u else x) (if y = v then u else y) := by
      intro x y m
      rcases hk _ m with z | z | z
      · have n := hv _ z
        rw [if_neg n.1, if_neg n.2]
        exact .one (.inl (hus _ m z))
      · obtain ⟨rfl, rfl⟩ := Prod.mk.inj z
        rw [if_neg nuv, if_pos rfl]
        exact .refl
      · obtain ⟨rfl, rfl⟩ := Prod.mk.inj z
        rw [if_neg nuv, if_pos rfl]
        exact .refl
    rcases e with e | e
    · exact one e
    · exact (one e).symm
theorem tree_nil : Tree [] := fun _ m => absurd m List.not_mem_nil
theorem rch_isolated {ts : Ties} {a v : Int} (hv : ∀ t ∈ ts, t.1 ≠ v ∧ t.2 ≠ v) (h : Rch ts a v) : a = v := by
  cases h with
  | refl => rfl
  | step _ e =>
    rcases e with e | e
    · exact absurd rfl (hv _ e).2
    · exact absurd rfl (hv _ e).1
theorem tree_snoc {ts : Ties} {u v : Int} {t : Int × Int} (T : Tree ts) (hv : ∀ t ∈ ts, t.1 ≠ v ∧ t.2 ≠ v) (nuv : u ≠ v) (ht : t = (u, v) ∨ t = (v, u)) : Tree (ts ++ [t]) := by
  intro e me h
  have tv : t.1 = v ∨ t.2 = v := by
    rcases ht with rfl | rfl
    · exact .inr rfl
    · exact .inl rfl
  rcases List.mem_append.mp me with m | m
  · have ne : e ≠ t := fun q => by
      have z := hv e m
      rw [q] at z
      rcases tv with y | y
      · exact z.1 y
      · exact z.2 y
    have n := hv e m
    have r := rch_contract (ts := ts) (u := u) (v := v) (us := ts.filter fun x => decide (x ≠ e)) hv (fun x hx => ?_) nuv (fun x hx hm => ?_) h
    · rw [if_neg n.1, if_neg n.2] at r
      exact T e m r
    · rcases List.mem_append.mp (List.mem_filter.mp hx).1 with z | z
      · exact .inl z
      · rw [List.mem_singleton.mp z]
        exact .inr ht
    · exact List.mem_filter.mpr ⟨hm, (List.mem_filter.mp hx).2⟩
  · have q := List.mem_singleton.mp m
    subst q
    have iso : ∀ x ∈ ((ts ++ [e]).filter fun x => decide (x ≠ e)), x.1 ≠ v ∧ x.2 ≠ v := fun x hx => by
      obtain ⟨h1, h2⟩ := List.mem_filter.mp hx
      rcases List.mem_append.mp h1 with z | z
      · exact hv x z
      · exact absurd (List.mem_singleton.mp z) (of_decide_eq_true h2)
    rcases ht with rfl | rfl
    · exact nuv (rch_isolated iso h)
    · exact nuv (rch_isolated iso h.symm)
theorem rch_perm {ts us : Ties} (p : ∀ t, t ∈ ts ↔ t ∈ us) {a b : Int} (h : Rch ts a b) : Rch us a b := h.mono fun t m => (p t).mp m
theorem tree_perm {ts us : Ties} (p : ∀ t, t ∈ ts ↔ t ∈ us) (T : Tree ts) : Tree us := fun t m h => T t ((p t).mpr m) (h.mono fun x hx => by
  obtain ⟨h1, h2⟩ := List.mem_filter.mp hx
  exact List.mem_filter.mpr ⟨(p x).mpr h1, h2⟩)
/-- with a tie cut its two are apart, and each is with one of them -/
theorem rch_cut {ts : Ties} {t : Int × Int} (mt : t ∈ ts) {a b : Int} (h : Rch ts a b) : Rch (ts.filter fun u => decide (u ≠ t)) a b ∨ (Rch (ts.filter fun u => decide (u ≠ t)) a t.1 ∧ Rch (ts.filter fun u => decide (u ≠ t)) t.2 b) ∨ (Rch (ts.filter fun u => decide (u ≠ t)) a t.2 ∧ Rch (ts.filter fun u => decide (u ≠ t)) t.1 b) := by
  induction h with
  | refl => exact .inl .refl
  | @step b c _ e ih =>
    have key : Adj (ts.filter fun u => decide (u ≠ t)) b c ∨ (b = t.1 ∧ c = t.2) ∨ (b = t.2 ∧ c = t.1) := by
      rcases e with e | e
      · by_cases q : (b, c) = t
        · exact .inr (.inl (by rw [← q]; exact ⟨rfl, rfl⟩))
        · exact .inl (.inl (List.mem_filter.mpr ⟨e, decide_eq_true q⟩))
      · by_cases q : (c, b) = t
        · exact .inr (.inr (by rw [← q]; exact ⟨rfl, rfl⟩))
        · exact .inl (.inr (List.mem_filter.mpr ⟨e, decide_eq_true q⟩))
    rcases key with k | ⟨rfl, rfl⟩ | ⟨rfl, rfl⟩
    · rcases ih with h | ⟨h1, h2⟩ | ⟨h1, h2⟩
      · exact .inl (.step h k)
      · exact .inr (.inl ⟨h1, .step h2 k⟩)
      · exact .inr (.inr ⟨h1, .step h2 k⟩)
    · rcases ih with h | ⟨h1, h2⟩ | ⟨h1, h2⟩
      · exact .inr (.inl ⟨h, .refl⟩)
      · exact .inr (.inl ⟨h1, .refl⟩)
      · exact .inl h1
    · rcases ih with h | ⟨h1, h2⟩ | ⟨h1, h2⟩
      · exact .inr (.inr ⟨h, .refl⟩)
      · exact .inl h1
      · exact .inr (.inr ⟨h1, .refl⟩)

end My
namespace My
open PySem L2

/-! ### the text by places -/
def topS (i : Nat) : Stmt := PySem.Challenge.pw_tiedcut_k17_asked_of_ways.main.body.getD i (.Pass ⟨0, 0, 0, 0⟩)
abbrev s_iswhole : Stmt := topS 10
abbrev s_iskind : Stmt := topS 13
abbrev s_isrow : Stmt := topS 20
abbrev s_fits : Stmt := topS 21
abbrev s_isdeed : Stmt := topS 22
abbrev s_pointsnamed : Stmt := topS 23
abbrev s_refuseunfit : Stmt := topS 24
abbrev s_refusemissing : Stmt := topS 25
abbrev s_wayof : Stmt := topS 27
abbrev s_stepstoward : Stmt := topS 31
abbrev s_neighbours : Stmt := topS 32
abbrev s_askedway : Stmt := topS 34
abbrev s_worthsof : Stmt := topS 37
abbrev s_greatest : Stmt := topS 38
abbrev s_firstofkind : Stmt := topS 39
abbrev s_askjoined : Stmt := topS 49
abbrev s_askway : Stmt := topS 50
abbrev s_asktotal : Stmt := topS 51
abbrev s_askmany : Stmt := topS 52
abbrev s_askmost : Stmt := topS 53
abbrev s_askfirst : Stmt := topS 54
abbrev s_askreach : Stmt := topS 55
abbrev s_askkth : Stmt := topS 56
abbrev s_plaindo : Stmt := topS 64
abbrev s_Lmixed : Stmt := topS 66
abbrev s_Lbox : Stmt := topS 67
abbrev s_Lnext : Stmt := topS 68
abbrev s_Lfew : Stmt := topS 69
abbrev s_Lworth : Stmt := topS 70
abbrev s_Lpoint : Stmt := topS 71
abbrev s_Lforest : Stmt := topS 72
abbrev s_Lways : Stmt := topS 73
abbrev s_Lway : Stmt := topS 74
abbrev s_Lgreatest : Stmt := topS 79
abbrev s_Lfirst : Stmt := topS 80
abbrev s_Lofway : Stmt := topS 81
abbrev s_Lask : Stmt := topS 82
abbrev s_Ldue : Stmt := topS 83
abbrev s_Lspot : Stmt := topS 84
abbrev s_Lpair : Stmt := topS 85
abbrev s_Lrow : Stmt := topS 86
abbrev s_Lsame : Stmt := topS 87
abbrev s_Lrefused : Stmt := topS 88
abbrev s_Laskedright : Stmt := topS 89
abbrev s_law : Stmt := topS 90
theorem sc_iswhole : FnScope ["thing"] ["thing"] (defScope s_iswhole) := ⟨rfl, rfl, rfl, by decide +kernel, rfl, by decide +kernel, by decide +kernel⟩
theorem sc_iskind : FnScope ["thing"] ["thing"] (defScope s_iskind) := ⟨rfl, rfl, rfl, by decide +kernel, rfl, by decide +kernel, by decide +kernel⟩
theorem sc_isrow : FnScope ["thing", "form", "parts", "part", "wanted"] ["thing"] (defScope s_isrow) := ⟨rfl, rfl, rfl, by decide +kernel, rfl, by decide +kernel, by decide +kernel⟩
theorem sc_fits : FnScope ["part", "wanted"] ["part", "wanted"] (defScope s_fits) := ⟨rfl, rfl, rfl, by decide +kernel, rfl, by decide +kernel, by decide +kernel⟩
theorem sc_isdeed : FnScope ["row"] ["row"] (defScope s_isdeed) := ⟨rfl, rfl, rfl, by decide +kernel, rfl, by decide +kernel, by decide +kernel⟩
theorem sc_pointsnamed : FnScope ["row", "named", "part", "wanted", "number"] ["row"] (defScope s_pointsnamed) := ⟨rfl, rfl, rfl, by decide +kernel, rfl, by decide +kernel, by decide +kernel⟩
theorem sc_refuseunfit : FnScope ["row", "many"] ["row", "many"] (defScope s_refuseunfit) := ⟨rfl, rfl, rfl, by decide +kernel, rfl, by decide +kernel, by decide +kernel⟩
theorem sc_refusemissing : FnScope ["numbers", "many", "number"] ["numbers", "many"] (defScope s_refusemissing) := ⟨rfl, rfl, rfl, by decide +kernel, rfl, by decide +kernel, by decide +kernel⟩
theorem sc_wayof : FnScope ["forest", "a", "b", "toward", "way"] ["forest", "a", "b"] (defScope s_wayof) := ⟨rfl, rfl, rfl, by decide +kernel, rfl, by decide +kernel, by decide +kernel⟩
theorem sc_stepstoward : FnScope ["forest", "goal", "around", "toward", "waiting", "here", "there"] ["forest", "goal"] (defScope s_stepstoward) := ⟨rfl, rfl, rfl, by decide +kernel, rfl, by decide +kernel, by decide +kernel⟩
theorem sc_neighbours : FnScope ["forest", "points", "ties", "around", "point", "a", "b"] ["forest"] (defScope s_neighbours) := ⟨rfl, rfl, rfl, by decide +kernel, rfl, by decide +kernel, by decide +kernel⟩
theorem sc_askedway : FnScope ["forest", "a", "b", "way"] ["forest", "a", "b"] (defScope s_askedway) := ⟨rfl, rfl, rfl, by decide +kernel, rfl, by decide +kernel, by decide +kernel⟩
theorem sc_worthsof : FnScope ["forest", "chosen", "points", "p"] ["forest", "chosen"] (defScope s_worthsof) := ⟨rfl, rfl, rfl, by decide +kernel, rfl, by decide +kernel, by decide +kernel⟩
theorem sc_greatest : FnScope ["forest", "chosen", "worths", "worth"] ["forest", "chosen"] (defScope s_greatest) := ⟨rfl, rfl, rfl, by decide +kernel, rfl, by decide +kernel, by decide +kernel⟩
theorem sc_firstofkind : FnScope ["forest", "chosen", "kind", "points", "p"] ["forest", "chosen", "kind"] (defScope s_firstofkind) := ⟨rfl, rfl, rfl, by decide +kernel, rfl, by decide +kernel, by decide +kernel⟩
theorem sc_askjoined : FnScope ["forest", "row"] ["forest", "row"] (defScope s_askjoined) := ⟨rfl, rfl, rfl, by decide +kernel, rfl, by decide +kernel, by decide +kernel⟩
theorem sc_askway : FnScope ["forest", "row"] ["forest", "row"] (defScope s_askway) := ⟨rfl, rfl, rfl, by decide +kernel, rfl, by decide +kernel, by decide +kernel⟩
theorem sc_asktotal : FnScope ["forest", "row"] ["forest", "row"] (defScope s_asktotal) := ⟨rfl, rfl, rfl, by decide +kernel, rfl, by decide +kernel, by decide +kernel⟩
theorem sc_askmany : FnScope ["forest", "row"] ["forest", "row"] (defScope s_askmany) := ⟨rfl, rfl, rfl, by decide +kernel, rfl, by decide +kernel, by decide +kernel⟩
theorem sc_askmost : FnScope ["forest", "row"] ["forest", "row"] (defScope s_askmost) := ⟨rfl, rfl, rfl, by decide +kernel, rfl, by decide +kernel, by decide +kernel⟩
theorem sc_askfirst : FnScope ["forest", "row"] ["forest", "row"] (defScope s_askfirst) := ⟨rfl, rfl, rfl, by decide +kernel, rfl, by decide +kernel, by decide +kernel⟩
theorem sc_askreach : FnScope ["forest", "row", "p"] ["forest", "row"] (defScope s_askreach) := ⟨rfl, rfl, rfl, by decide +kernel, rfl, by decide +kernel, by decide +kernel⟩
theorem sc_askkth : FnScope ["forest", "row", "way"] ["forest", "row"] (defScope s_askkth) := ⟨rfl, rfl, rfl, by decide +kernel, rfl, by decide +kernel, by decide +kernel⟩
theorem sc_plaindo : FnScope ["forest", "row", "deed", "ask"] ["forest", "row"] (defScope s_plaindo) := ⟨rfl, rfl, rfl, by decide +kernel, rfl, by decide +kernel, by decide +kernel⟩
theorem sc_Lmixed : FnScope ["_law_cell", "_law_many", "_law_at", "_law_found", "_law_k"] ["_law_cell", "_law_many"] (defScope s_Lmixed) := ⟨rfl, rfl, rfl, by decide +kernel, rfl, by decide +kernel, by decide +kernel⟩
theorem sc_Lbox : FnScope ["_law_script", "_law_found", "_law_cell", "_law_left", "_law_k"] ["_law_script"] (defScope s_Lbox) := ⟨rfl, rfl, rfl, by decide +kernel, rfl, by decide +kernel, by decide +kernel⟩
theorem sc_Lnext : FnScope ["_law_box_here"] ["_law_box_here"] (defScope s_Lnext) := ⟨rfl, rfl, rfl, by decide +kernel, rfl, by decide +kernel, by decide +kernel⟩
theorem sc_Lfew : FnScope ["_law_box_here", "_law_few_here", "_law_most", "_law_x"] ["_law_box_here", "_law_few_here", "_law_most"] (defScope s_Lfew) := ⟨rfl, rfl, rfl, by decide +kernel, rfl, by decide +kernel, by decide +kernel⟩
theorem sc_Lworth : FnScope ["_law_box_here", "_law_x"] ["_law_box_here"] (defScope s_Lworth) := ⟨rfl, rfl, rfl, by decide +kernel, rfl, by decide +kernel, by decide +kernel⟩
theorem sc_Lpoint : FnScope ["_law_box_here", "_law_x"] ["_law_box_here"] (defScope s_Lpoint) := ⟨rfl, rfl, rfl, by decide +kernel, rfl, by decide +kernel, by decide +kernel⟩
theorem sc_Lforest : FnScope ["_law_box_here", "_law_few_here", "_law_most", "_law_many", "_law_shape", "_law_names", "_law_k", "_law_ties", "_law_apart", "_law_under"] ["_law_box_here", "_law_few_here", "_law_most"] (defScope s_Lforest) := ⟨rfl, rfl, rfl, by decide +kernel, rfl, by decide +kernel, by decide +kernel⟩
theorem sc_Lways : FnScope ["_law_forest_here", "_law_a", "_law_ways_here", "_law_waiting", "_law_here", "_law_one", "_law_other", "_law_there"] ["_law_forest_here", "_law_a"] (defScope s_Lways) := ⟨rfl, rfl, rfl, by decide +kernel, rfl, by decide +kernel, by decide +kernel⟩
theorem sc_Lway : FnScope ["_law_forest_here", "_law_a", "_law_b"] ["_law_forest_here", "_law_a", "_law_b"] (defScope s_Lway) := ⟨rfl, rfl, rfl, by decide +kernel, rfl, by decide +kernel, by decide +kernel⟩
theorem sc_Lgreatest : FnScope ["_law_forest_here", "_law_some", "_law_best", "_law_k"] ["_law_forest_here", "_law_some"] (defScope s_Lgreatest) := ⟨rfl, rfl, rfl, by decide +kernel, rfl, by decide +kernel, by decide +kernel⟩
theorem sc_Lfirst : FnScope ["_law_some", "_law_fits", "_law_k"] ["_law_some", "_law_fits"] (defScope s_Lfirst) := ⟨rfl, rfl, rfl, by decide +kernel, rfl, by decide +kernel, by decide +kernel⟩
theorem sc_Lofway : FnScope ["_law_forest_here", "_law_row_here", "_law_way_here", "_law_word", "_law_k"] ["_law_forest_here", "_law_row_here", "_law_way_here"] (defScope s_Lofway) := ⟨rfl, rfl, rfl, by decide +kernel, rfl, by decide +kernel, by decide +kernel⟩
theorem sc_Lask : FnScope ["_law_forest_here", "_law_row_here", "_law_word", "_law_side_here", "_law_k", "_law_way_here", "_law_here"] ["_law_forest_here", "_law_row_here"] (defScope s_Lask) := ⟨rfl, rfl, rfl, by decide +kernel, rfl, by decide +kernel, by decide +kernel⟩
theorem sc_Ldue : FnScope ["_law_forest_here", "_law_row_here", "_law_spots", "_law_one", "_law_p"] ["_law_forest_here", "_law_row_here"] (defScope s_Ldue) := ⟨rfl, rfl, rfl, by decide +kernel, rfl, by decide +kernel, by decide +kernel⟩
theorem sc_Lspot : FnScope ["_law_box_here", "_law_many", "_law_x"] ["_law_box_here", "_law_many"] (defScope s_Lspot) := ⟨rfl, rfl, rfl, by decide +kernel, rfl, by decide +kernel, by decide +kernel⟩
theorem sc_Lpair : FnScope ["_law_box_here", "_law_forest_here", "_law_whole", "_law_x", "_law_one", "_law_other", "_law_two"] ["_law_box_here", "_law_forest_here", "_law_whole"] (defScope s_Lpair) := ⟨rfl, rfl, rfl, by decide +kernel, rfl, by decide +kernel, by decide +kernel⟩
theorem sc_Lrow : FnScope ["_law_box_here", "_law_forest_here", "_law_words", "_law_word", "_law_many", "_law_two"] ["_law_box_here", "_law_forest_here", "_law_words"] (defScope s_Lrow) := ⟨rfl, rfl, rfl, by decide +kernel, rfl, by decide +kernel, by decide +kernel⟩
theorem sc_Lsame : FnScope ["_law_found", "_law_due_here", "_law_one", "_law_other"] ["_law_found", "_law_due_here"] (defScope s_Lsame) := ⟨rfl, rfl, rfl, by decide +kernel, rfl, by decide +kernel, by decide +kernel⟩
theorem sc_Lrefused : FnScope ["_law_told_by", "_law_thing", "_law_caught", "_law_told", "e", "_law_some"] ["_law_told_by", "_law_thing"] (defScope s_Lrefused) := ⟨rfl, rfl, rfl, by decide +kernel, rfl, by decide +kernel, by decide +kernel⟩
theorem sc_Laskedright : FnScope ["_law_forest_here", "_law_row_here", "_law_first_here", "_law_due_here", "_law_turn", "_law_told"] ["_law_forest_here", "_law_row_here"] (defScope s_Laskedright) := ⟨rfl, rfl, rfl, by decide +kernel, rfl, by decide +kernel, by decide +kernel⟩
theorem sc_law : FnScope ["_law_script", "_law_box_here", "_law_words", "_law_forest_here", "_law_turn", "_law_row_here"] ["_law_script"] (defScope s_law) := ⟨rfl, rfl, rfl, by decide +kernel, rfl, by decide +kernel, by decide +kernel⟩
/-- what the top has left -/
structure Top (w : World) (K : PySem.W.Frag) (mg : Str → Option Value) where
  a_iswhole : Addr
  d_iswhole : FuncData
  F_iswhole : Fun K "is_whole" "is_whole" s_iswhole a_iswhole d_iswhole
  b_iswhole : Binds K d_iswhole ["thing"] []
  g_iswhole : mg "is_whole" = some (.ref a_iswhole)
  a_iskind : Addr
  d_iskind : FuncData
  F_iskind : Fun K "is_kind" "is_kind" s_iskind a_iskind d_iskind
  b_iskind : Binds K d_iskind ["thing"] []
  g_iskind : mg "is_kind" = some (.ref a_iskind)
  a_isrow : Addr
  d_isrow : FuncData
  F_isrow : Fun K "is_row" "is_row" s_isrow a_isrow d_isrow
  b_isrow : Binds K d_isrow ["thing"] []
  g_isrow : mg "is_row" = some (.ref a_isrow)
  a_fits : Addr
  d_fits : FuncData
  F_fits : Fun K "fits" "fits" s_fits a_fits d_fits
  b_fits : Binds K d_fits ["part", "wanted"] []
  g_fits : mg "fits" = some (.ref a_fits)
  a_isdeed : Addr
  d_isdeed : FuncData
  F_isdeed : Fun K "is_deed" "is_deed" s_isdeed a_isdeed d_isdeed
  b_isdeed : Binds K d_isdeed ["row"] []
  g_isdeed : mg "is_deed" = some (.ref a_isdeed)
  a_pointsnamed : Addr
  d_pointsnamed : FuncData
  F_pointsnamed : Fun K "points_named" "points_named" s_pointsnamed a_pointsnamed d_pointsnamed
  b_pointsnamed : Binds K d_pointsnamed ["row"] []
  g_pointsnamed : mg "points_named" = some (.ref a_pointsnamed)
  a_refuseunfit : Addr
  d_refuseunfit : FuncData
  F_refuseunfit : Fun K "refuse_unfit" "refuse_unfit" s_refuseunfit a_refuseunfit d_refuseunfit
  b_refuseunfit : Binds K d_refuseunfit ["row", "many"] []
  g_refuseunfit : mg "refuse_unfit" = some (.ref a_refuseunfit)
  a_refusemissing : Addr
  d_refusemissing : FuncData
  F_refusemissing : Fun K "refuse_missing" "refuse_missing" s_refusemissing a_refusemissing d_refusemissing
  b_refusemissing : Binds K d_refusemissing ["numbers", "many"] []
  g_refusemissing : mg "refuse_missing" = some (.ref a_refusemissing)
  a_wayof : Addr
  d_wayof : FuncData
  F_wayof : Fun K "way_of" "way_of" s_wayof a_wayof d_wayof
  b_wayof : Binds K d_wayof ["forest", "a", "b"] []
  g_wayof : mg "way_of" = some (.ref a_wayof)
  a_stepstoward : Addr
  d_stepstoward : FuncData
  F_stepstoward : Fun K "steps_toward" "steps_toward" s_stepstoward a_stepstoward d_stepstoward
  b_stepstoward : Binds K d_stepstoward ["forest", "goal"] []
  g_stepstoward : mg "steps_toward" = some (.ref a_stepstoward)
  a_neighbours : Addr
  d_neighbours : FuncData
  F_neighbours : Fun K "neighbours" "neighbours" s_neighbours a_neighbours d_neighbours
  b_neighbours : Binds K d_neighbours ["forest"] []
  g_neighbours : mg "neighbours" = some (.ref a_neighbours)
  a_askedway : Addr
  d_askedway : FuncData
  F_askedway : Fun K "asked_way" "asked_way" s_askedway a_askedway d_askedway
  b_askedway : Binds K d_askedway ["forest", "a", "b"] []
  g_askedway : mg "asked_way" = some (.ref a_askedway)
  a_worthsof : Addr
  d_worthsof : FuncData
  F_worthsof : Fun K "worths_of" "worths_of" s_worthsof a_worthsof d_worthsof
  b_worthsof : Binds K d_worthsof ["forest", "chosen"] []
  g_worthsof : mg "worths_of" = some (.ref a_worthsof)
  a_greatest : Addr
  d_greatest : FuncData
  F_greatest : Fun K "greatest" "greatest" s_greatest a_greatest d_greatest
  b_greatest : Binds K d_greatest ["forest", "chosen"] []
  g_greatest : mg "greatest" = some (.ref a_greatest)
  a_firstofkind : Addr
  d_firstofkind : FuncData
  F_firstofkind : Fun K "first_of_kind" "first_of_kind" s_firstofkind a_firstofkind d_firstofkind
  b_firstofkind : Binds K d_firstofkind ["forest", "chosen", "kind"] []
  g_firstofkind : mg "first_of_kind" = some (.ref a_firstofkind)
  a_askjoined : Addr
  d_askjoined : FuncData
  F_askjoined : Fun K "ask_joined" "ask_joined" s_askjoined a_askjoined d_askjoined
  b_askjoined : Binds K d_askjoined ["forest", "row"] []
  g_askjoined : mg "ask_joined" = some (.ref a_askjoined)
  a_askway : Addr
  d_askway : FuncData
  F_askway : Fun K "ask_way" "ask_way" s_askway a_askway d_askway
  b_askway : Binds K d_askway ["forest", "row"] []
  g_askway : mg "ask_way" = some (.ref a_askway)
  a_asktotal : Addr
  d_asktotal : FuncData
  F_asktotal : Fun K "ask_total" "ask_total" s_asktotal a_asktotal d_asktotal
  b_asktotal : Binds K d_asktotal ["forest", "row"] []
  g_asktotal : mg "ask_total" = some (.ref a_asktotal)
  a_askmany : Addr
  d_askmany : FuncData
  F_askmany : Fun K "ask_many" "ask_many" s_askmany a_askmany d_askmany
  b_askmany : Binds K d_askmany ["forest", "row"] []
  g_askmany : mg "ask_many" = some (.ref a_askmany)
  a_askmost : Addr
  d_askmost : FuncData
  F_askmost : Fun K "ask_most" "ask_most" s_askmost a_askmost d_askmost
  b_askmost : Binds K d_askmost ["forest", "row"] []
  g_askmost : mg "ask_most" = some (.ref a_askmost)
  a_askfirst : Addr
  d_askfirst : FuncData
  F_askfirst : Fun K "ask_first" "ask_first" s_askfirst a_askfirst d_askfirst
  b_askfirst : Binds K d_askfirst ["forest", "row"] []
  g_askfirst : mg "ask_first" = some (.ref a_askfirst)
  a_askreach : Addr
  d_askreach : FuncData
  F_askreach : Fun K "ask_reach" "ask_reach" s_askreach a_askreach d_askreach
  b_askreach : Binds K d_askreach ["forest", "row"] []
  g_askreach : mg "ask_reach" = some (.ref a_askreach)
  a_askkth : Addr
  d_askkth : FuncData
  F_askkth : Fun K "ask_kth" "ask_kth" s_askkth a_askkth d_askkth
  b_askkth : Binds K d_askkth ["forest", "row"] []
  g_askkth : mg "ask_kth" = some (.ref a_askkth)
  a_plaindo : Addr
  d_plaindo : FuncData
  F_plaindo : Fun K "plain_do" "plain_do" s_plaindo a_plaindo d_plaindo
  b_plaindo : Binds K d_plaindo ["forest", "row"] []
  g_plaindo : mg "plain_do" = some (.ref a_plaindo)
  a_Lmixed : Addr
  d_Lmixed : FuncData
  F_Lmixed : Fun K "_law_mixed" "_law_mixed" s_Lmixed a_Lmixed d_Lmixed
  b_Lmixed : Binds K d_Lmixed ["_law_cell", "_law_many"] []
  g_Lmixed : mg "_law_mixed" = some (.ref a_Lmixed)
  a_Lbox : Addr
  d_Lbox : FuncData
  F_Lbox : Fun K "_law_box" "_law_box" s_Lbox a_Lbox d_Lbox
  b_Lbox : Binds K d_Lbox ["_law_script"] []
  g_Lbox : mg "_law_box" = some (.ref a_Lbox)
  a_Lnext : Addr
  d_Lnext : FuncData
  F_Lnext : Fun K "_law_next" "_law_next" s_Lnext a_Lnext d_Lnext
  b_Lnext : Binds K d_Lnext ["_law_box_here"] []
  g_Lnext : mg "_law_next" = some (.ref a_Lnext)
  a_Lfew : Addr
  d_Lfew : FuncData
  F_Lfew : Fun K "_law_few" "_law_few" s_Lfew a_Lfew d_Lfew
  b_Lfew : Binds K d_Lfew ["_law_box_here", "_law_few_here", "_law_most"] []
  g_Lfew : mg "_law_few" = some (.ref a_Lfew)
  a_Lworth : Addr
  d_Lworth : FuncData
  F_Lworth : Fun K "_law_worth" "_law_worth" s_Lworth a_Lworth d_Lworth
  b_Lworth : Binds K d_Lworth ["_law_box_here"] []
  g_Lworth : mg "_law_worth" = some (.ref a_Lworth)
  a_Lpoint : Addr
  d_Lpoint : FuncData
  F_Lpoint : Fun K "_law_point" "_law_point" s_Lpoint a_Lpoint d_Lpoint
  b_Lpoint : Binds K d_Lpoint ["_law_box_here"] []
  g_Lpoint : mg "_law_point" = some (.ref a_Lpoint)
  a_Lforest : Addr
  d_Lforest : FuncData
  F_Lforest : Fun K "_law_forest" "_law_forest" s_Lforest a_Lforest d_Lforest
  b_Lforest : Binds K d_Lforest ["_law_box_here", "_law_few_here", "_law_most"] []
  g_Lforest : mg "_law_forest" = some (.ref a_Lforest)
  a_Lways : Addr
  d_Lways : FuncData
  F_Lways : Fun K "_law_ways" "_law_ways" s_Lways a_Lways d_Lways
  b_Lways : Binds K d_Lways ["_law_forest_here", "_law_a"] []
  g_Lways : mg "_law_ways" = some (.ref a_Lways)
  a_Lway : Addr
  d_Lway : FuncData
  F_Lway : Fun K "_law_way" "_law_way" s_Lway a_Lway d_Lway
  b_Lway : Binds K d_Lway ["_law_forest_here", "_law_a", "_law_b"] []
  g_Lway : mg "_law_way" = some (.ref a_Lway)
  a_Lgreatest : Addr
  d_Lgreatest : FuncData
  F_Lgreatest : Fun K "_law_greatest" "_law_greatest" s_Lgreatest a_Lgreatest d_Lgreatest
  b_Lgreatest : Binds K d_Lgreatest ["_law_forest_here", "_law_some"] []
  g_Lgreatest : mg "_law_greatest" = some (.ref a_Lgreatest)
  a_Lfirst : Addr
  d_Lfirst : FuncData
  F_Lfirst : Fun K "_law_first" "_law_first" s_Lfirst a_Lfirst d_Lfirst
  b_Lfirst : Binds K d_Lfirst ["_law_some", "_law_fits"] []
  g_Lfirst : mg "_law_first" = some (.ref a_Lfirst)
  a_Lofway : Addr
  d_Lofway : FuncData
  F_Lofway : Fun K "_law_of_way" "_law_of_way" s_Lofway a_Lofway d_Lofway
  b_Lofway : Binds K d_Lofway ["_law_forest_here", "_law_row_here", "_law_way_here"] []
  g_Lofway : mg "_law_of_way" = some (.ref a_Lofway)
  a_Lask : Addr
  d_Lask : FuncData
  F_Lask : Fun K "_law_ask" "_law_ask" s_Lask a_Lask d_Lask
  b_Lask : Binds K d_Lask ["_law_forest_here", "_law_row_here"] []
  g_Lask : mg "_law_ask" = some (.ref a_Lask)
  a_Ldue : Addr
  d_Ldue : FuncData
  F_Ldue : Fun K "_law_due" "_law_due" s_Ldue a_Ldue d_Ldue
  b_Ldue : Binds K d_Ldue ["_law_forest_here", "_law_row_here"] []
  g_Ldue : mg "_law_due" = some (.ref a_Ldue)
  a_Lspot : Addr
  d_Lspot : FuncData
  F_Lspot : Fun K "_law_spot" "_law_spot" s_Lspot a_Lspot d_Lspot
  b_Lspot : Binds K d_Lspot ["_law_box_here", "_law_many"] []
  g_Lspot : mg "_law_spot" = some (.ref a_Lspot)
  a_Lpair : Addr
  d_Lpair : FuncData
  F_Lpair : Fun K "_law_pair" "_law_pair" s_Lpair a_Lpair d_Lpair
  b_Lpair : Binds K d_Lpair ["_law_box_here", "_law_forest_here", "_law_whole"] []
  g_Lpair : mg "_law_pair" = some (.ref a_Lpair)
  a_Lrow : Addr
  d_Lrow : FuncData
  F_Lrow : Fun K "_law_row" "_law_row" s_Lrow a_Lrow d_Lrow
  b_Lrow : Binds K d_Lrow ["_law_box_here", "_law_forest_here", "_law_words"] []
  g_Lrow : mg "_law_row" = some (.ref a_Lrow)
  a_Lsame : Addr
  d_Lsame : FuncData
  F_Lsame : Fun K "_law_same" "_law_same" s_Lsame a_Lsame d_Lsame
  b_Lsame : Binds K d_Lsame ["_law_found", "_law_due_here"] []
  g_Lsame : mg "_law_same" = some (.ref a_Lsame)
  a_Lrefused : Addr
  d_Lrefused : FuncData
  F_Lrefused : Fun K "_law_refused" "_law_refused" s_Lrefused a_Lrefused d_Lrefused
  b_Lrefused : Binds K d_Lrefused ["_law_told_by", "_law_thing"] []
  g_Lrefused : mg "_law_refused" = some (.ref a_Lrefused)
  a_Laskedright : Addr
  d_Laskedright : FuncData
  F_Laskedright : Fun K "_law_asked_right" "_law_asked_right" s_Laskedright a_Laskedright d_Laskedright
  b_Laskedright : Binds K d_Laskedright ["_law_forest_here", "_law_row_here"] []
  g_Laskedright : mg "_law_asked_right" = some (.ref a_Laskedright)
  a_law : Addr
  d_law : FuncData
  F_law : Fun K "law" "law" s_law a_law d_law
  b_law : Binds K d_law ["_law_script"] []
  g_law : mg "law" = some (.ref a_law)
  m_ValueError : mg "ValueError" = none
  m_all : mg "all" = none
  m_bool : mg "bool" = none
  m_int : mg "int" = none
  m_isinstance : mg "isinstance" = none
  m_len : mg "len" = none
  m_max : mg "max" = none
  m_min : mg "min" = none
  m_range : mg "range" = none
  m_repr : mg "repr" = none
  m_sorted : mg "sorted" = none
  m_str : mg "str" = none
  m_sum : mg "sum" = none
  m_tuple : mg "tuple" = none
  m_zip : mg "zip" = none
  c_TreeError : Addr
  c_NoRow : Addr
  c_NoPoint : Addr
  c_Ring : Addr
  c_NoTie : Addr
  c_Apart : Addr
  c_NoPlace : Addr
  c_NoDeed : Addr
  v_TreeError : mg "TreeError" = some (.ref c_TreeError)
  v_NoRow : mg "NoRow" = some (.ref c_NoRow)
  v_NoPoint : mg "NoPoint" = some (.ref c_NoPoint)
  v_Ring : mg "Ring" = some (.ref c_Ring)
  v_NoTie : mg "NoTie" = some (.ref c_NoTie)
  v_Apart : mg "Apart" = some (.ref c_Apart)
  v_NoPlace : mg "NoPlace" = some (.ref c_NoPlace)
  v_NoDeed : mg "NoDeed" = some (.ref c_NoDeed)
  k_NoRow : PySem.W.keepIn K (.ref c_NoRow) = true
  s_NoRow : XcC K c_NoRow
  x_NoRow : PySem.W.excIn K c_NoRow veB "ValueError.__new__" = true
  sb_NoRow : PySem.W.subIn K (.ref c_NoRow) (.type "BaseException") = some true
  ty_NoRow : PySem.W.typeIn K (.ref c_NoRow) = some (.type "type")
  em_NoRow : PySem.W.exmOne K (.ref c_NoRow) (.ref c_TreeError) = some true
  kv_NoRow : PySem.W.kitOne K (.ref c_NoRow) (.type "ValueError") = some true
  k_NoPoint : PySem.W.keepIn K (.ref c_NoPoint) = true
  s_NoPoint : XcC K c_NoPoint
  x_NoPoint : PySem.W.excIn K c_NoPoint veB "ValueError.__new__" = true
  sb_NoPoint : PySem.W.subIn K (.ref c_NoPoint) (.type "BaseException") = some true
  ty_NoPoint : PySem.W.typeIn K (.ref c_NoPoint) = some (.type "type")
  em_NoPoint : PySem.W.exmOne K (.ref c_NoPoint) (.ref c_TreeError) = some true
  kv_NoPoint : PySem.W.kitOne K (.ref c_NoPoint) (.type "ValueError") = some true
  k_Ring : PySem.W.keepIn K (.ref c_Ring) = true
  s_Ring : XcC K c_Ring
  x_Ring : PySem.W.excIn K c_Ring veB "ValueError.__new__" = true
  sb_Ring : PySem.W.subIn K (.ref c_Ring) (.type "BaseException") = some true
  ty_Ring : PySem.W.typeIn K (.ref c_Ring) = some (.type "type")
  em_Ring : PySem.W.exmOne K (.ref c_Ring) (.ref c_TreeError) = some true
  kv_Ring : PySem.W.kitOne K (.ref c_Ring) (.type "ValueError") = some true
  k_NoTie : PySem.W.keepIn K (.ref c_NoTie) = true
  s_NoTie : XcC K c_NoTie
  x_NoTie : PySem.W.excIn K c_NoTie veB "ValueError.__new__" = true
  sb_NoTie : PySem.W.subIn K (.ref c_NoTie) (.type "BaseException") = some true
  ty_NoTie : PySem.W.typeIn K (.ref c_NoTie) = some (.type "type")
  em_NoTie : PySem.W.exmOne K (.ref c_NoTie) (.ref c_TreeError) = some true
  kv_NoTie : PySem.W.kitOne K (.ref c_NoTie) (.type "ValueError") = some true
  k_Apart : PySem.W.keepIn K (.ref c_Apart) = true
  s_Apart : XcC K c_Apart
  x_Apart : PySem.W.excIn K c_Apart veB "ValueError.__new__" = true
  sb_Apart : PySem.W.subIn K (.ref c_Apart) (.type "BaseException") = some true
  ty_Apart : PySem.W.typeIn K (.ref c_Apart) = some (.type "type")
  em_Apart : PySem.W.exmOne K (.ref c_Apart) (.ref c_TreeError) = some true
  kv_Apart : PySem.W.kitOne K (.ref c_Apart) (.type "ValueError") = some true
  k_NoPlace : PySem.W.keepIn K (.ref c_NoPlace) = true
  s_NoPlace : XcC K c_NoPlace
  x_NoPlace : PySem.W.excIn K c_NoPlace veB "ValueError.__new__" = true
  sb_NoPlace : PySem.W.subIn K (.ref c_NoPlace) (.type "BaseException") = some true
  ty_NoPlace : PySem.W.typeIn K (.ref c_NoPlace) = some (.type "type")
  em_NoPlace : PySem.W.exmOne K (.ref c_NoPlace) (.ref c_TreeError) = some true
  kv_NoPlace : PySem.W.kitOne K (.ref c_NoPlace) (.type "ValueError") = some true
  k_NoDeed : PySem.W.keepIn K (.ref c_NoDeed) = true
  s_NoDeed : XcC K c_NoDeed
  x_NoDeed : PySem.W.excIn K c_NoDeed veB "ValueError.__new__" = true
  sb_NoDeed : PySem.W.subIn K (.ref c_NoDeed) (.type "BaseException") = some true
  ty_NoDeed : PySem.W.typeIn K (.ref c_NoDeed) = some (.type "type")
  em_NoDeed : PySem.W.exmOne K (.ref c_NoDeed) (.ref c_TreeError) = some true
  kv_NoDeed : PySem.W.kitOne K (.ref c_NoDeed) (.type "ValueError") = some true
  kits : kitsB K c_TreeError [c_NoRow, c_NoPoint, c_Ring, c_NoTie, c_Apart, c_NoPlace, c_NoDeed] = true
  aK : Addr
  v_KINDS : mg "KINDS" = some (.ref aK)
  tK : tupB K aK kinds = true
  aF : Addr
  v_FORMS : mg "FORMS" = some (.ref aF)
  esF : Array DictEntry
  nF : Nat
  lF : K.lookup aF = some ⟨.type "dict", none, .dict esF nF, #[]⟩
  kF : PySem.W.KeysLit w.params esF.toList
  oF : (aF == sysModules) = false
  fF : formB K esF.toList formsT = true
  aW : Addr
  v_DEEDWORDS : mg "DEED_WORDS" = some (.ref aW)
  tW : tupB K aW dws = true
  aA : Addr
  v_ASKS : mg "ASKS" = some (.ref aA)
  esA : Array DictEntry
  nA : Nat
  lA : K.lookup aA = some ⟨.type "dict", none, .dict esA nA, #[]⟩
  kA : PySem.W.KeysLit w.params esA.toList
  d_joined : PySem.W.nsIn K aA "joined" = some (some (.ref a_askjoined))
  d_way : PySem.W.nsIn K aA "way" = some (some (.ref a_askway))
  d_total : PySem.W.nsIn K aA "total" = some (some (.ref a_asktotal))
  d_many : PySem.W.nsIn K aA "many" = some (some (.ref a_askmany))
  d_most : PySem.W.nsIn K aA "most" = some (some (.ref a_askmost))
  d_first : PySem.W.nsIn K aA "first" = some (some (.ref a_askfirst))
  d_reach : PySem.W.nsIn K aA "reach" = some (some (.ref a_askreach))
  d_kth : PySem.W.nsIn K aA "kth" = some (some (.ref a_askkth))
  cR : Addr
  PR : Addr
  hcR : d_isrow.code = .ref cR
  cM : Addr
  PM : Addr
  hcM : d_refusemissing.code = .ref cM
  cL : Addr
  PL : Addr
  hcL : d_Laskedright.code = .ref cL
  cO : Addr
  PO : Addr
  hcO : d_Lofway.code = .ref cO
  neP : ([PR, PM, PL, PO] : List Addr).Nodup
end My
namespace My
open PySem L2
/-! ### the box of draws -/
def Smalls (ns : List Int) : Prop := ∀ x ∈ ns, 0 ≤ x ∧ x < 2147483648
theorem Smalls.append {a b : List Int} (h : Smalls a) (g : Smalls b) : Smalls (a ++ b) := fun x m => by
  rcases List.mem_append.mp m with m | m
  · exact h x m
  · exact g x m
theorem Smalls.one {x : Int} (h0 : 0 ≤ x) (h1 : x < 2147483648) : Smalls [x] := fun y m => by
  rcases List.mem_cons.mp m with e | m
  · subst e
    exact ⟨h0, h1⟩
  · cases m
theorem Smalls.take {a : List Int} (h : Smalls a) (k : Nat) : Smalls (a.take k) := fun x m => h x (List.mem_of_mem_take m)
structure BoxAt (H : Hp) (b L : Addr) : Prop where
  ex : ∃ (ns : List Int) (n : Int), H b = some (.lst [.ref L, .int n]) ∧ H L = some (.lst (ns.map V.int)) ∧ ns ≠ [] ∧ L ≠ b ∧ Smalls ns
theorem BoxAt.same {H H' : Hp} {b L : Addr} (B : BoxAt H b L) (s : Same H H') : BoxAt H' b L := by
  obtain ⟨ns, n, h1, h2, r⟩ := B.ex
  exact ⟨ns, n, s _ _ h1, s _ _ h2, r⟩
theorem BoxAt.new {H : Hp} {b L p : Addr} {o : HO} (B : BoxAt H b L) (n : H p = none) : BoxAt (upd H p o) b L := B.same (same_new n)
theorem BoxAt.put {H : Hp} {b L p : Addr} {o : HO} (B : BoxAt H b L) (n1 : p ≠ b) (n2 : p ≠ L) : BoxAt (upd H p o) b L := by
  obtain ⟨ns, n, h1, h2, r⟩ := B.ex
  refine ⟨ns, n, ?_, ?_, r⟩
  · rw [upd_ne n1.symm]
    exact h1
  · rw [upd_ne n2.symm]
    exact h2
theorem BoxAt.tups {K : PySem.W.Frag} {H H' : Hp} {b L : Addr} (B : BoxAt H b L) (s : But b H H') : Tups K H H' := by
  obtain ⟨ns, n, h1, _⟩ := B.ex
  exact Tups.of_but s h1
theorem BoxAt.ne {H : Hp} {b L p : Addr} (B : BoxAt H b L) (n : H p = none) : p ≠ b := by
  obtain ⟨ns, n', h1, _⟩ := B.ex
  exact (ne_of_none h1 n).symm
theorem BoxAt.neL {H : Hp} {b L p : Addr} (B : BoxAt H b L) (n : H p = none) : p ≠ L := by
  obtain ⟨ns, n', h1, h2, _⟩ := B.ex
  exact (ne_of_none h2 n).symm
/-- what is new behind a draw was new ahead of it -/
theorem BoxAt.back {H H' : Hp} {b L p : Addr} (B : BoxAt H' b L) (s : But b H H') (n : H' p = none) : H p = none := by
  cases e : H p with
  | none => rfl
  | some o =>
    have z := s _ _ e (B.ne n)
    rw [z] at n
    cases n
def spMixed : Sp := fun vs H Q _ => ∃ (c m : Int), vs = [.int c, .int m] ∧ 0 ≤ m ∧ m ≤ 700 ∧ ∀ (p : Addr) (ns : List Int) (H' : Hp), Same H H' → H p = none → H' p = some (.lst (ns.map V.int)) → (ns.length : Int) = m → Smalls ns → Q (.ref p) H'
def spBox (K : PySem.W.Frag) : Sp := fun vs H Q _ => ∃ (a : Addr) (ns : List Int), vs = [.ref a] ∧ SqL K H a (ns.map V.int) ∧ ns.length ≤ 63 ∧ ∀ (b L : Addr) (H' : Hp), Same H H' → H b = none → BoxAt H' b L → Q (.ref b) H'
/-- a draw: the box at b goes on, all else stays; what comes of it -/
def spDraw (R : Int → Prop) : Sp := fun vs H Q _ => ∃ (b L : Addr), vs = [.ref b] ∧ BoxAt H b L ∧ ∀ (x : Int) (H' : Hp), R x → BoxAt H' b L → But b H H' → Q (.int x) H'
abbrev spNext : Sp := spDraw fun x => 0 ≤ x ∧ x < 2147483648
abbrev spWorth : Sp := spDraw fun x => -(2 ^ 90) < x ∧ x < 2 ^ 90
def spFew : Sp := fun vs H Q _ => ∃ (b L : Addr) (f m : Int), vs = [.ref b, .int f, .int m] ∧ BoxAt H b L ∧ 0 ≤ f ∧ 0 ≤ m ∧ f < 1000 ∧ m < 1000 ∧ ∀ (x : Int) (H' : Hp), 0 ≤ x → (x ≤ f ∨ x ≤ m) → BoxAt H' b L → But b H H' → Q (.int x) H'
def spSpot : Sp := fun vs H Q _ => ∃ (b L : Addr) (m : Int), vs = [.ref b, .int m] ∧ BoxAt H b L ∧ 0 < m ∧ m < 1000 ∧ ∀ (x : Int) (H' : Hp), -2 < x → x < 2000 → BoxAt H' b L → But b H H' → Q (.int x) H'
def pdata (p : Int × Str) : PyData := .tuple [.int p.1, .str p.2]
def tdata (t : Int × Int) : PyData := .tuple [.int t.1, .int t.2]
def PtOk (p : Int × Str) : Prop := -(2 ^ 90) < p.1 ∧ p.1 < 2 ^ 90 ∧ p.2 ∈ kinds
def spPoint (K : PySem.W.Frag) : Sp := fun vs H Q _ => ∃ (b L : Addr), vs = [.ref b] ∧ BoxAt H b L ∧ ∀ (p : Addr) (x : Int) (k : Str) (H' : Hp), PtOk (x, k) → BoxAt H' b L → But b H H' → H p = none → H' p = some (.tup [.int x, .str k]) → Q (.ref p) H'
section
variable {P : Program} {w : World} {K : PySem.W.Frag} {mg : Str → Option Value} {base : Heap}
theorem ok_mixed (T : Top w K mg) : FnOk P w K mg base CX0 1 T.a_Lmixed T.d_Lmixed ["_law_cell", "_law_many"] spMixed := by
  refine T.F_Lmixed.ok sc_Lmixed (fun vs H Q E h => ?_) (fun cdv A outer s H vs Q E hr h => ?_)
  · obtain ⟨c, m, rfl, _⟩ := h
    rfl
  · obtain ⟨c, m, rfl, h0, h1, q⟩ := h
    refine ⟨_, (pss_cons (ps_set (i := 2) sc_Lmixed.nd rfl (.inl rfl) (pe_op op_mod (pv 0) pe_int))
      (pss_cons (ps_set (i := 3) sc_Lmixed.nd rfl (.inl rfl) (pe_lst pa_nil))
      (pss_cons (ps_for PassesOwn.never rfl (pi_range1 (by rfl) T.m_range (pa_cons (pv 1) pa_nil)) (pg_name (i := 4) sc_Lmixed.nd rfl (.inl rfl)) (pss_cons (ps_set (i := 2) sc_Lmixed.nd rfl (.inl rfl) (pe_op op_mod (pe_op op_add (pe_op op_add (pe_op op_mul (pv 2) pe_int) (pe_op op_mul (pe_op op_mul pe_int (pv 4)) (pv 4))) pe_int) pe_int))
      (pss_one (ps_expr (pe_bm PySem.F.plainAttrs_list PySem.F.slot_list_append PySem.F.type_list_append mt_append (pv 3) (pa_cons (pe_op op_fdivW (pe_op op_mod (pe_op op_add (pe_op op_add (pe_op op_mul (pv 2) (pv 2)) (pe_op op_mul pe_int (pv 2))) (pv 4)) pe_int) pe_int) pa_nil))))))
      (pss_one (ps_ret (pv 3)))))), ?_⟩
    refine ⟨_, rfl, _, _, rfl, rfl, (by show (0 : Int) < 2147483647; decide), Nat.zero_le _, fun p np => ?_⟩
    refine ⟨_, rfl, _, rfl, by omega, by omega, for_range (lo := 0) (n := m.toNat) (fun i σ H2 => ∃ (a : Int) (ns : List Int) (y : Option V), σ = [some (.int c), some (.int m), some (.int a), some (.ref p), y] ∧ 0 ≤ a ∧ a < 2147483647 ∧ Same H H2 ∧ H2 p = some (.lst (ns.map V.int)) ∧ ns.length = i ∧ Smalls ns)
      ⟨_, [], none, rfl, Int.emod_nonneg _ (by decide), Int.emod_lt_of_pos _ (by decide), same_new np, upd_same, rfl, fun x z => nomatch z⟩ ?_ ?_⟩
    · rintro i σ H2 hi ⟨a, ns, y, rfl, a0, a1, sm, hp, hl, hs⟩
      have hi2 : (i : Int) < 700 := by omega
      refine ⟨_, rfl, _, _, rfl, rfl, .inr ⟨by decide, by decide⟩, _, rfl, _, _, rfl, rfl, .inl ⟨by decide, by decide⟩, _, rfl, _, _, rfl, rfl, .inl ⟨by omega, by omega⟩, _, _, rfl, rfl, _, _, rfl, rfl, _, _, rfl, rfl, (by show (0 : Int) < 2147483629; decide), ?_⟩
      generalize hA : (a * 48271 + 7 * (0 + (i : Int)) * (0 + (i : Int)) + 11) % 2147483629 = A1
      have A0 : 0 ≤ A1 := by
        rw [← hA]
        exact Int.emod_nonneg _ (by decide)
      have A2 : A1 < 2147483629 := by
        rw [← hA]
        exact Int.emod_lt_of_pos _ (by decide)
      refine ⟨_, rfl, .inl ⟨rfl, _, SqL.of hp⟩, _, rfl, _, rfl, _, _, rfl, rfl, .inl ⟨by omega, by omega⟩, _, rfl, _, _, rfl, rfl, .inl ⟨by decide, by decide⟩, _, _, rfl, rfl, _, rfl, _, _, rfl, rfl, _, _, rfl, rfl, (by show (0 : Int) < 2147483587; decide), _, _, rfl, rfl, wide_ok (by decide) (by decide), p, _, _, rfl, rfl, hp, szl (by rw [List.length_map]; omega), ?_⟩
      have fin : Smalls (ns ++ [(A1 * A1 + 3 * A1 + (0 + (i : Int))) % 2147483587 / 7]) := by
        refine hs.append (Smalls.one ?_ ?_)
        · exact Int.ediv_nonneg (Int.emod_nonneg _ (by decide)) (by decide)
        · have z := Int.emod_lt_of_pos (A1 * A1 + 3 * A1 + (0 + (i : Int))) (show (0 : Int) < 2147483587 by decide)
          have z0 := Int.emod_nonneg (A1 * A1 + 3 * A1 + (0 + (i : Int))) (show (2147483587 : Int) ≠ 0 by decide)
          omega
      subst hA
      refine ⟨_, _, _, rfl, A0, Int.lt_trans A2 (by decide), fun b o e => ?_, ?_, ?_, fin⟩
      · rw [upd_ne (ne_of_none e np)]
        exact sm _ _ e
      · rw [upd_same, List.map_append]
        rfl
      · rw [List.length_append, hl]
        rfl
    · rintro σ H2 ⟨a, ns, y, rfl, a0, a1, sm, hp, hl, hs⟩
      exact ⟨_, rfl, q p ns H2 sm np hp (by omega) hs⟩
theorem pow18 : (10 : Int) ^ (18 : Int).toNat = 1000000000000000000 := by decide +kernel
theorem pow24 : (10 : Int) ^ (24 : Int).toNat = 1000000000000000000000000 := by decide +kernel
theorem pow29 : (10 : Int) ^ (29 : Int).toNat = 100000000000000000000000000000 := by decide +kernel
theorem ok_box (T : Top w K mg) : FnOk P w K mg base CX0 2 T.a_Lbox T.d_Lbox ["_law_script"] (spBox K) := by
  have G_Lmixed : FnOk P w K mg base CX0 1 _ _ _ _ := ok_mixed T
  refine T.F_Lbox.ok sc_Lbox (fun vs H Q E h => ?_) (fun cdv A outer s H vs Q E hr h => ?_)
  · obtain ⟨a, ns, rfl, _⟩ := h
    rfl
  · obtain ⟨a, ns, rfl, hS, hlen, q⟩ := h
    refine ⟨_, (pss_cons (ps_set (i := 1) sc_Lbox.nd rfl (.inl rfl) (pe_lst pa_nil))
      (pss_cons (ps_for PassesOwn.never rfl (pi_list (pe_slice sl_list (pv 0) po_none (po_some pe_int))) (pg_name (i := 2) sc_Lbox.nd rfl (.inl rfl)) (pss_cons (ps_if (pt_cmpR op_lt (pv 2) (pe_op op_pow pe_int pe_int) (nomark _)) (pss_cons (ps_expr (pe_bm PySem.F.plainAttrs_list PySem.F.slot_list_extend PySem.F.type_list_extend mt_extend (pv 1) (pa_cons (pe_call G_Lmixed hr (by rfl) T.g_Lmixed T.F_Lmixed.kp T.b_Lmixed .nil pass0 (pa_cons (pv 2) (pa_cons pe_int pa_nil))) pa_nil)))
      (pss_one ps_continue)) pss_nil)
      (pss_cons (ps_set (i := 3) sc_Lbox.nd rfl (.inl rfl) (pv 2))
      (pss_one (ps_for PassesOwn.never rfl (pi_range1 (by rfl) T.m_range (pa_cons pe_int pa_nil)) (pg_name (i := 4) sc_Lbox.nd rfl (.inl rfl)) (pss_one (ps_if (pt_cmpR op_gt (pv 3) pe_int (nomark _)) (pss_cons (ps_expr (pe_bm PySem.F.plainAttrs_list PySem.F.slot_list_append PySem.F.type_list_append mt_append (pv 1) (pa_cons (pe_op op_mod (pv 3) pe_int) pa_nil)))
      (pss_one (ps_set (i := 3) sc_Lbox.nd rfl (.inl rfl) (pe_op op_fdivW (pv 3) pe_int)))) pss_nil)))))))
      (pss_cons (ps_set (i := 1) sc_Lbox.nd rfl (.inl rfl) (pe_slice sl_list (pv 1) po_none (po_some pe_int)))
      (pss_one (ps_ret (pe_lst (pa_cons (pe_op op_cat (pv 1) (pe_call G_Lmixed hr (by rfl) T.g_Lmixed T.F_Lmixed.kp T.b_Lmixed .nil pass0 (pa_cons (pe_op op_add (pe_callB (cr_sum rfl) (by rfl) T.m_sum (by decide +kernel) (pa_cons (pe_slice sl_list (pv 0) po_none (po_some pe_int)) pa_nil)) (pe_callB call_len_seq (by rfl) T.m_len PySem.boot_len (pa_cons (pv 0) pa_nil))) (pa_cons (pe_op op_sub pe_int (pe_callB call_len_seq (by rfl) T.m_len PySem.boot_len (pa_cons (pv 1) pa_nil))) pa_nil)))) (pa_cons pe_int pa_nil)))))))), ?_⟩
    refine ⟨Nat.zero_le _, fun p np => ?_⟩
    have s1 : Same H (upd H p (.lst [])) := same_new np
    obtain ⟨k63, e63⟩ := cut_map ns (some 63)
    refine ⟨_, rfl, 63, rfl, a, _, rfl, s1.seq hS, fun c nc => ?_⟩
    have npc : p ≠ c := ne_of_none upd_same nc
    have hl63 : (cutV (ns.map V.int) none (some 63)).length ≤ 63 := by
      have z := cutV_length (ns.map V.int) none (some 63)
      rw [List.length_map] at z
      omega
    refine ⟨c, rfl, ⟨_, SqL.of upd_same⟩, for_list (K := K) (a := c) (xs := cutV (ns.map V.int) none (some 63)) (fun i σ H2 => ∃ (ms : List Int) (y2 y3 y4 : Option V), σ = [some (.ref a), some (.ref p), y2, y3, y4] ∧ Same H H2 ∧ H2 c = some (.lst (cutV (ns.map V.int) none (some 63))) ∧ H2 p = some (.lst (ms.map V.int)) ∧ ms.length ≤ 90 * i ∧ Smalls ms)
      ⟨[], none, none, none, rfl, s1.trans (same_new nc), upd_same, ?_, by decide, fun x z => nomatch z⟩ (fun i σ H2 _ ⟨_, _, _, _, _, _, hc, _⟩ => SqL.of hc) ?_ ?_⟩
    · rw [upd_ne npc, upd_same]
      rfl
    · rintro i x σ H2 hi ⟨ms, y2, y3, y4, rfl, sm, hc, hp, hl, hs⟩
      have hil : i < 63 := Nat.lt_of_lt_of_le (List.getElem?_eq_some_iff.mp hi).1 hl63
      obtain ⟨v, rfl⟩ : ∃ v, x = V.int v := by
        rw [e63, List.getElem?_map] at hi
        cases e : (ns.take k63)[i]? with
        | none =>
          rw [e] at hi
          cases hi
        | some z =>
          rw [e] at hi
          exact ⟨z, (Option.some.inj hi).symm⟩
      refine ⟨_, rfl, _, _, rfl, rfl, ⟨by decide, by decide, by decide⟩, _, _, rfl, rfl, _, rfl, ite2 (fun e1 => ?_) (fun e1 => ?_)⟩
      · refine ⟨_, rfl, .inl ⟨rfl, _, SqL.of hp⟩, _, rfl, v, 12, rfl, by decide, by decide, fun r rs H3 sm3 nr hr3 hrl hrs => ?_⟩
        have hp3 := sm3 _ _ hp
        have npr : p ≠ r := ne_of_none hp nr
        refine ⟨p, r, _, _, rfl, rfl, hp3, hr3, ?_, ?_⟩
        · rw [List.length_map, List.length_map]
          exact sz (by omega)
        · refine ⟨ms ++ rs, _, _, _, rfl, fun b o e => ?_, ?_, ?_, ?_, hs.append hrs⟩
          · rw [upd_ne (ne_of_none e np)]
            exact sm3 _ _ (sm _ _ e)
          · rw [upd_ne npc.symm]
            exact sm3 _ _ hc
          · rw [upd_same, List.map_append]
          · rw [List.length_append]
            omega
      · have e2 : ¬ v < 10 ^ (18 : Int).toNat := of_decide_eq_false (Bool.eq_false_iff.mpr e1)
        rw [pow18] at e2
        refine ⟨_, rfl, 90, rfl, by decide, by decide, for_range (lo := 0) (n := 90) (fun j σ H3 => ∃ (ms' : List Int) (l : Int) (z2 z4 : Option V), σ = [some (.ref a), some (.ref p), z2, some (.int l), z4] ∧ Same H H3 ∧ H3 c = some (.lst (cutV (ns.map V.int) none (some 63))) ∧ H3 p = some (.lst (ms'.map V.int)) ∧ ms'.length ≤ 90 * i + j ∧ Smalls ms')
          ⟨ms, v, _, _, rfl, sm, hc, hp, hl, hs⟩ ?_ ?_⟩
        · rintro j σ H3 hj ⟨ms', l, z2, z4, rfl, sm3, hc3, hp3, hl3, hs3⟩
          refine ⟨_, rfl, _, _, rfl, rfl, _, rfl, ite2 (fun e3 => ?_) (fun e3 => ?_)⟩
          · refine ⟨_, rfl, .inl ⟨rfl, _, SqL.of hp3⟩, _, rfl, _, _, rfl, rfl, (by show (0 : Int) < 10007; decide), p, _, _, rfl, rfl, hp3, szl (by rw [List.length_map]; omega), ?_⟩
            refine ⟨_, rfl, _, _, rfl, rfl, wide_ok (by decide) (by decide), ?_⟩
            refine ⟨ms' ++ [l % 10007], _, _, _, rfl, fun b o e => ?_, ?_, ?_, ?_, hs3.append (Smalls.one (Int.emod_nonneg _ (by decide)) ?_)⟩
            · rw [upd_ne (ne_of_none e np)]
              exact sm3 _ _ e
            · rw [upd_ne npc.symm]
              exact hc3
            · rw [upd_same, List.map_append]
              rfl
            · rw [List.length_append]
              show ms'.length + 1 ≤ _
              omega
            · have z := Int.emod_lt_of_pos l (show (0 : Int) < 10007 by decide)
              omega
          · exact ⟨ms', l, _, _, rfl, sm3, hc3, hp3, by omega, hs3⟩
        · rintro σ H3 ⟨ms', l, z2, z4, rfl, sm3, hc3, hp3, hl3, hs3⟩
          exact ⟨ms', _, _, _, rfl, sm3, hc3, hp3, by omega, hs3⟩
    · rintro σ H2 ⟨ms, y2, y3, y4, rfl, sm, hc, hp, hl, hs⟩
      obtain ⟨k7, e7⟩ := cut_map ms (some 700)
      have l7 : (cutV (ms.map V.int) none (some 700)).length ≤ 700 := by
        have z := cut_nat (α := Nat) (ms.map V.int) 700
        have z2 : cutV (ms.map V.int) none (some 700) = (ms.map V.int).take 700 := z
        rw [z2, List.length_take]
        omega
      refine ⟨_, rfl, 700, rfl, p, _, rfl, SqL.of hp, fun p2 np2 => ?_⟩
      have sm2 : Same H2 (upd H2 p2 (.lst (cutV (ms.map V.int) none (some 700)))) := same_new np2
      refine ⟨_, rfl, _, rfl, 63, rfl, a, _, rfl, (sm.trans sm2).seq hS, fun p3 np3 => ?_⟩
      have sm3 := same_new (o := .lst (cutV (ns.map V.int) none (some 63))) np3
      refine ⟨p3, ns.take k63, rfl, ?_, _, rfl, a, _, rfl, .inl (sm3.seq ((sm.trans sm2).seq hS)), _, _, rfl, rfl, _, rfl, p2, _, rfl, .inl (SqL.of (sm3 _ _ upd_same)), _, _, rfl, rfl, _, _, rfl, by omega, by omega, fun r rs H4 sm4 nr hr4 hrl hrs => ?_⟩
      · rw [e63]
        exact SqL.of upd_same
      · have hp4 := sm4 _ _ (sm3 _ _ (upd_same (H := H2) (a := p2) (o := .lst (cutV (ms.map V.int) none (some 700)))))
        refine ⟨p2, r, _, _, rfl, rfl, hp4, hr4, ?_, fun L nL => ⟨(by show 2 ≤ sizeLine; decide), fun b nb => ?_⟩⟩
        · rw [List.length_map]
          exact sz (by omega)
        · have nLb : L ≠ b := ne_of_none upd_same nb
          have s4 : Same H H4 := ((sm.trans sm2).trans sm3).trans sm4
          have s5 : Same H (upd H4 L (.lst (cutV (ms.map V.int) none (some 700) ++ rs.map V.int))) := s4.trans (same_new nL)
          refine q b L _ (s5.trans (same_new nb)) (s5.free nb) ⟨ms.take k7 ++ rs, 0, upd_same, ?_, ?_, nLb, (hs.take _).append hrs⟩
          · rw [upd_ne nLb, upd_same, e7, List.map_append]
          · intro e
            have e2 := congrArg List.length e
            rw [List.length_append] at e2
            have e3 : (cutV (ms.map V.int) none (some 700)).length = (ms.take k7).length := by rw [e7, List.length_map]
            have e4 : (ms.take k7).length + rs.length = 0 := e2
            omega
theorem ok_next (T : Top w K mg) : FnOk P w K mg base CX0 1 T.a_Lnext T.d_Lnext ["_law_box_here"] spNext := by
  refine T.F_Lnext.ok sc_Lnext (fun vs H Q E h => ?_) (fun cdv A outer s H vs Q E hr h => ?_)
  · obtain ⟨b, L, rfl, _⟩ := h
    rfl
  · obtain ⟨b, L, rfl, ⟨ns, n, hb, hL, hne, nLb, hs⟩, q⟩ := h
    have hl : 0 < ns.length := List.length_pos_iff.mpr hne
    refine ⟨_, (pss_cons (ps_augS (pv 0) pe_int get_list pe_int ip_add set_list)
      (pss_one (ps_ret (pe_ix ix_list (pe_ix ix_list (pv 0) pe_int (fun _ _ => rfl)) (pe_op op_mod (pe_op op_sub (pe_ix ix_list (pv 0) pe_int (fun _ _ => rfl)) pe_int) (pe_callB call_len_seq (by rfl) T.m_len PySem.boot_len (pa_cons (pe_ix ix_list (pv 0) pe_int (fun _ _ => rfl)) pa_nil))) (fun _ _ => rfl))))), ?_⟩
    refine ⟨_, rfl, b, _, _, _, rfl, rfl, SqL.of hb, atI_nat (j := 1) rfl, _, _, rfl, rfl, b, _, _, 1, rfl, rfl, hb, rfl, ?_⟩
    have hb2 : (upd H b (.lst ([V.ref L, V.int n].set 1 (.int (n + 1))))) b = some (.lst [.ref L, .int (n + 1)]) := upd_same
    have hL2 : (upd H b (.lst ([V.ref L, V.int n].set 1 (.int (n + 1))))) L = some (.lst (ns.map V.int)) := by
      rw [upd_ne nLb]
      exact hL
    have m0 : (0 : Int) < ((ns.map V.int).length : Int) := by
      rw [List.length_map]
      omega
    have z0 := Int.emod_nonneg (n + 1 - 1) (show ((ns.map V.int).length : Int) ≠ 0 by omega)
    have z1 := Int.emod_lt_of_pos (n + 1 - 1) m0
    obtain ⟨v, hv, hm⟩ := at_map (ns := ns) z0 (by rw [List.length_map] at z1 ⊢; exact z1)
    refine ⟨_, rfl, b, _, _, _, rfl, rfl, SqL.of hb2, atI_nat (j := 0) rfl, _, rfl, b, _, _, _, rfl, rfl, SqL.of hb2, atI_nat (j := 1) rfl, _, _, rfl, rfl, _, rfl, b, _, _, _, rfl, rfl, SqL.of hb2, atI_nat (j := 0) rfl, L, _, rfl, .inl (SqL.of hL2), _, _, rfl, rfl, m0, L, _, _, _, rfl, rfl, SqL.of hL2, hv, ?_⟩
    exact q v _ (hs v hm) ⟨ns, n + 1, hb2, hL2, hne, nLb, hs⟩ But.refl.put
theorem ok_few (T : Top w K mg) : FnOk P w K mg base CX0 2 T.a_Lfew T.d_Lfew ["_law_box_here", "_law_few_here", "_law_most"] spFew := by
  have G_Lnext : FnOk P w K mg base CX0 1 _ _ _ _ := ok_next T
  refine T.F_Lfew.ok sc_Lfew (fun vs H Q E h => ?_) (fun cdv A outer s H vs Q E hr h => ?_)
  · obtain ⟨b, L, f, m, rfl, _⟩ := h
    rfl
  · obtain ⟨b, L, f, m, rfl, B, f0, m0, f1, m1, q⟩ := h
    refine ⟨_, (pss_cons (ps_set (i := 3) sc_Lfew.nd rfl (.inl rfl) (pe_call G_Lnext hr (by rfl) T.g_Lnext T.F_Lnext.kp T.b_Lnext .nil pass0 (pa_cons (pv 0) pa_nil)))
      (pss_one (ps_ret (pe_ix ix_list (pe_lst (pa_cons (pe_op op_mod (pe_op op_fdivW (pv 3) pe_int) (pe_op op_add (pv 1) pe_int)) (pa_cons (pe_op op_mod (pe_op op_fdivW (pv 3) pe_int) (pe_op op_add (pv 2) pe_int)) pa_nil))) (pe_callTy call_int1 (by rfl) T.m_int (by decide +kernel) (pa_cons (pe_cmpR op_eq (pe_op op_mod (pv 3) pe_int) pe_int (nomark _)) pa_nil)) (fun _ _ => rfl))))), ?_⟩
    refine ⟨_, rfl, b, L, rfl, B, fun x H1 hx B1 k1 => ?_⟩
    refine ⟨_, rfl, _, _, rfl, rfl, wide_ok (by decide) (by decide), _, rfl, _, _, rfl, rfl, _, _, rfl, rfl, (by show (0 : Int) < f + 1; omega), _, rfl, _, _, rfl, rfl, wide_ok (by decide) (by decide), _, rfl, _, _, rfl, rfl, _, _, rfl, rfl, (by show (0 : Int) < m + 1; omega), (by show 2 ≤ sizeLine; decide), fun p np => ?_⟩
    have zf0 := Int.emod_nonneg (x / 8) (show f + 1 ≠ 0 by omega)
    have zf1 := Int.emod_lt_of_pos (x / 8) (show (0 : Int) < f + 1 by omega)
    have zm0 := Int.emod_nonneg (x / 8) (show m + 1 ≠ 0 by omega)
    have zm1 := Int.emod_lt_of_pos (x / 8) (show (0 : Int) < m + 1 by omega)
    refine ⟨_, rfl, _, _, rfl, rfl, (by show (0 : Int) < 8; decide), rfl, .inr ⟨_, rfl, ?_⟩⟩
    by_cases e : x % 8 = 5
    · have e2 : decide (V.int (x % 8) = V.int 5) = true := decide_eq_true (congrArg V.int e)
      rw [e2]
      refine ⟨p, _, _, _, rfl, rfl, SqL.of upd_same, atI_nat (j := 1) rfl, ?_⟩
      exact q _ _ zm0 (.inr (by omega)) (B1.new np) (k1.new np)
    · have e2 : decide (V.int (x % 8) = V.int 5) = false := decide_eq_false fun z => e (V.int.inj z)
      rw [e2]
      refine ⟨p, _, _, _, rfl, rfl, SqL.of upd_same, atI_nat (j := 0) rfl, ?_⟩
      exact q _ _ zf0 (.inl (by omega)) (B1.new np) (k1.new np)
theorem ok_worth (T : Top w K mg) : FnOk P w K mg base CX0 2 T.a_Lworth T.d_Lworth ["_law_box_here"] spWorth := by
  have G_Lnext : FnOk P w K mg base CX0 1 _ _ _ _ := ok_next T
  refine T.F_Lworth.ok sc_Lworth (fun vs H Q E h => ?_) (fun cdv A outer s H vs Q E hr h => ?_)
  · obtain ⟨b, L, rfl, _⟩ := h
    rfl
  · obtain ⟨b, L, rfl, B, q⟩ := h
    refine ⟨_, (pss_cons (ps_set (i := 1) sc_Lworth.nd rfl (.inl rfl) (pe_call G_Lnext hr (by rfl) T.g_Lnext T.F_Lnext.kp T.b_Lnext .nil pass0 (pa_cons (pv 0) pa_nil)))
      (pss_one (ps_ret (pe_ix ix_list (pe_lst (pa_cons (pe_op op_sub (pe_op op_mod (pe_op op_fdivW (pv 1) pe_int) pe_int) pe_int) (pa_cons (pe_op op_mod (pe_op op_fdivW (pv 1) pe_int) pe_int) (pa_cons (pe_op op_sub (pe_op op_mod (pe_op op_fdivW (pv 1) pe_int) pe_int) pe_int) (pa_cons (pe_op op_add (pe_op op_pow pe_int pe_int) (pv 1)) (pa_cons (pe_op op_sub (pe_op op_sub pe_int (pe_op op_pow pe_int pe_int)) (pv 1)) (pa_cons pe_int (pa_cons pe_int (pa_cons (pv 1) pa_nil))))))))) (pe_op op_mod (pv 1) pe_int) (fun _ _ => rfl))))), ?_⟩
    refine ⟨_, rfl, b, L, rfl, B, fun x H1 hx B1 k1 => ?_⟩
    have p8 : ∀ {i : Int}, CDivW i 8 := wide_ok (by decide) (by decide)
    refine ⟨_, rfl, _, _, rfl, rfl, p8, _, _, rfl, rfl, (by show (0 : Int) < 9; decide), _, _, rfl, rfl, _, rfl, _, _, rfl, rfl, p8, _, _, rfl, rfl, (by show (0 : Int) < 3; decide), _, rfl, _, _, rfl, rfl, p8, _, _, rfl, rfl, (by show (0 : Int) < 40; decide), _, _, rfl, rfl, _, _, rfl, rfl, ⟨by decide, by decide, by decide⟩, _, rfl, _, _, rfl, rfl, _, _, rfl, rfl, ⟨by decide, by decide, by decide⟩, _, _, rfl, rfl, _, rfl, _, _, rfl, rfl, _, rfl, (by show 8 ≤ sizeLine; decide), fun p np => ?_⟩
    have c0 := Int.emod_nonneg x (show (8 : Int) ≠ 0 by decide)
    have c1 := Int.emod_lt_of_pos x (show (0 : Int) < 8 by decide)
    have pick : ∃ v : Int, atI [V.int (x / 8 % 9 - 3), V.int (x / 8 % 3), V.int (x / 8 % 40 - 20), V.int (10 ^ (24 : Int).toNat + x), V.int (0 - 10 ^ (24 : Int).toNat - x), V.int 5, V.int 0, V.int x] (x % 8) = some (.int v) ∧ -(2 ^ 90) < v ∧ v < 2 ^ 90 := by
      rw [pow24]
      generalize x % 8 = r at c0 c1
      have hc : r = 0 ∨ r = 1 ∨ r = 2 ∨ r = 3 ∨ r = 4 ∨ r = 5 ∨ r = 6 ∨ r = 7 := by omega
      rcases hc with rfl | rfl | rfl | rfl | rfl | rfl | rfl | rfl
      all_goals exact ⟨_, rfl, by omega, by omega⟩
    obtain ⟨v, hv, hw⟩ := pick
    refine ⟨_, rfl, _, _, rfl, rfl, (by show (0 : Int) < 8; decide), p, _, _, _, rfl, rfl, SqL.of upd_same, hv, ?_⟩
    exact q v _ hw (B1.new np) (k1.new np)
theorem ok_point (T : Top w K mg) : FnOk P w K mg base CX0 3 T.a_Lpoint T.d_Lpoint ["_law_box_here"] (spPoint K) := by
  have G_Lnext : FnOk P w K mg base CX0 1 _ _ _ _ := ok_next T
  have G_Lworth : FnOk P w K mg base CX0 2 _ _ _ _ := ok_worth T
  refine T.F_Lpoint.ok sc_Lpoint (fun vs H Q E h => ?_) (fun cdv A outer s H vs Q E hr h => ?_)
  · obtain ⟨b, L, rfl, _⟩ := h
    rfl
  · obtain ⟨b, L, rfl, B, q⟩ := h
    refine ⟨_, (pss_cons (ps_set (i := 1) sc_Lpoint.nd rfl (.inl rfl) (pe_call G_Lnext (hr.mono (by decide)) (by rfl) T.g_Lnext T.F_Lnext.kp T.b_Lnext .nil pass0 (pa_cons (pv 0) pa_nil)))
      (pss_one (ps_ret (pe_tup (pa_cons (pe_call G_Lworth hr (by rfl) T.g_Lworth T.F_Lworth.kp T.b_Lworth .nil pass0 (pa_cons (pv 0) pa_nil)) (pa_cons (pe_ix ix_str (pe_ix ix_list (pe_lst (pa_cons pe_str (pa_cons pe_str (pa_cons pe_str (pa_cons pe_str pa_nil))))) (pe_op op_mod (pv 1) pe_int) (fun _ _ => rfl)) (pe_op op_mod (pe_op op_fdivW (pv 1) pe_int) (pe_ix ix_list (pe_lst (pa_cons pe_int (pa_cons pe_int (pa_cons pe_int (pa_cons pe_int pa_nil))))) (pe_op op_mod (pv 1) pe_int) (fun _ _ => rfl))) (fun _ _ => rfl)) pa_nil)))))), ?_⟩
    refine ⟨_, rfl, b, L, rfl, B, fun x H1 hx B1 k1 => ?_⟩
    refine ⟨_, rfl, b, L, rfl, B1, fun v H2 hv B2 k2 => ?_⟩
    refine ⟨(by show 4 ≤ sizeLine; decide), fun p np => ?_⟩
    have c0 := Int.emod_nonneg x (show (4 : Int) ≠ 0 by decide)
    have c1 := Int.emod_lt_of_pos x (show (0 : Int) < 4 by decide)
    have pick : ∃ (z : Str) (m : Int) (c : Nat), atI [V.str "abcdefgh", V.str "ab", V.str "a", V.str "h"] (x % 4) = some (.str z) ∧ atI [V.int 8, V.int 2, V.int 1, V.int 1] (x % 4) = some (.int m) ∧ 0 < m ∧ z.length ≤ sizeLine ∧ atI z.cps.toList (x / 4 % m) = some c ∧ (⟨#[c]⟩ : Str) ∈ kinds := by
      generalize x % 4 = r at c0 c1
      have hc : r = 0 ∨ r = 1 ∨ r = 2 ∨ r = 3 := by omega
      rcases hc with rfl | rfl | rfl | rfl
      · have d0 := Int.emod_nonneg (x / 4) (show (8 : Int) ≠ 0 by decide)
        have d1 := Int.emod_lt_of_pos (x / 4) (show (0 : Int) < 8 by decide)
        generalize hm : x / 4 % 8 = r2 at d0 d1
        have hc : r2 = 0 ∨ r2 = 1 ∨ r2 = 2 ∨ r2 = 3 ∨ r2 = 4 ∨ r2 = 5 ∨ r2 = 6 ∨ r2 = 7 := by omega
        rcases hc with h | h | h | h | h | h | h | h
        all_goals
          subst h
          refine ⟨_, _, _, rfl, rfl, by decide, by decide +kernel, by rw [hm]; exact rfl, by decide +kernel⟩
      · have d0 := Int.emod_nonneg (x / 4) (show (2 : Int) ≠ 0 by decide)
        have d1 := Int.emod_lt_of_pos (x / 4) (show (0 : Int) < 2 by decide)
        generalize hm : x / 4 % 2 = r2 at d0 d1
        have hc : r2 = 0 ∨ r2 = 1 := by omega
        rcases hc with h | h
        all_goals
          subst h
          refine ⟨_, _, _, rfl, rfl, by decide, by decide +kernel, by rw [hm]; exact rfl, by decide +kernel⟩
      all_goals
        have hm : x / 4 % 1 = 0 := by omega
        refine ⟨_, _, _, rfl, rfl, by decide, by decide +kernel, by rw [hm]; exact rfl, by decide +kernel⟩
    obtain ⟨z, m, c, h1, h2, hm, hz, hc, hk⟩ := pick
    refine ⟨_, rfl, _, _, rfl, rfl, (by show (0 : Int) < 4; decide), p, _, _, _, rfl, rfl, SqL.of upd_same, h1, ?_⟩
    refine ⟨_, rfl, _, _, rfl, rfl, wide_ok (by decide) (by decide), (by show 4 ≤ sizeLine; decide), fun p2 np2 => ?_⟩
    refine ⟨_, rfl, _, _, rfl, rfl, (by show (0 : Int) < 4; decide), p2, _, _, _, rfl, rfl, SqL.of upd_same, h2, _, _, rfl, rfl, hm, z, _, c, rfl, rfl, hz, hc, (by show 2 ≤ sizeLine; decide), fun t nt => ?_⟩
    have kk : But b H (upd (upd (upd H2 p (.lst [V.str "abcdefgh", V.str "ab", V.str "a", V.str "h"])) p2 (.lst [V.int 8, V.int 2, V.int 1, V.int 1])) t (.tup [.int v, .str ⟨#[c]⟩])) := (((k1.trans k2).new np).new np2).new nt
    have nH : H t = none := ((B2.new np).new np2).back (((k1.trans k2).new np).new np2) nt
    exact q t v ⟨#[c]⟩ _ ⟨hv.1, hv.2, hk⟩ (((B2.new np).new np2).new nt) kk nH upd_same
theorem ok_spot (T : Top w K mg) : FnOk P w K mg base CX0 2 T.a_Lspot T.d_Lspot ["_law_box_here", "_law_many"] spSpot := by
  have G_Lnext : FnOk P w K mg base CX0 1 _ _ _ _ := ok_next T
  refine T.F_Lspot.ok sc_Lspot (fun vs H Q E h => ?_) (fun cdv A outer s H vs Q E hr h => ?_)
  · obtain ⟨b, L, m, rfl, _⟩ := h
    rfl
  · obtain ⟨b, L, m, rfl, B, m0, m1, q⟩ := h
    refine ⟨_, (pss_cons (ps_set (i := 2) sc_Lspot.nd rfl (.inl rfl) (pe_call G_Lnext hr (by rfl) T.g_Lnext T.F_Lnext.kp T.b_Lnext .nil pass0 (pa_cons (pv 0) pa_nil)))
      (pss_one (ps_ret (pe_ifExp (pt_cmpR op_gt (pe_op op_mod (pv 2) pe_int) pe_int (nomark _)) (pe_op op_mod (pv 2) (pv 1)) (pe_ix ix_list (pe_lst (pa_cons (pv 1) (pa_cons (pe_un un_neg pe_int) (pa_cons (pe_op op_add (pv 1) pe_int) pa_nil)))) (pe_op op_mod (pe_op op_fdivW (pv 2) pe_int) pe_int) (fun _ _ => rfl)))))), ?_⟩
    refine ⟨_, rfl, b, L, rfl, B, fun x H1 hx B1 k1 => ?_⟩
    refine ⟨_, rfl, _, _, rfl, rfl, (by show (0 : Int) < 29; decide), _, _, rfl, rfl, _, rfl, ite2 (fun e1 => ?_) (fun e1 => ?_)⟩
    · have z0 := Int.emod_nonneg x (show m ≠ 0 by omega)
      have z1 := Int.emod_lt_of_pos x m0
      exact ⟨_, rfl, _, rfl, _, _, rfl, rfl, m0, q _ _ (by omega) (by omega) B1 k1⟩
    · refine ⟨_, rfl, _, rfl, _, rfl, _, _, rfl, rfl, (by show 3 ≤ sizeLine; decide), fun p np => ?_⟩
      have c0 := Int.emod_nonneg (x / 29) (show (3 : Int) ≠ 0 by decide)
      have c1 := Int.emod_lt_of_pos (x / 29) (show (0 : Int) < 3 by decide)
      have pick : ∃ v : Int, atI [V.int m, V.int (-1), V.int (m + 7)] (x / 29 % 3) = some (.int v) ∧ -2 < v ∧ v < 2000 := by
        generalize x / 29 % 3 = r at c0 c1
        have hc : r = 0 ∨ r = 1 ∨ r = 2 := by omega
        rcases hc with rfl | rfl | rfl
        all_goals exact ⟨_, rfl, by omega, by omega⟩
      obtain ⟨v, hv, h1, h2⟩ := pick
      refine ⟨_, rfl, _, _, rfl, rfl, wide_ok (by decide) (by decide), _, _, rfl, rfl, (by show (0 : Int) < 3; decide), p, _, _, _, rfl, rfl, SqL.of upd_same, hv, ?_⟩
      exact q v _ h1 h2 (B1.new np) (k1.new np)
end

end My
namespace My
open PySem L2
/-! ### forests drawn from the box -/
/-- a forest stands at f -/
def fdata (pts : List (Int × Str)) (ts : List (Int × Int)) : PyData := .tuple [.tuple (pts.map pdata), .tuple (ts.map tdata)]
structure FrOk (pts : List (Int × Str)) (ts : List (Int × Int)) : Prop where
  pos : 0 < pts.length
  few : pts.length ≤ 100
  pok : ∀ p ∈ pts, PtOk p
  tok : ∀ t ∈ ts, 0 ≤ t.1 ∧ 0 ≤ t.2 ∧ t.1 < (pts.length : Int) ∧ t.2 < (pts.length : Int)
  tl : ts.length ≤ pts.length
  tree : Tree ts
  nd : ts.Nodup
def spForest (K : PySem.W.Frag) : Sp := fun vs H Q _ => ∃ (b L : Addr) (f m : Int), vs = [.ref b, .int f, .int m] ∧ BoxAt H b L ∧ 0 ≤ f ∧ 0 ≤ m ∧ f < 100 ∧ m < 100 ∧
  ∀ (p : Addr) (pts : List (Int × Str)) (ts : List (Int × Int)) (H' : Hp), FrOk pts ts → (pts.length : Int) ≤ max f m + 1 → BoxAt H' b L → But b H H' → Td K H' (.ref p) (fdata pts ts) → Q (.ref p) H'
theorem Td.two {K : PySem.W.Frag} {H : Hp} {x y : Int} {t : Addr} (h : H t = some (.tup [.int x, .int y])) : Td K H (.ref t) (tdata (x, y)) := .tup (SqT.of h) (.cons (.int x) (.cons (.int y) .nil))
theorem Td.pt {K : PySem.W.Frag} {H : Hp} {x : Int} {y : Str} {t : Addr} (h : H t = some (.tup [.int x, .str y])) : Td K H (.ref t) (pdata (x, y)) := .tup (SqT.of h) (.cons (.int x) (.cons (.str y) .nil))
/-- tied pairs stand in H itself -/
inductive PAll (H : Hp) : List V → List (Int × Int) → Prop
  | nil : PAll H [] []
  | cons {t : Addr} {x y : Int} {vs : List V} {ts : List (Int × Int)} : H t = some (.tup [.int x, .int y]) → PAll H vs ts → PAll H (.ref t :: vs) ((x, y) :: ts)
theorem PAll.td {K : PySem.W.Frag} {H : Hp} : ∀ {vs : List V} {ts : List (Int × Int)}, PAll H vs ts → TdAll K H vs (ts.map tdata)
  | _, _, .nil => .nil
  | _, _, .cons h k => .cons (Td.two h) (PAll.td k)
theorem PAll.mono {H H' : Hp} (s : ∀ t x y, H t = some (.tup [.int x, .int y]) → H' t = some (.tup [.int x, .int y])) : ∀ {vs : List V} {ts : List (Int × Int)}, PAll H vs ts → PAll H' vs ts
  | _, _, .nil => .nil
  | _, _, .cons h k => .cons (s _ _ _ h) (PAll.mono s k)
theorem PAll.same {H H' : Hp} (s : Same H H') {vs : List V} {ts : List (Int × Int)} (h : PAll H vs ts) : PAll H' vs ts := h.mono fun _ _ _ e => s _ _ e
theorem PAll.put {H : Hp} {l : Addr} {xs ys : List V} (e : H l = some (.lst xs)) {vs : List V} {ts : List (Int × Int)} (h : PAll H vs ts) : PAll (upd H l (.lst ys)) vs ts := h.mono fun t _ _ z => by
  rw [upd_ne (ne_of z e (by intro z; cases z))]
  exact z
theorem PAll.but {H H' : Hp} {b L : Addr} (B : BoxAt H b L) (s : But b H H') {vs : List V} {ts : List (Int × Int)} (h : PAll H vs ts) : PAll H' vs ts := h.mono fun t _ _ z => by
  obtain ⟨ns, n, h1, _⟩ := B.ex
  exact s _ _ z (ne_of z h1 (by intro z; cases z))
theorem PAll.snoc {H : Hp} {t : Addr} {x y : Int} (e : H t = some (.tup [.int x, .int y])) : ∀ {vs : List V} {ts : List (Int × Int)}, PAll H vs ts → PAll H (vs ++ [.ref t]) (ts ++ [(x, y)])
  | _, _, .nil => .cons e .nil
  | _, _, .cons h k => .cons h (PAll.snoc e k)
theorem PAll.length {H : Hp} : ∀ {vs : List V} {ts : List (Int × Int)}, PAll H vs ts → vs.length = ts.length
  | _, _, .nil => rfl
  | _, _, .cons _ k => congrArg (· + 1) k.length
theorem PAll.pairs {H : Hp} : ∀ {vs : List V} {ts : List (Int × Int)}, PAll H vs ts → ∀ x ∈ vs, ∃ t i j, x = V.ref t ∧ H t = some (.tup [.int i, .int j])
  | _, _, .nil, _, m => nomatch m
  | _, _, .cons h k, x, m => by
    rcases List.mem_cons.mp m with e | m
    · subst e
      exact ⟨_, _, _, rfl, h⟩
    · exact k.pairs x m
theorem PAll.perm {H : Hp} {xs ys : List V} (p : ys.Perm xs) : ∀ {ts : List (Int × Int)}, PAll H xs ts → ∃ us : List (Int × Int), us.Perm ts ∧ PAll H ys us := by
  induction p with
  | nil =>
    intro ts h
    cases h
    exact ⟨[], .refl _, .nil⟩
  | cons x p ih =>
    intro ts h
    cases h with
    | cons h1 h2 =>
      obtain ⟨us, pu, hu⟩ := ih h2
      exact ⟨_ :: us, pu.cons _, .cons h1 hu⟩
  | swap x y l =>
    intro ts h
    cases h with
    | cons h1 h2 =>
      cases h2 with
      | cons h2 h3 => exact ⟨_, .swap .., .cons h2 (.cons h1 h3)⟩
  | trans p1 p2 ih1 ih2 =>
    intro ts h
    obtain ⟨us, pu, hu⟩ := ih2 h
    obtain ⟨vs, pv, hv⟩ := ih1 hu
    exact ⟨vs, pv.trans pu, hv⟩
/-- the list of names -/
def Names (n : Nat) (ns : List Int) : Prop := ns.length = n ∧ (∀ x ∈ ns, 0 ≤ x ∧ x < (n : Int)) ∧ ns.Nodup
theorem names_put {n : Nat} {ns : List Int} {k : Nat} (h : Names n ns) : Names (n + 1) (ns.take k ++ [(n : Int)] ++ ns.drop k) := by
  have hn : (n : Int) ∉ ns := fun m => by
    have := h.2.1 _ m
    omega
  refine ⟨?_, fun x m => ?_, ?_⟩
  · have z := List.take_append_drop k ns
    have z2 := congrArg List.length z
    rw [List.length_append] at z2
    rw [List.length_append, List.length_append]
    show (ns.take k).length + 1 + (ns.drop k).length = n + 1
    have := h.1
    omega
  · rcases List.mem_append.mp m with m | m
    · rcases List.mem_append.mp m with m | m
      · have := h.2.1 x (List.mem_of_mem_take m)
        omega
      · rcases List.mem_cons.mp m with e | m
        · omega
        · cases m
    · have := h.2.1 x (List.mem_of_mem_drop m)
      omega
  · have nd := h.2.2
    rw [← List.take_append_drop k ns] at nd
    obtain ⟨n1, n2, n3⟩ := List.nodup_append.mp nd
    refine List.nodup_append.mpr ⟨List.nodup_append.mpr ⟨n1, List.nodup_cons.mpr ⟨List.not_mem_nil, List.nodup_nil⟩, fun x m y k z => ?_⟩, n2, fun x m y k z => ?_⟩
    · rw [List.mem_singleton.mp k] at z
      exact hn (z ▸ List.mem_of_mem_take m)
    · rcases List.mem_append.mp m with m | m
      · exact n3 x m y k z
      · rw [List.mem_singleton.mp m] at z
        exact hn (z ▸ List.mem_of_mem_drop k)
/-- a tie to a name that has none yet -/
theorem tie_more {ns : List Int} {ts : List (Int × Int)} {i k : Nat} {v1 v2 : Int} {u : Nat} (nd : ns.Nodup) (hk : k = 1 + i) (h1 : ns[k]? = some v1) (h2 : ns[u]? = some v2) (hu : u < k) (tr : Tree ts) (tn : ts.Nodup) (hm : ∀ t ∈ ts, t.1 ∈ ns.take k ∧ t.2 ∈ ns.take k) :
    Tree (ts ++ [((if v2 < v1 then v2 else v1), (if v2 > v1 then v2 else v1))]) ∧ (ts ++ [((if v2 < v1 then v2 else v1), (if v2 > v1 then v2 else v1))]).Nodup ∧ ∀ t ∈ ts ++ [((if v2 < v1 then v2 else v1), (if v2 > v1 then v2 else v1))], t.1 ∈ ns.take (k + 1) ∧ t.2 ∈ ns.take (k + 1) := by
  have n1 : v1 ∉ ns.take k := fun m => by
    obtain ⟨j, hj⟩ := List.mem_iff_getElem?.mp m
    have jl := (List.getElem?_eq_some_iff.mp hj).1
    rw [List.length_take] at jl
    rw [List.getElem?_take_of_lt (by omega)] at hj
    have l1 := (List.getElem?_eq_some_iff.mp h1)
    obtain ⟨x1, y1⟩ := l1
    obtain ⟨x2, y2⟩ := List.getElem?_eq_some_iff.mp hj
    have z := List.pairwise_iff_getElem.mp nd j k x2 x1 (by omega)
    exact z (y2.trans y1.symm)
  have m2 : v2 ∈ ns.take k := List.mem_iff_getElem?.mpr ⟨u, by rw [List.getElem?_take_of_lt hu]; exact h2⟩
  have ne : v2 ≠ v1 := fun z => n1 (z ▸ m2)
  have hv : ∀ t ∈ ts, t.1 ≠ v1 ∧ t.2 ≠ v1 := fun t m => ⟨fun z => n1 (z ▸ (hm t m).1), fun z => n1 (z ▸ (hm t m).2)⟩
  have two : ((if v2 < v1 then v2 else v1), (if v2 > v1 then v2 else v1)) = (v2, v1) ∨ ((if v2 < v1 then v2 else v1), (if v2 > v1 then v2 else v1)) = (v1, v2) := by
    by_cases lt : v2 < v1
    · rw [if_pos lt, if_neg (by omega)]
      exact .inl rfl
    · rw [if_neg lt, if_pos (by omega)]
      exact .inr rfl
  have up : ∀ {x : Int}, x ∈ ns.take k → x ∈ ns.take (k + 1) := fun {x} m => by
    rw [List.take_succ]
    exact List.mem_append_left _ m
  have m1 : v1 ∈ ns.take (k + 1) := by
    rw [List.take_succ, h1]
    exact List.mem_append_right _ List.mem_cons_self
  refine ⟨tree_snoc tr hv ne two, List.nodup_append.mpr ⟨tn, List.nodup_cons.mpr ⟨List.not_mem_nil, List.nodup_nil⟩, fun x m y k z => ?_⟩, fun t m => ?_⟩
  · rw [List.mem_singleton.mp k] at z
    have w := hv x m
    rw [z] at w
    rcases two with e | e
    · rw [e] at w
      exact w.2 rfl
    · rw [e] at w
      exact w.1 rfl
  · rcases List.mem_append.mp m with m | m
    · exact ⟨up (hm t m).1, up (hm t m).2⟩
    · rw [List.mem_singleton.mp m]
      rcases two with e | e
      · rw [e]
        exact ⟨up m2, m1⟩
      · rw [e]
        exact ⟨m1, up m2⟩
section
variable {P : Program} {w : World} {K : PySem.W.Frag} {mg : Str → Option Value} {base : Heap}
theorem ok_forest (T : Top w K mg) : FnOk P w K mg base CX0 4 T.a_Lforest T.d_Lforest ["_law_box_here", "_law_few_here", "_law_most"] (spForest K) := by
  have G_Lnext : FnOk P w K mg base CX0 1 _ _ _ _ := ok_next T
  have G_Lfew : FnOk P w K mg base CX0 2 _ _ _ _ := ok_few T
  have G_Lpoint : FnOk P w K mg base CX0 3 _ _ _ _ := ok_point T
  refine T.F_Lforest.ok sc_Lforest (fun vs H Q E h => ?_) (fun cdv A outer s H vs Q E hr h => ?_)
  · obtain ⟨b, L, f, m, rfl, _⟩ := h
    rfl
  · obtain ⟨b, L, f, m, rfl, B, f0, m0, f1, m1, q⟩ := h
    refine ⟨_, (pss_cons (ps_set (i := 3) sc_Lforest.nd rfl (.inl rfl) (pe_op op_add pe_int (pe_call G_Lfew (hr.mono (by decide)) (by rfl) T.g_Lfew T.F_Lfew.kp T.b_Lfew .nil pass0 (pa_cons (pv 0) (pa_cons (pv 1) (pa_cons (pv 2) pa_nil))))))
      (pss_cons (ps_set (i := 4) sc_Lforest.nd rfl (.inl rfl) (pe_op op_mod (pe_call G_Lnext (hr.mono (by decide)) (by rfl) T.g_Lnext T.F_Lnext.kp T.b_Lnext .nil pass0 (pa_cons (pv 0) pa_nil)) pe_int))
      (pss_cons (ps_set (i := 5) sc_Lforest.nd rfl (.inl rfl) (pe_lst pa_nil))
      (pss_cons (ps_for PassesOwn.never rfl (pi_range1 (by rfl) T.m_range (pa_cons (pv 3) pa_nil)) (pg_name (i := 6) sc_Lforest.nd rfl (.inl rfl)) (pss_one (ps_expr (pe_bm PySem.F.plainAttrs_list PySem.F.slot_list_insert PySem.F.type_list_insert mt_insert (pv 5) (pa_cons (pe_ifExp (pt_cmpR op_gt (pv 4) pe_int (nomark _)) (pe_op op_mod (pe_call G_Lnext (hr.mono (by decide)) (by rfl) T.g_Lnext T.F_Lnext.kp T.b_Lnext .nil pass0 (pa_cons (pv 0) pa_nil)) (pe_op op_add (pv 6) pe_int)) (pv 6)) (pa_cons (pv 6) pa_nil))))))
      (pss_cons (ps_set (i := 7) sc_Lforest.nd rfl (.inl rfl) (pe_lst pa_nil))
      (pss_cons (ps_set (i := 8) sc_Lforest.nd rfl (.inl rfl) (pe_op op_mod (pe_call G_Lnext (hr.mono (by decide)) (by rfl) T.g_Lnext T.F_Lnext.kp T.b_Lnext .nil pass0 (pa_cons (pv 0) pa_nil)) pe_int))
      (pss_cons (ps_for PassesOwn.never rfl (pi_range2 (by rfl) T.m_range (pa_cons pe_int (pa_cons (pv 3) pa_nil))) (pg_name (i := 6) sc_Lforest.nd rfl (.inl rfl)) (pss_cons (ps_set (i := 9) sc_Lforest.nd rfl (.inl rfl) (pe_ix ix_list (pe_lst (pa_cons (pe_op op_sub (pv 6) pe_int) (pa_cons pe_int (pa_cons (pe_op op_fdivW (pe_op op_sub (pv 6) pe_int) pe_int) (pa_cons (pe_op op_mod (pe_call G_Lnext (hr.mono (by decide)) (by rfl) T.g_Lnext T.F_Lnext.kp T.b_Lnext .nil pass0 (pa_cons (pv 0) pa_nil)) (pv 6)) (pa_cons (pe_op op_sub (pe_op op_sub (pv 6) pe_int) (pe_op op_mul (pe_op op_mod (pv 6) pe_int) (pe_callTy call_int1 (by rfl) T.m_int (by decide +kernel) (pa_cons (pe_cmpR op_gt (pv 6) pe_int (nomark _)) pa_nil)))) pa_nil)))))) (pv 4) (fun _ _ => rfl)))
      (pss_one (ps_if (pt_mid (PW.pt (pw_or (pt_cmpR op_gt (pv 8) pe_int (nomark _)) (pw_or1 (pt_cmpR op_gt (pe_op op_mod (pe_call G_Lnext (hr.mono (by decide)) (by rfl) T.g_Lnext T.F_Lnext.kp T.b_Lnext .nil pass0 (pa_cons (pv 0) pa_nil)) pe_int) pe_int (nomark _)))))) (pss_one (ps_expr (pe_bm PySem.F.plainAttrs_list PySem.F.slot_list_append PySem.F.type_list_append mt_append (pv 7) (pa_cons (pe_tup (pa_cons (pe_callB (call_min2 rfl) (by rfl) T.m_min (by decide +kernel) (pa_cons (pe_ix ix_list (pv 5) (pv 6) (fun _ _ => rfl)) (pa_cons (pe_ix ix_list (pv 5) (pv 9) (fun _ _ => rfl)) pa_nil))) (pa_cons (pe_callB (call_max2 rfl) (by rfl) T.m_max (by decide +kernel) (pa_cons (pe_ix ix_list (pv 5) (pv 6) (fun _ _ => rfl)) (pa_cons (pe_ix ix_list (pv 5) (pv 9) (fun _ _ => rfl)) pa_nil))) pa_nil))) pa_nil)))) pss_nil))))
      (pss_one (ps_ret (pe_tup (pa_cons (pe_callTy call_tuple_of (by rfl) T.m_tuple (by decide +kernel) (pa_cons (pe_lc (own := [("_law_k", 6)]) (g := gName 6) (tt := tYes) (by rfl) sc_Lforest.nd (pi_range1 (by rfl) T.m_range (pa_cons (pv 3) pa_nil)) (blkOk_by (own := [("_law_k", 6)]) (N := ["_law_box_here", "_law_few_here", "_law_most", "_law_many", "_law_shape", "_law_names", "_law_k", "_law_ties", "_law_apart", "_law_under"]) (sc := defScope s_Lforest) (by decide +kernel)) (fun _ _ _ _ _ => (pg_name (i := 6) sc_Lforest.nd rfl (.inl rfl))) (fun _ _ _ _ _ => pts_nil) (fun _ _ _ _ _ => (pe_call G_Lpoint hr (by rfl) T.g_Lpoint T.F_Lpoint.kp T.b_Lpoint .nil pass0 (pa_cons (pv 0) pa_nil)))) pa_nil)) (pa_cons (pe_callTy call_tuple_of (by rfl) T.m_tuple (by decide +kernel) (pa_cons (pe_callB cr_sortedP (by rfl) T.m_sorted (by decide +kernel) (pa_cons (pv 7) pa_nil)) pa_nil)) pa_nil)))))))))))), ?_⟩
    refine ⟨_, rfl, _, rfl, _, rfl, b, L, f, m, rfl, B, f0, m0, by omega, by omega, fun x1 H1 a0 a1 B1 k1 => ⟨_, _, rfl, rfl, ?_⟩⟩
    refine ⟨_, rfl, b, L, rfl, B1, fun x2 H2 hx2 B2 k2 => ⟨_, _, rfl, rfl, (by show (0 : Int) < 5; decide), Nat.zero_le _, fun nm nnm => ?_⟩⟩
    generalize hs : x2 % 5 = sh
    have s0 : 0 ≤ sh := by
      rw [← hs]
      exact Int.emod_nonneg _ (by decide)
    have s1 : sh < 5 := by
      rw [← hs]
      exact Int.emod_lt_of_pos _ (by decide)
    have nnb : nm ≠ b := B2.ne nnm
    have nnL : nm ≠ L := B2.neL nnm
    refine ⟨_, rfl, _, rfl, by omega, by omega, for_range (lo := 0) (n := (1 + x1).toNat) (fun i σ H3 => ∃ (ns : List Int) (y6 : Option V), σ = [some (.ref b), some (.int f), some (.int m), some (.int (1 + x1)), some (.int (x2 % 5)), some (.ref nm), y6, none, none, none] ∧ BoxAt H3 b L ∧ H3 nm = some (.lst (ns.map V.int)) ∧ Names i ns ∧ But b H2 H3)
      ⟨[], none, rfl, B2.new nnm, upd_same, ⟨rfl, (fun x z => nomatch z), List.nodup_nil⟩, But.refl.new nnm⟩ ?_ ?_⟩
    · rintro i σ H3 hi ⟨ns, y6, rfl, B3, hnm, hN, k3⟩
      have e0 : (0 : Int) + (i : Int) = (i : Int) := by omega
      have fin : ∀ (j : Int) (H4 : Hp), BoxAt H4 b L → But b H3 H4 → H4 nm = some (.lst (ns.map V.int)) → ∃ (ns' : List Int) (y6' : Option V), [some (V.ref b), some (V.int f), some (V.int m), some (V.int (1 + x1)), some (V.int (x2 % 5)), some (V.ref nm), some (V.int (0 + (i : Int))), none, none, none] = [some (V.ref b), some (V.int f), some (V.int m), some (V.int (1 + x1)), some (V.int (x2 % 5)), some (V.ref nm), y6', none, none, none] ∧ BoxAt (upd H4 nm (.lst ((ns.map V.int).take j.toNat ++ [V.int (0 + (i : Int))] ++ (ns.map V.int).drop j.toNat))) b L ∧ (upd H4 nm (.lst ((ns.map V.int).take j.toNat ++ [V.int (0 + (i : Int))] ++ (ns.map V.int).drop j.toNat))) nm = some (.lst (ns'.map V.int)) ∧ Names (i + 1) ns' ∧ But b H2 (upd H4 nm (.lst ((ns.map V.int).take j.toNat ++ [V.int (0 + (i : Int))] ++ (ns.map V.int).drop j.toNat))) := by
        intro j H4 B4 k4 h4
        refine ⟨ns.take j.toNat ++ [(i : Int)] ++ ns.drop j.toNat, _, rfl, B4.put nnb nnL, ?_, names_put hN, fun a o e ne => ?_⟩
        · rw [upd_same, e0, List.map_append, List.map_append, List.map_take, List.map_drop]
          rfl
        · rw [upd_ne (ne_of_none e nnm)]
          exact k4 _ _ (k3 _ _ e ne) ne
      refine ⟨_, rfl, .inl ⟨rfl, _, SqL.of hnm⟩, _, rfl, _, _, rfl, rfl, _, rfl, ite2 (fun e1 => ?_) (fun e1 => ?_)⟩
      · refine ⟨_, rfl, b, L, rfl, B3, fun x3 H4 hx3 B4 k4 => ⟨_, rfl, _, _, rfl, rfl, _, _, rfl, rfl, (by show (0 : Int) < 0 + (i : Int) + 1; omega), _, rfl, ?_⟩⟩
        have z0 := Int.emod_nonneg x3 (show (0 : Int) + (i : Int) + 1 ≠ 0 by omega)
        have z1 := Int.emod_lt_of_pos x3 (show (0 : Int) < 0 + (i : Int) + 1 by omega)
        have h4 := k4 _ _ hnm nnb
        refine ⟨nm, _, _, _, rfl, rfl, h4, szl (by rw [List.length_map, hN.1]; omega), z0, by omega, ?_⟩
        exact fin _ H4 B4 k4 h4
      · refine ⟨_, rfl, _, rfl, nm, _, _, _, rfl, rfl, hnm, szl (by rw [List.length_map, hN.1]; omega), by omega, by omega, ?_⟩
        exact fin _ H3 B3 But.refl hnm
    · rintro σ H3 ⟨ns, y6, rfl, B3, hnm, hN, k3⟩
      refine ⟨Nat.zero_le _, fun tl ntl => ?_⟩
      have ntb : tl ≠ b := B3.ne ntl
      have ntL : tl ≠ L := B3.neL ntl
      have ntn : nm ≠ tl := ne_of_none hnm ntl
      have hnm' : (upd H3 tl (.lst [])) nm = some (.lst (ns.map V.int)) := by
        rw [upd_ne ntn]
        exact hnm
      have nmy : (ns.length : Int) = 1 + x1 := by
        have := hN.1
        omega
      have pk : ∀ k : Int, 0 ≤ k → k < 1 + x1 → ∃ v : Int, atI (ns.map V.int) k = some (.int v) ∧ 0 ≤ v ∧ v < 1 + x1 ∧ ns[k.toNat]? = some v := fun k k0 k1 => by
        have hkl : k.toNat < ns.length := by omega
        have ek : k = ((k.toNat : Nat) : Int) := by omega
        have hg : ns[k.toNat]? = some ns[k.toNat] := List.getElem?_eq_getElem hkl
        have hv : atI (ns.map V.int) ((k.toNat : Nat) : Int) = some (.int ns[k.toNat]) := atI_nat (by rw [List.getElem?_map, hg]; rfl)
        rw [← ek] at hv
        have := hN.2.1 _ (List.mem_of_getElem? hg)
        have := hN.1
        exact ⟨_, hv, by omega, by omega, hg⟩
      refine ⟨_, rfl, b, L, rfl, B3.new ntl, fun x4 H4 hx4 B4 k4 => ⟨_, _, rfl, rfl, (by show (0 : Int) < 3; decide), ?_⟩⟩
      have htl4 : H4 tl = some (.lst []) := k4 _ _ upd_same ntb
      have hnm4 : H4 nm = some (.lst (ns.map V.int)) := k4 _ _ hnm' nnb
      refine ⟨_, rfl, _, _, rfl, ⟨by decide, by decide, by omega, by omega⟩, for_range (lo := 1) (n := _) (fun i σ H5 => ∃ (xs : List V) (ts : List (Int × Int)) (y6 y9 : Option V), σ = [some (.ref b), some (.int f), some (.int m), some (.int (1 + x1)), some (.int (x2 % 5)), some (.ref nm), y6, some (.ref tl), some (.int (x4 % 3)), y9] ∧ BoxAt H5 b L ∧ H5 nm = some (.lst (ns.map V.int)) ∧ H5 tl = some (.lst xs) ∧ PAll H5 xs ts ∧ ts.length ≤ i ∧ (∀ t ∈ ts, 0 ≤ t.1 ∧ 0 ≤ t.2 ∧ t.1 < 1 + x1 ∧ t.2 < 1 + x1) ∧ (Tree ts ∧ ts.Nodup ∧ ∀ t ∈ ts, t.1 ∈ ns.take (1 + i) ∧ t.2 ∈ ns.take (1 + i)) ∧ But b H3 H5)
        ⟨[], [], _, none, rfl, B4, hnm4, htl4, .nil, Nat.zero_le _, (fun t z => nomatch z), ⟨tree_nil, List.nodup_nil, (fun t z => nomatch z)⟩, (But.refl.new ntl).trans k4⟩ ?_ ?_⟩
      · rintro i σ H5 hi ⟨xs, ts, y6, y9, rfl, B5, hnm5, htl5, pa5, hl5, ht5, ⟨tr5, tn5, tm5⟩, k5⟩
        have hk0 : (1 : Int) ≤ 1 + (i : Int) := by omega
        have hk1 : (1 : Int) + (i : Int) < 1 + x1 := by omega
        generalize hk : (1 : Int) + (i : Int) = k at hk0 hk1
        refine ⟨_, rfl, _, _, rfl, rfl, _, rfl, _, _, rfl, rfl, _, _, rfl, rfl, wide_ok (by decide) (by decide), _, rfl, b, L, rfl, B5, fun x5 H6 hx5 B6 k6 => ⟨_, rfl, _, _, rfl, rfl, (by show (0 : Int) < k; omega), _, rfl, _, _, rfl, rfl, _, rfl, _, _, rfl, rfl, (by show (0 : Int) < 2; decide), _, rfl, _, _, rfl, rfl, .inr ⟨_, rfl, _, _, rfl, rfl, .inr ⟨?_, ?_⟩, _, _, rfl, rfl, (by show 5 ≤ sizeLine; decide), fun p np => ?_⟩⟩⟩
        · split <;> decide
        · split <;> decide
        · have z0 := Int.emod_nonneg x5 (show k ≠ 0 by omega)
          have z1 := Int.emod_lt_of_pos x5 (show (0 : Int) < k by omega)
          have pick : ∃ v : Int, atI [V.int (k - 1), V.int 0, V.int ((k - 1) / 2), V.int (x5 % k), V.int (k - 1 - k % 2 * (if decide (1 < k) = true then 1 else 0))] (x2 % 5) = some (.int v) ∧ 0 ≤ v ∧ v < k := by
            rw [hs]
            have hc : sh = 0 ∨ sh = 1 ∨ sh = 2 ∨ sh = 3 ∨ sh = 4 := by omega
            rcases hc with h | h | h | h | h
            all_goals rw [h]
            · exact ⟨_, rfl, by omega, by omega⟩
            · exact ⟨_, rfl, by omega, by omega⟩
            · exact ⟨_, rfl, by omega, by omega⟩
            · exact ⟨_, rfl, by omega, by omega⟩
            · refine ⟨_, rfl, ?_, ?_⟩
              · by_cases e : 1 < k
                · rw [decide_eq_true e]
                  simp
                  omega
                · rw [decide_eq_false e]
                  simp
                  omega
              · by_cases e : 1 < k
                · rw [decide_eq_true e]
                  simp
                  omega
                · rw [decide_eq_false e]
                  simp
                  omega
          obtain ⟨u, hu, u0, u1⟩ := pick
          refine ⟨_, rfl, p, _, _, _, rfl, rfl, SqL.of upd_same, hu, ?_⟩
          have B7 : BoxAt (upd H6 p (.lst [V.int (k - 1), V.int 0, V.int ((k - 1) / 2), V.int (x5 % k), V.int (k - 1 - k % 2 * (if decide (1 < k) = true then 1 else 0))])) b L := B6.new np
          have k7 : But b H5 (upd H6 p (.lst [V.int (k - 1), V.int 0, V.int ((k - 1) / 2), V.int (x5 % k), V.int (k - 1 - k % 2 * (if decide (1 < k) = true then 1 else 0))])) := k6.new np
          generalize (upd H6 p (.lst [V.int (k - 1), V.int 0, V.int ((k - 1) / 2), V.int (x5 % k), V.int (k - 1 - k % 2 * (if decide (1 < k) = true then 1 else 0))])) = H7 at B7 k7
          have hnm7 := k7 _ _ hnm5 nnb
          have htl7 := k7 _ _ htl5 ntb
          have pa7 := pa5.but B5 k7
          refine ⟨fun _ H8 => BoxAt H8 b L ∧ But b H7 H8, ?_, ?_⟩
          · refine ⟨_, rfl, _, _, rfl, rfl, _, rfl, ite2 (fun _ => ⟨B7, But.refl⟩) (fun _ => ?_)⟩
            exact ⟨_, rfl, b, L, rfl, B7, fun x8 H8 hx8 B8 k8 => ⟨_, _, rfl, rfl, (by show (0 : Int) < 5; decide), _, _, rfl, rfl, _, rfl, B8, k8⟩⟩
          · rintro bb H8 ⟨B8, k8⟩
            have hnm8 := k8 _ _ hnm7 nnb
            have htl8 := k8 _ _ htl7 ntb
            have pa8 := pa7.but B7 k8
            have k58 := (k5.trans k7).trans k8
            refine ite2 (fun _ => ?_) (fun _ => ?_)
            · obtain ⟨v1, hv1, a1, b1, g1⟩ := pk k (by omega) hk1
              obtain ⟨v2, hv2, a2, b2, g2⟩ := pk u u0 (by omega)
              refine ⟨_, rfl, .inl ⟨rfl, _, SqL.of htl8⟩, _, rfl, _, rfl, nm, _, _, _, rfl, rfl, SqL.of hnm8, hv1, _, rfl, _, rfl, nm, _, _, _, rfl, rfl, SqL.of hnm8, hv2, _, _, rfl, _, rfl, _, rfl, nm, _, _, _, rfl, rfl, SqL.of hnm8, hv1, _, rfl, _, rfl, nm, _, _, _, rfl, rfl, SqL.of hnm8, hv2, _, _, rfl, (by show 2 ≤ sizeLine; decide), fun t nt => ?_⟩
              have nt1 : tl ≠ t := ne_of_none htl8 nt
              have nt2 : nm ≠ t := ne_of_none hnm8 nt
              have htl9 : (upd H8 t (.tup [.int (if v2 < v1 then v2 else v1), .int (if v2 > v1 then v2 else v1)])) tl = some (.lst xs) := by
                rw [upd_ne nt1]
                exact htl8
              refine ⟨tl, _, _, rfl, rfl, htl9, szl ?_, ?_⟩
              · have := pa8.length
                omega
              · refine ⟨xs ++ [.ref t], ts ++ [((if v2 < v1 then v2 else v1), (if v2 > v1 then v2 else v1))], _, _, rfl, (B8.new nt).put ntb ntL, ?_, upd_same, ?_, ?_, ?_, ?_, ?_⟩
                · rw [upd_ne ntn, upd_ne nt2]
                  exact hnm8
                · exact (PAll.snoc upd_same (pa8.same (same_new nt))).put htl9
                · rw [List.length_append]
                  show ts.length + 1 ≤ i + 1
                  omega
                · intro t' m'
                  rcases List.mem_append.mp m' with m' | m'
                  · exact ht5 t' m'
                  · rcases List.mem_cons.mp m' with e | m'
                    · subst e
                      dsimp only
                      refine ⟨?_, ?_, ?_, ?_⟩ <;> split <;> omega
                    · cases m'
                · have ek : k.toNat = 1 + i := by omega
                  have z := tie_more (i := i) (k := 1 + i) (u := u.toNat) hN.2.2 rfl (by rw [← ek]; exact g1) g2 (by omega) tr5 tn5 tm5
                  exact z
                · intro a o e ne
                  have z := k58 _ _ e ne
                  rw [upd_ne (ne_of_none e ntl), upd_ne (ne_of_none z nt)]
                  exact z
            · refine ⟨xs, ts, _, _, rfl, B8, hnm8, htl8, pa8, by omega, ht5, ⟨tr5, tn5, fun t m => ?_⟩, k58⟩
              have up : ∀ {x : Int}, x ∈ ns.take (1 + i) → x ∈ ns.take (1 + (i + 1)) := fun {x} m => by
                rw [show 1 + (i + 1) = (1 + i) + 1 from rfl, List.take_succ]
                exact List.mem_append_left _ m
              exact ⟨up (tm5 t m).1, up (tm5 t m).2⟩
      · rintro σ H5 ⟨xs, ts, y6, y9, rfl, B5, hnm5, htl5, pa5, hl5, ht5, ⟨tr5, tn5, tm5⟩, k5⟩
        refine ⟨_, rfl, _, rfl, by omega, by omega, fun D nD => ?_⟩
        have nDb : D ≠ b := B5.ne nD
        have nDL : D ≠ L := B5.neL nD
        refine lc_range (lo := 0) (n := (1 + x1).toNat) (fun i H6 => BoxAt H6 b L ∧ ∃ (pts : List (Int × Str)) (ys : List V), H6 D = some (.lst ys) ∧ TdAll K H6 ys (pts.map pdata) ∧ pts.length = i ∧ (∀ p ∈ pts, PtOk p) ∧ But b H5 H6) ⟨B5.new nD, [], [], upd_same, .nil, rfl, (fun p z => nomatch z), But.refl.new nD⟩ ?_ ?_
        · rintro i H6 hi ⟨B6, pts, ys, hD6, hp6, hl6, ho6, k6⟩
          refine ⟨rfl, yes_ite ?_⟩
          refine ⟨_, rfl, b, L, rfl, B6, fun p x c H7 hpo B7 k7 np hp7 => ?_⟩
          have hD7 := k7 _ _ hD6 nDb
          have hl7 := hp6.length
          rw [List.length_map] at hl7
          refine ⟨ys, hD7, szl (by omega), B7.put nDb nDL, pts ++ [(x, c)], ys ++ [.ref p], upd_same, ?_, ?_, ?_, ?_⟩
          · have t7 : Tups K H7 (upd H7 D (.lst (ys ++ [V.ref p]))) := Tups.of_but (But.refl.put) hD7
            rw [List.map_append]
            exact TdAll.mono t7 ((hp6.mono (B6.tups k7)).append (.cons (Td.pt hp7) .nil))
          · rw [List.length_append, hl6]
            rfl
          · intro p' m'
            rcases List.mem_append.mp m' with m' | m'
            · exact ho6 p' m'
            · rcases List.mem_cons.mp m' with e | m'
              · subst e
                exact hpo
              · cases m'
          · intro a o e ne
            rw [upd_ne (ne_of_none e nD)]
            exact k7 _ _ (k6 _ _ e ne) ne
        · rintro H6 ⟨B6, pts, ys, hD6, hp6, hl6, ho6, k6⟩
          refine ⟨D, ys, rfl, .inl ⟨SqL.of hD6, fun a1 n1 => ?_⟩⟩
          have s7 := same_new (o := .tup ys) n1
          have htl7 := s7 _ _ (k6 _ _ htl5 ntb)
          have pa7 := (pa5.but B5 k6).same s7
          refine ⟨_, rfl, tl, xs, rfl, SqL.of htl7, pa7.pairs, fun zs p8 pm n8 => ?_⟩
          have s8 := same_new (o := .lst zs) n8
          refine ⟨p8, zs, rfl, .inl ⟨SqL.of upd_same, fun a2 n2 => ?_⟩⟩
          have s9 := same_new (o := .tup zs) n2
          refine ⟨(by show 2 ≤ sizeLine; decide), fun r nr => ?_⟩
          have s10 := same_new (o := .tup [.ref a1, .ref a2]) nr
          obtain ⟨us, pu, pau⟩ := pa7.perm pm
          have tail : Same H6 _ := (((s7.trans s8).trans s9).trans s10)
          have hd1 := s10 _ _ (s9 _ _ (s8 _ _ (upd_same (H := H6) (a := a1) (o := .tup ys))))
          have hd2 := s10 _ _ (upd_same (H := upd (upd H6 a1 (.tup ys)) p8 (.lst zs)) (a := a2) (o := .tup zs))
          refine q r pts us _ ⟨by omega, by omega, ho6, fun t m' => ?_, ?_, tree_perm (fun t => (pu.mem_iff (a := t)).symm) tr5, pu.nodup_iff.mpr tn5⟩ ?_ ((B6.same tail)) ((((k1.trans k2).trans k3).trans k5).trans k6 |>.same tail) ?_
          · have := ht5 t (pu.mem_iff.mp m')
            omega
          · have := pu.length_eq
            omega
          · omega
          · refine .tup (SqT.of upd_same) (.cons (.tup (SqT.of hd1) (hp6.mono (Tups.of_same tail))) (.cons (.tup (SqT.of hd2) ?_) .nil))
            exact (pau.same ((s8.trans s9).trans s10)).td
end

end My
namespace My
open PySem L2
/-! ### rows drawn from the box -/
def RowV (w : Str) (vs : List V) : Prop := ∃ (sl : List Sl) (ps : List V), vs = .str w :: ps ∧ (w, sl) ∈ forms ∧ FitAll sl ps
theorem RowV.mk {w : Str} {ps : List V} (sl : List Sl) (h : (w, sl) ∈ forms) (f : FitAll sl ps) : RowV w (.str w :: ps) := ⟨sl, ps, rfl, h, f⟩
theorem fi (i : Int) : fit .pt (.int i) := ⟨i, rfl⟩
theorem fn (i : Int) : fit .num (.int i) := ⟨i, rfl⟩
theorem fo (i : Int) : fit .oth (.int i) := .inr ⟨i, rfl⟩
def sides : List Str := ["spread", "sum", "size", "top", "least"]
/-- the second of a pair -/
def Oth (wh : Prop) (y : V) : Prop := (∃ j, y = .int j) ∨ (y = .non ∧ wh)
theorem Oth.toOth {wh : Prop} {y : V} (h : Oth wh y) : fit .oth y := by
  rcases h with h | h
  · exact .inr h
  · exact .inl h.1
theorem Oth.toPt {wh : Prop} {y : V} (h : Oth wh y) (n : ¬ wh) : fit .pt y := by
  rcases h with h | h
  · exact h
  · exact absurd h.2 n
theorem mem_add {w : Str} {i x : Int} {y : V} (h : w ∈ (["add", "spread", "reach"] : List Str)) (hy : Oth (w ∈ sides) y) : RowV w (.str w :: [.int i, y, .int x]) := by
  simp only [List.mem_cons, List.not_mem_nil, or_false] at h
  rcases h with rfl | rfl | rfl
  · exact .mk [.pt, .pt, .num] (by decide +kernel) (.cons (fi i) (.cons (hy.toPt (by decide +kernel)) (.cons (fn x) .nil)))
  · exact .mk [.pt, .oth, .num] (by decide +kernel) (.cons (fi i) (.cons hy.toOth (.cons (fn x) .nil)))
  · exact .mk [.pt, .pt, .num] (by decide +kernel) (.cons (fi i) (.cons (hy.toPt (by decide +kernel)) (.cons (fn x) .nil)))
theorem mem_first {w k : Str} {i : Int} {y : V} (hk : k ∈ kinds) (h : w ∈ (["first", "least"] : List Str)) (hy : Oth (w ∈ sides) y) : RowV w (.str w :: [.int i, y, .str k]) := by
  simp only [List.mem_cons, List.not_mem_nil, or_false] at h
  rcases h with rfl | rfl
  · exact .mk [.pt, .pt, .knd] (by decide +kernel) (.cons (fi i) (.cons (hy.toPt (by decide +kernel)) (.cons ⟨k, rfl, hk⟩ .nil)))
  · exact .mk [.pt, .oth, .knd] (by decide +kernel) (.cons (fi i) (.cons hy.toOth (.cons ⟨k, rfl, hk⟩ .nil)))
theorem mem_rest {w : Str} {i : Int} {y : V} (h : w ∈ evs) (n1 : ¬ w = "new") (n2 : ¬ w = "put") (n3 : ¬ w = "paint") (n4 : ¬ w ∈ (["add", "spread", "reach"] : List Str)) (n5 : ¬ w ∈ (["first", "least"] : List Str)) (n6 : ¬ w = "kth") (n7 : ¬ w = "meet") (hy : Oth (w ∈ sides) y) : RowV w (.str w :: [.int i, y]) := by
  unfold evs at h
  simp only [List.mem_cons, List.not_mem_nil, or_false] at h n4 n5
  rcases h with h | h | h | h | h | h | h | h | h | h | h | h | h | h | h | h | h | h | h | h
  · exact absurd h n1
  · exact absurd h n2
  · exact absurd h n3
  · subst h
    exact .mk [.pt, .pt] (by decide +kernel) (.cons (fi i) (.cons (hy.toPt (by decide +kernel)) .nil))
  · subst h
    exact .mk [.pt, .pt] (by decide +kernel) (.cons (fi i) (.cons (hy.toPt (by decide +kernel)) .nil))
  · exact absurd (.inl h) n4
  · exact absurd (.inr (.inl h)) n4
  · subst h
    exact .mk [.pt, .pt] (by decide +kernel) (.cons (fi i) (.cons (hy.toPt (by decide +kernel)) .nil))
  · subst h
    exact .mk [.pt, .pt] (by decide +kernel) (.cons (fi i) (.cons (hy.toPt (by decide +kernel)) .nil))
  · subst h
    exact .mk [.pt, .pt] (by decide +kernel) (.cons (fi i) (.cons (hy.toPt (by decide +kernel)) .nil))
  · subst h
    exact .mk [.pt, .pt] (by decide +kernel) (.cons (fi i) (.cons (hy.toPt (by decide +kernel)) .nil))
  · subst h
    exact .mk [.pt, .pt] (by decide +kernel) (.cons (fi i) (.cons (hy.toPt (by decide +kernel)) .nil))
  · exact absurd (.inl h) n5
  · exact absurd (.inr (.inr h)) n4
  · exact absurd h n6
  · exact absurd h n7
  · subst h
    exact .mk [.pt, .oth] (by decide +kernel) (.cons (fi i) (.cons hy.toOth .nil))
  · subst h
    exact .mk [.pt, .oth] (by decide +kernel) (.cons (fi i) (.cons hy.toOth .nil))
  · subst h
    exact .mk [.pt, .oth] (by decide +kernel) (.cons (fi i) (.cons hy.toOth .nil))
  · exact absurd (.inr h) n5
/-- a forest's parts -/
theorem Td.parts {K : PySem.W.Frag} {H : Hp} {f : V} {pts : List (Int × Str)} {ts : List (Int × Int)} (h : Td K H f (fdata pts ts)) : ∃ (a pa ta : Addr) (xs ys : List V), f = .ref a ∧ SqT K H a [.ref pa, .ref ta] ∧ SqT K H pa xs ∧ TdAll K H xs (pts.map pdata) ∧ SqT K H ta ys ∧ TdAll K H ys (ts.map tdata) := by
  unfold fdata at h
  cases h with
  | tup h k =>
    cases k with
    | cons k1 k2 =>
      cases k2 with
      | cons k2 k3 =>
        cases k3
        cases k1 with
        | tup h1 l1 =>
          cases k2 with
          | tup h2 l2 => exact ⟨_, _, _, _, _, rfl, h, h1, l1, h2, l2⟩
theorem tdata_inv {K : PySem.W.Frag} {H : Hp} {v : V} {t : Int × Int} (h : Td K H v (tdata t)) : ∃ a, v = .ref a ∧ SqT K H a [.int t.1, .int t.2] := by
  unfold tdata at h
  cases h with
  | tup h k =>
    cases k with
    | cons k1 k2 =>
      cases k2 with
      | cons k2 k3 =>
        cases k3
        cases k1
        cases k2
        exact ⟨_, rfl, h⟩
theorem lay_ties : ∀ ts : List (Int × Int), PyData.canLayAll0 (ts.map tdata) = true ∧ PyData.depthAll (ts.map tdata) ≤ 1
  | [] => ⟨rfl, by decide⟩
  | t :: r => by
    obtain ⟨h1, h2⟩ := lay_ties r
    rw [List.map_cons]
    unfold PyData.canLayAll0 PyData.depthAll
    rw [h1]
    refine ⟨rfl, ?_⟩
    have e : (tdata t).depth = 1 := rfl
    omega
theorem shaped_ties (ts : List (Int × Int)) : SeqAt.shaped (.tuple (ts.map tdata)) = true := by
  obtain ⟨h1, h2⟩ := lay_ties ts
  unfold SeqAt.shaped PyData.canLay0 PyData.depth
  rw [h1, decide_eq_true (by omega)]
  rfl
def spPair (K : PySem.W.Frag) : Sp := fun vs H Q _ => ∃ (b L : Addr) (f : V) (wh : Bool) (pts : List (Int × Str)) (ts : List (Int × Int)), vs = [.ref b, f, .bl wh] ∧ BoxAt H b L ∧ Td K H f (fdata pts ts) ∧ FrOk pts ts ∧
  ∀ (p : Addr) (i : Int) (y : V) (H' : Hp), Oth (wh = true) y → BoxAt H' b L → But b H H' → H p = none → H' p = some (.tup [.int i, y]) → Q (.ref p) H'
def spRow (K : PySem.W.Frag) : Sp := fun vs H Q _ => ∃ (b L wl : Addr) (f : V) (ws : List Str) (pts : List (Int × Str)) (ts : List (Int × Int)), vs = [.ref b, f, .ref wl] ∧ BoxAt H b L ∧ Td K H f (fdata pts ts) ∧ FrOk pts ts ∧ H wl = some (.lst (ws.map V.str)) ∧ wl ≠ b ∧ ws ≠ [] ∧ ws.length ≤ 100 ∧ (∀ w ∈ ws, w ∈ evs) ∧
  ∀ (r : Addr) (w : Str) (us : List V) (H' : Hp), w ∈ ws → RowV w us → BoxAt H' b L → But b H H' → H r = none → H' r = some (.tup us) → Q (.ref r) H'
def spEvery : Sp := fun vs H Q _ => vs = [] ∧ ∀ (p : Addr) (H' : Hp), Same H H' → H p = none → H' p = some (.lst (evs.map V.str)) → Q (.ref p) H'
section
variable {P : Program} {w : World} {K : PySem.W.Frag} {mg : Str → Option Value} {base : Heap}
theorem ok_pair (T : Top w K mg) : FnOk P w K mg base CX0 3 T.a_Lpair T.d_Lpair ["_law_box_here", "_law_forest_here", "_law_whole"] (spPair K) := by
  have G_Lnext : FnOk P w K mg base CX0 1 _ _ _ _ := ok_next T
  have G_Lspot : FnOk P w K mg base CX0 2 _ _ _ _ := ok_spot T
  refine T.F_Lpair.ok sc_Lpair (fun vs H Q E h => ?_) (fun cdv A outer s H vs Q E hr h => ?_)
  · obtain ⟨b, L, f, wh, pts, ts, rfl, _⟩ := h
    rfl
  · obtain ⟨b, L, f, wh, pts, ts, rfl, B, F, fo, q⟩ := h
    refine ⟨_, (pss_cons (ps_set (i := 3) sc_Lpair.nd rfl (.inl rfl) (pe_call G_Lnext (hr.mono (by decide)) (by rfl) T.g_Lnext T.F_Lnext.kp T.b_Lnext .nil pass0 (pa_cons (pv 0) pa_nil)))
      (pss_cons (ps_mid (ps_if (pt_mid (PW.pt (pw_and (pt_cmpR (op_neD hr.units) (pe_ix ix_tup (pv 1) pe_int (fun _ _ => rfl)) (pe_tup pa_nil) (nomark _)) (pw_and1 (pt_cmpR op_eq (pe_op op_mod (pv 3) pe_int) pe_int (nomark _)))))) (pss_cons (ps_asg (pe_ix ix_tup (pe_ix ix_tup (pv 1) pe_int (fun _ _ => rfl)) (pe_op op_mod (pe_op op_fdivW (pv 3) pe_int) (pe_callB call_len_seq (by rfl) T.m_len PySem.boot_len (pa_cons (pe_ix ix_tup (pv 1) pe_int (fun _ _ => rfl)) pa_nil))) (fun _ _ => rfl)) (pg_tup rfl (pgs_cons (pg_name (i := 4) sc_Lpair.nd rfl (.inl rfl)) (pgs_cons (pg_name (i := 5) sc_Lpair.nd rfl (.inl rfl)) pgs_nil))))
      (pss_one (ps_set (i := 6) sc_Lpair.nd rfl (.inl rfl) (pe_ix ix_list (pe_lst (pa_cons (pe_lst (pa_cons (pv 4) (pa_cons (pv 5) pa_nil))) (pa_cons (pe_lst (pa_cons (pv 5) (pa_cons (pv 4) pa_nil))) pa_nil))) (pe_op op_mod (pe_call G_Lnext (hr.mono (by decide)) (by rfl) T.g_Lnext T.F_Lnext.kp T.b_Lnext .nil pass0 (pa_cons (pv 0) pa_nil)) pe_int) (fun _ _ => rfl))))) (pss_one (ps_set (i := 6) sc_Lpair.nd rfl (.inl rfl) (pe_lst (pa_cons (pe_call G_Lspot hr (by rfl) T.g_Lspot T.F_Lspot.kp T.b_Lspot .nil pass0 (pa_cons (pv 0) (pa_cons (pe_callB call_len_seq (by rfl) T.m_len PySem.boot_len (pa_cons (pe_ix ix_tup (pv 1) pe_int (fun _ _ => rfl)) pa_nil)) pa_nil))) (pa_cons (pe_call G_Lspot hr (by rfl) T.g_Lspot T.F_Lspot.kp T.b_Lspot .nil pass0 (pa_cons (pv 0) (pa_cons (pe_callB call_len_seq (by rfl) T.m_len PySem.boot_len (pa_cons (pe_ix ix_tup (pv 1) pe_int (fun _ _ => rfl)) pa_nil)) pa_nil))) pa_nil)))))))
      (pss_one (ps_ret (pe_tup (pa_cons (pe_ix ix_list (pv 6) pe_int (fun _ _ => rfl)) (pa_cons (pe_ifExp (PW.pt (pw_and (pt_val (pv 2)) (pw_and1 (pt_cmpR op_eq (pe_op op_mod (pv 3) pe_int) pe_int (nomark _))))) pe_non (pe_ix ix_list (pv 6) pe_int (fun _ _ => rfl))) pa_nil))))))), ?_⟩
    refine ⟨_, rfl, b, L, rfl, B, fun x H1 hx B1 k1 => ?_⟩
    have F1 := F.mono (B.tups k1)
    obtain ⟨fa, pa, ta, xs, ys, rfl, f1, f2, f3, f4, f5⟩ := F1.parts
    have lp : xs.length = pts.length := by
      have z := f3.length
      rw [List.length_map] at z
      exact z
    have lt : ys.length = ts.length := by
      have z := f5.length
      rw [List.length_map] at z
      exact z
    have fpos := fo.pos
    have ffew := fo.few
    have ftl := fo.tl
    refine ⟨fun σ2 H2 => ∃ (y4 y5 : Option V) (l2 : Addr) (i j : Int), σ2 = [some (.ref b), some (.ref fa), some (.bl wh), some (.int x), y4, y5, some (.ref l2)] ∧ H2 l2 = some (.lst [.int i, .int j]) ∧ BoxAt H2 b L ∧ But b H1 H2, ?_, ?_⟩
    · refine ⟨fun bb H2 => Same H1 H2 ∧ (bb = true → ts ≠ []), ?_, ?_⟩
      · refine ⟨_, rfl, fa, _, _, _, rfl, rfl, f1, atI_nat (j := 1) rfl, Nat.zero_le _, fun e ne => ?_⟩
        have s2 := same_new (o := .tup []) ne
        refine ⟨.tuple (ts.map tdata), .tuple [], .tup (Tups.of_same s2 _ _ f4) (TdAll.mono (Tups.of_same s2) f5).dp, .tup (SqT.of upd_same) .nil, shaped_ties ts, by decide, _, rfl, ?_⟩
        cases ts with
        | nil =>
          refine ite2 (fun e => absurd e (by decide)) (fun _ => ?_)
          exact ⟨s2, fun z => by cases z⟩
        | cons t r =>
          refine ite2 (fun _ => ?_) (fun e => absurd rfl e)
          exact ⟨_, rfl, _, _, rfl, rfl, (by show (0 : Int) < 2; decide), rfl, _, rfl, s2, fun _ z => by cases z⟩
      · rintro bb H2 ⟨s2, hb⟩
        have F2 := F1.mono (Tups.of_same s2)
        have B2 := B1.same s2
        have k2 : But b H1 H2 := But.refl.same s2
        have g1 := Tups.of_same (K := K) s2 _ _ f1
        have g2 := Tups.of_same (K := K) s2 _ _ f2
        have g4 := Tups.of_same (K := K) s2 _ _ f4
        refine ite2 (fun e => ?_) (fun e => ?_)
        · have hne := hb e
          have tpos : 0 < ts.length := List.length_pos_iff.mpr hne
          have m0 : (0 : Int) < (ys.length : Int) := by omega
          have z0 := Int.emod_nonneg (x / 2) (show (ys.length : Int) ≠ 0 by omega)
          have z1 := Int.emod_lt_of_pos (x / 2) m0
          obtain ⟨v, hv, hm⟩ := at_any z0 z1
          obtain ⟨d, hd, td⟩ := f5.get hm
          obtain ⟨t, ht, rfl⟩ := List.mem_map.mp hd
          obtain ⟨va, rfl, hva⟩ := tdata_inv td
          have hva2 := Tups.of_same (K := K) s2 _ _ hva
          refine ⟨_, rfl, fa, _, _, _, rfl, rfl, g1, atI_nat (j := 1) rfl, _, rfl, _, _, rfl, rfl, wide_ok (by decide) (by decide), _, rfl, fa, _, _, _, rfl, rfl, g1, atI_nat (j := 1) rfl, ta, _, rfl, .inr g4, _, _, rfl, rfl, m0, ta, _, _, _, rfl, rfl, g4, hv, ?_⟩
          refine ⟨va, _, rfl, hva2, rfl, _, _, rfl, _, _, rfl, rfl, ?_⟩
          refine ⟨_, rfl, _, rfl, (by show 2 ≤ sizeLine; decide), fun q1 m1 => ⟨_, rfl, _, rfl, (by show 2 ≤ sizeLine; decide), fun q2 m2 => ⟨(by show 2 ≤ sizeLine; decide), fun q3 m3 => ?_⟩⟩⟩
          have n12 : q1 ≠ q2 := ne_of_none upd_same m2
          have n23 : q2 ≠ q3 := ne_of_none upd_same m3
          have n13 : q1 ≠ q3 := ne_of_none (by rw [upd_ne n12]; exact upd_same) m3
          refine ⟨_, rfl, b, L, rfl, ((B2.new m1).new m2).new m3, fun x3 H3 hx3 B3 k3 => ⟨_, _, rfl, rfl, (by show (0 : Int) < 2; decide), ?_⟩⟩
          have h1 := k3 q1 (.lst [.int t.1, .int t.2]) (by rw [upd_ne n13, upd_ne n12]; exact upd_same) (B2.ne m1)
          have h2 := k3 q2 (.lst [.int t.2, .int t.1]) (by rw [upd_ne n23]; exact upd_same) ((B2.new m1).ne m2)
          have h3 := k3 q3 (.lst [.ref q1, .ref q2]) upd_same (((B2.new m1).new m2).ne m3)
          have kk : But b H1 H3 := (((k2.new m1).new m2).new m3).trans k3
          have hc : x3 % 2 = 0 ∨ x3 % 2 = 1 := by omega
          rcases hc with hc | hc
          · exact ⟨q3, _, _, .ref q1, rfl, rfl, SqL.of h3, (by show atI _ (x3 % 2) = _; rw [hc]; exact atI_nat (j := 0) rfl), _, _, q1, _, _, rfl, h1, B3, kk⟩
          · exact ⟨q3, _, _, .ref q2, rfl, rfl, SqL.of h3, (by show atI _ (x3 % 2) = _; rw [hc]; exact atI_nat (j := 1) rfl), _, _, q2, _, _, rfl, h2, B3, kk⟩
        · refine ⟨_, rfl, _, rfl, fa, _, _, _, rfl, rfl, g1, atI_nat (j := 0) rfl, pa, _, rfl, .inr g2, b, L, _, rfl, B2, by omega, by omega, fun x3 H3 _ _ B3 k3 => ?_⟩
          have g1' := B2.tups (K := K) k3 _ _ g1
          have g2' := B2.tups (K := K) k3 _ _ g2
          refine ⟨_, rfl, _, rfl, fa, _, _, _, rfl, rfl, g1', atI_nat (j := 0) rfl, pa, _, rfl, .inr g2', b, L, _, rfl, B3, by omega, by omega, fun x4 H4 _ _ B4 k4 => ⟨(by show 2 ≤ sizeLine; decide), fun l2 m2 => ?_⟩⟩
          exact ⟨_, _, l2, _, _, rfl, upd_same, B4.new m2, ((k2.trans k3).trans k4).new m2⟩
    · rintro σ2 H2 ⟨y4, y5, l2, i, j, rfl, hl, B2, k2⟩
      refine ⟨_, rfl, l2, _, _, _, rfl, rfl, SqL.of hl, atI_nat (j := 0) rfl, ?_⟩
      have fin : ∀ y, Oth (wh = true) y → ∀ p, H2 p = none → Q (.ref p) (upd H2 p (.tup [.int i, y])) := fun y hy p np =>
        q p i y _ hy (B2.new np) ((k1.trans k2).new np) (B2.back (k1.trans k2) np) upd_same
      refine ⟨_, rfl, wh, rfl, ?_⟩
      cases wh with
      | true =>
        refine iteT ?_
        refine ⟨_, rfl, _, _, rfl, rfl, (by show (0 : Int) < 5; decide), rfl, _, rfl, ite2 (fun _ => ?_) (fun _ => ?_)⟩
        · exact ⟨(by show 2 ≤ sizeLine; decide), fin .non (.inr ⟨rfl, rfl⟩)⟩
        · exact ⟨_, rfl, l2, _, _, _, rfl, rfl, SqL.of hl, atI_nat (j := 1) rfl, (by show 2 ≤ sizeLine; decide), fin _ (.inl ⟨j, rfl⟩)⟩
      | false =>
        refine iteF ?_
        refine iteF ?_
        exact ⟨_, rfl, l2, _, _, _, rfl, rfl, SqL.of hl, atI_nat (j := 1) rfl, (by show 2 ≤ sizeLine; decide), fin _ (.inl ⟨j, rfl⟩)⟩
theorem ok_row (T : Top w K mg) : FnOk P w K mg base CX0 4 T.a_Lrow T.d_Lrow ["_law_box_here", "_law_forest_here", "_law_words"] (spRow K) := by
  have G_Lnext : FnOk P w K mg base CX0 1 _ _ _ _ := ok_next T
  have G_Lspot : FnOk P w K mg base CX0 2 _ _ _ _ := ok_spot T
  have G_Lworth : FnOk P w K mg base CX0 2 _ _ _ _ := ok_worth T
  have G_Lpoint : FnOk P w K mg base CX0 3 _ _ _ _ := ok_point T
  have G_Lpair : FnOk P w K mg base CX0 3 _ _ _ _ := ok_pair T
  refine T.F_Lrow.ok sc_Lrow (fun vs H Q E h => ?_) (fun cdv A outer s H vs Q E hr h => ?_)
  · obtain ⟨b, L, wl, f, ws, pts, ts, rfl, _⟩ := h
    rfl
  · obtain ⟨b, L, wl, f, ws, pts, ts, rfl, B, F, fok, hwl, nwb, wne, wfew, wall, q⟩ := h
    refine ⟨_, (pss_cons (ps_set (i := 3) sc_Lrow.nd rfl (.inl rfl) (pe_ix ix_list (pv 2) (pe_op op_mod (pe_call G_Lnext (hr.mono (by decide)) (by rfl) T.g_Lnext T.F_Lnext.kp T.b_Lnext .nil pass0 (pa_cons (pv 0) pa_nil)) (pe_callB call_len_seq (by rfl) T.m_len PySem.boot_len (pa_cons (pv 2) pa_nil))) (fun _ _ => rfl)))
      (pss_cons (ps_set (i := 4) sc_Lrow.nd rfl (.inl rfl) (pe_callB call_len_seq (by rfl) T.m_len PySem.boot_len (pa_cons (pe_ix ix_tup (pv 1) pe_int (fun _ _ => rfl)) pa_nil)))
      (pss_cons (ps_if (pt_cmpR op_eq (pv 3) pe_str (nomark _)) (pss_one (ps_ret (pe_op op_catT (pe_tup (pa_cons (pv 3) pa_nil)) (pe_call G_Lpoint hr (by rfl) T.g_Lpoint T.F_Lpoint.kp T.b_Lpoint .nil pass0 (pa_cons (pv 0) pa_nil))))) pss_nil)
      (pss_cons (ps_if (pt_cmpR op_eq (pv 3) pe_str (nomark _)) (pss_one (ps_ret (pe_tup (pa_cons (pv 3) (pa_cons (pe_call G_Lspot (hr.mono (by decide)) (by rfl) T.g_Lspot T.F_Lspot.kp T.b_Lspot .nil pass0 (pa_cons (pv 0) (pa_cons (pv 4) pa_nil))) (pa_cons (pe_call G_Lworth (hr.mono (by decide)) (by rfl) T.g_Lworth T.F_Lworth.kp T.b_Lworth .nil pass0 (pa_cons (pv 0) pa_nil)) pa_nil)))))) pss_nil)
      (pss_cons (ps_if (pt_cmpR op_eq (pv 3) pe_str (nomark _)) (pss_one (ps_ret (pe_tup (pa_cons (pv 3) (pa_cons (pe_call G_Lspot (hr.mono (by decide)) (by rfl) T.g_Lspot T.F_Lspot.kp T.b_Lspot .nil pass0 (pa_cons (pv 0) (pa_cons (pv 4) pa_nil))) (pa_cons (pe_ix ix_tup (pe_call G_Lpoint hr (by rfl) T.g_Lpoint T.F_Lpoint.kp T.b_Lpoint .nil pass0 (pa_cons (pv 0) pa_nil)) pe_int (fun _ _ => rfl)) pa_nil)))))) pss_nil)
      (pss_cons (ps_mid (ps_if (pt_cmpR op_in_seq (pv 3) (pe_tup (pa_cons pe_str (pa_cons pe_str (pa_cons pe_str (pa_cons pe_str (pa_cons pe_str (pa_cons pe_str pa_nil))))))) (by rfl)) (pss_one (ps_set (i := 5) sc_Lrow.nd rfl (.inl rfl) (pe_call G_Lpair hr (by rfl) T.g_Lpair T.F_Lpair.kp T.b_Lpair .nil pass0 (pa_cons (pv 0) (pa_cons (pv 1) (pa_cons (pe_cmpR op_ne (pv 3) pe_str (nomark _)) pa_nil)))))) (pss_one (ps_set (i := 5) sc_Lrow.nd rfl (.inl rfl) (pe_tup (pa_cons (pe_call G_Lspot (hr.mono (by decide)) (by rfl) T.g_Lspot T.F_Lspot.kp T.b_Lspot .nil pass0 (pa_cons (pv 0) (pa_cons (pv 4) pa_nil))) (pa_cons (pe_call G_Lspot (hr.mono (by decide)) (by rfl) T.g_Lspot T.F_Lspot.kp T.b_Lspot .nil pass0 (pa_cons (pv 0) (pa_cons (pv 4) pa_nil))) pa_nil)))))))
      (pss_cons (ps_if (pt_cmpR op_in_seq (pv 3) (pe_tup (pa_cons pe_str (pa_cons pe_str (pa_cons pe_str pa_nil)))) (by rfl)) (pss_one (ps_ret (pe_op op_catT (pe_op op_catT (pe_tup (pa_cons (pv 3) pa_nil)) (pv 5)) (pe_tup (pa_cons (pe_call G_Lworth (hr.mono (by decide)) (by rfl) T.g_Lworth T.F_Lworth.kp T.b_Lworth .nil pass0 (pa_cons (pv 0) pa_nil)) pa_nil))))) pss_nil)
      (pss_cons (ps_if (pt_cmpR op_in_seq (pv 3) (pe_tup (pa_cons pe_str (pa_cons pe_str pa_nil))) (by rfl)) (pss_one (ps_ret (pe_op op_catT (pe_op op_catT (pe_tup (pa_cons (pv 3) pa_nil)) (pv 5)) (pe_tup (pa_cons (pe_ix ix_tup (pe_call G_Lpoint hr (by rfl) T.g_Lpoint T.F_Lpoint.kp T.b_Lpoint .nil pass0 (pa_cons (pv 0) pa_nil)) pe_int (fun _ _ => rfl)) pa_nil))))) pss_nil)
      (pss_cons (ps_if (pt_cmpR op_eq (pv 3) pe_str (nomark _)) (pss_one (ps_ret (pe_op op_catT (pe_op op_catT (pe_tup (pa_cons (pv 3) pa_nil)) (pv 5)) (pe_tup (pa_cons (pe_op op_mod (pe_call G_Lnext (hr.mono (by decide)) (by rfl) T.g_Lnext T.F_Lnext.kp T.b_Lnext .nil pass0 (pa_cons (pv 0) pa_nil)) (pe_op op_add (pv 4) pe_int)) pa_nil))))) pss_nil)
      (pss_one (ps_ret (pe_op op_catT (pe_op op_catT (pe_tup (pa_cons (pv 3) pa_nil)) (pv 5)) (pe_ifExp (pt_cmpR op_eq (pv 3) pe_str (nomark _)) (pe_tup (pa_cons (pe_call G_Lspot (hr.mono (by decide)) (by rfl) T.g_Lspot T.F_Lspot.kp T.b_Lspot .nil pass0 (pa_cons (pv 0) (pa_cons (pv 4) pa_nil))) pa_nil)) (pe_tup pa_nil)))))))))))))), ?_⟩
    refine ⟨_, rfl, _, rfl, b, L, rfl, B, fun x H1 hx B1 k1 => ?_⟩
    have hwl1 := k1 _ _ hwl nwb
    have wpos : 0 < ws.length := List.length_pos_iff.mpr wne
    have m0 : (0 : Int) < ((ws.map V.str).length : Int) := by
      rw [List.length_map]
      omega
    have z0 := Int.emod_nonneg x (show ((ws.map V.str).length : Int) ≠ 0 by omega)
    have z1 := Int.emod_lt_of_pos x m0
    obtain ⟨v, hv, hm⟩ := at_any z0 z1
    obtain ⟨wd, hwd, rfl⟩ := List.mem_map.mp hm
    have hev := wall wd hwd
    have F1 := F.mono (B.tups k1)
    obtain ⟨fa, pa, ta, xs, ys, rfl, f1, f2, f3, f4, f5⟩ := F1.parts
    have lp : xs.length = pts.length := by
      have z := f3.length
      rw [List.length_map] at z
      exact z
    have fpos := fok.pos
    have ffew := fok.few
    refine ⟨_, rfl, wl, _, rfl, .inl (SqL.of hwl1), _, _, rfl, rfl, m0, wl, _, _, _, rfl, rfl, SqL.of hwl1, hv, ?_⟩
    refine ⟨_, rfl, fa, _, _, _, rfl, rfl, f1, atI_nat (j := 0) rfl, pa, _, rfl, .inr f2, ?_⟩
    have fin : ∀ (us : List V) (H2 : Hp) (p : Addr), RowV wd us → BoxAt H2 b L → But b H1 H2 → H2 p = none → Q (.ref p) (upd H2 p (.tup us)) := fun us H2 p hu B2 k2 np =>
      q p wd us _ hwd hu (B2.new np) ((k1.trans k2).new np) (B2.back (k1.trans k2) np) upd_same
    -- new
    refine ⟨_, rfl, rfl, _, rfl, ite2 (fun e1 => ?_) (fun e1 => ?_)⟩
    · have e : wd = "new" := V.str.inj (of_decide_eq_true e1)
      refine ⟨_, rfl, (by show 1 ≤ sizeLine; decide), fun p1 m1 => ?_⟩
      refine ⟨_, rfl, b, L, rfl, B1.new m1, fun p2 i k H2 hpk B2 k2 m2 hp2 => ?_⟩
      have hp1 := k2 _ _ (upd_same (H := H1) (a := p1) (o := .tup [V.str wd])) (B1.ne m1)
      refine ⟨p1, p2, _, _, rfl, rfl, SqT.of hp1, SqT.of hp2, (fun z => nomatch z), (by show 3 ≤ sizeLine; decide), (fun z => nomatch z), fun _ p3 m3 => ?_⟩
      refine fin _ _ _ ?_ B2 ((But.refl.new m1).trans k2) m3
      rw [e]
      exact .mk [.num, .knd] (by decide +kernel) (.cons (fn i) (.cons ⟨k, rfl, hpk.2.2⟩ .nil))
    have n1 : ¬ wd = "new" := fun z => e1 (decide_eq_true (congrArg V.str z))
    -- put
    refine ⟨_, rfl, rfl, _, rfl, ite2 (fun e2 => ?_) (fun e2 => ?_)⟩
    · have e : wd = "put" := V.str.inj (of_decide_eq_true e2)
      refine ⟨_, rfl, _, rfl, _, rfl, b, L, _, rfl, B1, by omega, by omega, fun i H2 _ _ B2 k2 => ?_⟩
      refine ⟨_, rfl, b, L, rfl, B2, fun x3 H3 _ B3 k3 => ⟨(by show 3 ≤ sizeLine; decide), fun p m => ?_⟩⟩
      refine fin _ _ _ ?_ B3 (k2.trans k3) m
      rw [e]
      exact .mk [.pt, .num] (by decide +kernel) (.cons (fi i) (.cons (fn x3) .nil))
    have n2 : ¬ wd = "put" := fun z => e2 (decide_eq_true (congrArg V.str z))
    -- paint
    refine ⟨_, rfl, rfl, _, rfl, ite2 (fun e3 => ?_) (fun e3 => ?_)⟩
    · have e : wd = "paint" := V.str.inj (of_decide_eq_true e3)
      refine ⟨_, rfl, _, rfl, _, rfl, b, L, _, rfl, B1, by omega, by omega, fun i H2 _ _ B2 k2 => ?_⟩
      refine ⟨_, rfl, b, L, rfl, B2, fun p2 j k H3 hpk B3 k3 m2 hp2 => ⟨p2, _, _, _, rfl, rfl, SqT.of hp2, atI_nat (j := 1) rfl, (by show 3 ≤ sizeLine; decide), fun p m => ?_⟩⟩
      refine fin _ _ _ ?_ B3 (k2.trans k3) m
      rw [e]
      exact .mk [.pt, .knd] (by decide +kernel) (.cons (fi i) (.cons ⟨k, rfl, hpk.2.2⟩ .nil))
    have n3 : ¬ wd = "paint" := fun z => e3 (decide_eq_true (congrArg V.str z))
    -- the two points
    refine ⟨fun σ2 H2 => ∃ (p5 : Addr) (i : Int) (y : V), σ2 = [some (.ref b), some (.ref fa), some (.ref wl), some (.str wd), some (.int (xs.length : Int)), some (.ref p5)] ∧ H2 p5 = some (.tup [.int i, y]) ∧ Oth (wd ∈ sides) y ∧ BoxAt H2 b L ∧ But b H1 H2, ?_, ?_⟩
    · refine ⟨_, rfl, (by show 6 ≤ sizeLine; decide), fun p6 m6 => ⟨p6, _, rfl, .inr (SqT.of upd_same), rfl, flat_strs ["cut", "spread", "sum", "size", "top", "least"], _, rfl, ?_⟩⟩
      have eI : inV (.str wd) [V.str "cut", V.str "spread", V.str "sum", V.str "size", V.str "top", V.str "least"] = decide (wd ∈ (["cut", "spread", "sum", "size", "top", "least"] : List Str)) := inV_str wd ["cut", "spread", "sum", "size", "top", "least"]
      have F2 := F1.mono (Tups.of_same (same_new (o := .tup [V.str "cut", V.str "spread", V.str "sum", V.str "size", V.str "top", V.str "least"]) m6))
      refine ite2 (fun e4 => ?_) (fun e4 => ?_)
      · have hmem : wd ∈ (["cut", "spread", "sum", "size", "top", "least"] : List Str) := of_decide_eq_true (eI.symm.trans e4)
        refine ⟨_, rfl, _, rfl, _, rfl, rfl, b, L, _, _, pts, ts, rfl, B1.new m6, F2, fok, fun p i y H2 hy B2 k2 np hp => ?_⟩
        refine ⟨p, i, y, rfl, hp, ?_, B2, (But.refl.new m6).trans k2⟩
        rcases hy with hy | ⟨hy, hw⟩
        · exact .inl hy
        · refine .inr ⟨hy, ?_⟩
          have hn : ¬ wd = "cut" := fun z => by
            subst z
            exact absurd hw (by decide +kernel)
          simp only [List.mem_cons, List.not_mem_nil, or_false] at hmem
          unfold sides
          simp only [List.mem_cons, List.not_mem_nil, or_false]
          rcases hmem with z | z | z | z | z | z
          · exact absurd z hn
          · exact .inl z
          · exact .inr (.inl z)
          · exact .inr (.inr (.inl z))
          · exact .inr (.inr (.inr (.inl z)))
          · exact .inr (.inr (.inr (.inr z)))
      · refine ⟨_, rfl, _, rfl, b, L, _, rfl, B1.new m6, by omega, by omega, fun i H2 _ _ B2 k2 => ?_⟩
        refine ⟨_, rfl, _, rfl, b, L, _, rfl, B2, by omega, by omega, fun j H3 _ _ B3 k3 => ⟨(by show 2 ≤ sizeLine; decide), fun p m => ?_⟩⟩
        exact ⟨p, i, .int j, rfl, upd_same, .inl ⟨j, rfl⟩, B3.new m, (((But.refl.new m6).trans k2).trans k3).new m⟩
    · rintro σ2 H2 ⟨p5, i, y, rfl, hp5, hy, B2, k2⟩
      have p5b : p5 ≠ b := by
        obtain ⟨ns', n', g1, _⟩ := B2.ex
        exact ne_of hp5 g1 (by intro z; cases z)
      -- add, spread, reach
      refine ⟨_, rfl, (by show 3 ≤ sizeLine; decide), fun p6 m6 => ⟨p6, _, rfl, .inr (SqT.of upd_same), rfl, flat_strs ["add", "spread", "reach"], _, rfl, ?_⟩⟩
      have eI : inV (.str wd) [V.str "add", V.str "spread", V.str "reach"] = decide (wd ∈ (["add", "spread", "reach"] : List Str)) := inV_str wd ["add", "spread", "reach"]
      have s6 := same_new (H := H2) (o := .tup [V.str "add", V.str "spread", V.str "reach"]) m6
      have B6 := B2.same s6
      have k6 := k2.same s6
      have hp6 := s6 _ _ hp5
      refine ite2 (fun e4 => ?_) (fun e4 => ?_)
      · have hmem := of_decide_eq_true (eI.symm.trans e4)
        refine ⟨_, rfl, (by show 1 ≤ sizeLine; decide), fun p7 m7 => ⟨_, rfl, p7, p5, _, _, rfl, rfl, SqT.of upd_same, SqT.of (same_new m7 _ _ hp6), (fun z => nomatch z), (by show 3 ≤ sizeLine; decide), (fun z => nomatch z), fun _ p8 m8 => ?_⟩⟩
        refine ⟨_, rfl, b, L, rfl, (B6.new m7).new m8, fun x9 H9 _ B9 k9 => ⟨(by show 1 ≤ sizeLine; decide), fun p10 m10 => ?_⟩⟩
        have h8 := k9 _ _ (upd_same (H := upd (upd H2 p6 (.tup [V.str "add", V.str "spread", V.str "reach"])) p7 (.tup [V.str wd])) (a := p8) (o := .tup ([V.str wd] ++ [V.int i, y]))) ((B6.new m7).ne m8)
        refine ⟨p8, p10, _, _, rfl, rfl, SqT.of (same_new m10 _ _ h8), SqT.of upd_same, (fun z => nomatch z), (by show 4 ≤ sizeLine; decide), (fun z => nomatch z), fun _ p11 m11 => ?_⟩
        exact fin _ _ _ (mem_add hmem hy) (B9.new m10) ((((k6.new m7).new m8).trans k9).new m10) m11
      have n4 : ¬ wd ∈ (["add", "spread", "reach"] : List Str) := fun z => e4 (eI.trans (decide_eq_true z))
      -- first, least
      refine ⟨_, rfl, (by show 2 ≤ sizeLine; decide), fun p7 m7 => ⟨p7, _, rfl, .inr (SqT.of upd_same), rfl, flat_strs ["first", "least"], _, rfl, ?_⟩⟩
      have eJ : inV (.str wd) [V.str "first", V.str "least"] = decide (wd ∈ (["first", "least"] : List Str)) := inV_str wd ["first", "least"]
      have s7 := same_new (o := .tup [V.str "first", V.str "least"]) m7
      have B7 := B6.same s7
      have k7 := k6.same s7
      have hp7 := s7 _ _ hp6
      refine ite2 (fun e5 => ?_) (fun e5 => ?_)
      · have hmem := of_decide_eq_true (eJ.symm.trans e5)
        refine ⟨_, rfl, (by show 1 ≤ sizeLine; decide), fun p8 m8 => ⟨_, rfl, p8, p5, _, _, rfl, rfl, SqT.of upd_same, SqT.of (same_new m8 _ _ hp7), (fun z => nomatch z), (by show 3 ≤ sizeLine; decide), (fun z => nomatch z), fun _ p9 m9 => ?_⟩⟩
        refine ⟨_, rfl, b, L, rfl, (B7.new m8).new m9, fun pp j k H9 hpk B9 k9 mm hpp => ⟨pp, _, _, _, rfl, rfl, SqT.of hpp, atI_nat (j := 1) rfl, (by show 1 ≤ sizeLine; decide), fun p10 m10 => ?_⟩⟩
        have h9 := k9 p9 (.tup ([V.str wd] ++ [V.int i, y])) upd_same ((B7.new m8).ne m9)
        refine ⟨p9, p10, _, _, rfl, rfl, SqT.of (same_new m10 _ _ h9), SqT.of upd_same, (fun z => nomatch z), (by show 4 ≤ sizeLine; decide), (fun z => nomatch z), fun _ p11 m11 => ?_⟩
        exact fin _ _ _ (mem_first hpk.2.2 hmem hy) (B9.new m10) ((((k7.new m8).new m9).trans k9).new m10) m11
      have n5 : ¬ wd ∈ (["first", "least"] : List Str) := fun z => e5 (eJ.trans (decide_eq_true z))
      -- kth
      refine ⟨_, rfl, rfl, _, rfl, ite2 (fun e6 => ?_) (fun e6 => ?_)⟩
      · have e : wd = "kth" := V.str.inj (of_decide_eq_true e6)
        refine ⟨_, rfl, (by show 1 ≤ sizeLine; decide), fun p8 m8 => ⟨_, rfl, p8, p5, _, _, rfl, rfl, SqT.of upd_same, SqT.of (same_new m8 _ _ hp7), (fun z => nomatch z), (by show 3 ≤ sizeLine; decide), (fun z => nomatch z), fun _ p9 m9 => ?_⟩⟩
        refine ⟨_, rfl, b, L, rfl, (B7.new m8).new m9, fun x9 H9 _ B9 k9 => ⟨_, rfl, _, _, rfl, rfl, _, _, rfl, rfl, (by show (0 : Int) < (xs.length : Int) + 1; omega), (by show 1 ≤ sizeLine; decide), fun p10 m10 => ?_⟩⟩
        have h9 := k9 p9 (.tup ([V.str wd] ++ [V.int i, y])) upd_same ((B7.new m8).ne m9)
        refine ⟨p9, p10, _, _, rfl, rfl, SqT.of (same_new m10 _ _ h9), SqT.of upd_same, (fun z => nomatch z), (by show 4 ≤ sizeLine; decide), (fun z => nomatch z), fun _ p11 m11 => ?_⟩
        refine fin _ _ _ ?_ (B9.new m10) ((((k7.new m8).new m9).trans k9).new m10) m11
        rw [e]
        rw [e] at hy
        exact .mk [.pt, .pt, .plc] (by decide +kernel) (.cons (fi i) (.cons (hy.toPt (by decide +kernel)) (.cons ⟨_, rfl, Int.emod_nonneg _ (by omega)⟩ .nil)))
      have n6 : ¬ wd = "kth" := fun z => e6 (decide_eq_true (congrArg V.str z))
      -- the rest
      refine ⟨_, rfl, (by show 1 ≤ sizeLine; decide), fun p8 m8 => ⟨_, rfl, p8, p5, _, _, rfl, rfl, SqT.of upd_same, SqT.of (same_new m8 _ _ hp7), (fun z => nomatch z), (by show 3 ≤ sizeLine; decide), (fun z => nomatch z), fun _ p9 m9 => ?_⟩⟩
      refine ⟨_, rfl, rfl, _, rfl, ite2 (fun e7 => ?_) (fun e7 => ?_)⟩
      · have e : wd = "meet" := V.str.inj (of_decide_eq_true e7)
        refine ⟨_, rfl, _, rfl, b, L, _, rfl, (B7.new m8).new m9, by omega, by omega, fun x9 H9 _ _ B9 k9 => ⟨(by show 1 ≤ sizeLine; decide), fun p10 m10 => ?_⟩⟩
        have h9 := k9 p9 (.tup ([V.str wd] ++ [V.int i, y])) upd_same ((B7.new m8).ne m9)
        refine ⟨p9, p10, _, _, rfl, rfl, SqT.of (same_new m10 _ _ h9), SqT.of upd_same, (fun z => nomatch z), (by show 4 ≤ sizeLine; decide), (fun z => nomatch z), fun _ p11 m11 => ?_⟩
        refine fin _ _ _ ?_ (B9.new m10) ((((k7.new m8).new m9).trans k9).new m10) m11
        rw [e]
        rw [e] at hy
        exact .mk [.pt, .pt, .pt] (by decide +kernel) (.cons (fi i) (.cons (hy.toPt (by decide +kernel)) (.cons (fi x9) .nil)))
      · have n7 : ¬ wd = "meet" := fun z => e7 (decide_eq_true (congrArg V.str z))
        refine ⟨Nat.zero_le _, fun p10 m10 => ?_⟩
        refine ⟨p9, p10, _, _, rfl, rfl, SqT.of (same_new m10 _ _ upd_same), SqT.of upd_same, (fun z => nomatch z), (by show 3 ≤ sizeLine; decide), fun _ => ?_, (fun z => absurd rfl z)⟩
        have nn := B7.new (o := .tup [V.str wd]) m8
        refine q p9 wd _ _ hwd (mem_rest hev n1 n2 n3 n4 n5 n6 n7 hy) ((nn.new m9).new m10) (k1.trans (((k7.new m8).new m9).new m10)) (nn.back (k1.trans (k7.new m8)) m9) (same_new m10 _ _ upd_same)
end

end My
namespace My
open PySem L2
section
variable {P : Program} {w : World} {K : PySem.W.Frag} {mg : Str → Option Value} {base : Heap}
def spWhole : Sp := fun vs H Q _ => ∃ v, vs = [v] ∧ AnyV H v ∧ Q (.bl (wholeB v)) H
def spKind : Sp := fun vs H Q _ => ∃ v, vs = [v] ∧ AnyV H v ∧ Q (.bl (kindB v)) H
def spFits : Sp := fun vs H Q _ => ∃ v sl, vs = [v, .str (slT sl)] ∧ AnyV H v ∧ Q (.bl (fitB sl v)) H
theorem ok_whole (T : Top w K mg) : FnOk P w K mg base CX0 1 T.a_iswhole T.d_iswhole ["thing"] spWhole := by
  refine T.F_iswhole.ok sc_iswhole (fun vs H Q E h => ?_) (fun cdv A outer s H vs Q E hr h => ?_)
  · obtain ⟨v, rfl, _⟩ := h
    rfl
  · obtain ⟨v, rfl, hv, q⟩ := h
    refine ⟨_, (pss_one (ps_ret (pe_and (pe_callB call_isi (by rfl) T.m_isinstance (by decide +kernel) (pa_cons (pv 0) (pa_cons (pe_bltn (v := .ty "int") (by rfl) T.m_int (by decide +kernel) rfl) pa_nil))) (pe_one (pe_not (pe_callB call_isi (by rfl) T.m_isinstance (by decide +kernel) (pa_cons (pv 0) (pa_cons (pe_bltn (v := .ty "bool") (by rfl) T.m_bool (by decide +kernel) rfl) pa_nil)))))))), ?_⟩
    obtain ⟨t, ty, kt⟩ := int_ok (K := K) hv
    refine ⟨_, rfl, _, _, _, _, _, rfl, ClsV.ty _, ty, kt, _, rfl, ?_⟩
    obtain ⟨t2, ty2, kt2⟩ := bool_ok (K := K) hv
    have fin : isIntV v = true → ∀ b, b = isBoolV v → Q (.bl (!b)) H := fun e b eb => by
      have z : (!b) = wholeB v := by
        subst eb
        cases v <;> first | rfl | exact nomatch e
      rw [z]
      exact q
    refine ite2 (fun e => ?_) (fun e => ?_)
    · exact ⟨_, rfl, _, _, _, _, _, rfl, ClsV.ty _, ty2, kt2, _, rfl, fin e _ rfl⟩
    · have z : wholeB v = false := by
        cases v <;> first | rfl | exact absurd rfl e
      rw [z] at q
      exact q
theorem ok_kind (T : Top w K mg) : FnOk P w K mg base CX0 1 T.a_iskind T.d_iskind ["thing"] spKind := by
  refine T.F_iskind.ok sc_iskind (fun vs H Q E h => ?_) (fun cdv A outer s H vs Q E hr h => ?_)
  · obtain ⟨v, rfl, _⟩ := h
    rfl
  · obtain ⟨v, rfl, hv, q⟩ := h
    refine ⟨_, (pss_one (ps_ret (pe_and (pe_callB call_isi (by rfl) T.m_isinstance (by decide +kernel) (pa_cons (pv 0) (pa_cons (pe_bltn (v := .ty "str") (by rfl) T.m_str (by decide +kernel) rfl) pa_nil))) (pe_one (pe_cmpR op_in_seq (pv 0) (pe_glob (v := .ref T.aK) (by rfl) T.v_KINDS rfl) (by rfl)))))), ?_⟩
    obtain ⟨t, ty, kt⟩ := str_ok (K := K) hv
    refine ⟨_, rfl, _, _, _, _, _, rfl, ClsV.ty _, ty, kt, _, rfl, ite2 (fun e => ?_) (fun e => ?_)⟩
    · cases v with
      | str z =>
        refine ⟨_, rfl, T.aK, _, rfl, .inr (tupB_ok T.tK H), rfl, flat_strs kinds, ?_⟩
        rw [inV_str]
        exact q
      | _ => exact nomatch e
    · have z : kindB v = false := by
        cases v <;> first | rfl | exact absurd rfl e
      rw [z] at q
      exact q
theorem ok_fits (T : Top w K mg) : FnOk P w K mg base CX0 2 T.a_fits T.d_fits ["part", "wanted"] spFits := by
  have G_iskind : FnOk P w K mg base CX0 1 _ _ _ _ := ok_kind T
  have G_iswhole : FnOk P w K mg base CX0 1 _ _ _ _ := ok_whole T
  refine T.F_fits.ok sc_fits (fun vs H Q E h => ?_) (fun cdv A outer s H vs Q E hr h => ?_)
  · obtain ⟨v, sl, rfl, _⟩ := h
    rfl
  · obtain ⟨v, sl, rfl, hv, q⟩ := h
    refine ⟨_, (pss_cons (ps_if (pt_cmpR op_eq (pv 1) pe_str (nomark _)) (pss_one (ps_ret (pe_call G_iskind hr (by rfl) T.g_iskind T.F_iskind.kp T.b_iskind .nil pass0 (pa_cons (pv 0) pa_nil)))) pss_nil)
      (pss_cons (ps_if (PW.pt (pw_and (pt_cmpR op_eq (pv 1) pe_str (nomark _)) (pw_and1 (pt_cmpR op_isN (pv 0) pe_non (nomark _))))) (pss_one (ps_ret pe_bl)) pss_nil)
      (pss_cons (ps_if (pt_cmpR op_eq (pv 1) pe_str (nomark _)) (pss_one (ps_ret (pe_and (pe_call G_iswhole hr (by rfl) T.g_iswhole T.F_iswhole.kp T.b_iswhole .nil pass0 (pa_cons (pv 0) pa_nil)) (pe_one (pe_cmpR op_ge (pv 0) pe_int (nomark _)))))) pss_nil)
      (pss_one (ps_ret (pe_call G_iswhole hr (by rfl) T.g_iswhole T.F_iswhole.kp T.b_iswhole .nil pass0 (pa_cons (pv 0) pa_nil))))))), ?_⟩
    have wh : ∀ Q1 : VK, Q1 (.bl (wholeB v)) H → spWhole [v] H Q1 (fun _ _ _ => False) := fun Q1 z => ⟨v, rfl, hv, z⟩
    -- kind
    refine ⟨_, rfl, rfl, _, rfl, ite2 (fun e => ?_) (fun e1 => ?_)⟩
    · have es : slT sl = "kind" := V.str.inj (of_decide_eq_true e)
      have el : sl = .knd := by
        cases sl <;> first | rfl | exact absurd es (by decide +kernel)
      subst el
      exact ⟨_, rfl, v, rfl, hv, q⟩
    have n1 : sl ≠ .knd := fun z => e1 (by subst z; decide +kernel)
    -- other
    refine ⟨_, rfl, rfl, _, rfl, ite2 (fun e => ?_) (fun e2 => ?_)⟩
    · have es : slT sl = "other" := V.str.inj (of_decide_eq_true e)
      have el : sl = .oth := by
        cases sl <;> first | rfl | exact absurd es (by decide +kernel)
      subst el
      refine ⟨_, rfl, rfl, _, rfl, ite2 (fun e3 => ?_) (fun e3 => ?_)⟩
      · have ev : v = .non := of_decide_eq_true e3
        have z : fitB .oth v = true := by
          rw [ev]
          rfl
        rw [z] at q
        exact q
      · have z : fitB .oth v = wholeB v := by
          show (decide (v = .non) || wholeB v) = wholeB v
          rw [Bool.eq_false_iff.mpr e3, Bool.false_or]
        rw [z] at q
        refine ⟨_, rfl, rfl, _, rfl, ite2 (fun e => absurd (V.str.inj (of_decide_eq_true e)) (by decide +kernel)) (fun _ => ?_)⟩
        exact ⟨_, rfl, v, rfl, hv, q⟩
    have n2 : sl ≠ .oth := fun z => e2 (by subst z; decide +kernel)
    refine iteF ?_
    -- place
    refine ⟨_, rfl, rfl, _, rfl, ite2 (fun e => ?_) (fun e3 => ?_)⟩
    · have es : slT sl = "place" := V.str.inj (of_decide_eq_true e)
      have el : sl = .plc := by
        cases sl <;> first | rfl | exact absurd es (by decide +kernel)
      subst el
      refine ⟨_, rfl, v, rfl, hv, _, rfl, ite2 (fun e4 => ?_) (fun e4 => ?_)⟩
      · cases v with
        | int i => exact ⟨_, rfl, _, _, rfl, rfl, q⟩
        | _ => exact nomatch e4
      · have z : fitB .plc v = false := by
          cases v <;> first | rfl | exact absurd rfl e4
        rw [z] at q
        exact q
    have n3 : sl ≠ .plc := fun z => e3 (by subst z; decide +kernel)
    have z : fitB sl v = wholeB v := by
      cases sl <;> first | rfl | exact absurd rfl n1 | exact absurd rfl n2 | exact absurd rfl n3
    rw [z] at q
    exact ⟨_, rfl, v, rfl, hv, q⟩
theorem tabg_same {H H' : Hp} {P : Addr} (s : Same H H') (g : GxR.TabG H P) : GxR.TabG H' P := by
  obtain ⟨ps, h, t⟩ := g
  exact ⟨ps, s _ _ h, t⟩
end

/-! ### the tables of code made on the way: what is no table stays -/
theorem But.of_same {P : Addr} {H H' : Hp} (s : Same H H') : But P H H' := fun a o e _ => s a o e
theorem But.of_tab {P : Addr} {H H' : Hp} (t : GxR.Tabbed P H H') : But P H H' := fun a o e n => (t.2 a n).trans e
theorem Kp.of_but {P : Addr} {H H' : Hp} (g : GxR.TabG H P) (k : But P H H') : Kp H H' := fun a o e n => by
  refine k a o e fun h => ?_
  subst h
  obtain ⟨ps, hp, _⟩ := g
  rw [hp] at e
  exact n ps (Option.some.inj e).symm
theorem TabG.ne {P a : Addr} {H : Hp} {o : HO} (g : GxR.TabG H P) (e : H a = some o) (n : ∀ ps, o ≠ .tbl ps) : a ≠ P := fun h => by
  subst h
  obtain ⟨ps, hp, _⟩ := g
  rw [hp] at e
  exact n ps (Option.some.inj e).symm
/-! ### tables kept -/
theorem tabg_but {H H' : Hp} {b L P : Addr} (B : BoxAt H b L) (k : But b H H') (g : GxR.TabG H P) : GxR.TabG H' P := by
  obtain ⟨ns, n, h1, _⟩ := B.ex
  obtain ⟨ps, hp, t⟩ := g
  exact ⟨ps, k _ _ hp (ne_of hp h1 (by intro z; cases z)), t⟩
theorem tabs_but {H H' : Hp} {b L P : Addr} {q : Str} (B : BoxAt H b L) (k : But b H H') (g : LamX.TabS H P q) : LamX.TabS H' P q := by
  obtain ⟨ns, n, h1, _⟩ := B.ex
  obtain ⟨ps, hp, t, e⟩ := g
  refine ⟨ps, k _ _ hp (ne_of hp h1 (by intro z; cases z)), t, fun pos cv hc => ?_⟩
  obtain ⟨c, e1, e2⟩ := e pos cv hc
  exact ⟨c, e1, k _ _ e2 (ne_of e2 h1 (by intro z; cases z))⟩
theorem tabs_same {H H' : Hp} {P : Addr} {q : Str} (s : Same H H') (g : LamX.TabS H P q) : LamX.TabS H' P q := g.ext s
/-- the other table's writing -/
theorem tabs_other {H H' : Hp} {P R : Addr} {q : Str} (n : P ≠ R) (gR : GxR.TabG H R) (k : But R H H') (g : LamX.TabS H P q) : LamX.TabS H' P q := by
  obtain ⟨ps, hp, t, e⟩ := g
  refine ⟨ps, k _ _ hp n, t, fun pos cv hc => ?_⟩
  obtain ⟨c, e1, e2⟩ := e pos cv hc
  exact ⟨c, e1, k _ _ e2 (TabG.ne gR e2 LamX.codeO_ne)⟩
theorem tabg_other {H H' : Hp} {P R : Addr} (n : R ≠ P) (k : But P H H') (g : GxR.TabG H R) : GxR.TabG H' R := by
  obtain ⟨ps, hp, t⟩ := g
  exact ⟨ps, k _ _ hp n, t⟩
theorem BoxAt.tab {H H' : Hp} {b L P : Addr} (B : BoxAt H b L) (g : GxR.TabG H P) (k : But P H H') : BoxAt H' b L := by
  obtain ⟨ns, n, h1, h2, r⟩ := B.ex
  exact ⟨ns, n, k _ _ h1 (TabG.ne g h1 (by intro ps z; cases z)), k _ _ h2 (TabG.ne g h2 (by intro ps z; cases z)), r⟩
theorem TabS.g {H : Hp} {P : Addr} {q : Str} (g : LamX.TabS H P q) : GxR.TabG H P := by
  obtain ⟨ps, hp, t, _⟩ := g
  exact ⟨ps, hp, t⟩
theorem Tups.of_tab {K : PySem.W.Frag} {H H' : Hp} {P : Addr} (g : GxR.TabG H P) (k : But P H H') : Tups K H H' := fun a xs h => by
  rcases h with h | h
  · rcases h with h | ⟨o, h⟩
    · exact .inl (.inl (k _ _ h (TabG.ne g h (by intro ps z; cases z))))
    · exact .inl (.inr ⟨o, k _ _ h (TabG.ne g h (by intro ps z; cases z))⟩)
  · exact .inr h

theorem Tups.of_kp {K : PySem.W.Frag} {H H' : Hp} (k : Kp H H') : Tups K H H' := fun a xs h => by
  rcases h with h | h
  · rcases h with h | ⟨o, h⟩
    · exact .inl (.inl (k _ _ h (by intro ps z; cases z)))
    · exact .inl (.inr ⟨o, k _ _ h (by intro ps z; cases z)⟩)
  · exact .inr h
theorem Kp.same {H H1 H2 : Hp} (k : Kp H H1) (s : Same H1 H2) : Kp H H2 := k.trans (Kp.of_same s)
theorem BoxAt.kp {H H' : Hp} {b L : Addr} (B : BoxAt H b L) (k : Kp H H') : BoxAt H' b L := by
  obtain ⟨ns, n, h1, h2, r⟩ := B.ex
  exact ⟨ns, n, k _ _ h1 (by intro ps z; cases z), k _ _ h2 (by intro ps z; cases z), r⟩
/-- each table as it has to be: of generators (none), of lambdas that stand in one def (its name) -/
def Tb (ts : List (Addr × Option Str)) (H : Hp) : Prop := ∀ t ∈ ts, match t.2 with | none => GxR.TabG H t.1 | some q => LamX.TabS H t.1 q
section
variable {ts : List (Addr × Option Str)} {H H' : Hp}
theorem Tb.g {P : Addr} (h : Tb ts H) (m : (P, none) ∈ ts) : GxR.TabG H P := h _ m
theorem Tb.s {P : Addr} {q : Str} (h : Tb ts H) (m : (P, some q) ∈ ts) : LamX.TabS H P q := h _ m
theorem Tb.mk (h : ∀ P, (P, none) ∈ ts → GxR.TabG H P) (k : ∀ P q, (P, some q) ∈ ts → LamX.TabS H P q) : Tb ts H := fun t m => by
  obtain ⟨P, o⟩ := t
  cases o with
  | none => exact h P m
  | some q => exact k P q m
theorem Tb.same (h : Tb ts H) (s : Same H H') : Tb ts H' := .mk (fun P m => tabg_same s (h.g m)) (fun P q m => tabs_same s (h.s m))
theorem Tb.but {b L : Addr} (h : Tb ts H) (B : BoxAt H b L) (k : But b H H') : Tb ts H' := .mk (fun P m => tabg_but B k (h.g m)) (fun P q m => tabs_but B k (h.s m))
theorem nd_fst : ∀ {ts : List (Addr × Option Str)}, (ts.map (·.1)).Nodup → ∀ {x y : Addr × Option Str}, x ∈ ts → y ∈ ts → x.1 = y.1 → x = y
  | [], _, _, _, hx, _, _ => nomatch hx
  | t :: r, nd, x, y, hx, hy, e => by
    rw [List.map_cons, List.nodup_cons] at nd
    rcases List.mem_cons.mp hx with e1 | h1
    · rcases List.mem_cons.mp hy with e2 | h2
      · rw [e1, e2]
      · exact absurd (List.mem_map.mpr ⟨y, h2, by rw [← e, e1]⟩) nd.1
    · rcases List.mem_cons.mp hy with e2 | h2
      · exact absurd (List.mem_map.mpr ⟨x, h1, by rw [e, e2]⟩) nd.1
      · exact nd_fst nd.2 h1 h2 e
/-- one of generators was written -/
theorem Tb.tab {P : Addr} (h : Tb ts H) (nd : (ts.map (·.1)).Nodup) (m : (P, none) ∈ ts) (k : But P H H') (g : GxR.TabG H' P) : Tb ts H' := by
  refine .mk (fun R mR => ?_) (fun R q mR => ?_)
  · by_cases e : R = P
    · subst e
      exact g
    · exact tabg_other e k (h.g mR)
  · refine tabs_other (fun e => ?_) (h.g m) k (h.s mR)
    subst e
    cases nd_fst nd m mR rfl
/-- one of lambdas was written -/
theorem Tb.lam {P : Addr} {q : Str} (h : Tb ts H) (nd : (ts.map (·.1)).Nodup) (m : (P, some q) ∈ ts) (k : But P H H') (g : LamX.TabS H' P q) : Tb ts H' := by
  refine .mk (fun R mR => ?_) (fun R q2 mR => ?_)
  · refine tabg_other (fun e => ?_) k (h.g mR)
    subst e
    cases nd_fst nd m mR rfl
  · by_cases e : R = P
    · subst e
      cases nd_fst nd m mR rfl
      exact g
    · exact tabs_other e (TabS.g (h.s m)) k (h.s mR)
end

abbrev qLam : Str := ("_law_asked_right" : Str) ++ ".<locals>." ++ "<lambda>"
abbrev qOw : Str := ("_law_of_way" : Str) ++ ".<locals>." ++ "<lambda>"
section
variable {w : World} {K : PySem.W.Frag} {mg : Str → Option Value}
def Top.tbs (T : Top w K mg) : List (Addr × Option Str) := [(T.PR, none), (T.PM, none), (T.PL, some qLam), (T.PO, some qOw)]
theorem Top.mR (T : Top w K mg) : (T.PR, none) ∈ T.tbs := List.mem_cons_self
theorem Top.mM (T : Top w K mg) : (T.PM, none) ∈ T.tbs := List.mem_cons_of_mem _ List.mem_cons_self
theorem Top.mL (T : Top w K mg) : (T.PL, some qLam) ∈ T.tbs := List.mem_cons_of_mem _ (List.mem_cons_of_mem _ List.mem_cons_self)
theorem Top.mO (T : Top w K mg) : (T.PO, some qOw) ∈ T.tbs := List.mem_cons_of_mem _ (List.mem_cons_of_mem _ (List.mem_cons_of_mem _ List.mem_cons_self))
theorem Top.nd (T : Top w K mg) : (T.tbs.map (·.1)).Nodup := T.neP
structure TBs (T : Top w K mg) (base : Heap) : Prop where
  R : GxR.TabB base mg T.cR T.PR
  M : GxR.TabB base mg T.cM T.PM
theorem tbs0 (T : Top w K mg) {H : Hp} (hR : H T.PR = some (.tbl #[])) (hM : H T.PM = some (.tbl #[])) (hL : H T.PL = some (.tbl #[])) (hO : H T.PO = some (.tbl #[])) : Tb T.tbs H := by
  intro t m
  rcases List.mem_cons.mp m with rfl | m
  · exact ⟨#[], hR, True.intro⟩
  rcases List.mem_cons.mp m with rfl | m
  · exact ⟨#[], hM, True.intro⟩
  rcases List.mem_cons.mp m with rfl | m
  · exact LamX.TabS.nil hL
  · rw [List.mem_singleton.mp m]
    exact LamX.TabS.nil hO
end

/-! ### is_row, all but its table as it was -/
/-- anything but a tuple -/
inductive NoTup (H : Hp) : V → Prop
  | non : NoTup H .non
  | bl (b : Bool) : NoTup H (.bl b)
  | int (i : Int) : NoTup H (.int i)
  | str (x : Str) : NoTup H (.str x)
  | lst {a : Addr} {xs : List V} (h : H a = some (.lst xs)) : NoTup H (.ref a)
  | dK {a : Addr} {kvs : List (Key × V)} (h : H a = some (.dK kvs)) : NoTup H (.ref a)
theorem NoTup.kp {H H' : Hp} (k : Kp H H') {v : V} (h : NoTup H v) : NoTup H' v := by
  cases h with
  | non => exact .non
  | bl b => exact .bl b
  | int i => exact .int i
  | str x => exact .str x
  | lst h => exact .lst (k _ _ h (by intro ps z; cases z))
  | dK h => exact .dK (k _ _ h (by intro ps z; cases z))
theorem notup_ok {K : PySem.W.Frag} {H : Hp} {v : V} (h : NoTup H v) : ∃ t, TyX K H v t ∧ PySem.W.kitOne K t (.type "tuple") = some false := by
  cases h with
  | non => exact ⟨_, .base .non, kit_ty (show kitB _ _ = some false by decide +kernel)⟩
  | bl b => exact ⟨_, .base (.bl b), kit_ty (show kitB _ _ = some false by decide +kernel)⟩
  | int i => exact ⟨_, .base (.int i), kit_ty (show kitB _ _ = some false by decide +kernel)⟩
  | str x => exact ⟨_, .base (.str x), kit_ty (show kitB _ _ = some false by decide +kernel)⟩
  | lst h => exact ⟨_, .base (.lst h), kit_ty (show kitB _ _ = some false by decide +kernel)⟩
  | dK h => exact ⟨_, .base (.dK h), kit_ty (show kitB _ _ = some false by decide +kernel)⟩
def ThingV (H : Hp) (v : V) (b : Bool) : Prop := (∃ (a : Addr) (xs : List V), v = .ref a ∧ xs.length ≤ 1000 ∧ H a = some (.tup xs) ∧ (∀ x ∈ xs, AnyV H x) ∧ b = rowB xs) ∨ (NoTup H v ∧ b = false)
def spIsRow (tb : List (Addr × Option Str)) : Sp := fun vs H Q _ => ∃ (v : V) (b : Bool), vs = [v] ∧ Tb tb H ∧ ThingV H v b ∧ ∀ H', Kp H H' → Tb tb H' → Q (.bl b) H'
section
variable {P : Program} {w : World} {K : PySem.W.Frag} {mg : Str → Option Value} {base : Heap}
theorem ok_isrow (T : Top w K mg) (TBs : TBs T base) : FnOk P w K mg base CX0 4 T.a_isrow T.d_isrow ["thing"] (spIsRow T.tbs) := by
  have TB := TBs.R
  have G_fits : FnOk P w K mg base CX0 2 _ _ _ _ := ok_fits T
  have D : KDict K w T.aF T.esF T.nF := ⟨T.lF, T.kF, T.oF⟩
  refine okC T.F_isrow T.hcR sc_isrow (fun vs H Q E h => ?_) (fun A outer s H vs Q E hr h => ?_)
  · obtain ⟨v, b, rfl, _⟩ := h
    rfl
  · obtain ⟨v, b, rfl, tbs, hx, q0⟩ := h
    have tg : GxR.TabG H T.PR := tbs.g T.mR
    have q : ∀ H', But T.PR H H' → GxR.TabG H' T.PR → Q (.bl b) H' := fun H' k g => q0 H' (Kp.of_but tg k) (tbs.tab T.nd T.mR k g)
    refine ⟨_, (pss_cons (ps_if (PW.pt (pw_or (pt_not (pt_val (pe_callB call_isi (by rfl) T.m_isinstance (by decide +kernel) (pa_cons (pv 0) (pa_cons (pe_bltn (v := .ty "tuple") (by rfl) T.m_tuple (by decide +kernel) rfl) pa_nil))))) (pw_or (pt_cmpR op_eq (pe_callB call_len_seq (by rfl) T.m_len PySem.boot_len (pa_cons (pv 0) pa_nil)) pe_int (nomark _)) (pw_or1 (pt_not (pt_val (pe_callB call_isi (by rfl) T.m_isinstance (by decide +kernel) (pa_cons (pe_ix ix_tup (pv 0) pe_int (fun _ _ => rfl)) (pa_cons (pe_bltn (v := .ty "str") (by rfl) T.m_str (by decide +kernel) rfl) pa_nil))))))))) (pss_one (ps_ret pe_bl)) pss_nil)
      (pss_cons (ps_if (pt_cmpR (op_notIn_kd D) (pe_ix ix_tup (pv 0) pe_int (fun _ _ => rfl)) (pe_glob (v := .ref T.aF) (by rfl) T.v_FORMS rfl) (by rfl)) (pss_one (ps_ret pe_bl)) pss_nil)
      (pss_cons (ps_set (i := 1) sc_isrow.nd rfl (.inl rfl) (pe_ix ix_kdict (pe_glob (v := .ref T.aF) (by rfl) T.v_FORMS rfl) (pe_ix ix_tup (pv 0) pe_int (fun _ _ => rfl)) (fun _ _ => rfl)))
      (pss_cons (ps_set (i := 2) sc_isrow.nd rfl (.inl rfl) (pe_slice sl_tup (pv 0) (po_some pe_int) po_none))
      (pss_one (ps_ret (pe_and (pe_cmpR op_eq (pe_callB call_len_seq (by rfl) T.m_len PySem.boot_len (pa_cons (pv 2) pa_nil)) (pe_callB call_len_seq (by rfl) T.m_len PySem.boot_len (pa_cons (pv 1) pa_nil)) (nomark _)) (pe_one (pe_allG (own := [("part", 3), ("wanted", 4)]) hr rfl sc_isrow.nd (by rfl) T.m_all (by decide +kernel) TB rfl (blkOk_by (own := [("part", 3), ("wanted", 4)]) (N := ["thing", "form", "parts", "part", "wanted"]) (sc := defScope s_isrow) (by decide +kernel)) (by rfl) (by decide +kernel) (by rfl) (RZ.pi_zipA (by rfl) T.m_zip (pa_cons (pv 2) (pa_cons (pv 1) pa_nil))) (fun _ _ _ _ _ _ _ => (pg_tupK (K := K) (n := 2) rfl rfl (pgs_cons (pg_name (i := 3) sc_isrow.nd rfl (.inl rfl) (hf := Or.inr rfl)) (pgs_cons (pg_name (i := 4) sc_isrow.nd rfl (.inl rfl) (hf := Or.inr rfl)) pgs_nil)) rfl)) (fun _ _ _ _ _ _ _ hr' => (pe_call G_fits hr' (by rfl) T.g_fits T.F_fits.kp T.b_fits .nil pass0 (pa_cons (pv 3) (pa_cons (pv 4) pa_nil))))))))))))), ?_⟩
    rcases hx with ⟨a, xs, rfl, hlen, ha, hany, rfl⟩ | ⟨nt, rfl⟩
    · refine ⟨_, rfl, _, _, _, _, true, rfl, ClsV.ty _, .base (.tup ha), kit_ty (by decide +kernel), _, rfl, iteF ?_⟩
      have no : rowB xs = false → Q (.bl false) H := fun z => by
        rw [z] at q
        exact q H .refl tg
      cases xs with
      | nil =>
        refine ⟨_, rfl, a, _, rfl, .inr (SqT.of ha), rfl, _, rfl, iteT ?_⟩
        exact iteT (no rfl)
      | cons x ps =>
        refine ⟨_, rfl, a, _, rfl, .inr (SqT.of ha), rfl, _, rfl, ?_⟩
        refine ite2 (fun e => ?_) (fun _ => ?_)
        · have z : ((x :: ps).length : Int) = 0 := V.int.inj (of_decide_eq_true e)
          rw [List.length_cons] at z
          omega
        · obtain ⟨t, ty, kt⟩ := str_ok (K := K) (hany x List.mem_cons_self)
          refine ⟨_, rfl, a, _, _, _, rfl, rfl, SqT.of ha, atI_nat (j := 0) rfl, _, _, _, _, _, rfl, ClsV.ty _, ty, kt, _, rfl, ?_⟩
          cases x with
          | str z =>
            refine iteF ?_
            have ns := formB_get T.lF T.fF z
            rw [formsT_lookup] at ns
            cases ef : forms.lookup z with
            | none =>
              rw [ef] at ns
              refine ⟨_, rfl, a, _, _, _, rfl, rfl, SqT.of ha, atI_nat (j := 0) rfl, z, none, rfl, rfl, ns, _, rfl, iteT ?_⟩
              refine no ?_
              show (match forms.lookup z with | some sl => fitsB sl ps | none => false) = false
              rw [ef]
            | some sl =>
              rw [ef] at ns
              obtain ⟨fa, hns, htb⟩ := ns
              have hform : SqT K H fa ((sl.map slT).map V.str) := tupB_ok htb H
              refine ⟨_, rfl, a, _, _, _, rfl, rfl, SqT.of ha, atI_nat (j := 0) rfl, z, some (.ref fa), rfl, rfl, hns, _, rfl, iteF ?_⟩
              refine ⟨_, rfl, a, _, _, _, rfl, rfl, SqT.of ha, atI_nat (j := 0) rfl, T.aF, z, .ref fa, rfl, rfl, ⟨T.esF, T.nF, _, T.lF, T.kF, hns, rfl⟩, ?_⟩
              refine ⟨_, rfl, 1, rfl, a, _, rfl, SqT.of ha, ?_, fun pp np => ?_⟩
              · rintro ⟨z1, _⟩
                have e1 : HT.sIx (V.str z :: ps).length 0 (some 1) = 1 := by
                  rw [show (1 : Int) = ((1 : Nat) : Int) from rfl, HT.sIx_nat, List.length_cons]
                  omega
                rw [e1] at z1
                exact nomatch z1
              · have ec : cutV (V.str z :: ps) (some 1) none = ps := cut_tail _ _
                have s1 : Same H (upd H pp (.tup (cutV (V.str z :: ps) (some 1) none))) := same_new np
                rw [ec] at s1 ⊢
                have hp1 : upd H pp (.tup ps) pp = some (.tup ps) := upd_same
                generalize upd H pp (.tup ps) = H1 at s1 hp1 ⊢
                have hform1 : SqT K H1 fa ((sl.map slT).map V.str) := tupB_ok htb H1
                have tg1 : GxR.TabG H1 T.PR := (tabg_same s1 tg)
                have rb : rowB (.str z :: ps) = fitsB sl ps := by
                  show (match forms.lookup z with | some sl => fitsB sl ps | none => false) = _
                  rw [ef]
                refine ⟨_, rfl, pp, _, rfl, .inr (SqT.of hp1), _, rfl, fa, _, rfl, .inr hform1, rfl, _, rfl, ite2 (fun e => ?_) (fun e => ?_)⟩
                · have el : ps.length = sl.length := by
                    have z1 := V.int.inj (of_decide_eq_true e)
                    rw [List.length_map, List.length_map] at z1
                    omega
                  refine ⟨_, rfl, _, rfl, pp, fa, _, _, rfl, .inr ⟨SqT.of hp1, hform1, tg1, fun H2 tb => ?_⟩⟩
                  have k2 : But T.PR H H2 := (But.of_same s1).trans (But.of_tab tb)
                  refine gturns_zipT (by rw [List.length_map, List.length_map]; exact el) (fun i H' => But T.PR H H' ∧ H' pp = some (.tup ps) ∧ GxR.TabG H' T.PR ∧ fitsB sl ps = fitsB (sl.drop i) (ps.drop i)) ⟨k2, But.of_tab tb _ _ hp1 (TabG.ne tg1 hp1 (by intro ps z; cases z)), tb.1, rfl⟩ (fun i H' h => ⟨SqT.of h.2.1, tupB_ok htb H'⟩) (fun i x y t H' N hx hy h ht k => ?_) (fun H' h => ?_)
                  · obtain ⟨k0, hp0, tg0, e0⟩ := h
                    rw [List.map_map, List.getElem?_map] at hy
                    obtain ⟨si, hsi, rfl⟩ := Option.map_eq_some_iff.mp hy
                    have st : Same H' (upd H' t (.tup [x, .str (slT si)])) := same_new ht
                    have ht1 : upd H' t (.tup [x, .str (slT si)]) t = some (.tup [x, .str (slT si)]) := upd_same
                    have es : sl.drop i = si :: sl.drop (i + 1) := drop_at hsi
                    have ep : ps.drop i = x :: ps.drop (i + 1) := drop_at hx
                    have ef2 : fitsB sl ps = (fitB si x && fitsB (sl.drop (i + 1)) (ps.drop (i + 1))) := by
                      rw [e0, es, ep]
                      rfl
                    have ax : AnyV (upd H' t (.tup [x, .str (slT si)])) x := (hany x (List.mem_cons_of_mem _ (List.mem_of_getElem? hx))).kp (Kp.of_but tg (k0.same st))
                    refine ⟨t, _, rfl, SqT.of ht1, rfl, _, _, rfl, _, _, rfl, rfl, rfl, _, rfl, _, rfl, x, si, rfl, ax, _, rfl, ite2 (fun eb => ?_) (fun eb => ?_)⟩
                    · refine k _ ⟨k0.same st, st _ _ hp0, tabg_same st tg0, ?_⟩
                      rw [ef2, eb, Bool.true_and]
                    · have z1 : rowB (.str z :: ps) = false := by
                        rw [rb, ef2, Bool.eq_false_iff.mpr eb, Bool.false_and]
                      rw [z1] at q
                      exact q _ (k0.same st) (tabg_same st tg0)
                  · obtain ⟨k0, hp0, tg0, e0⟩ := h
                    have z1 : rowB (.str z :: ps) = true := by
                      rw [rb, e0, List.drop_of_length_le (Nat.le_refl _), List.drop_of_length_le (by omega)]
                      rfl
                    rw [z1] at q
                    exact q _ k0 tg0
                · have z1 : rowB (.str z :: ps) = false := by
                    rw [rb]
                    refine fits_len fun z1 => e ?_
                    rw [List.length_map, List.length_map, z1]
                    exact decide_eq_true rfl
                  rw [z1] at q
                  exact q _ (But.of_same s1) tg1
          | _ => exact iteT (no rfl)
    · obtain ⟨t, ty, kt⟩ := notup_ok (K := K) nt
      refine ⟨_, rfl, _, _, _, _, false, rfl, ClsV.ty _, ty, kt, _, rfl, iteT ?_⟩
      refine iteT ?_
      exact q H .refl tg
end

end My
namespace My
open PySem L2
/-! ### points_named -/
theorem walk_zipT {K : PySem.W.Frag} {a b : Addr} {xs ys : List V} {n : Nat} (hn : n = min xs.length ys.length) : L2.Walk (RZ.ItzT K a b) n (fun H => SqT K H a xs ∧ SqT K H b ys) (YPair (fun i => xs[i]?) (fun i => ys[i]?)) := by
  subst hn
  refine ⟨fun i H hi q => ?_, fun H q => ?_, fun i H v H' hi q y => ?_⟩
  · have h1 : i < xs.length := by omega
    have h2 : i < ys.length := by omega
    exact ⟨xs, ys, xs[i], ys[i], q.1, q.2, List.getElem?_eq_getElem h1, List.getElem?_eq_getElem h2⟩
  · refine ⟨xs, ys, q.1, q.2, ?_⟩
    by_cases h : xs.length ≤ ys.length
    · exact .inl (by omega)
    · exact .inr (by omega)
  · obtain ⟨tp, a1, a2, rfl, free, rfl, w1, w2⟩ := y
    exact ⟨tp, a1, a2, rfl, free, rfl, w1 xs q.1, w2 ys q.2⟩
def isPt : Sl → Bool
  | .pt => true
  | .oth => true
  | _ => false
def pick1 : List Sl → List V → List V
  | s :: ss, v :: vs => if isPt s = true then v :: pick1 ss vs else pick1 ss vs
  | _, _ => []
theorem pick1_append : ∀ {a c : List Sl} {b d : List V}, a.length = b.length → pick1 (a ++ c) (b ++ d) = pick1 a b ++ pick1 c d
  | [], _, [], _, _ => rfl
  | [], _, _ :: _, _, h => nomatch h
  | _ :: _, _, [], _, h => nomatch h
  | s :: ss, c, v :: vs, d, h => by
    have ih := pick1_append (a := ss) (c := c) (b := vs) (d := d) (Nat.succ.inj h)
    show (if isPt s = true then v :: pick1 (ss ++ c) (vs ++ d) else pick1 (ss ++ c) (vs ++ d)) = (if isPt s = true then v :: pick1 ss vs else pick1 ss vs) ++ pick1 c d
    rw [ih]
    cases isPt s <;> rfl
theorem take_at {α : Type} {xs : List α} {i : Nat} {x : α} (h : xs[i]? = some x) : xs.take (i + 1) = xs.take i ++ [x] := by
  rw [List.take_succ, h]
  rfl
theorem pick1_turn {sl : List Sl} {ps : List V} {i : Nat} {s : Sl} {x : V} (h1 : sl[i]? = some s) (h2 : ps[i]? = some x) : pick1 (sl.take (i + 1)) (ps.take (i + 1)) = pick1 (sl.take i) (ps.take i) ++ (if isPt s = true then [x] else []) := by
  have l1 := (List.getElem?_eq_some_iff.mp h1).1
  have l2 := (List.getElem?_eq_some_iff.mp h2).1
  rw [take_at h1, take_at h2, pick1_append (by rw [List.length_take, List.length_take]; omega)]
  rfl
theorem pick1_length : ∀ (a : List Sl) (b : List V), (pick1 a b).length ≤ b.length
  | [], b => Nat.zero_le _
  | _ :: _, [] => Nat.zero_le _
  | s :: ss, v :: vs => by
    have ih := pick1_length ss vs
    unfold pick1
    split
    · rw [List.length_cons, List.length_cons]
      omega
    · rw [List.length_cons]
      omega
def notN (v : V) : Bool := !decide (v = .non)
theorem filter_turn {α : Type} {xs : List α} {i : Nat} {x : α} (f : α → Bool) (h : xs[i]? = some x) : (xs.take (i + 1)).filter f = (xs.take i).filter f ++ (if f x = true then [x] else []) := by
  rw [take_at h, List.filter_append]
  congr 1
  rw [List.filter_cons, List.filter_nil]
theorem pt_in (s : Sl) : inV (.str (slT s)) [V.str "point", V.str "other"] = isPt s := by
  cases s <;> decide +kernel
/-- the numbers of points that stand in a row -/
def namedV (sl : List Sl) (ps : List V) : List V := (pick1 sl ps).filter notN
def spNamed : Sp := fun vs H Q _ => ∃ (a : Addr) (z : Str) (sl : List Sl) (ps : List V), vs = [.ref a] ∧ H a = some (.tup (.str z :: ps)) ∧ forms.lookup z = some sl ∧ ps.length = sl.length ∧ ps.length ≤ 1000 ∧
  ∀ (p : Addr) (H' : Hp), Same H H' → H p = none → H' p = some (.lst (namedV sl ps)) → Q (.ref p) H'
section
variable {P : Program} {w : World} {K : PySem.W.Frag} {mg : Str → Option Value} {base : Heap}
theorem ok_named (T : Top w K mg) : FnOk P w K mg base CX0 1 T.a_pointsnamed T.d_pointsnamed ["row"] spNamed := by
  have D : KDict K w T.aF T.esF T.nF := ⟨T.lF, T.kF, T.oF⟩
  refine T.F_pointsnamed.ok sc_pointsnamed (fun vs H Q E h => ?_) (fun cdv A outer s H vs Q E hr h => ?_)
  · obtain ⟨a, z, sl, ps, rfl, _⟩ := h
    rfl
  · obtain ⟨a, z, sl, ps, rfl, ha, ef, el, hlen, q⟩ := h
    refine ⟨_, (pss_cons (ps_setLc (i := 1) (own := [("part", 2), ("wanted", 3)]) (by rfl) sc_pointsnamed.nd rfl rfl (sw_true rfl rfl rfl (by decide +kernel)) (RZ.pi_zipA (by rfl) T.m_zip (pa_cons (pe_slice sl_tup (pv 0) (po_some pe_int) po_none) (pa_cons (pe_ix ix_kdict (pe_glob (v := .ref T.aF) (by rfl) T.v_FORMS rfl) (pe_ix ix_tup (pv 0) pe_int (fun _ _ => rfl)) (fun _ _ => rfl)) pa_nil))) (blkOk_by (own := [("part", 2), ("wanted", 3)]) (N := ["row", "named", "part", "wanted", "number"]) (sc := defScope s_pointsnamed) (by decide +kernel)) (fun _ _ _ _ _ => (pg_tupK (K := K) (n := 2) rfl rfl (pgs_cons (pg_name (i := 2) sc_pointsnamed.nd rfl (.inl rfl)) (pgs_cons (pg_name (i := 3) sc_pointsnamed.nd rfl (.inl rfl)) pgs_nil)) rfl)) (fun _ _ _ _ _ => (pts_one (pt_cmpR (op_in_seqK (K := K) rfl) (pv 3) (pe_tup (pa_cons pe_str (pa_cons pe_str pa_nil))) (by rfl)))) (fun _ _ _ _ _ => (pv 2)))
      (pss_one (ps_ret (pe_lc (own := [("number", 4)]) (g := gName 4) (by rfl) sc_pointsnamed.nd (pi_list (pv 1)) (blkOk_by (own := [("number", 4)]) (N := ["row", "named", "part", "wanted", "number"]) (sc := defScope s_pointsnamed) (by decide +kernel)) (fun _ _ _ _ _ => (pg_name (i := 4) sc_pointsnamed.nd rfl (.inl rfl))) (fun _ _ _ _ _ => (pts_one (pt_cmpR op_notN (pv 4) pe_non (nomark _)))) (fun _ _ _ _ _ => (pv 4)))))), ?_⟩
    refine ⟨_, rfl, 1, rfl, a, _, rfl, SqT.of ha, ?_, fun pp np => ?_⟩
    · rintro ⟨z1, _⟩
      have e1 : HT.sIx (V.str z :: ps).length 0 (some 1) = 1 := by
        rw [show (1 : Int) = ((1 : Nat) : Int) from rfl, HT.sIx_nat, List.length_cons]
        omega
      rw [e1] at z1
      exact nomatch z1
    · have ec : cutV (V.str z :: ps) (some 1) none = ps := cut_tail _ _
      have s1 : Same H (upd H pp (.tup (cutV (V.str z :: ps) (some 1) none))) := same_new np
      rw [ec] at s1 ⊢
      have hp1 : upd H pp (.tup ps) pp = some (.tup ps) := upd_same
      generalize upd H pp (.tup ps) = H1 at s1 hp1 ⊢
      have ns := formB_get T.lF T.fF z
      rw [formsT_lookup, ef] at ns
      obtain ⟨fa, hns, htb⟩ := ns
      refine ⟨_, rfl, a, _, _, _, rfl, rfl, SqT.of (s1 _ _ ha), atI_nat (j := 0) rfl, T.aF, z, .ref fa, rfl, rfl, ⟨T.esF, T.nF, _, T.lF, T.kF, hns, rfl⟩, ?_⟩
      refine ⟨pp, fa, _, _, rfl, .inr ⟨SqT.of hp1, tupB_ok htb H1, fun D1 nD1 => ?_⟩⟩
      refine lc_it (walk_zipT (n := ps.length) (by rw [List.length_map, List.length_map]; omega)) (fun i H' => Same H1 H' ∧ H' D1 = some (.lst (pick1 (sl.take i) (ps.take i)))) ⟨same_new nD1, upd_same⟩ (fun i H' hi hq => ⟨SqT.of (hq.1 _ _ hp1), tupB_ok htb H'⟩) (fun i x H' H'' hi hq y => ?_) (fun H' hq => ?_)
      · obtain ⟨s2, hD⟩ := hq
        obtain ⟨Tt, x0, y0, rfl, nT, rfl, hx, hy⟩ := y
        have hy : ((sl.map slT).map V.str)[i]? = some y0 := hy
        rw [List.map_map, List.getElem?_map] at hy
        obtain ⟨si, hsi, rfl⟩ := Option.map_eq_some_iff.mp hy
        have hx : ps[i]? = some x0 := hx
        have sT := same_new (o := .tup [x0, .str (slT si)]) nT
        refine ⟨Tt, _, rfl, SqT.of upd_same, rfl, _, _, rfl, _, _, rfl, rfl, rfl, _, rfl, (by show 2 ≤ sizeLine; decide), fun p2 np2 => ?_⟩
        have sp2 := same_new (o := .tup [.str "point", .str "other"]) np2
        refine ⟨p2, _, rfl, .inr (SqT.of upd_same), rfl, by decide, isPt si, congrArg V.bl (pt_in si), ?_⟩
        show if isPt si = true then _ else _
        have tn := pick1_turn hsi hx
        cases hb : isPt si with
        | true =>
          refine iteT ⟨_, rfl, _, sp2 _ _ (sT _ _ hD), ?_, ?_, ?_⟩
          · have := pick1_length (sl.take i) (ps.take i)
            rw [List.length_take] at this
            exact szl (by omega)
          · intro b o e
            rw [upd_ne (ne_of_none e nD1)]
            exact sp2 _ _ (sT _ _ (s2 _ _ e))
          · rw [upd_same, tn, hb, if_pos rfl]
        | false =>
          refine iteF ⟨fun b o e => sp2 _ _ (sT _ _ (s2 _ _ e)), ?_⟩
          rw [tn, hb, if_neg Bool.false_ne_true, List.append_nil]
          exact sp2 _ _ (sT _ _ hD)
      · obtain ⟨s2, hD⟩ := hq
        rw [List.take_of_length_le (by omega), List.take_of_length_le (by omega)] at hD
        refine ⟨_, rfl, D1, rfl, ⟨_, SqL.of hD⟩, fun D2 nD2 => ?_⟩
        refine lc_list (xs := pick1 sl ps) (fun i H2 => Same H' H2 ∧ H2 D2 = some (.lst (((pick1 sl ps).take i).filter notN))) ⟨same_new nD2, upd_same⟩ (fun i H2 hi hq => SqL.of (hq.1 _ _ hD)) (fun i x H2 hx hq => ?_) (fun H2 hq => ?_)
        · obtain ⟨s3, hD2⟩ := hq
          have tn := filter_turn notN hx
          refine ⟨rfl, _, rfl, rfl, _, rfl, ?_⟩
          show if notN x = true then _ else _
          cases hb : notN x with
          | true =>
            refine iteT ⟨_, rfl, _, hD2, ?_, ?_, ?_⟩
            · have h1 := List.length_filter_le notN ((pick1 sl ps).take i)
              rw [List.length_take] at h1
              have := pick1_length sl ps
              exact szl (by omega)
            · intro b o e
              rw [upd_ne (ne_of_none e nD2)]
              exact s3 _ _ e
            · rw [upd_same, tn, hb, if_pos rfl]
          | false =>
            refine iteF ⟨s3, ?_⟩
            rw [tn, hb, if_neg Bool.false_ne_true, List.append_nil]
            exact hD2
        · obtain ⟨s3, hD2⟩ := hq
          rw [List.take_of_length_le (Nat.le_refl _)] at hD2
          exact q D2 H2 ((s1.trans s2).trans s3) ((s1.trans s2).free nD2) hD2
end

end My
namespace My
open PySem L2
/-! ### refuse_unfit, and what plain_do refuses first of all -/
def inR (m : Int) : V → Bool
  | .int i => decide (0 ≤ i) && decide (i < m)
  | _ => false
def allIn (m : Int) (vs : List V) : Bool := vs.all (inR m)
theorem rowB_inv {xs : List V} (h : rowB xs = true) : ∃ z ps sl, xs = .str z :: ps ∧ forms.lookup z = some sl ∧ fitsB sl ps = true := by
  cases xs with
  | nil => exact nomatch h
  | cons x ps =>
    cases x with
    | str z =>
      have h : (match forms.lookup z with | some sl => fitsB sl ps | none => false) = true := h
      cases e : forms.lookup z with
      | none =>
        rw [e] at h
        exact nomatch h
      | some sl =>
        rw [e] at h
        exact ⟨z, ps, sl, rfl, e, h⟩
    | _ => exact nomatch h
theorem fits_length : ∀ {sl : List Sl} {ps : List V}, fitsB sl ps = true → ps.length = sl.length := by
  intro sl ps h
  by_cases e : ps.length = sl.length
  · exact e
  · rw [fits_len e] at h
    exact nomatch h
theorem pick1_fits : ∀ {sl : List Sl} {ps : List V}, fitsB sl ps = true → ∀ v ∈ pick1 sl ps, v = .non ∨ ∃ i, v = .int i
  | [], [], _, v, m => nomatch m
  | [], _ :: _, h, _, _ => nomatch h
  | _ :: _, [], h, _, _ => nomatch h
  | s :: ss, x :: xs, h, v, m => by
    have h : (fitB s x && fitsB ss xs) = true := h
    rw [Bool.and_eq_true] at h
    have ih := pick1_fits h.2
    have one : isPt s = true → x = .non ∨ ∃ i, x = .int i := by
      intro hs
      have wh : ∀ {y : V}, wholeB y = true → ∃ i, y = .int i := by
        intro y hy
        cases y <;> first | exact ⟨_, rfl⟩ | exact nomatch hy
      cases s with
      | pt => exact .inr (wh h.1)
      | oth =>
        have z : (decide (x = .non) || wholeB x) = true := h.1
        rw [Bool.or_eq_true] at z
        rcases z with z | z
        · exact .inl (of_decide_eq_true z)
        · exact .inr (wh z)
      | _ => exact nomatch hs
    have m : v ∈ (if isPt s = true then x :: pick1 ss xs else pick1 ss xs) := m
    by_cases hs : isPt s = true
    · rw [if_pos hs] at m
      rcases List.mem_cons.mp m with e | m
      · rw [e]
        exact one hs
      · exact ih v m
    · rw [if_neg hs] at m
      exact ih v m
theorem named_int {sl : List Sl} {ps : List V} (h : fitsB sl ps = true) (v : V) (m : v ∈ namedV sl ps) : ∃ i, v = .int i := by
  obtain ⟨m1, m2⟩ := List.mem_filter.mp m
  rcases pick1_fits h v m1 with e | e
  · subst e
    exact nomatch m2
  · exact e
theorem allIn_false {m : Int} {vs : List V} (h : allIn m vs = false) : ∃ v ∈ vs, inR m v = false := by
  unfold allIn at h
  rw [List.all_eq_false] at h
  obtain ⟨v, h1, h2⟩ := h
  exact ⟨v, h1, Bool.eq_false_iff.mpr h2⟩
/-- what a row that is one is told: by its points -/
def RowIn (H : Hp) (v : V) (m : Int) (r : Bool) : Prop := ∀ a z sl ps, v = .ref a → H a = some (.tup (.str z :: ps)) → forms.lookup z = some sl → fitsB sl ps = true → allIn m (namedV sl ps) = r
theorem okCX {P : Program} {w : World} {K : PySem.W.Frag} {mg : Str → Option Value} {base : Heap} {x qual : Str} {st : Stmt} {f c : Addr} {fd : FuncData} {N ps : List Str} {k : Nat} {sp : Sp} (F : Fun K x qual st f fd) (hcd : fd.code = .ref c) (S : FnScope N ps (defScope st))
    (len : ∀ vs H Q E, sp vs H Q E → vs.length = ps.length)
    (body : ∀ (A : Around) (outer : List Env) (s : Shared) (H : Hp) (vs : List V) (Q : VK) (E : XK), Room k (A.deeper (PyProof.Rows.envOfC qual (defScope st) s.heap.objs.size f (.ref c))) → sp vs H Q E →
      ∃ t, PSs (cxOf (L2.CX P w) P w K mg base N qual (defScope st) f (.ref c) A outer s H E) (defBody st) t ∧ t { nx := fun _ H' => Q .non H', rt := Q } (start N vs) H) : FnOk P w K mg base (L2.CX P w) (k + 1) f fd ps sp := by
  obtain ⟨oc, od, kV, doc, pm, an, cdv, ct, osl, rfl, lk, hc⟩ := F.ex
  have e : cdv = .ref c := hcd
  subst e
  exact fn_of lk hc S len fun A outer s H vs Q E hr hsp => body A outer s H vs Q E hr hsp
/-- all over a list -/
theorem gturns_list {K : PySem.W.Frag} {a : Addr} {xs : List V} {g : TG} {te : TE} {σw : L2.St} {vs : List Nat} {Q : Bool → Hp → Prop} {H : Hp} (Pv : Nat → Hp → Prop) (h0 : Pv 0 H) (hq : ∀ i H, Pv i H → SqL K H a xs)
    (hs : ∀ (i : Nat) (x : V) (H : Hp) (N : Hp → Prop), xs[i]? = some x → Pv i H → (∀ H3, Pv (i + 1) H3 → N H3) → g x σw H fun σ2 H2 => wipe σ2 vs = σw ∧ te σ2 H2 fun v H3 => ∃ b, v = .bl b ∧ if b = true then N H3 else Q false H3)
    (hd : ∀ H, Pv xs.length H → Q true H) : ∃ W : Nat → Nat → Hp → Prop, (∃ m, W 0 m H) ∧ gTurns (Itl K a) g te σw vs W Q := by
  refine ⟨fun i m H => m = xs.length - i ∧ i ≤ xs.length ∧ Pv i H, ⟨xs.length, rfl, Nat.zero_le _, h0⟩, fun i m H st => ?_⟩
  obtain ⟨em, le, pv⟩ := st
  have sq := hq i H pv
  rcases Nat.lt_or_eq_of_le le with lt | eq
  · refine .inr ⟨⟨xs, xs[i], sq, List.getElem?_eq_getElem lt⟩, fun v H' y => ?_⟩
    obtain ⟨rfl, y⟩ := y
    exact hs i v _ _ (y xs sq) pv fun H3 p' => ⟨xs.length - (i + 1), by omega, rfl, lt, p'⟩
  · subst eq
    exact .inl ⟨⟨xs, sq, Nat.le_refl _⟩, hd H pv⟩
section
variable {P : Program} {w : World} {K : PySem.W.Frag} {mg : Str → Option Value} {base : Heap}
def spMissing (T : Top w K mg) : Sp := fun vs H Q E => ∃ (p : Addr) (xs : List V) (m : Int), vs = [.ref p, .int m] ∧ H p = some (.lst xs) ∧ (∀ v ∈ xs, ∃ i, v = .int i) ∧ Tb T.tbs H ∧ ∀ H', Kp H H' → Tb T.tbs H' →
  if allIn m xs = true then Q .non H' else E (.ref T.c_NoPoint) none H'
theorem ok_missing (T : Top w K mg) (TBs : TBs T base) : FnOk P w K mg base (L2.CX P w) 2 T.a_refusemissing T.d_refusemissing ["numbers", "many"] (spMissing T) := by
  have TB := TBs.M
  refine okCX T.F_refusemissing T.hcM sc_refusemissing (fun vs H Q E h => ?_) (fun A outer s H vs Q E hr h => ?_)
  · obtain ⟨p, xs, m, rfl, _⟩ := h
    rfl
  · obtain ⟨p, xs, m, rfl, hp, hi, tbs, q⟩ := h
    have tg : GxR.TabG H T.PM := tbs.g T.mM
    refine ⟨_, (pss_one (ps_if (pt_not (pt_val (pe_allG (own := [("number", 2)]) hr rfl sc_refusemissing.nd (by rfl) T.m_all (by decide +kernel) TB rfl (blkOk_by (own := [("number", 2)]) (N := ["numbers", "many", "number"]) (sc := defScope s_refusemissing) (by decide +kernel)) (by rfl) (by decide +kernel) (by rfl) (pi_list (pv 0)) (fun _ _ _ _ _ _ _ => (pg_name (i := 2) sc_refusemissing.nd rfl (.inl rfl) (hf := Or.inr rfl))) (fun _ _ _ _ _ _ _ hr' => (pe_chain op_le op_lt pe_int (pv 2) (pv 1)))))) (pss_one (ps_raise rfl (takes_of rfl rfl rfl rfl) (pmk_own0 T.x_NoPoint T.v_NoPoint T.k_NoPoint (raises_own T.sb_NoPoint T.ty_NoPoint) (by rfl)))) pss_nil)), ?_⟩
    refine ⟨_, rfl, p, rfl, ⟨_, SqL.of hp⟩, tg, fun H2 tb => ?_⟩
    refine gturns_list (xs := xs) (fun i H' => Kp H H' ∧ Tb T.tbs H' ∧ H' p = some (.lst xs) ∧ ∀ v ∈ xs.take i, inR m v = true) ⟨Kp.of_tab tg tb, tbs.tab T.nd T.mM (But.of_tab tb) tb.1, Kp.of_tab tg tb _ _ hp (by intro ps z; cases z), fun v z => nomatch z⟩ (fun i H' h => SqL.of h.2.2.1) (fun i x H' N hx h k => ?_) (fun H' h => ?_)
    · obtain ⟨k1, tb1, hp1, hall⟩ := h
      obtain ⟨j, rfl⟩ := hi x (List.mem_of_getElem? hx)
      have no : inR m (.int j) = false → allIn m xs = false := fun hj => by
        unfold allIn
        exact List.all_eq_false.mpr ⟨_, List.mem_of_getElem? hx, Bool.eq_false_iff.mp hj⟩
      have nx : inR m (.int j) = true → N H' := fun hj => by
        refine k H' ⟨k1, tb1, hp1, fun v hv => ?_⟩
        rw [take_at hx] at hv
        rcases List.mem_append.mp hv with h | h
        · exact hall v h
        · rw [List.mem_singleton.mp h]
          exact hj
      have fin : inR m (.int j) = false → E (.ref T.c_NoPoint) none H' := fun hj => by
        have q1 := q H' k1 tb1
        rw [no hj, if_neg Bool.false_ne_true] at q1
        exact q1
      refine ⟨rfl, _, rfl, _, _, rfl, rfl, _, rfl, ?_⟩
      refine ite2 (fun e0 => ?_) (fun e0 => ?_)
      · refine ⟨_, rfl, _, _, rfl, rfl, _, rfl, ?_⟩
        have e0 := of_decide_eq_true e0
        by_cases e1 : j < m
        · rw [decide_eq_true e1]
          refine iteT ?_
          exact nx (by show (decide (0 ≤ j) && decide (j < m)) = true; rw [decide_eq_true e0, decide_eq_true e1]; rfl)
        · rw [decide_eq_false e1]
          refine iteF ?_
          exact ⟨_, rfl, iteT (fin (by show (decide (0 ≤ j) && decide (j < m)) = false; rw [decide_eq_false e1, Bool.and_false]))⟩
      · refine ⟨_, rfl, iteF ?_⟩
        have e0 : ¬ 0 ≤ j := fun z => e0 (decide_eq_true z)
        exact ⟨_, rfl, iteT (fin (by show (decide (0 ≤ j) && decide (j < m)) = false; rw [decide_eq_false e0, Bool.false_and]))⟩
    · obtain ⟨k1, tb1, hp1, hall⟩ := h
      have z : allIn m xs = true := by
        unfold allIn
        rw [List.take_of_length_le (Nat.le_refl _)] at hall
        exact List.all_eq_true.mpr hall
      have q1 := q H' k1 tb1
      rw [z, if_pos rfl] at q1
      exact ⟨_, rfl, iteF q1⟩
def spRefuse (T : Top w K mg) : Sp := fun vs H Q E => ∃ (v : V) (m : Int) (b r : Bool), vs = [v, .int m] ∧ Tb T.tbs H ∧ ThingV H v b ∧ (b = true → RowIn H v m r) ∧ ∀ H', Kp H H' → Tb T.tbs H' →
  if b = true then (if r = true then Q .non H' else E (.ref T.c_NoPoint) none H') else E (.ref T.c_NoRow) none H'
theorem ok_refuse (T : Top w K mg) (TBs : TBs T base) : FnOk P w K mg base (L2.CX P w) 5 T.a_refuseunfit T.d_refuseunfit ["row", "many"] (spRefuse T) := by
  have G_isrow : FnOk P w K mg base CX0 4 _ _ _ _ := ok_isrow T TBs
  have G_pointsnamed : FnOk P w K mg base CX0 1 _ _ _ _ := ok_named T
  have G_refusemissing : FnOk P w K mg base (L2.CX P w) 2 _ _ _ _ := ok_missing T TBs
  refine T.F_refuseunfit.okX sc_refuseunfit (fun vs H Q E h => ?_) (fun cdv A outer s H vs Q E hr h => ?_)
  · obtain ⟨v, m, b, r, rfl, _⟩ := h
    rfl
  · obtain ⟨v, m, b, r, rfl, tg, th, hin, q⟩ := h
    refine ⟨_, (pss_cons (ps_if (pt_not (pt_val (pe_call G_isrow hr (by rfl) T.g_isrow T.F_isrow.kp T.b_isrow .nil pass0 (pa_cons (pv 0) pa_nil)))) (pss_one (ps_raise rfl (takes_of rfl rfl rfl rfl) (pmk_own0 T.x_NoRow T.v_NoRow T.k_NoRow (raises_own T.sb_NoRow T.ty_NoRow) (by rfl)))) pss_nil)
      (pss_one (ps_expr (pe_callS G_refusemissing (hr.mono (by decide)) (by rfl) T.g_refusemissing T.F_refusemissing.kp T.b_refusemissing (fun σ => passAt (takes_of rfl rfl rfl rfl) σ) (pa_cons (pe_call G_pointsnamed (hr.mono (by decide)) (by rfl) T.g_pointsnamed T.F_pointsnamed.kp T.b_pointsnamed .nil pass0 (pa_cons (pv 0) pa_nil)) (pa_cons (pv 1) pa_nil)))))), ?_⟩
    refine ⟨_, rfl, v, b, rfl, tg, th, fun H1 k1 tg1 => ⟨b, rfl, ?_⟩⟩
    have q1 := q H1 k1 tg1
    cases b with
    | false => exact iteT (show E _ _ _ from by rw [if_neg Bool.false_ne_true] at q1; exact q1)
    | true =>
      refine iteF ?_
      rcases th with ⟨a, xs, rfl, hl, ha, hany, hb⟩ | ⟨_, hb⟩
      · obtain ⟨z, ps, sl, rfl, ef, hf⟩ := rowB_inv hb.symm
        have ha1 : H1 a = some (.tup (.str z :: ps)) := k1 _ _ ha (by intro ps z; cases z)
        have hr' := hin rfl a z sl ps rfl ha ef hf
        have hpl : ps.length ≤ 1000 := by
          rw [List.length_cons] at hl
          omega
        refine ⟨_, rfl, a, z, sl, ps, rfl, ha1, ef, fits_length hf, hpl, fun p H2 s2 np hp => ?_⟩
        refine ⟨_, rfl, p, namedV sl ps, m, rfl, hp, fun v hv => named_int hf v hv, tg1.same s2, fun H3 k3 tb3 => ?_⟩
        have q3 := q H3 ((k1.same s2).trans k3) tb3
        rw [if_pos rfl, ← hr'] at q3
        exact q3
      · exact nomatch hb
end

end My
namespace My
open PySem L2
/-! ### what a drawn row has -/
theorem forms_len {z : Str} {sl : List Sl} (h : forms.lookup z = some sl) : sl.length ≤ 3 := by
  have g : ∀ l : List (Str × List Sl), (∀ f ∈ l, f.2.length ≤ 3) → l.lookup z = some sl → sl.length ≤ 3 := by
    intro l
    induction l with
    | nil => intro _ h; exact nomatch h
    | cons f r ih =>
      intro k h
      obtain ⟨a, b⟩ := f
      rw [List.lookup_cons] at h
      cases e : z == a with
      | true =>
        rw [e] at h
        cases h
        exact k _ List.mem_cons_self
      | false =>
        rw [e] at h
        exact ih (fun f hf => k f (List.mem_cons_of_mem _ hf)) h
  exact g forms (by decide +kernel) h
section
variable {K : PySem.W.Frag}
theorem cut_mem {xs : List V} {lo hi : Option Int} {x : V} (h : x ∈ cutV xs lo hi) : x ∈ xs := by
  unfold cutV at h
  exact List.mem_of_mem_drop (List.mem_of_mem_take h)
theorem cut_whole {xs : List V} {lo hi : Option Int} (h : HT.sIx xs.length 0 lo = 0 ∧ HT.sIx xs.length xs.length hi = xs.length) : cutV xs lo hi = xs := by
  unfold cutV
  rw [h.1, h.2, List.drop_zero, Nat.sub_zero, List.take_of_length_le (Nat.le_refl _)]
theorem no_part {σ : L2.St} {H : Hp} {Q : Option Int → Hp → Prop} (h : Q none H) : tNoPart σ H Q := h
theorem sl_any {H : Hp} {a : Addr} {xs : List V} {lo hi : Option Int} {Q : VK} (h : H a = some (.tup xs)) (q : ∀ (p : Addr) (H' : Hp), Same H H' → H' p = some (.tup (cutV xs lo hi)) → Q (.ref p) H') : rSlA K (.ref a) lo hi H Q := by
  refine ⟨a, xs, rfl, SqT.of h, fun w => ?_, fun _ p np => q p _ (same_new np) upd_same⟩
  refine q a H (fun _ _ z => z) ?_
  rw [cut_whole w]
  exact h
theorem cat_any {H : Hp} {a b : Addr} {xs ys : List V} {Q : VK} (ha : H a = some (.tup xs)) (hb : H b = some (.tup ys)) (hz : xs.length + ys.length ≤ sizeLine) (q : ∀ (p : Addr) (H' : Hp), Same H H' → H' p = some (.tup (xs ++ ys)) → Q (.ref p) H') : rCatA K (.ref a) (.ref b) H Q := by
  refine ⟨a, b, xs, ys, rfl, rfl, SqT.of ha, SqT.of hb, hz, fun e => ?_, fun _ e => ?_, fun _ _ p np => q p _ (same_new np) upd_same⟩
  · refine q b H (fun _ _ z => z) ?_
    rw [e, List.nil_append]
    exact hb
  · refine q a H (fun _ _ z => z) ?_
    rw [e, List.append_nil]
    exact ha
theorem fit_any {H : Hp} : ∀ {sl : List Sl} {ps : List V}, FitAll sl ps → ps.length = sl.length ∧ fitsB sl ps = true ∧ ∀ x ∈ ps, AnyV H x
  | _, _, .nil => ⟨rfl, rfl, fun x h => nomatch h⟩
  | _, _, .cons (s := s) (v := v) (ss := ss) (vs := vs) f r => by
    obtain ⟨h1, h2, h3⟩ := fit_any (H := H) r
    have hv : fitB s v = true ∧ AnyV H v := by
      cases s with
      | pt => obtain ⟨i, rfl⟩ := f; exact ⟨rfl, .int i⟩
      | oth =>
        rcases f with rfl | ⟨i, rfl⟩
        · exact ⟨rfl, .non⟩
        · exact ⟨rfl, .int i⟩
      | num => obtain ⟨i, rfl⟩ := f; exact ⟨rfl, .int i⟩
      | plc => obtain ⟨i, rfl, h⟩ := f; exact ⟨decide_eq_true h, .int i⟩
      | knd => obtain ⟨k, rfl, h⟩ := f; exact ⟨decide_eq_true h, .str k⟩
    refine ⟨congrArg (· + 1) h1, ?_, fun x hx => ?_⟩
    · show (fitB s v && fitsB ss vs) = true
      rw [hv.1, h2]
      rfl
    · rcases List.mem_cons.mp hx with e | e
      · rw [e]
        exact hv.2
      · exact h3 x e
theorem forms_at {w : Str} {sl : List Sl} (h : (w, sl) ∈ forms) : forms.lookup w = some sl ∧ w.length ≤ 100 := by
  have g : ∀ f ∈ forms, forms.lookup f.1 = some f.2 ∧ f.1.length ≤ 100 := by decide +kernel
  exact g (w, sl) h
theorem row_facts {H : Hp} {w : Str} {us : List V} (h : RowV w us) : ∃ ps, us = .str w :: ps ∧ ps.length ≤ 3 ∧ w.length ≤ 100 ∧ rowB us = true ∧ ∀ x ∈ us, AnyV H x := by
  obtain ⟨sl, ps, rfl, hf, fa⟩ := h
  obtain ⟨h1, h2, h3⟩ := fit_any (H := H) fa
  obtain ⟨e1, e2⟩ := forms_at hf
  have e3 := forms_len e1
  refine ⟨ps, rfl, by omega, e2, ?_, fun x hx => ?_⟩
  · show (match forms.lookup w with | some sl => fitsB sl ps | none => false) = true
    rw [e1]
    exact h2
  · rcases List.mem_cons.mp hx with e | e
    · rw [e]
      exact .str w
    · exact h3 x e
end

theorem fits_any {H : Hp} : ∀ {sl : List Sl} {ps : List V}, fitsB sl ps = true → ∀ x ∈ ps, AnyV H x
  | [], [], _, _, m => nomatch m
  | [], _ :: _, h, _, _ => nomatch h
  | _ :: _, [], h, _, _ => nomatch h
  | s :: ss, v :: vs, h, x, m => by
    have h : (fitB s v && fitsB ss vs) = true := h
    rw [Bool.and_eq_true] at h
    rcases List.mem_cons.mp m with e | m
    · subst e
      have h1 := h.1
      cases x with
      | non => exact .non
      | bl b => exact .bl b
      | int i => exact .int i
      | str z => exact .str z
      | _ => cases s <;> exact nomatch h1
    · exact fits_any h.2 x m
theorem cut_drop (xs : List V) (k : Nat) : cutV xs (some (k : Int)) none = xs.drop k := by
  unfold cutV
  rw [HT.sIx_nat, HT.sIx_none]
  by_cases h : k ≤ xs.length
  · rw [Nat.min_eq_left h, List.take_of_length_le (by rw [List.length_drop]; omega)]
  · rw [Nat.min_eq_right (by omega), Nat.sub_self, List.take_zero, List.drop_of_length_le (by omega)]

end My
namespace My
open PySem L2
/-! ### repr of a forest -/
theorem int_shown {i : Int} (h1 : -(10 ^ 40) < i) (h2 : i < 10 ^ 40) : (PyData.int i).shown.length ≤ 41 := by
  show (Str.ofString (toString i)).length ≤ 41
  by_cases h : i < 0
  · rw [PyProof.Rows.len_text_neg h]
    have := PyProof.Rows.toString_length_le (v := 0 - i) (k := 40) (by omega) (by decide) (by omega)
    omega
  · have := PyProof.Rows.toString_length_le (v := i) (k := 40) (by omega) (by decide) h2
    omega
theorem shownAll_length : ∀ xs : List PyData, (PyData.shownAll xs).length = xs.length
  | [] => rfl
  | x :: xs => by
    show (PyData.shown x :: PyData.shownAll xs).length = _
    rw [List.length_cons, List.length_cons, shownAll_length xs]
theorem piled_le {m : Nat} : ∀ {xs : List PyData}, (∀ x ∈ xs, x.shown.length ≤ m) → piled (PyData.shownAll xs) ≤ xs.length * (m + 2)
  | [], _ => Nat.zero_le _
  | x :: xs, h => by
    have ih := piled_le (xs := xs) fun y hy => h y (List.mem_cons_of_mem _ hy)
    have h1 := h x List.mem_cons_self
    show piled (PyData.shown x :: PyData.shownAll xs) ≤ _
    rw [piled_cons, List.length_cons, Nat.succ_mul]
    omega
theorem tuple_shown {m : Nat} {xs : List PyData} (h : ∀ x ∈ xs, x.shown.length ≤ m) : (PyData.tuple xs).shown.length ≤ xs.length * (m + 2) + 4 := by
  have h1 := piled_le h
  show (tupleText (PyData.shownAll xs)).length ≤ _
  unfold tupleText
  rw [strLen_append, strLen_append]
  have h2 : (Str.join ", " (PyData.shownAll xs)).length ≤ piled (PyData.shownAll xs) := by
    cases xs with
    | nil => exact Nat.zero_le _
    | cons x r =>
      have := join_length_add (PyData.shownAll (x :: r)) (by intro z; cases z)
      omega
  have h3 : (Str.ofString (if (PyData.shownAll xs).length == 1 then ",)" else ")")).length ≤ 2 := by
    split <;> decide
  have h4 : (("(" : String) : Str).length = 1 := rfl
  omega
theorem kinds_shown : ∀ k ∈ kinds, (PyData.str k).shown.length ≤ 12 := by
  show ∀ k ∈ kinds, (reprText k).length ≤ 12
  decide +kernel
theorem two_all {α : Type} (p : α → Prop) {a b : α} (ha : p a) (hb : p b) : ∀ x ∈ [a, b], p x := fun x m => by
  rcases List.mem_cons.mp m with rfl | m
  · exact ha
  · rw [List.mem_singleton.mp m]
    exact hb
theorem point_shown {p : Int × Str} (h : PtOk p) : (pdata p).shown.length ≤ 90 := by
  have h1 : (PyData.int p.1).shown.length ≤ 41 := int_shown (by have := h.1; omega) (by have := h.2.1; omega)
  have h2 := kinds_shown p.2 h.2.2
  exact tuple_shown (m := 41) (xs := [.int p.1, .str p.2]) (two_all (fun x : PyData => x.shown.length ≤ 41) h1 (Nat.le_trans h2 (by decide)))
theorem tie_shown {t : Int × Int} (h1 : 0 ≤ t.1) (h2 : t.1 < 1000) (h3 : 0 ≤ t.2) (h4 : t.2 < 1000) : (tdata t).shown.length ≤ 90 := by
  have e1 : (PyData.int t.1).shown.length ≤ 41 := int_shown (by omega) (by omega)
  have e2 : (PyData.int t.2).shown.length ≤ 41 := int_shown (by omega) (by omega)
  exact tuple_shown (m := 41) (xs := [.int t.1, .int t.2]) (two_all (fun x : PyData => x.shown.length ≤ 41) e1 e2)
theorem showAll {xs : List PyData} : (∀ x ∈ xs, x.showable = true) → PyData.showableAll xs = true := by
  induction xs with
  | nil => intro _; rfl
  | cons x r ih =>
    intro h
    show (PyData.showable x && PyData.showableAll r) = true
    rw [h x List.mem_cons_self, ih fun y hy => h y (List.mem_cons_of_mem _ hy)]
    rfl
theorem nodAll {xs : List PyData} : (∀ x ∈ xs, x.hasDict = false) → PyData.hasDictAll xs = false := by
  induction xs with
  | nil => intro _; rfl
  | cons x r ih =>
    intro h
    show (PyData.hasDict x || PyData.hasDictAll r) = false
    rw [h x List.mem_cons_self, ih fun y hy => h y (List.mem_cons_of_mem _ hy)]
    rfl
theorem depAll {m : Nat} {xs : List PyData} : (∀ x ∈ xs, x.depth ≤ m) → PyData.depthAll xs ≤ m := by
  induction xs with
  | nil => intro _; exact Nat.zero_le _
  | cons x r ih =>
    intro h
    show max (PyData.depth x) (PyData.depthAll r) ≤ m
    have h1 := h x List.mem_cons_self
    have h2 := ih fun y hy => h y (List.mem_cons_of_mem _ hy)
    omega
theorem show_int {i : Int} (h1 : -(2 ^ 100) < i) (h2 : i < 2 ^ 100) : (PyData.int i).showable = true := by
  show decide (i.natAbs.log2 < 1920) = true
  refine decide_eq_true ?_
  by_cases z : i.natAbs = 0
  · rw [z]
    decide
  · rw [Nat.log2_lt z]
    exact Nat.lt_of_lt_of_le (show i.natAbs < 2 ^ 100 by omega) (Nat.pow_le_pow_right (by decide) (by decide))
theorem show_pt {p : Int × Str} (h : PtOk p) : (pdata p).showable = true := by
  refine showAll (xs := [.int p.1, .str p.2]) (two_all (fun x => PyData.showable x = true) (show_int (by have := h.1; omega) (by have := h.2.1; omega)) rfl)
theorem show_tie {t : Int × Int} (h1 : 0 ≤ t.1) (h2 : t.1 < 1000) (h3 : 0 ≤ t.2) (h4 : t.2 < 1000) : (tdata t).showable = true := by
  refine showAll (xs := [.int t.1, .int t.2]) (two_all (fun x => PyData.showable x = true) (show_int (by omega) (by omega)) (show_int (by omega) (by omega)))
structure Shows (d : PyData) : Prop where
  sh : d.showable = true
  nd : d.hasDict = false
  dp : d.depth ≤ 50
  ln : d.shown.length ≤ sizeLine
theorem forest_shows {pts : List (Int × Str)} {ts : List (Int × Int)} (fok : FrOk pts ts) : Shows (fdata pts ts) := by
  have tb : ∀ t ∈ ts, 0 ≤ t.1 ∧ t.1 < 1000 ∧ 0 ≤ t.2 ∧ t.2 < 1000 := fun t m => by
    have h := fok.tok t m
    have := fok.few
    omega
  refine ⟨?_, ?_, ?_, ?_⟩
  · refine showAll (xs := [.tuple (pts.map pdata), .tuple (ts.map tdata)]) (two_all (fun x => PyData.showable x = true) ?_ ?_)
    · refine showAll fun x hx => ?_
      obtain ⟨p, hp, rfl⟩ := List.mem_map.mp hx
      exact show_pt (fok.pok p hp)
    · refine showAll fun x hx => ?_
      obtain ⟨t, ht, rfl⟩ := List.mem_map.mp hx
      obtain ⟨h1, h2, h3, h4⟩ := tb t ht
      exact show_tie h1 h2 h3 h4
  · refine nodAll (xs := [.tuple (pts.map pdata), .tuple (ts.map tdata)]) (two_all (fun x => PyData.hasDict x = false) ?_ ?_)
    · refine nodAll fun x hx => ?_
      obtain ⟨p, hp, rfl⟩ := List.mem_map.mp hx
      rfl
    · refine nodAll fun x hx => ?_
      obtain ⟨t, ht, rfl⟩ := List.mem_map.mp hx
      rfl
  · have d1 : PyData.depthAll (pts.map pdata) ≤ 1 := depAll fun x hx => by
      obtain ⟨p, hp, rfl⟩ := List.mem_map.mp hx
      exact Nat.le_refl _
    have d2 : PyData.depthAll (ts.map tdata) ≤ 1 := depAll fun x hx => by
      obtain ⟨t, ht, rfl⟩ := List.mem_map.mp hx
      exact Nat.le_refl _
    show PyData.depthAll [.tuple (pts.map pdata), .tuple (ts.map tdata)] + 1 ≤ 50
    have d3 : PyData.depthAll [.tuple (pts.map pdata), .tuple (ts.map tdata)] ≤ 2 := depAll (two_all (fun x => PyData.depth x ≤ 2) (show PyData.depth (.tuple (pts.map pdata)) ≤ 2 from (show PyData.depthAll (pts.map pdata) + 1 ≤ 2 by omega)) (show PyData.depth (.tuple (ts.map tdata)) ≤ 2 from (show PyData.depthAll (ts.map tdata) + 1 ≤ 2 by omega)))
    omega
  · have l1 : (PyData.tuple (pts.map pdata)).shown.length ≤ (pts.map pdata).length * (90 + 2) + 4 := tuple_shown fun x hx => by
      obtain ⟨p, hp, rfl⟩ := List.mem_map.mp hx
      exact point_shown (fok.pok p hp)
    have l2 : (PyData.tuple (ts.map tdata)).shown.length ≤ (ts.map tdata).length * (90 + 2) + 4 := tuple_shown fun x hx => by
      obtain ⟨t, ht, rfl⟩ := List.mem_map.mp hx
      obtain ⟨h1, h2, h3, h4⟩ := tb t ht
      exact tie_shown h1 h2 h3 h4
    rw [List.length_map] at l1 l2
    have f1 := fok.few
    have f2 := fok.tl
    have l3 : (fdata pts ts).shown.length ≤ 2 * (10000 + 2) + 4 := tuple_shown (m := 10000) (xs := [.tuple (pts.map pdata), .tuple (ts.map tdata)]) (two_all (fun x : PyData => x.shown.length ≤ 10000) (by omega) (by omega))
    exact sz (by omega)

end My
namespace My
open PySem L2
/-! ### _law_refused -/
def wds : List Str := ["NoRow", "NoPoint", "Ring", "NoTie", "Apart", "NoPlace", "NoDeed"]
/-- one of seven -/
def tw7 (j : Nat) : List Bool := (List.range 7).map fun i => decide (j = i)
theorem seven {j : Nat} (h : j < 7) : j = 0 ∨ j = 1 ∨ j = 2 ∨ j = 3 ∨ j = 4 ∨ j = 5 ∨ j = 6 := by omega
section
variable {w : World} {K : PySem.W.Frag} {mg : Str → Option Value}
abbrev Top.cs (T : Top w K mg) : List Addr := [T.c_NoRow, T.c_NoPoint, T.c_Ring, T.c_NoTie, T.c_Apart, T.c_NoPlace, T.c_NoDeed]
theorem cs_em (T : Top w K mg) {j : Nat} (h : j < 7) : PySem.W.exmOne K (.ref (T.cs.getD j 0)) (.ref T.c_TreeError) = some true := by
  rcases seven h with rfl | rfl | rfl | rfl | rfl | rfl | rfl
  · exact T.em_NoRow
  · exact T.em_NoPoint
  · exact T.em_Ring
  · exact T.em_NoTie
  · exact T.em_Apart
  · exact T.em_NoPlace
  · exact T.em_NoDeed
theorem cs_xc (T : Top w K mg) {j : Nat} (h : j < 7) : XcC K (T.cs.getD j 0) := by
  rcases seven h with rfl | rfl | rfl | rfl | rfl | rfl | rfl
  · exact T.s_NoRow
  · exact T.s_NoPoint
  · exact T.s_Ring
  · exact T.s_NoTie
  · exact T.s_Apart
  · exact T.s_NoPlace
  · exact T.s_NoDeed
theorem cs_kv (T : Top w K mg) {j : Nat} (h : j < 7) : PySem.W.kitOne K (.ref (T.cs.getD j 0)) (.type "ValueError") = some true := by
  rcases seven h with rfl | rfl | rfl | rfl | rfl | rfl | rfl
  · exact T.kv_NoRow
  · exact T.kv_NoPoint
  · exact T.kv_Ring
  · exact T.kv_NoTie
  · exact T.kv_Apart
  · exact T.kv_NoPlace
  · exact T.kv_NoDeed
theorem cs_kit (T : Top w K mg) {i j : Nat} (hi : i < 7) (hj : j < 7) : PySem.W.kitOne K (.ref (T.cs.getD i 0)) (.ref (T.cs.getD j 0)) = some (decide (i = j)) := kitsB_two T.kits hi hj
/-- what the def makes of the lambda's reading: what it tells, or the word of what it raises -/
def TTref (T : Top w K mg) (v : V) (tl : XK → V → Hp → VK → Prop) (H : Hp) (Q : VK) : Prop := ∀ (H1 : Hp) (E' : XK) (Q' : VK), Same H H1 →
  (∀ j, j < 7 → ∀ H', (∀ H'', Same H' H'' → Q (.str (wds.getD j "")) H'') → E' (.ref (T.cs.getD j 0)) none H') → (∀ u H', Q u H' → Q' u H') → tl E' v H1 Q'
theorem dp_bls {K : PySem.W.Frag} {H : Hp} : ∀ bs : List Bool, DpAll K H (bs.map V.bl) (bs.map PyData.bool)
  | [] => .nil
  | b :: r => .cons (.bl b) (dp_bls r)
theorem gives_Lrefused {X : Cx} {w : World} {K : PySem.W.Frag} {mg : Str → Option Value} (T : Top w K mg) (hw : X.w = w) (hK : X.K = K) (hm : X.mg = mg) {k : Nat} {qn : Str} (cdg : Value) : GivesP X k ["_law_told_by", "_law_thing", "_law_caught", "_law_told", "e", "_law_some"] "_law_refused" (defScope s_Lrefused) T.a_Lrefused cdg (defBody s_Lrefused) "_law_told_by" qn (TTref T) := by
  subst hw hK hm
  intro f c' v s H Q tl hr act hc h
  refine ⟨_, (pss_cons (ps_asg (pe_tup (pa_cons pe_non (pa_cons pe_non pa_nil))) (pg_tup rfl (pgs_cons (pg_name (i := 2) sc_Lrefused.nd rfl (.inl rfl)) (pgs_cons (pg_name (i := 3) sc_Lrefused.nd rfl (.inl rfl)) pgs_nil))))
      (pss_cons (ps_try_keep (i := 4) rfl rfl sc_Lrefused.nd rfl rfl ⟨rfl, by decide, .inl T.v_TreeError⟩ (fun W pn xe tk => (pss_one (ps_set (i := 3) sc_Lrefused.nd rfl (.inl rfl) (act W pn xe _ _ _ _ tk (pa_cons (pv 1) pa_nil) rfl)))) (fun a pn => (pss_one (ps_set (i := 2) sc_Lrefused.nd rfl (.inl rfl) (pv 4)))))
      (pss_cons (ps_if (pt_cmpR op_isN (pv 2) pe_non (nomark _)) (pss_one (ps_ret (pv 3))) pss_nil)
      (pss_cons (ps_set (i := 5) sc_Lrefused.nd rfl (.inl rfl) (pe_lst (pa_cons (pe_callB call_isC (by rfl) T.m_isinstance (by decide +kernel) (pa_cons (pv 2) (pa_cons (pe_glob (v := .ref T.c_NoRow) (by rfl) T.v_NoRow rfl) pa_nil))) (pa_cons (pe_callB call_isC (by rfl) T.m_isinstance (by decide +kernel) (pa_cons (pv 2) (pa_cons (pe_glob (v := .ref T.c_NoPoint) (by rfl) T.v_NoPoint rfl) pa_nil))) (pa_cons (pe_callB call_isC (by rfl) T.m_isinstance (by decide +kernel) (pa_cons (pv 2) (pa_cons (pe_glob (v := .ref T.c_Ring) (by rfl) T.v_Ring rfl) pa_nil))) pa_nil)))))
      (pss_cons (ps_set (i := 5) sc_Lrefused.nd rfl (.inl rfl) (pe_op op_cat (pv 5) (pe_lst (pa_cons (pe_callB call_isC (by rfl) T.m_isinstance (by decide +kernel) (pa_cons (pv 2) (pa_cons (pe_glob (v := .ref T.c_NoTie) (by rfl) T.v_NoTie rfl) pa_nil))) (pa_cons (pe_callB call_isC (by rfl) T.m_isinstance (by decide +kernel) (pa_cons (pv 2) (pa_cons (pe_glob (v := .ref T.c_Apart) (by rfl) T.v_Apart rfl) pa_nil))) (pa_cons (pe_callB call_isC (by rfl) T.m_isinstance (by decide +kernel) (pa_cons (pv 2) (pa_cons (pe_glob (v := .ref T.c_NoPlace) (by rfl) T.v_NoPlace rfl) pa_nil))) pa_nil))))))
      (pss_cons (ps_expr (pe_bm PySem.F.plainAttrs_list PySem.F.slot_list_append PySem.F.type_list_append mt_append (pv 5) (pa_cons (pe_callB call_isC (by rfl) T.m_isinstance (by decide +kernel) (pa_cons (pv 2) (pa_cons (pe_glob (v := .ref T.c_NoDeed) (by rfl) T.v_NoDeed rfl) pa_nil))) pa_nil)))
      (pss_cons (ps_if (PW.pt (pw_or (pt_cmpR op_ne (pe_bm PySem.F.plainAttrs_list PySem.F.slot_list_count PySem.F.type_list_count mt_countB (pv 5) (pa_cons pe_bl pa_nil)) pe_int (nomark _)) (pw_or1 (pt_not (pt_val (pe_callB call_isC (by rfl) T.m_isinstance (by decide +kernel) (pa_cons (pv 2) (pa_cons (pe_bltn (v := .ty "ValueError") (by rfl) T.m_ValueError (by decide +kernel) rfl) pa_nil)))))))) (pss_one (ps_ret pe_str)) pss_nil)
      (pss_one (ps_ret (pe_ix ix_list (pe_lst (pa_cons pe_str (pa_cons pe_str (pa_cons pe_str (pa_cons pe_str (pa_cons pe_str (pa_cons pe_str (pa_cons pe_str pa_nil)))))))) (pe_bm PySem.F.plainAttrs_list PySem.F.slot_list_index PySem.F.type_list_index (mt_indexD (u65 hr)) (pv 5) (pa_cons pe_bl pa_nil)) (fun _ _ => rfl))))))))))), ?_⟩
  refine ⟨(by show 2 ≤ sizeLine; decide), fun p np => ⟨p, _, rfl, SqT.of upd_same, rfl, _, _, rfl, _, _, rfl, rfl, ?_⟩⟩
  have s1 : Same H (upd H p (.tup [.non, .non])) := same_new np
  refine ⟨rfl, _, rfl, v, rfl, s1 _ _ hc, ?_⟩
  refine h _ _ _ s1 (fun j hj H' q => ?_) fun u H' q => ?_
  · refine ⟨cs_em T hj, fun a na => ⟨_, rfl, na, ?_⟩⟩
    have at_ : upd H' a (ExC (.ref (T.cs.getD j 0)) none a) a = some (ExC (.ref (T.cs.getD j 0)) none a) := upd_same
    have sA : Same H' (upd H' a (ExC (.ref (T.cs.getD j 0)) none a)) := same_new na
    refine ⟨_, rfl, rfl, _, rfl, iteF ?_⟩
    have k0 : PySem.W.kitOne X.K (.ref (T.cs.getD j 0)) (.ref T.c_NoRow) = some (decide (j = 0)) := cs_kit T hj (show 0 < 7 by decide)
    have k1 : PySem.W.kitOne X.K (.ref (T.cs.getD j 0)) (.ref T.c_NoPoint) = some (decide (j = 1)) := cs_kit T hj (show 1 < 7 by decide)
    have k2 : PySem.W.kitOne X.K (.ref (T.cs.getD j 0)) (.ref T.c_Ring) = some (decide (j = 2)) := cs_kit T hj (show 2 < 7 by decide)
    have k3 : PySem.W.kitOne X.K (.ref (T.cs.getD j 0)) (.ref T.c_NoTie) = some (decide (j = 3)) := cs_kit T hj (show 3 < 7 by decide)
    have k4 : PySem.W.kitOne X.K (.ref (T.cs.getD j 0)) (.ref T.c_Apart) = some (decide (j = 4)) := cs_kit T hj (show 4 < 7 by decide)
    have k5 : PySem.W.kitOne X.K (.ref (T.cs.getD j 0)) (.ref T.c_NoPlace) = some (decide (j = 5)) := cs_kit T hj (show 5 < 7 by decide)
    have k6 : PySem.W.kitOne X.K (.ref (T.cs.getD j 0)) (.ref T.c_NoDeed) = some (decide (j = 6)) := cs_kit T hj (show 6 < 7 by decide)
    have xc := cs_xc T hj
    refine ⟨_, rfl, a, _, _, _, _, rfl, at_, xc, .own _, k0, _, rfl, a, _, _, _, _, rfl, at_, xc, .own _, k1, _, rfl, a, _, _, _, _, rfl, at_, xc, .own _, k2, (by show 3 ≤ sizeLine; decide), fun l1 n1 => ?_⟩
    have na1 : a ≠ l1 := ne_of_none at_ n1
    have at1 := (same_new (o := .lst [.bl (decide (j = 0)), .bl (decide (j = 1)), .bl (decide (j = 2))]) n1) _ _ at_
    refine ⟨_, rfl, _, rfl, a, _, _, _, _, rfl, at1, xc, .own _, k3, _, rfl, a, _, _, _, _, rfl, at1, xc, .own _, k4, _, rfl, a, _, _, _, _, rfl, at1, xc, .own _, k5, (by show 3 ≤ sizeLine; decide), fun l2 n2 => ?_⟩
    have at2 := (same_new (o := .lst [.bl (decide (j = 3)), .bl (decide (j = 4)), .bl (decide (j = 5))]) n2) _ _ at1
    have h1 := (same_new (o := .lst [.bl (decide (j = 3)), .bl (decide (j = 4)), .bl (decide (j = 5))]) n2) _ _ (upd_same (H := upd H' a (ExC (.ref (T.cs.getD j 0)) none a)) (a := l1) (o := .lst [.bl (decide (j = 0)), .bl (decide (j = 1)), .bl (decide (j = 2))]))
    refine ⟨l1, l2, _, _, rfl, rfl, h1, upd_same, (by show 3 + 3 ≤ sizeLine; decide), fun l3 n3 => ?_⟩
    have at3 := (same_new (o := .lst ([.bl (decide (j = 0)), .bl (decide (j = 1)), .bl (decide (j = 2))] ++ [.bl (decide (j = 3)), .bl (decide (j = 4)), .bl (decide (j = 5))])) n3) _ _ at2
    refine ⟨_, rfl, .inl ⟨rfl, _, SqL.of upd_same⟩, _, rfl, a, _, _, _, _, rfl, at3, xc, .own _, k6, l3, _, _, rfl, rfl, upd_same, (by show 6 < sizeLine; decide), ?_⟩
    have cnt : ([decide (j = 0), decide (j = 1), decide (j = 2), decide (j = 3), decide (j = 4), decide (j = 5), decide (j = 6)] : List Bool).count true = 1 := by
      rcases seven hj with rfl | rfl | rfl | rfl | rfl | rfl | rfl <;> decide
    have at4 := at3
    have ne3 : a ≠ l3 := ne_of_none at2 n3
    refine ⟨_, rfl, .inl ⟨rfl, _, SqL.of upd_same⟩, l3, [decide (j = 0), decide (j = 1), decide (j = 2), decide (j = 3), decide (j = 4), decide (j = 5), decide (j = 6)], true, rfl, rfl, SqL.of upd_same, rfl, _, rfl, ?_⟩
    rw [cnt]
    refine iteF ?_
    have at5 : ∀ {o : HO}, upd (upd (upd (upd (upd H' a (ExC (.ref (T.cs.getD j 0)) none a)) l1 (.lst [.bl (decide (j = 0)), .bl (decide (j = 1)), .bl (decide (j = 2))])) l2 (.lst [.bl (decide (j = 3)), .bl (decide (j = 4)), .bl (decide (j = 5))])) l3 (.lst ([.bl (decide (j = 0)), .bl (decide (j = 1)), .bl (decide (j = 2))] ++ [.bl (decide (j = 3)), .bl (decide (j = 4)), .bl (decide (j = 5))]))) l3 o a = some (ExC (.ref (T.cs.getD j 0)) none a) := by
      intro o
      rw [upd_ne ne3]
      exact at3
    refine ⟨_, rfl, a, _, _, _, _, rfl, at5, xc, .ty _, cs_kv T hj, _, rfl, ?_⟩
    refine iteF ?_
    have sL : Same H' (upd (upd (upd (upd (upd H' a (ExC (.ref (T.cs.getD j 0)) none a)) l1 (.lst [.bl (decide (j = 0)), .bl (decide (j = 1)), .bl (decide (j = 2))])) l2 (.lst [.bl (decide (j = 3)), .bl (decide (j = 4)), .bl (decide (j = 5))])) l3 (.lst ([.bl (decide (j = 0)), .bl (decide (j = 1)), .bl (decide (j = 2))] ++ [.bl (decide (j = 3)), .bl (decide (j = 4)), .bl (decide (j = 5))]))) l3 (.lst ([.bl (decide (j = 0)), .bl (decide (j = 1)), .bl (decide (j = 2))] ++ [.bl (decide (j = 3)), .bl (decide (j = 4)), .bl (decide (j = 5))] ++ [.bl (decide (j = 6))]))) := by
      intro b o e
      have e3 := (same_new (o := HO.lst [.bl (decide (j = 3)), .bl (decide (j = 4)), .bl (decide (j = 5))]) n2) _ _ ((same_new (o := HO.lst [.bl (decide (j = 0)), .bl (decide (j = 1)), .bl (decide (j = 2))]) n1) _ _ (sA _ _ e))
      rw [upd_ne (ne_of_none e3 n3), upd_ne (ne_of_none e3 n3)]
      exact e3
    refine ⟨(by show 7 ≤ sizeLine; decide), fun l4 n4 => ?_⟩
    have h3 := (same_new (o := .lst [.str "NoRow", .str "NoPoint", .str "Ring", .str "NoTie", .str "Apart", .str "NoPlace", .str "NoDeed"]) n4) _ _ upd_same
    refine ⟨_, rfl, .inl ⟨rfl, _, SqL.of h3⟩, l3, _, _, (([decide (j = 0), decide (j = 1), decide (j = 2), decide (j = 3), decide (j = 4), decide (j = 5), decide (j = 6)] : List Bool).map PyData.bool), j, .bool true, rfl, rfl, .lst (SqL.of h3) (dp_bls [decide (j = 0), decide (j = 1), decide (j = 2), decide (j = 3), decide (j = 4), decide (j = 5), decide (j = 6)]), .bl true, ?_, by decide, ?_, by decide, ?_, ?_⟩
    · rcases seven hj with rfl | rfl | rfl | rfl | rfl | rfl | rfl <;> decide
    · rcases seven hj with rfl | rfl | rfl | rfl | rfl | rfl | rfl <;> rfl
    · intro m z' hm e
      have ez : ∀ b : Bool, PyData.eqv (.bool b) (.bool true) = b := fun b => by cases b <;> decide
      rw [List.getElem?_map] at e
      obtain ⟨b, e1, e2⟩ := Option.map_eq_some_iff.mp e
      rw [← e2, ez]
      have m7 : m < 7 := Nat.lt_trans hm hj
      have e3 : b = decide (j = m) := by
        rcases seven m7 with rfl | rfl | rfl | rfl | rfl | rfl | rfl <;> exact (Option.some.inj e1).symm
      rw [e3]
      exact decide_eq_false fun z => absurd (z ▸ hm) (Nat.lt_irrefl _)
    · refine ⟨l4, _, _, .str (wds.getD j ""), rfl, rfl, SqL.of upd_same, ?_, ?_⟩
      · rcases seven hj with rfl | rfl | rfl | rfl | rfl | rfl | rfl <;> rfl
      · exact q _ (sL.trans (same_new n4))
  · refine ⟨_, rfl, rfl, _, rfl, iteT ?_⟩
    exact ⟨_, rfl, q⟩
end

end My
namespace My
open PySem L2
/-! ### what is found from a point: each one with the next toward it -/
abbrev Tw := List (Int × Option Int)
def keysT (l : Tw) : List Int := l.map Prod.fst
inductive Tow (ts : Ties) (g : Int) : Tw → Prop
  | base : Tow ts g [(g, none)]
  | snoc {l : Tw} {p v : Int} : Tow ts g l → p ∈ keysT l → v ∉ keysT l → Adj ts p v → Tow ts g (l ++ [(v, some p)])
theorem keysT_snoc (l : Tw) (v : Int) (o : Option Int) : keysT (l ++ [(v, o)]) = keysT l ++ [v] := by
  unfold keysT
  rw [List.map_append]
  rfl
theorem Tow.nd {ts : Ties} {g : Int} {l : Tw} (h : Tow ts g l) : (keysT l).Nodup := by
  induction h with
  | base => exact List.nodup_cons.mpr ⟨List.not_mem_nil, List.nodup_nil⟩
  | snoc _ _ nv _ ih =>
    rw [keysT_snoc]
    exact List.nodup_append.mpr ⟨ih, List.nodup_cons.mpr ⟨List.not_mem_nil, List.nodup_nil⟩, fun x m y k z => by
      rw [List.mem_singleton.mp k] at z
      exact nv (z ▸ m)⟩
theorem Tow.rch {ts : Ties} {g : Int} {l : Tw} (h : Tow ts g l) : ∀ v ∈ keysT l, Rch ts g v := by
  induction h with
  | base =>
    intro v m
    rw [List.mem_singleton.mp (show v ∈ [g] from m)]
    exact .refl
  | snoc _ hp _ e ih =>
    intro v m
    rw [keysT_snoc] at m
    rcases List.mem_append.mp m with m | m
    · exact ih v m
    · rw [List.mem_singleton.mp m]
      exact .step (ih _ hp) e
theorem Tow.mem {ts : Ties} {g : Int} {l : Tw} (h : Tow ts g l) : g ∈ keysT l := by
  induction h with
  | base => exact List.mem_cons_self
  | snoc _ _ _ _ ih =>
    rw [keysT_snoc]
    exact List.mem_append_left _ ih
/-- a way that goes on as it is told -/
inductive Fol (l : Tw) (g : Int) : List Int → Prop
  | one : Fol l g [g]
  | cons {v p : Int} {w : List Int} : (v, some p) ∈ l → v ≠ g → Fol l g (p :: w) → Fol l g (v :: p :: w)
theorem Fol.mono {l m : Tw} {g : Int} (s : ∀ x ∈ l, x ∈ m) {w : List Int} (h : Fol l g w) : Fol m g w := by
  induction h with
  | one => exact .one
  | cons e n _ ih => exact .cons (s _ e) n ih
theorem Tow.way {ts : Ties} {g : Int} {l : Tw} (h : Tow ts g l) : ∀ v ∈ keysT l, ∃ w, Way ts v g w ∧ Fol l g w ∧ ∀ x ∈ w, x ∈ keysT l := by
  induction h with
  | base =>
    intro v m
    have e := List.mem_singleton.mp (show v ∈ [g] from m)
    subst e
    refine ⟨[v], ⟨.one v, List.nodup_cons.mpr ⟨List.not_mem_nil, List.nodup_nil⟩⟩, .one, fun x hx => ?_⟩
    rw [List.mem_singleton.mp hx]
    exact List.mem_cons_self
  | @snoc l p v hl hp nv e ih =>
    intro u m
    rw [keysT_snoc] at m
    rcases List.mem_append.mp m with m | m
    · obtain ⟨w, h1, h2, h3⟩ := ih u m
      refine ⟨w, h1, h2.mono fun x hx => List.mem_append_left _ hx, fun x hx => ?_⟩
      rw [keysT_snoc]
      exact List.mem_append_left _ (h3 x hx)
    · have eu := List.mem_singleton.mp m
      subst eu
      obtain ⟨w, h1, h2, h3⟩ := ih p hp
      have nw : u ∉ w := fun z => nv (h3 u z)
      have ng : u ≠ g := fun z => nv (z ▸ hl.mem)
      refine ⟨u :: w, ⟨.cons e.symm h1.wk, List.nodup_cons.mpr ⟨nw, h1.nd⟩⟩, ?_, fun x hx => ?_⟩
      · have h2' := h2.mono fun x hx => List.mem_append_left [(u, some p)] hx
        cases w with
        | nil => exact absurd rfl h1.wk.ne_nil
        | cons y w =>
          have ey : y = p := Option.some.inj h1.wk.head
          subst ey
          exact .cons (List.mem_append_right _ List.mem_cons_self) ng h2'
      · rw [keysT_snoc]
        rcases List.mem_cons.mp hx with rfl | hx
        · exact List.mem_append_right _ List.mem_cons_self
        · exact List.mem_append_left _ (h3 x hx)
theorem closed_rch {ts : Ties} {g : Int} {S : List Int} (hg : g ∈ S) (cl : ∀ v ∈ S, ∀ u, Adj ts v u → u ∈ S) {v : Int} (h : Rch ts g v) : v ∈ S := by
  induction h with
  | refl => exact hg
  | step _ e ih => exact cl _ ih _ e
/-- as Python has it -/
def optV : Option Int → V
  | none => .non
  | some i => .int i
def kvT (l : Tw) : List (Key × V) := l.map fun x => (Sum.inl x.1, optV x.2)
theorem kvT_none {l : Tw} {v : Int} (h : v ∉ keysT l) : valV (kvT l) (Sum.inl v) = none := by
  induction l with
  | nil => rfl
  | cons x l ih =>
    obtain ⟨a, o⟩ := x
    have n1 : ¬ (Sum.inl a : Key) = Sum.inl v := fun z => h (by rw [Sum.inl.inj z]; exact List.mem_cons_self)
    show valV ((Sum.inl a, optV o) :: kvT l) (Sum.inl v) = none
    rw [valV_neg n1]
    exact ih fun z => h (List.mem_cons_of_mem _ z)
theorem kvT_some {l : Tw} {v : Int} {o : Option Int} (nd : (keysT l).Nodup) (h : (v, o) ∈ l) : valV (kvT l) (Sum.inl v) = some (optV o) := by
  induction l with
  | nil => exact nomatch h
  | cons x l ih =>
    obtain ⟨a, o'⟩ := x
    have nd : (a :: keysT l).Nodup := nd
    rw [List.nodup_cons] at nd
    show valV ((Sum.inl a, optV o') :: kvT l) (Sum.inl v) = _
    rcases List.mem_cons.mp h with e | h
    · cases e
      exact valV_pos (p := (Sum.inl v, optV o)) rfl
    · have n1 : ¬ (Sum.inl a : Key) = Sum.inl v := fun z => nd.1 (by rw [Sum.inl.inj z]; exact List.mem_map.mpr ⟨_, h, rfl⟩)
      rw [valV_neg n1]
      exact ih nd.2 h
theorem kvT_get {l : Tw} {v : Int} (nd : (keysT l).Nodup) : (valV (kvT l) (Sum.inl v)).isSome = decide (v ∈ keysT l) := by
  by_cases h : v ∈ keysT l
  · obtain ⟨x, hx, e⟩ := List.mem_map.mp h
    obtain ⟨a, o⟩ := x
    have e : a = v := e
    subst e
    rw [kvT_some nd hx, decide_eq_true h]
    rfl
  · rw [kvT_none h, decide_eq_false h]
    rfl
theorem kvT_put {l : Tw} {v : Int} {o : Option Int} (h : v ∉ keysT l) : putK (kvT l) (Sum.inl v) (optV o) = kvT (l ++ [(v, o)]) := by
  unfold putK
  rw [valV_any, kvT_none h, if_neg (by decide)]
  unfold kvT
  rw [List.map_append]
  rfl
theorem filter_ne_length {a : Int} : ∀ {l : List Int}, l.Nodup → l.length ≤ (l.filter fun x => decide (x ≠ a)).length + 1
  | [], _ => Nat.zero_le _
  | x :: l, nd => by
    rw [List.nodup_cons] at nd
    by_cases e : x = a
    · subst e
      have h : (l.filter fun y => decide (y ≠ x)) = l := List.filter_eq_self.mpr fun y hy => decide_eq_true fun z => nd.1 (z ▸ hy)
      rw [List.filter_cons_of_neg (by simp), h, List.length_cons]
      omega
    · rw [List.filter_cons_of_pos (by simpa using e), List.length_cons, List.length_cons]
      have := filter_ne_length (a := a) nd.2
      omega
/-- as many as are below n, and unlike -/
theorem nodup_le : ∀ {n : Nat} {l : List Int}, l.Nodup → (∀ x ∈ l, 0 ≤ x ∧ x < (n : Int)) → l.length ≤ n
  | 0, [], _, _ => Nat.le_refl _
  | 0, x :: l, _, h => by
    have := h x List.mem_cons_self
    omega
  | n + 1, l, nd, h => by
    have h1 := filter_ne_length (a := (n : Int)) nd
    have h2 := nodup_le (n := n) (l := l.filter fun x => decide (x ≠ (n : Int))) (nd.filter _) fun x hx => by
      obtain ⟨m1, m2⟩ := List.mem_filter.mp hx
      have := h x m1
      have := of_decide_eq_true m2
      omega
    omega

/-! ### deeds of one point -/
theorem TdAll.at {K : PySem.W.Frag} {H : Hp} : ∀ {vs : List V} {ds : List PyData} {i : Nat} {v : V}, TdAll K H vs ds → vs[i]? = some v → ∃ d, ds[i]? = some d ∧ Td K H v d
  | _, _, _, _, .nil, h => nomatch h
  | _, _, 0, v, .cons (d := d) h _, e => ⟨d, rfl, Option.some.inj e ▸ h⟩
  | _, _, i + 1, _, .cons _ k, e => TdAll.at (i := i) k e
theorem TdAll.take {K : PySem.W.Frag} {H : Hp} : ∀ {vs : List V} {ds : List PyData} (i : Nat), TdAll K H vs ds → TdAll K H (vs.take i) (ds.take i)
  | _, _, 0, _ => by
    rw [List.take_zero, List.take_zero]
    exact .nil
  | _, _, _ + 1, .nil => .nil
  | _, _, i + 1, .cons h k => .cons h (TdAll.take i k)
theorem TdAll.drop {K : PySem.W.Frag} {H : Hp} : ∀ {vs : List V} {ds : List PyData} (i : Nat), TdAll K H vs ds → TdAll K H (vs.drop i) (ds.drop i)
  | _, _, 0, k => k
  | _, _, _ + 1, .nil => .nil
  | _, _, i + 1, .cons _ k => TdAll.drop i k
theorem pdata_inv {K : PySem.W.Frag} {H : Hp} {v : V} {p : Int × Str} (h : Td K H v (pdata p)) : ∃ a, v = .ref a ∧ SqT K H a [.int p.1, .str p.2] := by
  cases h with
  | tup h k =>
    cases k with
    | cons k1 k =>
      cases k with
      | cons k2 k =>
        cases k
        cases k1
        cases k2
        exact ⟨_, rfl, h⟩
/-- slices and sums of tuples, by what they hold -/
theorem sl_td {K : PySem.W.Frag} {H : Hp} {a : Addr} {xs : List V} {lo hi : Option Int} {Q : VK} (h : SqT K H a xs) (q : ∀ (p : Addr) (H' : Hp), Same H H' → SqT K H' p (cutV xs lo hi) → Q (.ref p) H') : rSlA K (.ref a) lo hi H Q := by
  refine ⟨a, xs, rfl, h, fun w => ?_, fun _ p np => q p _ (same_new np) (SqT.of upd_same)⟩
  refine q a H (fun _ _ z => z) ?_
  rw [cut_whole w]
  exact h
theorem cat_td {K : PySem.W.Frag} {H : Hp} {a b : Addr} {xs ys : List V} {Q : VK} (ha : SqT K H a xs) (hb : SqT K H b ys) (hz : xs.length + ys.length ≤ sizeLine) (q : ∀ (p : Addr) (H' : Hp), Same H H' → SqT K H' p (xs ++ ys) → Q (.ref p) H') : rCatA K (.ref a) (.ref b) H Q := by
  refine ⟨a, b, xs, ys, rfl, rfl, ha, hb, hz, fun e => ?_, fun _ e => ?_, fun _ _ p np => q p _ (same_new np) (SqT.of upd_same)⟩
  · refine q b H (fun _ _ z => z) ?_
    rw [e, List.nil_append]
    exact hb
  · refine q a H (fun _ _ z => z) ?_
    rw [e, List.append_nil]
    exact ha
theorem sqs {K : PySem.W.Frag} {H H' : Hp} {a : Addr} {xs : List V} (h : SqT K H a xs) (s : Same H H') : SqT K H' a xs := Tups.of_same s _ _ h
theorem set_eq {α : Type} {xs : List α} {i : Nat} {x : α} (h : i < xs.length) : xs.take i ++ [x] ++ xs.drop (i + 1) = xs.set i x := by
  rw [List.set_eq_take_append_cons_drop, if_pos h, List.append_assoc]
  rfl

end My
namespace My
open PySem L2
/-! ### neighbours -/
def nbOk (ts : Ties) (nbs : List (List Int)) : Prop := ∀ (i : Nat) (nb : List Int), nbs[i]? = some nb → ∀ j, j ∈ nb ↔ Adj ts (i : Int) j
/-- the lists of neighbours stand in H, all of them new since H0 -/
structure Arnd (H0 H : Hp) (L : Addr) (nbs : List (List Int)) : Prop where
  ex : ∃ ls : List Addr, H L = some (.lst (ls.map V.ref)) ∧ ls.Nodup ∧ ls.length = nbs.length ∧ H0 L = none ∧ (∀ a ∈ ls, H0 a = none ∧ a ≠ L) ∧ ∀ (i : Nat) (a : Addr), ls[i]? = some a → ∃ nb : List Int, nbs[i]? = some nb ∧ H a = some (.lst (nb.map V.int))
theorem Arnd.same {H0 H H' : Hp} {L : Addr} {nbs : List (List Int)} (h : Arnd H0 H L nbs) (s : Same H H') : Arnd H0 H' L nbs := by
  obtain ⟨ls, h1, h2, h3, h4, h5, h6⟩ := h.ex
  refine ⟨ls, s _ _ h1, h2, h3, h4, h5, fun i a e => ?_⟩
  obtain ⟨nb, e1, e2⟩ := h6 i a e
  exact ⟨nb, e1, s _ _ e2⟩
theorem nd_inj {α : Type} : ∀ {l : List α} {i j : Nat} {x : α}, l.Nodup → l[i]? = some x → l[j]? = some x → i = j
  | [], _, _, _, _, h, _ => nomatch h
  | y :: l, 0, 0, x, _, _, _ => rfl
  | y :: l, 0, j + 1, x, nd, h1, h2 => by
    have e : y = x := Option.some.inj h1
    subst e
    exact absurd (List.mem_of_getElem? (show l[j]? = some y from h2)) (List.nodup_cons.mp nd).1
  | y :: l, i + 1, 0, x, nd, h1, h2 => by
    have e : y = x := Option.some.inj h2
    subst e
    exact absurd (List.mem_of_getElem? (show l[i]? = some y from h1)) (List.nodup_cons.mp nd).1
  | y :: l, i + 1, j + 1, x, nd, h1, h2 => congrArg (· + 1) (nd_inj (l := l) (List.nodup_cons.mp nd).2 h1 h2)
def NB (nbs : List (List Int)) (R : Nat → Int → Prop) : Prop := ∀ (k : Nat) (nb : List Int), nbs[k]? = some nb → ∀ j, j ∈ nb ↔ R k j
theorem NB.put {nbs : List (List Int)} {R : Nat → Int → Prop} {i : Nat} {nb : List Int} {j : Int} (h : NB nbs R) (hn : nbs[i]? = some nb) : NB (nbs.set i (nb ++ [j])) (fun k m => R k m ∨ (k = i ∧ m = j)) := by
  intro k nb' e m
  by_cases hk : i = k
  · subst hk
    rw [List.getElem?_set_self (List.getElem?_eq_some_iff.mp hn).1] at e
    have e := Option.some.inj e
    subst e
    rw [List.mem_append, List.mem_singleton, h i nb hn m]
    constructor
    · rintro (z | z)
      · exact .inl z
      · exact .inr ⟨rfl, z⟩
    · rintro (z | ⟨_, z⟩)
      · exact .inl z
      · exact .inr z
  · rw [List.getElem?_set_ne hk] at e
    rw [h k nb' e m]
    constructor
    · exact .inl
    · rintro (z | ⟨z, _⟩)
      · exact z
      · exact absurd z.symm hk
theorem get_at {α : Type} {xs : List α} {i : Nat} (h : i < xs.length) : ∃ x, xs[i]? = some x := ⟨xs[i], List.getElem?_eq_getElem h⟩
/-- one list of them longer by one -/
theorem Arnd.put {H0 H : Hp} {L : Addr} {nbs : List (List Int)} {i : Nat} {a : Addr} {nb : List Int} {j : Int} (h : Arnd H0 H L nbs) (ls : List Addr) (hL : H L = some (.lst (ls.map V.ref))) (ha : ls[i]? = some a) (hn : nbs[i]? = some nb) (hA : H a = some (.lst (nb.map V.int))) :
    Arnd H0 (upd H a (.lst (nb.map V.int ++ [.int j]))) L (nbs.set i (nb ++ [j])) ∧ H0 a = none := by
  obtain ⟨ls', h1, h2, h3, h4, h5, h6⟩ := h.ex
  have eas : ls' = ls := by
    rw [hL] at h1
    have z := HO.lst.inj (Option.some.inj h1)
    have inj : ∀ {x y : List Addr}, x.map V.ref = y.map V.ref → x = y := by
      intro x
      induction x with
      | nil =>
        intro y e
        cases y with
        | nil => rfl
        | cons _ _ => exact nomatch e
      | cons b x ih =>
        intro y e
        cases y with
        | nil => exact nomatch e
        | cons c y =>
          obtain ⟨e1, e2⟩ := List.cons.inj e
          rw [V.ref.inj e1, ih e2]
    exact (inj z).symm
  subst eas
  have ma := List.mem_of_getElem? ha
  have il : i < nbs.length := (List.getElem?_eq_some_iff.mp hn).1
  refine ⟨⟨ls', ?_, h2, by rw [List.length_set]; exact h3, h4, h5, fun k b e => ?_⟩, (h5 a ma).1⟩
  · rw [upd_ne (h5 a ma).2.symm]
    exact h1
  · by_cases eb : b = a
    · subst eb
      have ek : k = i := nd_inj h2 e ha
      subst ek
      exact ⟨nb ++ [j], by rw [List.getElem?_set_self il], by rw [upd_same, List.map_append]; rfl⟩
    · obtain ⟨nb', e1, e2⟩ := h6 k b e
      have nk : i ≠ k := fun z => eb (by subst z; rw [ha] at e; exact (Option.some.inj e).symm)
      exact ⟨nb', by rw [List.getElem?_set_ne nk]; exact e1, by rw [upd_ne eb]; exact e2⟩
theorem Arnd.at_ {H0 H : Hp} {L : Addr} {nbs : List (List Int)} (h : Arnd H0 H L nbs) {i : Int} (h0 : 0 ≤ i) (h1 : i < (nbs.length : Int)) : ∃ (ls : List Addr) (a : Addr) (nb : List Int), H L = some (.lst (ls.map V.ref)) ∧ ls[i.toNat]? = some a ∧ atI (ls.map V.ref) i = some (.ref a) ∧ nbs[i.toNat]? = some nb ∧ H a = some (.lst (nb.map V.int)) := by
  obtain ⟨ls, g1, g2, g3, g4, g5, g6⟩ := h.ex
  obtain ⟨a, ha⟩ := get_at (xs := ls) (i := i.toNat) (by omega)
  obtain ⟨nb, e1, e2⟩ := g6 _ _ ha
  refine ⟨ls, a, nb, g1, ha, ?_, e1, e2⟩
  have ei : i = ((i.toNat : Nat) : Int) := by omega
  rw [ei]
  refine atI_nat ?_
  rw [List.getElem?_map, ha]
  rfl
def spNb (K : PySem.W.Frag) : Sp := fun vs H Q _ => ∃ (f : V) (pts : List (Int × Str)) (ts : List (Int × Int)), vs = [f] ∧ Td K H f (fdata pts ts) ∧ FrOk pts ts ∧
  ∀ (L : Addr) (nbs : List (List Int)) (H' : Hp), Same H H' → Arnd H H' L nbs → nbs.length = pts.length → nbOk ts nbs → Q (.ref L) H'
section
variable {P : Program} {w : World} {K : PySem.W.Frag} {mg : Str → Option Value} {base : Heap}
theorem ok_nb (T : Top w K mg) : FnOk P w K mg base CX0 1 T.a_neighbours T.d_neighbours ["forest"] (spNb K) := by
  refine T.F_neighbours.ok sc_neighbours (fun vs H Q E h => ?_) (fun cdv A outer s H vs Q E hr h => ?_)
  · obtain ⟨f, pts, ts, rfl, _⟩ := h
    rfl
  · obtain ⟨f, pts, ts, rfl, hf, fok, q⟩ := h
    obtain ⟨fa, pa, ta, xs, ys, rfl, f1, f2, f3, f4, f5⟩ := Td.parts hf
    have lxs : xs.length = pts.length := by
      rw [f3.length, List.length_map]
    have lys : ys.length = ts.length := by
      rw [f5.length, List.length_map]
    refine ⟨_, (pss_cons (ps_asg (pv 0) (pg_tup rfl (pgs_cons (pg_name (i := 1) sc_neighbours.nd rfl (.inl rfl)) (pgs_cons (pg_name (i := 2) sc_neighbours.nd rfl (.inl rfl)) pgs_nil))))
      (pss_cons (ps_setLc (i := 3) (own := [("point", 4)]) (g := gName 4) (tt := tYes) (by rfl) sc_neighbours.nd rfl rfl (sw_true rfl rfl rfl (by decide +kernel)) (pi_tup (pv 1)) (blkOk_by (own := [("point", 4)]) (N := ["forest", "points", "ties", "around", "point", "a", "b"]) (sc := defScope s_neighbours) (by decide +kernel)) (fun _ _ _ _ _ => (pg_name (i := 4) sc_neighbours.nd rfl (.inl rfl))) (fun _ _ _ _ _ => pts_nil) (fun _ _ _ _ _ => (pe_lst pa_nil)))
      (pss_cons (ps_for PassesOwn.never rfl (pi_tup (pv 2)) (pg_tup rfl (pgs_cons (pg_name (i := 5) sc_neighbours.nd rfl (.inl rfl)) (pgs_cons (pg_name (i := 6) sc_neighbours.nd rfl (.inl rfl)) pgs_nil))) (pss_cons (ps_expr (pe_bm PySem.F.plainAttrs_list PySem.F.slot_list_append PySem.F.type_list_append mt_append (pe_ix ix_list (pv 3) (pv 5) (fun _ _ => rfl)) (pa_cons (pv 6) pa_nil)))
      (pss_one (ps_expr (pe_bm PySem.F.plainAttrs_list PySem.F.slot_list_append PySem.F.type_list_append mt_append (pe_ix ix_list (pv 3) (pv 6) (fun _ _ => rfl)) (pa_cons (pv 5) pa_nil))))))
      (pss_one (ps_ret (pv 3)))))), ?_⟩
    refine ⟨_, rfl, fa, _, rfl, f1, rfl, _, _, rfl, _, _, rfl, rfl, ?_⟩
    refine ⟨_, rfl, pa, rfl, ⟨_, f2⟩, fun D nD => ?_⟩
    have few := fok.few
    have tl := fok.tl
    refine lc_tup (xs := xs) (fun i H' => Same H H' ∧ Arnd H H' D (List.replicate i [])) ⟨same_new nD, ⟨[], upd_same, List.nodup_nil, rfl, nD, (fun a m => nomatch m), (fun i a e => nomatch e)⟩⟩ (fun i H' hi hq => sqs f2 hq.1) (fun i x H' hx hq => ?_) (fun H' hq => ?_)
    · obtain ⟨s1, ls, h1, h2, h3, h4, h5, h6⟩ := hq
      refine ⟨rfl, yes_ite ?_⟩
      refine ⟨Nat.zero_le _, fun p np => ?_⟩
      have sp := same_new (o := .lst []) np
      have nDp : D ≠ p := ne_of_none h1 np
      have hil := (List.getElem?_eq_some_iff.mp hx).1
      refine ⟨_, sp _ _ h1, szl (by rw [List.length_map, h3, List.length_replicate]; omega), ?_, ?_⟩
      · intro c o e
        rw [upd_ne (ne_of_none e nD)]
        exact sp _ _ (s1 _ _ e)
      · have np0 : H p = none := s1.free np
        have npas : p ∉ ls := fun m => by
          obtain ⟨k, hk⟩ := List.mem_iff_getElem?.mp m
          obtain ⟨nb, _, e2⟩ := h6 k p hk
          rw [np] at e2
          cases e2
        refine ⟨ls ++ [p], ?_, List.nodup_append.mpr ⟨h2, List.nodup_cons.mpr ⟨List.not_mem_nil, List.nodup_nil⟩, fun x m y k z => by rw [List.mem_singleton.mp k] at z; exact npas (z ▸ m)⟩, ?_, nD, ?_, ?_⟩
        · rw [upd_same, List.map_append]
          rfl
        · rw [List.length_append, h3, List.length_replicate, List.length_replicate]
          rfl
        · intro a m
          rcases List.mem_append.mp m with m | m
          · exact h5 a m
          · rw [List.mem_singleton.mp m]
            exact ⟨np0, nDp.symm⟩
        · intro k a e
          by_cases hk : k < ls.length
          · rw [List.getElem?_append_left hk] at e
            obtain ⟨nb, e1, e2⟩ := h6 k a e
            have e3 := List.eq_of_mem_replicate (List.mem_of_getElem? e1)
            subst e3
            refine ⟨[], ?_, ?_⟩
            · rw [List.getElem?_replicate, if_pos (by rw [h3, List.length_replicate] at hk; omega)]
            · rw [upd_ne (h5 a (List.mem_of_getElem? e)).2, upd_ne (show a ≠ p from fun z => npas (by rw [← z]; exact List.mem_of_getElem? e))]
              exact e2
          · rw [List.getElem?_append_right (by omega)] at e
            cases hk2 : k - ls.length with
            | zero =>
              rw [hk2] at e
              have ea : p = a := Option.some.inj e
              subst ea
              refine ⟨[], ?_, ?_⟩
              · rw [List.getElem?_replicate, if_pos (by rw [h3, List.length_replicate] at hk2 hk; omega)]
              · rw [upd_ne nDp.symm, upd_same]
                rfl
            | succ n =>
              rw [hk2] at e
              cases e
    · obtain ⟨s1, har⟩ := hq
      rw [lxs] at har
      refine ⟨_, rfl, ta, rfl, ⟨_, sqs f4 s1⟩, for_tup (xs := ys) (fun i σ H2 => (∃ y4 y5 y6, σ = [some (.ref fa), some (.ref pa), some (.ref ta), some (.ref D), y4, y5, y6]) ∧ Same H H2 ∧ ∃ nbs, Arnd H H2 D nbs ∧ nbs.length = pts.length ∧ nbOk (ts.take i) nbs ∧ ∀ nb ∈ nbs, nb.length ≤ 2 * i) ⟨⟨_, _, _, rfl⟩, s1, _, har, List.length_replicate, ?_, ?_⟩ (fun i σ H2 _ h => sqs f4 h.2.1) ?_ ?_⟩
      · intro k nb e j
        rw [List.eq_of_mem_replicate (List.mem_of_getElem? e), List.take_zero]
        constructor
        · intro z
          cases z
        · rintro (z | z)
          · cases z
          · cases z
      · intro nb m
        rw [List.eq_of_mem_replicate m]
        exact Nat.zero_le _
      · rintro i x σ H2 hx ⟨⟨y4, y5, y6, rfl⟩, s2, nbs, har2, hlen2, hnb2, hsm2⟩
        have hil := (List.getElem?_eq_some_iff.mp hx).1
        obtain ⟨dv, hdv, tdv⟩ := TdAll.at f5 hx
        rw [List.getElem?_map] at hdv
        obtain ⟨t0, ht0, rfl⟩ := Option.map_eq_some_iff.mp hdv
        obtain ⟨tp, rfl, htp⟩ := tdata_inv tdv
        obtain ⟨ta0, ta1, tb0, tb1⟩ : 0 ≤ t0.1 ∧ t0.1 < (nbs.length : Int) ∧ 0 ≤ t0.2 ∧ t0.2 < (nbs.length : Int) := by
          have z := fok.tok t0 (List.mem_of_getElem? ht0)
          rw [hlen2]
          exact ⟨z.1, z.2.2.1, z.2.1, z.2.2.2⟩
        refine ⟨tp, _, rfl, sqs htp s2, rfl, _, _, rfl, _, _, rfl, rfl, ?_⟩
        obtain ⟨ls, a, nb, hL, ha, hat, hn, hA⟩ := har2.at_ ta0 ta1
        have hs1 := hsm2 nb (List.mem_of_getElem? hn)
        refine ⟨_, rfl, _, rfl, D, _, _, _, rfl, rfl, SqL.of hL, hat, .inl ⟨rfl, _, SqL.of hA⟩, _, rfl, a, _, _, rfl, rfl, hA, szl (by rw [List.length_map]; omega), ?_⟩
        obtain ⟨har3, na⟩ := har2.put (j := t0.2) ls hL ha hn hA
        have s3 : Same H (upd H2 a (.lst (nb.map V.int ++ [.int t0.2]))) := fun c o e => by
          rw [upd_ne (ne_of_none e na)]
          exact s2 _ _ e
        have hnb3 := NB.put (j := t0.2) hnb2 hn
        obtain ⟨ls', a', nb', hL', ha', hat', hn', hA'⟩ := har3.at_ (i := t0.2) tb0 (by rw [List.length_set]; exact tb1)
        have hs2 : nb'.length ≤ 2 * i + 1 := by
          by_cases ek : t0.1.toNat = t0.2.toNat
          · rw [← ek, List.getElem?_set_self (List.getElem?_eq_some_iff.mp hn).1] at hn'
            rw [← Option.some.inj hn', List.length_append, List.length_singleton]
            omega
          · rw [List.getElem?_set_ne ek] at hn'
            have := hsm2 nb' (List.mem_of_getElem? hn')
            omega
        refine ⟨_, rfl, _, rfl, D, _, _, _, rfl, rfl, SqL.of hL', hat', .inl ⟨rfl, _, SqL.of hA'⟩, _, rfl, a', _, _, rfl, rfl, hA', szl (by rw [List.length_map]; omega), ?_⟩
        obtain ⟨har4, na'⟩ := har3.put (j := t0.1) ls' hL' ha' hn' hA'
        have hnb4 := NB.put (j := t0.1) hnb3 hn'
        refine ⟨⟨_, _, _, rfl⟩, ?_, _, har4, by rw [List.length_set, List.length_set]; exact hlen2, ?_, ?_⟩
        · intro c o e
          rw [upd_ne (ne_of_none e na')]
          exact s3 _ _ e
        · intro k nb2 e j
          rw [hnb4 k nb2 e j, take_at ht0]
          unfold Adj
          rw [List.mem_append, List.mem_append, List.mem_singleton, List.mem_singleton]
          constructor
          · rintro ((z | ⟨z1, z2⟩) | ⟨z1, z2⟩)
            · rcases z with z | z
              · exact .inl (.inl z)
              · exact .inr (.inl z)
            · refine .inl (.inr ?_)
              have : (k : Int) = t0.1 := by omega
              rw [this, z2]
            · refine .inr (.inr ?_)
              have : (k : Int) = t0.2 := by omega
              rw [this, z2]
          · rintro ((z | z) | (z | z))
            · exact .inl (.inl (.inl z))
            · refine .inl (.inr ?_)
              rw [← z]
              exact ⟨by simp, rfl⟩
            · exact .inl (.inl (.inr z))
            · refine .inr ?_
              rw [← z]
              exact ⟨by simp, rfl⟩
        · intro nb2 m
          have len1 : ∀ x ∈ nbs.set t0.1.toNat (nb ++ [t0.2]), x.length ≤ 2 * i + 1 := fun x hx => by
            rcases List.mem_or_eq_of_mem_set hx with z | z
            · have := hsm2 x z
              omega
            · rw [z, List.length_append, List.length_singleton]
              omega
          rcases List.mem_or_eq_of_mem_set m with z | z
          · have := len1 nb2 z
            omega
          · rw [z, List.length_append, List.length_singleton]
            omega
      · rintro σ H2 ⟨⟨y4, y5, y6, rfl⟩, s2, nbs, har2, hlen2, hnb2, _⟩
        rw [List.take_of_length_le (by omega)] at hnb2
        exact ⟨_, rfl, q D nbs H2 s2 har2 hlen2 hnb2⟩
end

end My
namespace My
open PySem L2
/-! ### steps_toward -/
def spSteps (K : PySem.W.Frag) : Sp := fun vs H Q _ => ∃ (f : V) (g : Int) (pts : List (Int × Str)) (ts : List (Int × Int)), vs = [f, .int g] ∧ Td K H f (fdata pts ts) ∧ FrOk pts ts ∧ 0 ≤ g ∧ g < (pts.length : Int) ∧
  ∀ (d : Addr) (l : Tw) (H' : Hp), Same H H' → H d = none → H' d = some (.dK (kvT l)) → Tow ts g l → (∀ v, v ∈ keysT l ↔ Rch ts g v) → (∀ v ∈ keysT l, 0 ≤ v ∧ v < (pts.length : Int)) → Q (.ref d) H'
theorem adj_in {pts : List (Int × Str)} {ts : List (Int × Int)} (fok : FrOk pts ts) {a b : Int} (h : Adj ts a b) : 0 ≤ b ∧ b < (pts.length : Int) := by
  rcases h with h | h
  · have := fok.tok _ h
    exact ⟨this.2.1, this.2.2.2⟩
  · have := fok.tok _ h
    exact ⟨this.1, this.2.2.1⟩
section
variable {P : Program} {w : World} {K : PySem.W.Frag} {mg : Str → Option Value} {base : Heap}
theorem ok_steps (T : Top w K mg) : FnOk P w K mg base CX0 2 T.a_stepstoward T.d_stepstoward ["forest", "goal"] (spSteps K) := by
  have G_neighbours : FnOk P w K mg base CX0 1 _ _ _ _ := ok_nb T
  refine T.F_stepstoward.ok sc_stepstoward (fun vs H Q E h => ?_) (fun cdv A outer s H vs Q E hr h => ?_)
  · obtain ⟨f, g, pts, ts, rfl, _⟩ := h
    rfl
  · obtain ⟨f, g, pts, ts, rfl, hf, fok, g0, g1, q⟩ := h
    have few := fok.few
    refine ⟨_, (pss_cons (ps_set (i := 2) sc_stepstoward.nd rfl (.inl rfl) (pe_call G_neighbours hr (by rfl) T.g_neighbours T.F_neighbours.kp T.b_neighbours .nil pass0 (pa_cons (pv 0) pa_nil)))
      (pss_cons (ps_set (i := 3) sc_stepstoward.nd rfl (.inl rfl) (pe_disp (pps_cons (pv 1) pe_non pps_nil) (by rfl) (by rfl) (fun z => by cases z) (by decide)))
      (pss_cons (ps_set (i := 4) sc_stepstoward.nd rfl (.inl rfl) (pe_lst (pa_cons (pv 1) pa_nil)))
      (pss_cons (ps_while PassesOwn.never (pt_truth (pv 4) (by intro _; rfl)) (pss_cons (ps_set (i := 5) sc_stepstoward.nd rfl (.inl rfl) (pe_bm0 PySem.F.plainAttrs_list PySem.F.slot_list_pop PySem.F.type_list_pop mt_pop (pv 4)))
      (pss_one (ps_for PassesOwn.never rfl (pi_list (pe_ix ix_list (pv 2) (pv 5) (fun _ _ => rfl))) (pg_name (i := 6) sc_stepstoward.nd rfl (.inl rfl)) (pss_one (ps_if (pt_cmp (pc_dnotin (u1 hr) (pv 6) (pv 3))) (pss_cons (ps_dput (u1 hr) (pv 3) (pv 6) (pv 5) rfl)
      (pss_one (ps_expr (pe_bm PySem.F.plainAttrs_list PySem.F.slot_list_append PySem.F.type_list_append mt_append (pv 4) (pa_cons (pv 6) pa_nil))))) pss_nil))))))
      (pss_one (ps_ret (pv 3))))))), ?_⟩
    refine ⟨_, rfl, f, pts, ts, rfl, hf, fok, fun L nbs H1 s1 har hlen hnb => ?_⟩
    refine fun d nd => ⟨_, rfl, upd_same, [(Sum.inl g, .non)], rfl, (by show 1 ≤ 15; decide), ?_⟩
    rw [upd_upd]
    have ekv : mergeK [] [((Sum.inl g : Key), V.non)] = kvT [(g, none)] := rfl
    rw [ekv]
    have s2 : Same H1 (upd H1 d (.dK (kvT [(g, none)]))) := same_new nd
    have hd2 : upd H1 d (.dK (kvT [(g, none)])) d = some (.dK (kvT [(g, none)])) := upd_same
    generalize upd H1 d (.dK (kvT [(g, none)])) = H2 at s2 hd2 ⊢
    have nd0 : H d = none := s1.free nd
    refine ⟨_, rfl, (by show 1 ≤ sizeLine; decide), fun W nW => ?_⟩
    have nW1 : H1 W = none := s2.free nW
    have nW0 : H W = none := s1.free nW1
    have dW : d ≠ W := ne_of_none hd2 nW
    have s3 := same_new (o := .lst [.int g]) nW
    have hd3 := s3 _ _ hd2
    have har3 : Arnd H (upd H2 W (.lst [.int g])) L nbs := (har.same s2).same s3
    -- what stands but d and W
    refine ⟨fun m σ H4 => ∃ (l : Tw) (ws : List Int) (y5 y6 : Option V), σ = [some f, some (.int g), some (.ref L), some (.ref d), some (.ref W), y5, y6] ∧ (∀ c o, H1 c = some o → H4 c = some o) ∧ H4 d = some (.dK (kvT l)) ∧ H4 W = some (.lst (ws.map V.int)) ∧ Tow ts g l ∧ (∀ v ∈ ws, v ∈ keysT l) ∧ (∀ v ∈ keysT l, v ∉ ws → ∀ u, Adj ts v u → u ∈ keysT l) ∧ (∀ v ∈ keysT l, 0 ≤ v ∧ v < (pts.length : Int)) ∧ m = 2 * (pts.length - l.length) + ws.length ∧ l.length ≤ pts.length ∧ ws.length ≤ l.length, ⟨_, [(g, none)], [g], none, none, rfl, ?_, hd3, upd_same, .base, ?_, ?_, ?_, rfl, ?_, ?_⟩, ?_⟩
    · exact fun c o e => s3 _ _ (s2 _ _ e)
    · exact fun v m => m
    · intro v m n
      exact absurd m n
    · intro v m
      rw [List.mem_singleton.mp (show v ∈ [g] from m)]
      exact ⟨g0, g1⟩
    · show 1 ≤ pts.length
      omega
    · exact Nat.le_refl _
    · rintro m σ H4 ⟨l, ws, y5, y6, rfl, k4, hd4, hW4, tow, hws, hcl, hin, rfl, hlp, hwl⟩
      refine ⟨_, rfl, !ws.isEmpty, .inl ⟨_, SqL.of hW4, by cases ws <;> rfl⟩, ?_⟩
      rcases List.eq_nil_or_concat ws with rfl | ⟨ws', h0, rfl⟩
      · refine iteF ?_
        refine ⟨_, rfl, ?_⟩
        have hrch : ∀ v, v ∈ keysT l ↔ Rch ts g v := fun v => ⟨tow.rch v, closed_rch tow.mem fun v hv u e => hcl v hv (fun z => nomatch z) u e⟩
        exact q d l H4 (fun c o e => k4 _ _ (s1 _ _ e)) nd0 hd4 tow hrch hin
      · have ne : (!(ws' ++ [h0]).isEmpty) = true := by cases ws' <;> rfl
        rw [List.concat_eq_append] at *
        rw [ne]
        refine iteT ?_
        have hh : h0 ∈ keysT l := hws h0 (List.mem_append_right _ List.mem_cons_self)
        obtain ⟨hh0, hh1⟩ := hin h0 hh
        refine ⟨fun σ' H5 => ∃ (l' : Tw) (ws2 : List Int) (y6 : Option V), σ' = [some f, some (.int g), some (.ref L), some (.ref d), some (.ref W), some (.int h0), y6] ∧ (∀ c o, H1 c = some o → H5 c = some o) ∧ H5 d = some (.dK (kvT l')) ∧ H5 W = some (.lst (ws2.map V.int)) ∧ Tow ts g l' ∧ (∀ v ∈ ws2, v ∈ keysT l') ∧ (∀ v ∈ keysT l', v ∉ ws2 → ∀ u, Adj ts v u → u ∈ keysT l') ∧ (∀ v ∈ keysT l', 0 ≤ v ∧ v < (pts.length : Int)) ∧ (ws2.length + l.length = ws'.length + l'.length ∧ l.length ≤ l'.length) ∧ l'.length ≤ pts.length ∧ ws2.length ≤ l'.length, ?_, ?_⟩
        · rintro σ' H5 ⟨l', ws2, y6, rfl, k5, hd5, hW5, tow5, hws5, hcl5, hin5, hm5, hlp5, hwl5⟩
          refine ⟨_, ?_, l', ws2, _, _, rfl, k5, hd5, hW5, tow5, hws5, hcl5, hin5, rfl, hlp5, hwl5⟩
          rw [List.length_append, List.length_singleton]
          omega
        · have epop : ((ws' ++ [h0]).map V.int)[((ws' ++ [h0]).map V.int).length - 1]? = some (.int h0) := by
            rw [List.map_append, List.length_append]
            show ((ws'.map V.int) ++ [V.int h0])[(ws'.map V.int).length + 1 - 1]? = _
            rw [Nat.add_sub_cancel, List.getElem?_append_right (Nat.le_refl _), Nat.sub_self]
            rfl
          refine ⟨_, rfl, .inl ⟨rfl, _, SqL.of hW4⟩, W, _, _, rfl, rfl, hW4, epop, ?_⟩
          have edrop : ((ws' ++ [h0]).map V.int).dropLast = ws'.map V.int := by
            rw [List.map_append]
            exact List.dropLast_concat
          rw [edrop]
          have k5 : ∀ c o, H1 c = some o → upd H4 W (.lst (ws'.map V.int)) c = some o := fun c o e => by
            rw [upd_ne (ne_of_none e nW1)]
            exact k4 _ _ e
          have hd5 : upd H4 W (.lst (ws'.map V.int)) d = some (.dK (kvT l)) := by
            rw [upd_ne dW]
            exact hd4
          have hW5 : upd H4 W (.lst (ws'.map V.int)) W = some (.lst (ws'.map V.int)) := upd_same
          generalize upd H4 W (.lst (ws'.map V.int)) = H5 at k5 hd5 hW5 ⊢
          obtain ⟨ls, a, nb, hL, ha, hat, hn, hA⟩ := (har.same k5).at_ (i := h0) hh0 (by omega)
          have hnb0 : ∀ j, j ∈ nb ↔ Adj ts h0 j := fun j => by
            have z := hnb _ _ hn j
            have e : ((h0.toNat : Nat) : Int) = h0 := by omega
            rw [e] at z
            exact z
          have hA1 : ∃ o, H1 a = some o ∧ o = .lst (nb.map V.int) := by
            obtain ⟨ls1, g1', g2', g3', g4', g5', g6'⟩ := har.ex
            have e1 := k5 _ _ g1'
            rw [hL] at e1
            have inj : ls.map V.ref = ls1.map V.ref := HO.lst.inj (Option.some.inj e1)
            have e2 : (ls1.map V.ref)[h0.toNat]? = some (.ref a) := by
              rw [← inj, List.getElem?_map, ha]
              rfl
            rw [List.getElem?_map] at e2
            obtain ⟨a1, e3, e4⟩ := Option.map_eq_some_iff.mp e2
            cases e4
            obtain ⟨nb1, e5, e6⟩ := g6' _ _ e3
            rw [hn] at e5
            cases e5
            exact ⟨_, e6, rfl⟩
          obtain ⟨oA, hA1, rfl⟩ := hA1
          refine ⟨_, rfl, _, rfl, L, _, _, _, rfl, rfl, SqL.of hL, hat, a, rfl, ⟨_, SqL.of hA⟩, for_list (xs := nb.map V.int) (fun j σ' H6 => ∃ (l' : Tw) (ws2 : List Int) (y6 : Option V), σ' = [some f, some (.int g), some (.ref L), some (.ref d), some (.ref W), some (.int h0), y6] ∧ (∀ c o, H1 c = some o → H6 c = some o) ∧ H6 d = some (.dK (kvT l')) ∧ H6 W = some (.lst (ws2.map V.int)) ∧ Tow ts g l' ∧ h0 ∈ keysT l' ∧ (∀ v ∈ ws2, v ∈ keysT l') ∧ (∀ v ∈ keysT l', v ∉ ws2 → v ≠ h0 → ∀ u, Adj ts v u → u ∈ keysT l') ∧ (∀ u ∈ nb.take j, u ∈ keysT l') ∧ (∀ v ∈ keysT l', 0 ≤ v ∧ v < (pts.length : Int)) ∧ (ws2.length + l.length = ws'.length + l'.length ∧ l.length ≤ l'.length) ∧ l'.length ≤ pts.length ∧ ws2.length ≤ l'.length)
            ⟨l, ws', _, rfl, k5, hd5, hW5, tow, hh, fun v m => hws v (List.mem_append_left _ m), ?_, (fun u z => nomatch z), hin, ⟨rfl, Nat.le_refl _⟩, hlp, ?_⟩ (fun j σ' H6 _ hq => ?_) ?_ ?_⟩
          · intro v hv nv nh u e
            refine hcl v hv (fun z => ?_) u e
            rcases List.mem_append.mp z with z | z
            · exact nv z
            · exact nh (List.mem_singleton.mp z)
          · rw [List.length_append, List.length_singleton] at hwl
            omega
          · obtain ⟨l', ws2, y6, rfl, k6, _⟩ := hq
            exact SqL.of (k6 _ _ hA1)
          · rintro j x σ' H6 hx ⟨l', ws2, y6, rfl, k6, hd6, hW6, tow6, hh6, hws6, hcl6, hpr6, hin6, hm6, hlp6, hwl6⟩
            rw [List.getElem?_map] at hx
            obtain ⟨u, hu, rfl⟩ := Option.map_eq_some_iff.mp hx
            have adj : Adj ts h0 u := (hnb0 u).mp (List.mem_of_getElem? hu)
            have hget := kvT_get (v := u) tow6.nd
            refine ⟨_, rfl, _, rfl, d, _, rfl, DGet.k (k := Sum.inl u) hd6, _, rfl, ?_⟩
            rw [hget]
            by_cases mu : u ∈ keysT l'
            · rw [decide_eq_true mu]
              refine iteF ?_
              refine ⟨l', ws2, _, rfl, k6, hd6, hW6, tow6, hh6, hws6, hcl6, ?_, hin6, hm6, hlp6, hwl6⟩
              intro v m
              rw [take_at hu] at m
              rcases List.mem_append.mp m with m | m
              · exact hpr6 v m
              · rw [List.mem_singleton.mp m]
                exact mu
            · rw [decide_eq_false mu]
              refine iteT ?_
              have ll : (kvT l').length = l'.length := List.length_map ..
              refine ⟨_, rfl, _, rfl, _, rfl, d, _, rfl, DPut.k (k := Sum.inl u) (v := .int h0) hd6 (szl (by omega)), ?_⟩
              have eput : putK (kvT l') (Sum.inl u) (V.int h0) = kvT (l' ++ [(u, some h0)]) := kvT_put (o := some h0) mu
              rw [eput]
              have hd7 : upd H6 d (.dK (kvT (l' ++ [(u, some h0)]))) d = some (.dK (kvT (l' ++ [(u, some h0)]))) := upd_same
              have hW7 : upd H6 d (.dK (kvT (l' ++ [(u, some h0)]))) W = some (.lst (ws2.map V.int)) := by
                rw [upd_ne dW.symm]
                exact hW6
              have k7 : ∀ c o, H1 c = some o → upd H6 d (.dK (kvT (l' ++ [(u, some h0)]))) c = some o := fun c o e => by
                rw [upd_ne (ne_of_none e nd)]
                exact k6 _ _ e
              generalize upd H6 d (.dK (kvT (l' ++ [(u, some h0)]))) = H7 at hd7 hW7 k7 ⊢
              refine ⟨_, rfl, .inl ⟨rfl, _, SqL.of hW7⟩, _, rfl, W, _, _, rfl, rfl, hW7, szl (by rw [List.length_map]; omega), ?_⟩
              have tow8 : Tow ts g (l' ++ [(u, some h0)]) := .snoc tow6 hh6 mu adj
              have hin8 : ∀ v ∈ keysT (l' ++ [(u, some h0)]), 0 ≤ v ∧ v < (pts.length : Int) := fun v m => by
                rw [keysT_snoc] at m
                rcases List.mem_append.mp m with m | m
                · exact hin6 v m
                · rw [List.mem_singleton.mp m]
                  exact adj_in fok adj
              have hlp8 : (l' ++ [(u, some h0)]).length ≤ pts.length := by
                have z := nodup_le tow8.nd hin8
                have e : (keysT (l' ++ [(u, some h0)])).length = (l' ++ [(u, some h0)]).length := List.length_map ..
                omega
              refine ⟨l' ++ [(u, some h0)], ws2 ++ [u], _, rfl, ?_, ?_, ?_, tow8, ?_, ?_, ?_, ?_, hin8, ?_, hlp8, ?_⟩
              · intro c o e
                rw [upd_ne (ne_of_none e nW1)]
                exact k7 _ _ e
              · rw [upd_ne dW]
                exact hd7
              · rw [upd_same, List.map_append]
                rfl
              · rw [keysT_snoc]
                exact List.mem_append_left _ hh6
              · intro v m
                rw [keysT_snoc]
                rcases List.mem_append.mp m with m | m
                · exact List.mem_append_left _ (hws6 v m)
                · exact List.mem_append_right _ m
              · intro v hv nv nh y e
                rw [keysT_snoc] at hv ⊢
                rcases List.mem_append.mp hv with hv | hv
                · exact List.mem_append_left _ (hcl6 v hv (fun z => nv (List.mem_append_left _ z)) nh y e)
                · exact absurd (List.mem_append_right _ hv) nv
              · intro v m
                rw [keysT_snoc]
                rw [take_at hu] at m
                rcases List.mem_append.mp m with m | m
                · exact List.mem_append_left _ (hpr6 v m)
                · exact List.mem_append_right _ m
              · rw [List.length_append, List.length_append, List.length_singleton, List.length_singleton]
                omega
              · rw [List.length_append, List.length_append, List.length_singleton, List.length_singleton]
                omega
          · rintro σ' H6 ⟨l', ws2, y6, rfl, k6, hd6, hW6, tow6, hh6, hws6, hcl6, hpr6, hin6, hm6, hlp6, hwl6⟩
            rw [List.length_map, List.take_of_length_le (Nat.le_refl _)] at hpr6
            refine ⟨l', ws2, _, rfl, k6, hd6, hW6, tow6, hws6, fun v hv nv u e => ?_, hin6, hm6, hlp6, hwl6⟩
            by_cases ev : v = h0
            · subst ev
              exact hpr6 u ((hnb0 u).mpr e)
            · exact hcl6 v hv nv ev u e
end

end My
namespace My
open PySem L2
/-! ### way_of -/
def spWayOf (K : PySem.W.Frag) : Sp := fun vs H Q _ => ∃ (f : V) (a b : Int) (pts : List (Int × Str)) (ts : List (Int × Int)), vs = [f, .int a, .int b] ∧ Td K H f (fdata pts ts) ∧ FrOk pts ts ∧ 0 ≤ a ∧ a < (pts.length : Int) ∧ 0 ≤ b ∧ b < (pts.length : Int) ∧
  (∀ H', Same H H' → ¬ Rch ts a b → Q .non H') ∧ ∀ (t : Addr) (l : List Int) (H' : Hp), Same H H' → H t = none → Way ts a b l → l.length ≤ pts.length → H' t = some (.tup (l.map V.int)) → Q (.ref t) H'
section
variable {P : Program} {w : World} {K : PySem.W.Frag} {mg : Str → Option Value} {base : Heap}
theorem ok_wayof (T : Top w K mg) : FnOk P w K mg base CX0 3 T.a_wayof T.d_wayof ["forest", "a", "b"] (spWayOf K) := by
  have G_stepstoward : FnOk P w K mg base CX0 2 _ _ _ _ := ok_steps T
  refine T.F_wayof.ok sc_wayof (fun vs H Q E h => ?_) (fun cdv A outer s H vs Q E hr h => ?_)
  · obtain ⟨f, a, b, pts, ts, rfl, _⟩ := h
    rfl
  · obtain ⟨f, a, b, pts, ts, rfl, hf, fok, a0, a1, b0, b1, qn, qw⟩ := h
    have few := fok.few
    refine ⟨_, (pss_cons (ps_set (i := 3) sc_wayof.nd rfl (.inl rfl) (pe_call G_stepstoward hr (by rfl) T.g_stepstoward T.F_stepstoward.kp T.b_stepstoward .nil pass0 (pa_cons (pv 0) (pa_cons (pv 2) pa_nil))))
      (pss_cons (ps_if (pt_cmp (pc_dnotin (u1 hr) (pv 1) (pv 3))) (pss_one (ps_ret pe_non)) pss_nil)
      (pss_cons (ps_set (i := 4) sc_wayof.nd rfl (.inl rfl) (pe_lst (pa_cons (pv 1) pa_nil)))
      (pss_cons (ps_while PassesOwn.never (pt_cmpR op_ne (pe_ix ix_list (pv 4) (pe_un un_neg pe_int) (fun _ _ => rfl)) (pv 2) (nomark _)) (pss_one (ps_expr (pe_bm PySem.F.plainAttrs_list PySem.F.slot_list_append PySem.F.type_list_append mt_append (pv 4) (pa_cons (pe_dget (u1 hr) (pv 3) (pe_ix ix_list (pv 4) (pe_un un_neg pe_int) (fun _ _ => rfl)) (fun _ _ => rfl)) pa_nil)))))
      (pss_one (ps_ret (pe_callTy call_tuple_of (by rfl) T.m_tuple (by decide +kernel) (pa_cons (pv 4) pa_nil)))))))), ?_⟩
    refine ⟨_, rfl, _, rfl, f, b, pts, ts, rfl, hf, fok, b0, b1, fun d l H1 s1 nd hd tow hk hin => ?_⟩
    have hget := kvT_get (v := a) tow.nd
    refine ⟨_, rfl, _, rfl, d, _, rfl, DGet.k (k := Sum.inl a) hd, _, rfl, ?_⟩
    rw [hget]
    by_cases ma : a ∈ keysT l
    · rw [decide_eq_true ma]
      refine iteF ?_
      obtain ⟨wy, hway, hfol, hwk⟩ := tow.way a ma
      have hwl : wy.length ≤ pts.length := nodup_le hway.nd fun x hx => hin x (hwk x hx)
      refine ⟨_, rfl, (by show 1 ≤ sizeLine; decide), fun W nW => ?_⟩
      have dW : d ≠ W := ne_of_none hd nW
      have nW0 : H W = none := s1.free nW
      refine ⟨fun m σ H2 => ∃ (pre : List Int) (cur : Int) (rest : List Int), σ = [some f, some (.int a), some (.int b), some (.ref d), some (.ref W)] ∧ (∀ c o, H1 c = some o → H2 c = some o) ∧ H2 W = some (.lst (pre.map V.int ++ [.int cur])) ∧ wy = pre ++ cur :: rest ∧ Fol l b (cur :: rest) ∧ m = rest.length, ⟨_, [], a, wy.tail, rfl, fun c o e => same_new nW _ _ e, upd_same, ?_, ?_, rfl⟩, ?_⟩
      · cases wy with
        | nil => exact absurd rfl hway.wk.ne_nil
        | cons y r =>
          have ey : y = a := Option.some.inj hway.wk.head
          rw [ey]
          rfl
      · cases wy with
        | nil => exact absurd rfl hway.wk.ne_nil
        | cons y r =>
          have ey : y = a := Option.some.inj hway.wk.head
          rw [← ey]
          exact hfol
      · rintro m σ H2 ⟨pre, cur, rest, rfl, k2, hW2, ewy, fol, rfl⟩
        have hat : atI (pre.map V.int ++ [V.int cur]) (-1) = some (.int cur) := atI_last _ _
        refine ⟨_, rfl, _, rfl, W, _, _, _, rfl, rfl, SqL.of hW2, hat, _, rfl, rfl, _, rfl, ?_⟩
        by_cases ec : cur = b
        · have er : rest = [] := by
            cases fol with
            | one => rfl
            | cons _ n _ => exact absurd ec n
          subst er
          rw [ec]
          refine ite2 (fun e => absurd e (by simp)) (fun _ => ?_)
          refine ⟨_, rfl, W, _, rfl, .inl ⟨SqL.of hW2, fun t nt => ?_⟩⟩
          have st := same_new (o := .tup (pre.map V.int ++ [V.int cur])) nt
          have s13 : Same H (upd H2 t (.tup (pre.map V.int ++ [V.int cur]))) := fun c o e => st _ _ (k2 _ _ (s1 _ _ e))
          refine qw t wy _ s13 ?_ hway hwl ?_
          · cases hq : H t with
            | none => rfl
            | some o =>
              rw [k2 _ _ (s1 _ _ hq)] at nt
              cases nt
          · rw [upd_same, ewy, List.map_append]
            rfl
        · refine ite2 (fun _ => ?_) (fun e => absurd (show (!decide (V.int cur = V.int b)) = true by rw [decide_eq_false fun z => ec (V.int.inj z)]; rfl) e)
          cases fol with
          | one => exact absurd rfl ec
          | @cons _ p w' mem _ fol' =>
            have hval := kvT_some tow.nd mem
            have hl : pre.length + 1 ≤ pts.length := by
              rw [ewy, List.length_append, List.length_cons] at hwl
              omega
            refine ⟨fun σ' H3 => ∃ (pre : List Int) (cur : Int) (rest : List Int), σ' = [some f, some (.int a), some (.int b), some (.ref d), some (.ref W)] ∧ (∀ c o, H1 c = some o → H3 c = some o) ∧ H3 W = some (.lst (pre.map V.int ++ [.int cur])) ∧ wy = pre ++ cur :: rest ∧ Fol l b (cur :: rest) ∧ rest.length = w'.length, ?_, ?_⟩
            · rintro σ' H3 ⟨pre, cur, rest, rfl, k3, hW3, ewy3, fol3, hlen3⟩
              refine ⟨rest.length, ?_, pre, cur, rest, rfl, k3, hW3, ewy3, fol3, rfl⟩
              rw [hlen3, List.length_cons]
              omega
            · have hd2 := k2 _ _ hd
              have hdg : DGet H2 d (.int cur) (some (.int p)) := by
                have z := DGet.k (k := Sum.inl cur) hd2
                rw [hval] at z
                exact z
              have hsz : (pre.map V.int ++ [V.int cur]).length < sizeLine := szl (by rw [List.length_append, List.length_map, List.length_singleton]; omega)
              refine ⟨_, rfl, .inl ⟨rfl, _, SqL.of hW2⟩, _, rfl, _, rfl, _, rfl, W, _, _, _, rfl, rfl, SqL.of hW2, hat, d, _, rfl, hdg, W, _, _, rfl, rfl, hW2, hsz, ?_⟩
              refine ⟨pre ++ [cur], p, w', rfl, ?_, ?_, ?_, fol', rfl⟩
              · intro c o e
                rw [upd_ne (ne_of_none e nW)]
                exact k2 _ _ e
              · rw [upd_same, List.map_append]
                rfl
              · rw [ewy, List.append_assoc]
                rfl
    · rw [decide_eq_false ma]
      refine iteT ?_
      refine qn H1 s1 fun r => ma ?_
      exact (hk a).mpr r.symm
end

end My
namespace My
open PySem L2
theorem inV_ints (x : Int) : ∀ l : List Int, inV (.int x) (l.map V.int) = decide (x ∈ l)
  | [] => rfl
  | y :: r => by
    have ih := inV_ints x r
    unfold inV at ih ⊢
    rw [List.map_cons, List.any_cons, ih]
    by_cases e : y = x
    · subst e
      simp [eqV]
    · have e2 : ¬ x = y := fun z => e z.symm
      simp [eqV, e, e2]
theorem flat_ints : ∀ l : List Int, (l.map V.int).all flatV = true
  | [] => rfl
  | _ :: r => by
    rw [List.map_cons, List.all_cons, flat_ints r]
    rfl

/-! ### _law_ways -/
abbrev Wt := List (Int × Addr)
def keysW (l : Wt) : List Int := l.map Prod.fst
def kvW (l : Wt) : List (Key × V) := l.map fun x => (Sum.inl x.1, .ref x.2)
theorem keysW_snoc (l : Wt) (v : Int) (t : Addr) : keysW (l ++ [(v, t)]) = keysW l ++ [v] := by
  unfold keysW
  rw [List.map_append]
  rfl
theorem kvW_none {l : Wt} {v : Int} (h : v ∉ keysW l) : valV (kvW l) (Sum.inl v) = none := by
  induction l with
  | nil => rfl
  | cons x l ih =>
    obtain ⟨a, o⟩ := x
    have n1 : ¬ (Sum.inl a : Key) = Sum.inl v := fun z => h (by rw [Sum.inl.inj z]; exact List.mem_cons_self)
    show valV ((Sum.inl a, V.ref o) :: kvW l) (Sum.inl v) = none
    rw [valV_neg n1]
    exact ih fun z => h (List.mem_cons_of_mem _ z)
theorem kvW_some {l : Wt} {v : Int} (h : v ∈ keysW l) : ∃ t, (v, t) ∈ l ∧ valV (kvW l) (Sum.inl v) = some (.ref t) := by
  induction l with
  | nil => exact nomatch h
  | cons x l ih =>
    obtain ⟨a, o⟩ := x
    by_cases e : a = v
    · subst e
      exact ⟨o, List.mem_cons_self, valV_pos (p := (Sum.inl a, V.ref o)) rfl⟩
    · have n1 : ¬ (Sum.inl a : Key) = Sum.inl v := fun z => e (Sum.inl.inj z)
      rcases List.mem_cons.mp h with z | h
      · exact absurd z.symm e
      · obtain ⟨t, h1, h2⟩ := ih h
        refine ⟨t, List.mem_cons_of_mem _ h1, ?_⟩
        show valV ((Sum.inl a, V.ref o) :: kvW l) (Sum.inl v) = _
        rw [valV_neg n1]
        exact h2
theorem kvW_put {l : Wt} {v : Int} {t : Addr} (h : v ∉ keysW l) : putK (kvW l) (Sum.inl v) (.ref t) = kvW (l ++ [(v, t)]) := by
  unfold putK
  rw [valV_any, kvW_none h, if_neg (by decide)]
  unfold kvW
  rw [List.map_append]
  rfl
/-- each key's way stands there -/
def WaysOk (ts : Ties) (a : Int) (n : Nat) (H : Hp) (l : Wt) : Prop := ∀ x ∈ l, ∃ p : List Int, H x.2 = some (.tup (p.map V.int)) ∧ Way ts a x.1 p ∧ (∀ y ∈ p, y ∈ keysW l) ∧ p.length ≤ n
theorem WaysOk.mono {ts : Ties} {a : Int} {n : Nat} {H H' : Hp} {l : Wt} (h : WaysOk ts a n H l) (k : ∀ c xs, H c = some (.tup xs) → H' c = some (.tup xs)) : WaysOk ts a n H' l := fun x m => by
  obtain ⟨p, h1, h2⟩ := h x m
  exact ⟨p, k _ _ h1, h2⟩
def spWays (K : PySem.W.Frag) : Sp := fun vs H Q _ => ∃ (f : V) (a : Int) (pts : List (Int × Str)) (ts : List (Int × Int)), vs = [f, .int a] ∧ Td K H f (fdata pts ts) ∧ FrOk pts ts ∧ 0 ≤ a ∧ a < (pts.length : Int) ∧
  ∀ (d : Addr) (l : Wt) (H' : Hp), Same H H' → H' d = some (.dK (kvW l)) → (∀ v, v ∈ keysW l ↔ Rch ts a v) → WaysOk ts a pts.length H' l → Q (.ref d) H'
def spWay2 (K : PySem.W.Frag) : Sp := fun vs H Q _ => ∃ (f : V) (a b : Int) (pts : List (Int × Str)) (ts : List (Int × Int)), vs = [f, .int a, .int b] ∧ Td K H f (fdata pts ts) ∧ FrOk pts ts ∧ 0 ≤ a ∧ a < (pts.length : Int) ∧
  (∀ H', Same H H' → ¬ Rch ts a b → Q .non H') ∧ ∀ (t : Addr) (l : List Int) (H' : Hp), Same H H' → Way ts a b l → l.length ≤ pts.length → H' t = some (.tup (l.map V.int)) → Q (.ref t) H'
theorem lay_ints : ∀ ns : List Int, PyData.canLayAll0 (ns.map PyData.int) = true ∧ PyData.depthAll (ns.map PyData.int) ≤ 0
  | [] => ⟨rfl, Nat.le_refl _⟩
  | n :: r => by
    obtain ⟨h1, h2⟩ := lay_ints r
    refine ⟨?_, ?_⟩
    · show (PyData.canLay0 (.int n) && PyData.canLayAll0 (r.map PyData.int)) = true
      rw [h1]
      rfl
    · show max (PyData.depth (.int n)) (PyData.depthAll (r.map PyData.int)) ≤ 0
      have : PyData.depth (.int n) = 0 := rfl
      omega
theorem shaped_ints (ns : List Int) : SeqAt.shaped (.list (ns.map PyData.int)) = true := by
  obtain ⟨h1, h2⟩ := lay_ints ns
  unfold SeqAt.shaped PyData.canLay0 PyData.depth
  rw [h1, decide_eq_true (by omega)]
  rfl
theorem dp_ints {K : PySem.W.Frag} {H : Hp} : ∀ ns : List Int, DpAll K H (ns.map V.int) (ns.map PyData.int)
  | [] => .nil
  | n :: r => .cons (.int n) (dp_ints r)
theorem far_of {ts : Ties} {one other here : Int} (m : (one, other) ∈ ts) (h : here = one ∨ here = other) : Adj ts here (one + other - here) := by
  rcases h with rfl | rfl
  · have e : here + other - here = other := by omega
    rw [e]
    exact .inl m
  · have e : one + here - here = one := by omega
    rw [e]
    exact .inr m
section
variable {P : Program} {w : World} {K : PySem.W.Frag} {mg : Str → Option Value} {base : Heap}
theorem ok_ways (T : Top w K mg) : FnOk P w K mg base CX0 1 T.a_Lways T.d_Lways ["_law_forest_here", "_law_a"] (spWays K) := by
  refine T.F_Lways.ok sc_Lways (fun vs H Q E h => ?_) (fun cdv A outer s H vs Q E hr h => ?_)
  · obtain ⟨f, a, pts, ts, rfl, _⟩ := h
    rfl
  · obtain ⟨f, a, pts, ts, rfl, hf, fok, a0, a1, q⟩ := h
    have few := fok.few
    obtain ⟨fa, pa, ta, xs, ys, rfl, f1, f2, f3, f4, f5⟩ := Td.parts hf
    have lys : ys.length = ts.length := by
      rw [f5.length, List.length_map]
    refine ⟨_, (pss_cons (ps_set (i := 2) sc_Lways.nd rfl (.inl rfl) (pe_disp (pps_cons (pv 1) (pe_tup (pa_cons (pv 1) pa_nil)) pps_nil) (by rfl) (by rfl) (fun z => by cases z) (by decide)))
      (pss_cons (ps_set (i := 3) sc_Lways.nd rfl (.inl rfl) (pe_lst (pa_cons (pv 1) pa_nil)))
      (pss_cons (ps_while PassesOwn.never (pt_cmpR (op_neD hr.units) (pv 3) (pe_lst pa_nil) (nomark _)) (pss_cons (ps_set (i := 4) sc_Lways.nd rfl (.inl rfl) (pe_bm0 PySem.F.plainAttrs_list PySem.F.slot_list_pop PySem.F.type_list_pop mt_pop (pv 3)))
      (pss_one (ps_for PassesOwn.never rfl (pi_tup (pe_ix ix_tup (pv 0) pe_int (fun _ _ => rfl))) (pg_tup rfl (pgs_cons (pg_name (i := 5) sc_Lways.nd rfl (.inl rfl)) (pgs_cons (pg_name (i := 6) sc_Lways.nd rfl (.inl rfl)) pgs_nil))) (pss_one (ps_if (pt_cmpR op_in_seq (pv 4) (pe_tup (pa_cons (pv 5) (pa_cons (pv 6) pa_nil))) (by rfl)) (pss_cons (ps_set (i := 7) sc_Lways.nd rfl (.inl rfl) (pe_op op_sub (pe_op op_add (pv 5) (pv 6)) (pv 4)))
      (pss_one (ps_if (pt_cmp (pc_dnotin (u1 hr) (pv 7) (pv 2))) (pss_cons (ps_dput (u1 hr) (pv 2) (pv 7) (pe_op op_catA (pe_dget (u1 hr) (pv 2) (pv 4) (fun _ _ => rfl)) (pe_tup (pa_cons (pv 7) pa_nil))) rfl)
      (pss_one (ps_expr (pe_bm PySem.F.plainAttrs_list PySem.F.slot_list_append PySem.F.type_list_append mt_append (pv 3) (pa_cons (pv 7) pa_nil))))) pss_nil))) pss_nil))))))
      (pss_one (ps_ret (pv 2)))))), ?_⟩
    refine fun d nd => ⟨_, rfl, _, rfl, (by show 1 ≤ sizeLine; decide), fun t0 n0 => ⟨?_, [(Sum.inl a, .ref t0)], rfl, (by show 1 ≤ 15; decide), ?_⟩⟩
    · exact same_new n0 _ _ upd_same
    have nt0 : H t0 = none := (same_new nd : Same H _).free n0
    have t0d : t0 ≠ d := fun z => by
      rw [z, upd_same] at n0
      cases n0
    have ekv : mergeK [] [((Sum.inl a : Key), V.ref t0)] = kvW [(a, t0)] := rfl
    rw [ekv]
    have s1 : Same H (upd (upd (upd H d (.dK [])) t0 (.tup [.int a])) d (.dK (kvW [(a, t0)]))) := fun c o e => by
      rw [upd_ne (ne_of_none e nd), upd_ne (ne_of_none e nt0), upd_ne (ne_of_none e nd)]
      exact e
    have hd1 : upd (upd (upd H d (.dK [])) t0 (.tup [.int a])) d (.dK (kvW [(a, t0)])) d = some (.dK (kvW [(a, t0)])) := upd_same
    have ht1 : upd (upd (upd H d (.dK [])) t0 (.tup [.int a])) d (.dK (kvW [(a, t0)])) t0 = some (.tup [.int a]) := by
      rw [upd_ne t0d, upd_same]
    generalize upd (upd (upd H d (.dK [])) t0 (.tup [.int a])) d (.dK (kvW [(a, t0)])) = H1 at s1 hd1 ht1 ⊢
    refine ⟨_, rfl, (by show 1 ≤ sizeLine; decide), fun W nW => ?_⟩
    have nW0 : H W = none := s1.free nW
    have dW : d ≠ W := ne_of_none hd1 nW
    have s2 := same_new (o := .lst [.int a]) nW
    refine ⟨fun m σ H4 => ∃ (l : Wt) (ws : List Int) (y4 y5 y6 y7 : Option V), σ = [some (.ref fa), some (.int a), some (.ref d), some (.ref W), y4, y5, y6, y7] ∧ Same H H4 ∧ H4 d = some (.dK (kvW l)) ∧ H4 W = some (.lst (ws.map V.int)) ∧ (keysW l).Nodup ∧ a ∈ keysW l ∧ WaysOk ts a pts.length H4 l ∧ (∀ v ∈ ws, v ∈ keysW l) ∧ (∀ v ∈ keysW l, v ∉ ws → ∀ u, Adj ts v u → u ∈ keysW l) ∧ (∀ v ∈ keysW l, 0 ≤ v ∧ v < (pts.length : Int)) ∧ m = 2 * (pts.length - l.length) + ws.length ∧ l.length ≤ pts.length ∧ ws.length ≤ l.length, ⟨_, [(a, t0)], [a], none, none, none, none, rfl, s1.trans s2, s2 _ _ hd1, upd_same, List.nodup_cons.mpr ⟨List.not_mem_nil, List.nodup_nil⟩, List.mem_cons_self, ?_, (fun v m => m), (fun v m n => absurd m n), ?_, rfl, ?_, Nat.le_refl _⟩, ?_⟩
    · intro x m
      rw [List.mem_singleton.mp m]
      refine ⟨[a], s2 _ _ ht1, ⟨.one a, List.nodup_cons.mpr ⟨List.not_mem_nil, List.nodup_nil⟩⟩, fun y m => m, ?_⟩
      show 1 ≤ pts.length
      omega
    · intro v m
      rw [List.mem_singleton.mp (show v ∈ [a] from m)]
      exact ⟨a0, a1⟩
    · show 1 ≤ pts.length
      omega
    · rintro m σ H4 ⟨l, ws, y4, y5, y6, y7, rfl, s4, hd4, hW4, hnd, hal, hok, hws, hcl, hin, rfl, hlp, hwl⟩
      refine ⟨_, rfl, Nat.zero_le _, fun e ne => ?_⟩
      have se := same_new (o := .lst []) ne
      have s5 := s4.trans se
      have hd5 := se _ _ hd4
      have hW5 := se _ _ hW4
      have hok5 := hok.mono fun c xs e => se _ _ e
      have he5 : upd H4 e (.lst []) e = some (.lst []) := upd_same
      generalize upd H4 e (.lst []) = H5 at s5 hd5 hW5 hok5 he5 ⊢
      refine ⟨.list (ws.map PyData.int), .list [], .lst (SqL.of hW5) (dp_ints ws), .lst (SqL.of he5) .nil, shaped_ints ws, shaped_ints [], _, rfl, ?_⟩
      rcases List.eq_nil_or_concat ws with rfl | ⟨ws', h0, rfl⟩
      · refine iteF ?_
        refine ⟨_, rfl, ?_⟩
        refine q d l H5 s5 hd5 (fun v => ⟨fun m => ?_, closed_rch hal fun v hv u e => hcl v hv (fun z => nomatch z) u e⟩) hok5
        obtain ⟨x, hx, rfl⟩ := List.mem_map.mp m
        obtain ⟨p, _, hw, _⟩ := hok x hx
        exact hw.wk.rch
      · rw [List.concat_eq_append] at *
        have neq : (!PyData.eqv (.list ((ws' ++ [h0]).map PyData.int)) (.list [])) = true := by
          cases ws' <;> rfl
        rw [neq]
        refine iteT ?_
        have hh : h0 ∈ keysW l := hws h0 (List.mem_append_right _ List.mem_cons_self)
        obtain ⟨hh0, hh1⟩ := hin h0 hh
        refine ⟨fun σ' H6 => ∃ (l' : Wt) (ws2 : List Int) (y5 y6 y7 : Option V), σ' = [some (.ref fa), some (.int a), some (.ref d), some (.ref W), some (.int h0), y5, y6, y7] ∧ Same H H6 ∧ H6 d = some (.dK (kvW l')) ∧ H6 W = some (.lst (ws2.map V.int)) ∧ (keysW l').Nodup ∧ a ∈ keysW l' ∧ WaysOk ts a pts.length H6 l' ∧ (∀ v ∈ ws2, v ∈ keysW l') ∧ (∀ v ∈ keysW l', v ∉ ws2 → ∀ u, Adj ts v u → u ∈ keysW l') ∧ (∀ v ∈ keysW l', 0 ≤ v ∧ v < (pts.length : Int)) ∧ (ws2.length + l.length = ws'.length + l'.length ∧ l.length ≤ l'.length) ∧ l'.length ≤ pts.length ∧ ws2.length ≤ l'.length, ?_, ?_⟩
        · rintro σ' H6 ⟨l', ws2, y5, y6, y7, rfl, s6, hd6, hW6, hnd6, hal6, hok6, hws6, hcl6, hin6, hm6, hlp6, hwl6⟩
          refine ⟨_, ?_, l', ws2, _, _, _, _, rfl, s6, hd6, hW6, hnd6, hal6, hok6, hws6, hcl6, hin6, rfl, hlp6, hwl6⟩
          rw [List.length_append, List.length_singleton]
          omega
        · have epop : ((ws' ++ [h0]).map V.int)[((ws' ++ [h0]).map V.int).length - 1]? = some (.int h0) := by
            rw [List.map_append, List.length_append]
            show ((ws'.map V.int) ++ [V.int h0])[(ws'.map V.int).length + 1 - 1]? = _
            rw [Nat.add_sub_cancel, List.getElem?_append_right (Nat.le_refl _), Nat.sub_self]
            rfl
          refine ⟨_, rfl, .inl ⟨rfl, _, SqL.of hW5⟩, W, _, _, rfl, rfl, hW5, epop, ?_⟩
          have edrop : ((ws' ++ [h0]).map V.int).dropLast = ws'.map V.int := by
            rw [List.map_append]
            exact List.dropLast_concat
          rw [edrop]
          have s6 : Same H (upd H5 W (.lst (ws'.map V.int))) := fun c o e => by
            rw [upd_ne (ne_of_none e nW0)]
            exact s5 _ _ e
          have hd6 : upd H5 W (.lst (ws'.map V.int)) d = some (.dK (kvW l)) := by
            rw [upd_ne dW]
            exact hd5
          have hW6 : upd H5 W (.lst (ws'.map V.int)) W = some (.lst (ws'.map V.int)) := upd_same
          have hok6 : WaysOk ts a pts.length (upd H5 W (.lst (ws'.map V.int))) l := hok5.mono fun c xs e => by
            rw [upd_ne (ne_of e hW5 (by intro z; cases z))]
            exact e
          generalize upd H5 W (.lst (ws'.map V.int)) = H6 at s6 hd6 hW6 hok6 ⊢
          refine ⟨_, rfl, fa, _, _, _, rfl, rfl, sqs f1 s6, atI_nat (j := 1) rfl, ta, rfl, ⟨_, sqs f4 s6⟩, for_tup (xs := ys) (fun j σ' H7 => ∃ (l' : Wt) (ws2 : List Int) (y5 y6 y7 : Option V), σ' = [some (.ref fa), some (.int a), some (.ref d), some (.ref W), some (.int h0), y5, y6, y7] ∧ Same H H7 ∧ H7 d = some (.dK (kvW l')) ∧ H7 W = some (.lst (ws2.map V.int)) ∧ (keysW l').Nodup ∧ a ∈ keysW l' ∧ WaysOk ts a pts.length H7 l' ∧ h0 ∈ keysW l' ∧ (∀ v ∈ ws2, v ∈ keysW l') ∧ (∀ v ∈ keysW l', v ∉ ws2 → v ≠ h0 → ∀ u, Adj ts v u → u ∈ keysW l') ∧ (∀ t ∈ ts.take j, h0 = t.1 ∨ h0 = t.2 → t.1 + t.2 - h0 ∈ keysW l') ∧ (∀ v ∈ keysW l', 0 ≤ v ∧ v < (pts.length : Int)) ∧ (ws2.length + l.length = ws'.length + l'.length ∧ l.length ≤ l'.length) ∧ l'.length ≤ pts.length ∧ ws2.length ≤ l'.length)
            ⟨l, ws', _, _, _, rfl, s6, hd6, hW6, hnd, hal, hok6, hh, fun v m => hws v (List.mem_append_left _ m), ?_, (fun t z => nomatch z), hin, ⟨rfl, Nat.le_refl _⟩, hlp, ?_⟩ (fun j σ' H7 _ hq => ?_) ?_ ?_⟩
          · intro v hv nv nh u e
            refine hcl v hv (fun z => ?_) u e
            rcases List.mem_append.mp z with z | z
            · exact nv z
            · exact nh (List.mem_singleton.mp z)
          · rw [List.length_append, List.length_singleton] at hwl
            omega
          · obtain ⟨l', ws2, y5, y6, y7, rfl, s7, _⟩ := hq
            exact sqs f4 s7
          · rintro j x σ' H7 hx ⟨l', ws2, y5, y6, y7, rfl, s7, hd7, hW7, hnd7, hal7, hok7, hh7, hws7, hcl7, hpr7, hin7, hm7, hlp7, hwl7⟩
            obtain ⟨dv, hdv, tdv⟩ := TdAll.at f5 hx
            rw [List.getElem?_map] at hdv
            obtain ⟨tt, htt, rfl⟩ := Option.map_eq_some_iff.mp hdv
            obtain ⟨tp, rfl, htp⟩ := tdata_inv tdv
            have mt : (tt.1, tt.2) ∈ ts := List.mem_of_getElem? htt
            refine ⟨tp, _, rfl, sqs htp s7, rfl, _, _, rfl, _, _, rfl, rfl, ?_⟩
            refine ⟨_, rfl, _, rfl, _, rfl, (by show 2 ≤ sizeLine; decide), fun p2 np2 => ?_⟩
            have sp := same_new (o := .tup [.int tt.1, .int tt.2]) np2
            have s8 := s7.trans sp
            have hd8 := sp _ _ hd7
            have hW8 := sp _ _ hW7
            have hok8 := hok7.mono fun c xs e => sp _ _ e
            have hp28 : upd H7 p2 (.tup [.int tt.1, .int tt.2]) p2 = some (.tup [.int tt.1, .int tt.2]) := upd_same
            generalize upd H7 p2 (.tup [.int tt.1, .int tt.2]) = H8 at s8 hd8 hW8 hok8 hp28 ⊢
            have ein : inV (.int h0) [V.int tt.1, V.int tt.2] = decide (h0 ∈ [tt.1, tt.2]) := inV_ints h0 [tt.1, tt.2]
            refine ⟨p2, _, rfl, .inr (SqT.of hp28), rfl, flat_ints [tt.1, tt.2], decide (h0 ∈ [tt.1, tt.2]), congrArg V.bl ein, ?_⟩
            have step : ∀ {l2 : Wt}, (∀ v ∈ keysW l', v ∈ keysW l2) → (h0 = tt.1 ∨ h0 = tt.2 → tt.1 + tt.2 - h0 ∈ keysW l2) → ∀ t ∈ ts.take (j + 1), h0 = t.1 ∨ h0 = t.2 → t.1 + t.2 - h0 ∈ keysW l2 := fun {l2} sub new t m ht => by
              rw [take_at htt] at m
              rcases List.mem_append.mp m with m | m
              · exact sub _ (hpr7 t m ht)
              · rw [List.mem_singleton.mp m] at ht ⊢
                exact new ht
            by_cases hm : h0 ∈ [tt.1, tt.2]
            · rw [decide_eq_true hm]
              refine iteT ?_
              have hor : h0 = tt.1 ∨ h0 = tt.2 := by
                rcases List.mem_cons.mp hm with z | z
                · exact .inl z
                · exact .inr (List.mem_singleton.mp z)
              have adj := far_of mt hor
              generalize hu : tt.1 + tt.2 - h0 = u at adj step
              refine ⟨_, rfl, _, rfl, _, _, rfl, rfl, _, rfl, _, _, rfl, rfl, ?_⟩
              dsimp only
              rw [hu]
              refine ⟨_, rfl, _, rfl, d, _, rfl, DGet.k (k := Sum.inl u) hd8, _, rfl, ?_⟩
              by_cases mu : u ∈ keysW l'
              · obtain ⟨t9, _, hval⟩ := kvW_some mu
                rw [hval]
                refine iteF ?_
                exact ⟨l', ws2, _, _, _, rfl, s8, hd8, hW8, hnd7, hal7, hok8, hh7, hws7, hcl7, step (fun _ z => z) (fun _ => mu), hin7, hm7, hlp7, hwl7⟩
              · rw [kvW_none mu]
                refine iteT ?_
                obtain ⟨th, mth, hval⟩ := kvW_some hh7
                obtain ⟨p, hp, hway, hpk, hpl⟩ := hok8 _ mth
                have hdg : DGet H8 d (.int h0) (some (.ref th)) := by
                  have z := DGet.k (k := Sum.inl h0) hd8
                  rw [hval] at z
                  exact z
                refine ⟨_, rfl, _, rfl, d, _, rfl, hdg, _, rfl, (by show 1 ≤ sizeLine; decide), fun p3 np3 => ?_⟩
                have sp3 := same_new (o := .tup [.int u]) np3
                refine cat_any (sp3 _ _ hp) upd_same (sz (by rw [List.length_map, List.length_singleton]; omega)) fun p4 H9 s9 hp4 => ?_
                have s89 := sp3.trans s9
                have hd9 := s89 _ _ hd8
                have hW9 := s89 _ _ hW8
                have hok9 := hok8.mono fun c xs e => s89 _ _ e
                have ll : (kvW l').length = l'.length := List.length_map ..
                refine ⟨_, rfl, _, rfl, d, _, rfl, DPut.k (k := Sum.inl u) (v := .ref p4) hd9 (szl (by omega)), ?_⟩
                rw [kvW_put mu]
                have nu : u ∉ p := fun z => mu (hpk u z)
                have way9 : Way ts a u (p ++ [u]) := hway.snoc adj nu
                have hin9 : ∀ v ∈ keysW (l' ++ [(u, p4)]), 0 ≤ v ∧ v < (pts.length : Int) := fun v m => by
                  rw [keysW_snoc] at m
                  rcases List.mem_append.mp m with m | m
                  · exact hin7 v m
                  · rw [List.mem_singleton.mp m]
                    exact adj_in fok adj
                have hnd9 : (keysW (l' ++ [(u, p4)])).Nodup := by
                  rw [keysW_snoc]
                  exact List.nodup_append.mpr ⟨hnd7, List.nodup_cons.mpr ⟨List.not_mem_nil, List.nodup_nil⟩, fun x m y k z => by
                    rw [List.mem_singleton.mp k] at z
                    exact mu (z ▸ m)⟩
                have hlp9 : (l' ++ [(u, p4)]).length ≤ pts.length := by
                  have z := nodup_le hnd9 hin9
                  have e : (keysW (l' ++ [(u, p4)])).length = (l' ++ [(u, p4)]).length := List.length_map ..
                  omega
                have sub : ∀ v ∈ keysW l', v ∈ keysW (l' ++ [(u, p4)]) := fun v m => by
                  rw [keysW_snoc]
                  exact List.mem_append_left _ m
                have mu9 : u ∈ keysW (l' ++ [(u, p4)]) := by
                  rw [keysW_snoc]
                  exact List.mem_append_right _ List.mem_cons_self
                have hpk9 : ∀ y ∈ p ++ [u], y ∈ keysW (l' ++ [(u, p4)]) := fun y m => by
                  rcases List.mem_append.mp m with m | m
                  · exact sub y (hpk y m)
                  · rw [List.mem_singleton.mp m]
                    exact mu9
                have hpl9 : (p ++ [u]).length ≤ pts.length := nodup_le way9.nd fun y m => hin9 y (hpk9 y m)
                have hokA : WaysOk ts a pts.length (upd H9 d (.dK (kvW (l' ++ [(u, p4)])))) (l' ++ [(u, p4)]) := fun x m => by
                  have up : ∀ {c : Addr} {xs : List V}, H9 c = some (.tup xs) → upd H9 d (.dK (kvW (l' ++ [(u, p4)]))) c = some (.tup xs) := fun {c xs} e => by
                    rw [upd_ne (ne_of e hd9 (by intro z; cases z))]
                    exact e
                  rcases List.mem_append.mp m with m | m
                  · obtain ⟨p', g1, g2, g3, g4⟩ := hok9 x m
                    exact ⟨p', up g1, g2, fun y hy => sub y (g3 y hy), g4⟩
                  · rw [List.mem_singleton.mp m]
                    refine ⟨p ++ [u], up ?_, way9, hpk9, hpl9⟩
                    rw [hp4, List.map_append]
                    rfl
                have hdA : upd H9 d (.dK (kvW (l' ++ [(u, p4)]))) d = some (.dK (kvW (l' ++ [(u, p4)]))) := upd_same
                have hWA : upd H9 d (.dK (kvW (l' ++ [(u, p4)]))) W = some (.lst (ws2.map V.int)) := by
                  rw [upd_ne dW.symm]
                  exact hW9
                have sA : Same H (upd H9 d (.dK (kvW (l' ++ [(u, p4)])))) := fun c o e => by
                  rw [upd_ne (ne_of_none e nd)]
                  exact s89 _ _ (s8 _ _ e)
                generalize upd H9 d (.dK (kvW (l' ++ [(u, p4)]))) = HA at hokA hdA hWA sA ⊢
                refine ⟨_, rfl, .inl ⟨rfl, _, SqL.of hWA⟩, _, rfl, W, _, _, rfl, rfl, hWA, szl (by rw [List.length_map]; omega), ?_⟩
                refine ⟨l' ++ [(u, p4)], ws2 ++ [u], _, _, _, rfl, ?_, ?_, ?_, hnd9, sub _ hal7, ?_, sub _ hh7, ?_, ?_, step sub (fun _ => mu9), hin9, ?_, hlp9, ?_⟩
                · intro c o e
                  rw [upd_ne (ne_of_none e nW0)]
                  exact sA _ _ e
                · rw [upd_ne dW]
                  exact hdA
                · rw [upd_same, List.map_append]
                  rfl
                · exact hokA.mono fun c xs e => by
                    rw [upd_ne (ne_of e hWA (by intro z; cases z))]
                    exact e
                · intro v m
                  rcases List.mem_append.mp m with m | m
                  · exact sub v (hws7 v m)
                  · rw [List.mem_singleton.mp m]
                    exact mu9
                · intro v hv nv nh y e
                  rw [keysW_snoc] at hv
                  rcases List.mem_append.mp hv with hv | hv
                  · exact sub _ (hcl7 v hv (fun z => nv (List.mem_append_left _ z)) nh y e)
                  · exact absurd (List.mem_append_right _ hv) nv
                · rw [List.length_append, List.length_append, List.length_singleton, List.length_singleton]
                  omega
                · rw [List.length_append, List.length_append, List.length_singleton, List.length_singleton]
                  omega
            · rw [decide_eq_false hm]
              refine iteF ?_
              refine ⟨l', ws2, _, _, _, rfl, s8, hd8, hW8, hnd7, hal7, hok8, hh7, hws7, hcl7, step (fun _ z => z) (fun ho => absurd ?_ hm), hin7, hm7, hlp7, hwl7⟩
              rcases ho with z | z
              · rw [z]
                exact List.mem_cons_self
              · rw [z]
                exact List.mem_cons_of_mem _ List.mem_cons_self
          · rintro σ' H7 ⟨l', ws2, y5, y6, y7, rfl, s7, hd7, hW7, hnd7, hal7, hok7, hh7, hws7, hcl7, hpr7, hin7, hm7, hlp7, hwl7⟩
            rw [lys, List.take_of_length_le (Nat.le_refl _)] at hpr7
            refine ⟨l', ws2, _, _, _, rfl, s7, hd7, hW7, hnd7, hal7, hok7, hws7, fun v hv nv u e => ?_, hin7, hm7, hlp7, hwl7⟩
            by_cases ev : v = h0
            · subst ev
              rcases e with e | e
              · have z := hpr7 _ e (.inl rfl)
                have e2 : v + u - v = u := by omega
                rw [← e2]
                exact z
              · have z := hpr7 _ e (.inr rfl)
                have e2 : u + v - v = u := by omega
                rw [← e2]
                exact z
            · exact hcl7 v hv nv ev u e
theorem ok_way2 (T : Top w K mg) : FnOk P w K mg base CX0 2 T.a_Lway T.d_Lway ["_law_forest_here", "_law_a", "_law_b"] (spWay2 K) := by
  have G_Lways : FnOk P w K mg base CX0 1 _ _ _ _ := ok_ways T
  refine T.F_Lway.ok sc_Lway (fun vs H Q E h => ?_) (fun cdv A outer s H vs Q E hr h => ?_)
  · obtain ⟨f, a, b, pts, ts, rfl, _⟩ := h
    rfl
  · obtain ⟨f, a, b, pts, ts, rfl, hf, fok, a0, a1, qn, qw⟩ := h
    refine ⟨_, (pss_one (ps_ret (pe_dget1 (u1 hr) (pe_call G_Lways hr (by rfl) T.g_Lways T.F_Lways.kp T.b_Lways .nil pass0 (pa_cons (pv 0) (pa_cons (pv 1) pa_nil))) (pv 2) ⟨by rfl, by rfl, by rfl, by rfl⟩))), ?_⟩
    refine ⟨_, rfl, _, rfl, f, a, pts, ts, rfl, hf, fok, a0, a1, fun d l H1 s1 hd hk hok => ?_⟩
    refine ⟨d, rfl, .inl ⟨_, .inl hd⟩, _, rfl, _, DGet.k (k := Sum.inl b) hd, ?_⟩
    by_cases mb : b ∈ keysW l
    · obtain ⟨t, mt, hval⟩ := kvW_some mb
      rw [hval]
      obtain ⟨p, hp, hway, _, hpl⟩ := hok _ mt
      exact qw t p H1 s1 hway hpl hp
    · rw [kvW_none mb]
      exact qn H1 s1 fun r => mb ((hk b).mpr r)
end

end My
namespace My
open PySem L2
/-! ### a local that holds one of several defs, called; what it raises leaves -/
structure HeldX (P : Program) (w : World) (K : PySem.W.Frag) (mg : Str → Option Value) (base : Heap) (CX : CXT) (k : Nat) (f : Addr) (sp : Sp) : Prop where
  it : ∃ (fd : FuncData) (ps : List Str), FnOk P w K mg base CX k f fd ps sp ∧ PySem.W.keepIn K (.ref f) = true ∧ L2.Binds K fd ps []
def tCallH (P : Program) (w : World) (K : PySem.W.Frag) (mg : Str → Option Value) (base : Heap) (CX : CXT) (k i : Nat) (E : L2.St → XK) (t : TA) : TE := fun σ H Q => ∃ f sp, σ[i]? = some (some (.ref f)) ∧ HeldX P w K mg base CX k f sp ∧ t σ H fun vs H1 => sp vs H1 Q (E σ)
theorem pe_callH {X : Cx} {CX : CXT} {k i : Nat} {E : L2.St → XK} {x : Str} {p pos : Pos} {e : Expr} {es : List Expr} {t : TA} (hr : Room k X.A) (at_ : X.N[i]? = some x) (vis : Vis X.env.scope x) (pass : ∀ σ, PassesAt CX X σ (E σ)) (args : PA X (e :: es) t)
    (d1 : (x == ("__debug__" : Str)) = false := by decide) (d2 : (x == ("__classdict__" : Str)) = false := by decide)
    (star : starEach (e :: es) X.env = (false, eval e X.env) :: starEach es X.env := by rfl) (plain : (backTo pos (starEach es X.env)).any (·.1) = false := by rfl) : PE X (.Call (.Name x p) (e :: es) [] pos) (tCallH X.prog X.w X.K X.mg X.base CX k i E t) := by
  constructor
  intro pins s σ H Q I h
  obtain ⟨f, sp, slot, held, ht⟩ := h
  obtain ⟨fd, ps, ok, keep, bnd⟩ := held.it
  refine wpAny_Call_Name_kw (thn ((pe_var (pos := p) at_ vis d1 d2).run pins s σ H (fun v H1 => v = .ref f ∧ H1 = H) I ⟨.ref f, slot, rfl, rfl⟩) fun u s1 z => ?_)
  obtain ⟨v0, H1, I1, r1, rfl, rfl⟩ := z
  obtain rfl : u = Value.ref f := r1
  refine PySem.W.callWith_K (h₀ := X.base) I.ok.mod.kin keep (thn (args.run pos pins s1 σ _ _ I1 ht) fun us s2 z => ?_) star plain
  obtain ⟨vs, H2, I2, r, q⟩ := z
  exact ⟨I2.kIn, run_fnS ok hr bnd (pass σ) I2 r q⟩
theorem HeldX.mono {P : Program} {w : World} {K : PySem.W.Frag} {mg : Str → Option Value} {base : Heap} {CX : CXT} {j k : Nat} {f : Addr} {sp : Sp} (h : HeldX P w K mg base CX j f sp) (le : j ≤ k) : HeldX P w K mg base CX k f sp := by
  obtain ⟨fd, ps, ok, rest⟩ := h.it
  exact ⟨fd, ps, ok.mono le, rest⟩

theorem inR_int {m i : Int} (h : inR m (.int i) = true) : 0 ≤ i ∧ i < m := by
  have h : (decide (0 ≤ i) && decide (i < m)) = true := h
  rw [Bool.and_eq_true, decide_eq_true_eq, decide_eq_true_eq] at h
  exact h
section
variable {P : Program} {w : World} {K : PySem.W.Frag} {mg : Str → Option Value} {base : Heap}
def spIsDeed (K : PySem.W.Frag) : Sp := fun vs H Q _ => ∃ (r : Addr) (z : Str) (ps : List V), vs = [.ref r] ∧ H r = some (.tup (.str z :: ps)) ∧ Q (.bl (decide (z ∈ dws))) H
theorem ok_isdeed (T : Top w K mg) : FnOk P w K mg base CX0 1 T.a_isdeed T.d_isdeed ["row"] (spIsDeed K) := by
  refine T.F_isdeed.ok sc_isdeed (fun vs H Q E h => ?_) (fun cdv A outer s H vs Q E hr h => ?_)
  · obtain ⟨r, z, ps, rfl, _⟩ := h
    rfl
  · obtain ⟨r, z, ps, rfl, hr0, q⟩ := h
    refine ⟨_, (pss_one (ps_ret (pe_cmpR op_in_seq (pe_ix ix_tup (pv 0) pe_int (fun _ _ => rfl)) (pe_glob (v := .ref T.aW) (by rfl) T.v_DEEDWORDS rfl) (by rfl)))), ?_⟩
    refine ⟨_, rfl, r, _, _, _, rfl, rfl, SqT.of hr0, atI_nat (j := 0) rfl, T.aW, _, rfl, .inr (tupB_ok T.tW H), rfl, flat_strs _, ?_⟩
    rw [inV_str]
    exact q
end

/-- (forest, told) -/
def out2 (pts : List (Int × Str)) (ts : List (Int × Int)) (d : PyData) : PyData := .tuple [fdata pts ts, d]
/-! ### plain_do of deeds of one point -/
inductive Out
  | told (pts : List (Int × Str)) (ts : List (Int × Int)) (d : PyData)
  | no (j : Nat)
/-- a row that is one by its form stands at r -/
structure RowAt (H : Hp) (r : Addr) (z : Str) (sl : List Sl) (ps : List V) : Prop where
  at_ : H r = some (.tup (.str z :: ps))
  lk : forms.lookup z = some sl
  fit : fitsB sl ps = true
  len : ps.length ≤ 3
theorem fits_num {v : V} (h : fitB .num v = true) : ∃ i, v = .int i := by
  cases v <;> first | exact ⟨_, rfl⟩ | exact nomatch h
theorem fits_knd {v : V} (h : fitB .knd v = true) : ∃ k, v = .str k ∧ k ∈ kinds := by
  cases v <;> first | exact ⟨_, rfl, of_decide_eq_true h⟩ | exact nomatch h
theorem fits_pt {v : V} (h : fitB .pt v = true) : ∃ i, v = .int i := by
  cases v <;> first | exact ⟨_, rfl⟩ | exact nomatch h
theorem fits_two {a b : Sl} {ps : List V} (h : fitsB [a, b] ps = true) : ∃ x y, ps = [x, y] ∧ fitB a x = true ∧ fitB b y = true := by
  have hl := fits_length h
  match ps, hl, h with
  | [x, y], _, h =>
    have h : (fitB a x && (fitB b y && true)) = true := h
    rw [Bool.and_true, Bool.and_eq_true] at h
    exact ⟨x, y, rfl, h.1, h.2⟩
section
variable {P : Program} {w : World} {K : PySem.W.Frag} {mg : Str → Option Value} {base : Heap}
def Out.ok (T : Top w K mg) (Q : VK) (E : XK) (H : Hp) : Out → Prop
  | .told pts ts d => ∀ (t : Addr) (H' : Hp), Kp H H' → Tb T.tbs H' → Td K H' (.ref t) (out2 pts ts d) → Q (.ref t) H'
  | .no j => ∀ H', Kp H H' → Tb T.tbs H' → E (.ref (T.cs.getD j 0)) none H'
def spPlain (T : Top w K mg) (ws : List Str) (F : List (Int × Str) → List (Int × Int) → Str → List V → Out) : Sp := fun vs H Q E => ∃ (f : V) (r : Addr) (z : Str) (sl : List Sl) (ps : List V) (pts : List (Int × Str)) (ts : List (Int × Int)), vs = [f, .ref r] ∧ Td K H f (fdata pts ts) ∧ FrOk pts ts ∧ Tb T.tbs H ∧ RowAt H r z sl ps ∧ z ∈ ws ∧
  (F pts ts z ps).ok T Q E H
theorem RowAt.thing {H : Hp} {r : Addr} {z : Str} {sl : List Sl} {ps : List V} (h : RowAt H r z sl ps) : ThingV H (.ref r) true := by
  refine .inl ⟨r, _, rfl, ?_, h.at_, fun x hx => ?_, ?_⟩
  · rw [List.length_cons]
    have := h.len
    omega
  · rcases List.mem_cons.mp hx with e | e
    · rw [e]
      exact .str z
    · exact fits_any h.fit x e
  · show true = (match forms.lookup z with | some sl => fitsB sl ps | none => false)
    rw [h.lk]
    exact h.fit.symm
theorem RowAt.rowin {H : Hp} {r : Addr} {z : Str} {sl : List Sl} {ps : List V} (h : RowAt H r z sl ps) (m : Int) : RowIn H (.ref r) m (allIn m (namedV ((forms.lookup z).getD []) ps)) := by
  intro a' z' sl' ps' ea ha' hl' _
  cases ea
  rw [h.at_] at ha'
  cases ha'
  rw [hl']
  rfl
end

/-! ### rules within a block, the written part by its own letter -/
theorem ix_tupK {X : Cx} {K : PySem.W.Frag} (hK : X.K = K) : IxR X (rIxT K) := by
  subst hK
  exact ix_tup
theorem ix_listK {X : Cx} {K : PySem.W.Frag} (hK : X.K = K) : IxR X (rIxL K) := by
  subst hK
  exact ix_list
theorem call_len_seqK {X : Cx} {K : PySem.W.Frag} (hK : X.K = K) : CallR X (.builtin "len") (fun xs H Q => ∃ p ys, xs = [.ref p] ∧ (SqL K H p ys ∨ SqT K H p ys) ∧ Q (.int ys.length) H) := by
  subst hK
  exact call_len_seq
theorem call_isiK {X : Cx} {K : PySem.W.Frag} (hK : X.K = K) : CallR X (.builtin "isinstance") (rIsi K) := by
  subst hK
  exact call_isi
/-! ### _law_same of data -/
mutual
def smallB : PyData → Bool
  | .tuple xs => decide (xs.length ≤ 1000) && smallAll xs
  | .list _ => false
  | .dict _ => false
  | _ => true
def smallAll : List PyData → Bool
  | [] => true
  | x :: xs => smallB x && smallAll xs
end
theorem small_mem : ∀ {xs : List PyData}, smallAll xs = true → ∀ x ∈ xs, smallB x = true
  | _ :: _, h, x, m => by
    rw [smallAll, Bool.and_eq_true] at h
    rcases List.mem_cons.mp m with e | m
    · rw [e]
      exact h.1
    · exact small_mem h.2 x m
theorem small_of : ∀ {xs : List PyData}, (∀ x ∈ xs, smallB x = true) → smallAll xs = true
  | [], _ => by rw [smallAll]
  | x :: xs, h => by
    rw [smallAll, h x List.mem_cons_self, small_of fun y hy => h y (List.mem_cons_of_mem _ hy)]
    rfl
theorem dep_mem : ∀ {xs : List PyData} {x : PyData}, x ∈ xs → x.depth ≤ PyData.depthAll xs
  | y :: ys, x, m => by
    show x.depth ≤ max (PyData.depth y) (PyData.depthAll ys)
    rcases List.mem_cons.mp m with e | m
    · rw [e]
      omega
    · have := dep_mem m
      omega
theorem sqt_ty {K : PySem.W.Frag} {H : Hp} {a : Addr} {xs : List V} (h : SqT K H a xs) : TyX K H (.ref a) (.type "tuple") := by
  rcases h with h | ⟨o, its, n, h1, h2, _⟩
  · rcases h with h | ⟨o, h⟩
    · exact .base (.tup h)
    · exact .fTuple h
  · exact .kTuple h1 h2
/-- isinstance with a built-in class of data that is no tuple -/
def isTy (c : String) : PyData → Bool
  | .bool _ => c == "bool" || c == "int"
  | .int _ => c == "int"
  | .str _ => c == "str"
  | _ => false
theorem td_ty {K : PySem.W.Frag} {H : Hp} {v : V} {d : PyData} (h : Td K H v d) (n : ∀ xs, d ≠ .tuple xs) (c : String) (hc : c = "tuple" ∨ c = "bool" ∨ c = "str" ∨ c = "int") : ∃ t, TyX K H v t ∧ PySem.W.kitOne K t (.type c) = some (isTy c d) := by
  cases h with
  | non =>
    rcases hc with rfl | rfl | rfl | rfl
    · exact ⟨_, .base .non, kit_ty (show kitB _ "tuple" = some false by decide +kernel)⟩
    · exact ⟨_, .base .non, kit_ty (show kitB _ "bool" = some false by decide +kernel)⟩
    · exact ⟨_, .base .non, kit_ty (show kitB _ "str" = some false by decide +kernel)⟩
    · exact ⟨_, .base .non, kit_ty (show kitB _ "int" = some false by decide +kernel)⟩
  | bl b =>
    rcases hc with rfl | rfl | rfl | rfl
    · exact ⟨_, .base (.bl b), kit_ty (show kitB _ "tuple" = some false by decide +kernel)⟩
    · exact ⟨_, .base (.bl b), kit_ty (show kitB _ "bool" = some true by decide +kernel)⟩
    · exact ⟨_, .base (.bl b), kit_ty (show kitB _ "str" = some false by decide +kernel)⟩
    · exact ⟨_, .base (.bl b), kit_ty (show kitB _ "int" = some true by decide +kernel)⟩
  | int i =>
    rcases hc with rfl | rfl | rfl | rfl
    · exact ⟨_, .base (.int i), kit_ty (show kitB _ "tuple" = some false by decide +kernel)⟩
    · exact ⟨_, .base (.int i), kit_ty (show kitB _ "bool" = some false by decide +kernel)⟩
    · exact ⟨_, .base (.int i), kit_ty (show kitB _ "str" = some false by decide +kernel)⟩
    · exact ⟨_, .base (.int i), kit_ty (show kitB _ "int" = some true by decide +kernel)⟩
  | str x =>
    rcases hc with rfl | rfl | rfl | rfl
    · exact ⟨_, .base (.str x), kit_ty (show kitB _ "tuple" = some false by decide +kernel)⟩
    · exact ⟨_, .base (.str x), kit_ty (show kitB _ "bool" = some false by decide +kernel)⟩
    · exact ⟨_, .base (.str x), kit_ty (show kitB _ "str" = some true by decide +kernel)⟩
    · exact ⟨_, .base (.str x), kit_ty (show kitB _ "int" = some false by decide +kernel)⟩
  | tup _ _ => exact absurd rfl (n _)
def spSameD (K : PySem.W.Frag) : Nat → Sp
  | 0 => fun _ _ _ _ => False
  | n + 1 => fun vs H Q _ => ∃ (x y : V) (d : PyData), vs = [x, y] ∧ Td K H x d ∧ Td K H y d ∧ d.depth ≤ n ∧ smallB d = true ∧ ∀ H', Same H H' → Q (.bl true) H'
section
variable {P : Program} {w : World} {K : PySem.W.Frag} {mg : Str → Option Value} {base : Heap}
theorem ok_sameD (T : Top w K mg) : ∀ n : Nat, FnOk P w K mg base CX0 n T.a_Lsame T.d_Lsame ["_law_found", "_law_due_here"] (spSameD K n)
  | 0 => ⟨fun _ _ _ _ h => False.elim h, fun _ _ _ _ _ _ _ _ _ _ _ _ _ h => False.elim h⟩
  | n + 1 => by
    have G_Lsame : FnOk P w K mg base CX0 n _ _ _ _ := ok_sameD T n
    refine T.F_Lsame.ok sc_Lsame (fun vs H Q E h => ?_) (fun cdv A outer s H vs Q E hr h => ?_)
    · obtain ⟨x, y, d, rfl, _⟩ := h
      rfl
    · obtain ⟨x, y, d, rfl, hx, hy, hd, hs, q⟩ := h
      refine ⟨_, (pss_cons (ps_if (pt_val (pe_callB call_isi (by rfl) T.m_isinstance (by decide +kernel) (pa_cons (pv 1) (pa_cons (pe_bltn (v := .ty "tuple") (by rfl) T.m_tuple (by decide +kernel) rfl) pa_nil)))) (pss_cons (ps_if (PW.pt (pw_or (pt_not (pt_val (pe_callB call_isi (by rfl) T.m_isinstance (by decide +kernel) (pa_cons (pv 0) (pa_cons (pe_bltn (v := .ty "tuple") (by rfl) T.m_tuple (by decide +kernel) rfl) pa_nil))))) (pw_or1 (pt_cmpR op_ne (pe_callB call_len_seq (by rfl) T.m_len PySem.boot_len (pa_cons (pv 0) pa_nil)) (pe_callB call_len_seq (by rfl) T.m_len PySem.boot_len (pa_cons (pv 1) pa_nil)) (nomark _))))) (pss_one (ps_ret pe_bl)) pss_nil)
      (pss_one (ps_ret (pe_callB (cr_all rfl) (by rfl) T.m_all (by decide +kernel) (pa_cons (pe_lc (own := [("_law_one", 2), ("_law_other", 3)]) (tt := tYes) (by rfl) sc_Lsame.nd (RZ.pi_zipA (by rfl) T.m_zip (pa_cons (pv 0) (pa_cons (pv 1) pa_nil))) (blkOk_by (own := [("_law_one", 2), ("_law_other", 3)]) (N := ["_law_found", "_law_due_here", "_law_one", "_law_other"]) (sc := defScope s_Lsame) (by decide +kernel)) (fun _ _ _ _ _ => (pg_tupK (K := K) (n := 2) rfl rfl (pgs_cons (pg_name (i := 2) sc_Lsame.nd rfl (.inl rfl)) (pgs_cons (pg_name (i := 3) sc_Lsame.nd rfl (.inl rfl)) pgs_nil)) rfl)) (fun _ _ _ _ _ => pts_nil) (fun _ _ _ _ _ => (pe_call G_Lsame hr (by rfl) T.g_Lsame T.F_Lsame.kp T.b_Lsame .nil pass0 (pa_cons (pv 2) (pa_cons (pv 3) pa_nil))))) pa_nil))))) pss_nil)
      (pss_cons (ps_if (pt_cmpR op_isN (pv 1) pe_non (nomark _)) (pss_one (ps_ret (pe_cmpR op_isN (pv 0) pe_non (nomark _)))) pss_nil)
      (pss_cons (ps_if (PW.pt (pw_or (pt_cmpR op_ne (pe_callB call_isi (by rfl) T.m_isinstance (by decide +kernel) (pa_cons (pv 0) (pa_cons (pe_bltn (v := .ty "bool") (by rfl) T.m_bool (by decide +kernel) rfl) pa_nil))) (pe_callB call_isi (by rfl) T.m_isinstance (by decide +kernel) (pa_cons (pv 1) (pa_cons (pe_bltn (v := .ty "bool") (by rfl) T.m_bool (by decide +kernel) rfl) pa_nil))) (nomark _)) (pw_or1 (pt_cmpR op_ne (pe_callB call_isi (by rfl) T.m_isinstance (by decide +kernel) (pa_cons (pv 0) (pa_cons (pe_bltn (v := .ty "str") (by rfl) T.m_str (by decide +kernel) rfl) pa_nil))) (pe_callB call_isi (by rfl) T.m_isinstance (by decide +kernel) (pa_cons (pv 1) (pa_cons (pe_bltn (v := .ty "str") (by rfl) T.m_str (by decide +kernel) rfl) pa_nil))) (nomark _))))) (pss_one (ps_ret pe_bl)) pss_nil)
      (pss_one (ps_ret (pe_and (pe_callB call_isiT (by rfl) T.m_isinstance (by decide +kernel) (pa_cons (pv 0) (pa_cons (pe_tup (pa_cons (pe_bltn (v := .ty "int") (by rfl) T.m_int (by decide +kernel) rfl) (pa_cons (pe_bltn (v := .ty "str") (by rfl) T.m_str (by decide +kernel) rfl) pa_nil))) pa_nil))) (pe_one (pe_cmpR op_eq (pv 0) (pv 1) (nomark _))))))))), ?_⟩
      cases d with
      | tuple ds =>
        cases hx with
        | @tup a xs _ ha hxs =>
          cases hy with
          | @tup b ys _ hb hys =>
            have l1 := hxs.length
            have l2 := hys.length
            rw [smallB, Bool.and_eq_true] at hs
            have l3 : ds.length ≤ 1000 := of_decide_eq_true hs.1
            refine ⟨_, rfl, _, _, _, _, true, rfl, ClsV.ty _, sqt_ty hb, kit_ty (by decide +kernel), _, rfl, iteT ?_⟩
            refine ⟨_, rfl, _, _, _, _, true, rfl, ClsV.ty _, sqt_ty ha, kit_ty (by decide +kernel), _, rfl, iteF ?_⟩
            refine ⟨_, rfl, a, _, rfl, .inr ha, _, rfl, b, _, rfl, .inr hb, rfl, _, rfl, ?_⟩
            refine ite2 (fun e => ?_) (fun _ => ?_)
            · rw [l1, l2] at e
              simp at e
            · cases n with
              | zero =>
                have hd : PyData.depthAll ds + 1 ≤ 0 := hd
                omega
              | succ m =>
                refine ⟨_, rfl, _, rfl, a, b, _, _, rfl, .inr ⟨ha, hb, fun D nD => ?_⟩⟩
                refine lc_it (walk_zipT (n := ds.length) (by omega)) (fun i H' => Same H H' ∧ H' D = some (.lst ((List.replicate i true).map V.bl))) ⟨same_new nD, upd_same⟩ (fun i H' hi hq => ⟨Tups.of_same hq.1 _ _ ha, Tups.of_same hq.1 _ _ hb⟩) (fun i x H' H'' hi hq y => ?_) (fun H' hq => ?_)
                · obtain ⟨s2, hD⟩ := hq
                  obtain ⟨Tt, x0, y0, rfl, nT, rfl, hx0, hy0⟩ := y
                  obtain ⟨d1, e1, t1⟩ := TdAll.at hxs hx0
                  obtain ⟨d2, e2, t2⟩ := TdAll.at hys hy0
                  rw [e1] at e2
                  cases e2
                  have sT := same_new (o := .tup [x0, y0]) nT
                  have s3 := s2.trans sT
                  refine ⟨Tt, _, rfl, SqT.of upd_same, rfl, _, _, rfl, _, _, rfl, rfl, rfl, yes_ite ?_⟩
                  refine ⟨_, rfl, _, rfl, x0, y0, d1, rfl, t1.mono (Tups.of_same s3), t2.mono (Tups.of_same s3), ?_, small_mem hs.2 d1 (List.mem_of_getElem? e1), fun H3 s4 => ?_⟩
                  · have hd : PyData.depthAll ds + 1 ≤ m + 1 := hd
                    have := dep_mem (List.mem_of_getElem? e1)
                    omega
                  · refine ⟨_, s4 _ _ (sT _ _ hD), szl (by rw [List.length_map, List.length_replicate]; omega), ?_, ?_⟩
                    · intro c o e
                      rw [upd_ne (ne_of_none e nD)]
                      exact s4 _ _ (s3 _ _ e)
                    · rw [upd_same, List.replicate_succ', List.map_append]
                      rfl
                · obtain ⟨s2, hD⟩ := hq
                  refine ⟨D, _, rfl, SqL.of hD, ?_⟩
                  have e : (List.replicate ds.length true).all id = true := List.all_eq_true.mpr fun b hb => by
                    rw [List.eq_of_mem_replicate hb]
                    rfl
                  rw [e]
                  exact q _ s2
      | list _ => exact absurd hs (by rw [smallB]; decide)
      | dict _ => exact absurd hs (by rw [smallB]; decide)
      | none =>
        obtain ⟨t1, ty1, kt1⟩ := td_ty hy (by intro xs z; cases z) "tuple" (.inl rfl)
        cases hx
        cases hy
        refine ⟨_, rfl, _, _, _, _, _, rfl, ClsV.ty _, ty1, kt1, _, rfl, iteF ?_⟩
        refine ⟨_, rfl, rfl, _, rfl, iteT ?_⟩
        exact ⟨_, rfl, rfl, q _ fun _ _ z => z⟩
      | bool c =>
        obtain ⟨t1, ty1, kt1⟩ := td_ty hy (by intro xs z; cases z) "tuple" (.inl rfl)
        obtain ⟨t2, ty2, kt2⟩ := td_ty hy (by intro xs z; cases z) "bool" (.inr (.inl rfl))
        obtain ⟨t3, ty3, kt3⟩ := td_ty hy (by intro xs z; cases z) "str" (.inr (.inr (.inl rfl)))
        cases hx
        cases hy
        refine ⟨_, rfl, _, _, _, _, _, rfl, ClsV.ty _, ty1, kt1, _, rfl, iteF ?_⟩
        refine ⟨_, rfl, rfl, _, rfl, ?_⟩
        refine ite2 (fun e => absurd e (by simp)) (fun _ => ?_)
        refine ⟨_, rfl, _, _, _, _, _, rfl, ClsV.ty _, ty2, kt2, _, rfl, _, _, _, _, _, rfl, ClsV.ty _, ty2, kt2, rfl, _, rfl, iteNS rfl ?_⟩
        refine ⟨_, rfl, _, _, _, _, _, rfl, ClsV.ty _, ty3, kt3, _, rfl, _, _, _, _, _, rfl, ClsV.ty _, ty3, kt3, rfl, _, rfl, iteNS rfl ?_⟩
        refine ⟨_, rfl, (by show 2 ≤ sizeLine; decide), fun t nt => ⟨_, t, _, _, _, true, rfl, upd_same, .cons (ClsV.ty _) (.cons (ClsV.ty _) .nil), .base (.bl _), kitAny_cons (kit_ty (b := "int") (r := true) (by decide +kernel)) (fun z => nomatch z) (fun _ => rfl), true, rfl, iteT ?_⟩⟩
        refine ⟨_, rfl, _, rfl, rfl, ?_⟩
        rw [decide_eq_true rfl]
        exact q _ (same_new nt)
      | int c =>
        obtain ⟨t1, ty1, kt1⟩ := td_ty hy (by intro xs z; cases z) "tuple" (.inl rfl)
        obtain ⟨t2, ty2, kt2⟩ := td_ty hy (by intro xs z; cases z) "bool" (.inr (.inl rfl))
        obtain ⟨t3, ty3, kt3⟩ := td_ty hy (by intro xs z; cases z) "str" (.inr (.inr (.inl rfl)))
        cases hx
        cases hy
        refine ⟨_, rfl, _, _, _, _, _, rfl, ClsV.ty _, ty1, kt1, _, rfl, iteF ?_⟩
        refine ⟨_, rfl, rfl, _, rfl, ?_⟩
        refine ite2 (fun e => absurd e (by simp)) (fun _ => ?_)
        refine ⟨_, rfl, _, _, _, _, _, rfl, ClsV.ty _, ty2, kt2, _, rfl, _, _, _, _, _, rfl, ClsV.ty _, ty2, kt2, rfl, _, rfl, iteNS rfl ?_⟩
        refine ⟨_, rfl, _, _, _, _, _, rfl, ClsV.ty _, ty3, kt3, _, rfl, _, _, _, _, _, rfl, ClsV.ty _, ty3, kt3, rfl, _, rfl, iteNS rfl ?_⟩
        refine ⟨_, rfl, (by show 2 ≤ sizeLine; decide), fun t nt => ⟨_, t, _, _, _, true, rfl, upd_same, .cons (ClsV.ty _) (.cons (ClsV.ty _) .nil), .base (.int _), kitAny_cons (kit_ty (b := "int") (r := true) (by decide +kernel)) (fun z => nomatch z) (fun _ => rfl), true, rfl, iteT ?_⟩⟩
        refine ⟨_, rfl, _, rfl, rfl, ?_⟩
        rw [decide_eq_true rfl]
        exact q _ (same_new nt)
      | str c =>
        obtain ⟨t1, ty1, kt1⟩ := td_ty hy (by intro xs z; cases z) "tuple" (.inl rfl)
        obtain ⟨t2, ty2, kt2⟩ := td_ty hy (by intro xs z; cases z) "bool" (.inr (.inl rfl))
        obtain ⟨t3, ty3, kt3⟩ := td_ty hy (by intro xs z; cases z) "str" (.inr (.inr (.inl rfl)))
        cases hx
        cases hy
        refine ⟨_, rfl, _, _, _, _, _, rfl, ClsV.ty _, ty1, kt1, _, rfl, iteF ?_⟩
        refine ⟨_, rfl, rfl, _, rfl, ?_⟩
        refine ite2 (fun e => absurd e (by simp)) (fun _ => ?_)
        refine ⟨_, rfl, _, _, _, _, _, rfl, ClsV.ty _, ty2, kt2, _, rfl, _, _, _, _, _, rfl, ClsV.ty _, ty2, kt2, rfl, _, rfl, iteNS rfl ?_⟩
        refine ⟨_, rfl, _, _, _, _, _, rfl, ClsV.ty _, ty3, kt3, _, rfl, _, _, _, _, _, rfl, ClsV.ty _, ty3, kt3, rfl, _, rfl, iteNS rfl ?_⟩
        refine ⟨_, rfl, (by show 2 ≤ sizeLine; decide), fun t nt => ⟨_, t, _, _, _, true, rfl, upd_same, .cons (ClsV.ty _) (.cons (ClsV.ty _) .nil), .base (.str _), kitAny_cons (kit_ty (b := "int") (r := false) (by decide +kernel)) (fun _ => kitAny_cons (kit_ty (b := "str") (r := true) (by decide +kernel)) (fun z => nomatch z) (fun _ => rfl)) (fun z => nomatch z), true, rfl, iteT ?_⟩⟩
        refine ⟨_, rfl, _, rfl, rfl, ?_⟩
        rw [decide_eq_true rfl]
        exact q _ (same_new nt)
end

/-! ### _law_due -/
def dueK : List (Key × V) := [(.inr "new", .int 0), (.inr "put", .int 1), (.inr "add", .int 2), (.inr "reach", .int 2), (.inr "kth", .int 2), (.inr "spread", .int 2)]
def dueN (z : Str) : Nat := match (valV (mergeK [] dueK) (.inr z)).getD (.int 3) with | .int i => i.toNat | _ => 0
def dueT : List (List Sl × Nat × Bool) := [([.num, .knd], 0, false), ([.pt, .num], 1, false), ([.pt, .knd], 3, false), ([.pt, .pt], 3, false), ([.pt, .pt, .num], 2, false), ([.pt, .oth, .num], 2, true), ([.pt, .pt, .knd], 3, false), ([.pt, .pt, .plc], 2, false), ([.pt, .pt, .pt], 3, false), ([.pt, .oth], 3, false), ([.pt, .oth, .knd], 3, false)]
theorem due_tab {z : Str} {sl : List Sl} (h : forms.lookup z = some sl) : (sl, dueN z, decide (z = "spread")) ∈ dueT ∧ (valV (mergeK [] dueK) (.inr z)).getD (.int 3) = .int (dueN z : Int) := by
  have g : ∀ f ∈ forms, (f.2, dueN f.1, decide (f.1 = "spread")) ∈ dueT ∧ (valV (mergeK [] dueK) (.inr f.1)).getD (.int 3) = .int (dueN f.1 : Int) := by decide +kernel
  have m : (z, sl) ∈ forms := PySem.mem_of_lookup h
  exact g (z, sl) m
def spotsN (n : Nat) (b : Bool) (ps : List V) : List V := if (b && decide (ps[1]? = some .non)) = true then ((ps.filter isIntV).take n).take 1 else (ps.filter isIntV).take n
theorem fits_one {a : Sl} {ss : List Sl} {ps : List V} (h : fitsB (a :: ss) ps = true) : ∃ x r, ps = x :: r ∧ fitB a x = true ∧ fitsB ss r = true := by
  cases ps with
  | nil => exact nomatch h
  | cons x r =>
    have h : (fitB a x && fitsB ss r) = true := h
    rw [Bool.and_eq_true] at h
    exact ⟨x, r, rfl, h.1, h.2⟩
theorem fits_zero {ps : List V} (h : fitsB [] ps = true) : ps = [] := by
  cases ps with
  | nil => rfl
  | cons x r => exact nomatch h
theorem fits_oth {v : V} (h : fitB .oth v = true) : v = .non ∨ ∃ i, v = .int i := by
  cases v <;> first | exact .inl rfl | exact .inr ⟨_, rfl⟩ | exact nomatch h
theorem fits_plc {v : V} (h : fitB .plc v = true) : ∃ i, v = .int i := by
  cases v <;> first | exact ⟨_, rfl⟩ | exact nomatch h
theorem due_spots {sl : List Sl} {n : Nat} {b : Bool} {ps : List V} (h : (sl, n, b) ∈ dueT) (f : fitsB sl ps = true) : spotsN n b ps = namedV sl ps := by
  unfold dueT at h
  have one : ∀ {x : V}, fitB .pt x = true → ∃ i, x = .int i := fits_pt
  rcases List.mem_cons.mp h with e | h
  · cases e
    obtain ⟨x, y, rfl, h1, h2⟩ := fits_two f
    obtain ⟨i, rfl⟩ := fits_num h1
    obtain ⟨k, rfl, _⟩ := fits_knd h2
    rfl
  rcases List.mem_cons.mp h with e | h
  · cases e
    obtain ⟨x, y, rfl, h1, h2⟩ := fits_two f
    obtain ⟨i, rfl⟩ := fits_pt h1
    obtain ⟨k, rfl⟩ := fits_num h2
    rfl
  rcases List.mem_cons.mp h with e | h
  · cases e
    obtain ⟨x, y, rfl, h1, h2⟩ := fits_two f
    obtain ⟨i, rfl⟩ := fits_pt h1
    obtain ⟨k, rfl, _⟩ := fits_knd h2
    rfl
  rcases List.mem_cons.mp h with e | h
  · cases e
    obtain ⟨x, y, rfl, h1, h2⟩ := fits_two f
    obtain ⟨i, rfl⟩ := fits_pt h1
    obtain ⟨k, rfl⟩ := fits_pt h2
    rfl
  rcases List.mem_cons.mp h with e | h
  · cases e
    obtain ⟨x, r, rfl, h1, f⟩ := fits_one f
    obtain ⟨y, z, rfl, h2, h3⟩ := fits_two f
    obtain ⟨i, rfl⟩ := fits_pt h1
    obtain ⟨j, rfl⟩ := fits_pt h2
    obtain ⟨k, rfl⟩ := fits_num h3
    rfl
  rcases List.mem_cons.mp h with e | h
  · cases e
    obtain ⟨x, r, rfl, h1, f⟩ := fits_one f
    obtain ⟨y, z, rfl, h2, h3⟩ := fits_two f
    obtain ⟨i, rfl⟩ := fits_pt h1
    obtain ⟨k, rfl⟩ := fits_num h3
    rcases fits_oth h2 with rfl | ⟨j, rfl⟩
    · rfl
    · rfl
  rcases List.mem_cons.mp h with e | h
  · cases e
    obtain ⟨x, r, rfl, h1, f⟩ := fits_one f
    obtain ⟨y, z, rfl, h2, h3⟩ := fits_two f
    obtain ⟨i, rfl⟩ := fits_pt h1
    obtain ⟨j, rfl⟩ := fits_pt h2
    obtain ⟨k, rfl, _⟩ := fits_knd h3
    rfl
  rcases List.mem_cons.mp h with e | h
  · cases e
    obtain ⟨x, r, rfl, h1, f⟩ := fits_one f
    obtain ⟨y, z, rfl, h2, h3⟩ := fits_two f
    obtain ⟨i, rfl⟩ := fits_pt h1
    obtain ⟨j, rfl⟩ := fits_pt h2
    obtain ⟨k, rfl⟩ := fits_plc h3
    rfl
  rcases List.mem_cons.mp h with e | h
  · cases e
    obtain ⟨x, r, rfl, h1, f⟩ := fits_one f
    obtain ⟨y, z, rfl, h2, h3⟩ := fits_two f
    obtain ⟨i, rfl⟩ := fits_pt h1
    obtain ⟨j, rfl⟩ := fits_pt h2
    obtain ⟨k, rfl⟩ := fits_pt h3
    rfl
  rcases List.mem_cons.mp h with e | h
  · cases e
    obtain ⟨x, y, rfl, h1, h2⟩ := fits_two f
    obtain ⟨i, rfl⟩ := fits_pt h1
    rcases fits_oth h2 with rfl | ⟨j, rfl⟩
    · rfl
    · rfl
  · have e := List.mem_singleton.mp h
    cases e
    obtain ⟨x, r, rfl, h1, f⟩ := fits_one f
    obtain ⟨y, z, rfl, h2, h3⟩ := fits_two f
    obtain ⟨i, rfl⟩ := fits_pt h1
    obtain ⟨k, rfl, _⟩ := fits_knd h3
    rcases fits_oth h2 with rfl | ⟨j, rfl⟩
    · rfl
    · rfl
theorem spread_two {n : Nat} {sl : List Sl} {ps : List V} (h : (sl, n, true) ∈ dueT) (f : fitsB sl ps = true) : ∃ x y k, ps = [x, y, k] := by
  have e : sl = [.pt, .oth, .num] := by
    have g : ∀ t ∈ dueT, t.2.2 = true → t.1 = [.pt, .oth, .num] := by decide +kernel
    exact g _ h rfl
  subst e
  obtain ⟨x, r, rfl, h1, f⟩ := fits_one f
  obtain ⟨y, z, rfl, h2, h3⟩ := fits_two f
  exact ⟨_, _, _, rfl⟩
def Out.due (pts : List (Int × Str)) (ts : List (Int × Int)) : Out → PyData
  | .told p t d => out2 p t d
  | .no j => .tuple [fdata pts ts, .str (wds.getD j "")]
def spDue (K : PySem.W.Frag) (ws : List Str) (F : List (Int × Str) → List (Int × Int) → Str → List V → Out) : Sp := fun vs H Q _ => ∃ (f : V) (r : Addr) (z : Str) (sl : List Sl) (ps : List V) (pts : List (Int × Str)) (ts : List (Int × Int)), vs = [f, .ref r] ∧ Td K H f (fdata pts ts) ∧ FrOk pts ts ∧ RowAt H r z sl ps ∧ z ∈ ws ∧
  ∀ (t : Addr) (H' : Hp), Same H H' → Td K H' (.ref t) ((F pts ts z ps).due pts ts) → Q (.ref t) H'

theorem iteT' {c A B : Prop} [Decidable c] (hc : c) (h : A) : if decide c = true then A else B := by
  rw [decide_eq_true hc]
  exact iteT h

end My
namespace My
open PySem L2
/-! ### asked of ways -/
def ptAt (pts : List (Int × Str)) (p : Int) : Int × Str := (pts[p.toNat]?).getD (0, "")
def InP (pts : List (Int × Str)) (l : List Int) : Prop := ∀ x ∈ l, 0 ≤ x ∧ x < (pts.length : Int)
theorem way_in {pts : List (Int × Str)} {ts : List (Int × Int)} (fok : FrOk pts ts) {a b : Int} {l : List Int} (w : Wlk ts a b l) (a0 : 0 ≤ a) (a1 : a < (pts.length : Int)) : InP pts l := by
  induction w with
  | one a =>
    intro x hx
    rw [List.mem_singleton.mp hx]
    exact ⟨a0, a1⟩
  | @cons a b c l e _ ih =>
    intro x hx
    rcases List.mem_cons.mp hx with rfl | hx
    · exact ⟨a0, a1⟩
    · have hb : 0 ≤ b ∧ b < (pts.length : Int) := by
        rcases e with e | e
        · have z := fok.tok _ e
          exact ⟨z.2.1, z.2.2.2⟩
        · have z := fok.tok _ e
          exact ⟨z.1, z.2.2.1⟩
      exact ih hb.1 hb.2 x hx
theorem pts_at {K : PySem.W.Frag} {H : Hp} {xs : List V} {pts : List (Int × Str)} (f3 : TdAll K H xs (pts.map pdata)) {p : Int} (p0 : 0 ≤ p) (p1 : p < (pts.length : Int)) : ∃ pp, atI xs p = some (.ref pp) ∧ SqT K H pp [.int (ptAt pts p).1, .str (ptAt pts p).2] := by
  have hp0 : p = ((p.toNat : Nat) : Int) := by omega
  have lxs : xs.length = pts.length := by
    rw [f3.length, List.length_map]
  have hpl : p.toNat < pts.length := by omega
  obtain ⟨v, hv⟩ : ∃ v, xs[p.toNat]? = some v := ⟨xs[p.toNat]'(by omega), List.getElem?_eq_getElem (by omega)⟩
  obtain ⟨dv, hdv, tdv⟩ := TdAll.at f3 hv
  rw [List.getElem?_map, List.getElem?_eq_getElem hpl] at hdv
  cases hdv
  obtain ⟨pp, rfl, hpp⟩ := pdata_inv tdv
  refine ⟨pp, ?_, ?_⟩
  · rw [hp0]
    exact atI_nat hv
  · unfold ptAt
    rw [List.getElem?_eq_getElem hpl]
    exact hpp
section
variable {P : Program} {w : World} {K : PySem.W.Frag} {mg : Str → Option Value} {base : Heap}
theorem List.take_succ_eq_append_getElem? {α : Type} : ∀ {l : List α} {i : Nat} {u : α}, l[i]? = some u → l.take (i + 1) = l.take i ++ [u]
  | [], _, _, h => by simp at h
  | x :: r, 0, u, h => by
    cases h
    rfl
  | x :: r, i + 1, u, h => by
    have h : r[i]? = some u := h
    rw [List.take_succ_cons, List.take_succ_cons, List.take_succ_eq_append_getElem? h]
    rfl
def spAskedWay (T : Top w K mg) : Sp := fun vs H Q E => ∃ (f : V) (a b : Int) (pts : List (Int × Str)) (ts : List (Int × Int)), vs = [f, .int a, .int b] ∧ Td K H f (fdata pts ts) ∧ FrOk pts ts ∧ 0 ≤ a ∧ a < (pts.length : Int) ∧ 0 ≤ b ∧ b < (pts.length : Int) ∧
  (∀ H', Same H H' → ¬ Rch ts a b → E (.ref T.c_Apart) none H') ∧ ∀ (t : Addr) (l : List Int) (H' : Hp), Same H H' → H t = none → Way ts a b l → l.length ≤ pts.length → H' t = some (.tup (l.map V.int)) → Q (.ref t) H'
theorem ok_askedway (T : Top w K mg) : FnOk P w K mg base (L2.CX P w) 4 T.a_askedway T.d_askedway ["forest", "a", "b"] (spAskedWay T) := by
  have G_wayof : FnOk P w K mg base CX0 3 _ _ _ _ := ok_wayof T
  refine T.F_askedway.okX sc_askedway (fun vs H Q E h => ?_) (fun cdv A outer s H vs Q E hr h => ?_)
  · obtain ⟨f, a, b, pts, ts, rfl, _⟩ := h
    rfl
  · obtain ⟨f, a, b, pts, ts, rfl, hf, fok, a0, a1, b0, b1, qn, qw⟩ := h
    refine ⟨_, (pss_cons (ps_set (i := 3) sc_askedway.nd rfl (.inl rfl) (pe_call G_wayof hr (by rfl) T.g_wayof T.F_wayof.kp T.b_wayof .nil pass0 (pa_cons (pv 0) (pa_cons (pv 1) (pa_cons (pv 2) pa_nil)))))
      (pss_cons (ps_if (pt_cmpR op_isN (pv 3) pe_non (nomark _)) (pss_one (ps_raise rfl (takes_of rfl rfl rfl rfl) (pmk_own0 T.x_Apart T.v_Apart T.k_Apart (raises_own T.sb_Apart T.ty_Apart) (by rfl)))) pss_nil)
      (pss_one (ps_ret (pv 3))))), ?_⟩
    refine ⟨_, rfl, _, rfl, _, rfl, f, a, b, pts, ts, rfl, hf, fok, a0, a1, b0, b1, fun H1 s1 nr => ?_, fun t l H1 s1 nt wy len ht => ?_⟩
    · refine ⟨_, rfl, rfl, _, rfl, iteT ?_⟩
      exact qn H1 s1 nr
    · refine ⟨_, rfl, rfl, _, rfl, iteF ?_⟩
      exact ⟨_, rfl, qw t l H1 s1 nt wy len ht⟩
def spWorths (K : PySem.W.Frag) : Sp := fun vs H Q _ => ∃ (f : V) (c : Addr) (l : List Int) (pts : List (Int × Str)) (ts : List (Int × Int)), vs = [f, .ref c] ∧ Td K H f (fdata pts ts) ∧ H c = some (.tup (l.map V.int)) ∧ InP pts l ∧ l.length ≤ 100 ∧
  ∀ (D : Addr) (H' : Hp), Same H H' → H D = none → H' D = some (.lst ((l.map fun p => (ptAt pts p).1).map V.int)) → Q (.ref D) H'
theorem ok_worths (T : Top w K mg) : FnOk P w K mg base CX0 1 T.a_worthsof T.d_worthsof ["forest", "chosen"] (spWorths K) := by
  refine T.F_worthsof.ok sc_worthsof (fun vs H Q E h => ?_) (fun cdv A outer s H vs Q E hr h => ?_)
  · obtain ⟨f, c, l, pts, ts, rfl, _⟩ := h
    rfl
  · obtain ⟨f, c, l, pts, ts, rfl, hf, hc, hin, hl, q⟩ := h
    obtain ⟨fa, pa, ta, xs, ys, rfl, f1, f2, f3, f4, f5⟩ := Td.parts hf
    refine ⟨_, (pss_cons (ps_set (i := 2) sc_worthsof.nd rfl (.inr rfl) (pe_ix ix_tup (pv 0) pe_int (fun _ _ => rfl)))
      (pss_one (ps_ret (pe_lc (own := [("p", 3)]) (g := gName 3) (tt := tYes) (by rfl) sc_worthsof.nd (pi_tup (pv 1)) (blkOk_by (own := [("p", 3)]) (N := ["forest", "chosen", "points", "p"]) (sc := defScope s_worthsof) (by decide +kernel)) (fun _ _ _ _ _ => (pg_name (i := 3) sc_worthsof.nd rfl (.inl rfl))) (fun _ _ _ _ _ => pts_nil) (fun _ _ _ _ _ => (pe_ix (ix_tupK (K := K) rfl) (pe_ix (ix_tupK (K := K) rfl) (pv 2) (pv 3) (fun _ _ => rfl)) pe_int (fun _ _ => rfl))))))), ?_⟩
    refine ⟨_, rfl, fa, _, _, _, rfl, rfl, f1, atI_nat (j := 0) rfl, ?_⟩
    refine ⟨_, rfl, c, rfl, ⟨_, SqT.of hc⟩, fun D nD => ?_⟩
    refine lc_tup (xs := l.map V.int) (fun i H3 => Same H H3 ∧ H3 D = some (.lst (((l.take i).map fun p => (ptAt pts p).1).map V.int))) ⟨same_new nD, upd_same⟩ (fun i H3 hi hq => SqT.of (hq.1 _ _ hc)) (fun i x H3 hx hq => ?_) (fun H3 hq => ?_)
    · obtain ⟨s3, hD⟩ := hq
      rw [List.getElem?_map] at hx
      obtain ⟨u, hu, rfl⟩ := Option.map_eq_some_iff.mp hx
      obtain ⟨u0, u1⟩ := hin u (List.mem_of_getElem? hu)
      obtain ⟨pp, hat, hpp⟩ := pts_at f3 u0 u1
      have tk : l.take (i + 1) = l.take i ++ [u] := List.take_succ_eq_append_getElem? hu
      have t3 := Tups.of_same (K := K) s3
      refine ⟨rfl, ?_⟩
      refine ⟨_, rfl, _, rfl, pa, _, _, _, rfl, rfl, t3 _ _ f2, hat, pp, _, _, _, rfl, rfl, t3 _ _ hpp, atI_nat (j := 0) rfl, _, hD, ?_, ?_, ?_⟩
      · rw [List.length_map, List.length_map, List.length_take]
        exact szl (by omega)
      · intro b o e
        rw [upd_ne (ne_of_none e nD)]
        exact s3 _ _ e
      · rw [upd_same, tk, List.map_append, List.map_append]
        rfl
    · obtain ⟨s3, hD⟩ := hq
      rw [List.length_map, List.take_of_length_le (Nat.le_refl _)] at hD
      exact q D H3 s3 nD hD
/-- the first of the greatest -/
def Best (pts : List (Int × Str)) (l : List Int) (m p : Int) : Prop := ∃ j : Nat, l[j]? = some p ∧ (ptAt pts p).1 = m ∧ (∀ x ∈ l, (ptAt pts x).1 ≤ m) ∧ ∀ (i : Nat) (x : Int), i < j → l[i]? = some x → (ptAt pts x).1 ≠ m
def spGreatest (K : PySem.W.Frag) : Sp := fun vs H Q _ => ∃ (f : V) (c : Addr) (l : List Int) (pts : List (Int × Str)) (ts : List (Int × Int)), vs = [f, .ref c] ∧ Td K H f (fdata pts ts) ∧ H c = some (.tup (l.map V.int)) ∧ InP pts l ∧ l.length ≤ 100 ∧ l ≠ [] ∧
  ∀ (t : Addr) (m p : Int) (H' : Hp), Same H H' → H t = none → Best pts l m p → H' t = some (.tup [.int m, .int p]) → Q (.ref t) H'
theorem first_at {l : List Int} {m : Int} (f : Int → Int) : m ∈ l.map f → ∃ (j : Nat) (p : Int), l[j]? = some p ∧ f p = m ∧ ∀ (i : Nat) (x : Int), i < j → l[i]? = some x → f x ≠ m := by
  induction l with
  | nil =>
    intro h
    cases h
  | cons y r ih =>
    intro h
    by_cases e : f y = m
    · exact ⟨0, y, rfl, e, fun i x hi => absurd hi (Nat.not_lt_zero _)⟩
    · have h2 : m ∈ r.map f := by
        rw [List.map_cons] at h
        rcases List.mem_cons.mp h with z | z
        · exact absurd z.symm e
        · exact z
      obtain ⟨j, p, h3, h4, h5⟩ := ih h2
      refine ⟨j + 1, p, h3, h4, fun i x hi hx => ?_⟩
      cases i with
      | zero =>
        cases hx
        exact e
      | succ i => exact h5 i x (by omega) hx
theorem ok_greatest (T : Top w K mg) : FnOk P w K mg base CX0 2 T.a_greatest T.d_greatest ["forest", "chosen"] (spGreatest K) := by
  have G_worthsof : FnOk P w K mg base CX0 1 _ _ _ _ := ok_worths T
  refine T.F_greatest.ok sc_greatest (fun vs H Q E h => ?_) (fun cdv A outer s H vs Q E hr h => ?_)
  · obtain ⟨f, c, l, pts, ts, rfl, _⟩ := h
    rfl
  · obtain ⟨f, c, l, pts, ts, rfl, hf, hc, hin, hl, hne, q⟩ := h
    have hlen : 0 < l.length := by
      cases l with
      | nil => exact absurd rfl hne
      | cons _ _ => exact Nat.succ_pos _
    refine ⟨_, (pss_cons (ps_set (i := 2) sc_greatest.nd rfl (.inl rfl) (pe_call G_worthsof hr (by rfl) T.g_worthsof T.F_worthsof.kp T.b_worthsof .nil pass0 (pa_cons (pv 0) (pa_cons (pv 1) pa_nil))))
      (pss_cons (ps_set (i := 3) sc_greatest.nd rfl (.inl rfl) (pe_callB (cr_max rfl) (by rfl) T.m_max (by decide +kernel) (pa_cons (pv 2) pa_nil)))
      (pss_one (ps_ret (pe_tup (pa_cons (pv 3) (pa_cons (pe_ix ix_tup (pv 1) (pe_bm PySem.F.plainAttrs_list PySem.F.slot_list_index PySem.F.type_list_index mt_index (pv 2) (pa_cons (pv 3) pa_nil)) (fun _ _ => rfl)) pa_nil))))))), ?_⟩
    refine ⟨_, rfl, _, rfl, f, c, l, pts, ts, rfl, hf, hc, hin, hl, fun D H1 s1 nD hD => ?_⟩
    refine ⟨_, rfl, D, _, rfl, SqL.of hD, (by rw [List.length_map]; exact hlen), fun m mm ub => ?_⟩
    obtain ⟨j, p, hj, hp, hmin⟩ := first_at (fun p => (ptAt pts p).1) mm
    have hpos : 0 ≤ (j : Int) := Int.natCast_nonneg j
    refine ⟨_, rfl, _, rfl, _, rfl, .inl ⟨rfl, _, SqL.of hD⟩, _, rfl, D, _, _, j, .int m, rfl, rfl, SqL.of hD, rfl, flat_ints _, ?_, ?_, ?_, c, _, _, .int p, rfl, rfl, SqT.of (s1 _ _ hc), ?_, (by show 2 ≤ sizeLine; decide), fun t nt => ?_⟩
    · rw [List.getElem?_map, List.getElem?_map, hj]
      exact congrArg (fun x => some (V.int x)) hp
    · simp [eqV]
    · intro i z hi hz
      rw [List.getElem?_map, List.getElem?_map] at hz
      cases hx : l[i]? with
      | none =>
        rw [hx] at hz
        cases hz
      | some x =>
        rw [hx] at hz
        cases hz
        have n := hmin i x hi hx
        simp [eqV, n]
    · refine atI_nat ?_
      rw [List.getElem?_map, hj]
      rfl
    · have st := same_new (o := .tup [.int m, .int p]) nt
      refine q t m p _ (s1.trans st) (s1.free nt) ⟨j, hj, hp, fun x hx => ub _ (List.mem_map.mpr ⟨x, hx, rfl⟩), hmin⟩ upd_same
def optI : Option Int → V
  | some p => .int p
  | none => .non
def spFirst (K : PySem.W.Frag) : Sp := fun vs H Q _ => ∃ (f : V) (c : Addr) (k : Str) (l : List Int) (pts : List (Int × Str)) (ts : List (Int × Int)), vs = [f, .ref c, .str k] ∧ Td K H f (fdata pts ts) ∧ H c = some (.tup (l.map V.int)) ∧ InP pts l ∧
  Q (optI (l.find? fun p => decide ((ptAt pts p).2 = k))) H
theorem find_turn {α : Type} {f : α → Bool} {l : List α} {i : Nat} {u : α} (hu : l[i]? = some u) (h : (l.take i).find? f = none) : (f u = true → l.find? f = some u) ∧ (f u = false → (l.take (i + 1)).find? f = none) := by
  have tk : l.take (i + 1) = l.take i ++ [u] := List.take_succ_eq_append_getElem? hu
  refine ⟨fun e => ?_, fun e => ?_⟩
  · have e0 : l = l.take (i + 1) ++ l.drop (i + 1) := (List.take_append_drop _ _).symm
    rw [e0, tk, List.append_assoc, List.find?_append, h]
    simp [e]
  · rw [tk, List.find?_append, h]
    simp [e]
theorem ok_first (T : Top w K mg) : FnOk P w K mg base CX0 1 T.a_firstofkind T.d_firstofkind ["forest", "chosen", "kind"] (spFirst K) := by
  refine T.F_firstofkind.ok sc_firstofkind (fun vs H Q E h => ?_) (fun cdv A outer s H vs Q E hr h => ?_)
  · obtain ⟨f, c, k, l, pts, ts, rfl, _⟩ := h
    rfl
  · obtain ⟨f, c, k, l, pts, ts, rfl, hf, hc, hin, q⟩ := h
    obtain ⟨fa, pa, ta, xs, ys, rfl, f1, f2, f3, f4, f5⟩ := Td.parts hf
    refine ⟨_, (pss_cons (ps_set (i := 3) sc_firstofkind.nd rfl (.inl rfl) (pe_ix ix_tup (pv 0) pe_int (fun _ _ => rfl)))
      (pss_cons (ps_for PassesOwn.never rfl (pi_tup (pv 1)) (pg_name (i := 4) sc_firstofkind.nd rfl (.inl rfl)) (pss_one (ps_if (pt_cmpR op_eq (pe_ix ix_tup (pe_ix ix_tup (pv 3) (pv 4) (fun _ _ => rfl)) pe_int (fun _ _ => rfl)) (pv 2) (nomark _)) (pss_one (ps_ret (pv 4))) pss_nil)))
      (pss_one (ps_ret pe_non)))), ?_⟩
    refine ⟨_, rfl, fa, _, _, _, rfl, rfl, f1, atI_nat (j := 0) rfl, ?_⟩
    refine ⟨_, rfl, c, rfl, ⟨_, SqT.of hc⟩, for_tup (xs := l.map V.int) (fun i σ H2 => (∃ y4, σ = [some (.ref fa), some (.ref c), some (.str k), some (.ref pa), y4]) ∧ H2 = H ∧ (l.take i).find? (fun p => decide ((ptAt pts p).2 = k)) = none) ⟨⟨_, rfl⟩, rfl, rfl⟩ (fun i σ H2 _ h => by rw [h.2.1]; exact SqT.of hc) ?_ ?_⟩
    · rintro i x σ H2 hx ⟨⟨y4, rfl⟩, rfl, hn⟩
      rw [List.getElem?_map] at hx
      obtain ⟨u, hu, rfl⟩ := Option.map_eq_some_iff.mp hx
      obtain ⟨u0, u1⟩ := hin u (List.mem_of_getElem? hu)
      obtain ⟨pp, hat, hpp⟩ := pts_at f3 u0 u1
      have tn := find_turn hu hn
      refine ⟨_, rfl, _, rfl, pa, _, _, _, rfl, rfl, f2, hat, pp, _, _, _, rfl, rfl, hpp, atI_nat (j := 1) rfl, _, rfl, rfl, _, rfl, ?_⟩
      refine ite2 (fun e => ?_) (fun e => ?_)
      · have e2 : (ptAt pts u).2 = k := V.str.inj (of_decide_eq_true e)
        rw [tn.1 (decide_eq_true e2)] at q
        exact ⟨_, rfl, q⟩
      · have e2 : ¬ (ptAt pts u).2 = k := fun z => e (decide_eq_true (congrArg V.str z))
        exact ⟨⟨_, rfl⟩, rfl, tn.2 (decide_eq_false e2)⟩
    · rintro σ H2 ⟨⟨y4, rfl⟩, rfl, hn⟩
      rw [List.length_map, List.take_of_length_le (Nat.le_refl _)] at hn
      rw [hn] at q
      exact q
structure AskPre (K : PySem.W.Frag) (H : Hp) (f : V) (r : Addr) (z : Str) (a b : Int) (rest : List V) (pts : List (Int × Str)) (ts : List (Int × Int)) : Prop where
  td : Td K H f (fdata pts ts)
  fok : FrOk pts ts
  at_ : H r = some (.tup (.str z :: .int a :: .int b :: rest))
  a0 : 0 ≤ a
  a1 : a < (pts.length : Int)
  b0 : 0 ≤ b
  b1 : b < (pts.length : Int)
def spAskW (T : Top w K mg) (z : Str) (okr : List V → Prop) (val : List (Int × Str) → List Int → List V → PyData) (np : List Int → List V → Prop) : Sp := fun vs H Q E => ∃ (f : V) (r : Addr) (a b : Int) (rest : List V) (pts : List (Int × Str)) (ts : List (Int × Int)), vs = [f, .ref r] ∧ AskPre K H f r z a b rest pts ts ∧ okr rest ∧
  (∀ H', Same H H' → ¬ Rch ts a b → E (.ref T.c_Apart) none H') ∧ (∀ l H', Same H H' → Way ts a b l → np l rest → E (.ref T.c_NoPlace) none H') ∧ ∀ (v : V) (l : List Int) (H' : Hp), Same H H' → Way ts a b l → l.length ≤ pts.length → ¬ np l rest → Td K H' v (val pts l rest) → Q v H'
def noR : List V → Prop := fun rest => rest = []
def noP : List Int → List V → Prop := fun _ _ => False
def vWay : List (Int × Str) → List Int → List V → PyData := fun _ l _ => .tuple (l.map .int)
def vTotal : List (Int × Str) → List Int → List V → PyData := fun pts l _ => .int (l.map fun p => (ptAt pts p).1).sum
def vMany : List (Int × Str) → List Int → List V → PyData := fun _ l _ => .int l.length
theorem td_ints {K : PySem.W.Frag} {H : Hp} : ∀ l : List Int, TdAll K H (l.map V.int) (l.map PyData.int)
  | [] => .nil
  | x :: r => .cons (.int x) (td_ints r)
theorem ok_askway (T : Top w K mg) : FnOk P w K mg base (L2.CX P w) 5 T.a_askway T.d_askway ["forest", "row"] (spAskW T "way" noR vWay noP) := by
  have G_askedway : FnOk P w K mg base (L2.CX P w) 4 _ _ _ _ := ok_askedway T
  refine T.F_askway.okX sc_askway (fun vs H Q E h => ?_) (fun cdv A outer s H vs Q E hr h => ?_)
  · obtain ⟨f, r, a, b, rest, pts, ts, rfl, _⟩ := h
    rfl
  · obtain ⟨f, r, a, b, rest, pts, ts, rfl, ⟨hf, fok, hr0, a0, a1, b0, b1⟩, _, qa, qp, q⟩ := h
    refine ⟨_, (pss_one (ps_ret (pe_callS G_askedway hr (by rfl) T.g_askedway T.F_askedway.kp T.b_askedway (fun σ => passAt (takes_of rfl rfl rfl rfl) σ) (pa_cons (pv 0) (pa_cons (pe_ix ix_tup (pv 1) pe_int (fun _ _ => rfl)) (pa_cons (pe_ix ix_tup (pv 1) pe_int (fun _ _ => rfl)) pa_nil)))))), ?_⟩
    refine ⟨_, rfl, _, rfl, r, _, _, _, rfl, rfl, SqT.of hr0, atI_nat (j := 1) rfl, _, rfl, r, _, _, _, rfl, rfl, SqT.of hr0, atI_nat (j := 2) rfl, f, a, b, pts, ts, rfl, hf, fok, a0, a1, b0, b1, fun H1 s1 n => qa H1 s1 n, fun t l H1 s1 nt wy len ht => ?_⟩
    exact q _ l H1 s1 wy len id (.tup (SqT.of ht) (td_ints l))
theorem ok_asktotal (T : Top w K mg) : FnOk P w K mg base (L2.CX P w) 5 T.a_asktotal T.d_asktotal ["forest", "row"] (spAskW T "total" noR vTotal noP) := by
  have G_askedway : FnOk P w K mg base (L2.CX P w) 4 _ _ _ _ := ok_askedway T
  have G_worthsof : FnOk P w K mg base CX0 1 _ _ _ _ := ok_worths T
  refine T.F_asktotal.okX sc_asktotal (fun vs H Q E h => ?_) (fun cdv A outer s H vs Q E hr h => ?_)
  · obtain ⟨f, r, a, b, rest, pts, ts, rfl, _⟩ := h
    rfl
  · obtain ⟨f, r, a, b, rest, pts, ts, rfl, ⟨hf, fok, hr0, a0, a1, b0, b1⟩, _, qa, qp, q⟩ := h
    have few := fok.few
    refine ⟨_, (pss_one (ps_ret (pe_callB (cr_sum rfl) (by rfl) T.m_sum (by decide +kernel) (pa_cons (pe_call G_worthsof (hr.mono (by decide)) (by rfl) T.g_worthsof T.F_worthsof.kp T.b_worthsof .nil pass0 (pa_cons (pv 0) (pa_cons (pe_callS G_askedway hr (by rfl) T.g_askedway T.F_askedway.kp T.b_askedway (fun σ => passAt (takes_of rfl rfl rfl rfl) σ) (pa_cons (pv 0) (pa_cons (pe_ix ix_tup (pv 1) pe_int (fun _ _ => rfl)) (pa_cons (pe_ix ix_tup (pv 1) pe_int (fun _ _ => rfl)) pa_nil)))) pa_nil))) pa_nil)))), ?_⟩
    refine ⟨_, rfl, _, rfl, _, rfl, r, _, _, _, rfl, rfl, SqT.of hr0, atI_nat (j := 1) rfl, _, rfl, r, _, _, _, rfl, rfl, SqT.of hr0, atI_nat (j := 2) rfl, f, a, b, pts, ts, rfl, hf, fok, a0, a1, b0, b1, fun H1 s1 n => qa H1 s1 n, fun t l H1 s1 nt wy len ht => ?_⟩
    refine ⟨f, t, l, pts, ts, rfl, hf.mono (Tups.of_same s1), ht, way_in fok wy.wk a0 a1, by omega, fun D H2 s2 nD hD => ?_⟩
    refine ⟨D, _, rfl, SqL.of hD, ?_⟩
    exact q _ l H2 (s1.trans s2) wy len id (.int _)
theorem ok_askmany (T : Top w K mg) : FnOk P w K mg base (L2.CX P w) 5 T.a_askmany T.d_askmany ["forest", "row"] (spAskW T "many" noR vMany noP) := by
  have G_askedway : FnOk P w K mg base (L2.CX P w) 4 _ _ _ _ := ok_askedway T
  refine T.F_askmany.okX sc_askmany (fun vs H Q E h => ?_) (fun cdv A outer s H vs Q E hr h => ?_)
  · obtain ⟨f, r, a, b, rest, pts, ts, rfl, _⟩ := h
    rfl
  · obtain ⟨f, r, a, b, rest, pts, ts, rfl, ⟨hf, fok, hr0, a0, a1, b0, b1⟩, _, qa, qp, q⟩ := h
    refine ⟨_, (pss_one (ps_ret (pe_callB call_len_seq (by rfl) T.m_len PySem.boot_len (pa_cons (pe_callS G_askedway hr (by rfl) T.g_askedway T.F_askedway.kp T.b_askedway (fun σ => passAt (takes_of rfl rfl rfl rfl) σ) (pa_cons (pv 0) (pa_cons (pe_ix ix_tup (pv 1) pe_int (fun _ _ => rfl)) (pa_cons (pe_ix ix_tup (pv 1) pe_int (fun _ _ => rfl)) pa_nil)))) pa_nil)))), ?_⟩
    refine ⟨_, rfl, _, rfl, r, _, _, _, rfl, rfl, SqT.of hr0, atI_nat (j := 1) rfl, _, rfl, r, _, _, _, rfl, rfl, SqT.of hr0, atI_nat (j := 2) rfl, f, a, b, pts, ts, rfl, hf, fok, a0, a1, b0, b1, fun H1 s1 n => qa H1 s1 n, fun t l H1 s1 nt wy len ht => ?_⟩
    refine ⟨t, _, rfl, .inr (SqT.of ht), ?_⟩
    rw [List.length_map]
    exact q _ l H1 s1 wy len id (.int _)
end

end My
namespace My
open PySem L2
/-! ### asked of ways: the rest -/
section
variable {P : Program} {w : World} {K : PySem.W.Frag} {mg : Str → Option Value} {base : Heap}
def bestIn (pts : List (Int × Str)) : List Int → Int → Int
  | [], b => b
  | k :: r, b => bestIn pts r (if (ptAt pts b).1 < (ptAt pts k).1 then k else b)
def bestOf (pts : List (Int × Str)) : List Int → Int
  | [] => 0
  | x :: r => bestIn pts (x :: r) x
def dPair (m p : Int) : PyData := .tuple [.int m, .int p]
def dOpt : Option Int → PyData
  | some p => .int p
  | none => .none
def vMost : List (Int × Str) → List Int → List V → PyData := fun pts l _ => dPair (ptAt pts (bestOf pts l)).1 (bestOf pts l)
def vFirst : List (Int × Str) → List Int → List V → PyData := fun pts l rest => match rest with
  | [.str k] => dOpt (l.find? fun p => decide ((ptAt pts p).2 = k))
  | _ => .none
def vReach : List (Int × Str) → List Int → List V → PyData := fun pts l rest => match rest with
  | [.int x] => dOpt (l.find? fun p => decide (x ≤ (ptAt pts p).1))
  | _ => .none
def vKth : List (Int × Str) → List Int → List V → PyData := fun _ l rest => match rest with
  | [.int k] => dOpt l[k.toNat]?
  | _ => .none
def rStr : List V → Prop := fun rest => ∃ k, rest = [.str k]
def rInt : List V → Prop := fun rest => ∃ x, rest = [.int x]
def rNat : List V → Prop := fun rest => ∃ x, rest = [.int x] ∧ 0 ≤ x
def npKth : List Int → List V → Prop := fun l rest => match rest with
  | [.int k] => (l.length : Int) ≤ k
  | _ => False
theorem td_opt {K : PySem.W.Frag} {H : Hp} : ∀ o : Option Int, Td K H (optI o) (dOpt o)
  | some p => .int p
  | none => .non
theorem bestIn_le (pts : List (Int × Str)) : ∀ (l : List Int) (b : Int), (ptAt pts b).1 ≤ (ptAt pts (bestIn pts l b)).1 ∧ ∀ x ∈ l, (ptAt pts x).1 ≤ (ptAt pts (bestIn pts l b)).1
  | [], b => ⟨Int.le_refl _, fun x hx => absurd hx List.not_mem_nil⟩
  | k :: r, b => by
    have ih := bestIn_le pts r (if (ptAt pts b).1 < (ptAt pts k).1 then k else b)
    show _ ≤ (ptAt pts (bestIn pts r (if (ptAt pts b).1 < (ptAt pts k).1 then k else b))).1 ∧ _
    by_cases e : (ptAt pts b).1 < (ptAt pts k).1
    · rw [if_pos e] at ih
      refine ⟨?_, fun x hx => ?_⟩
      · rw [if_pos e]
        omega
      · show _ ≤ (ptAt pts (bestIn pts r (if (ptAt pts b).1 < (ptAt pts k).1 then k else b))).1
        rw [if_pos e]
        rcases List.mem_cons.mp hx with rfl | hx
        · exact ih.1
        · exact ih.2 x hx
    · rw [if_neg e] at ih
      refine ⟨?_, fun x hx => ?_⟩
      · rw [if_neg e]
        exact ih.1
      · show _ ≤ (ptAt pts (bestIn pts r (if (ptAt pts b).1 < (ptAt pts k).1 then k else b))).1
        rw [if_neg e]
        rcases List.mem_cons.mp hx with rfl | hx
        · omega
        · exact ih.2 x hx
/-- the first of the greatest of b and l -/
theorem bestIn_first (pts : List (Int × Str)) : ∀ (l : List Int) (b : Int) (j : Nat) (p : Int), (b :: l)[j]? = some p → (∀ x ∈ b :: l, (ptAt pts x).1 ≤ (ptAt pts p).1) → (∀ (i : Nat) (x : Int), i < j → (b :: l)[i]? = some x → (ptAt pts x).1 ≠ (ptAt pts p).1) → bestIn pts l b = p
  | [], b, j, p, hj, _, _ => by
    cases j with
    | zero =>
      cases hj
      rfl
    | succ j => cases hj
  | k :: r, b, j, p, hj, ub, mn => by
    show bestIn pts r (if (ptAt pts b).1 < (ptAt pts k).1 then k else b) = p
    have ubk := ub k (List.mem_cons_of_mem _ List.mem_cons_self)
    have ubb := ub b List.mem_cons_self
    cases j with
    | zero =>
      cases hj
      rw [if_neg (by omega)]
      exact bestIn_first pts r b 0 b rfl (fun x hx => by
        rcases List.mem_cons.mp hx with rfl | hx
        · exact Int.le_refl _
        · exact ub x (List.mem_cons_of_mem _ (List.mem_cons_of_mem _ hx))) fun i x hi => absurd hi (Nat.not_lt_zero _)
    | succ j =>
      have hj : (k :: r)[j]? = some p := hj
      have nb : (ptAt pts b).1 ≠ (ptAt pts p).1 := mn 0 b (Nat.succ_pos _) rfl
      cases j with
      | zero =>
        cases hj
        rw [if_pos (by omega)]
        exact bestIn_first pts r k 0 k rfl (fun x hx => ub x (List.mem_cons_of_mem _ hx)) fun i x hi => absurd hi (Nat.not_lt_zero _)
      | succ j =>
        have hj : r[j]? = some p := hj
        have nk : (ptAt pts k).1 ≠ (ptAt pts p).1 := mn 1 k (by omega) rfl
        refine bestIn_first pts r _ (j + 1) p hj (fun x hx => ?_) fun i x hi hx => ?_
        · rcases List.mem_cons.mp hx with rfl | hx
          · split <;> omega
          · exact ub x (List.mem_cons_of_mem _ (List.mem_cons_of_mem _ hx))
        · cases i with
          | zero =>
            cases hx
            split
            · exact nk
            · exact nb
          | succ i => exact mn (i + 2) x (by omega) hx
theorem best_of {pts : List (Int × Str)} {l : List Int} {m p : Int} (h : Best pts l m p) : p = bestOf pts l ∧ m = (ptAt pts (bestOf pts l)).1 := by
  obtain ⟨j, hj, rfl, ub, mn⟩ := h
  cases l with
  | nil => cases hj
  | cons x r =>
    have e : bestOf pts (x :: r) = p := by
      show bestIn pts r (if (ptAt pts x).1 < (ptAt pts x).1 then x else x) = p
      rw [if_neg (Int.lt_irrefl _)]
      exact bestIn_first pts r x j p hj ub mn
    rw [e]
    exact ⟨rfl, rfl⟩
theorem ok_askmost (T : Top w K mg) : FnOk P w K mg base (L2.CX P w) 5 T.a_askmost T.d_askmost ["forest", "row"] (spAskW T "most" noR vMost noP) := by
  have G_askedway : FnOk P w K mg base (L2.CX P w) 4 _ _ _ _ := ok_askedway T
  have G_greatest : FnOk P w K mg base CX0 2 _ _ _ _ := ok_greatest T
  refine T.F_askmost.okX sc_askmost (fun vs H Q E h => ?_) (fun cdv A outer s H vs Q E hr h => ?_)
  · obtain ⟨f, r, a, b, rest, pts, ts, rfl, _⟩ := h
    rfl
  · obtain ⟨f, r, a, b, rest, pts, ts, rfl, ⟨hf, fok, hr0, a0, a1, b0, b1⟩, _, qa, qp, q⟩ := h
    have few := fok.few
    refine ⟨_, (pss_one (ps_ret (pe_call G_greatest (hr.mono (by decide)) (by rfl) T.g_greatest T.F_greatest.kp T.b_greatest .nil pass0 (pa_cons (pv 0) (pa_cons (pe_callS G_askedway hr (by rfl) T.g_askedway T.F_askedway.kp T.b_askedway (fun σ => passAt (takes_of rfl rfl rfl rfl) σ) (pa_cons (pv 0) (pa_cons (pe_ix ix_tup (pv 1) pe_int (fun _ _ => rfl)) (pa_cons (pe_ix ix_tup (pv 1) pe_int (fun _ _ => rfl)) pa_nil)))) pa_nil))))), ?_⟩
    refine ⟨_, rfl, _, rfl, _, rfl, r, _, _, _, rfl, rfl, SqT.of hr0, atI_nat (j := 1) rfl, _, rfl, r, _, _, _, rfl, rfl, SqT.of hr0, atI_nat (j := 2) rfl, f, a, b, pts, ts, rfl, hf, fok, a0, a1, b0, b1, fun H1 s1 n => qa H1 s1 n, fun t l H1 s1 nt wy len ht => ?_⟩
    refine ⟨f, t, l, pts, ts, rfl, hf.mono (Tups.of_same s1), ht, way_in fok wy.wk a0 a1, by omega, wy.wk.ne_nil, fun t2 m p H2 s2 n2 hb h2 => ?_⟩
    obtain ⟨e1, e2⟩ := best_of hb
    subst e1 e2
    exact q _ l H2 (s1.trans s2) wy len id (.tup (SqT.of h2) (.cons (.int _) (.cons (.int _) .nil)))
theorem ok_askfirst (T : Top w K mg) : FnOk P w K mg base (L2.CX P w) 5 T.a_askfirst T.d_askfirst ["forest", "row"] (spAskW T "first" rStr vFirst noP) := by
  have G_askedway : FnOk P w K mg base (L2.CX P w) 4 _ _ _ _ := ok_askedway T
  have G_firstofkind : FnOk P w K mg base CX0 1 _ _ _ _ := ok_first T
  refine T.F_askfirst.okX sc_askfirst (fun vs H Q E h => ?_) (fun cdv A outer s H vs Q E hr h => ?_)
  · obtain ⟨f, r, a, b, rest, pts, ts, rfl, _⟩ := h
    rfl
  · obtain ⟨f, r, a, b, rest, pts, ts, rfl, ⟨hf, fok, hr0, a0, a1, b0, b1⟩, ⟨k, rfl⟩, qa, qp, q⟩ := h
    refine ⟨_, (pss_one (ps_ret (pe_call G_firstofkind (hr.mono (by decide)) (by rfl) T.g_firstofkind T.F_firstofkind.kp T.b_firstofkind .nil pass0 (pa_cons (pv 0) (pa_cons (pe_callS G_askedway hr (by rfl) T.g_askedway T.F_askedway.kp T.b_askedway (fun σ => passAt (takes_of rfl rfl rfl rfl) σ) (pa_cons (pv 0) (pa_cons (pe_ix ix_tup (pv 1) pe_int (fun _ _ => rfl)) (pa_cons (pe_ix ix_tup (pv 1) pe_int (fun _ _ => rfl)) pa_nil)))) (pa_cons (pe_ix ix_tup (pv 1) pe_int (fun _ _ => rfl)) pa_nil)))))), ?_⟩
    refine ⟨_, rfl, _, rfl, _, rfl, r, _, _, _, rfl, rfl, SqT.of hr0, atI_nat (j := 1) rfl, _, rfl, r, _, _, _, rfl, rfl, SqT.of hr0, atI_nat (j := 2) rfl, f, a, b, pts, ts, rfl, hf, fok, a0, a1, b0, b1, fun H1 s1 n => qa H1 s1 n, fun t l H1 s1 nt wy len ht => ?_⟩
    refine ⟨_, rfl, r, _, _, _, rfl, rfl, SqT.of (s1 _ _ hr0), atI_nat (j := 3) rfl, f, t, k, l, pts, ts, rfl, hf.mono (Tups.of_same s1), ht, way_in fok wy.wk a0 a1, ?_⟩
    exact q _ l H1 s1 wy len id (td_opt _)
theorem ok_askreach (T : Top w K mg) : FnOk P w K mg base (L2.CX P w) 5 T.a_askreach T.d_askreach ["forest", "row"] (spAskW T "reach" rInt vReach noP) := by
  have G_askedway : FnOk P w K mg base (L2.CX P w) 4 _ _ _ _ := ok_askedway T
  refine T.F_askreach.okX sc_askreach (fun vs H Q E h => ?_) (fun cdv A outer s H vs Q E hr h => ?_)
  · obtain ⟨f, r, a, b, rest, pts, ts, rfl, _⟩ := h
    rfl
  · obtain ⟨f, r, a, b, rest, pts, ts, rfl, ⟨hf, fok, hr0, a0, a1, b0, b1⟩, ⟨k, rfl⟩, qa, qp, q⟩ := h
    obtain ⟨fa, pa, ta, xs, ys, rfl, f1, f2, f3, f4, f5⟩ := Td.parts hf
    refine ⟨_, (pss_cons (ps_for (passes_of rfl) rfl (pi_tup (pe_callS G_askedway hr (by rfl) T.g_askedway T.F_askedway.kp T.b_askedway (fun σ => passAt (takes_of rfl rfl rfl rfl) σ) (pa_cons (pv 0) (pa_cons (pe_ix ix_tup (pv 1) pe_int (fun _ _ => rfl)) (pa_cons (pe_ix ix_tup (pv 1) pe_int (fun _ _ => rfl)) pa_nil))))) (pg_name (i := 2) sc_askreach.nd rfl (.inl rfl)) (pss_one (ps_if (pt_cmpR op_ge (pe_ix ix_tup (pe_ix ix_tup (pe_ix ix_tup (pv 0) pe_int (fun _ _ => rfl)) (pv 2) (fun _ _ => rfl)) pe_int (fun _ _ => rfl)) (pe_ix ix_tup (pv 1) pe_int (fun _ _ => rfl)) (nomark _)) (pss_one (ps_ret (pv 2))) pss_nil)))
      (pss_one (ps_ret pe_non))), ?_⟩
    refine ⟨_, rfl, _, rfl, r, _, _, _, rfl, rfl, SqT.of hr0, atI_nat (j := 1) rfl, _, rfl, r, _, _, _, rfl, rfl, SqT.of hr0, atI_nat (j := 2) rfl, .ref fa, a, b, pts, ts, rfl, hf, fok, a0, a1, b0, b1, fun H1 s1 n => qa H1 s1 n, fun t l H1 s1 nt wy len ht => ?_⟩
    have hin := way_in fok wy.wk a0 a1
    have t1 := Tups.of_same (K := K) s1
    have q := fun v => q v l H1 s1 wy len id
    refine ⟨t, rfl, ⟨_, SqT.of ht⟩, for_tup (xs := l.map V.int) (fun i σ H2 => (∃ y4, σ = [some (.ref fa), some (.ref r), y4]) ∧ H2 = H1 ∧ (l.take i).find? (fun p => decide (k ≤ (ptAt pts p).1)) = none) ⟨⟨_, rfl⟩, rfl, rfl⟩ (fun i σ H2 _ h => by rw [h.2.1]; exact SqT.of ht) ?_ ?_⟩
    · rintro i x σ H2 hx ⟨⟨y4, rfl⟩, rfl, hn⟩
      rw [List.getElem?_map] at hx
      obtain ⟨u, hu, rfl⟩ := Option.map_eq_some_iff.mp hx
      obtain ⟨u0, u1⟩ := hin u (List.mem_of_getElem? hu)
      obtain ⟨pp, hat, hpp⟩ := pts_at f3 u0 u1
      have tn := find_turn hu hn
      refine ⟨_, rfl, fa, _, _, _, rfl, rfl, t1 _ _ f1, atI_nat (j := 0) rfl, _, rfl, pa, _, _, _, rfl, rfl, t1 _ _ f2, hat, pp, _, _, _, rfl, rfl, t1 _ _ hpp, atI_nat (j := 0) rfl, _, rfl, r, _, _, _, rfl, rfl, SqT.of (s1 _ _ hr0), atI_nat (j := 3) rfl, _, _, rfl, rfl, _, rfl, ?_⟩
      refine ite2 (fun e => ?_) (fun e => ?_)
      · refine ⟨_, rfl, q (.int u) ?_⟩
        show Td K _ (.int u) (dOpt (l.find? fun p => decide (k ≤ (ptAt pts p).1)))
        rw [tn.1 e]
        exact .int u
      · exact ⟨⟨_, rfl⟩, rfl, tn.2 (Bool.eq_false_iff.mpr e)⟩
    · rintro σ H2 ⟨⟨y4, rfl⟩, rfl, hn⟩
      rw [List.length_map, List.take_of_length_le (Nat.le_refl _)] at hn
      refine q .non ?_
      show Td K _ .non (dOpt (l.find? fun p => decide (k ≤ (ptAt pts p).1)))
      rw [hn]
      exact .non
theorem ok_askkth (T : Top w K mg) : FnOk P w K mg base (L2.CX P w) 5 T.a_askkth T.d_askkth ["forest", "row"] (spAskW T "kth" rNat vKth npKth) := by
  have G_askedway : FnOk P w K mg base (L2.CX P w) 4 _ _ _ _ := ok_askedway T
  refine T.F_askkth.okX sc_askkth (fun vs H Q E h => ?_) (fun cdv A outer s H vs Q E hr h => ?_)
  · obtain ⟨f, r, a, b, rest, pts, ts, rfl, _⟩ := h
    rfl
  · obtain ⟨f, r, a, b, rest, pts, ts, rfl, ⟨hf, fok, hr0, a0, a1, b0, b1⟩, ⟨k, rfl, k0⟩, qa, qp, q⟩ := h
    refine ⟨_, (pss_cons (ps_set (i := 2) sc_askkth.nd rfl (.inl rfl) (pe_callS G_askedway hr (by rfl) T.g_askedway T.F_askedway.kp T.b_askedway (fun σ => passAt (takes_of rfl rfl rfl rfl) σ) (pa_cons (pv 0) (pa_cons (pe_ix ix_tup (pv 1) pe_int (fun _ _ => rfl)) (pa_cons (pe_ix ix_tup (pv 1) pe_int (fun _ _ => rfl)) pa_nil)))))
      (pss_cons (ps_if (pt_cmpR op_ge (pe_ix ix_tup (pv 1) pe_int (fun _ _ => rfl)) (pe_callB call_len_seq (by rfl) T.m_len PySem.boot_len (pa_cons (pv 2) pa_nil)) (nomark _)) (pss_one (ps_raise rfl (takes_of rfl rfl rfl rfl) (pmk_own0 T.x_NoPlace T.v_NoPlace T.k_NoPlace (raises_own T.sb_NoPlace T.ty_NoPlace) (by rfl)))) pss_nil)
      (pss_one (ps_ret (pe_ix ix_tup (pv 2) (pe_ix ix_tup (pv 1) pe_int (fun _ _ => rfl)) (fun _ _ => rfl)))))), ?_⟩
    refine ⟨_, rfl, _, rfl, r, _, _, _, rfl, rfl, SqT.of hr0, atI_nat (j := 1) rfl, _, rfl, r, _, _, _, rfl, rfl, SqT.of hr0, atI_nat (j := 2) rfl, f, a, b, pts, ts, rfl, hf, fok, a0, a1, b0, b1, fun H1 s1 n => qa H1 s1 n, fun t l H1 s1 nt wy len ht => ?_⟩
    have hr1 := s1 _ _ hr0
    refine ⟨_, rfl, r, _, _, _, rfl, rfl, SqT.of hr1, atI_nat (j := 3) rfl, _, rfl, t, _, rfl, .inr (SqT.of ht), _, _, rfl, rfl, _, rfl, ?_⟩
    rw [List.length_map]
    refine ite2 (fun e => ?_) (fun e => ?_)
    · have hk : (l.length : Int) ≤ k := of_decide_eq_true e
      exact qp l H1 s1 wy hk
    · have hk : ¬ (l.length : Int) ≤ k := fun z => e (decide_eq_true z)
      have hlt : k.toNat < l.length := by omega
      have hat : atI (l.map V.int) k = some (.int (l[k.toNat]'hlt)) := by
        have ek : k = ((k.toNat : Nat) : Int) := by omega
        have z : atI (l.map V.int) ((k.toNat : Nat) : Int) = some (.int (l[k.toNat]'hlt)) := atI_nat (by rw [List.getElem?_map, List.getElem?_eq_getElem hlt]; rfl)
        rw [← ek] at z
        exact z
      refine ⟨_, rfl, _, rfl, r, _, _, _, rfl, rfl, SqT.of hr1, atI_nat (j := 3) rfl, t, _, _, _, rfl, rfl, SqT.of ht, hat, ?_⟩
      refine q _ l H1 s1 wy len hk ?_
      show Td K _ _ (dOpt l[k.toNat]?)
      rw [List.getElem?_eq_getElem hlt]
      exact .int _
def spJoined (K : PySem.W.Frag) : Sp := fun vs H Q _ => ∃ (f : V) (r : Addr) (a b : Int) (pts : List (Int × Str)) (ts : List (Int × Int)), vs = [f, .ref r] ∧ AskPre K H f r "joined" a b [] pts ts ∧ ∀ (c : Bool) (H' : Hp), Same H H' → (c = true ↔ Rch ts a b) → Q (.bl c) H'
theorem ok_askjoined (T : Top w K mg) : FnOk P w K mg base (L2.CX P w) 4 T.a_askjoined T.d_askjoined ["forest", "row"] (spJoined K) := by
  have G_wayof : FnOk P w K mg base CX0 3 _ _ _ _ := ok_wayof T
  refine T.F_askjoined.okX sc_askjoined (fun vs H Q E h => ?_) (fun cdv A outer s H vs Q E hr h => ?_)
  · obtain ⟨f, r, a, b, pts, ts, rfl, _⟩ := h
    rfl
  · obtain ⟨f, r, a, b, pts, ts, rfl, ⟨hf, fok, hr0, a0, a1, b0, b1⟩, q⟩ := h
    refine ⟨_, (pss_one (ps_ret (pe_cmpR op_notN (pe_call G_wayof hr (by rfl) T.g_wayof T.F_wayof.kp T.b_wayof .nil pass0 (pa_cons (pv 0) (pa_cons (pe_ix ix_tup (pv 1) pe_int (fun _ _ => rfl)) (pa_cons (pe_ix ix_tup (pv 1) pe_int (fun _ _ => rfl)) pa_nil)))) pe_non (nomark _)))), ?_⟩
    refine ⟨_, rfl, _, rfl, r, _, _, _, rfl, rfl, SqT.of hr0, atI_nat (j := 1) rfl, _, rfl, r, _, _, _, rfl, rfl, SqT.of hr0, atI_nat (j := 2) rfl, f, a, b, pts, ts, rfl, hf, fok, a0, a1, b0, b1, fun H1 s1 n => ?_, fun t l H1 s1 nt wy len ht => ?_⟩
    · exact ⟨rfl, q false H1 s1 ⟨fun z => absurd z Bool.false_ne_true, fun z => absurd z n⟩⟩
    · exact ⟨rfl, q true H1 s1 ⟨fun _ => wy.wk.rch, fun _ => rfl⟩⟩
end

end My
namespace My
open PySem PySem.Spec PyProof.Rows L2
/-! ### defs that show things: nothing is shown around their call -/
structure FnOkG (P : Program) (w : World) (K : PySem.W.Frag) (mg : Str → Option Value) (base : Heap) (k : Nat) (f : Addr) (fd : FuncData) (ps : List Str) (sp : Sp) : Prop where
  len : ∀ vs H Q, sp vs H Q E0 → vs.length = ps.length
  go : ∀ (A : Around) (outer : List Env) (s : Shared) (H : Hp) (args : Args) (us : List Value) (vs : List V) (Q : VK), Room k A → A.guards = some [] → Env0 P w K mg base A outer s H → BindsTo s fd args (ps.zip us) → Vals vs us → sp vs H Q E0 →
    codeAny (model P w) A (.call (.ref f) args) (CR CX0 outer P w H s Q E0) s
theorem pe_callG {X : Cx} {k : Nat} {f : Addr} {fd : FuncData} {ps : List Str} {sp : Sp} {x : Str} {p pos : Pos} {e : Expr} {es : List Expr} {t : TA} (F : FnOkG X.prog X.w X.K X.mg X.base k f fd ps sp) (hr : Room k X.A) (gl : Gl X x) (mgx : X.mg x = some (.ref f)) (keep : PySem.W.keepIn X.K (.ref f) = true) (bnd : L2.Binds X.K fd ps []) (none_ : X.A.guards = some []) (args : PA X (e :: es) t)
    (dbg : (x == ("__debug__" : Str)) = false := by decide) (star : starEach (e :: es) X.env = (false, eval e X.env) :: starEach es X.env := by rfl) (plain : (backTo pos (starEach es X.env)).any (·.1) = false := by rfl) :
    PE X (.Call (.Name x p) (e :: es) [] pos) (fun σ H Q => t σ H fun vs H1 => sp vs H1 Q E0) := by
  constructor
  intro pins s σ H Q I h
  refine wpAny_Call_Name_kw (ld_glob I gl mgx ?_ dbg)
  refine PySem.W.callWith_K (h₀ := X.base) I.ok.mod.kin keep (thn (args.run pos pins s σ H _ I h) fun us s1 z => ?_) star plain
  obtain ⟨vs, H1, I1, r, q⟩ := z
  refine ⟨I1.kIn, wpAny_call (codeAny_mono (F.go X.A X.stack s1 H1 ⟨us, []⟩ us vs Q hr none_ I1.env0 ?_ r q) fun res s2 z => ?_)⟩
  · have hl : us.length = ps.length := by
      rw [← r.length]
      exact F.len _ _ _ q
    have z := bnd s1 us I1.kIn (by rw [List.append_nil]; exact hl)
    rw [List.append_nil] at z
    exact z
  · cases res with
    | error er => exact (show False from z).elim
    | ok fl =>
      cases fl with
      | ret u => exact I1.after z
      | next => exact (show False from z).elim
      | brk => exact (show False from z).elim
      | cont => exact (show False from z).elim

end My
namespace My
open PySem L2
/-! ### _law_asked_right -/
theorem RowAt.kp {H H' : Hp} {r : Addr} {z : Str} {sl : List Sl} {ps : List V} (h : RowAt H r z sl ps) (k : Kp H H') : RowAt H' r z sl ps := ⟨k _ _ h.at_ (by intro ps z; cases z), h.lk, h.fit, h.len⟩
structure Good (p : List (Int × Str)) (t : List (Int × Int)) (d : PyData) : Prop where
  sm : smallB (out2 p t d) = true
  dp : (out2 p t d).depth ≤ 6
  ns : ∀ x, d ≠ .str x
abbrev Fo := List (Int × Str) → List (Int × Int) → Str → List V → Out
def FGood (ws : List Str) (F : Fo) : Prop := ∀ pts ts z sl ps, FrOk pts ts → forms.lookup z = some sl → fitsB sl ps = true → z ∈ ws → (∀ p t d, F pts ts z ps = .told p t d → Good p t d) ∧ ∀ j, F pts ts z ps = .no j → j < 7
section
variable {P : Program} {w : World} {K : PySem.W.Frag} {mg : Str → Option Value} {base : Heap}
def spDueT (T : Top w K mg) (ws : List Str) (F : Fo) : Sp := fun vs H Q _ => ∃ (f : V) (r : Addr) (z : Str) (sl : List Sl) (ps : List V) (pts : List (Int × Str)) (ts : List (Int × Int)), vs = [f, .ref r] ∧ Tb T.tbs H ∧ Td K H f (fdata pts ts) ∧ FrOk pts ts ∧ RowAt H r z sl ps ∧ z ∈ ws ∧
  ∀ (t : Addr) (H' : Hp), Kp H H' → Tb T.tbs H' → Td K H' (.ref t) ((F pts ts z ps).due pts ts) → Q (.ref t) H'
theorem due_of (T : Top w K mg) {ws : List Str} {F : Fo} {k : Nat} {f : Addr} {fd : FuncData} {ps : List Str} (h : FnOk P w K mg base CX0 k f fd ps (spDue K ws F)) : FnOk P w K mg base CX0 k f fd ps (spDueT T ws F) := by
  refine h.imp fun vs H Q E q => ?_
  obtain ⟨f, r, z, sl, ps, pts, ts, e, tb, hf, fok, hrow, hz, q⟩ := q
  exact ⟨f, r, z, sl, ps, pts, ts, e, hf, fok, hrow, hz, fun t H' s ht => q t H' (Kp.of_same s) (tb.same s) ht⟩
def spAsk (T : Top w K mg) (ws : List Str) : Sp := fun vs H Q _ => ∃ (f : V) (r : Addr) (z : Str) (sl : List Sl) (ps : List V) (pts : List (Int × Str)) (ts : List (Int × Int)), vs = [f, .ref r] ∧ Td K H f (fdata pts ts) ∧ FrOk pts ts ∧ RowAt H r z sl ps ∧ z ∈ ws ∧ Tb T.tbs H ∧
  ∀ H', Kp H H' → Tb T.tbs H' → Q (.bl true) H'
theorem ok_asked (T : Top w K mg) {ws : List Str} {F : Fo} {kd : Nat} (hF : FGood ws F) (TBL : LamX.TabB base mg T.cL T.PL) (G_Ldue' : FnOk P w K mg base CX0 kd T.a_Ldue T.d_Ldue ["_law_forest_here", "_law_row_here"] (spDueT T ws F)) (G_plaindo : FnOk P w K mg base (L2.CX P w) 6 T.a_plaindo T.d_plaindo ["forest", "row"] (spPlain T ws F)) (hkd : kd ≤ 5) :
    FnOkG P w K mg base 9 T.a_Laskedright T.d_Laskedright ["_law_forest_here", "_law_row_here"] (spAsk T ws) := by
  have G_Lsame : FnOk P w K mg base CX0 7 _ _ _ _ := ok_sameD T 7
  have G_Ldue : FnOk P w K mg base CX0 5 _ _ _ _ := G_Ldue'.mono hkd
  refine ⟨fun vs H Q h => ?_, fun A outer s H args us vs Q room hg e0 bnd rel h => ?_⟩
  · obtain ⟨f, r, z, sl, ps, pts, ts, rfl, _⟩ := h
    rfl
  · obtain ⟨f, r, z, sl, ps, pts, ts, rfl, hf, fok, hrow, hz, two, q⟩ := h
    obtain ⟨oc, od, kV, doc, pm, an, cdv, ct, osl, ed, lk, hcd⟩ := T.F_Laskedright.ex
    have ecd : cdv = .ref T.cL := by
      have z := T.hcL
      rw [ed] at z
      exact z
    subst ecd
    rw [ed] at lk bnd
    refine LamX.run_ofS (k := 8) (N := ["_law_forest_here", "_law_row_here", "_law_first_here", "_law_due_here", "_law_turn", "_law_told"]) (ps := ["_law_forest_here", "_law_row_here"]) (us := us) (vs := [f, .ref r]) lk hcd sc_Laskedright room e0 bnd rel rfl fun hr => ?_
    have hgd : (A.deeper (PyProof.Rows.envOfC "_law_asked_right" (defScope s_Laskedright) s.heap.objs.size T.a_Laskedright (.ref T.cL))).guards = some [] := hg
    refine ⟨_, PSs.nox (pss_cons (ps_set (i := 2) sc_Laskedright.nd rfl (.inl rfl) (pe_callB (call_repr hgd hr.units) (by rfl) T.m_repr (by decide +kernel) (pa_cons (pv 0) pa_nil)))
      (pss_cons (ps_set (i := 3) sc_Laskedright.nd rfl (.inl rfl) (pe_call G_Ldue (hr.mono (by decide)) (by rfl) T.g_Ldue T.F_Ldue.kp T.b_Ldue .nil pass0 (pa_cons (pv 0) (pa_cons (pv 1) pa_nil))))
      (pss_cons (ps_for PassesOwn.never rfl (pi_range1 (by rfl) T.m_range (pa_cons pe_int pa_nil)) (pg_name (i := 4) sc_Laskedright.nd rfl (.inl rfl)) (pss_cons (ps_set (i := 5) sc_Laskedright.nd rfl (.inl rfl) (pe_lamF (k := 6) (p := "_law_one") (by rfl) T.g_Lrefused T.F_Lrefused T.b_Lrefused sc_Lrefused rfl (.inl rfl) (fun cdg => gives_Lrefused T rfl rfl rfl cdg) TBL rfl hr (lamP_by (sc := defScope s_Laskedright) (by decide +kernel)) (show ("_law_one" : Str) ∉ (["_law_forest_here", "_law_row_here", "_law_first_here", "_law_due_here", "_law_turn", "_law_told"] : List Str) from by decide +kernel) (by rfl) (fun _ _ _ _ _ _ => by rfl) (fun _ _ _ _ _ _ _ hrb => (pe_callS G_plaindo hrb (by rfl) T.g_plaindo T.F_plaindo.kp T.b_plaindo (fun σ => passAt (takes_of rfl rfl rfl rfl) σ) (pa_cons (pv 0) (pa_cons (pv 6) pa_nil)))) (pa_cons (pv 1) pa_nil)))
      (pss_one (ps_if (pt_val (pe_callB call_isi (by rfl) T.m_isinstance (by decide +kernel) (pa_cons (pe_ix ix_tup (pv 3) pe_int (fun _ _ => rfl)) (pa_cons (pe_bltn (v := .ty "str") (by rfl) T.m_str (by decide +kernel) rfl) pa_nil)))) (pss_one (ps_if (pt_cmpR op_ne (pv 5) (pe_ix ix_tup (pv 3) pe_int (fun _ _ => rfl)) (nomark _)) (pss_one (ps_ret pe_bl)) pss_nil)) (pss_one (ps_if (pt_not (pt_val (pe_call G_Lsame (hr.mono (by decide)) (by rfl) T.g_Lsame T.F_Lsame.kp T.b_Lsame .nil pass0 (pa_cons (pv 5) (pa_cons (pv 3) pa_nil))))) (pss_one (ps_ret pe_bl)) pss_nil))))))
      (pss_one (ps_ret (pe_cmpR op_eq (pe_callB (call_repr hgd hr.units) (by rfl) T.m_repr (by decide +kernel) (pa_cons (pv 0) pa_nil)) (pv 2) (nomark _))))))), ?_⟩
    have sh := forest_shows fok
    refine ⟨_, rfl, _, _, rfl, hf.dp, by obtain ⟨a, _, _, _, _, rfl, _⟩ := Td.parts hf; rfl, sh.sh, sh.nd, sh.dp, sh.ln, ?_⟩
    refine ⟨_, rfl, _, rfl, f, r, z, sl, ps, pts, ts, rfl, two, hf, fok, hrow, hz, fun dt H1 s1 two1 hdt => ?_⟩
    obtain ⟨good, less⟩ := hF pts ts z sl ps fok hrow.lk hrow.fit hz
    refine ⟨2, rfl, (by decide), (by decide), for_range (lo := 0) (n := 2) (fun i σ H2 => ∃ (y4 y5 : Option V), σ = [some f, some (.ref r), some (.str (fdata pts ts).shown), some (.ref dt), y4, y5] ∧ Kp H1 H2 ∧ Tb T.tbs H2) ⟨none, none, rfl, Kp.refl _, two1⟩ ?_ ?_⟩
    · rintro i σ H2 hi ⟨y4, y5, rfl, k2, two2⟩
      refine ⟨two2.s T.mL, fun H3 k3 t3 => ?_⟩
      have two3 := two2.lam T.nd T.mL k3 t3
      have k13 : Kp H1 H3 := k2.trans (Kp.of_but (TabS.g (two2.s T.mL)) k3)
      refine ⟨_, rfl, _, rfl, LamX.ExtN.refl _, fun H4 E' Q' s4 hraise hret => ?_⟩
      have two4 := two3.same s4
      have kp4 : Kp H1 H4 := k13.same s4
      have F4 := hf.mono (Tups.of_kp (s1.trans kp4))
      have row4 := hrow.kp (s1.trans kp4)
      refine ⟨_, rfl, _, rfl, f, r, z, sl, ps, pts, ts, rfl, F4, fok, two4, row4, hz, ?_⟩
      -- behind plain_do
      have after : ∀ {H5 : Hp}, Kp H4 H5 → Kp H1 H5 := fun {H5} k5 => kp4.trans k5
      cases hout : F pts ts z ps with
      | told p' t' d =>
        have gd := good p' t' d hout
        rw [hout] at hdt
        intro tt H5 k5 g5 htt
        have k15 := after k5
        have two5 := g5
        have due5 : Td K H5 (.ref dt) (out2 p' t' d) := hdt.mono (Tups.of_kp k15)
        refine hret _ _ ?_
        have parts := due5
        cases parts with
        | tup hd1 hd2 =>
          cases hd2 with
          | @cons v1 _ _ _ e1 hd2 =>
            cases hd2 with
            | @cons v2 _ _ _ e2 hd2 =>
              cases hd2
              have nostr : ∃ t, TyX K H5 v2 t ∧ PySem.W.kitOne K t (.type "str") = some false := by
                cases d with
                | str x => exact absurd rfl (gd.ns x)
                | tuple ds =>
                  cases e2 with
                  | tup hx _ => exact ⟨_, sqt_ty hx, kit_ty (by decide +kernel)⟩
                | none => exact td_ty e2 (by intro xs z; cases z) "str" (.inr (.inr (.inl rfl)))
                | bool b => exact td_ty e2 (by intro xs z; cases z) "str" (.inr (.inr (.inl rfl)))
                | int i => exact td_ty e2 (by intro xs z; cases z) "str" (.inr (.inr (.inl rfl)))
                | list ds => cases e2
                | dict ds => cases e2
              obtain ⟨ty, hty, kty⟩ := nostr
              refine ⟨_, rfl, dt, _, _, _, rfl, rfl, hd1, atI_nat (j := 1) rfl, _, _, _, _, _, rfl, ClsV.ty _, hty, kty, _, rfl, iteF ?_⟩
              refine ⟨_, rfl, _, rfl, .ref tt, .ref dt, out2 p' t' d, rfl, htt, due5, gd.dp, gd.sm, fun H6 s6 => ⟨true, rfl, iteF ?_⟩⟩
              exact ⟨_, _, rfl, k15.same s6, two5.same s6⟩
      | no j =>
        have hj := less j hout
        rw [hout] at hdt
        intro H5 k5 g5
        refine hraise j hj H5 fun H6 s6 => ?_
        have k15 := after k5
        have two5 := g5
        have k16 := k15.same s6
        have two6 := two5.same s6
        have due6 : Td K H6 (.ref dt) (.tuple [fdata pts ts, .str (wds.getD j "")]) := hdt.mono (Tups.of_kp k16)
        cases due6 with
        | tup hd1 hd2 =>
          cases hd2 with
          | @cons v1 _ _ _ e1 hd2 =>
            cases hd2 with
            | @cons v2 _ _ _ e2 hd2 =>
              cases hd2
              cases e2
              refine ⟨_, rfl, dt, _, _, _, rfl, rfl, hd1, atI_nat (j := 1) rfl, _, _, _, _, true, rfl, ClsV.ty _, .base (.str _), kit_ty (by decide +kernel), _, rfl, iteT ?_⟩
              refine ⟨_, rfl, _, rfl, dt, _, _, _, rfl, rfl, hd1, atI_nat (j := 1) rfl, rfl, _, rfl, iteNS rfl ?_⟩
              exact ⟨_, _, rfl, k16, two6⟩
    · rintro σ H2 ⟨y4, y5, rfl, k2, two2⟩
      have F2 := hf.mono (Tups.of_kp (s1.trans k2))
      refine ⟨_, rfl, _, _, rfl, F2.dp, by obtain ⟨a, _, _, _, _, rfl, _⟩ := Td.parts hf; rfl, sh.sh, sh.nd, sh.dp, sh.ln, _, rfl, rfl, ?_⟩
      rw [decide_eq_true rfl]
      exact q H2 (s1.trans k2) two2
end

end My
namespace My
open PySem L2
/-! ### what ways are told -/
def waysW : List Str := ["joined", "way", "total", "many", "most", "first", "reach", "kth"]
def valW (z : Str) : List (Int × Str) → List Int → List V → PyData :=
  if z = "way" then vWay else if z = "total" then vTotal else if z = "many" then vMany else if z = "most" then vMost else if z = "first" then vFirst else if z = "reach" then vReach else vKth
def npW (z : Str) (l : List Int) (rest : List V) : Prop := z = "kth" ∧ npKth l rest
noncomputable def outWay (pts : List (Int × Str)) (ts : List (Int × Int)) (z : Str) (l : List Int) (rest : List V) : Out := @ite _ (npW z l rest) (Classical.propDecidable _) (.no 5) (.told pts ts (valW z pts l rest))
noncomputable def outAB (pts : List (Int × Str)) (ts : List (Int × Int)) (z : Str) (a b : Int) (rest : List V) : Out :=
  if z = "joined" then .told pts ts (.bool (@decide (Rch ts a b) (Classical.propDecidable _))) else @dite _ (∃ l, Way ts a b l) (Classical.propDecidable _) (fun h => outWay pts ts z (Classical.choose h) rest) (fun _ => .no 4)
noncomputable def outW : Fo := fun pts ts z ps => if allIn pts.length (namedV ((forms.lookup z).getD []) ps) = true then (match ps with
  | .int a :: .int b :: rest => outAB pts ts z a b rest
  | _ => .no 0) else .no 1
def okRest (z : Str) (rest : List V) : Prop := ((z = "joined" ∨ z = "way" ∨ z = "total" ∨ z = "many" ∨ z = "most") ∧ rest = []) ∨ (z = "first" ∧ rStr rest) ∨ (z = "reach" ∧ rInt rest) ∨ (z = "kth" ∧ rNat rest)
theorem fits_nil {ps : List V} (h : fitsB [] ps = true) : ps = [] := by
  have hl := fits_length h
  cases ps with
  | nil => rfl
  | cons _ _ => exact absurd hl (by simp)
/-- two points, then the rest -/
theorem row_two {sl : List Sl} {ps : List V} (fit : fitsB (.pt :: .pt :: sl) ps = true) : ∃ a b rest, ps = .int a :: .int b :: rest ∧ fitsB sl rest = true := by
  obtain ⟨x, r, rfl, h1, f⟩ := fits_one fit
  obtain ⟨y, r2, rfl, h2, f2⟩ := fits_one f
  obtain ⟨i, rfl⟩ := fits_pt h1
  obtain ⟨j, rfl⟩ := fits_pt h2
  exact ⟨i, j, r2, rfl, f2⟩
theorem way_row {z : Str} {sl : List Sl} {ps : List V} (hz : z ∈ waysW) (lk : forms.lookup z = some sl) (fit : fitsB sl ps = true) : ∃ a b rest, ps = .int a :: .int b :: rest ∧ okRest z rest ∧ namedV ((forms.lookup z).getD []) ps = [.int a, .int b] := by
  have two : ∀ {z : Str}, forms.lookup z = some [.pt, .pt] → (z = "joined" ∨ z = "way" ∨ z = "total" ∨ z = "many" ∨ z = "most") → forms.lookup z = some sl → ∃ a b rest, ps = .int a :: .int b :: rest ∧ okRest z rest ∧ namedV ((forms.lookup z).getD []) ps = [.int a, .int b] := by
    intro z e hz lk
    rw [e] at lk
    cases lk
    obtain ⟨a, b, rest, rfl, f⟩ := row_two fit
    have er := fits_nil f
    subst er
    rw [e]
    exact ⟨a, b, [], rfl, .inl ⟨hz, rfl⟩, rfl⟩
  unfold waysW at hz
  simp only [List.mem_cons, List.not_mem_nil, or_false] at hz
  rcases hz with rfl | rfl | rfl | rfl | rfl | rfl | rfl | rfl
  · exact two (by decide +kernel) (.inl rfl) lk
  · exact two (by decide +kernel) (.inr (.inl rfl)) lk
  · exact two (by decide +kernel) (.inr (.inr (.inl rfl))) lk
  · exact two (by decide +kernel) (.inr (.inr (.inr (.inl rfl)))) lk
  · exact two (by decide +kernel) (.inr (.inr (.inr (.inr rfl)))) lk
  · have e : forms.lookup ("first" : Str) = some [.pt, .pt, .knd] := by decide +kernel
    rw [e] at lk
    cases lk
    obtain ⟨a, b, rest, rfl, f⟩ := row_two fit
    obtain ⟨x, r, rfl, h1, f2⟩ := fits_one f
    obtain ⟨k, rfl, _⟩ := fits_knd h1
    have er := fits_nil f2
    subst er
    rw [e]
    exact ⟨a, b, _, rfl, .inr (.inl ⟨rfl, k, rfl⟩), rfl⟩
  · have e : forms.lookup ("reach" : Str) = some [.pt, .pt, .num] := by decide +kernel
    rw [e] at lk
    cases lk
    obtain ⟨a, b, rest, rfl, f⟩ := row_two fit
    obtain ⟨x, r, rfl, h1, f2⟩ := fits_one f
    obtain ⟨k, rfl⟩ := fits_num h1
    have er := fits_nil f2
    subst er
    rw [e]
    exact ⟨a, b, _, rfl, .inr (.inr (.inl ⟨rfl, k, rfl⟩)), rfl⟩
  · have e : forms.lookup ("kth" : Str) = some [.pt, .pt, .plc] := by decide +kernel
    rw [e] at lk
    cases lk
    obtain ⟨a, b, rest, rfl, f⟩ := row_two fit
    obtain ⟨x, r, rfl, h1, f2⟩ := fits_one f
    obtain ⟨k, rfl⟩ := fits_plc h1
    have k0 : 0 ≤ k := of_decide_eq_true h1
    have er := fits_nil f2
    subst er
    rw [e]
    exact ⟨a, b, _, rfl, .inr (.inr (.inr ⟨rfl, k, rfl, k0⟩)), rfl⟩
theorem in2 {n a b : Int} (h : allIn n [.int a, .int b] = true) : 0 ≤ a ∧ a < n ∧ 0 ≤ b ∧ b < n := by
  have h := List.all_eq_true.mp h
  obtain ⟨x1, x2⟩ := inR_int (h _ List.mem_cons_self)
  obtain ⟨y1, y2⟩ := inR_int (h _ (List.mem_cons_of_mem _ List.mem_cons_self))
  exact ⟨x1, x2, y1, y2⟩
theorem outAB_way {pts : List (Int × Str)} {ts : List (Int × Int)} {z : Str} {a b : Int} {rest : List V} (T : Tree ts) (nj : z ≠ "joined") :
    (∀ l, Way ts a b l → outAB pts ts z a b rest = outWay pts ts z l rest) ∧ (¬ Rch ts a b → outAB pts ts z a b rest = .no 4) := by
  unfold outAB
  rw [if_neg nj]
  refine ⟨fun l hl => ?_, fun n => ?_⟩
  · have ex : ∃ l, Way ts a b l := ⟨l, hl⟩
    rw [dif_pos ex, way_unique T (Classical.choose_spec ex) hl]
  · have ex : ¬ ∃ l, Way ts a b l := fun ⟨l, hl⟩ => n hl.wk.rch
    rw [dif_neg ex]
theorem outAB_joined {pts : List (Int × Str)} {ts : List (Int × Int)} {a b : Int} {rest : List V} {c : Bool} (h : c = true ↔ Rch ts a b) : outAB pts ts "joined" a b rest = .told pts ts (.bool c) := by
  unfold outAB
  rw [if_pos rfl]
  congr 2
  cases c with
  | true => exact @decide_eq_true _ (Classical.propDecidable _) (h.mp rfl)
  | false => exact @decide_eq_false _ (Classical.propDecidable _) fun z => absurd (h.mpr z) Bool.false_ne_true
section
variable {P : Program} {w : World} {K : PySem.W.Frag} {mg : Str → Option Value} {base : Heap}
theorem held_ask (T : Top w K mg) {z : Str} {rest : List V} (nj : z ≠ "joined") (h : okRest z rest) : ∃ (fa : Addr) (okr : List V → Prop) (val : List (Int × Str) → List Int → List V → PyData) (np : List Int → List V → Prop),
    PySem.W.nsIn K T.aA z = some (some (.ref fa)) ∧ HeldX P w K mg base (L2.CX P w) 5 fa (spAskW T z okr val np) ∧ okr rest ∧ val = valW z ∧ ∀ l, np l rest ↔ npW z l rest := by
  have nk : ∀ {z : Str}, z ≠ "kth" → ∀ l, noP l rest ↔ npW z l rest := fun n l => ⟨fun z => z.elim, fun z => absurd z.1 n⟩
  rcases h with ⟨hz, hr⟩ | ⟨rfl, hr⟩ | ⟨rfl, hr⟩ | ⟨rfl, hr⟩
  · rcases hz with rfl | rfl | rfl | rfl | rfl
    · exact absurd rfl nj
    · exact ⟨T.a_askway, noR, vWay, noP, T.d_way, ⟨_, _, ok_askway T, T.F_askway.kp, T.b_askway⟩, hr, by unfold valW; rw [if_pos rfl], nk (by decide +kernel)⟩
    · exact ⟨T.a_asktotal, noR, vTotal, noP, T.d_total, ⟨_, _, ok_asktotal T, T.F_asktotal.kp, T.b_asktotal⟩, hr, by unfold valW; rw [if_neg (by decide +kernel), if_pos rfl], nk (by decide +kernel)⟩
    · exact ⟨T.a_askmany, noR, vMany, noP, T.d_many, ⟨_, _, ok_askmany T, T.F_askmany.kp, T.b_askmany⟩, hr, by unfold valW; rw [if_neg (by decide +kernel), if_neg (by decide +kernel), if_pos rfl], nk (by decide +kernel)⟩
    · exact ⟨T.a_askmost, noR, vMost, noP, T.d_most, ⟨_, _, ok_askmost T, T.F_askmost.kp, T.b_askmost⟩, hr, by unfold valW; rw [if_neg (by decide +kernel), if_neg (by decide +kernel), if_neg (by decide +kernel), if_pos rfl], nk (by decide +kernel)⟩
  · exact ⟨T.a_askfirst, rStr, vFirst, noP, T.d_first, ⟨_, _, ok_askfirst T, T.F_askfirst.kp, T.b_askfirst⟩, hr, by unfold valW; rw [if_neg (by decide +kernel), if_neg (by decide +kernel), if_neg (by decide +kernel), if_neg (by decide +kernel), if_pos rfl], nk (by decide +kernel)⟩
  · exact ⟨T.a_askreach, rInt, vReach, noP, T.d_reach, ⟨_, _, ok_askreach T, T.F_askreach.kp, T.b_askreach⟩, hr, by unfold valW; rw [if_neg (by decide +kernel), if_neg (by decide +kernel), if_neg (by decide +kernel), if_neg (by decide +kernel), if_neg (by decide +kernel), if_pos rfl], nk (by decide +kernel)⟩
  · exact ⟨T.a_askkth, rNat, vKth, npKth, T.d_kth, ⟨_, _, ok_askkth T, T.F_askkth.kp, T.b_askkth⟩, hr, by unfold valW; rw [if_neg (by decide +kernel), if_neg (by decide +kernel), if_neg (by decide +kernel), if_neg (by decide +kernel), if_neg (by decide +kernel), if_neg (by decide +kernel)], fun l => ⟨fun z => ⟨rfl, z⟩, fun z => z.2⟩⟩
theorem not_deedW {z : Str} (hz : z ∈ waysW) : ¬ z ∈ dws := by
  unfold waysW at hz
  simp only [List.mem_cons, List.not_mem_nil, or_false] at hz
  rcases hz with rfl | rfl | rfl | rfl | rfl | rfl | rfl | rfl <;> decide +kernel
theorem ok_plainW (T : Top w K mg) (TB : TBs T base) : FnOk P w K mg base (L2.CX P w) 6 T.a_plaindo T.d_plaindo ["forest", "row"] (spPlain T waysW outW) := by
  have G_refuseunfit : FnOk P w K mg base (L2.CX P w) 5 _ _ _ _ := ok_refuse T TB
  have G_isdeed : FnOk P w K mg base CX0 1 _ _ _ _ := ok_isdeed T
  refine T.F_plaindo.okX sc_plaindo (fun vs H Q E h => ?_) (fun cdv A outer s H vs Q E hr h => ?_)
  · obtain ⟨f, r, z, sl, ps, pts, ts, rfl, _⟩ := h
    rfl
  · obtain ⟨f, r, z, sl, ps, pts, ts, rfl, hf, fok, tg, hrow, hz, q⟩ := h
    obtain ⟨a, b, rest, rfl, okr, enm⟩ := way_row hz hrow.lk hrow.fit
    obtain ⟨fa, pa, ta, xs, ys, rfl, f1, f2, f3, f4, f5⟩ := Td.parts hf
    have lxs : xs.length = pts.length := by
      rw [f3.length, List.length_map]
    refine ⟨_, (pss_cons (ps_expr (pe_callS G_refuseunfit hr (by rfl) T.g_refuseunfit T.F_refuseunfit.kp T.b_refuseunfit (fun σ => passAt (takes_of rfl rfl rfl rfl) σ) (pa_cons (pv 1) (pa_cons (pe_callB call_len_seq (by rfl) T.m_len PySem.boot_len (pa_cons (pe_ix ix_tup (pv 0) pe_int (fun _ _ => rfl)) pa_nil)) pa_nil))))
      (pss_cons (ps_if (pt_val (pe_call G_isdeed (hr.mono (by decide)) (by rfl) T.g_isdeed T.F_isdeed.kp T.b_isdeed .nil pass0 (pa_cons (pv 1) pa_nil))) (pss_cons ps_never
      (pss_one ps_never)) pss_nil)
      (pss_cons (ps_set (i := 3) sc_plaindo.nd rfl (.inl rfl) (pe_ix ix_kdict (pe_glob (v := .ref T.aA) (by rfl) T.v_ASKS rfl) (pe_ix ix_tup (pv 1) pe_int (fun _ _ => rfl)) (fun _ _ => rfl)))
      (pss_one (ps_ret (pe_tup (pa_cons (pv 0) (pa_cons (pe_callH (i := 3) hr rfl (.inl rfl) (fun σ => passAt (takes_of rfl rfl rfl rfl) σ) (pa_cons (pv 0) (pa_cons (pv 1) pa_nil))) pa_nil)))))))), ?_⟩
    refine ⟨_, rfl, _, rfl, fa, _, _, _, rfl, rfl, f1, atI_nat (j := 0) rfl, pa, _, rfl, .inr f2, .ref r, _, true, _, rfl, tg, hrow.thing, fun _ => by rw [lxs]; exact hrow.rowin _, fun H1 k1 tg1 => ?_⟩
    refine iteT ?_
    cases hin : allIn pts.length (namedV ((forms.lookup z).getD []) (.int a :: .int b :: rest)) with
    | false =>
      have e : outW pts ts z (.int a :: .int b :: rest) = .no 1 := by
        unfold outW
        rw [hin, if_neg Bool.false_ne_true]
      rw [e] at q
      exact iteF (q H1 k1 tg1)
    | true =>
      have eo : outW pts ts z (.int a :: .int b :: rest) = outAB pts ts z a b rest := by
        unfold outW
        rw [hin, if_pos rfl]
      rw [eo] at q
      refine iteT ?_
      have hr1 : H1 r = some (.tup (.str z :: .int a :: .int b :: rest)) := k1 _ _ hrow.at_ (by intro ps z; cases z)
      have hf1 : Td K H1 (.ref fa) (fdata pts ts) := hf.mono (Tups.of_kp k1)
      rw [enm] at hin
      obtain ⟨a0, a1, b0, b1⟩ := in2 hin
      have tell : ∀ (v : V) (d : PyData) (H2 : Hp), Same H1 H2 → Td K H2 v d → outAB pts ts z a b rest = .told pts ts d → (2 : Nat) ≤ sizeLine ∧ ∀ t, H2 t = none → Q (.ref t) (upd H2 t (.tup [.ref fa, v])) := by
        intro v d H2 s2 tv eq
        rw [eq] at q
        refine ⟨by decide, fun t nt => ?_⟩
        have st := same_new (o := .tup [.ref fa, v]) nt
        exact q t _ ((k1.same s2).same st) ((tg1.same s2).same st) (.tup (SqT.of upd_same) (.cons (hf1.mono (Tups.of_same (s2.trans st))) (.cons (tv.mono (Tups.of_same st)) .nil)))
      refine ⟨_, rfl, r, z, _, rfl, hr1, _, rfl, ?_⟩
      rw [decide_eq_false (not_deedW hz)]
      refine iteF ?_
      by_cases ej : z = "joined"
      · subst ej
        have er : rest = [] := by
          rcases okr with ⟨_, h⟩ | ⟨h, _⟩ | ⟨h, _⟩ | ⟨h, _⟩
          · exact h
          · exact absurd h (by decide +kernel)
          · exact absurd h (by decide +kernel)
          · exact absurd h (by decide +kernel)
        subst er
        refine ⟨_, rfl, r, _, _, _, rfl, rfl, SqT.of hr1, atI_nat (j := 0) rfl, T.aA, "joined", .ref T.a_askjoined, rfl, rfl, ⟨T.esA, T.nA, _, T.lA, T.kA, T.d_joined, rfl⟩, ?_⟩
        refine ⟨_, rfl, T.a_askjoined, spJoined K, rfl, (HeldX.mk ⟨_, _, ok_askjoined T, T.F_askjoined.kp, T.b_askjoined⟩).mono (by decide), _, rfl, _, rfl, .ref fa, r, a, b, pts, ts, rfl, ⟨hf1, fok, hr1, a0, a1, b0, b1⟩, fun c H2 s2 hc => ?_⟩
        exact tell _ _ H2 s2 (.bl c) (outAB_joined hc)
      · obtain ⟨fn, okr', val, np, hd, held, hokr, ev, hnp⟩ := held_ask (P := P) (w := w) (base := base) T ej okr
        obtain ⟨o1, o2⟩ := outAB_way (pts := pts) (a := a) (b := b) (rest := rest) fok.tree ej
        refine ⟨_, rfl, r, _, _, _, rfl, rfl, SqT.of hr1, atI_nat (j := 0) rfl, T.aA, z, .ref fn, rfl, rfl, ⟨T.esA, T.nA, _, T.lA, T.kA, hd, rfl⟩, ?_⟩
        refine ⟨_, rfl, fn, _, rfl, held.mono (by decide), _, rfl, _, rfl, .ref fa, r, a, b, rest, pts, ts, rfl, ⟨hf1, fok, hr1, a0, a1, b0, b1⟩, hokr, fun H2 s2 n => ?_, fun l H2 s2 wy n => ?_, fun v l H2 s2 wy len n tv => ?_⟩
        · rw [o2 n] at q
          exact q H2 (k1.same s2) (tg1.same s2)
        · have e : outWay pts ts z l rest = .no 5 := @if_pos _ (Classical.propDecidable _) ((hnp l).mp n) _ _ _
          rw [o1 l wy, e] at q
          exact q H2 (k1.same s2) (tg1.same s2)
        · have e : outWay pts ts z l rest = .told pts ts (valW z pts l rest) := @if_neg _ (Classical.propDecidable _) (fun h => n ((hnp l).mpr h)) _ _ _
          subst ev
          exact tell _ _ H2 s2 tv ((o1 l wy).trans e)
end

end My
namespace My
open PySem L2
/-! ### _law_greatest -/
theorem bestIn_append (pts : List (Int × Str)) (u : Int) : ∀ (l : List Int) (b : Int), bestIn pts (l ++ [u]) b = if (ptAt pts (bestIn pts l b)).1 < (ptAt pts u).1 then u else bestIn pts l b
  | [], b => rfl
  | k :: r, b => bestIn_append pts u r (if (ptAt pts b).1 < (ptAt pts k).1 then k else b)
theorem bestIn_mem (pts : List (Int × Str)) : ∀ (l : List Int) (b : Int), bestIn pts l b ∈ b :: l
  | [], b => List.mem_cons_self
  | k :: r, b => by
    have ih := bestIn_mem pts r (if (ptAt pts b).1 < (ptAt pts k).1 then k else b)
    show bestIn pts r (if (ptAt pts b).1 < (ptAt pts k).1 then k else b) ∈ _
    rcases List.mem_cons.mp ih with e | e
    · rw [e]
      split
      · exact List.mem_cons_of_mem _ List.mem_cons_self
      · exact List.mem_cons_self
    · exact List.mem_cons_of_mem _ (List.mem_cons_of_mem _ e)
section
variable {P : Program} {w : World} {K : PySem.W.Frag} {mg : Str → Option Value} {base : Heap}
def spLGreat (K : PySem.W.Frag) : Sp := fun vs H Q _ => ∃ (f : V) (c : Addr) (l : List Int) (pts : List (Int × Str)) (ts : List (Int × Int)), vs = [f, .ref c] ∧ Td K H f (fdata pts ts) ∧ H c = some (.tup (l.map V.int)) ∧ InP pts l ∧ l ≠ [] ∧
  ∀ (t : Addr), H t = none → Q (.ref t) (upd H t (.tup [.int (ptAt pts (bestOf pts l)).1, .int (bestOf pts l)]))
theorem ok_lgreat (T : Top w K mg) : FnOk P w K mg base CX0 1 T.a_Lgreatest T.d_Lgreatest ["_law_forest_here", "_law_some"] (spLGreat K) := by
  refine T.F_Lgreatest.ok sc_Lgreatest (fun vs H Q E h => ?_) (fun cdv A outer s H vs Q E hr h => ?_)
  · obtain ⟨f, c, l, pts, ts, rfl, _⟩ := h
    rfl
  · obtain ⟨f, c, l, pts, ts, rfl, hf, hc, hin, hne, q⟩ := h
    obtain ⟨fa, pa, ta, xs, ys, rfl, f1, f2, f3, f4, f5⟩ := Td.parts hf
    obtain ⟨x0, l0, rfl⟩ : ∃ x r, l = x :: r := by
      cases l with
      | nil => exact absurd rfl hne
      | cons x r => exact ⟨x, r, rfl⟩
    have inB : ∀ i, 0 ≤ bestIn pts ((x0 :: l0).take i) x0 ∧ bestIn pts ((x0 :: l0).take i) x0 < (pts.length : Int) := fun i => by
      rcases List.mem_cons.mp (bestIn_mem pts ((x0 :: l0).take i) x0) with e | e
      · rw [e]
        exact hin x0 List.mem_cons_self
      · exact hin _ (List.mem_of_mem_take e)
    refine ⟨_, (pss_cons (ps_set (i := 2) sc_Lgreatest.nd rfl (.inl rfl) (pe_ix ix_tup (pv 1) pe_int (fun _ _ => rfl)))
      (pss_cons (ps_for PassesOwn.never rfl (pi_tup (pv 1)) (pg_name (i := 3) sc_Lgreatest.nd rfl (.inl rfl)) (pss_one (ps_if (pt_cmpR op_gt (pe_ix ix_tup (pe_ix ix_tup (pe_ix ix_tup (pv 0) pe_int (fun _ _ => rfl)) (pv 3) (fun _ _ => rfl)) pe_int (fun _ _ => rfl)) (pe_ix ix_tup (pe_ix ix_tup (pe_ix ix_tup (pv 0) pe_int (fun _ _ => rfl)) (pv 2) (fun _ _ => rfl)) pe_int (fun _ _ => rfl)) (nomark _)) (pss_one (ps_set (i := 2) sc_Lgreatest.nd rfl (.inl rfl) (pv 3))) pss_nil)))
      (pss_one (ps_ret (pe_tup (pa_cons (pe_ix ix_tup (pe_ix ix_tup (pe_ix ix_tup (pv 0) pe_int (fun _ _ => rfl)) (pv 2) (fun _ _ => rfl)) pe_int (fun _ _ => rfl)) (pa_cons (pv 2) pa_nil))))))), ?_⟩
    refine ⟨_, rfl, c, _, _, _, rfl, rfl, SqT.of hc, atI_nat (j := 0) rfl, ?_⟩
    refine ⟨_, rfl, c, rfl, ⟨_, SqT.of hc⟩, for_tup (xs := (x0 :: l0).map V.int) (fun i σ H2 => (∃ y4, σ = [some (.ref fa), some (.ref c), some (.int (bestIn pts ((x0 :: l0).take i) x0)), y4]) ∧ H2 = H) ⟨⟨_, rfl⟩, rfl⟩ (fun i σ H2 _ h => by rw [h.2]; exact SqT.of hc) ?_ ?_⟩
    · rintro i x σ H2 hx ⟨⟨y4, rfl⟩, rfl⟩
      rw [List.getElem?_map] at hx
      obtain ⟨u, hu, rfl⟩ := Option.map_eq_some_iff.mp hx
      obtain ⟨u0, u1⟩ := hin u (List.mem_of_getElem? hu)
      obtain ⟨pp, hat, hpp⟩ := pts_at f3 u0 u1
      obtain ⟨pb, hab, hpb⟩ := pts_at f3 (inB i).1 (inB i).2
      have tk : (x0 :: l0).take (i + 1) = (x0 :: l0).take i ++ [u] := List.take_succ_eq_append_getElem? hu
      have en := bestIn_append pts u ((x0 :: l0).take i) x0
      rw [← tk] at en
      refine ⟨_, rfl, fa, _, _, _, rfl, rfl, f1, atI_nat (j := 0) rfl, _, rfl, pa, _, _, _, rfl, rfl, f2, hat, pp, _, _, _, rfl, rfl, hpp, atI_nat (j := 0) rfl, _, rfl, fa, _, _, _, rfl, rfl, f1, atI_nat (j := 0) rfl, _, rfl, pa, _, _, _, rfl, rfl, f2, hab, pb, _, _, _, rfl, rfl, hpb, atI_nat (j := 0) rfl, _, _, rfl, rfl, _, rfl, ?_⟩
      refine ite2 (fun e => ?_) (fun e => ?_)
      · have e2 : (ptAt pts (bestIn pts ((x0 :: l0).take i) x0)).1 < (ptAt pts u).1 := of_decide_eq_true e
        rw [if_pos e2] at en
        refine ⟨_, rfl, ⟨some (.int u), ?_⟩, rfl⟩
        rw [en]
        rfl
      · have e2 : ¬ (ptAt pts (bestIn pts ((x0 :: l0).take i) x0)).1 < (ptAt pts u).1 := fun z => e (decide_eq_true z)
        rw [if_neg e2] at en
        refine ⟨⟨some (.int u), ?_⟩, rfl⟩
        rw [en]
        rfl
    · rintro σ H2 ⟨⟨y4, rfl⟩, rfl⟩
      have eb : bestIn pts ((x0 :: l0).take ((x0 :: l0).map V.int).length) x0 = bestOf pts (x0 :: l0) := by
        rw [List.length_map, List.take_of_length_le (Nat.le_refl _)]
        rfl
      have hB := inB ((x0 :: l0).map V.int).length
      rw [eb] at hB ⊢
      obtain ⟨pb, hab, hpb⟩ := pts_at f3 hB.1 hB.2
      refine ⟨_, rfl, fa, _, _, _, rfl, rfl, f1, atI_nat (j := 0) rfl, _, rfl, pa, _, _, _, rfl, rfl, f2, hab, pb, _, _, _, rfl, rfl, hpb, atI_nat (j := 0) rfl, _, rfl, (by show 2 ≤ sizeLine; decide), fun t nt => q t nt⟩
end

end My
namespace My
open PySem PySem.Spec PyProof.Rows L2
/-! ### _law_first -/
theorem takes_none {X : Cx} : Takes X (fun _ _ _ _ => False) := fun u s' ⟨a, B, sI, pins, σ, H, cls, d, e, I, nb, up, sky, na, os, ag, w⟩ => w.elim
/-- the first that fits -/
def TTfirst (K : PySem.W.Frag) (v : V) (tl : XK → V → Hp → VK → Prop) (H : Hp) (Q : VK) : Prop := ∃ (c : Addr) (l : List Int) (f : Int → Bool), v = .ref c ∧ SqT K H c (l.map V.int) ∧ (∀ x ∈ l, ∀ (E' : XK) (Q' : VK), Q' (.bl (f x)) H → tl E' (.int x) H Q') ∧ Q (optI (l.find? f)) H
theorem gives_Lfirst {X : Cx} {w : World} {K : PySem.W.Frag} {mg : Str → Option Value} (T : Top w K mg) (hw : X.w = w) (hK : X.K = K) (hm : X.mg = mg) {k : Nat} {qn : Str} (cdg : Value) : GivesP2 X k ["_law_some", "_law_fits", "_law_k"] "_law_first" (defScope s_Lfirst) T.a_Lfirst cdg (defBody s_Lfirst) "_law_fits" qn (TTfirst K) := by
  subst hw hK hm
  intro f c' v s H Q tl hr act hc h
  obtain ⟨c, l, pr, rfl, hs, htl, q⟩ := h
  refine ⟨_, (pss_cons (ps_for PassesOwn.never rfl (pi_tup (pv 0)) (pg_name (i := 2) sc_Lfirst.nd rfl (.inl rfl)) (pss_one (ps_if (pt_truth (act (fun _ _ _ _ => False) [] (fun _ _ => False) _ _ _ _ takes_none (pa_cons (pv 2) pa_nil) rfl) (by intro _; rfl)) (pss_one (ps_ret (pv 2))) pss_nil)))
      (pss_one (ps_ret pe_non))), ?_⟩
  refine ⟨_, rfl, c, rfl, ⟨_, hs⟩, for_tup (xs := l.map V.int) (fun i σ H2 => (∃ y4, σ = [some (.ref c), some (.ref f), y4]) ∧ H2 = H ∧ (l.take i).find? pr = none) ⟨⟨_, rfl⟩, rfl, rfl⟩ (fun i σ H2 _ h => by rw [h.2.1]; exact hs) ?_ ?_⟩
  · rintro i x σ H2 hx ⟨⟨y4, rfl⟩, rfl, hn⟩
    rw [List.getElem?_map] at hx
    obtain ⟨u, hu, rfl⟩ := Option.map_eq_some_iff.mp hx
    have tn := find_turn hu hn
    refine ⟨rfl, _, rfl, .int u, rfl, hc, htl u (List.mem_of_getElem? hu) _ _ ?_⟩
    refine ⟨_, rfl, ?_⟩
    refine ite2 (fun e => ?_) (fun e => ?_)
    · rw [tn.1 e] at q
      exact ⟨_, rfl, q⟩
    · exact ⟨⟨_, rfl⟩, rfl, tn.2 (Bool.eq_false_iff.mpr e)⟩
  · rintro σ H2 ⟨⟨y4, rfl⟩, rfl, hn⟩
    rw [List.length_map, List.take_of_length_le (Nat.le_refl _)] at hn
    rw [hn] at q
    exact q

end My
namespace My
open PySem L2
/-! ### _law_of_way -/
section
variable {P : Program} {w : World} {K : PySem.W.Frag} {mg : Str → Option Value} {base : Heap}
def spOfWay (T : Top w K mg) : Sp := fun vs H Q _ => ∃ (f : V) (r c : Addr) (z : Str) (a b : Int) (rest : List V) (l : List Int) (pts : List (Int × Str)) (ts : List (Int × Int)), vs = [f, .ref r, .ref c] ∧ Tb T.tbs H ∧ Td K H f (fdata pts ts) ∧ H r = some (.tup (.str z :: .int a :: .int b :: rest)) ∧ z ≠ "joined" ∧ okRest z rest ∧ H c = some (.tup (l.map V.int)) ∧ InP pts l ∧ l.length ≤ 100 ∧ l ≠ [] ∧
  (∀ (v : V) (H' : Hp), Kp H H' → Tb T.tbs H' → ¬ npW z l rest → Td K H' v (valW z pts l rest) → Q v H') ∧ (∀ H', Kp H H' → Tb T.tbs H' → npW z l rest → Q (.str "NoPlace") H')
theorem ok_ofway (T : Top w K mg) (TBO : LamX.TabB base mg T.cO T.PO) : FnOk P w K mg base CX0 3 T.a_Lofway T.d_Lofway ["_law_forest_here", "_law_row_here", "_law_way_here"] (spOfWay T) := by
  have G_Lgreatest : FnOk P w K mg base CX0 1 _ _ _ _ := ok_lgreat T
  refine okC T.F_Lofway T.hcO sc_Lofway (fun vs H Q E h => ?_) (fun A outer s H vs Q E hr h => ?_)
  · obtain ⟨f, r, c, z, a, b, rest, l, pts, ts, rfl, _⟩ := h
    rfl
  · obtain ⟨f, r, c, z, a, b, rest, l, pts, ts, rfl, tb, hf, hr0, nj, okr, hc, hin, hl, hne, q, qn⟩ := h
    obtain ⟨fa, pa, ta, xs, ys, rfl, f1, f2, f3, f4, f5⟩ := Td.parts hf
    refine ⟨_, (pss_cons (ps_set (i := 3) sc_Lofway.nd rfl (.inl rfl) (pe_ix ix_tup (pv 1) pe_int (fun _ _ => rfl)))
      (pss_cons (ps_if (pt_cmpR op_eq (pv 3) pe_str (nomark _)) (pss_one (ps_ret (pv 2))) pss_nil)
      (pss_cons (ps_if (pt_cmpR op_eq (pv 3) pe_str (nomark _)) (pss_one (ps_ret (pe_callB (cr_sum rfl) (by rfl) T.m_sum (by decide +kernel) (pa_cons (pe_lc (own := [("_law_k", 4)]) (g := gName 4) (tt := tYes) (by rfl) sc_Lofway.nd (pi_tup (pv 2)) (blkOk_by (own := [("_law_k", 4)]) (N := ["_law_forest_here", "_law_row_here", "_law_way_here", "_law_word", "_law_k"]) (sc := defScope s_Lofway) (by decide +kernel)) (fun _ _ _ _ _ => (pg_name (i := 4) sc_Lofway.nd rfl (.inl rfl))) (fun _ _ _ _ _ => pts_nil) (fun _ _ _ _ _ => (pe_ix (ix_tupK (K := K) rfl) (pe_ix (ix_tupK (K := K) rfl) (pe_ix (ix_tupK (K := K) rfl) (pv 0) pe_int (fun _ _ => rfl)) (pv 4) (fun _ _ => rfl)) pe_int (fun _ _ => rfl)))) pa_nil)))) pss_nil)
      (pss_cons (ps_if (pt_cmpR op_eq (pv 3) pe_str (nomark _)) (pss_one (ps_ret (pe_callB call_len_seq (by rfl) T.m_len PySem.boot_len (pa_cons (pv 2) pa_nil)))) pss_nil)
      (pss_cons (ps_if (pt_cmpR op_eq (pv 3) pe_str (nomark _)) (pss_one (ps_ret (pe_call G_Lgreatest (hr.mono (by decide)) (by rfl) T.g_Lgreatest T.F_Lgreatest.kp T.b_Lgreatest .nil pass0 (pa_cons (pv 0) (pa_cons (pv 2) pa_nil))))) pss_nil)
      (pss_cons (ps_if (pt_cmpR op_eq (pv 3) pe_str (nomark _)) (pss_one (ps_ret (pe_lamF2 (k := 0) (p := "_law_k") (by rfl) T.g_Lfirst T.F_Lfirst T.b_Lfirst sc_Lfirst rfl (.inl rfl) (fun cdg => gives_Lfirst T rfl rfl rfl cdg) TBO rfl hr (lamP_by (sc := defScope s_Lofway) (by decide +kernel)) (by rfl) (fun _ _ _ _ _ _ => by rfl) (fun _ _ _ _ _ _ _ hrb => (pe_cmpR op_eq (pe_ix (ix_tupK (K := K) rfl) (pe_ix (ix_tupK (K := K) rfl) (pe_ix (ix_tupK (K := K) rfl) (pv 0) pe_int (fun _ _ => rfl)) (pv 5) (fun _ _ => rfl)) pe_int (fun _ _ => rfl)) (pe_ix (ix_tupK (K := K) rfl) (pv 1) pe_int (fun _ _ => rfl)) (nomark _))) (pv 2)))) pss_nil)
      (pss_cons (ps_if (pt_cmpR op_eq (pv 3) pe_str (nomark _)) (pss_one (ps_ret (pe_lamF2 (k := 0) (p := "_law_k") (by rfl) T.g_Lfirst T.F_Lfirst T.b_Lfirst sc_Lfirst rfl (.inl rfl) (fun cdg => gives_Lfirst T rfl rfl rfl cdg) TBO rfl hr (lamP_by (sc := defScope s_Lofway) (by decide +kernel)) (by rfl) (fun _ _ _ _ _ _ => by rfl) (fun _ _ _ _ _ _ _ hrb => (pe_cmpR op_ge (pe_ix (ix_tupK (K := K) rfl) (pe_ix (ix_tupK (K := K) rfl) (pe_ix (ix_tupK (K := K) rfl) (pv 0) pe_int (fun _ _ => rfl)) (pv 5) (fun _ _ => rfl)) pe_int (fun _ _ => rfl)) (pe_ix (ix_tupK (K := K) rfl) (pv 1) pe_int (fun _ _ => rfl)) (nomark _))) (pv 2)))) pss_nil)
      (pss_one (ps_ret (pe_ifExp (pt_cmpR op_lt (pe_ix ix_tup (pv 1) pe_int (fun _ _ => rfl)) (pe_callB call_len_seq (by rfl) T.m_len PySem.boot_len (pa_cons (pv 2) pa_nil)) (nomark _)) (pe_ix ix_tup (pv 2) (pe_ix ix_tup (pv 1) pe_int (fun _ _ => rfl)) (fun _ _ => rfl)) pe_str)))))))))), ?_⟩
    refine ⟨_, rfl, r, _, _, _, rfl, rfl, SqT.of hr0, atI_nat (j := 0) rfl, ?_⟩
    rcases okr with ⟨hz, rfl⟩ | ⟨rfl, k, rfl⟩ | ⟨rfl, k, rfl⟩ | ⟨rfl, k, rfl, k0⟩
    · rcases hz with rfl | rfl | rfl | rfl | rfl
      · exact absurd rfl nj
      · have q := fun v H' k t => q v H' k t (fun z => absurd z.1 (by decide +kernel))
        refine ⟨_, rfl, rfl, _, rfl, iteT' rfl ?_⟩
        refine ⟨_, rfl, q _ H (Kp.refl _) tb ?_⟩
        unfold valW
        rw [if_pos rfl]
        exact .tup (SqT.of hc) (td_ints l)
      · have q := fun v H' k t => q v H' k t (fun z => absurd z.1 (by decide +kernel))
        refine ⟨_, rfl, rfl, _, rfl, iteF ?_⟩
        refine ⟨_, rfl, rfl, _, rfl, iteT' rfl ?_⟩
        refine ⟨_, rfl, c, rfl, ⟨_, SqT.of hc⟩, fun D nD => ?_⟩
        refine lc_tup (xs := l.map V.int) (fun i H3 => Same H H3 ∧ H3 D = some (.lst (((l.take i).map fun p => (ptAt pts p).1).map V.int))) ⟨same_new nD, upd_same⟩ (fun i H3 hi hq => SqT.of (hq.1 _ _ hc)) (fun i x H3 hx hq => ?_) (fun H3 hq => ?_)
        · obtain ⟨s3, hD⟩ := hq
          rw [List.getElem?_map] at hx
          obtain ⟨u, hu, rfl⟩ := Option.map_eq_some_iff.mp hx
          obtain ⟨u0, u1⟩ := hin u (List.mem_of_getElem? hu)
          obtain ⟨pp, hat, hpp⟩ := pts_at f3 u0 u1
          have tk : l.take (i + 1) = l.take i ++ [u] := List.take_succ_eq_append_getElem? hu
          have t3 := Tups.of_same (K := K) s3
          refine ⟨rfl, ?_⟩
          refine ⟨_, rfl, fa, _, _, _, rfl, rfl, t3 _ _ f1, atI_nat (j := 0) rfl, _, rfl, pa, _, _, _, rfl, rfl, t3 _ _ f2, hat, pp, _, _, _, rfl, rfl, t3 _ _ hpp, atI_nat (j := 0) rfl, _, hD, ?_, ?_, ?_⟩
          · rw [List.length_map, List.length_map, List.length_take]
            exact szl (by omega)
          · intro b o e
            rw [upd_ne (ne_of_none e nD)]
            exact s3 _ _ e
          · rw [upd_same, tk, List.map_append, List.map_append]
            rfl
        · obtain ⟨s3, hD⟩ := hq
          rw [List.length_map, List.take_of_length_le (Nat.le_refl _)] at hD
          refine ⟨D, _, rfl, SqL.of hD, q _ H3 (Kp.of_same s3) (tb.same s3) ?_⟩
          unfold valW
          rw [if_neg (by decide +kernel), if_pos rfl]
          exact .int _
      · have q := fun v H' k t => q v H' k t (fun z => absurd z.1 (by decide +kernel))
        refine ⟨_, rfl, rfl, _, rfl, iteF ?_⟩
        refine ⟨_, rfl, rfl, _, rfl, iteF ?_⟩
        refine ⟨_, rfl, rfl, _, rfl, iteT' rfl ?_⟩
        refine ⟨_, rfl, c, _, rfl, .inr (SqT.of hc), ?_⟩
        rw [List.length_map]
        refine q _ H (Kp.refl _) tb ?_
        unfold valW
        rw [if_neg (by decide +kernel), if_neg (by decide +kernel), if_pos rfl]
        exact .int _
      · have q := fun v H' k t => q v H' k t (fun z => absurd z.1 (by decide +kernel))
        refine ⟨_, rfl, rfl, _, rfl, iteF ?_⟩
        refine ⟨_, rfl, rfl, _, rfl, iteF ?_⟩
        refine ⟨_, rfl, rfl, _, rfl, iteF ?_⟩
        refine ⟨_, rfl, rfl, _, rfl, iteT' rfl ?_⟩
        refine ⟨_, rfl, _, rfl, .ref fa, c, l, pts, ts, rfl, hf, hc, hin, hne, fun t nt => ?_⟩
        have st := same_new (o := .tup [.int (ptAt pts (bestOf pts l)).1, .int (bestOf pts l)]) nt
        refine q _ _ (Kp.of_same st) (tb.same st) ?_
        unfold valW
        rw [if_neg (by decide +kernel), if_neg (by decide +kernel), if_neg (by decide +kernel), if_pos rfl]
        exact .tup (SqT.of upd_same) (.cons (.int _) (.cons (.int _) .nil))
    · have q := fun v H' k t => q v H' k t (fun z => absurd z.1 (by decide +kernel))
      refine ⟨_, rfl, rfl, _, rfl, iteF ?_⟩
      refine ⟨_, rfl, rfl, _, rfl, iteF ?_⟩
      refine ⟨_, rfl, rfl, _, rfl, iteF ?_⟩
      refine ⟨_, rfl, rfl, _, rfl, iteF ?_⟩
      refine ⟨_, rfl, rfl, _, rfl, iteT' rfl ?_⟩
      refine ⟨⟨fun h => absurd h (by decide +kernel), fun h => absurd h (by decide +kernel), fun h => absurd h (by decide +kernel), fun h => absurd h (by decide +kernel), fun _ => rfl, trivial⟩, _, rfl, tb.s T.mO, fun H2 k2 t2 => ?_⟩
      have kp2 : Kp H H2 := Kp.of_but (TabS.g (tb.s T.mO)) k2
      have u2 := Tups.of_kp (K := K) kp2
      refine ⟨c, l, fun p => decide ((ptAt pts p).2 = k), rfl, u2 _ _ (SqT.of hc), fun x hx E' Q' q' => ?_, ?_⟩
      · obtain ⟨u0, u1⟩ := hin x hx
        obtain ⟨pp, hat, hpp⟩ := pts_at f3 u0 u1
        refine ⟨_, rfl, fa, _, _, _, rfl, rfl, u2 _ _ f1, atI_nat (j := 0) rfl, _, rfl, pa, _, _, _, rfl, rfl, u2 _ _ f2, hat, pp, _, _, _, rfl, rfl, u2 _ _ hpp, atI_nat (j := 1) rfl, _, rfl, r, _, _, _, rfl, rfl, u2 _ _ (SqT.of hr0), atI_nat (j := 3) rfl, rfl, ?_⟩
        have e : decide (V.str (ptAt pts x).2 = V.str k) = decide ((ptAt pts x).2 = k) := by
          by_cases h : (ptAt pts x).2 = k
          · rw [decide_eq_true h, decide_eq_true (congrArg V.str h)]
          · rw [decide_eq_false h, decide_eq_false fun z => h (V.str.inj z)]
        rw [e]
        exact q'
      · refine q _ H2 kp2 (tb.lam T.nd T.mO k2 t2) ?_
        unfold valW
        rw [if_neg (by decide +kernel), if_neg (by decide +kernel), if_neg (by decide +kernel), if_neg (by decide +kernel), if_pos rfl]
        exact td_opt _
    · have q := fun v H' k t => q v H' k t (fun z => absurd z.1 (by decide +kernel))
      refine ⟨_, rfl, rfl, _, rfl, iteF ?_⟩
      refine ⟨_, rfl, rfl, _, rfl, iteF ?_⟩
      refine ⟨_, rfl, rfl, _, rfl, iteF ?_⟩
      refine ⟨_, rfl, rfl, _, rfl, iteF ?_⟩
      refine ⟨_, rfl, rfl, _, rfl, iteF ?_⟩
      refine ⟨_, rfl, rfl, _, rfl, iteT' rfl ?_⟩
      refine ⟨⟨fun h => absurd h (by decide +kernel), fun h => absurd h (by decide +kernel), fun h => absurd h (by decide +kernel), fun h => absurd h (by decide +kernel), fun _ => rfl, trivial⟩, _, rfl, tb.s T.mO, fun H2 k2 t2 => ?_⟩
      have kp2 : Kp H H2 := Kp.of_but (TabS.g (tb.s T.mO)) k2
      have u2 := Tups.of_kp (K := K) kp2
      refine ⟨c, l, fun p => decide (k ≤ (ptAt pts p).1), rfl, u2 _ _ (SqT.of hc), fun x hx E' Q' q' => ?_, ?_⟩
      · obtain ⟨u0, u1⟩ := hin x hx
        obtain ⟨pp, hat, hpp⟩ := pts_at f3 u0 u1
        refine ⟨_, rfl, fa, _, _, _, rfl, rfl, u2 _ _ f1, atI_nat (j := 0) rfl, _, rfl, pa, _, _, _, rfl, rfl, u2 _ _ f2, hat, pp, _, _, _, rfl, rfl, u2 _ _ hpp, atI_nat (j := 0) rfl, _, rfl, r, _, _, _, rfl, rfl, u2 _ _ (SqT.of hr0), atI_nat (j := 3) rfl, _, _, rfl, rfl, ?_⟩
        exact q'
      · refine q _ H2 kp2 (tb.lam T.nd T.mO k2 t2) ?_
        unfold valW
        rw [if_neg (by decide +kernel), if_neg (by decide +kernel), if_neg (by decide +kernel), if_neg (by decide +kernel), if_neg (by decide +kernel), if_pos rfl]
        exact td_opt _
    · refine ⟨_, rfl, rfl, _, rfl, iteF ?_⟩
      refine ⟨_, rfl, rfl, _, rfl, iteF ?_⟩
      refine ⟨_, rfl, rfl, _, rfl, iteF ?_⟩
      refine ⟨_, rfl, rfl, _, rfl, iteF ?_⟩
      refine ⟨_, rfl, rfl, _, rfl, iteF ?_⟩
      refine ⟨_, rfl, rfl, _, rfl, iteF ?_⟩
      refine ⟨_, rfl, r, _, _, _, rfl, rfl, SqT.of hr0, atI_nat (j := 3) rfl, _, rfl, c, _, rfl, .inr (SqT.of hc), _, _, rfl, rfl, _, rfl, ?_⟩
      rw [List.length_map]
      refine ite2 (fun e => ?_) (fun e => ?_)
      · have hk : k < (l.length : Int) := of_decide_eq_true e
        have hlt : k.toNat < l.length := by omega
        have hat : atI (l.map V.int) k = some (.int (l[k.toNat]'hlt)) := by
          have ek : k = ((k.toNat : Nat) : Int) := by omega
          have z : atI (l.map V.int) ((k.toNat : Nat) : Int) = some (.int (l[k.toNat]'hlt)) := atI_nat (by rw [List.getElem?_map, List.getElem?_eq_getElem hlt]; rfl)
          rw [← ek] at z
          exact z
        refine ⟨_, rfl, _, rfl, r, _, _, _, rfl, rfl, SqT.of hr0, atI_nat (j := 3) rfl, c, _, _, _, rfl, rfl, SqT.of hc, hat, ?_⟩
        refine q _ H (Kp.refl _) tb (fun z => ?_) ?_
        · have z2 : (l.length : Int) ≤ k := z.2
          omega
        · unfold valW
          rw [if_neg (by decide +kernel), if_neg (by decide +kernel), if_neg (by decide +kernel), if_neg (by decide +kernel), if_neg (by decide +kernel), if_neg (by decide +kernel)]
          show Td K _ _ (dOpt l[k.toNat]?)
          rw [List.getElem?_eq_getElem hlt]
          exact .int _
      · have hk : ¬ k < (l.length : Int) := fun z => e (decide_eq_true z)
        exact qn H (Kp.refl _) tb ⟨rfl, by show (l.length : Int) ≤ k; omega⟩
end

end My
namespace My
open PySem L2
/-! ### _law_ask of ways -/
section
variable {P : Program} {w : World} {K : PySem.W.Frag} {mg : Str → Option Value} {base : Heap}
def spAskL (T : Top w K mg) : Sp := fun vs H Q _ => ∃ (f : V) (r : Addr) (z : Str) (a b : Int) (rest : List V) (pts : List (Int × Str)) (ts : List (Int × Int)), vs = [f, .ref r] ∧ Tb T.tbs H ∧ AskPre K H f r z a b rest pts ts ∧ z ∈ waysW ∧ okRest z rest ∧
  (∀ (v : V) (d : PyData) (H' : Hp), Kp H H' → Tb T.tbs H' → outAB pts ts z a b rest = .told pts ts d → Td K H' v d → Q v H') ∧ ∀ (j : Nat) (H' : Hp), Kp H H' → Tb T.tbs H' → outAB pts ts z a b rest = .no j → Q (.str (wds.getD j "")) H'
theorem ways8 {z : Str} (hz : z ∈ waysW) : z = "joined" ∨ z = "way" ∨ z = "total" ∨ z = "many" ∨ z = "most" ∨ z = "first" ∨ z = "reach" ∨ z = "kth" := by
  unfold waysW at hz
  simp only [List.mem_cons, List.not_mem_nil, or_false] at hz
  exact hz
theorem ok_askl (T : Top w K mg) (TBO : LamX.TabB base mg T.cO T.PO) : FnOk P w K mg base CX0 4 T.a_Lask T.d_Lask ["_law_forest_here", "_law_row_here"] (spAskL T) := by
  have G_Lway : FnOk P w K mg base CX0 2 _ _ _ _ := ok_way2 T
  have G_Lofway : FnOk P w K mg base CX0 3 _ _ _ _ := ok_ofway T TBO
  refine T.F_Lask.ok sc_Lask (fun vs H Q E h => ?_) (fun cdv A outer s H vs Q E hr h => ?_)
  · obtain ⟨f, r, z, a, b, rest, pts, ts, rfl, _⟩ := h
    rfl
  · obtain ⟨f, r, z, a, b, rest, pts, ts, rfl, tb, ⟨hf, fok, hr0, a0, a1, b0, b1⟩, hz, okr, qt, qno⟩ := h
    have few := fok.few
    have hz8 := ways8 hz
    refine ⟨_, (pss_cons (ps_set (i := 2) sc_Lask.nd rfl (.inl rfl) (pe_ix ix_tup (pv 1) pe_int (fun _ _ => rfl)))
      (pss_cons (ps_if (pt_cmpR op_in_seq (pv 2) (pe_tup (pa_cons pe_str (pa_cons pe_str (pa_cons pe_str (pa_cons pe_str pa_nil))))) (by rfl)) (pss_cons ps_never
      (pss_cons ps_never
      (pss_cons ps_never
      (pss_cons ps_never
      (pss_one ps_never))))) pss_nil)
      (pss_cons (ps_set (i := 5) sc_Lask.nd rfl (.inr rfl) (pe_call G_Lway (hr.mono (by decide)) (by rfl) T.g_Lway T.F_Lway.kp T.b_Lway .nil pass0 (pa_cons (pv 0) (pa_cons (pe_ix ix_tup (pv 1) pe_int (fun _ _ => rfl)) (pa_cons (pe_ix ix_tup (pv 1) pe_int (fun _ _ => rfl)) pa_nil)))))
      (pss_cons (ps_if (pt_cmpR op_eq (pv 2) pe_str (nomark _)) (pss_one (ps_ret (pe_cmpR op_notN (pv 5) pe_non (nomark _)))) pss_nil)
      (pss_cons (ps_if (PW.pt (pw_or (pt_cmpR op_isN (pv 5) pe_non (nomark _)) (pw_or1 (PW.pt (pw_and (pt_cmpR op_eq (pv 2) pe_str (nomark _)) (pw_and1 (pt_cmpR op_isN (pe_call G_Lway (hr.mono (by decide)) (by rfl) T.g_Lway T.F_Lway.kp T.b_Lway .nil pass0 (pa_cons (pv 0) (pa_cons (pe_ix ix_tup (pv 1) pe_int (fun _ _ => rfl)) (pa_cons (pe_ix ix_tup (pv 1) pe_int (fun _ _ => rfl)) pa_nil)))) pe_non (nomark _)))))))) (pss_one (ps_ret pe_str)) pss_nil)
      (pss_cons (ps_if (pt_cmpR op_eq (pv 2) pe_str (nomark _)) (pss_cons ps_never
      (pss_one ps_never)) pss_nil)
      (pss_one (ps_ret (pe_call G_Lofway hr (by rfl) T.g_Lofway T.F_Lofway.kp T.b_Lofway .nil pass0 (pa_cons (pv 0) (pa_cons (pv 1) (pa_cons (pv 5) pa_nil)))))))))))), ?_⟩
    refine ⟨_, rfl, r, _, _, _, rfl, rfl, SqT.of hr0, atI_nat (j := 0) rfl, ?_⟩
    refine ⟨_, rfl, (by show 4 ≤ sizeLine; decide), fun t4 n4 => ?_⟩
    have s1 : Same H (upd H t4 (.tup [.str "sum", .str "size", .str "top", .str "least"])) := same_new n4
    refine ⟨t4, _, rfl, .inr (SqT.of upd_same), rfl, by decide, false, ?_, iteF ?_⟩
    · rcases hz8 with rfl | rfl | rfl | rfl | rfl | rfl | rfl | rfl <;> decide +kernel
    have hf1 := hf.mono (Tups.of_same s1)
    have hr1 := s1 _ _ hr0
    have tb1 := tb.same s1
    generalize upd H t4 (.tup [.str "sum", .str "size", .str "top", .str "least"]) = H1 at s1 hf1 hr1 tb1 ⊢
    have nm : ¬ (V.str z = V.str "meet") := fun e => by
      have e := V.str.inj e
      subst e
      exact absurd hz (by decide +kernel)
    refine ⟨_, rfl, _, rfl, r, _, _, _, rfl, rfl, SqT.of hr1, atI_nat (j := 1) rfl, _, rfl, r, _, _, _, rfl, rfl, SqT.of hr1, atI_nat (j := 2) rfl, f, a, b, pts, ts, rfl, hf1, fok, a0, a1, fun H2 s2 nr => ?_, fun t1 l1 H2 s2 w1 len1 h1 => ?_⟩
    · have k12 : Kp H H2 := Kp.of_same (s1.trans s2)
      have tb2 := tb1.same s2
      refine ⟨_, rfl, rfl, _, rfl, ?_⟩
      refine ite2 (fun e => ?_) (fun e => ?_)
      · have ez : z = "joined" := V.str.inj (of_decide_eq_true e)
        subst ez
        exact ⟨_, rfl, rfl, qt _ _ H2 k12 tb2 (outAB_joined ⟨fun z => absurd z Bool.false_ne_true, fun z => absurd z nr⟩) (.bl false)⟩
      · have nj : z ≠ "joined" := fun z => e (decide_eq_true (congrArg V.str z))
        refine ⟨_, rfl, rfl, _, rfl, iteT ?_⟩
        exact iteT (qno 4 H2 k12 tb2 ((outAB_way fok.tree nj).2 nr))
    · have k12 : Kp H H2 := Kp.of_same (s1.trans s2)
      have tb2 := tb1.same s2
      refine ⟨_, rfl, rfl, _, rfl, ?_⟩
      refine ite2 (fun e => ?_) (fun e => ?_)
      · have ez : z = "joined" := V.str.inj (of_decide_eq_true e)
        subst ez
        exact ⟨_, rfl, rfl, qt _ _ H2 k12 tb2 (outAB_joined ⟨fun _ => w1.wk.rch, fun _ => rfl⟩) (.bl true)⟩
      · have nj : z ≠ "joined" := fun z => e (decide_eq_true (congrArg V.str z))
        have eo := (outAB_way (pts := pts) (rest := rest) fok.tree nj).1 l1 w1
        refine ⟨_, rfl, rfl, _, rfl, iteF ?_⟩
        refine ⟨_, rfl, rfl, _, rfl, ?_⟩
        refine ite2 (fun e => absurd (of_decide_eq_true e) nm) (fun _ => ?_)
        refine iteF ?_
        refine ⟨_, rfl, rfl, _, rfl, ?_⟩
        refine ite2 (fun e => absurd (of_decide_eq_true e) nm) (fun _ => ?_)
        refine ⟨_, rfl, _, rfl, _, rfl, f, r, t1, z, a, b, rest, l1, pts, ts, rfl, tb2, hf1.mono (Tups.of_same s2), s2 _ _ hr1, nj, okr, h1, way_in fok w1.wk a0 a1, by omega, w1.wk.ne_nil, fun v H3 k3 tb3 n tv => ?_, fun H3 k3 tb3 n => ?_⟩
        · exact qt v _ H3 (k12.trans k3) tb3 (eo.trans (@if_neg _ (Classical.propDecidable _) n _ _ _)) tv
        · exact qno 5 H3 (k12.trans k3) tb3 (eo.trans (@if_pos _ (Classical.propDecidable _) n _ _ _))
end

end My
namespace My
open PySem L2
section
variable {P : Program} {w : World} {K : PySem.W.Frag} {mg : Str → Option Value} {base : Heap}
theorem ok_due17 (T : Top w K mg) (TBO : LamX.TabB base mg T.cO T.PO) : FnOk P w K mg base CX0 5 T.a_Ldue T.d_Ldue ["_law_forest_here", "_law_row_here"] (spDueT T waysW outW) := by
  have G_Lask : FnOk P w K mg base CX0 4 _ _ _ _ := ok_askl T TBO
  refine T.F_Ldue.ok sc_Ldue (fun vs H Q E h => ?_) (fun cdv A outer s H vs Q E hr h => ?_)
  · obtain ⟨f, r, z, sl, ps, pts, ts, rfl, _⟩ := h
    rfl
  · obtain ⟨f, r, z, sl, ps, pts, ts, rfl, tb, hf, fok, hrow, hz, q⟩ := h
    obtain ⟨fa, pa, ta, xs, ys, rfl, f1, f2, f3, f4, f5⟩ := Td.parts hf
    have lxs : xs.length = pts.length := by
      rw [f3.length, List.length_map]
    obtain ⟨tab, hget⟩ := due_tab hrow.lk
    have hspots := due_spots tab hrow.fit
    have hr0 := hrow.at_
    have hlen := hrow.len
    refine ⟨_, (pss_cons (ps_setLc (i := 2) (own := [("_law_one", 3)]) (g := gName 3) (by rfl) sc_Ldue.nd rfl rfl (sw_true rfl rfl rfl (by decide +kernel)) (pi_tup (pe_slice sl_tup (pv 1) (po_some pe_int) po_none)) (blkOk_by (own := [("_law_one", 3)]) (N := ["_law_forest_here", "_law_row_here", "_law_spots", "_law_one", "_law_p"]) (sc := defScope s_Ldue) (by decide +kernel)) (fun _ _ _ _ _ => (pg_name (i := 3) sc_Ldue.nd rfl (.inl rfl))) (fun _ _ _ _ _ => (pts_one (pt_val (pe_callB (call_isiK (K := K) rfl) (by rfl) T.m_isinstance (by decide +kernel) (pa_cons (pv 3) (pa_cons (pe_bltn (v := .ty "int") (by rfl) T.m_int (by decide +kernel) rfl) pa_nil)))))) (fun _ _ _ _ _ => (pv 3)))
      (pss_cons (ps_set (i := 2) sc_Ldue.nd rfl (.inl rfl) (pe_slice sl_list (pv 2) po_none (po_some (pe_dget2 (u1 hr) (pe_disp (pps_cons pe_str pe_int (pps_cons pe_str pe_int (pps_cons pe_str pe_int (pps_cons pe_str pe_int (pps_cons pe_str pe_int (pps_cons pe_str pe_int pps_nil)))))) (by rfl) (by rfl) (fun z => by cases z) (by decide)) (pe_ix ix_tup (pv 1) pe_int (fun _ _ => rfl)) pe_int ⟨by rfl, by rfl, by rfl, by rfl⟩))))
      (pss_cons (ps_mid (ps_if (PW.pt (pw_and (pt_cmpR op_eq (pe_ix ix_tup (pv 1) pe_int (fun _ _ => rfl)) pe_str (nomark _)) (pw_and1 (pt_cmpR op_isN (pe_ix ix_tup (pv 1) pe_int (fun _ _ => rfl)) pe_non (nomark _))))) (pss_one (ps_set (i := 2) sc_Ldue.nd rfl (.inl rfl) (pe_slice sl_list (pv 2) po_none (po_some pe_int)))) pss_nil))
      (pss_cons (ps_if (pt_not (pt_val (pe_callB (cr_all rfl) (by rfl) T.m_all (by decide +kernel) (pa_cons (pe_lc (own := [("_law_p", 4)]) (g := gName 4) (tt := tYes) (by rfl) sc_Ldue.nd (pi_list (pv 2)) (blkOk_by (own := [("_law_p", 4)]) (N := ["_law_forest_here", "_law_row_here", "_law_spots", "_law_one", "_law_p"]) (sc := defScope s_Ldue) (by decide +kernel)) (fun _ _ _ _ _ => (pg_name (i := 4) sc_Ldue.nd rfl (.inl rfl))) (fun _ _ _ _ _ => pts_nil) (fun _ _ _ _ _ => (pe_chain op_le op_lt pe_int (pv 4) (pe_callB (call_len_seqK (K := K) rfl) (by rfl) T.m_len PySem.boot_len (pa_cons (pe_ix (ix_tupK (K := K) rfl) (pv 0) pe_int (fun _ _ => rfl)) pa_nil))))) pa_nil)))) (pss_one (ps_ret (pe_tup (pa_cons (pv 0) (pa_cons pe_str pa_nil))))) pss_nil)
      (pss_cons (ps_if (pt_cmpR op_in_seq (pe_ix ix_tup (pv 1) pe_int (fun _ _ => rfl)) (pe_tup (pa_cons pe_str (pa_cons pe_str (pa_cons pe_str (pa_cons pe_str (pa_cons pe_str (pa_cons pe_str (pa_cons pe_str pa_nil)))))))) (by rfl)) (pss_one ps_never) pss_nil)
      (pss_one (ps_ret (pe_tup (pa_cons (pv 0) (pa_cons (pe_call G_Lask hr (by rfl) T.g_Lask T.F_Lask.kp T.b_Lask .nil pass0 (pa_cons (pv 0) (pa_cons (pv 1) pa_nil))) pa_nil)))))))))), ?_⟩
    refine ⟨_, rfl, 1, rfl, r, _, rfl, SqT.of hr0, ?_, fun pp np => ?_⟩
    · rintro ⟨z1, _⟩
      have e1 : HT.sIx (V.str z :: ps).length 0 (some 1) = 1 := by
        rw [show (1 : Int) = ((1 : Nat) : Int) from rfl, HT.sIx_nat, List.length_cons]
        omega
      rw [e1] at z1
      exact nomatch z1
    · have ec : cutV (V.str z :: ps) (some 1) none = ps := cut_tail _ _
      have s1 : Same H (upd H pp (.tup (cutV (V.str z :: ps) (some 1) none))) := same_new np
      rw [ec] at s1 ⊢
      have hp1 : upd H pp (.tup ps) pp = some (.tup ps) := upd_same
      generalize upd H pp (.tup ps) = H1 at s1 hp1 ⊢
      refine ⟨pp, rfl, ⟨_, SqT.of hp1⟩, fun D nD => ?_⟩
      refine lc_tup (xs := ps) (fun i H' => Same H1 H' ∧ H' D = some (.lst ((ps.take i).filter isIntV))) ⟨same_new nD, upd_same⟩ (fun i H' hi hq => SqT.of (hq.1 _ _ hp1)) (fun i x H' hx hq => ?_) (fun H' hq => ?_)
      · obtain ⟨s2, hD⟩ := hq
        have ax : AnyV H' x := fits_any hrow.fit x (List.mem_of_getElem? hx)
        obtain ⟨t, ty, kt⟩ := int_ok (K := K) ax
        have tn := filter_turn isIntV hx
        refine ⟨rfl, _, rfl, _, _, _, _, _, rfl, ClsV.ty _, ty, kt, _, rfl, ?_⟩
        show if isIntV x = true then _ else _
        cases hb : isIntV x with
        | true =>
          refine iteT ⟨_, rfl, _, hD, ?_, ?_, ?_⟩
          · have h1 := List.length_filter_le isIntV (ps.take i)
            rw [List.length_take] at h1
            exact szl (by omega)
          · intro b o e
            rw [upd_ne (ne_of_none e nD)]
            exact s2 _ _ e
          · rw [upd_same, tn, hb, if_pos rfl]
        | false =>
          refine iteF ⟨s2, ?_⟩
          rw [tn, hb, if_neg Bool.false_ne_true, List.append_nil]
          exact hD
      · obtain ⟨s2, hD⟩ := hq
        rw [List.take_of_length_le (Nat.le_refl _)] at hD
        have s12 := s1.trans s2
        refine ⟨_, rfl, fun d nd => ⟨upd_same, dueK, rfl, by decide, ?_⟩⟩
        rw [upd_upd]
        have sd : Same H' (upd H' d (.dK (mergeK [] dueK))) := same_new nd
        have hd1 : upd H' d (.dK (mergeK [] dueK)) d = some (.dK (mergeK [] dueK)) := upd_same
        generalize upd H' d (.dK (mergeK [] dueK)) = H2 at sd hd1 ⊢
        have s13 := s12.trans sd
        refine ⟨d, rfl, .inl ⟨_, .inl hd1⟩, _, rfl, r, _, _, _, rfl, rfl, SqT.of (s13 _ _ hr0), atI_nat (j := 0) rfl, _, DGet.k (k := Sum.inr z) hd1, ?_⟩
        rw [hget]
        refine ⟨_, rfl, D, _, rfl, SqL.of (sd _ _ hD), fun L1 nL1 => ?_⟩
        have e1 : cutV (ps.filter isIntV) none (some (dueN z : Int)) = (ps.filter isIntV).take (dueN z) := cut_nat (α := Nat) _ _
        rw [e1]
        have sL1 : Same H2 (upd H2 L1 (.lst ((ps.filter isIntV).take (dueN z)))) := same_new nL1
        have hL1 : upd H2 L1 (.lst ((ps.filter isIntV).take (dueN z))) L1 = some (.lst ((ps.filter isIntV).take (dueN z))) := upd_same
        generalize upd H2 L1 (.lst ((ps.filter isIntV).take (dueN z))) = H3 at sL1 hL1 ⊢
        have s14 := s13.trans sL1
        have hr3 := s14 _ _ hr0
        refine ⟨fun σ' H4 => ∃ S : Addr, σ' = [some (.ref fa), some (.ref r), some (.ref S), none, none] ∧ Same H H4 ∧ H4 S = some (.lst (namedV sl ps)), ?_, ?_⟩
        · refine ⟨_, rfl, r, _, _, _, rfl, rfl, SqT.of hr3, atI_nat (j := 0) rfl, rfl, _, rfl, ite2 (fun e => ?_) (fun e => ?_)⟩
          · have ez : z = "spread" := V.str.inj (of_decide_eq_true e)
            rw [decide_eq_true ez] at tab hspots
            obtain ⟨x, y, k, eps⟩ := spread_two tab hrow.fit
            have hr3' : H3 r = some (.tup [.str z, x, y, k]) := by rw [hr3, eps]
            refine ⟨_, rfl, r, _, _, _, rfl, rfl, SqT.of hr3', atI_nat (j := 2) rfl, rfl, _, rfl, ite2 (fun e2 => ?_) (fun e2 => ?_)⟩
            · have ey : y = .non := of_decide_eq_true e2
              have e3 : spotsN (dueN z) true ps = ((ps.filter isIntV).take (dueN z)).take 1 := by
                unfold spotsN
                rw [eps, ey]
                exact if_pos rfl
              rw [e3] at hspots
              refine ⟨_, rfl, 1, rfl, L1, _, rfl, SqL.of hL1, fun S nS => ?_⟩
              have e4 : cutV ((ps.filter isIntV).take (dueN z)) none (some 1) = ((ps.filter isIntV).take (dueN z)).take 1 := cut_nat (α := Nat) _ 1
              rw [e4, hspots]
              exact ⟨S, rfl, s14.trans (same_new nS), upd_same⟩
            · have ny : ¬ y = .non := fun z => e2 (decide_eq_true z)
              have e3 : spotsN (dueN z) true ps = (ps.filter isIntV).take (dueN z) := by
                unfold spotsN
                rw [eps]
                refine if_neg ?_
                rw [Bool.true_and, decide_eq_true_eq]
                exact fun z => ny (Option.some.inj z)
              rw [e3] at hspots
              rw [hspots] at hL1
              exact ⟨L1, rfl, s14, hL1⟩
          · have ez : ¬ z = "spread" := fun y => e (decide_eq_true (congrArg V.str y))
            rw [decide_eq_false ez] at hspots
            have e3 : spotsN (dueN z) false ps = (ps.filter isIntV).take (dueN z) := by
              unfold spotsN
              rw [Bool.false_and]
              exact if_neg Bool.false_ne_true
            rw [e3] at hspots
            rw [hspots] at hL1
            refine iteF ?_
            exact ⟨L1, rfl, s14, hL1⟩
        · rintro σ' H4 ⟨S, rfl, s4, hS⟩
          refine ⟨_, rfl, S, rfl, ⟨_, SqL.of hS⟩, fun D2 nD2 => ?_⟩
          refine lc_list (xs := namedV sl ps) (fun i H5 => Same H4 H5 ∧ H5 D2 = some (.lst ((((namedV sl ps).take i).map (inR pts.length)).map V.bl))) ⟨same_new nD2, upd_same⟩ (fun i H5 hi hq => SqL.of (hq.1 _ _ hS)) (fun i x H5 hx hq => ?_) (fun H5 hq => ?_)
          · obtain ⟨s5, hD2⟩ := hq
            obtain ⟨j, rfl⟩ := named_int hrow.fit x (List.mem_of_getElem? hx)
            have s45 := s4.trans s5
            have nx : ∀ (b : Bool), b = inR pts.length (.int j) → ∃ acc, H5 D2 = some (.lst acc) ∧ acc.length < sizeLine ∧ Same H4 (upd H5 D2 (.lst (acc ++ [.bl b]))) ∧ upd H5 D2 (.lst (acc ++ [.bl b])) D2 = some (.lst ((((namedV sl ps).take (i + 1)).map (inR pts.length)).map V.bl)) := fun b hb => by
              refine ⟨_, hD2, ?_, ?_, ?_⟩
              · have h1 := List.length_filter_le notN (pick1 sl ps)
                have h2 := pick1_length sl ps
                have h3 : (namedV sl ps).length ≤ 3 := by
                  show ((pick1 sl ps).filter notN).length ≤ 3
                  omega
                rw [List.length_map, List.length_map, List.length_take]
                exact szl (by omega)
              · intro c o e
                rw [upd_ne (ne_of_none e nD2)]
                exact s5 _ _ e
              · rw [upd_same, take_at hx, List.map_append, List.map_append, hb]
                rfl
            refine ⟨rfl, yes_ite ?_⟩
            refine ⟨_, rfl, _, _, rfl, rfl, _, rfl, ?_⟩
            refine ite2 (fun e0 => ?_) (fun e0 => ?_)
            · refine ⟨_, rfl, fa, _, _, _, rfl, rfl, sqs f1 s45, atI_nat (j := 0) rfl, pa, _, rfl, .inr (sqs f2 s45), _, _, rfl, rfl, ?_⟩
              refine nx _ ?_
              show decide (j < (xs.length : Int)) = (decide (0 ≤ j) && decide (j < (pts.length : Int)))
              rw [lxs, e0, Bool.true_and]
            · refine nx _ ?_
              show false = (decide (0 ≤ j) && decide (j < (pts.length : Int)))
              rw [Bool.eq_false_iff.mpr e0, Bool.false_and]
          · obtain ⟨s5, hD2⟩ := hq
            rw [List.take_of_length_le (Nat.le_refl _)] at hD2
            have s45 := s4.trans s5
            refine ⟨D2, _, rfl, SqL.of hD2, _, rfl, ?_⟩
            have eall : ((namedV sl ps).map (inR pts.length)).all id = allIn pts.length (namedV sl ps) := by
              unfold allIn
              rw [List.all_map]
              rfl
            rw [eall]
            have en : namedV ((forms.lookup z).getD []) ps = namedV sl ps := by
              rw [hrow.lk]
              rfl
            obtain ⟨a, b, rest, rfl, okr, enm⟩ := way_row hz hrow.lk hrow.fit
            cases hin : allIn pts.length (namedV sl (.int a :: .int b :: rest)) with
            | false =>
              have eo : outW pts ts z (.int a :: .int b :: rest) = .no 1 := by
                unfold outW
                rw [en, hin, if_neg Bool.false_ne_true]
              rw [eo] at q
              refine iteT ?_
              refine ⟨_, rfl, (by show 2 ≤ sizeLine; decide), fun t nt => ?_⟩
              have st := same_new (o := .tup [.ref fa, .str "NoPoint"]) nt
              exact q t _ (Kp.of_same (s45.trans st)) (tb.same (s45.trans st)) (.tup (SqT.of upd_same) (.cons (hf.mono (Tups.of_same (s45.trans st))) (.cons (.str "NoPoint") .nil)))
            | true =>
              have hin' : allIn pts.length (namedV ((forms.lookup z).getD []) (.int a :: .int b :: rest)) = true := by rw [en]; exact hin
              have eo : outW pts ts z (.int a :: .int b :: rest) = outAB pts ts z a b rest := by
                unfold outW
                rw [hin', if_pos rfl]
              rw [eo] at q
              rw [enm] at hin'
              obtain ⟨a0, a1, b0, b1⟩ := in2 hin'
              refine iteF ?_
              refine ⟨_, rfl, r, _, _, _, rfl, rfl, SqT.of (s45 _ _ hr0), atI_nat (j := 0) rfl, (by show 7 ≤ sizeLine; decide), fun t7 n7 => ?_⟩
              have s7 := same_new (o := .tup [.str "new", .str "put", .str "paint", .str "tie", .str "cut", .str "add", .str "spread"]) n7
              refine ⟨t7, _, rfl, .inr (SqT.of upd_same), rfl, by decide, false, ?_, iteF ?_⟩
              · rcases ways8 hz with rfl | rfl | rfl | rfl | rfl | rfl | rfl | rfl <;> decide +kernel
              have s47 := s45.trans s7
              refine ⟨_, rfl, _, rfl, _, rfl, .ref fa, r, z, a, b, rest, pts, ts, rfl, tb.same s47, ⟨hf.mono (Tups.of_same s47), fok, s47 _ _ hr0, a0, a1, b0, b1⟩, hz, okr, fun v d H8 k8 tb8 e8 tv => ?_, fun j H8 k8 tb8 e8 => ?_⟩
              · rw [e8] at q
                refine ⟨(by show 2 ≤ sizeLine; decide), fun t nt => ?_⟩
                have st := same_new (o := .tup [.ref fa, v]) nt
                have all : Kp H _ := ((Kp.of_same s47).trans k8).same st
                exact q t _ all (tb8.same st) (.tup (SqT.of upd_same) (.cons (hf.mono (Tups.of_kp all)) (.cons (tv.mono (Tups.of_same st)) .nil)))
              · rw [e8] at q
                refine ⟨(by show 2 ≤ sizeLine; decide), fun t nt => ?_⟩
                have st := same_new (o := .tup [.ref fa, .str (wds.getD j "")]) nt
                have all : Kp H _ := ((Kp.of_same s47).trans k8).same st
                exact q t _ all (tb8.same st) (.tup (SqT.of upd_same) (.cons (hf.mono (Tups.of_kp all)) (.cons (.str _) .nil)))
end

end My
namespace My
open PySem L2
def wsHere : List Str := ["joined", "way", "total", "many", "most", "first", "reach", "kth"]
abbrev wsV : List V := [.str "joined", .str "way", .str "total", .str "many", .str "most", .str "first", .str "reach", .str "kth"]
theorem wsSmall : 8 ≤ sizeLine := by decide
/-! ### the law -/
theorem RowV.at_ {H : Hp} {r : Addr} {z : Str} {us : List V} (h : RowV z us) (e : H r = some (.tup us)) : ∃ sl ps, RowAt H r z sl ps := by
  obtain ⟨sl, ps, rfl, hfm, hfa⟩ := h
  obtain ⟨hpl, hfit, _⟩ := fit_any (H := H) hfa
  obtain ⟨hlk, _⟩ := forms_at hfm
  have hl3 := forms_len hlk
  exact ⟨sl, ps, e, hlk, hfit, by omega⟩
theorem sql_but {K : PySem.W.Frag} {H H' : Hp} {a b : Addr} {xs : List V} (nb : H b = none) (k : But b H H') (h : SqL K H a xs) : SqL K H' a xs := by
  rcases h with (h | ⟨o, h⟩) | h
  · exact .inl (.inl (k _ _ h (ne_of_none h nb)))
  · exact .inl (.inr ⟨o, k _ _ h (ne_of_none h nb)⟩)
  · exact .inr h
section
variable {P : Program} {w : World} {K : PySem.W.Frag} {mg : Str → Option Value} {base : Heap}
theorem run_lawF (T : Top w K mg) {ws : List Str} {F : Fo} {kd : Nat} (hF : FGood ws F) (hws : ws = wsHere) (hev : ∀ z ∈ ws, z ∈ evs) {s : Shared} {H : Hp} {a : Addr} {ns : List Int} (TBL : LamX.TabB base mg T.cL T.PL) (G_Ldue : FnOk P w K mg base CX0 kd T.a_Ldue T.d_Ldue ["_law_forest_here", "_law_row_here"] (spDueT T ws F)) (G_plaindo : FnOk P w K mg base (L2.CX P w) 6 T.a_plaindo T.d_plaindo ["forest", "row"] (spPlain T ws F)) (hkd : kd ≤ 5)
    (e0 : Env0 P w K mg base callerA [] s H) (two0 : Tb T.tbs H) (hS : SqL K H a (ns.map V.int)) (hlen : ns.length ≤ 63) (room : Room 10 callerA) (bind : ∀ (s : Shared) (u : Value), BindsTo s T.d_law ⟨[u], []⟩ [("_law_script", u)]) :
    codeAny (model P w) callerA (.call (.ref T.a_law) ⟨[.ref a], []⟩) (CR CX0 [] P w H s (fun v _ => v = .bl true) E0) s := by
  have G_Lbox : FnOk P w K mg base CX0 2 _ _ _ _ := ok_box T
  have G_Lrow : FnOk P w K mg base CX0 4 _ _ _ _ := ok_row T
  have G_Lforest : FnOk P w K mg base CX0 4 _ _ _ _ := ok_forest T
  have G_Laskedright : FnOkG P w K mg base 9 _ _ _ _ := ok_asked T hF TBL G_Ldue G_plaindo hkd
  obtain ⟨oc, od, kV, doc, pm, an, cdv, ct, osl, ed, lk, hcd⟩ := T.F_law.ex
  rw [ed] at lk
  refine LamX.run_ofS (k := 9) (N := ["_law_script", "_law_box_here", "_law_words", "_law_forest_here", "_law_turn", "_law_row_here"]) (ps := ["_law_script"]) (us := [.ref a]) (vs := [.ref a]) lk hcd sc_law room e0 (by rw [← ed]; exact bind s _) (.cons rfl .nil) rfl fun hr => ?_
  refine ⟨_, PSs.nox (pss_cons (ps_set (i := 1) sc_law.nd rfl (.inl rfl) (pe_call G_Lbox (hr.mono (by decide)) (by rfl) T.g_Lbox T.F_Lbox.kp T.b_Lbox .nil pass0 (pa_cons (pv 0) pa_nil)))
      (pss_cons (ps_set (i := 2) sc_law.nd rfl (.inl rfl) (pe_lst (pa_cons pe_str (pa_cons pe_str (pa_cons pe_str (pa_cons pe_str (pa_cons pe_str (pa_cons pe_str (pa_cons pe_str (pa_cons pe_str pa_nil))))))))))
      (pss_cons (ps_set (i := 3) sc_law.nd rfl (.inl rfl) (pe_call G_Lforest (hr.mono (by decide)) (by rfl) T.g_Lforest T.F_Lforest.kp T.b_Lforest .nil pass0 (pa_cons (pv 1) (pa_cons pe_int (pa_cons pe_int pa_nil)))))
      (pss_cons (ps_for PassesOwn.never rfl (pi_range1 (by rfl) T.m_range (pa_cons (pe_callB (call_max2 rfl) (by rfl) T.m_max (by decide +kernel) (pa_cons pe_int (pa_cons (pe_callB (call_min2 rfl) (by rfl) T.m_min (by decide +kernel) (pa_cons pe_int (pa_cons (pe_op op_fdivW (pe_callB call_len_seq (by rfl) T.m_len PySem.boot_len (pa_cons (pv 0) pa_nil)) pe_int) pa_nil))) pa_nil))) pa_nil)) (pg_name (i := 4) sc_law.nd rfl (.inl rfl)) (pss_cons (ps_mid (ps_if (pt_cmpR op_eq (pe_op op_mod (pv 4) pe_int) pe_int (nomark _)) (pss_one (ps_set (i := 3) sc_law.nd rfl (.inl rfl) (pe_call G_Lforest (hr.mono (by decide)) (by rfl) T.g_Lforest T.F_Lforest.kp T.b_Lforest .nil pass0 (pa_cons (pv 1) (pa_cons pe_int (pa_cons pe_int pa_nil)))))) pss_nil))
      (pss_cons (ps_set (i := 5) sc_law.nd rfl (.inl rfl) (pe_call G_Lrow (hr.mono (by decide)) (by rfl) T.g_Lrow T.F_Lrow.kp T.b_Lrow .nil pass0 (pa_cons (pv 1) (pa_cons (pv 3) (pa_cons (pv 2) pa_nil)))))
      (pss_one (ps_if (pt_not (pt_val (pe_callG G_Laskedright hr (by rfl) T.g_Laskedright T.F_Laskedright.kp T.b_Laskedright rfl (pa_cons (pv 3) (pa_cons (pv 5) pa_nil))))) (pss_one (ps_ret pe_bl)) pss_nil)))))
      (pss_one (ps_ret pe_bl)))))), ?_⟩
  refine ⟨_, rfl, a, ns, rfl, hS, hlen, fun b L H1 s1 nb B1 => ?_⟩
  refine ⟨wsSmall, fun wl nwl => ?_⟩
  have s2 : Same H1 (upd H1 wl (.lst (ws.map V.str))) := same_new nwl
  have hwl : upd H1 wl (.lst (ws.map V.str)) wl = some (.lst (ws.map V.str)) := upd_same
  rw [hws] at s2 hwl
  have e1 : upd H1 wl (.lst (wsHere.map V.str)) = upd H1 wl (.lst wsV) := rfl
  rw [e1] at s2 hwl
  generalize upd H1 wl (.lst wsV) = H2 at s2 hwl ⊢
  have B2 := B1.same s2
  have wlb : wl ≠ b := B1.ne nwl
  refine ⟨_, rfl, b, L, 6, 23, rfl, B2, by decide, by decide, by decide, by decide, fun f pts ts H3 fok hle B3 k3 F3 => ?_⟩
  have two3 := (two0.same (s1.trans s2)).but B2 k3
  refine ⟨_, rfl, a, _, rfl, .inl (sql_but nb ((But.of_same (s1.trans s2)).trans k3) hS), _, _, rfl, rfl, wide_ok (by decide) (by decide), _, _, rfl, _, _, rfl, _, rfl, ?_, ?_, for_range (lo := 0) (n := _) (fun i σ H4 => ∃ (f : Addr) (pts : List (Int × Str)) (ts : List (Int × Int)) (y4 y5 : Option V), σ = [some (.ref a), some (.ref b), some (.ref wl), some (.ref f), y4, y5] ∧ BoxAt H4 b L ∧ H4 wl = some (.lst (wsHere.map V.str)) ∧ FrOk pts ts ∧ Td K H4 (.ref f) (fdata pts ts) ∧ Tb T.tbs H4) ⟨f, pts, ts, none, none, rfl, B3, k3 _ _ hwl wlb, fok, F3, two3⟩ ?_ ?_⟩
  · rw [List.length_map]
    split <;> omega
  · rw [List.length_map]
    split
    · split <;> omega
    · omega
  · rintro i σ H4 hi ⟨f, pts, ts, y4, y5, rfl, B4, hwl4, fok, F4, two4⟩
    refine ⟨fun σ' H5 => ∃ (f : Addr) (pts : List (Int × Str)) (ts : List (Int × Int)), σ' = [some (.ref a), some (.ref b), some (.ref wl), some (.ref f), some (.int (0 + (i : Int))), y5] ∧ BoxAt H5 b L ∧ H5 wl = some (.lst (wsHere.map V.str)) ∧ FrOk pts ts ∧ Td K H5 (.ref f) (fdata pts ts) ∧ Tb T.tbs H5, ?_, ?_⟩
    · refine ⟨_, rfl, _, _, rfl, rfl, (by show (0 : Int) < 5; decide), rfl, _, rfl, ite2 (fun _ => ?_) (fun _ => ?_)⟩
      · refine ⟨_, rfl, b, L, 6, 23, rfl, B4, by decide, by decide, by decide, by decide, fun f' pts' ts' H5 fok' _ B5 k5 F5 => ?_⟩
        exact ⟨f', pts', ts', rfl, B5, k5 _ _ hwl4 wlb, fok', F5, two4.but B4 k5⟩
      · exact ⟨f, pts, ts, rfl, B4, hwl4, fok, F4, two4⟩
    · rintro σ' H5 ⟨f, pts, ts, rfl, B5, hwl5, fok, F5, two5⟩
      refine ⟨_, rfl, _, rfl, _, rfl, b, L, wl, .ref f, wsHere, pts, ts, rfl, B5, F5, fok, hwl5, wlb, by decide, by decide, fun z hz => hev z (by rw [hws]; exact hz), fun r wd us H6 hwd hrow B6 k6 nr hr6 => ?_⟩
      have two6 := two5.but B5 k6
      have F6 := F5.mono (B5.tups k6)
      obtain ⟨sl, ps, hra⟩ := hrow.at_ hr6
      refine ⟨_, rfl, _, rfl, .ref f, r, wd, sl, ps, pts, ts, rfl, F6, fok, hra, by rw [hws]; exact hwd, two6, fun H7 kp7 two7 => ⟨true, rfl, iteF ?_⟩⟩
      exact ⟨f, pts, ts, _, _, rfl, B6.kp kp7, kp7 _ _ (k6 _ _ hwl5 wlb) (by intro ps z; cases z), fok, F6.mono (Tups.of_kp kp7), two7⟩
  · rintro σ G0 _
    exact rfl
end

end My
namespace My
open PySem L2
theorem small_int (i : Int) : smallB (.int i) = true := by simp [smallB]
theorem small_none : smallB .none = true := by simp [smallB]
theorem small_pts (pts : List (Int × Str)) (h : pts.length ≤ 1000) : smallB (.tuple (pts.map pdata)) = true := by
  rw [smallB, List.length_map, decide_eq_true h, small_of fun x hx => ?_]
  · rfl
  · obtain ⟨p, _, rfl⟩ := List.mem_map.mp hx
    simp [pdata, smallB, smallAll]
theorem small_ts (ts : List (Int × Int)) (h : ts.length ≤ 1000) : smallB (.tuple (ts.map tdata)) = true := by
  rw [smallB, List.length_map, decide_eq_true h, small_of fun x hx => ?_]
  · rfl
  · obtain ⟨p, _, rfl⟩ := List.mem_map.mp hx
    simp [tdata, smallB, smallAll]
theorem small_out {p : List (Int × Str)} {t : List (Int × Int)} {d : PyData} (h1 : p.length ≤ 1000) (h2 : t.length ≤ 1000) (h3 : smallB d = true) : smallB (out2 p t d) = true := by
  have e : smallB (fdata p t) = true := by
    unfold fdata
    rw [smallB, smallAll, smallAll, smallAll, small_pts p h1, small_ts t h2]
    rfl
  unfold out2
  rw [smallB, smallAll, smallAll, smallAll, e, h3]
  rfl
theorem dep_forest (p : List (Int × Str)) (t : List (Int × Int)) : (fdata p t).depth ≤ 3 := by
  have d1 : PyData.depthAll (p.map pdata) ≤ 1 := depAll fun x hx => by
    obtain ⟨p, hp, rfl⟩ := List.mem_map.mp hx
    exact Nat.le_refl _
  have d2 : PyData.depthAll (t.map tdata) ≤ 1 := depAll fun x hx => by
    obtain ⟨t, ht, rfl⟩ := List.mem_map.mp hx
    exact Nat.le_refl _
  show PyData.depthAll [.tuple (p.map pdata), .tuple (t.map tdata)] + 1 ≤ 3
  have d3 : PyData.depthAll [.tuple (p.map pdata), .tuple (t.map tdata)] ≤ 2 := depAll (two_all (fun x => PyData.depth x ≤ 2) (show PyData.depth (.tuple (p.map pdata)) ≤ 2 from (show PyData.depthAll (p.map pdata) + 1 ≤ 2 by omega)) (show PyData.depth (.tuple (t.map tdata)) ≤ 2 from (show PyData.depthAll (t.map tdata) + 1 ≤ 2 by omega)))
  omega
theorem dep_out {p : List (Int × Str)} {t : List (Int × Int)} {d : PyData} (h : d.depth ≤ 4) : (out2 p t d).depth ≤ 6 := by
  show PyData.depthAll [fdata p t, d] + 1 ≤ 6
  have d3 : PyData.depthAll [fdata p t, d] ≤ 4 := depAll (two_all (fun x => PyData.depth x ≤ 4) (Nat.le_trans (dep_forest p t) (by decide)) h)
  omega

theorem small_ints (l : List Int) (h : l.length ≤ 1000) : smallB (.tuple (l.map .int)) = true := by
  rw [smallB, List.length_map, decide_eq_true h, small_of fun x hx => ?_]
  · rfl
  · obtain ⟨p, _, rfl⟩ := List.mem_map.mp hx
    exact small_int p
theorem dep_ints (l : List Int) : (PyData.tuple (l.map .int)).depth ≤ 4 := by
  have d1 : PyData.depthAll (l.map PyData.int) ≤ 0 := depAll fun x hx => by
    obtain ⟨p, _, rfl⟩ := List.mem_map.mp hx
    exact Nat.le_refl _
  show PyData.depthAll (l.map PyData.int) + 1 ≤ 4
  omega
theorem dOpt_good (o : Option Int) : smallB (dOpt o) = true ∧ (dOpt o).depth ≤ 4 ∧ ∀ x, dOpt o ≠ .str x := by
  cases o with
  | none => exact ⟨small_none, Nat.zero_le _, by intro x z; cases z⟩
  | some i => exact ⟨small_int i, Nat.zero_le _, by intro x z; cases z⟩
theorem val_good {z : Str} {pts : List (Int × Str)} {l : List Int} {rest : List V} (hl : l.length ≤ 1000) : smallB (valW z pts l rest) = true ∧ (valW z pts l rest).depth ≤ 4 ∧ ∀ x, valW z pts l rest ≠ .str x := by
  unfold valW
  split
  · exact ⟨small_ints l hl, dep_ints l, by intro x z; cases z⟩
  split
  · exact ⟨small_int _, Nat.zero_le _, by intro x z; cases z⟩
  split
  · exact ⟨small_int _, Nat.zero_le _, by intro x z; cases z⟩
  split
  · refine ⟨?_, ?_, by intro x z; cases z⟩
    · show smallB (.tuple [.int _, .int _]) = true
      simp [smallB, smallAll]
    · exact dep_ints [(ptAt pts (bestOf pts l)).1, bestOf pts l]
  split
  · unfold vFirst
    split
    · exact dOpt_good _
    · exact ⟨small_none, Nat.zero_le _, by intro x z; cases z⟩
  split
  · unfold vReach
    split
    · exact dOpt_good _
    · exact ⟨small_none, Nat.zero_le _, by intro x z; cases z⟩
  · unfold vKth
    split
    · exact dOpt_good _
    · exact ⟨small_none, Nat.zero_le _, by intro x z; cases z⟩
theorem goodW : FGood waysW outW := by
  intro pts ts z sl ps fok lk fit hz
  have few := fok.few
  have tl := fok.tl
  obtain ⟨a, b, rest, rfl, okr, enm⟩ := way_row hz lk fit
  cases hin : allIn pts.length (namedV ((forms.lookup z).getD []) (.int a :: .int b :: rest)) with
  | false =>
    have e : outW pts ts z (.int a :: .int b :: rest) = .no 1 := by
      unfold outW
      rw [hin, if_neg Bool.false_ne_true]
    rw [e]
    refine ⟨fun p t d h => (nomatch h), fun j h => ?_⟩
    cases h
    decide
  | true =>
    have eo : outW pts ts z (.int a :: .int b :: rest) = outAB pts ts z a b rest := by
      unfold outW
      rw [hin, if_pos rfl]
    rw [eo]
    rw [enm] at hin
    obtain ⟨a0, a1, b0, b1⟩ := in2 hin
    by_cases ej : z = "joined"
    · subst ej
      have e := outAB_joined (pts := pts) (ts := ts) (a := a) (b := b) (rest := rest) (c := @decide (Rch ts a b) (Classical.propDecidable _)) (@decide_eq_true_iff _ (Classical.propDecidable _))
      rw [e]
      refine ⟨fun p t d h => ?_, fun j h => nomatch h⟩
      cases h
      exact ⟨small_out (by omega) (by omega) (by simp [smallB]), dep_out (Nat.zero_le _), by intro x z; cases z⟩
    · obtain ⟨o1, o2⟩ := outAB_way (pts := pts) (a := a) (b := b) (rest := rest) fok.tree ej
      by_cases r : Rch ts a b
      · obtain ⟨l, wy⟩ := rch_way r
        rw [o1 l wy]
        have hl : l.length ≤ pts.length := nodup_le wy.nd (way_in fok wy.wk a0 a1)
        have g := val_good (z := z) (pts := pts) (rest := rest) (l := l) (by omega)
        unfold outWay
        by_cases n : npW z l rest
        · rw [@if_pos _ (Classical.propDecidable _) n]
          refine ⟨fun p t d h => (nomatch h), fun j h => ?_⟩
          cases h
          decide
        · rw [@if_neg _ (Classical.propDecidable _) n]
          refine ⟨fun p t d h => ?_, fun j h => nomatch h⟩
          cases h
          exact ⟨small_out (by omega) (by omega) g.1, dep_out g.2.1, g.2.2⟩
      · rw [o2 r]
        refine ⟨fun p t d h => (nomatch h), fun j h => ?_⟩
        cases h
        decide
section
variable {P : Program} {w : World} {K : PySem.W.Frag} {mg : Str → Option Value} {base : Heap}
theorem run_law (T : Top w K mg) {s : Shared} {H : Hp} {a : Addr} {ns : List Int} (TBR : GxR.TabB base mg T.cR T.PR) (TBM : GxR.TabB base mg T.cM T.PM) (TBL : LamX.TabB base mg T.cL T.PL) (TBO : LamX.TabB base mg T.cO T.PO) (e0 : Env0 P w K mg base callerA [] s H) (hR : H T.PR = some (.tbl #[])) (hM : H T.PM = some (.tbl #[])) (hL : H T.PL = some (.tbl #[])) (hO : H T.PO = some (.tbl #[])) (hS : SqL K H a (ns.map V.int)) (hlen : ns.length ≤ 63) (room : Room 10 callerA) (bind : ∀ (s : Shared) (u : Value), BindsTo s T.d_law ⟨[u], []⟩ [("_law_script", u)]) :
    codeAny (model P w) callerA (.call (.ref T.a_law) ⟨[.ref a], []⟩) (CR CX0 [] P w H s (fun v _ => v = .bl true) E0) s :=
  run_lawF T goodW rfl (by decide) TBL (ok_due17 T TBO) (ok_plainW T ⟨TBR, TBM⟩) (by decide) e0 (tbs0 T hR hM hL hO) hS hlen room bind
end
theorem mem1 {α : Type} {p a : α} (h : p ∈ [a]) : p = a := List.mem_singleton.mp h
theorem mem2 {α : Type} {p a b : α} (h : p ∈ [a, b]) : p = a ∨ p = b := (List.mem_cons.mp h).imp id mem1
theorem mem3 {α : Type} {p a b c : α} (h : p ∈ [a, b, c]) : p = a ∨ p = b ∨ p = c := (List.mem_cons.mp h).imp id mem2
theorem mem4 {α : Type} {p a b c d : α} (h : p ∈ [a, b, c, d]) : p = a ∨ p = b ∨ p = c ∨ p = d := (List.mem_cons.mp h).imp id mem3

end My
namespace My
open PySem L2
theorem all_mk {l : PySem.W.OpenLaw} {w : World} {K : PySem.W.Frag} {h : Heap} {mg : Str → Option Value} {fa f0 f1 f2 f3 f4 f5 f6 f7 f8 f9 f10 f11 f12 f13 f14 f15 f16 f17 f18 f19 f20 f21 f22 f23 f24 f25 f26 f27 f28 f29 f30 f31 f32 f33 f34 f35 f36 f37 f38 f39 f40 f41 f42 f43 f44 : Addr} {fK fF fW fA : Addr} {esA : Array DictEntry} {nA : Nat} {esF : Array DictEntry} {nF : Nat} {cR PR : Addr} {eR : Value} {ddR : Option Addr} {vsR : Array Value} {sloR : Array (Option Value)} {cM PM : Addr} {eM : Value} {ddM : Option Addr} {vsM : Array Value} {sloM : Array (Option Value)} {cL PL : Addr} {eL : Value} {ddL : Option Addr} {vsL : Array Value} {sloL : Array (Option Value)} {cO PO : Addr} {eO : Value} {ddO : Option Addr} {vsO : Array Value} {sloO : Array (Option Value)} (X : K.In h) (G : h.Ns mainGlobals mg) (hfa : mg "law" = some (.ref fa))
    {od0 an0 od1 an1 od2 an2 od3 an3 od4 an4 od5 an5 od6 an6 od7 an7 od8 an8 od9 an9 od10 an10 od11 an11 od12 an12 od13 an13 od14 an14 od15 an15 od16 an16 od17 an17 od18 an18 od19 an19 od20 an20 od21 an21 od22 an22 od23 an23 od24 an24 od25 an25 od26 an26 od27 an27 od28 an28 od29 an29 od30 an30 od31 an31 od32 an32 od33 an33 od34 an34 od35 an35 od36 an36 od37 an37 od38 an38 od39 an39 od40 an40 od41 an41 od42 an42 od43 an43 od44 an44 : Option Addr} {sl0 sl1 sl2 sl3 sl4 sl5 sl6 sl7 sl8 sl9 sl10 sl11 sl12 sl13 sl14 sl15 sl16 sl17 sl18 sl19 sl20 sl21 sl22 sl23 sl24 sl25 sl26 sl27 sl28 sl29 sl30 sl31 sl32 sl33 sl34 sl35 sl36 sl37 sl38 sl39 sl40 sl41 sl42 sl43 sl44 : Array (Option Value)} {oc0 kV0 dc0 pm0 cd0 ct0 oc1 kV1 dc1 pm1 cd1 ct1 oc2 kV2 dc2 pm2 cd2 ct2 oc3 kV3 dc3 pm3 cd3 ct3 oc4 kV4 dc4 pm4 cd4 ct4 oc5 kV5 dc5 pm5 cd5 ct5 oc6 kV6 dc6 pm6 cd6 ct6 oc7 kV7 dc7 pm7 cd7 ct7 oc8 kV8 dc8 pm8 cd8 ct8 oc9 kV9 dc9 pm9 cd9 ct9 oc10 kV10 dc10 pm10 cd10 ct10 oc11 kV11 dc11 pm11 cd11 ct11 oc12 kV12 dc12 pm12 cd12 ct12 oc13 kV13 dc13 pm13 cd13 ct13 oc14 kV14 dc14 pm14 cd14 ct14 oc15 kV15 dc15 pm15 cd15 ct15 oc16 kV16 dc16 pm16 cd16 ct16 oc17 kV17 dc17 pm17 cd17 ct17 oc18 kV18 dc18 pm18 cd18 ct18 oc19 kV19 dc19 pm19 cd19 ct19 oc20 kV20 dc20 pm20 cd20 ct20 oc21 kV21 dc21 pm21 cd21 ct21 oc22 kV22 dc22 pm22 cd22 ct22 oc23 kV23 dc23 pm23 cd23 ct23 oc24 kV24 dc24 pm24 cd24 ct24 oc25 kV25 dc25 pm25 cd25 ct25 oc26 kV26 dc26 pm26 cd26 ct26 oc27 kV27 dc27 pm27 cd27 ct27 oc28 kV28 dc28 pm28 cd28 ct28 oc29 kV29 dc29 pm29 cd29 ct29 oc30 kV30 dc30 pm30 cd30 ct30 oc31 kV31 dc31 pm31 cd31 ct31 oc32 kV32 dc32 pm32 cd32 ct32 oc33 kV33 dc33 pm33 cd33 ct33 oc34 kV34 dc34 pm34 cd34 ct34 oc35 kV35 dc35 pm35 cd35 ct35 oc36 kV36 dc36 pm36 cd36 ct36 oc37 kV37 dc37 pm37 cd37 ct37 oc38 kV38 dc38 pm38 cd38 ct38 oc39 kV39 dc39 pm39 cd39 ct39 oc40 kV40 dc40 pm40 cd40 ct40 oc41 kV41 dc41 pm41 cd41 ct41 oc42 kV42 dc42 pm42 cd42 ct42 oc43 kV43 dc43 pm43 cd43 ct43 oc44 kV44 dc44 pm44 cd44 ct44 : Value}
    (a0 : PySem.W.nsIn K mainGlobals "is_whole" = some (some (.ref f0))) (l0 : K.lookup f0 = some ⟨oc0, od0, .func (PySem.W.fnOf "is_whole" "is_whole" (defArgs s_iswhole) (defBody s_iswhole) (defScope s_iswhole) .none kV0 dc0 pm0 an0 cd0 ct0), sl0⟩) (c0 : PySem.W.codeIn K cd0 "is_whole" = true) (k0 : PySem.W.keepIn K (.ref f0) = true)
    (a1 : PySem.W.nsIn K mainGlobals "is_kind" = some (some (.ref f1))) (l1 : K.lookup f1 = some ⟨oc1, od1, .func (PySem.W.fnOf "is_kind" "is_kind" (defArgs s_iskind) (defBody s_iskind) (defScope s_iskind) .none kV1 dc1 pm1 an1 cd1 ct1), sl1⟩) (c1 : PySem.W.codeIn K cd1 "is_kind" = true) (k1 : PySem.W.keepIn K (.ref f1) = true)
    (a2 : PySem.W.nsIn K mainGlobals "is_row" = some (some (.ref f2))) (l2 : K.lookup f2 = some ⟨oc2, od2, .func (PySem.W.fnOf "is_row" "is_row" (defArgs s_isrow) (defBody s_isrow) (defScope s_isrow) .none kV2 dc2 pm2 an2 cd2 ct2), sl2⟩) (c2 : PySem.W.codeIn K cd2 "is_row" = true) (k2 : PySem.W.keepIn K (.ref f2) = true)
    (a3 : PySem.W.nsIn K mainGlobals "fits" = some (some (.ref f3))) (l3 : K.lookup f3 = some ⟨oc3, od3, .func (PySem.W.fnOf "fits" "fits" (defArgs s_fits) (defBody s_fits) (defScope s_fits) .none kV3 dc3 pm3 an3 cd3 ct3), sl3⟩) (c3 : PySem.W.codeIn K cd3 "fits" = true) (k3 : PySem.W.keepIn K (.ref f3) = true)
    (a4 : PySem.W.nsIn K mainGlobals "is_deed" = some (some (.ref f4))) (l4 : K.lookup f4 = some ⟨oc4, od4, .func (PySem.W.fnOf "is_deed" "is_deed" (defArgs s_isdeed) (defBody s_isdeed) (defScope s_isdeed) .none kV4 dc4 pm4 an4 cd4 ct4), sl4⟩) (c4 : PySem.W.codeIn K cd4 "is_deed" = true) (k4 : PySem.W.keepIn K (.ref f4) = true)
    (a5 : PySem.W.nsIn K mainGlobals "points_named" = some (some (.ref f5))) (l5 : K.lookup f5 = some ⟨oc5, od5, .func (PySem.W.fnOf "points_named" "points_named" (defArgs s_pointsnamed) (defBody s_pointsnamed) (defScope s_pointsnamed) .none kV5 dc5 pm5 an5 cd5 ct5), sl5⟩) (c5 : PySem.W.codeIn K cd5 "points_named" = true) (k5 : PySem.W.keepIn K (.ref f5) = true)
    (a6 : PySem.W.nsIn K mainGlobals "refuse_unfit" = some (some (.ref f6))) (l6 : K.lookup f6 = some ⟨oc6, od6, .func (PySem.W.fnOf "refuse_unfit" "refuse_unfit" (defArgs s_refuseunfit) (defBody s_refuseunfit) (defScope s_refuseunfit) .none kV6 dc6 pm6 an6 cd6 ct6), sl6⟩) (c6 : PySem.W.codeIn K cd6 "refuse_unfit" = true) (k6 : PySem.W.keepIn K (.ref f6) = true)
    (a7 : PySem.W.nsIn K mainGlobals "refuse_missing" = some (some (.ref f7))) (l7 : K.lookup f7 = some ⟨oc7, od7, .func (PySem.W.fnOf "refuse_missing" "refuse_missing" (defArgs s_refusemissing) (defBody s_refusemissing) (defScope s_refusemissing) .none kV7 dc7 pm7 an7 cd7 ct7), sl7⟩) (c7 : PySem.W.codeIn K cd7 "refuse_missing" = true) (k7 : PySem.W.keepIn K (.ref f7) = true)
    (a8 : PySem.W.nsIn K mainGlobals "way_of" = some (some (.ref f8))) (l8 : K.lookup f8 = some ⟨oc8, od8, .func (PySem.W.fnOf "way_of" "way_of" (defArgs s_wayof) (defBody s_wayof) (defScope s_wayof) .none kV8 dc8 pm8 an8 cd8 ct8), sl8⟩) (c8 : PySem.W.codeIn K cd8 "way_of" = true) (k8 : PySem.W.keepIn K (.ref f8) = true)
    (a9 : PySem.W.nsIn K mainGlobals "steps_toward" = some (some (.ref f9))) (l9 : K.lookup f9 = some ⟨oc9, od9, .func (PySem.W.fnOf "steps_toward" "steps_toward" (defArgs s_stepstoward) (defBody s_stepstoward) (defScope s_stepstoward) .none kV9 dc9 pm9 an9 cd9 ct9), sl9⟩) (c9 : PySem.W.codeIn K cd9 "steps_toward" = true) (k9 : PySem.W.keepIn K (.ref f9) = true)
    (a10 : PySem.W.nsIn K mainGlobals "neighbours" = some (some (.ref f10))) (l10 : K.lookup f10 = some ⟨oc10, od10, .func (PySem.W.fnOf "neighbours" "neighbours" (defArgs s_neighbours) (defBody s_neighbours) (defScope s_neighbours) .none kV10 dc10 pm10 an10 cd10 ct10), sl10⟩) (c10 : PySem.W.codeIn K cd10 "neighbours" = true) (k10 : PySem.W.keepIn K (.ref f10) = true)
    (a11 : PySem.W.nsIn K mainGlobals "asked_way" = some (some (.ref f11))) (l11 : K.lookup f11 = some ⟨oc11, od11, .func (PySem.W.fnOf "asked_way" "asked_way" (defArgs s_askedway) (defBody s_askedway) (defScope s_askedway) .none kV11 dc11 pm11 an11 cd11 ct11), sl11⟩) (c11 : PySem.W.codeIn K cd11 "asked_way" = true) (k11 : PySem.W.keepIn K (.ref f11) = true)
    (a12 : PySem.W.nsIn K mainGlobals "worths_of" = some (some (.ref f12))) (l12 : K.lookup f12 = some ⟨oc12, od12, .func (PySem.W.fnOf "worths_of" "worths_of" (defArgs s_worthsof) (defBody s_worthsof) (defScope s_worthsof) .none kV12 dc12 pm12 an12 cd12 ct12), sl12⟩) (c12 : PySem.W.codeIn K cd12 "worths_of" = true) (k12 : PySem.W.keepIn K (.ref f12) = true)
    (a13 : PySem.W.nsIn K mainGlobals "greatest" = some (some (.ref f13))) (l13 : K.lookup f13 = some ⟨oc13, od13, .func (PySem.W.fnOf "greatest" "greatest" (defArgs s_greatest) (defBody s_greatest) (defScope s_greatest) .none kV13 dc13 pm13 an13 cd13 ct13), sl13⟩) (c13 : PySem.W.codeIn K cd13 "greatest" = true) (k13 : PySem.W.keepIn K (.ref f13) = true)
    (a14 : PySem.W.nsIn K mainGlobals "first_of_kind" = some (some (.ref f14))) (l14 : K.lookup f14 = some ⟨oc14, od14, .func (PySem.W.fnOf "first_of_kind" "first_of_kind" (defArgs s_firstofkind) (defBody s_firstofkind) (defScope s_firstofkind) .none kV14 dc14 pm14 an14 cd14 ct14), sl14⟩) (c14 : PySem.W.codeIn K cd14 "first_of_kind" = true) (k14 : PySem.W.keepIn K (.ref f14) = true)
    (a15 : PySem.W.nsIn K mainGlobals "ask_joined" = some (some (.ref f15))) (l15 : K.lookup f15 = some ⟨oc15, od15, .func (PySem.W.fnOf "ask_joined" "ask_joined" (defArgs s_askjoined) (defBody s_askjoined) (defScope s_askjoined) .none kV15 dc15 pm15 an15 cd15 ct15), sl15⟩) (c15 : PySem.W.codeIn K cd15 "ask_joined" = true) (k15 : PySem.W.keepIn K (.ref f15) = true)
    (a16 : PySem.W.nsIn K mainGlobals "ask_way" = some (some (.ref f16))) (l16 : K.lookup f16 = some ⟨oc16, od16, .func (PySem.W.fnOf "ask_way" "ask_way" (defArgs s_askway) (defBody s_askway) (defScope s_askway) .none kV16 dc16 pm16 an16 cd16 ct16), sl16⟩) (c16 : PySem.W.codeIn K cd16 "ask_way" = true) (k16 : PySem.W.keepIn K (.ref f16) = true)
    (a17 : PySem.W.nsIn K mainGlobals "ask_total" = some (some (.ref f17))) (l17 : K.lookup f17 = some ⟨oc17, od17, .func (PySem.W.fnOf "ask_total" "ask_total" (defArgs s_asktotal) (defBody s_asktotal) (defScope s_asktotal) .none kV17 dc17 pm17 an17 cd17 ct17), sl17⟩) (c17 : PySem.W.codeIn K cd17 "ask_total" = true) (k17 : PySem.W.keepIn K (.ref f17) = true)
    (a18 : PySem.W.nsIn K mainGlobals "ask_many" = some (some (.ref f18))) (l18 : K.lookup f18 = some ⟨oc18, od18, .func (PySem.W.fnOf "ask_many" "ask_many" (defArgs s_askmany) (defBody s_askmany) (defScope s_askmany) .none kV18 dc18 pm18 an18 cd18 ct18), sl18⟩) (c18 : PySem.W.codeIn K cd18 "ask_many" = true) (k18 : PySem.W.keepIn K (.ref f18) = true)
    (a19 : PySem.W.nsIn K mainGlobals "ask_most" = some (some (.ref f19))) (l19 : K.lookup f19 = some ⟨oc19, od19, .func (PySem.W.fnOf "ask_most" "ask_most" (defArgs s_askmost) (defBody s_askmost) (defScope s_askmost) .none kV19 dc19 pm19 an19 cd19 ct19), sl19⟩) (c19 : PySem.W.codeIn K cd19 "ask_most" = true) (k19 : PySem.W.keepIn K (.ref f19) = true)
    (a20 : PySem.W.nsIn K mainGlobals "ask_first" = some (some (.ref f20))) (l20 : K.lookup f20 = some ⟨oc20, od20, .func (PySem.W.fnOf "ask_first" "ask_first" (defArgs s_askfirst) (defBody s_askfirst) (defScope s_askfirst) .none kV20 dc20 pm20 an20 cd20 ct20), sl20⟩) (c20 : PySem.W.codeIn K cd20 "ask_first" = true) (k20 : PySem.W.keepIn K (.ref f20) = true)
    (a21 : PySem.W.nsIn K mainGlobals "ask_reach" = some (some (.ref f21))) (l21 : K.lookup f21 = some ⟨oc21, od21, .func (PySem.W.fnOf "ask_reach" "ask_reach" (defArgs s_askreach) (defBody s_askreach) (defScope s_askreach) .none kV21 dc21 pm21 an21 cd21 ct21), sl21⟩) (c21 : PySem.W.codeIn K cd21 "ask_reach" = true) (k21 : PySem.W.keepIn K (.ref f21) = true)
    (a22 : PySem.W.nsIn K mainGlobals "ask_kth" = some (some (.ref f22))) (l22 : K.lookup f22 = some ⟨oc22, od22, .func (PySem.W.fnOf "ask_kth" "ask_kth" (defArgs s_askkth) (defBody s_askkth) (defScope s_askkth) .none kV22 dc22 pm22 an22 cd22 ct22), sl22⟩) (c22 : PySem.W.codeIn K cd22 "ask_kth" = true) (k22 : PySem.W.keepIn K (.ref f22) = true)
    (a23 : PySem.W.nsIn K mainGlobals "plain_do" = some (some (.ref f23))) (l23 : K.lookup f23 = some ⟨oc23, od23, .func (PySem.W.fnOf "plain_do" "plain_do" (defArgs s_plaindo) (defBody s_plaindo) (defScope s_plaindo) .none kV23 dc23 pm23 an23 cd23 ct23), sl23⟩) (c23 : PySem.W.codeIn K cd23 "plain_do" = true) (k23 : PySem.W.keepIn K (.ref f23) = true)
    (a24 : PySem.W.nsIn K mainGlobals "_law_mixed" = some (some (.ref f24))) (l24 : K.lookup f24 = some ⟨oc24, od24, .func (PySem.W.fnOf "_law_mixed" "_law_mixed" (defArgs s_Lmixed) (defBody s_Lmixed) (defScope s_Lmixed) .none kV24 dc24 pm24 an24 cd24 ct24), sl24⟩) (c24 : PySem.W.codeIn K cd24 "_law_mixed" = true) (k24 : PySem.W.keepIn K (.ref f24) = true)
    (a25 : PySem.W.nsIn K mainGlobals "_law_box" = some (some (.ref f25))) (l25 : K.lookup f25 = some ⟨oc25, od25, .func (PySem.W.fnOf "_law_box" "_law_box" (defArgs s_Lbox) (defBody s_Lbox) (defScope s_Lbox) .none kV25 dc25 pm25 an25 cd25 ct25), sl25⟩) (c25 : PySem.W.codeIn K cd25 "_law_box" = true) (k25 : PySem.W.keepIn K (.ref f25) = true)
    (a26 : PySem.W.nsIn K mainGlobals "_law_next" = some (some (.ref f26))) (l26 : K.lookup f26 = some ⟨oc26, od26, .func (PySem.W.fnOf "_law_next" "_law_next" (defArgs s_Lnext) (defBody s_Lnext) (defScope s_Lnext) .none kV26 dc26 pm26 an26 cd26 ct26), sl26⟩) (c26 : PySem.W.codeIn K cd26 "_law_next" = true) (k26 : PySem.W.keepIn K (.ref f26) = true)
    (a27 : PySem.W.nsIn K mainGlobals "_law_few" = some (some (.ref f27))) (l27 : K.lookup f27 = some ⟨oc27, od27, .func (PySem.W.fnOf "_law_few" "_law_few" (defArgs s_Lfew) (defBody s_Lfew) (defScope s_Lfew) .none kV27 dc27 pm27 an27 cd27 ct27), sl27⟩) (c27 : PySem.W.codeIn K cd27 "_law_few" = true) (k27 : PySem.W.keepIn K (.ref f27) = true)
    (a28 : PySem.W.nsIn K mainGlobals "_law_worth" = some (some (.ref f28))) (l28 : K.lookup f28 = some ⟨oc28, od28, .func (PySem.W.fnOf "_law_worth" "_law_worth" (defArgs s_Lworth) (defBody s_Lworth) (defScope s_Lworth) .none kV28 dc28 pm28 an28 cd28 ct28), sl28⟩) (c28 : PySem.W.codeIn K cd28 "_law_worth" = true) (k28 : PySem.W.keepIn K (.ref f28) = true)
    (a29 : PySem.W.nsIn K mainGlobals "_law_point" = some (some (.ref f29))) (l29 : K.lookup f29 = some ⟨oc29, od29, .func (PySem.W.fnOf "_law_point" "_law_point" (defArgs s_Lpoint) (defBody s_Lpoint) (defScope s_Lpoint) .none kV29 dc29 pm29 an29 cd29 ct29), sl29⟩) (c29 : PySem.W.codeIn K cd29 "_law_point" = true) (k29 : PySem.W.keepIn K (.ref f29) = true)
    (a30 : PySem.W.nsIn K mainGlobals "_law_forest" = some (some (.ref f30))) (l30 : K.lookup f30 = some ⟨oc30, od30, .func (PySem.W.fnOf "_law_forest" "_law_forest" (defArgs s_Lforest) (defBody s_Lforest) (defScope s_Lforest) .none kV30 dc30 pm30 an30 cd30 ct30), sl30⟩) (c30 : PySem.W.codeIn K cd30 "_law_forest" = true) (k30 : PySem.W.keepIn K (.ref f30) = true)
    (a31 : PySem.W.nsIn K mainGlobals "_law_ways" = some (some (.ref f31))) (l31 : K.lookup f31 = some ⟨oc31, od31, .func (PySem.W.fnOf "_law_ways" "_law_ways" (defArgs s_Lways) (defBody s_Lways) (defScope s_Lways) .none kV31 dc31 pm31 an31 cd31 ct31), sl31⟩) (c31 : PySem.W.codeIn K cd31 "_law_ways" = true) (k31 : PySem.W.keepIn K (.ref f31) = true)
    (a32 : PySem.W.nsIn K mainGlobals "_law_way" = some (some (.ref f32))) (l32 : K.lookup f32 = some ⟨oc32, od32, .func (PySem.W.fnOf "_law_way" "_law_way" (defArgs s_Lway) (defBody s_Lway) (defScope s_Lway) .none kV32 dc32 pm32 an32 cd32 ct32), sl32⟩) (c32 : PySem.W.codeIn K cd32 "_law_way" = true) (k32 : PySem.W.keepIn K (.ref f32) = true)
    (a33 : PySem.W.nsIn K mainGlobals "_law_greatest" = some (some (.ref f33))) (l33 : K.lookup f33 = some ⟨oc33, od33, .func (PySem.W.fnOf "_law_greatest" "_law_greatest" (defArgs s_Lgreatest) (defBody s_Lgreatest) (defScope s_Lgreatest) .none kV33 dc33 pm33 an33 cd33 ct33), sl33⟩) (c33 : PySem.W.codeIn K cd33 "_law_greatest" = true) (k33 : PySem.W.keepIn K (.ref f33) = true)
    (a34 : PySem.W.nsIn K mainGlobals "_law_first" = some (some (.ref f34))) (l34 : K.lookup f34 = some ⟨oc34, od34, .func (PySem.W.fnOf "_law_first" "_law_first" (defArgs s_Lfirst) (defBody s_Lfirst) (defScope s_Lfirst) .none kV34 dc34 pm34 an34 cd34 ct34), sl34⟩) (c34 : PySem.W.codeIn K cd34 "_law_first" = true) (k34 : PySem.W.keepIn K (.ref f34) = true)
    (a35 : PySem.W.nsIn K mainGlobals "_law_of_way" = some (some (.ref f35))) (l35 : K.lookup f35 = some ⟨oc35, od35, .func (PySem.W.fnOf "_law_of_way" "_law_of_way" (defArgs s_Lofway) (defBody s_Lofway) (defScope s_Lofway) .none kV35 dc35 pm35 an35 cd35 ct35), sl35⟩) (c35 : PySem.W.codeIn K cd35 "_law_of_way" = true) (k35 : PySem.W.keepIn K (.ref f35) = true)
    (a36 : PySem.W.nsIn K mainGlobals "_law_ask" = some (some (.ref f36))) (l36 : K.lookup f36 = some ⟨oc36, od36, .func (PySem.W.fnOf "_law_ask" "_law_ask" (defArgs s_Lask) (defBody s_Lask) (defScope s_Lask) .none kV36 dc36 pm36 an36 cd36 ct36), sl36⟩) (c36 : PySem.W.codeIn K cd36 "_law_ask" = true) (k36 : PySem.W.keepIn K (.ref f36) = true)
    (a37 : PySem.W.nsIn K mainGlobals "_law_due" = some (some (.ref f37))) (l37 : K.lookup f37 = some ⟨oc37, od37, .func (PySem.W.fnOf "_law_due" "_law_due" (defArgs s_Ldue) (defBody s_Ldue) (defScope s_Ldue) .none kV37 dc37 pm37 an37 cd37 ct37), sl37⟩) (c37 : PySem.W.codeIn K cd37 "_law_due" = true) (k37 : PySem.W.keepIn K (.ref f37) = true)
    (a38 : PySem.W.nsIn K mainGlobals "_law_spot" = some (some (.ref f38))) (l38 : K.lookup f38 = some ⟨oc38, od38, .func (PySem.W.fnOf "_law_spot" "_law_spot" (defArgs s_Lspot) (defBody s_Lspot) (defScope s_Lspot) .none kV38 dc38 pm38 an38 cd38 ct38), sl38⟩) (c38 : PySem.W.codeIn K cd38 "_law_spot" = true) (k38 : PySem.W.keepIn K (.ref f38) = true)
    (a39 : PySem.W.nsIn K mainGlobals "_law_pair" = some (some (.ref f39))) (l39 : K.lookup f39 = some ⟨oc39, od39, .func (PySem.W.fnOf "_law_pair" "_law_pair" (defArgs s_Lpair) (defBody s_Lpair) (defScope s_Lpair) .none kV39 dc39 pm39 an39 cd39 ct39), sl39⟩) (c39 : PySem.W.codeIn K cd39 "_law_pair" = true) (k39 : PySem.W.keepIn K (.ref f39) = true)
    (a40 : PySem.W.nsIn K mainGlobals "_law_row" = some (some (.ref f40))) (l40 : K.lookup f40 = some ⟨oc40, od40, .func (PySem.W.fnOf "_law_row" "_law_row" (defArgs s_Lrow) (defBody s_Lrow) (defScope s_Lrow) .none kV40 dc40 pm40 an40 cd40 ct40), sl40⟩) (c40 : PySem.W.codeIn K cd40 "_law_row" = true) (k40 : PySem.W.keepIn K (.ref f40) = true)
    (a41 : PySem.W.nsIn K mainGlobals "_law_same" = some (some (.ref f41))) (l41 : K.lookup f41 = some ⟨oc41, od41, .func (PySem.W.fnOf "_law_same" "_law_same" (defArgs s_Lsame) (defBody s_Lsame) (defScope s_Lsame) .none kV41 dc41 pm41 an41 cd41 ct41), sl41⟩) (c41 : PySem.W.codeIn K cd41 "_law_same" = true) (k41 : PySem.W.keepIn K (.ref f41) = true)
    (a42 : PySem.W.nsIn K mainGlobals "_law_refused" = some (some (.ref f42))) (l42 : K.lookup f42 = some ⟨oc42, od42, .func (PySem.W.fnOf "_law_refused" "_law_refused" (defArgs s_Lrefused) (defBody s_Lrefused) (defScope s_Lrefused) .none kV42 dc42 pm42 an42 cd42 ct42), sl42⟩) (c42 : PySem.W.codeIn K cd42 "_law_refused" = true) (k42 : PySem.W.keepIn K (.ref f42) = true)
    (a43 : PySem.W.nsIn K mainGlobals "_law_asked_right" = some (some (.ref f43))) (l43 : K.lookup f43 = some ⟨oc43, od43, .func (PySem.W.fnOf "_law_asked_right" "_law_asked_right" (defArgs s_Laskedright) (defBody s_Laskedright) (defScope s_Laskedright) .none kV43 dc43 pm43 an43 cd43 ct43), sl43⟩) (c43 : PySem.W.codeIn K cd43 "_law_asked_right" = true) (k43 : PySem.W.keepIn K (.ref f43) = true)
    (a44 : PySem.W.nsIn K mainGlobals "law" = some (some (.ref f44))) (l44 : K.lookup f44 = some ⟨oc44, od44, .func (PySem.W.fnOf "law" "law" (defArgs s_law) (defBody s_law) (defScope s_law) .none kV44 dc44 pm44 an44 cd44 ct44), sl44⟩) (c44 : PySem.W.codeIn K cd44 "law" = true) (k44 : PySem.W.keepIn K (.ref f44) = true)
    (z0 : PySem.W.nsIn K mainGlobals "ValueError" = some none)
    (z1 : PySem.W.nsIn K mainGlobals "all" = some none)
    (z2 : PySem.W.nsIn K mainGlobals "bool" = some none)
    (z3 : PySem.W.nsIn K mainGlobals "int" = some none)
    (z4 : PySem.W.nsIn K mainGlobals "isinstance" = some none)
    (z5 : PySem.W.nsIn K mainGlobals "len" = some none)
    (z6 : PySem.W.nsIn K mainGlobals "max" = some none)
    (z7 : PySem.W.nsIn K mainGlobals "min" = some none)
    (z8 : PySem.W.nsIn K mainGlobals "range" = some none)
    (z9 : PySem.W.nsIn K mainGlobals "repr" = some none)
    (z10 : PySem.W.nsIn K mainGlobals "sorted" = some none)
    (z11 : PySem.W.nsIn K mainGlobals "str" = some none)
    (z12 : PySem.W.nsIn K mainGlobals "sum" = some none)
    (z13 : PySem.W.nsIn K mainGlobals "tuple" = some none)
    (z14 : PySem.W.nsIn K mainGlobals "zip" = some none)
    (q_TreeError : PySem.W.nsIn K mainGlobals "TreeError" = some (some (.ref cTreeError)))
    (q_NoRow : PySem.W.nsIn K mainGlobals "NoRow" = some (some (.ref cNoRow)))
    (q_NoPoint : PySem.W.nsIn K mainGlobals "NoPoint" = some (some (.ref cNoPoint)))
    (q_Ring : PySem.W.nsIn K mainGlobals "Ring" = some (some (.ref cRing)))
    (q_NoTie : PySem.W.nsIn K mainGlobals "NoTie" = some (some (.ref cNoTie)))
    (q_Apart : PySem.W.nsIn K mainGlobals "Apart" = some (some (.ref cApart)))
    (q_NoPlace : PySem.W.nsIn K mainGlobals "NoPlace" = some (some (.ref cNoPlace)))
    (q_NoDeed : PySem.W.nsIn K mainGlobals "NoDeed" = some (some (.ref cNoDeed)))
    (h_NoRow : PySem.W.keepIn K (.ref cNoRow) = true)
    (j_NoRow : xcB K cNoRow = true)
    (e_NoRow : PySem.W.excIn K cNoRow veB "ValueError.__new__" = true)
    (b_NoRow : PySem.W.subIn K (.ref cNoRow) (.type "BaseException") = some true)
    (t_NoRow : PySem.W.typeIn K (.ref cNoRow) = some (.type "type"))
    (m_NoRow : PySem.W.exmOne K (.ref cNoRow) (.ref cTreeError) = some true)
    (y_NoRow : PySem.W.kitOne K (.ref cNoRow) (.type "ValueError") = some true)
    (h_NoPoint : PySem.W.keepIn K (.ref cNoPoint) = true)
    (j_NoPoint : xcB K cNoPoint = true)
    (e_NoPoint : PySem.W.excIn K cNoPoint veB "ValueError.__new__" = true)
    (b_NoPoint : PySem.W.subIn K (.ref cNoPoint) (.type "BaseException") = some true)
    (t_NoPoint : PySem.W.typeIn K (.ref cNoPoint) = some (.type "type"))
    (m_NoPoint : PySem.W.exmOne K (.ref cNoPoint) (.ref cTreeError) = some true)
    (y_NoPoint : PySem.W.kitOne K (.ref cNoPoint) (.type "ValueError") = some true)
    (h_Ring : PySem.W.keepIn K (.ref cRing) = true)
    (j_Ring : xcB K cRing = true)
    (e_Ring : PySem.W.excIn K cRing veB "ValueError.__new__" = true)
    (b_Ring : PySem.W.subIn K (.ref cRing) (.type "BaseException") = some true)
    (t_Ring : PySem.W.typeIn K (.ref cRing) = some (.type "type"))
    (m_Ring : PySem.W.exmOne K (.ref cRing) (.ref cTreeError) = some true)
    (y_Ring : PySem.W.kitOne K (.ref cRing) (.type "ValueError") = some true)
    (h_NoTie : PySem.W.keepIn K (.ref cNoTie) = true)
    (j_NoTie : xcB K cNoTie = true)
    (e_NoTie : PySem.W.excIn K cNoTie veB "ValueError.__new__" = true)
    (b_NoTie : PySem.W.subIn K (.ref cNoTie) (.type "BaseException") = some true)
    (t_NoTie : PySem.W.typeIn K (.ref cNoTie) = some (.type "type"))
    (m_NoTie : PySem.W.exmOne K (.ref cNoTie) (.ref cTreeError) = some true)
    (y_NoTie : PySem.W.kitOne K (.ref cNoTie) (.type "ValueError") = some true)
    (h_Apart : PySem.W.keepIn K (.ref cApart) = true)
    (j_Apart : xcB K cApart = true)
    (e_Apart : PySem.W.excIn K cApart veB "ValueError.__new__" = true)
    (b_Apart : PySem.W.subIn K (.ref cApart) (.type "BaseException") = some true)
    (t_Apart : PySem.W.typeIn K (.ref cApart) = some (.type "type"))
    (m_Apart : PySem.W.exmOne K (.ref cApart) (.ref cTreeError) = some true)
    (y_Apart : PySem.W.kitOne K (.ref cApart) (.type "ValueError") = some true)
    (h_NoPlace : PySem.W.keepIn K (.ref cNoPlace) = true)
    (j_NoPlace : xcB K cNoPlace = true)
    (e_NoPlace : PySem.W.excIn K cNoPlace veB "ValueError.__new__" = true)
    (b_NoPlace : PySem.W.subIn K (.ref cNoPlace) (.type "BaseException") = some true)
    (t_NoPlace : PySem.W.typeIn K (.ref cNoPlace) = some (.type "type"))
    (m_NoPlace : PySem.W.exmOne K (.ref cNoPlace) (.ref cTreeError) = some true)
    (y_NoPlace : PySem.W.kitOne K (.ref cNoPlace) (.type "ValueError") = some true)
    (h_NoDeed : PySem.W.keepIn K (.ref cNoDeed) = true)
    (j_NoDeed : xcB K cNoDeed = true)
    (e_NoDeed : PySem.W.excIn K cNoDeed veB "ValueError.__new__" = true)
    (b_NoDeed : PySem.W.subIn K (.ref cNoDeed) (.type "BaseException") = some true)
    (t_NoDeed : PySem.W.typeIn K (.ref cNoDeed) = some (.type "type"))
    (m_NoDeed : PySem.W.exmOne K (.ref cNoDeed) (.ref cTreeError) = some true)
    (y_NoDeed : PySem.W.kitOne K (.ref cNoDeed) (.type "ValueError") = some true)
    (hkits : kitsB K cTreeError [cNoRow, cNoPoint, cRing, cNoTie, cApart, cNoPlace, cNoDeed] = true)
    (qK : PySem.W.nsIn K mainGlobals "KINDS" = some (some (.ref fK)))
    (hK : tupB K fK kinds = true)
    (qF : PySem.W.nsIn K mainGlobals "FORMS" = some (some (.ref fF)))
    (hlF : K.lookup fF = some ⟨.type "dict", none, .dict esF nF, #[]⟩)
    (hkF : PySem.W.KeysLit w.params esF.toList)
    (hoF : (fF == sysModules) = false)
    (hfF : formB K esF.toList formsT = true)
    (qW : PySem.W.nsIn K mainGlobals "DEED_WORDS" = some (some (.ref fW)))
    (hW : tupB K fW dws = true)
    (qA : PySem.W.nsIn K mainGlobals "ASKS" = some (some (.ref fA)))
    (hlA : K.lookup fA = some ⟨.type "dict", none, .dict esA nA, #[]⟩)
    (hkA : PySem.W.KeysLit w.params esA.toList)
    (hd_joined : PySem.W.nsIn K fA "joined" = some (some (.ref f15)))
    (hd_way : PySem.W.nsIn K fA "way" = some (some (.ref f16)))
    (hd_total : PySem.W.nsIn K fA "total" = some (some (.ref f17)))
    (hd_many : PySem.W.nsIn K fA "many" = some (some (.ref f18)))
    (hd_most : PySem.W.nsIn K fA "most" = some (some (.ref f19)))
    (hd_first : PySem.W.nsIn K fA "first" = some (some (.ref f20)))
    (hd_reach : PySem.W.nsIn K fA "reach" = some (some (.ref f21)))
    (hd_kth : PySem.W.nsIn K fA "kth" = some (some (.ref f22)))
    (hcR : cd2 = .ref cR)
    (lcR : K.lookup cR = some ⟨eR, ddR, .fields vsR, sloR⟩)
    (v11R : vsR[11]? = some (.ref PR))
    (nPR : K.lookup PR = none)
    (hdR : PySem.W.codeHdIn K cR PR = true)
    (hcM : cd7 = .ref cM)
    (lcM : K.lookup cM = some ⟨eM, ddM, .fields vsM, sloM⟩)
    (v11M : vsM[11]? = some (.ref PM))
    (nPM : K.lookup PM = none)
    (hdM : PySem.W.codeHdIn K cM PM = true)
    (hcL : cd43 = .ref cL)
    (lcL : K.lookup cL = some ⟨eL, ddL, .fields vsL, sloL⟩)
    (v11L : vsL[11]? = some (.ref PL))
    (nPL : K.lookup PL = none)
    (hdL : PySem.W.codeHdIn K cL PL = true)
    (hcO : cd35 = .ref cO)
    (lcO : K.lookup cO = some ⟨eO, ddO, .fields vsO, sloO⟩)
    (v11O : vsO[11]? = some (.ref PO))
    (nPO : K.lookup PO = none)
    (hdO : PySem.W.codeHdIn K cO PO = true)
    (hneP : ([PR, PM, PL, PO] : List Addr).Nodup)
    (tabs : ∀ nm ∈ (["is_row", "refuse_missing", "_law_asked_right", "_law_of_way"] : List Str), TabAt mg h nm) : ∃ cs : List (Addr × Addr), (∀ p ∈ cs, h.get? p.2 = some { cls := .none, data := .fields #[] }) ∧ (∀ p ∈ cs, K.lookup p.2 = none) ∧ (∀ p ∈ cs, PySem.W.CodeHd h p.1 p.2) ∧
      ∀ (s : Shared) (H : Hp) (base : Heap) (a : Addr) (ns : List Int), ns.length ≤ 63 → (∀ z ∈ ns, Builtin.Int.intBits z ≤ 1048576) → (∀ p ∈ cs, LamX.TabB base mg p.1 p.2) → Env0 l.prog w K mg base callerA [] s H → (∀ p ∈ cs, H p.2 = some (.tbl #[])) → SqL K H a (ns.map V.int) →
        codeAny (model l.prog w) callerA (.call (.ref fa) ⟨[.ref a], []⟩) (CR CX0 [] l.prog w H s (fun v _ => v = .bl true) E0) s := by
  have e := hfa.symm.trans (PySem.W.mg_of X G a44)
  cases e
  have F0 := fun_mk (st := s_iswhole) l0 c0 k0
  have b0 := F0.binds (ps := ["thing"]) fun _ _ _ _ _ _ us hl => match us, hl with | [_], _ => rfl
  have F1 := fun_mk (st := s_iskind) l1 c1 k1
  have b1 := F1.binds (ps := ["thing"]) fun _ _ _ _ _ _ us hl => match us, hl with | [_], _ => rfl
  have F2 := fun_mk (st := s_isrow) l2 c2 k2
  have b2 := F2.binds (ps := ["thing"]) fun _ _ _ _ _ _ us hl => match us, hl with | [_], _ => rfl
  have F3 := fun_mk (st := s_fits) l3 c3 k3
  have b3 := F3.binds (ps := ["part", "wanted"]) fun _ _ _ _ _ _ us hl => match us, hl with | [_, _], _ => rfl
  have F4 := fun_mk (st := s_isdeed) l4 c4 k4
  have b4 := F4.binds (ps := ["row"]) fun _ _ _ _ _ _ us hl => match us, hl with | [_], _ => rfl
  have F5 := fun_mk (st := s_pointsnamed) l5 c5 k5
  have b5 := F5.binds (ps := ["row"]) fun _ _ _ _ _ _ us hl => match us, hl with | [_], _ => rfl
  have F6 := fun_mk (st := s_refuseunfit) l6 c6 k6
  have b6 := F6.binds (ps := ["row", "many"]) fun _ _ _ _ _ _ us hl => match us, hl with | [_, _], _ => rfl
  have F7 := fun_mk (st := s_refusemissing) l7 c7 k7
  have b7 := F7.binds (ps := ["numbers", "many"]) fun _ _ _ _ _ _ us hl => match us, hl with | [_, _], _ => rfl
  have F8 := fun_mk (st := s_wayof) l8 c8 k8
  have b8 := F8.binds (ps := ["forest", "a", "b"]) fun _ _ _ _ _ _ us hl => match us, hl with | [_, _, _], _ => rfl
  have F9 := fun_mk (st := s_stepstoward) l9 c9 k9
  have b9 := F9.binds (ps := ["forest", "goal"]) fun _ _ _ _ _ _ us hl => match us, hl with | [_, _], _ => rfl
  have F10 := fun_mk (st := s_neighbours) l10 c10 k10
  have b10 := F10.binds (ps := ["forest"]) fun _ _ _ _ _ _ us hl => match us, hl with | [_], _ => rfl
  have F11 := fun_mk (st := s_askedway) l11 c11 k11
  have b11 := F11.binds (ps := ["forest", "a", "b"]) fun _ _ _ _ _ _ us hl => match us, hl with | [_, _, _], _ => rfl
  have F12 := fun_mk (st := s_worthsof) l12 c12 k12
  have b12 := F12.binds (ps := ["forest", "chosen"]) fun _ _ _ _ _ _ us hl => match us, hl with | [_, _], _ => rfl
  have F13 := fun_mk (st := s_greatest) l13 c13 k13
  have b13 := F13.binds (ps := ["forest", "chosen"]) fun _ _ _ _ _ _ us hl => match us, hl with | [_, _], _ => rfl
  have F14 := fun_mk (st := s_firstofkind) l14 c14 k14
  have b14 := F14.binds (ps := ["forest", "chosen", "kind"]) fun _ _ _ _ _ _ us hl => match us, hl with | [_, _, _], _ => rfl
  have F15 := fun_mk (st := s_askjoined) l15 c15 k15
  have b15 := F15.binds (ps := ["forest", "row"]) fun _ _ _ _ _ _ us hl => match us, hl with | [_, _], _ => rfl
  have F16 := fun_mk (st := s_askway) l16 c16 k16
  have b16 := F16.binds (ps := ["forest", "row"]) fun _ _ _ _ _ _ us hl => match us, hl with | [_, _], _ => rfl
  have F17 := fun_mk (st := s_asktotal) l17 c17 k17
  have b17 := F17.binds (ps := ["forest", "row"]) fun _ _ _ _ _ _ us hl => match us, hl with | [_, _], _ => rfl
  have F18 := fun_mk (st := s_askmany) l18 c18 k18
  have b18 := F18.binds (ps := ["forest", "row"]) fun _ _ _ _ _ _ us hl => match us, hl with | [_, _], _ => rfl
  have F19 := fun_mk (st := s_askmost) l19 c19 k19
  have b19 := F19.binds (ps := ["forest", "row"]) fun _ _ _ _ _ _ us hl => match us, hl with | [_, _], _ => rfl
  have F20 := fun_mk (st := s_askfirst) l20 c20 k20
  have b20 := F20.binds (ps := ["forest", "row"]) fun _ _ _ _ _ _ us hl => match us, hl with | [_, _], _ => rfl
  have F21 := fun_mk (st := s_askreach) l21 c21 k21
  have b21 := F21.binds (ps := ["forest", "row"]) fun _ _ _ _ _ _ us hl => match us, hl with | [_, _], _ => rfl
  have F22 := fun_mk (st := s_askkth) l22 c22 k22
  have b22 := F22.binds (ps := ["forest", "row"]) fun _ _ _ _ _ _ us hl => match us, hl with | [_, _], _ => rfl
  have F23 := fun_mk (st := s_plaindo) l23 c23 k23
  have b23 := F23.binds (ps := ["forest", "row"]) fun _ _ _ _ _ _ us hl => match us, hl with | [_, _], _ => rfl
  have F24 := fun_mk (st := s_Lmixed) l24 c24 k24
  have b24 := F24.binds (ps := ["_law_cell", "_law_many"]) fun _ _ _ _ _ _ us hl => match us, hl with | [_, _], _ => rfl
  have F25 := fun_mk (st := s_Lbox) l25 c25 k25
  have b25 := F25.binds (ps := ["_law_script"]) fun _ _ _ _ _ _ us hl => match us, hl with | [_], _ => rfl
  have F26 := fun_mk (st := s_Lnext) l26 c26 k26
  have b26 := F26.binds (ps := ["_law_box_here"]) fun _ _ _ _ _ _ us hl => match us, hl with | [_], _ => rfl
  have F27 := fun_mk (st := s_Lfew) l27 c27 k27
  have b27 := F27.binds (ps := ["_law_box_here", "_law_few_here", "_law_most"]) fun _ _ _ _ _ _ us hl => match us, hl with | [_, _, _], _ => rfl
  have F28 := fun_mk (st := s_Lworth) l28 c28 k28
  have b28 := F28.binds (ps := ["_law_box_here"]) fun _ _ _ _ _ _ us hl => match us, hl with | [_], _ => rfl
  have F29 := fun_mk (st := s_Lpoint) l29 c29 k29
  have b29 := F29.binds (ps := ["_law_box_here"]) fun _ _ _ _ _ _ us hl => match us, hl with | [_], _ => rfl
  have F30 := fun_mk (st := s_Lforest) l30 c30 k30
  have b30 := F30.binds (ps := ["_law_box_here", "_law_few_here", "_law_most"]) fun _ _ _ _ _ _ us hl => match us, hl with | [_, _, _], _ => rfl
  have F31 := fun_mk (st := s_Lways) l31 c31 k31
  have b31 := F31.binds (ps := ["_law_forest_here", "_law_a"]) fun _ _ _ _ _ _ us hl => match us, hl with | [_, _], _ => rfl
  have F32 := fun_mk (st := s_Lway) l32 c32 k32
  have b32 := F32.binds (ps := ["_law_forest_here", "_law_a", "_law_b"]) fun _ _ _ _ _ _ us hl => match us, hl with | [_, _, _], _ => rfl
  have F33 := fun_mk (st := s_Lgreatest) l33 c33 k33
  have b33 := F33.binds (ps := ["_law_forest_here", "_law_some"]) fun _ _ _ _ _ _ us hl => match us, hl with | [_, _], _ => rfl
  have F34 := fun_mk (st := s_Lfirst) l34 c34 k34
  have b34 := F34.binds (ps := ["_law_some", "_law_fits"]) fun _ _ _ _ _ _ us hl => match us, hl with | [_, _], _ => rfl
  have F35 := fun_mk (st := s_Lofway) l35 c35 k35
  have b35 := F35.binds (ps := ["_law_forest_here", "_law_row_here", "_law_way_here"]) fun _ _ _ _ _ _ us hl => match us, hl with | [_, _, _], _ => rfl
  have F36 := fun_mk (st := s_Lask) l36 c36 k36
  have b36 := F36.binds (ps := ["_law_forest_here", "_law_row_here"]) fun _ _ _ _ _ _ us hl => match us, hl with | [_, _], _ => rfl
  have F37 := fun_mk (st := s_Ldue) l37 c37 k37
  have b37 := F37.binds (ps := ["_law_forest_here", "_law_row_here"]) fun _ _ _ _ _ _ us hl => match us, hl with | [_, _], _ => rfl
  have F38 := fun_mk (st := s_Lspot) l38 c38 k38
  have b38 := F38.binds (ps := ["_law_box_here", "_law_many"]) fun _ _ _ _ _ _ us hl => match us, hl with | [_, _], _ => rfl
  have F39 := fun_mk (st := s_Lpair) l39 c39 k39
  have b39 := F39.binds (ps := ["_law_box_here", "_law_forest_here", "_law_whole"]) fun _ _ _ _ _ _ us hl => match us, hl with | [_, _, _], _ => rfl
  have F40 := fun_mk (st := s_Lrow) l40 c40 k40
  have b40 := F40.binds (ps := ["_law_box_here", "_law_forest_here", "_law_words"]) fun _ _ _ _ _ _ us hl => match us, hl with | [_, _, _], _ => rfl
  have F41 := fun_mk (st := s_Lsame) l41 c41 k41
  have b41 := F41.binds (ps := ["_law_found", "_law_due_here"]) fun _ _ _ _ _ _ us hl => match us, hl with | [_, _], _ => rfl
  have F42 := fun_mk (st := s_Lrefused) l42 c42 k42
  have b42 := F42.binds (ps := ["_law_told_by", "_law_thing"]) fun _ _ _ _ _ _ us hl => match us, hl with | [_, _], _ => rfl
  have F43 := fun_mk (st := s_Laskedright) l43 c43 k43
  have b43 := F43.binds (ps := ["_law_forest_here", "_law_row_here"]) fun _ _ _ _ _ _ us hl => match us, hl with | [_, _], _ => rfl
  have F44 := fun_mk (st := s_law) l44 c44 k44
  have b44 := F44.binds (ps := ["_law_script"]) fun _ _ _ _ _ _ us hl => match us, hl with | [_], _ => rfl
  let T : Top w K mg := ⟨_, _, F0, b0, PySem.W.mg_of X G a0, _, _, F1, b1, PySem.W.mg_of X G a1, _, _, F2, b2, PySem.W.mg_of X G a2, _, _, F3, b3, PySem.W.mg_of X G a3, _, _, F4, b4, PySem.W.mg_of X G a4, _, _, F5, b5, PySem.W.mg_of X G a5, _, _, F6, b6, PySem.W.mg_of X G a6, _, _, F7, b7, PySem.W.mg_of X G a7, _, _, F8, b8, PySem.W.mg_of X G a8, _, _, F9, b9, PySem.W.mg_of X G a9, _, _, F10, b10, PySem.W.mg_of X G a10, _, _, F11, b11, PySem.W.mg_of X G a11, _, _, F12, b12, PySem.W.mg_of X G a12, _, _, F13, b13, PySem.W.mg_of X G a13, _, _, F14, b14, PySem.W.mg_of X G a14, _, _, F15, b15, PySem.W.mg_of X G a15, _, _, F16, b16, PySem.W.mg_of X G a16, _, _, F17, b17, PySem.W.mg_of X G a17, _, _, F18, b18, PySem.W.mg_of X G a18, _, _, F19, b19, PySem.W.mg_of X G a19, _, _, F20, b20, PySem.W.mg_of X G a20, _, _, F21, b21, PySem.W.mg_of X G a21, _, _, F22, b22, PySem.W.mg_of X G a22, _, _, F23, b23, PySem.W.mg_of X G a23, _, _, F24, b24, PySem.W.mg_of X G a24, _, _, F25, b25, PySem.W.mg_of X G a25, _, _, F26, b26, PySem.W.mg_of X G a26, _, _, F27, b27, PySem.W.mg_of X G a27, _, _, F28, b28, PySem.W.mg_of X G a28, _, _, F29, b29, PySem.W.mg_of X G a29, _, _, F30, b30, PySem.W.mg_of X G a30, _, _, F31, b31, PySem.W.mg_of X G a31, _, _, F32, b32, PySem.W.mg_of X G a32, _, _, F33, b33, PySem.W.mg_of X G a33, _, _, F34, b34, PySem.W.mg_of X G a34, _, _, F35, b35, PySem.W.mg_of X G a35, _, _, F36, b36, PySem.W.mg_of X G a36, _, _, F37, b37, PySem.W.mg_of X G a37, _, _, F38, b38, PySem.W.mg_of X G a38, _, _, F39, b39, PySem.W.mg_of X G a39, _, _, F40, b40, PySem.W.mg_of X G a40, _, _, F41, b41, PySem.W.mg_of X G a41, _, _, F42, b42, PySem.W.mg_of X G a42, _, _, F43, b43, PySem.W.mg_of X G a43, _, _, F44, b44, PySem.W.mg_of X G a44, PySem.W.mg_none_of X G z0, PySem.W.mg_none_of X G z1, PySem.W.mg_none_of X G z2, PySem.W.mg_none_of X G z3, PySem.W.mg_none_of X G z4, PySem.W.mg_none_of X G z5, PySem.W.mg_none_of X G z6, PySem.W.mg_none_of X G z7, PySem.W.mg_none_of X G z8, PySem.W.mg_none_of X G z9, PySem.W.mg_none_of X G z10, PySem.W.mg_none_of X G z11, PySem.W.mg_none_of X G z12, PySem.W.mg_none_of X G z13, PySem.W.mg_none_of X G z14, _, _, _, _, _, _, _, _, PySem.W.mg_of X G q_TreeError, PySem.W.mg_of X G q_NoRow, PySem.W.mg_of X G q_NoPoint, PySem.W.mg_of X G q_Ring, PySem.W.mg_of X G q_NoTie, PySem.W.mg_of X G q_Apart, PySem.W.mg_of X G q_NoPlace, PySem.W.mg_of X G q_NoDeed, h_NoRow, xcB_ok j_NoRow, e_NoRow, b_NoRow, t_NoRow, m_NoRow, y_NoRow, h_NoPoint, xcB_ok j_NoPoint, e_NoPoint, b_NoPoint, t_NoPoint, m_NoPoint, y_NoPoint, h_Ring, xcB_ok j_Ring, e_Ring, b_Ring, t_Ring, m_Ring, y_Ring, h_NoTie, xcB_ok j_NoTie, e_NoTie, b_NoTie, t_NoTie, m_NoTie, y_NoTie, h_Apart, xcB_ok j_Apart, e_Apart, b_Apart, t_Apart, m_Apart, y_Apart, h_NoPlace, xcB_ok j_NoPlace, e_NoPlace, b_NoPlace, t_NoPlace, m_NoPlace, y_NoPlace, h_NoDeed, xcB_ok j_NoDeed, e_NoDeed, b_NoDeed, t_NoDeed, m_NoDeed, y_NoDeed, hkits, _, PySem.W.mg_of X G qK, hK, _, PySem.W.mg_of X G qF, _, _, hlF, hkF, hoF, hfF, _, PySem.W.mg_of X G qW, hW, _, PySem.W.mg_of X G qA, _, _, hlA, hkA, hd_joined, hd_way, hd_total, hd_many, hd_most, hd_first, hd_reach, hd_kth, cR, PR, hcR, cM, PM, hcM, cL, PL, hcL, cO, PO, hcO, hneP⟩
  refine ⟨[(cR, PR), (cM, PM), (cL, PL), (cO, PO)], ?_, ?_, ?_, fun s H base a ns hlen hbits tb e0 th sq => ?_⟩
  · intro p hp
    rcases mem4 hp with rfl | rfl | rfl | rfl
    · exact tab_empty (tabs _ List.mem_cons_self) X (PySem.W.mg_of X G a2) l2 rfl hcR lcR v11R
    · exact tab_empty (tabs _ (List.mem_cons_of_mem _ List.mem_cons_self)) X (PySem.W.mg_of X G a7) l7 rfl hcM lcM v11M
    · exact tab_empty (tabs _ (List.mem_cons_of_mem _ (List.mem_cons_of_mem _ List.mem_cons_self))) X (PySem.W.mg_of X G a43) l43 rfl hcL lcL v11L
    · exact tab_empty (tabs _ (List.mem_cons_of_mem _ (List.mem_cons_of_mem _ (List.mem_cons_of_mem _ List.mem_cons_self)))) X (PySem.W.mg_of X G a35) l35 rfl hcO lcO v11O
  · intro p hp
    rcases mem4 hp with rfl | rfl | rfl | rfl
    · exact nPR
    · exact nPM
    · exact nPL
    · exact nPO
  · intro p hp
    rcases mem4 hp with rfl | rfl | rfl | rfl
    · exact PySem.W.codeHd_of_K X hdR
    · exact PySem.W.codeHd_of_K X hdM
    · exact PySem.W.codeHd_of_K X hdL
    · exact PySem.W.codeHd_of_K X hdO
  · exact run_law T ⟨(tb _ List.mem_cons_self).code, (tb _ List.mem_cons_self).bm, (tb _ List.mem_cons_self).gP⟩ ⟨(tb _ (List.mem_cons_of_mem _ List.mem_cons_self)).code, (tb _ (List.mem_cons_of_mem _ List.mem_cons_self)).bm, (tb _ (List.mem_cons_of_mem _ List.mem_cons_self)).gP⟩ (tb _ (List.mem_cons_of_mem _ (List.mem_cons_of_mem _ List.mem_cons_self))) (tb _ (List.mem_cons_of_mem _ (List.mem_cons_of_mem _ (List.mem_cons_of_mem _ List.mem_cons_self)))) e0 (th _ List.mem_cons_self) (th _ (List.mem_cons_of_mem _ List.mem_cons_self)) (th _ (List.mem_cons_of_mem _ (List.mem_cons_of_mem _ List.mem_cons_self))) (th _ (List.mem_cons_of_mem _ (List.mem_cons_of_mem _ (List.mem_cons_of_mem _ List.mem_cons_self)))) sq hlen ⟨rfl, by decide, by decide⟩ (fun s u => .of_eq rfl)
end My
open PySem PySem.W PyProof.Rows
set_option maxRecDepth 100000 in
set_option maxHeartbeats 0 in
theorem PySem.Challenge.cw_tiedcut_k17_asked_of_ways_holds : PySem.Challenge.rw_tiedcut_k17_asked_of_ways.Holds := by
  w_on; o_law; k_head; (case hw => w_witness2)
  k_fill
  refine My.walk_law0 (l := PySem.Challenge.rw_tiedcut_k17_asked_of_ways) (most := 63) ["is_row", "refuse_missing", "_law_asked_right", "_law_of_way"] rfl (by decide) rfl (by decide +kernel) (fun w h Y => by first | exact PySem.W.kIn_of Y | exact PySem.W.km_in_of Y) ?F
  case F =>
    intro w mg fa h KX G hmg tabs
    refine' My.all_mk KX G hmg ?a0 ?l0 ?c0 ?k0 ?a1 ?l1 ?c1 ?k1 ?a2 ?l2 ?c2 ?k2 ?a3 ?l3 ?c3 ?k3 ?a4 ?l4 ?c4 ?k4 ?a5 ?l5 ?c5 ?k5 ?a6 ?l6 ?c6 ?k6 ?a7 ?l7 ?c7 ?k7 ?a8 ?l8 ?c8 ?k8 ?a9 ?l9 ?c9 ?k9 ?a10 ?l10 ?c10 ?k10 ?a11 ?l11 ?c11 ?k11 ?a12 ?l12 ?c12 ?k12 ?a13 ?l13 ?c13 ?k13 ?a14 ?l14 ?c14 ?k14 ?a15 ?l15 ?c15 ?k15 ?a16 ?l16 ?c16 ?k16 ?a17 ?l17 ?c17 ?k17 ?a18 ?l18 ?c18 ?k18 ?a19 ?l19 ?c19 ?k19 ?a20 ?l20 ?c20 ?k20 ?a21 ?l21 ?c21 ?k21 ?a22 ?l22 ?c22 ?k22 ?a23 ?l23 ?c23 ?k23 ?a24 ?l24 ?c24 ?k24 ?a25 ?l25 ?c25 ?k25 ?a26 ?l26 ?c26 ?k26 ?a27 ?l27 ?c27 ?k27 ?a28 ?l28 ?c28 ?k28 ?a29 ?l29 ?c29 ?k29 ?a30 ?l30 ?c30 ?k30 ?a31 ?l31 ?c31 ?k31 ?a32 ?l32 ?c32 ?k32 ?a33 ?l33 ?c33 ?k33 ?a34 ?l34 ?c34 ?k34 ?a35 ?l35 ?c35 ?k35 ?a36 ?l36 ?c36 ?k36 ?a37 ?l37 ?c37 ?k37 ?a38 ?l38 ?c38 ?k38 ?a39 ?l39 ?c39 ?k39 ?a40 ?l40 ?c40 ?k40 ?a41 ?l41 ?c41 ?k41 ?a42 ?l42 ?c42 ?k42 ?a43 ?l43 ?c43 ?k43 ?a44 ?l44 ?c44 ?k44 ?z0 ?z1 ?z2 ?z3 ?z4 ?z5 ?z6 ?z7 ?z8 ?z9 ?z10 ?z11 ?z12 ?z13 ?z14 ?q_TreeError ?q_NoRow ?q_NoPoint ?q_Ring ?q_NoTie ?q_Apart ?q_NoPlace ?q_NoDeed ?h_NoRow ?j_NoRow ?e_NoRow ?b_NoRow ?t_NoRow ?m_NoRow ?y_NoRow ?h_NoPoint ?j_NoPoint ?e_NoPoint ?b_NoPoint ?t_NoPoint ?m_NoPoint ?y_NoPoint ?h_Ring ?j_Ring ?e_Ring ?b_Ring ?t_Ring ?m_Ring ?y_Ring ?h_NoTie ?j_NoTie ?e_NoTie ?b_NoTie ?t_NoTie ?m_NoTie ?y_NoTie ?h_Apart ?j_Apart ?e_Apart ?b_Apart ?t_Apart ?m_Apart ?y_Apart ?h_NoPlace ?j_NoPlace ?e_NoPlace ?b_NoPlace ?t_NoPlace ?m_NoPlace ?y_NoPlace ?h_NoDeed ?j_NoDeed ?e_NoDeed ?b_NoDeed ?t_NoDeed ?m_NoDeed ?y_NoDeed ?hkits ?qK ?hK ?qF ?hlF ?hkF ?hoF ?hfF ?qW ?hW ?qA ?hlA ?hkA ?hd_joined ?hd_way ?hd_total ?hd_many ?hd_most ?hd_first ?hd_reach ?hd_kth ?hcR ?lcR ?v11R ?nPR ?hdR ?hcM ?lcM ?v11M ?nPM ?hdM ?hcL ?lcL ?v11L ?nPL ?hdL ?hcO ?lcO ?v11O ?nPO ?hdO ?hneP tabs
    (case a0 => k_is)
    (case l0 => k_is)
    (case c0 => k_is)
    (case k0 => k_is)
    (case a1 => k_is)
    (case l1 => k_is)
    (case c1 => k_is)
    (case k1 => k_is)
    (case a2 => k_is)
    (case l2 => k_is)
    (case c2 => k_is)
    (case k2 => k_is)
    (case a3 => k_is)
    (case l3 => k_is)
    (case c3 => k_is)
    (case k3 => k_is)
    (case a4 => k_is)
    (case l4 => k_is)
    (case c4 => k_is)
    (case k4 => k_is)
    (case a5 => k_is)
    (case l5 => k_is)
    (case c5 => k_is)
    (case k5 => k_is)
    (case a6 => k_is)
    (case l6 => k_is)
    (case c6 => k_is)
    (case k6 => k_is)
    (case a7 => k_is)
    (case l7 => k_is)
    (case c7 => k_is)
    (case k7 => k_is)
    (case a8 => k_is)
    (case l8 => k_is)
    (case c8 => k_is)
    (case k8 => k_is)
    (case a9 => k_is)
    (case l9 => k_is)
    (case c9 => k_is)
    (case k9 => k_is)
    (case a10 => k_is)
    (case l10 => k_is)
    (case c10 => k_is)
    (case k10 => k_is)
    (case a11 => k_is)
    (case l11 => k_is)
    (case c11 => k_is)
    (case k11 => k_is)
    (case a12 => k_is)
    (case l12 => k_is)
    (case c12 => k_is)
    (case k12 => k_is)
    (case a13 => k_is)
    (case l13 => k_is)
    (case c13 => k_is)
    (case k13 => k_is)
    (case a14 => k_is)
    (case l14 => k_is)
    (case c14 => k_is)
    (case k14 => k_is)
    (case a15 => k_is)
    (case l15 => k_is)
    (case c15 => k_is)
    (case k15 => k_is)
    (case a16 => k_is)
    (case l16 => k_is)
    (case c16 => k_is)
    (case k16 => k_is)
    (case a17 => k_is)
    (case l17 => k_is)
    (case c17 => k_is)
    (case k17 => k_is)
    (case a18 => k_is)
    (case l18 => k_is)
    (case c18 => k_is)
    (case k18 => k_is)
    (case a19 => k_is)
    (case l19 => k_is)
    (case c19 => k_is)
    (case k19 => k_is)
    (case a20 => k_is)
    (case l20 => k_is)
    (case c20 => k_is)
    (case k20 => k_is)
    (case a21 => k_is)
    (case l21 => k_is)
    (case c21 => k_is)
    (case k21 => k_is)
    (case a22 => k_is)
    (case l22 => k_is)
    (case c22 => k_is)
    (case k22 => k_is)
    (case a23 => k_is)
    (case l23 => k_is)
    (case c23 => k_is)
    (case k23 => k_is)
    (case a24 => k_is)
    (case l24 => k_is)
    (case c24 => k_is)
    (case k24 => k_is)
    (case a25 => k_is)
    (case l25 => k_is)
    (case c25 => k_is)
    (case k25 => k_is)
    (case a26 => k_is)
    (case l26 => k_is)
    (case c26 => k_is)
    (case k26 => k_is)
    (case a27 => k_is)
    (case l27 => k_is)
    (case c27 => k_is)
    (case k27 => k_is)
    (case a28 => k_is)
    (case l28 => k_is)
    (case c28 => k_is)
    (case k28 => k_is)
    (case a29 => k_is)
    (case l29 => k_is)
    (case c29 => k_is)
    (case k29 => k_is)
    (case a30 => k_is)
    (case l30 => k_is)
    (case c30 => k_is)
    (case k30 => k_is)
    (case a31 => k_is)
    (case l31 => k_is)
    (case c31 => k_is)
    (case k31 => k_is)
    (case a32 => k_is)
    (case l32 => k_is)
    (case c32 => k_is)
    (case k32 => k_is)
    (case a33 => k_is)
    (case l33 => k_is)
    (case c33 => k_is)
    (case k33 => k_is)
    (case a34 => k_is)
    (case l34 => k_is)
    (case c34 => k_is)
    (case k34 => k_is)
    (case a35 => k_is)
    (case l35 => k_is)
    (case c35 => k_is)
    (case k35 => k_is)
    (case a36 => k_is)
    (case l36 => k_is)
    (case c36 => k_is)
    (case k36 => k_is)
    (case a37 => k_is)
    (case l37 => k_is)
    (case c37 => k_is)
    (case k37 => k_is)
    (case a38 => k_is)
    (case l38 => k_is)
    (case c38 => k_is)
    (case k38 => k_is)
    (case a39 => k_is)
    (case l39 => k_is)
    (case c39 => k_is)
    (case k39 => k_is)
    (case a40 => k_is)
    (case l40 => k_is)
    (case c40 => k_is)
    (case k40 => k_is)
    (case a41 => k_is)
    (case l41 => k_is)
    (case c41 => k_is)
    (case k41 => k_is)
    (case a42 => k_is)
    (case l42 => k_is)
    (case c42 => k_is)
    (case k42 => k_is)
    (case a43 => k_is)
    (case l43 => k_is)
    (case c43 => k_is)
    (case k43 => k_is)
    (case a44 => k_is)
    (case l44 => k_is)
    (case c44 => k_is)
    (case k44 => k_is)
    (case z0 => k_is)
    (case z1 => k_is)
    (case z2 => k_is)
    (case z3 => k_is)
    (case z4 => k_is)
    (case z5 => k_is)
    (case z6 => k_is)
    (case z7 => k_is)
    (case z8 => k_is)
    (case z9 => k_is)
    (case z10 => k_is)
    (case z11 => k_is)
    (case z12 => k_is)
    (case z13 => k_is)
    (case z14 => k_is)
    (case q_TreeError => k_is)
    (case q_NoRow => k_is)
    (case q_NoPoint => k_is)
    (case q_Ring => k_is)
    (case q_NoTie => k_is)
    (case q_Apart => k_is)
    (case q_NoPlace => k_is)
    (case q_NoDeed => k_is)
    (case h_NoRow => k_is)
    (case j_NoRow => kernel_rfl)
    (case e_NoRow => kernel_rfl)
    (case b_NoRow => k_is)
    (case t_NoRow => k_is)
    (case m_NoRow => kernel_rfl)
    (case y_NoRow => kernel_rfl)
    (case h_NoPoint => k_is)
    (case j_NoPoint => kernel_rfl)
    (case e_NoPoint => kernel_rfl)
    (case b_NoPoint => k_is)
    (case t_NoPoint => k_is)
    (case m_NoPoint => kernel_rfl)
    (case y_NoPoint => kernel_rfl)
    (case h_Ring => k_is)
    (case j_Ring => kernel_rfl)
    (case e_Ring => kernel_rfl)
    (case b_Ring => k_is)
    (case t_Ring => k_is)
    (case m_Ring => kernel_rfl)
    (case y_Ring => kernel_rfl)
    (case h_NoTie => k_is)
    (case j_NoTie => kernel_rfl)
    (case e_NoTie => kernel_rfl)
    (case b_NoTie => k_is)
    (case t_NoTie => k_is)
    (case m_NoTie => kernel_rfl)
    (case y_NoTie => kernel_rfl)
    (case h_Apart => k_is)
    (case j_Apart => kernel_rfl)
    (case e_Apart => kernel_rfl)
    (case b_Apart => k_is)
    (case t_Apart => k_is)
    (case m_Apart => kernel_rfl)
    (case y_Apart => kernel_rfl)
    (case h_NoPlace => k_is)
    (case j_NoPlace => kernel_rfl)
    (case e_NoPlace => kernel_rfl)
    (case b_NoPlace => k_is)
    (case t_NoPlace => k_is)
    (case m_NoPlace => kernel_rfl)
    (case y_NoPlace => kernel_rfl)
    (case h_NoDeed => k_is)
    (case j_NoDeed => kernel_rfl)
    (case e_NoDeed => kernel_rfl)
    (case b_NoDeed => k_is)
    (case t_NoDeed => k_is)
    (case m_NoDeed => kernel_rfl)
    (case y_NoDeed => kernel_rfl)
    (case hkits => kernel_rfl)
    (case qK => k_is)
    (case hK => kernel_rfl)
    (case qF => k_is)
    (case hlF => k_is)
    (case hkF => repeat (first | exact True.intro | refine ⟨⟨_, _, rfl, rfl⟩, ?_⟩))
    (case hoF => decide +kernel)
    (case hfF => kernel_rfl)
    (case qW => k_is)
    (case hW => kernel_rfl)
    (case qA => k_is)
    (case hlA => k_is)
    (case hkA => repeat (first | exact True.intro | refine ⟨⟨_, _, rfl, rfl⟩, ?_⟩))
    (case hd_joined => k_is)
    (case hd_way => k_is)
    (case hd_total => k_is)
    (case hd_many => k_is)
    (case hd_most => k_is)
    (case hd_first => k_is)
    (case hd_reach => k_is)
    (case hd_kth => k_is)
    (case hcR => rfl)
    (case lcR => k_is)
    (case v11R => rfl)
    (case nPR => kernel_rfl)
    (case hdR => kernel_rfl)
    (case hcM => rfl)
    (case lcM => k_is)
    (case v11M => rfl)
    (case nPM => kernel_rfl)
    (case hdM => kernel_rfl)
    (case hcL => rfl)
    (case lcL => k_is)
    (case v11L => rfl)
    (case nPL => kernel_rfl)
    (case hdL => kernel_rfl)
    (case hcO => rfl)
    (case lcO => k_is)
    (case v11O => rfl)
    (case nPO => kernel_rfl)
    (case hdO => kernel_rfl)
    (case hneP => decide +kernel)
