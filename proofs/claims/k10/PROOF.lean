import PyProof.Rows.All
import Wide.All
import OpenK.AllK
import Wide.FinOn
import HandS.ForMost
import HandS.More
import HandS.Sort
import HandS.Wide
import HandS.WideBits
import HandS.IsInst
import HandS.EndBits
import HandS.Exc
import HandS.ExcOwn
import HandS.ExcValue
import HandS.ExcInit
import HandS.ExcField
import KE.KExcIs
import HandS.TupLe
import HandS.TupAny
import HandS.Zip
import HandS.AnyAll
import HandS.GenOver
import HandS.EndTab
import KE.GoesMore
import PySem.Challenge.RW_tiedcut_k10_what_is_a_row
set_option Elab.async false
set_option linter.all false
set_option maxRecDepth 100000
set_option maxHeartbeats 4000000
namespace My
open PySem PySem.Spec PyProof.Rows L2
/-! ### a generator expression, consumed by all: its own frame -/
def gcx (X : Cx) (s : Shared) (H : Hp) (ge : Env) (fp : List Addr) (Ag : Around) : Cx :=
  { X with A := Ag, s_0 := s, H_0 := H, env := ge, outer := X.stack, stack := ge :: X.stack, ex := fp, fn := fun _ => false, pn := [], xe := fun _ _ => False }
section
variable {X : Cx} {pins : List (Addr × Obj)} {σ : L2.St} {H : Hp} {s : Shared}
theorem clo_in {scope : Scope} {own : List (Str × Nat)} (I : Inv X pins σ H s) (ok : BlkOk X.N X.env.scope scope own) {y : Str} {c : Addr} (hm : (y, c) ∈ cloFrom X.env.cells scope.names []) : X.env.cells.lookup y = some c ∧ c < s.heap.objs.size ∧ (y, NameKind.free) ∈ scope.names := by
  rcases cloFrom_mem hm with z | ⟨h1, rfl⟩
  · cases z
  · have hc : ∃ c, X.env.cells.lookup y = some c := by
      rcases ok.free _ h1 rfl with k | k
      · exact I.ok.has _ (.inl k)
      · exact I.ok.has _ (.inr k)
    obtain ⟨c, hc⟩ := hc
    obtain ⟨v, z⟩ := I.cell _ _ hc
    rw [hc]
    exact ⟨rfl, z.lt, h1⟩
theorem gen_start {scope : Scope} {own : List (Str × Nat)} {fp : List Addr} {ge : Env} {code : Value} {Ag : Around} {s5 : Shared} {m : Str → Option Value} {ga : Addr} {go : Obj} (I : Inv X pins σ H s) (ok : BlkOk X.N X.env.scope scope own) (hN : X.N.Nodup)
    (hfp : ∀ b ∈ fp, FpOk X pins H b ∧ b < s.heap.objs.size) (hge : ge = genEnv scope (cloFrom X.env.cells scope.names []) s.heap.objs.size code builtinsNs X.env) (nocell : ∀ y ∈ scope.names, y.2 ≠ .cell)
    (hA : Ag.handled = none) (hfr : Ag.frames = some (ge :: X.stack)) (k5 : ∀ b o, s.heap.get? b = some o → s5.heap.get? b = some o) (os5 : s5.os = s.os) (bare5 : AllBare s5.gens)
    (ns5 : s5.heap.Ns s.heap.objs.size m) (hga : s5.heap.get? ga = some go) (hgt : s.heap.objs.size < ga) (hgd : ∀ v, go.data ≠ .cell v) :
    Inv (gcx X s H ge fp Ag) [(ga, go)] (wipe σ (own.map (·.2))) H s5 := by
  have hL : ge.locals = s.heap.objs.size := by
    rw [hge]
    rfl
  have hC : ge.cells = cloFrom X.env.cells scope.names [] := by
    rw [hge]
    rfl
  have hS : ge.scope = scope := by
    rw [hge]
    rfl
  have inC : ∀ {y c}, ge.cells.lookup y = some c → X.env.cells.lookup y = some c ∧ c < s.heap.objs.size := fun {y c} e => by
    rw [hC] at e
    have z := clo_in I ok (PySem.mem_of_lookup e)
    exact ⟨z.1, z.2.1⟩
  have look : ∀ {y}, scope.names.lookup y = some .free → ∃ c, ge.cells.lookup y = some c ∧ X.env.cells.lookup y = some c := fun {y} hl => by
    have hm := cloFrom_has (cells := X.env.cells) (acc := []) (PySem.mem_of_lookup hl)
    obtain ⟨c, e⟩ := mem_lookup hm
    rw [← hC] at e
    exact ⟨c, e, (inC e).1⟩
  have kindF : ∀ {y k}, scope.names.lookup y = some k → (k = .cell ∨ k = .free) → scope.names.lookup y = some .free := fun {y k} e hk => by
    rcases hk with rfl | rfl
    · exact absurd rfl (nocell _ (PySem.mem_of_lookup e))
    · exact e
  have okG : (gcx X s H ge fp Ag).Ok := by
    refine ⟨I.ok.mod, ?_, ?_, ?_, ?_, ?_, ?_, ?_, fun _ => hA, hfr, .inr ⟨rfl, ?_⟩, ?_, I.bs, Nat.le_trans I.ok.bsz I.sz, ?_, ?_, I.stack, I.stkFree⟩
    · show ge.scope.kind = .function
      rw [hS]
      exact ok.kind
    · show ge.globals = mainGlobals
      rw [hge]
      exact I.ok.glob
    · show ge.builtins = builtinsNs
      rw [hge]
      rfl
    · show s.heap.objs.size ≤ ge.locals
      rw [hL]
      exact Nat.le_refl _
    · intro y z c e1 e2
      exact I.ok.inj y z c (inC e1).1 (inC e2).1
    · intro y hy
      have e : scope.names.lookup y = some .free := by
        rcases hy with hy | hy
        · have hy2 : ge.scope.names.lookup y = some .cell := hy
          rw [hS] at hy2
          exact kindF hy2 (.inl rfl)
        · have hy2 : ge.scope.names.lookup y = some .free := hy
          rw [hS] at hy2
          exact hy2
      obtain ⟨c, e1, _⟩ := look e
      exact ⟨c, e1⟩
    · intro y c z
      cases z
    · show ge.frame = some ge.locals
      rw [hge]
      rfl
    · intro b hb
      refine ⟨?_, fun y c e z => ?_⟩
      · show b ≠ ge.locals
        rw [hL]
        exact Nat.ne_of_lt (hfp b hb).2
      · exact (hfp b hb).1.2.2.2.2.1 y c (inC e).1 z
    · intro b o e hb
      rcases (hfp b hb).1.2.2.2.1 with z | z
      · exact I.ok.noex b o e z
      · exact absurd (Nat.lt_of_lt_of_le (Heap.lt_size e) (Nat.le_trans I.ok.bsz z)) (Nat.lt_irrefl _)
    · intro b hb z
      rcases List.mem_cons.mp (I.stkSub b z) with z | z
      · exact (hfp b hb).1.2.1 z
      · exact (hfp b hb).1.2.2.1 z
  have frL : H s.heap.objs.size = none := I.hok.fresh (Nat.le_refl _)
  refine ⟨okG, os5, bare5, Un.kept k5, ⟨m, ?_, fun i y av e1 e2 e3 => ?_⟩, fun y c e => ?_, ?_, fun y c e => I.freeC y c (inC e).1, fun p hp => ?_, I.hok.kept k5, by rw [wipe_length]; exact I.len⟩
  · show s5.heap.Ns ge.locals m
    rw [hL]
    exact ns5
  · obtain ⟨e2, hne⟩ := wipe_some e2
    have e3 : Vis ge.scope y := e3
    rw [hS] at e3
    have nol : scope.names.lookup y ≠ some .local := fun z => by
      rcases ok.own _ (PySem.mem_of_lookup z) (.inl rfl) with q | q
      · obtain ⟨p, hp, hpy⟩ := List.mem_map.mp q
        have e5 := ok.ix p hp
        have e6 : p.1 = y := hpy
        rw [e6] at e5
        exact hne (List.mem_map.mpr ⟨p, hp, nodup_ix hN e5 e1⟩)
      · exact q (List.mem_of_getElem? e1)
    have hf : scope.names.lookup y = some .free := by
      rcases e3 with z | z | z
      · exact absurd z nol
      · exact kindF z (.inl rfl)
      · exact z
    obtain ⟨m0, hn, hl⟩ := I.loc
    have hvis : Vis X.env.scope y := (ok.free _ (PySem.mem_of_lookup hf) rfl).elim (fun k => .inr (.inl k)) (fun k => .inr (.inr k))
    obtain ⟨u, r, q⟩ := hl i y av e1 e2 hvis
    obtain ⟨c, g1, g2⟩ := look hf
    refine ⟨u, r, .inr ⟨.inr ?_, c, g1, ?_⟩⟩
    · show ge.scope.names.lookup y = some .free
      rw [hS]
      exact hf
    · rcases q with ⟨k, _⟩ | ⟨_, c', e', z⟩
      · have k : X.env.scope.names.lookup y = some .local := k
        rcases ok.free _ (PySem.mem_of_lookup hf) rfl with k' | k'
        · have k2 : X.env.scope.names.lookup y = some .cell := k'
          rw [k2] at k
          cases k
        · have k2 : X.env.scope.names.lookup y = some .free := k'
          rw [k2] at k
          cases k
      · rw [g2] at e'
        cases e'
        exact z.keeps k5
  · obtain ⟨v, z⟩ := I.cell y c (inC e).1
    exact ⟨v, z.keeps k5⟩
  · show H ge.locals = none
    rw [hL]
    exact frL
  · have hp2 : p ∈ ([] : List (Addr × Obj)) ++ [(ga, go)] := hp
    rw [List.nil_append] at hp2
    rcases List.mem_cons.mp hp2 with e | e
    · subst e
      refine ⟨hga, I.hok.fresh (Nat.le_of_lt hgt), ?_, fun z => ?_, hgd⟩
      · show ga ≠ ge.locals
        rw [hL]
        exact Nat.ne_of_gt hgt
      · have z2 : ga ∈ frs X.stack := z
        obtain ⟨_, o, ho, _⟩ := I.stack.mem z2
        exact absurd (Nat.lt_trans (Heap.lt_size ho) hgt) (Nat.lt_irrefl _)
    · cases e
end
section
variable {X : Cx} {pins : List (Addr × Obj)} {σ : L2.St} {H : Hp} {s : Shared}
/-- the generator's object -/
def genO (X : Cx) (s4 : Shared) : Obj := { cls := .type "generator", data := .fields #[.int s4.gens.size 0, .str "<genexpr>" (s4.toks + 1), .str (X.env.qual ++ "<genexpr>") (s4.toks + 1 + 1)] }
/-- the generator is made: its source has come, the def's table may have grown -/
theorem gen_make {c P : Addr} {elt tg iter : Expr} {gpos : Pos} {scope : Scope} {own : List (Str × Nat)} {wi : TI} {k : Nat} {Q' : Value → Shared → Prop} {R : It → Hp → Prop} (hr : Room k X.A) (TB : GxR.TabB X.base X.mg c P) (hcode : X.env.code = .ref c)
    (ok : BlkOk X.N X.env.scope scope own) (hco : scope.isCoroutine = false) (nocell : ∀ y ∈ scope.names, y.2 ≠ .cell) (hdot : scope.names.lookup (".0" : Str) = some NameKind.local) (hi : PI X tg iter wi) (hs : ∀ v, genFold iter X.env v = pure v)
    (I : Inv X pins σ H s) (h : wi σ H fun J H1 => GxR.TabG H1 P ∧ R J H1)
    (hQ : ∀ (it : Addr) (fp : List Addr) (tn : Nat → Heap → Prop) (J : It) (H1 H2 : Hp) (code : Value) (s4 : Shared) (h5 : Heap), Inv X pins σ H2 s4 → GxR.Tabbed P H1 H2 → Turn X.prog X.w X.K tg J fp it tn → tn 0 s4.heap →
      (∀ b ∈ fp, FpOk X pins H2 b ∧ b < s4.heap.objs.size) → R J H1 → h5.Ns s4.heap.objs.size (fun y => if y = ".0" then some (.ref it) else none) → Heap.SameBut s4.heap.objs.size (s4.heap.push { cls := .type "frame", data := .dict #[] }) h5 →
      Q' (.ref h5.objs.size) { s4 with gens := s4.gens.push (.fresh (.compStart (.GeneratorExp elt [⟨tg, iter, [], 0⟩] scope gpos) 0 (.ref it) .none (genEnv scope (cloFrom X.env.cells scope.names []) s4.heap.objs.size code builtinsNs X.env))), toks := s4.toks + 1 + 1 + 1, heap := h5.push (genO X s4) }) :
    wpAny (model X.prog X.w) X.A (eval (.GeneratorExp elt [⟨tg, iter, [], 0⟩] scope gpos) X.env) Q' X.xe s := by
  have hfree : ∀ y ∈ scope.names, y.2 = .free → ∃ c, X.env.cells.lookup y.1 = some c := fun y hy e => by
    rcases ok.free y hy e with z | z
    · exact I.ok.has _ (.inl z)
    · exact I.ok.has _ (.inr z)
  refine wpAny_GeneratorExp_make hco (closure_ok hfree) nocell hdot ok.kind (by have := hr.dp; omega) ?_ hs
  refine thn (hi.run pins s σ H _ I h) fun xv s1 hx => thn hx fun itv s2 h2 => ?_
  obtain ⟨it, fp, tn, J, H1, rfl, I1, T, st, f1, ⟨ps, hP, ht⟩, q1⟩ := h2
  have hPs : s2.heap.get? P = some { cls := .none, data := .fields ps } := I1.hok P _ hP
  have cd : PySem.W.CodeHd s2.heap c P := TB.code.keeps fun b u e => I1.bk b u e
  have nP : ∀ b, H1 b = none → b ≠ P := fun b e z => by
    rw [z, hP] at e
    cases e
  have fsz : ∀ b ∈ fp, b < s2.heap.objs.size := fun b hb => by
    obtain ⟨o, e, _⟩ := T.obj _ _ st b hb
    exact Heap.lt_size e
  have cont : ∀ (code : Value) (h3 : Heap) (tk : Nat) (ps' : Array Value), Heap.ExtBut P s2.heap h3 → s2.heap.objs.size ≤ h3.objs.size → h3.get? P = some { cls := .none, data := .fields ps' } → (∃ more, ps' = ps ++ more) → TriplesOk ps'.toList →
      wpAny (model X.prog X.w) X.A (builtinsFor X.env.globals X.env.builtins) (fun bi s4 => ∀ h5, h5.Ns s4.heap.objs.size (fun y => if y = ".0" then some (.ref it) else none) → Heap.SameBut s4.heap.objs.size (s4.heap.push { cls := .type "frame", data := .dict #[] }) h5 →
        Q' (.ref h5.objs.size) { s4 with gens := s4.gens.push (.fresh (.compStart (.GeneratorExp elt [⟨tg, iter, [], 0⟩] scope gpos) 0 (.ref it) .none (genEnv scope (cloFrom X.env.cells scope.names []) s4.heap.objs.size code bi X.env))), toks := s4.toks + 1 + 1 + 1, heap := h5.push (genO X s4) }) X.xe { s2 with heap := h3, toks := tk } := by
    intro code h3 tk ps' hx hsz hP3 hmore ht3
    obtain ⟨bm, ob, e1, e2, e3, e4, e5, e6, e7, e8⟩ := TB.bm
    have keep3 : ∀ b u, b ≠ P → s2.heap.get? b = some u → h3.get? b = some u := fun b u hb e => hx b u hb e
    refine wpAny_builtinsFor (m := X.mg) (by rw [I1.ok.glob]; exact (I1.mod.glob.keeps I1.bk).extBut hx TB.gP) e1 e2 (keep3 _ _ e4 (I1.bk _ _ e5)) e6 e7 e8 ?_
    intro h5 n5 b5
    obtain ⟨more, em⟩ := hmore
    have J0 := GxR.inv_tab (more := more) (h' := h3) (g' := s2.gens) (d' := s2.drawn) (t' := tk) I1 hP keep3 (by rw [← em]; exact hP3) I1.bare
    refine hQ it fp tn J H1 (upd H1 P (.tbl (ps ++ more))) code { s2 with heap := h3, toks := tk } h5 J0 ⟨⟨ps ++ more, upd_same, by rw [← em]; exact ht3⟩, fun b hb => upd_ne hb⟩ T ?_ ?_ q1 n5 b5
    · refine T.keep _ _ _ st fun b hb o e => keep3 b o (nP b (f1 b hb).1) e
    · intro b hb
      refine ⟨⟨?_, (f1 b hb).2⟩, Nat.lt_of_lt_of_le (fsz b hb) hsz⟩
      rw [upd_ne (nP b (f1 b hb).1)]
      exact (f1 b hb).1
  refine ⟨I1.nolimit, ?_⟩
  cases hf : codeAmong gpos ps.toList with
  | none =>
    refine wpAny_genexprCodeX hcode (cd.code hPs ht) (cd.tab hPs) hf fun c' h' tk hx hge hlt hco' _ htab' _ => ?_
    obtain ⟨o1, vs, f1', tf, fl, tg', inF, tx, tt, op, _, _, _, _, _, _, _, _, _, htr, _⟩ := hco'
    exact cont _ h' tk _ hx (Nat.le_trans hge (Nat.le_of_lt hlt)) htab'.2 ⟨_, rfl⟩ htr
  | some cv =>
    refine wpAny_genexprCode_hit hcode (cd.code hPs ht) hf ?_
    exact cont cv s2.heap s2.toks ps (Heap.ExtBut.refl _ _) (Nat.le_refl _) hPs ⟨#[], by simp⟩ ht
end
/-- nothing but the table of generators has changed -/
structure Woke (s s2 : Shared) : Prop where
  hp : s2.heap = s.heap
  os : s2.os = s.os
  br : AllBare s2.gens
theorem inv_woke {X : Cx} {pins : List (Addr × Obj)} {σ : L2.St} {H : Hp} {s s2 : Shared} (I : Inv X pins σ H s) (k : Woke s s2) : Inv X pins σ H s2 := by
  obtain ⟨h2, g2, d2, t2, o2⟩ := s2
  obtain ⟨h1, g1, d1, t1, o1⟩ := s
  obtain ⟨e1, e2, br⟩ := k
  dsimp only at e1 e2
  subst e1 e2
  exact ⟨I.ok, I.os, br, I.base, I.loc, I.cell, I.free, I.freeC, I.pin, I.hok, I.len⟩
/-- what a generator expression under all is asked -/
def gTurns (J : It) (g : TG) (te : TE) (σw : L2.St) (vs : List Nat) (W : Nat → Nat → Hp → Prop) (Q : Bool → Hp → Prop) : Prop :=
  ∀ i m H, W i m H → (J.stop i H ∧ Q true H) ∨ (J.go i H ∧ ∀ x H', J.yld i H x H' → g x σw H' fun σ2 H2 => wipe σ2 vs = σw ∧ te σ2 H2 fun y H3 => ∃ b, y = .bl b ∧ if b = true then ∃ m', m' < m ∧ W (i + 1) m' H3 else Q false H3)
def gFin (G : Cx) (pn : Addr × Obj) (σw : L2.St) (Q : Bool → Hp → Prop) (b : Bool) (s : Shared) : Prop := ∃ H', Inv G [pn] σw H' s ∧ Q b H'
def gY (G : Cx) (pn : Addr × Obj) (σw : L2.St) (Q : Bool → Hp → Prop) : Protocol := fun _ _ v s kap =>
  ∃ b : Bool, v = .bool b ∧ (∃ H', Inv G [pn] σw H' s) ∧ (b = true → ∀ s2, Woke s s2 → kap (.send .none) s2) ∧ (b = false → gFin G pn σw Q false s)
section
variable {G : Cx} {pn : Addr × Obj} {σw : L2.St} {Q : Bool → Hp → Prop} {A2 : Around} {elt tg iter : Expr} {scope : Scope} {gpos : Pos} {it : Addr} {fp : List Addr} {tn : Nat → Heap → Prop} {J : It} {g : TG} {te : TE} {vs : List Nat} {W : Nat → Nat → Hp → Prop}
theorem gen_loop (hA : G.A = A2.over (.compLoop (.GeneratorExp elt [⟨tg, iter, [], 0⟩] scope gpos) 0 (.ref it) .none G.env) []) (hc : G.calm = true) (hex : G.ex = fp) (hpn : G.pn = []) (hxe : G.xe = fun _ _ => False) (hco : G.env.scope.isCoroutine = false)
    (T : Turn G.prog G.w G.K tg J fp it tn) (hgp : ∀ b ∈ fp, pn.1 ≠ b) (pg : PG G tg g) (pe : PE G elt te) (hsw : ∀ σ2 : L2.St, wipe σ2 vs = σw → σ2.length = σw.length ∧ ∀ (i : Nat) v, σw[i]? = some (some v) → σ2[i]? = some (some v)) (turn : gTurns J g te σw vs W Q) :
    ∀ (m n i : Nat) (s₀ s : Shared), m < n → (∃ H', Inv G [pn] σw H' s ∧ tn i s.heap ∧ (∀ b ∈ fp, H' b = none) ∧ W i m H') →
      Seg (model G.prog G.w) A2 (fun _ _ r s1 => r = .ok .next ∧ gFin G pn σw Q true s1) (gY G pn σw Q) n s₀ (.compLoop (.GeneratorExp elt [⟨tg, iter, [], 0⟩] scope gpos) 0 (.ref it) .none G.env)
        ((model G.prog G.w).den (.compLoop (.GeneratorExp elt [⟨tg, iter, [], 0⟩] scope gpos) 0 (.ref it) .none G.env)) [] s := by
  have stat : ∀ {σ' : L2.St} {H' : Hp} {s' : Shared}, Inv G [pn] σ' H' s' → (∀ b ∈ fp, H' b = none) → ∀ b ∈ fp, FpOk G [pn] H' b := fun {σ' H' s'} I' hn b hb => by
    have hb2 : b ∈ G.ex := by
      rw [hex]
      exact hb
    refine ⟨hn b hb, (I'.ok.exf b hb2).1, I'.ok.exfs b hb2, .inl hb2, fun x c e => (I'.ok.exf b hb2).2 x c e, fun p hp => ?_⟩
    rw [hpn] at hp
    have hp2 : p ∈ [pn] := hp
    rw [List.mem_singleton.mp hp2]
    exact hgp b hb
  intro m
  induction m using Nat.strongRecOn with
  | ind m ih =>
    rintro n i s₀ s hmn ⟨H', I, st, nf, w⟩
    obtain ⟨n, rfl⟩ : ∃ n', n = n' + 1 := ⟨n - 1, by omega⟩
    show Seg _ A2 _ _ _ s₀ _ ((compTurn (.GeneratorExp elt [⟨tg, iter, [], 0⟩] scope gpos) 0 (.ref it) .none G.env).onRaise (leaving G.env)) [] s
    rw [compTurn_gen, Sem.onRaise_eq_wrap]
    refine seg_bind_wrap (wpAny_standAt ?_)
    rcases turn i m H' w with ⟨stop, qq⟩ | ⟨gox, step⟩
    · have td := T.done G rfl rfl rfl hc i [pn] s σw H' (fun _ _ => False) I (stat I nf) st stop
      rw [hA] at td
      refine seg_bind_wrap (thnF td fun r s6 z => ?_)
      obtain ⟨hr, I6⟩ := z
      subst hr
      exact seg_end (.ok .next) ⟨rfl, H', I6, qq⟩
    · have ti := T.item G rfl rfl rfl hc i [pn] s σw H' (fun _ _ => False) I (stat I nf) st gox
      rw [hA] at ti
      refine seg_bind_wrap (thnF ti fun r s6 z => ?_)
      obtain ⟨u, hr, h6⟩ := z
      subst hr
      refine seg_bind_wrap (thnF h6 fun _ s7 z => ?_)
      obtain ⟨x, H7, I7, r7, y7, st7, n7⟩ := z
      have I7' := I7.pinned (stat I7 n7) (T.obj _ _ st7)
      have pr := pg.run _ s7 _ H7 x u _ I7' r7 (step x H7 y7)
      rw [hA, hxe] at pr
      refine seg_bind_wrap (thnF pr fun _ s8 z => ?_)
      obtain ⟨σ8, H8, I8, hw8, q8⟩ := z
      have hy : ∀ v, yieldOut G.env v = yieldValue v := fun v => by simp only [yieldOut, hco, Bool.false_eq_true, if_false]
      simp only [List.forIn_nil, hy]
      refine seg_bind_wrap (wpAny_pure ?_)
      simp only [if_true]
      rw [Sem.bind_eq_wrap', Sem.bind_eq_wrap', Sem.wrap_wrap, Sem.wrap_wrap]
      have er := pe.run _ s8 σ8 H8 _ I8 q8
      rw [hA, hxe] at er
      refine seg_wrap (thnF er fun z s10 zz => ?_)
      obtain ⟨yv, H10, I10, r10, b, rfl, nx⟩ := zz
      cases r10
      have pin' : ∀ b ∈ fp, ∀ o, s7.heap.get? b = some o → s10.heap.get? b = some o ∧ H10 b = none := fun b hb o e =>
        let z := I10.pin (b, o) (List.mem_append_right _ (List.mem_append_right _ (mem_pinsAt hb e)))
        ⟨z.1, z.2.1⟩
      obtain ⟨hl8, hk8⟩ := hsw σ8 hw8
      have J10 : Inv G [pn] σw H10 s10 := (I10.unpinned (pins := [pn])).weak hl8.symm hk8
      refine seg_at (seg_yield rfl rfl rfl ⟨b, rfl, ⟨H10, J10⟩, fun hb s2 wk => ?_, fun hb => ?_⟩)
      · subst hb
        rw [if_pos rfl] at nx
        obtain ⟨m', hm', w'⟩ := nx
        refine seg_again rfl (ih m' hm' n (i + 1) s2 s2 (by omega) ⟨H10, inv_woke J10 wk, ?_, fun b hb => ?_, w'⟩)
        · rw [wk.hp]
          exact T.keep _ _ _ st7 fun b hb o e => (pin' b hb o e).1
        · obtain ⟨o, e, _⟩ := T.obj _ _ st7 b hb
          exact (pin' b hb o e).2
      · subst hb
        exact ⟨H10, J10, nx⟩
end
section
variable {M : Model} {A2 : Around} {R : GenEnd} {Y : Protocol} {n : Nat} {s₀ s : Shared} {elt tg iter : Expr} {scope : Scope} {gpos : Pos} {it : Addr} {ge : Env}
/-- the first turn -/
theorem gen_first {P : Program} {w : World} (hself : ∀ (Q : Value → Shared → Prop) (E : Value → Shared → Prop), Q (.ref it) s → wpAny (model P w) (A2.over (.compStart (.GeneratorExp elt [⟨tg, iter, [], 0⟩] scope gpos) 0 (.ref it) .none ge) []) (pyIter (.ref it)) Q E s)
    (loop : Seg (model P w) A2 R Y n s₀ (.compLoop (.GeneratorExp elt [⟨tg, iter, [], 0⟩] scope gpos) 0 (.ref it) .none ge) ((model P w).den (.compLoop (.GeneratorExp elt [⟨tg, iter, [], 0⟩] scope gpos) 0 (.ref it) .none ge)) [] s) :
    Seg (model P w) A2 R Y n s₀ (.compStart (.GeneratorExp elt [⟨tg, iter, [], 0⟩] scope gpos) 0 (.ref it) .none ge) ((model P w).den (.compStart (.GeneratorExp elt [⟨tg, iter, [], 0⟩] scope gpos) 0 (.ref it) .none ge)) [] s := by
  show Seg _ A2 _ _ _ s₀ _ ((compStart (.GeneratorExp elt [⟨tg, iter, [], 0⟩] scope gpos) 0 (.ref it) .none ge).onRaise (leaving ge)) [] s
  unfold compStart
  rw [Sem.onRaise_eq_wrap]
  show Seg _ A2 _ _ _ s₀ _ ((ask >>= _).wrap _ _ _ _) [] s
  refine seg_bind_wrap (wpAny_askSetting ?_)
  split
  · exact seg_again rfl loop
  · first
      | exact seg_bind_wrap (wpAny_rule (seg_bind_wrap (wpAny_standAt (seg_bind_wrap (hself _ _ (seg_again rfl loop))))))
      | (refine seg_bind_wrap (wpAny_rule ?_)
         show Seg _ A2 _ _ _ s₀ _ ((standAt iter.pos >>= _).wrap _ _ _ _) [] s
         exact seg_bind_wrap (wpAny_standAt (seg_bind_wrap (hself _ _ (seg_again rfl loop)))))
end
theorem bare_set {gens : Array GenState} {x : GenState} (h : AllBare gens) (hx : x.bare = true) (i : Nat) : AllBare (gens.setIfInBounds i x) := fun y hy => by
  rw [Array.mem_iff_getElem?] at hy
  obtain ⟨j, hj⟩ := hy
  by_cases e : i = j
  · subst e
    by_cases hi : i < gens.size
    · rw [Array.getElem?_setIfInBounds_self_of_lt hi] at hj
      rw [← Option.some.inj hj]
      exact hx
    · rw [Array.getElem?_eq_none (by simpa using hi)] at hj
      cases hj
  · rw [Array.getElem?_setIfInBounds_ne e] at hj
    exact h y (Array.mem_iff_getElem?.mpr ⟨j, hj⟩)
/-- all over the generator at a, number gi: its turns by the protocol -/
theorem all_gen {G : Cx} {pn : Addr × Obj} {σw : L2.St} {Q : Bool → Hp → Prop} {A : Around} {gi : Nat} {RR : Result → Shared → Prop} (hh : A.handled = none) (hroom : A.depth < recursionLimit) (hgen : ∀ h : Heap, h.get? pn.1 = some pn.2 → h.IsGen pn.1 gi)
    (hR : ∀ b s1, gFin G pn σw Q b s1 → ∀ s2 : Shared, (∀ b o, s1.heap.get? b = some o → s2.heap.get? b = some o) → s2.os = s1.os → AllBare s2.gens → RR (.ok (.ret (.bool b))) s2) :
    ∀ (n : Nat) (s : Shared), (∃ H', Inv G [pn] σw H' s) → gi < s.gens.size → (∃ gs, s.gens[gi]? = some gs ∧ ∀ s2, Woke s s2 → gs.Goes (model G.prog G.w) A.in1.in1 (fun _ _ r s1 => r = .ok .next ∧ gFin G pn σw Q true s1) (gY G pn σw Q) n (.send .none) s2) →
      codeAny (model G.prog G.w) A (.builtin "all.loop" ⟨[.ref pn.1], []⟩) RR s := by
  intro n
  induction n using Nat.strongRecOn with
  | ind n ih =>
    rintro s ⟨H', I⟩ hgi ⟨gs, hgs, hgo⟩
    have hpin := (I.pin pn (List.mem_append_right _ (List.mem_singleton.mpr rfl))).1
    have brun : AllBare (s.setGen gi .running).gens := bare_set I.bare rfl gi
    refine codeAny_builtin F.entry_all_loop ?_
    rw [Around.under_plainId F.plain_all_loop _]
    show wpAny _ A.in1 (pyNext (.ref pn.1) >>= _) _ _ s
    refine wpAny_bind (GenW.wpAny_gsz (n := s.gens.size) (Nat.le_refl _) ?_)
    refine wpAny_pyNext_genexpQ (P := fun _ _ s1 => gFin G pn σw Q true s1) hh I.nolimit hroom (hgen _ hpin) hgs (hgo _ ⟨rfl, rfl, brun⟩) (fun v s₁ gs' hb hv hsz => ?_) (fun s₁ hp h' hk hsz => ?_)
    · obtain ⟨b, rfl, ⟨H1, I1⟩, ht, hf⟩ := hv
      have b1 : AllBare (s₁.setGen gi gs').gens := bare_set I1.bare hb gi
      refine wpAny_bind (wpAny_holding (wpAny_truthy_bool ?_))
      refine wpAny_bind (wpAny_letGo ?_)
      cases b with
      | false =>
        simp only [Bool.false_eq_true, if_false]
        refine wpAny_bind (wpAny_rule (wpAny_pure ?_))
        exact hR false s₁ (hf rfl) (s₁.setGen gi gs') (fun _ _ e => e) rfl b1
      | true =>
        simp only [if_true]
        have hlt : gi < (s₁.setGen gi gs').gens.size := Nat.lt_of_lt_of_le hgi hsz
        have hlt1 : gi < s₁.gens.size := by
          have e := GenW.setGen_size s₁ gi gs'
          omega
        cases n with
        | zero => exact absurd (ht rfl s₁ ⟨rfl, rfl, I1.bare⟩) id
        | succ n =>
          refine wpAny_pure ⟨plainId_quiet F.plain_all_loop _, ih n (Nat.lt_succ_self n) (s₁.setGen gi gs') ⟨H1, inv_woke I1 ⟨rfl, rfl, b1⟩⟩ hlt ⟨gs', ?_, fun s2 wk => ht rfl s2 ⟨wk.hp, wk.os, wk.br⟩⟩⟩
          show (s₁.gens.setIfInBounds gi gs')[gi]? = some gs'
          rw [Array.getElem?_setIfInBounds_self_of_lt hlt1]
    · refine wpAny_bind (wpAny_rule (wpAny_pure ?_))
      obtain ⟨H1, I1, q1⟩ := id hp
      exact hR true s₁ hp { s₁.setGen gi .finished with heap := h' } hk rfl (bare_set I1.bare rfl gi)
def tAllG (P : Addr) (wi : TI) (g : TG) (te : TE) (vs : List Nat) : TE := fun σ H Q => wi σ H fun J H1 => GxR.TabG H1 P ∧ ∀ H2, GxR.Tabbed P H1 H2 → ∃ W : Nat → Nat → Hp → Prop, (∃ m, W 0 m H2) ∧ gTurns J g te (wipe σ vs) vs W (fun b H' => Q (.bl b) H')
theorem pe_allG {X : Cx} {c P : Addr} {elt tg iter : Expr} {p pos gpos : Pos} {scope : Scope} {own : List (Str × Nat)} {wi : TI} {g : TG} {te : TE} {k : Nat} (hr : Room (k + 1) X.A) (hc : X.calm = true) (hN : X.N.Nodup) (hg : Gl X "all") (hm : X.mg "all" = none) (hb : bootBuiltins "all" = some (.builtin "all"))
    (TB : GxR.TabB X.base X.mg c P) (hcode : X.env.code = .ref c) (ok : BlkOk X.N X.env.scope scope own) (hco : scope.isCoroutine = false) (nocell : ∀ y ∈ scope.names, y.2 ≠ .cell) (hdot : scope.names.lookup (".0" : Str) = some NameKind.local) (hi : PI X tg iter wi)
    (hgt : ∀ (s : Shared) (H : Hp) (cl : List (Str × Addr)) (C : Addr) (code : Value) (fp : List Addr) (Ag : Around), PG (gcx X s H (genEnv scope cl C code builtinsNs X.env) fp Ag) tg g)
    (hel : ∀ (s : Shared) (H : Hp) (cl : List (Str × Addr)) (C : Addr) (code : Value) (fp : List Addr) (Ag : Around), Room k Ag → PE (gcx X s H (genEnv scope cl C code builtinsNs X.env) fp Ag) elt te)
    (hs : ∀ v, genFold iter X.env v = pure v := by intro _; rfl)
    (he : starEach [.GeneratorExp elt [⟨tg, iter, [], 0⟩] scope gpos] X.env = (false, eval (.GeneratorExp elt [⟨tg, iter, [], 0⟩] scope gpos) X.env) :: starEach [] X.env := by rfl) :
    PE X (.Call (.Name "all" p) [.GeneratorExp elt [⟨tg, iter, [], 0⟩] scope gpos] [] pos) (tAllG P wi g te (own.map (·.2))) := by
  constructor
  intro pins s σ H Q I h
  refine wpAny_Call_Name_kw (ld_blt I hg hm hb ?_)
  refine PyProof.Rows.callWith_builtin1 ?_ he (by rfl)
  rw [he]
  show wpAny _ _ (spliced ((false, eval (.GeneratorExp elt [⟨tg, iter, [], 0⟩] scope gpos) X.env) :: backTo pos (starEach [] X.env))) _ _ s
  refine Calls.spliced_cons (gen_make (hr.mono (Nat.le_succ k)) TB hcode ok hco nocell hdot hi hs I h fun it fp tn J H1 H2 code s4 h5 I4 tb T st f4 hR n5 b5 => ?_)
  refine Calls.spliced_nil ?_
  obtain ⟨W, ⟨m, w0⟩, turns⟩ := hR H2 tb
  show wpAny _ _ (call (.builtin "all") [.ref h5.objs.size]) _ _ _
  have sz5 : h5.objs.size = s4.heap.objs.size + 1 := by
    rw [b5.1, Heap.size_push]
  generalize hge : genEnv scope (cloFrom X.env.cells scope.names []) s4.heap.objs.size code builtinsNs X.env = ge
  have k5 : ∀ b o, s4.heap.get? b = some o → (h5.push (genO X s4)).get? b = some o := fun b o e =>
    Heap.get?_push_of_some _ (b5.extBut b o (Nat.ne_of_lt (Heap.lt_size e)) (Heap.get?_push_of_some _ e))
  have ga5 : (h5.push (genO X s4)).get? h5.objs.size = some (genO X s4) := Heap.get?_push_size _ rfl
  have hAg : (X.A.in1.in1.over (.compLoop (.GeneratorExp elt [⟨tg, iter, [], 0⟩] scope gpos) 0 (.ref it) .none ge) []).handled = none := hr.hd
  have hFr : (X.A.in1.in1.over (.compLoop (.GeneratorExp elt [⟨tg, iter, [], 0⟩] scope gpos) 0 (.ref it) .none ge) []).frames = some (ge :: X.stack) := by
    show pushEnvs [ge] (pushEnvs [] X.A.frames) = some (ge :: X.stack)
    rw [I4.ok.frames]
    rfl
  have hRm : Room k (X.A.in1.in1.over (.compLoop (.GeneratorExp elt [⟨tg, iter, [], 0⟩] scope gpos) 0 (.ref it) .none ge) []) := by
    have e1 : (X.A.in1.in1.over (.compLoop (.GeneratorExp elt [⟨tg, iter, [], 0⟩] scope gpos) 0 (.ref it) .none ge) []).depth = X.A.depth + 1 := rfl
    have e2 : (X.A.in1.in1.over (.compLoop (.GeneratorExp elt [⟨tg, iter, [], 0⟩] scope gpos) 0 (.ref it) .none ge) []).units = X.A.units + 5 := rfl
    have d1 := hr.dp
    have d2 := hr.un
    exact ⟨hr.hd, by rw [e1]; omega, by rw [e2]; omega⟩
  have I5 := gen_start (s5 := { s4 with gens := s4.gens.push (.fresh (.compStart (.GeneratorExp elt [⟨tg, iter, [], 0⟩] scope gpos) 0 (.ref it) .none ge)), toks := s4.toks + 1 + 1 + 1, heap := h5.push (genO X s4) }) I4 ok hN f4 hge.symm nocell hAg hFr k5 rfl (I4.bare.push rfl) (n5.keeps fun b o e => Heap.get?_push_of_some _ e) ga5 (by omega) (fun v z => by cases z)
  have st5 : tn 0 (h5.push (genO X s4)) := T.keep _ _ _ st fun b _ o e => k5 b o e
  refine call_function_tree F.kind_all F.plain_all F.entry_all (F.args_all1 _) ?_
  unfold Builtin.«all»
  refine wpAny_bind (m := oneArg "all" _) (wpAny_pure ?_)
  have isg : ∀ hh : Heap, hh.get? h5.objs.size = some (genO X s4) → hh.IsGen h5.objs.size s4.gens.size := fun hh e => ⟨_, _, _, e, rfl, rfl, rfl⟩
  refine wpAny_bind (wpAny_pyIter_gen (isg _ ga5) ?_)
  refine wpAny_pure ⟨plainId_quiet F.plain_all_loop _, ?_⟩
  refine all_gen (G := gcx X s4 H2 ge fp (X.A.in1.in1.over (.compLoop (.GeneratorExp elt [⟨tg, iter, [], 0⟩] scope gpos) 0 (.ref it) .none ge) [])) (pn := (h5.objs.size, genO X s4)) (σw := wipe σ (own.map (·.2))) (Q := fun b H' => Q (.bl b) H') (gi := s4.gens.size)
    hr.hd (by have := hr.dp; omega) isg (fun b s1 hf s2 hk ho hbr => ?_) (m + 1) _ ⟨H2, I5⟩ (by show s4.gens.size < (s4.gens.push _).size; rw [Array.size_push]; omega) ⟨.fresh (.compStart (.GeneratorExp elt [⟨tg, iter, [], 0⟩] scope gpos) 0 (.ref it) .none ge), by show (s4.gens.push _)[s4.gens.size]? = some _; rw [Array.getElem?_push_size], fun s2 wk => ⟨rfl, ?_⟩⟩
  · obtain ⟨H', I', q'⟩ := hf
    have un : Un (frs X.stack) fp H2 H' s4.heap s2.heap := Un.trans I'.base (Un.kept hk)
    have J' : Inv X pins σ H' s2 := I4.call' (ch := fp) (ho.trans I'.os) un (I'.hok.kept hk) hbr fun b hb => ⟨(f4 b hb).1.2.2.2.1, (f4 b hb).1.2.1, (f4 b hb).1.2.2.2.2.1, (f4 b hb).1.2.2.2.2.2⟩
    exact ⟨.bl b, H', J', rfl, q'⟩
  · have nfp : ∀ b ∈ fp, H2 b = none := fun b hb => (f4 b hb).1.1
    refine gen_first (fun Q1 E1 q1 => T.self _ 0 s2 Q1 E1 (by rw [wk.hp]; exact st5) q1) ?_
    refine gen_loop (G := gcx X s4 H2 ge fp (X.A.in1.in1.over (.compLoop (.GeneratorExp elt [⟨tg, iter, [], 0⟩] scope gpos) 0 (.ref it) .none ge) [])) (tn := tn) (vs := own.map (·.2)) (W := W) rfl hc rfl rfl rfl ?_ T (fun b hb => ?_) ?_ ?_ ?_ turns m (m + 1) 0 s2 s2 (Nat.lt_succ_self m) ⟨H2, inv_woke I5 wk, by rw [wk.hp]; exact st5, nfp, w0⟩
    · show ge.scope.isCoroutine = false
      rw [← hge]
      exact hco
    · have hb4 : b < s4.heap.objs.size := (f4 b hb).2
      intro z
      have z2 : h5.objs.size = b := z
      rw [← z2, sz5] at hb4
      exact absurd hb4 (Nat.not_lt.mpr (Nat.le_succ _))
    · rw [← hge]
      exact hgt _ _ _ _ _ _ _
    · subst hge
      exact hel _ _ _ _ _ _ _ hRm
    · intro σ2 e2
      refine ⟨?_, fun i v e3 => ?_⟩
      · rw [← wipe_length σ2 (own.map (·.2)), e2]
      · rw [← e2] at e3
        exact (wipe_some e3).1

/-- all over zip of two tuples of one length -/
theorem gturns_zipT {K : PySem.W.Frag} {a b : Addr} {xs ys : List V} {g : TG} {te : TE} {σw : L2.St} {vs : List Nat} {Q : Bool → Hp → Prop} {H : Hp} (hl : xs.length = ys.length) (Pv : Nat → Hp → Prop) (h0 : Pv 0 H) (hq : ∀ i H, Pv i H → SqT K H a xs ∧ SqT K H b ys)
    (hs : ∀ (i : Nat) (x y : V) (T : Addr) (H : Hp) (N : Hp → Prop), xs[i]? = some x → ys[i]? = some y → Pv i H → H T = none → (∀ H3, Pv (i + 1) H3 → N H3) → g (.ref T) σw (upd H T (.tup [x, y])) fun σ2 H2 => wipe σ2 vs = σw ∧ te σ2 H2 fun v H3 => ∃ b, v = .bl b ∧ if b = true then N H3 else Q false H3)
    (hd : ∀ H, Pv xs.length H → Q true H) : ∃ W : Nat → Nat → Hp → Prop, (∃ m, W 0 m H) ∧ gTurns (RZ.ItzT K a b) g te σw vs W Q := by
  refine ⟨fun i m H => m = xs.length - i ∧ i ≤ xs.length ∧ Pv i H, ⟨xs.length, rfl, Nat.zero_le _, h0⟩, fun i m H st => ?_⟩
  obtain ⟨em, le, pv⟩ := st
  have two := hq i H pv
  rcases Nat.lt_or_eq_of_le le with lt | eq
  · refine .inr ⟨⟨xs, ys, xs[i], ys[i], two.1, two.2, List.getElem?_eq_getElem lt, List.getElem?_eq_getElem (hl ▸ lt)⟩, fun v H' y => ?_⟩
    obtain ⟨tp, a1, a2, rfl, free, rfl, w1, w2⟩ := y
    exact hs i a1 a2 tp H _ (w1 xs two.1) (w2 ys two.2) pv free fun H3 p' => ⟨xs.length - (i + 1), by omega, rfl, lt, p'⟩
  · subst eq
    exact .inl ⟨⟨xs, ys, two.1, two.2, Or.inl (Nat.le_refl _)⟩, hd H pv⟩

/-! ### zip of a text and a tuple -/
def ItzS (K : PySem.W.Frag) (x : Str) (b : Addr) : It :=
  ⟨fun i H => ∃ (ys : List V) (c : Nat) (y : V), SqT K H b ys ∧ x.cps[i]? = some c ∧ ys[i]? = some y,
    fun i H v H' => ∃ (T : Addr) (c : Nat) (y : V), v = .ref T ∧ H T = none ∧ H' = upd H T (.tup [.str ⟨#[c]⟩, y]) ∧ x.cps[i]? = some c ∧ ∀ ys, SqT K H b ys → ys[i]? = some y,
    fun i H => ∃ ys : List V, SqT K H b ys ∧ i ≤ x.cps.size ∧ i ≤ ys.length ∧ (i = x.cps.size ∨ i = ys.length)⟩
theorem zip_sep {z TI TO i1 i2 b : Addr} (D : ZipApart z TI TO i1 i2 b b) : ZipSep2 z TI TO i1 i2 [i1] [i2, b] where
  TIz := D.TIz
  TOz := D.TOz
  TITO := D.TITO
  TIi1 := D.TIi1
  mem1 := List.mem_singleton.mpr rfl
  zf1 := fun h => D.i1z (List.mem_singleton.mp h).symm
  Tf1 := fun h => D.TOi1 (List.mem_singleton.mp h)
  TIi2 := D.TIi2
  mem2 := List.mem_cons_self
  zf2 := fun h => by
    rcases List.mem_cons.mp h with e | e
    · exact D.i2z e.symm
    · exact D.l1z (List.mem_singleton.mp e).symm
  Tf2 := fun h => by
    rcases List.mem_cons.mp h with e | e
    · exact D.TOi2 e
    · exact D.l1TO (List.mem_singleton.mp e).symm
  sep1_2 := fun h => by
    rcases List.mem_cons.mp h with e | e
    · exact D.i12 e
    · exact D.l1i1 (List.mem_singleton.mp e).symm
  sep2_1 := fun h => D.i12 (List.mem_singleton.mp h).symm
/-- the five cells of a running zip of the text x and the tuple at b, i turns done -/
structure ZipGo (x : Str) (t : Tok) (z TI TO i1 i2 b : Addr) (i : Nat) (h : Heap) : Prop where
  zp : IsZip h z TI TO .none
  ins : IsPair h TI (.ref i1) (.ref i2)
  out : ∃ p : Value × Value, IsPair h TO p.1 p.2
  txt : h.IsStrIter i1 (strIterType x) x t i
  tup : h.IsTupleIter i2 b i
theorem five {z TI TO i1 i2 c : Addr} {Pr : Addr → Prop} (h : c ∈ [z, TI, TO, i1, i2]) (pz : Pr z) (pI : Pr TI) (pO : Pr TO) (p1 : Pr i1) (p2 : Pr i2) : Pr c := by
  simp only [List.mem_cons, List.not_mem_nil, or_false] at h
  rcases h with rfl | rfl | rfl | rfl | rfl
  all_goals assumption
theorem apart5 {z TI TO i1 i2 c : Addr} (h : c ∉ [z, TI, TO, i1, i2]) : c ≠ z ∧ c ≠ TO ∧ c ≠ i1 ∧ c ≠ i2 := by
  simp only [List.mem_cons, List.not_mem_nil, or_false, not_or] at h
  exact ⟨h.1, h.2.2.1, h.2.2.2.1, h.2.2.2.2⟩
section
variable {x : Str} {t : Tok} {z TI TO i1 i2 b : Addr} {i : Nat} {h h' : Heap}
theorem ZipGo.obj (g : ZipGo x t z TI TO i1 i2 b i h) {c : Addr} (hc : c ∈ [z, TI, TO, i1, i2]) : ∃ o, h.get? c = some o ∧ ∀ v, o.data ≠ .cell v := by
  obtain ⟨p, hp⟩ := g.out
  obtain ⟨oa, ea, _, da⟩ := g.txt
  obtain ⟨ob, eb, _, db⟩ := g.tup
  refine five (Pr := fun c => ∃ o, h.get? c = some o ∧ ∀ v, o.data ≠ .cell v) hc ⟨_, g.zp, ?_⟩ ⟨_, g.ins, ?_⟩ ⟨_, hp, ?_⟩ ⟨oa, ea, ?_⟩ ⟨ob, eb, ?_⟩
  · intro v e; cases e
  · intro v e; cases e
  · intro v e; cases e
  · intro v e; rw [da] at e; cases e
  · intro v e; rw [db] at e; cases e
theorem ZipGo.lt (g : ZipGo x t z TI TO i1 i2 b i h) {c : Addr} (hc : c ∈ [z, TI, TO, i1, i2]) : c < h.objs.size := by
  obtain ⟨o, e, _⟩ := g.obj hc
  exact Heap.lt_size e
theorem ZipGo.on (g : ZipGo x t z TI TO i1 i2 b i h) (k : ∀ c ∈ [z, TI, TO, i1, i2], ∀ o, h.get? c = some o → h'.get? c = some o) : ZipGo x t z TI TO i1 i2 b i h' := by
  obtain ⟨p, hp⟩ := g.out
  obtain ⟨oa, ea, ra⟩ := g.txt
  exact ⟨k z (by simp) _ g.zp, k TI (by simp) _ g.ins, ⟨p, k TO (by simp) _ hp⟩, ⟨oa, k i1 (by simp) _ ea, ra⟩, g.tup.at (k i2 (by simp))⟩
end
theorem turn_zipS {P : Program} {w : World} {K : PySem.W.Frag} {elts : List Expr} {kk : Nat} {tpos : Pos} {x : Str} {t : Tok} {b z TI TO i1 i2 : Addr} (D : ZipApart z TI TO i1 i2 b b) :
    Turn P w K (.Tuple elts kk tpos) (ItzS K x b) [z, TI, TO, i1, i2] z (ZipGo x t z TI TO i1 i2 b) where
  mem := List.mem_cons_self
  obj := fun _ _ g _ hc => g.obj hc
  keep := fun _ _ _ g k => g.on k
  item := by
    intro X eP ew eK calm n pins s σ H E I fps g go
    subst eP ew eK
    obtain ⟨ys, c, y, tys, ec, ey⟩ := go
    obtain ⟨vs, rel, tupAt, _⟩ := I.tuple tys
    obtain ⟨u, eu, ru⟩ := rel.get ey
    obtain ⟨p, hp⟩ := g.out
    have zlt := g.lt (c := z) (by simp)
    have n1 : n < x.cps.size := Nat.lt_of_not_le fun le => by
      rw [Array.getElem?_eq_none le] at ec
      cases ec
    have n2 : n < vs.toArray.size := by simpa using (List.getElem?_eq_some_iff.mp eu).1
    have calmA : X.A.in1.handled = none := I.ok.hd calm
    refine wpAny_pyNext_zipD2_item (zip_sep D) (Draws.text calmA i1 x t) (Draws.tuple calmA i2 b D.l1i2 vs.toArray) g.zp g.ins hp g.txt ⟨g.tup, tupAt⟩ n1 n2 fun v1 v2 h1 tk P1 P2 zp1 out1 txt1 tup1 new1 _ kept1 => ?_
    obtain ⟨c', k, ec', rfl⟩ := P1
    obtain rfl : c = c' := Option.some.inj (ec.symm.trans ec')
    obtain rfl : u = v2 := Option.some.inj (eu.symm.trans (by simpa using P2))
    refine ⟨_, rfl, wpAny_letOwnedTupleGo_zip (s := { s with heap := h1, toks := tk }) zp1 fun h2 zp2 sb => ?_⟩
    have up : ∀ d, d ≠ z → h2.get? d = h1.get? d := fun d nd => sb.2 d nd
    have kept2 : ∀ d o, d ∉ [z, TI, TO, i1, i2] → s.heap.get? d = some o → h2.get? d = some o := fun d o nd e => by
      obtain ⟨a1, a2, a3, a4⟩ := apart5 nd
      rw [up d a1]
      exact kept1 d o a1 a2 a3 a4 e
    have new2 : h2.get? s.heap.objs.size = some { cls := .type "tuple", data := .seq #[.str ⟨#[c]⟩ k, u] } := (up _ (Nat.ne_of_gt zlt)).trans new1
    have I2 := I.turnedNew (t' := tk) (ch := [z, TI, TO, i1, i2]) (ob := .tup [.str ⟨#[c]⟩, y]) kept2 fps (Nat.le_refl _) ⟨show 2 ≤ sizeLine by decide, [.str ⟨#[c]⟩ k, u], .cons ⟨k, rfl⟩ (.cons ru .nil), ⟨_, new2, rfl, _, rfl⟩⟩
    refine ⟨.ref s.heap.objs.size, _, I2, rfl, ⟨_, c, y, rfl, I.hok.fresh (Nat.le_refl _), rfl, ec, fun l tl => (I.tuple_inj tl tys) ▸ ey⟩, ⟨zp2, ?_, ⟨(_, _), (up _ D.TOz).trans out1⟩, ?_, tup1.1.at fun o e => (up _ D.i2z).trans e⟩, fun d hd => ?_⟩
    · exact (up _ D.TIz).trans (kept1 TI _ D.TIz D.TITO D.TIi1 D.TIi2 g.ins)
    · obtain ⟨o, e, r⟩ := txt1
      exact ⟨o, (up _ D.i1z).trans e, r⟩
    · rw [upd_ne (Nat.ne_of_lt (g.lt hd))]
      exact (fps d hd).1
  done := by
    intro X eP ew eK calm n pins s σ H E I fps g stop
    subst eP ew eK
    obtain ⟨ys, tys, le1, le2, last⟩ := stop
    obtain ⟨vs, rel, tupAt, _⟩ := I.tuple tys
    obtain ⟨p, hp⟩ := g.out
    have lv : vs.toArray.size = ys.length := by simpa using rel.length.symm
    have calmA : X.A.in1.handled = none := I.ok.hd calm
    refine wpAny_pyNext_zipD2_end (zip_sep D) (Draws.text calmA i1 x t) (Draws.tuple calmA i2 b D.l1i2 vs.toArray) g.zp g.ins hp g.txt ⟨g.tup, tupAt⟩ le1 (by omega) (by omega) fun h1 tk kept1 => ⟨rfl, ?_⟩
    refine I.turnedL (t' := tk) (ch := [z, TI, TO, i1, i2]) (fun d o nd e => ?_) fps
    obtain ⟨a1, a2, a3, a4⟩ := apart5 nd
    exact kept1 d o a1 a2 a3 a4 e
  self := fun _ _ _ _ _ g q => wpAny_pyIter_zip g.zp q
def iZipS (K : PySem.W.Frag) (ta : TA) : TI := fun σ H R => ta σ H fun vs H1 => ∃ x b ys, vs = [.str x, .ref b] ∧ SqT K H1 b ys ∧ R (ItzS K x b) H1
theorem pi_zipS {X : Cx} {ea eb : Expr} {ta : TA} {p pos tpos : Pos} {elts : List Expr} {kk : Nat} (gl : Gl X "zip") (own : X.mg "zip" = none) (args : PA X [ea, eb] ta)
    (star : starEach [ea, eb] X.env = (false, eval ea X.env) :: starEach [eb] X.env := by rfl) (plain : (backTo pos (starEach [eb] X.env)).any (·.1) = false := by rfl) :
    PI X (.Tuple elts kk tpos) (.Call (.Name "zip" p) [ea, eb] [] pos) (iZipS X.K ta) := by
  constructor
  intro pins s σ H R I q
  refine Call_ (ld_blt I gl own PyProof.Rows.boot_zip (PyProof.Rows.callWith_type1 ?_ star plain))
  refine thn (args.run pos pins s σ H _ I q) fun us s1 ans => ?_
  obtain ⟨vs, H1, J, rel, x, b, ys, rfl, tys, go⟩ := ans
  obtain ⟨u1, u2, rfl, r1, r2⟩ := vals2 rel
  obtain ⟨t, rfl⟩ := r1
  obtain rfl : u2 = Value.ref b := r2
  obtain ⟨its, _, tupAt, _⟩ := J.tuple tys
  have blt : b < s1.heap.objs.size := by
    obtain ⟨_, e, _⟩ := id tupAt
    exact Heap.lt_size e
  have fresh : ∀ c, s1.heap.objs.size ≤ c → FpOk X pins H1 c := fun c le => J.fpOk le (J.hok.fresh le)
  refine zip_begins2 (begins_text x t) (begins_tuple b its.toArray) trivial tupAt fun h2 zp ins out o1 o2 _ kept => wpAny_pyIter_zip zp ?_
  refine ⟨_, [s1.heap.objs.size + 4, s1.heap.objs.size + 2, s1.heap.objs.size + 3, s1.heap.objs.size, s1.heap.objs.size + 1], _, _, H1, rfl, J.kept (t' := s1.toks) kept, turn_zipS (t := t) (PySem.W.ktu_apart s1.heap.objs.size b b blt blt), ?_, fun c hc => ?_, go⟩
  · exact ⟨zp, ins, ⟨(_, _), out⟩, ⟨_, o1, rfl, rfl⟩, ⟨_, o2, rfl, rfl⟩⟩
  · exact five (Pr := FpOk X pins H1) hc (fresh _ (by omega)) (fresh _ (by omega)) (fresh _ (by omega)) (fresh _ (by omega)) (fresh _ (by omega))
/-- a loop over zip of a text and a tuple of one length -/
theorem for_zipS {K : PySem.W.Frag} {x : Str} {b : Addr} {ys : List V} {g : TG} {tb : TS} {D : Ends} {σ : L2.St} {H : Hp} (hl : x.cps.size = ys.length) (Pv : Nat → L2.St → Hp → Prop) (h0 : Pv 0 σ H) (hq : ∀ i σ H, Pv i σ H → SqT K H b ys)
    (hs : ∀ (i c : Nat) (y : V) (T : Addr) (σ : L2.St) (H : Hp), x.cps[i]? = some c → ys[i]? = some y → Pv i σ H → H T = none → g (.ref T) σ (upd H T (.tup [.str ⟨#[c]⟩, y])) fun σ2 H2 => tb { D with nx := Pv (i + 1), ct := Pv (i + 1), bk := D.nx } σ2 H2) (hd : ∀ σ H, Pv ys.length σ H → D.nx σ H) :
    ∃ W : Nat → Nat → L2.St → Hp → Prop, (∃ m, W 0 m σ H) ∧ ∀ i m σ H, W i m σ H →
      ((ItzS K x b).stop i H ∧ D.nx σ H) ∨ ((ItzS K x b).go i H ∧ ∃ N : L2.St → Hp → Prop, (∀ σ' H', N σ' H' → ∃ m', m' < m ∧ W (i + 1) m' σ' H') ∧ ∀ v H', (ItzS K x b).yld i H v H' → g v σ H' fun σ2 H2 => tb { D with nx := N, ct := N, bk := D.nx } σ2 H2) := by
  refine ⟨fun i m σ H => m = ys.length - i ∧ i ≤ ys.length ∧ Pv i σ H, ⟨ys.length, rfl, Nat.zero_le _, h0⟩, fun i m σ H st => ?_⟩
  obtain ⟨em, le, pv⟩ := st
  have tys := hq i σ H pv
  rcases Nat.lt_or_eq_of_le le with lt | eq
  · refine .inr ⟨⟨ys, x.cps[i], ys[i], tys, Array.getElem?_eq_getElem (hl.symm ▸ lt), List.getElem?_eq_getElem lt⟩, Pv (i + 1), fun σ' H' p' => ⟨ys.length - (i + 1), by omega, rfl, lt, p'⟩, fun v H' y => ?_⟩
    obtain ⟨tp, c, a2, rfl, free, rfl, w1, w2⟩ := y
    exact hs i c a2 tp σ H w1 (w2 ys tys) pv free
  · subst eq
    exact .inl ⟨⟨ys, tys, Nat.le_of_eq hl.symm, Nat.le_refl _, .inr rfl⟩, hd σ H pv⟩
/-! ### d.update(e) -/
def tDUpd (td ty : TE) : TE := fun σ H Q => td σ H fun x H1 => ∃ a, x = .ref a ∧ IsD H1 a ∧ ty σ H1 fun y H2 => ∃ b kvs more, y = .ref b ∧ H2 a = some (.dK kvs) ∧ H2 b = some (.dK more) ∧ a ≠ b ∧ kvs.length + more.length ≤ sizeLine ∧ Q .non (upd H2 a (.dK (mergeK kvs more)))
theorem pe_dupd {X : Cx} {o e : Expr} {apos cpos : Pos} {td ty : TE} (ho : PE X o td) (he : PE X e ty) (m : M1 X o "update" apos e cpos) : PE X (.Call (.Attribute o "update" apos) [e] [] cpos) (tDUpd td ty) := by
  refine ⟨fun pins s σ H Q I h => ?_⟩
  refine wpAny_Call_method m.base m.few m.line PySem.F.plainAttrs_dict PySem.F.slot_dict_update PySem.F.type_dict_update (thn (ho.run pins s σ H _ I h) fun u s1 ⟨x, H1, I1, rx, a, ex, d, q1⟩ => ?_)
  subst ex
  obtain rfl : u = Value.ref a := rx
  obtain ⟨t1, t2, _⟩ := isD_at I1 d
  refine ⟨t1, t2, ?_⟩
  rw [m.trees]
  refine Calls.callWith_builtin rfl (Calls.evalArgs_plain (Calls.spliced_cons (thn (he.run pins s1 σ H1 _ I1 q1) fun iv s2 ⟨y, H2, I2, ry, b, kvs, more, ey, ea, eb, ne, hz, q2⟩ => Calls.spliced_nil ?_)))
  subst ey
  obtain rfl : iv = Value.ref b := ry
  obtain ⟨za, hda, vs, ra, dda⟩ := dk_of I2.hok ea
  obtain ⟨zb, hdb, ws, rb, ddb⟩ := dk_of I2.hok eb
  refine call_meetsIn PySem.F.slot_dict_update dda.typeIs PySem.F.entry_dict_update (PySem.F.args_dict_update_2 _ _) (meets_dict_update (mixKind X.prog X.w) a b ne hdb) ⟨vs, ws, dda, ddb, (by rw [← ra.length, ← rb.length]; exact hz), fun h' hmm _ hs => ?_⟩
  have he' : ∃ q, h'.get? a = some q := let ⟨q, _, _, hq, _⟩ := hmm; ⟨q, hq⟩
  exact ⟨.non, _, d_write I2 (by rw [ea]; exact True.intro) hs he' (dk_new (Nat.le_trans (length_mergeK more kvs) hz) hda (rb.merge ra) hmm), rfl, q2⟩
/-! ### list(text), tuple == () -/
def sgs (x : Str) : List V := x.cps.toList.map fun c => V.str ⟨#[c]⟩
theorem vals_at : ∀ {xs : List V} {us : List Value}, xs.length = us.length → (∀ (j : Nat) (v : V) (u : Value), xs[j]? = some v → us[j]? = some u → RelV v u) → Vals xs us
  | [], [], _, _ => .nil
  | [], _ :: _, h, _ => nomatch h
  | _ :: _, [], h, _ => nomatch h
  | v :: xs, u :: us, h, k => .cons (k 0 v u rfl rfl) (vals_at (Nat.succ.inj h) fun j a b ha hb => k (j + 1) a b ha hb)
theorem call_list_txt {X : Cx} (hc : X.calm = true) : CallR X (.type "list") (fun xs H Q => ∃ x : Str, xs = [.str x] ∧ x.cps.size ≤ sizeLine ∧ ∀ l, H l = none → Q (.ref l) (upd H l (.lst (sgs x)))) := by
  intro pins s σ H xs us Q I r h
  obtain ⟨x, rfl, hz, q⟩ := h
  obtain ⟨u, rfl, rx⟩ := vals1 r
  obtain ⟨t, rfl⟩ := rx
  refine call_list_str (I.ok.hd hc) x t (hn := hz) fun h' tk acc' c' hk hS' hacc => ?_
  have hl : (sgs x).length = acc'.toList.length := by
    unfold sgs
    rw [List.length_map, Array.length_toList, Array.length_toList]
    exact hacc.1.symm
  have rv : Vals (sgs x) acc'.toList := vals_at hl fun j v u hv hu => by
    obtain ⟨c, k, hc', rfl⟩ := hacc.2 j u (by simpa using hu)
    unfold sgs at hv
    rw [List.getElem?_map] at hv
    obtain ⟨c2, h2, rfl⟩ := Option.map_eq_some_iff.mp hv
    have z : x.cps.toList[j]? = some c := by simpa using hc'
    rw [z] at h2
    cases h2
    exact ⟨k, rfl⟩
  have hz2 : (sgs x).length ≤ sizeLine := by
    unfold sgs
    rw [List.length_map, Array.length_toList]
    exact hz
  exact ⟨.ref s.heap.objs.size, _, I.laid (t' := tk) hk (Nat.le_refl _) (show ObjOk X.prog X.w _ h' _ (.lst (sgs x)) from ⟨hz2, acc'.toList, c', rv, by simpa using hS'⟩), rfl, q _ (I.hok.fresh (Nat.le_refl _))⟩
def rEq0 (K : PySem.W.Frag) : R2 := fun x y H Q => ∃ a b xs, x = .ref a ∧ y = .ref b ∧ SqT K H a xs ∧ SqT K H b [] ∧ Q (.bl xs.isEmpty) H
theorem op_eq0 {X : Cx} (hu : X.A.units < cLine) : OpR X (compareOp .Eq) (rEq0 X.K) := by
  intro pins s σ H x y v u Q I rx ry h
  obtain ⟨a, b, xs, rfl, rfl, ha, hb, q⟩ := h
  cases rx
  cases ry
  obtain ⟨its, r1, p1, _⟩ := I.tuple ha
  obtain ⟨its2, r2, p2, _⟩ := I.tuple hb
  cases r2
  refine SeqAt.eq_tupleAt (e := fun _ => true) p1 p2 hu (fun j h1 h2 => by simp at h2) ?_
  have e : ((List.range (min its.toArray.size ([] : List Value).toArray.size)).all (fun _ => true) && its.toArray.size == ([] : List Value).toArray.size) = xs.isEmpty := by
    cases r1 with
    | nil => rfl
    | cons _ _ => simp
  rw [e]
  exact ⟨.bl _, H, I, rfl, q⟩

/-! ### the end of a law whose defs make generator expressions -/
/-- the def nm of the top, its code object's table empty -/
def TabAt (mg : Str → Option Value) (h : Heap) (nm : Str) : Prop := ∃ (f : Addr) (o : Obj) (fd : FuncData) (c P : Addr), mg nm = some (.ref f) ∧ h.get? f = some o ∧ o.data = .func fd ∧ fd.code = .ref c ∧ h.TableAt c P #[]
theorem tab_empty {K : PySem.W.Frag} {mg : Str → Option Value} {h : Heap} {nm : Str} {f c P : Addr} {o : Obj} {fd : FuncData} {e : Value} {dd : Option Addr} {vs : Array Value} {sl : Array (Option Value)} (t : TabAt mg h nm) (X : K.In h) (g : mg nm = some (.ref f))
    (lf : K.lookup f = some o) (df : o.data = .func fd) (cf : fd.code = .ref c) (lc : K.lookup c = some ⟨e, dd, .fields vs, sl⟩) (at11 : vs[11]? = some (.ref P)) : h.get? P = some { cls := .none, data := .fields #[] } := by
  obtain ⟨f', o', fd', c', P', m1, m2, m3, m4, ⟨oc, vc, w1, _, w3, w4⟩, tp⟩ := t
  have ef : f = f' := Value.ref.inj (Option.some.inj (g.symm.trans m1))
  subst ef
  have eo : o = o' := Option.some.inj ((X f o lf).symm.trans m2)
  subst eo
  have ed : fd = fd' := Data.func.inj (df.symm.trans m3)
  subst ed
  have ec : c = c' := Value.ref.inj (cf.symm.trans m4)
  subst ec
  have eq : (⟨e, dd, .fields vs, sl⟩ : Obj) = oc := Option.some.inj ((X c _ lc).symm.trans w1)
  subst eq
  have ev : vs = vc := Data.fields.inj w3
  subst ev
  have eP : P = P' := Value.ref.inj (Option.some.inj (at11.symm.trans w4))
  subst eP
  exact tp
theorem walk_tabs {l : PySem.W.OpenLaw} {most lv : Nat} {prog : Program} {lo : List Str} {XP : (Str → Option Value) → Heap → Prop} {YP : World → Heap → Prop} {df : DefRec} {K : Params → PySem.W.Frag} {par : Str} (names : List Str)
    (h1 : l.most = some most) (h2 : most ≤ sizeLine) (h3 : df.params.defaults = []) (room : Room lv callerA) (recs : (names.all fun nm => (recsOf prog).any fun r => r.name == nm) = true) (kin : ∀ (w : World) (h : Heap), YP w h → (K w.params).In h)
    (at_ : ∀ (w : World) (mg : Str → Option Value) (fa : Addr) (h : Heap), (K w.params).In h → h.Ns mainGlobals mg → mg df.name = some (.ref fa) → (∀ nm ∈ names, TabAt mg h nm) → LamX.LawAtS l w (K w.params) CX0 lv most par mg fa h) :
    PySem.W.WalkO prog lo XP YP l.row.toRowW df [] (fun f vs => PySem.call f vs) := by
  refine Att.attach_callB h1 h3 fun w s0 s mg mb fa o pm cd doc a vs ns Gr Y _ _ _ name ob iar len bits gens => ?_
  have tabs : ∀ nm ∈ names, TabAt mg s.heap nm := fun nm hm => by
    obtain ⟨r, hr, er⟩ := List.any_eq_true.mp (List.all_eq_true.mp recs nm hm)
    obtain ⟨x1, x2, x3, x4, x5, y1, y2, y3, y4, _, y6⟩ := Gr.T.tab r hr
    rw [beq_iff_eq.mp er] at y1
    exact ⟨x1, x2, x3, x4, x5, y1, y2, y3, y4, y6⟩
  obtain ⟨fd, cs, sp, t1, t2, t3, bind, asked, ok⟩ := at_ w mg fa _ (kin w _ Y) Gr.T.g name tabs
  exact LamX.law_callTs (kin w _ Y) Gr.T.g Gr.T.b Gr.T.builtins Gr.T.nolimit gens t1 t2 t3 Gr.T.bmain ob iar (Nat.le_trans len h2) room ok bind (fun H hH hS => asked H a ns len bits hH hS) fun _ _ _ z => z

end My
namespace My
open PySem L2
/-! ### a mid-condition behind a statement, an expression, a test -/
def sMid (t : TS) : TS := fun D σ H => ∃ M : L2.St → Hp → Prop, t { D with nx := M } σ H ∧ ∀ σ' H', M σ' H' → D.nx σ' H'
theorem ps_mid {X : Cx} {st : Stmt} {t : TS} (h : PS X st t) : PS X st (sMid t) := by
  refine ⟨fun pins s σ H D I z => ?_⟩
  obtain ⟨M, q, k⟩ := z
  refine thn (h.run pins s σ H { D with nx := M } I q) fun f s1 y => ?_
  cases f with
  | next =>
    obtain ⟨σ', H', I', y⟩ := y
    exact ⟨σ', H', I', k _ _ y⟩
  | ret v => exact y
  | brk => exact y
  | cont => exact y
def tMid (t : TT) : TT := fun σ H Q => ∃ M : Bool → Hp → Prop, t σ H M ∧ ∀ b H', M b H' → Q b H'
theorem pt_mid {X : Cx} {e : Expr} {t : TT} (h : PT X e t) : PT X e (tMid t) := by
  refine ⟨fun pins s σ H Q I z => ?_⟩
  obtain ⟨M, q, k⟩ := z
  exact thn (h.run pins s σ H M I q) fun b s1 ⟨H', I', y⟩ => ⟨H', I', k _ _ y⟩
def eMid (t : TE) : TE := fun σ H Q => ∃ M : V → Hp → Prop, t σ H M ∧ ∀ v H', M v H' → Q v H'
theorem pe_mid {X : Cx} {e : Expr} {t : TE} (h : PE X e t) : PE X e (eMid t) := by
  refine ⟨fun pins s σ H Q I z => ?_⟩
  obtain ⟨M, q, k⟩ := z
  exact thn (h.run pins s σ H M I q) fun u s1 ⟨v, H', I', r, y⟩ => ⟨v, H', I', r, k _ _ y⟩
theorem yes_ite {σ : L2.St} {H : Hp} {A B : Hp → Prop} (h : A H) : tYes σ H (fun b H3 => if b = true then A H3 else B H3) := by
  unfold tYes
  exact (show (if true = true then A H else B H) from iteT h)
/-- xs[i] op= e, the read -/
theorem get_list {X : Cx} : PGet X (rIxL X.K) := by
  intro pins s σ H x y v u Q I rx ry h
  obtain ⟨p, xs, i, z, rfl, rfl, hq, he, q⟩ := h
  cases rx
  obtain ⟨t, rfl⟩ := ry
  obtain ⟨its, r, pl, hz⟩ := I.list hq
  obtain ⟨j, h1, h2, h3, h4, h5⟩ := atI_get he
  obtain ⟨w, ew, rw'⟩ := r.get h2
  have hl := r.length
  have hn := line63
  have fin : EP X pins σ Q w s := ⟨z, H, I, rw', q⟩
  by_cases h0 : 0 ≤ i
  · have hj : i.toNat = j := by
      rw [PySem.seqIndex_of h0 h5] at h1
      exact Option.some.inj h1
    exact PySem.wpAny_getItem_list pl.isList h0 (by omega) (by rw [hj]; simpa using ew) fin
  · have hj : (i + (its.toArray.size : Int)).toNat = j := by
      rw [PySem.seqIndex_neg (by omega) h4] at h1
      rw [List.size_toArray, ← hl]
      exact Option.some.inj h1
    exact PySem.wpAny_getItem_list_neg pl.isList (by omega) (by rw [List.size_toArray] <;> omega) (by omega) (by rw [hj]; simpa using ew) fin
theorem same_new {H : Hp} {p : Addr} {o : HO} (h : H p = none) : Same H (upd H p o) := fun b u q => by rw [upd_ne (ne_of_none q h)]; exact q
/-- all but d as it was -/
def But (d : Addr) (H H' : Hp) : Prop := ∀ b o, H b = some o → b ≠ d → H' b = some o
theorem But.refl {d : Addr} {H : Hp} : But d H H := fun _ _ e _ => e
theorem But.trans {d : Addr} {H H1 H2 : Hp} (x : But d H H1) (y : But d H1 H2) : But d H H2 := fun b o e n => y b o (x b o e n) n
theorem But.put {d : Addr} {H H1 : Hp} {o : HO} (x : But d H H1) : But d H (upd H1 d o) := fun b u e n => by
  rw [upd_ne n]
  exact x b u e n
theorem But.new {d p : Addr} {H H1 : Hp} {o : HO} (x : But d H H1) (n : H1 p = none) : But d H (upd H1 p o) := fun b u e nb => by
  have q := x b u e nb
  rw [upd_ne (ne_of_none q n)]
  exact q
theorem But.same {d : Addr} {H H1 H2 : Hp} (x : But d H H1) (s : Same H1 H2) : But d H H2 := fun b u e nb => s _ _ (x b u e nb)
theorem at_map {ns : List Int} {k : Int} (h0 : 0 ≤ k) (h : k < (ns.length : Int)) : ∃ v : Int, atI (ns.map V.int) k = some (.int v) ∧ v ∈ ns := by
  have hk : k.toNat < ns.length := by omega
  have ek : k = ((k.toNat : Nat) : Int) := by omega
  have q : atI (ns.map V.int) ((k.toNat : Nat) : Int) = some (.int ns[k.toNat]) := atI_nat (by rw [List.getElem?_map, List.getElem?_eq_getElem hk] <;> rfl)
  rw [← ek] at q
  exact ⟨_, q, List.getElem_mem _⟩
theorem at_any {α : Type} {xs : List α} {k : Int} (h0 : 0 ≤ k) (h : k < (xs.length : Int)) : ∃ v : α, atI xs k = some v ∧ v ∈ xs := by
  have hk : k.toNat < xs.length := by omega
  have ek : k = ((k.toNat : Nat) : Int) := by omega
  have q : atI xs ((k.toNat : Nat) : Int) = some xs[k.toNat] := atI_nat (List.getElem?_eq_getElem hk)
  rw [← ek] at q
  exact ⟨_, q, List.getElem_mem _⟩
theorem wide_ok {i j : Int} (h : 0 < j) (h2 : j < 2 ^ 100) : CDivW i j := wide_div (b := 100) h (by
  have e : ((j.natAbs : Nat) : Int) < ((2 ^ 100 : Nat) : Int) := by
    rw [Int.natCast_pow]
    show (j.natAbs : Int) < 2 ^ 100
    omega
  exact_mod_cast e) (by decide) (by decide)
theorem cut_map (ns : List Int) (hi : Option Int) : ∃ k : Nat, cutV (ns.map V.int) none hi = (ns.take k).map V.int := by
  refine ⟨HT.sIx ns.length ns.length hi, ?_⟩
  unfold cutV
  rw [HT.sIx_none, List.drop_zero, Nat.sub_zero, List.length_map, List.map_take]
theorem cut_nat {α : Type} (xs : List V) (k : Nat) : cutV xs none (some (k : Int)) = xs.take k := by
  unfold cutV
  rw [HT.sIx_none, List.drop_zero, Nat.sub_zero, HT.sIx_nat]
  by_cases h : k ≤ xs.length
  · rw [Nat.min_eq_left h]
  · rw [Nat.min_eq_right (by omega), List.take_of_length_le (Nat.le_refl _), List.take_of_length_le (by omega)]
theorem sz {n : Nat} (h : n ≤ 100000) : n ≤ sizeLine := Nat.le_trans h (by decide)
theorem szl {n : Nat} (h : n < 100000) : n < sizeLine := Nat.lt_of_lt_of_le h (by decide)
def spLaw (K : PySem.W.Frag) : Sp := fun vs H Q _ => ∃ (a : Addr) (ns : List Int), vs = [.ref a] ∧ SqL K H a (ns.map V.int) ∧ ns.length ≤ 63 ∧ (∀ z ∈ ns, Builtin.Int.intBits z ≤ 1048576) ∧ ∀ H', Q (.bl true) H'
/-! ### data of tuples -/
mutual
inductive Td (K : PySem.W.Frag) (H : Hp) : V → PyData → Prop
  | non : Td K H .non .none
  | bl (b : Bool) : Td K H (.bl b) (.bool b)
  | int (i : Int) : Td K H (.int i) (.int i)
  | str (x : Str) : Td K H (.str x) (.str x)
  | tup {a : Addr} {xs : List V} {ds : List PyData} : SqT K H a xs → TdAll K H xs ds → Td K H (.ref a) (.tuple ds)
inductive TdAll (K : PySem.W.Frag) (H : Hp) : List V → List PyData → Prop
  | nil : TdAll K H [] []
  | cons {v : V} {vs : List V} {d : PyData} {ds : List PyData} : Td K H v d → TdAll K H vs ds → TdAll K H (v :: vs) (d :: ds)
end
/-- tuples stay -/
def Tups (K : PySem.W.Frag) (H H' : Hp) : Prop := ∀ a xs, SqT K H a xs → SqT K H' a xs
theorem Tups.of_same {K : PySem.W.Frag} {H H' : Hp} (s : Same H H') : Tups K H H' := fun a xs h => by
  rcases h with h | h
  · rcases h with h | ⟨o, h⟩
    · exact .inl (.inl (s _ _ h))
    · exact .inl (.inr ⟨o, s _ _ h⟩)
  · exact .inr h
theorem Tups.of_but {K : PySem.W.Frag} {H H' : Hp} {d : Addr} {l : List V} (s : But d H H') (e : H d = some (.lst l)) : Tups K H H' := fun a xs h => by
  rcases h with h | h
  · rcases h with h | ⟨o, h⟩
    · exact .inl (.inl (s _ _ h (ne_of h e (by intro z; cases z))))
    · exact .inl (.inr ⟨o, s _ _ h (ne_of h e (by intro z; cases z))⟩)
  · exact .inr h
theorem Tups.trans {K : PySem.W.Frag} {H H1 H2 : Hp} (a : Tups K H H1) (b : Tups K H1 H2) : Tups K H H2 := fun p xs h => b _ _ (a _ _ h)
mutual
theorem Td.mono {K : PySem.W.Frag} {H H' : Hp} (t : Tups K H H') : ∀ {v : V} {d : PyData}, Td K H v d → Td K H' v d
  | _, _, .non => .non
  | _, _, .bl b => .bl b
  | _, _, .int i => .int i
  | _, _, .str x => .str x
  | _, _, .tup h k => .tup (t _ _ h) (TdAll.mono t k)
theorem TdAll.mono {K : PySem.W.Frag} {H H' : Hp} (t : Tups K H H') : ∀ {vs : List V} {ds : List PyData}, TdAll K H vs ds → TdAll K H' vs ds
  | _, _, .nil => .nil
  | _, _, .cons h k => .cons (Td.mono t h) (TdAll.mono t k)
end
mutual
theorem Td.dp {K : PySem.W.Frag} {H : Hp} : ∀ {v : V} {d : PyData}, Td K H v d → Dp K H v d
  | _, _, .non => .non
  | _, _, .bl b => .bl b
  | _, _, .int i => .int i
  | _, _, .str x => .str x
  | _, _, .tup h k => .tup h (TdAll.dp k)
theorem TdAll.dp {K : PySem.W.Frag} {H : Hp} : ∀ {vs : List V} {ds : List PyData}, TdAll K H vs ds → DpAll K H vs ds
  | _, _, .nil => .nil
  | _, _, .cons h k => .cons (Td.dp h) (TdAll.dp k)
end
theorem TdAll.length {K : PySem.W.Frag} {H : Hp} : ∀ {vs : List V} {ds : List PyData}, TdAll K H vs ds → vs.length = ds.length
  | _, _, .nil => rfl
  | _, _, .cons _ k => congrArg (· + 1) (TdAll.length k)
theorem TdAll.append {K : PySem.W.Frag} {H : Hp} : ∀ {vs ws : List V} {ds es : List PyData}, TdAll K H vs ds → TdAll K H ws es → TdAll K H (vs ++ ws) (ds ++ es)
  | _, _, _, _, .nil, k => k
  | _, _, _, _, .cons h k, z => .cons h (TdAll.append k z)
theorem TdAll.get {K : PySem.W.Frag} {H : Hp} : ∀ {vs : List V} {ds : List PyData}, TdAll K H vs ds → ∀ {v : V}, v ∈ vs → ∃ d, d ∈ ds ∧ Td K H v d
  | _, _, .nil, _, h => nomatch h
  | _, _, .cons (d := d) h k, v, m => by
    rcases List.mem_cons.mp m with e | m
    · subst e
      exact ⟨d, List.mem_cons_self, h⟩
    · obtain ⟨d', hd, t⟩ := TdAll.get k m
      exact ⟨d', List.mem_cons_of_mem _ hd, t⟩
theorem inV_str (w : Str) : ∀ ws : List Str, inV (.str w) (ws.map V.str) = decide (w ∈ ws)
  | [] => rfl
  | x :: r => by
    have ih := inV_str w r
    unfold inV at ih ⊢
    rw [List.map_cons, List.any_cons, ih]
    by_cases e : x = w
    · subst e
      simp [eqV]
    · have e2 : ¬ w = x := fun z => e z.symm
      simp [eqV, e, e2]
theorem flat_strs : ∀ ws : List Str, (ws.map V.str).all flatV = true
  | [] => rfl
  | _ :: r => by
    rw [List.map_cons, List.all_cons, flat_strs r]
    rfl
/-- the kinds -/
def kinds : List Str := ["a", "b", "c", "d", "e", "f", "g", "h"]
/-- a tuple as a target, the table and the number as they are written -/
theorem pg_tupK {X : Cx} {K : PySem.W.Frag} {pos : Pos} {es : List Expr} {k : Nat} {t : TGs} {n : Nat} (hK : X.K = K) (hc : X.calm = true) (h : PGs X es t)
    (hn : (assignEach es X.env).length = n) (hst : (assignEach es X.env).findIdx? (·.1) = none := by rfl) : PG X (.Tuple es k pos) (gTup K n t) := by
  subst hK
  exact pg_tup hc h hn hst
theorem cut_tail (x : V) (ps : List V) : cutV (x :: ps) (some 1) none = ps := by
  unfold cutV
  rw [show (1 : Int) = ((1 : Nat) : Int) from rfl, HT.sIx_nat, HT.sIx_none, List.length_cons]
  have e : min 1 (ps.length + 1) = 1 := by omega
  rw [e, List.drop_succ_cons, List.drop_zero, Nat.add_sub_cancel, List.take_of_length_le (Nat.le_refl _)]
theorem u1 {k : Nat} {A : Around} (h : Room k A) : A.units + 1 < cLine := by
  have := h.units
  omega
theorem u0 {k : Nat} {A : Around} (h : Room k A) : A.units < cLine := by
  have := h.units
  omega

/-! ### own exceptions as values -/
def veB : List Value := [.type "ValueError", .type "Exception", .type "BaseException", .type "object"]
/-- an exception object of the class C, not raised, with or without fields -/
def ExAt (H : Hp) (a C : Addr) : Prop := H a = some (ExO (.ref C) a) ∨ ∃ (d : Addr) (fs : List (Str × V)), H a = some (exo a C (some d)) ∧ H d = some (exd d fs)
theorem ExAt.same {H H' : Hp} {a C : Addr} (s : Same H H') (h : ExAt H a C) : ExAt H' a C := by
  rcases h with h | ⟨d, fs, h, g⟩
  · exact .inl (s _ _ h)
  · exact .inr ⟨d, fs, s _ _ h, s _ _ g⟩
section
variable {X : Cx}
theorem ExAt.inst {pins : List (Addr × Obj)} {σ : L2.St} {H : Hp} {s : Shared} {a C : Addr} (I : Inv X pins σ H s) (h : ExAt H a C) : ∃ (oe : Obj) (od : Option Obj), PySem.W.InstAt s.heap a oe C od := by
  rcases h with h | ⟨d, fs, h, g⟩
  · obtain ⟨⟨oe, vs, ho, hz, hd, _⟩, _, _⟩ := I.hok a _ h
    refine ⟨oe, none, ho, hz.1, ?_, ?_⟩
    · unfold PySem.W.notCls
      rw [hd]
    · rw [hz.2]
      trivial
  · obtain ⟨t1, ho⟩ := exo_at I.hok h
    obtain ⟨mA, hm, _⟩ := exd_at I.hok g
    obtain ⟨od, hod, _⟩ := lookIn_ns hm
    exact ⟨_, some od, ho, rfl, rfl, hod⟩
theorem pe_exc0 {C : Addr} {x : Str} {p pos : Pos} (hc : PySem.W.excIn X.K C veB "ValueError.__new__" = true) (gC : X.mg x = some (.ref C)) (kC : PySem.W.keepIn X.K (.ref C) = true) (hg : Gl X x) (hdb : (x == ("__debug__" : Str)) = false := by decide) :
    PE X (.Call (.Name x p) [] [] pos) (fun _ H Q => ∀ a, H a = none → Q (.ref a) (upd H a (ExO (.ref C) a))) := by
  constructor
  intro pins st σ H Q I h
  refine wpAny_Call_Name_kw (ld_glob I hg gC ?_ hdb)
  refine PySem.W.callWith_K0 I.kIn kC ?_
  obtain ⟨bm, N, nm, qn, bs, hdct, sn, sub, ab, col, dd, k0, k1, k2, k3, k5, mN, hC, hN, hni, OT⟩ := exc_obj I.kIn hc
  refine wpAny_call_exc_subT PySem.F.excBase_ValueError OT hC hN hni (fun h' a hm => ?_) (Nat.zero_le _)
  have free : H a = none := I.hok.gone hm.new
  obtain ⟨t, ht, _, _⟩ := hm.there
  have ok : ObjOk X.prog X.w (upd H a (ExO (.ref C) a)) h' a (ExO (.ref C) a) := exO_ok ht ⟨rfl, rfl⟩ rfl rfl rfl (show 4 < 6 by decide)
  exact ⟨.ref a, _, I.laidN hm.keeps hm.new free ok, rfl, h a free⟩
/-- C(e, ..), C an own exception class with an own __init__, as a value -/
def tOexV (C : Addr) (sp : Sp) (ta : TA) : TE := fun σ H Q => ta σ H fun vs H1 => vs.length ≤ 1000 ∧ ∀ a, H1 a = none → sp (.ref a :: vs) (upd H1 a (exo a C none)) (fun v H2 => v = .non ∧ Q (.ref a) H2) (fun _ _ _ => False)
theorem pe_oexV {x : Str} {C fI : Addr} {k : Nat} {fd : FuncData} {ps : List Str} {sp : Sp} {e : Expr} {es : List Expr} {ta : TA} {p pos : Pos} (OC : OexC X.K C) (iC : PySem.W.findIn X.K (.ref C) "__init__" = some (some (.ref fI)))
    (tI : PySem.W.typeIn X.K (.ref fI) = some (.type "function")) (F1 : FnOk X.prog X.w X.K X.mg X.base CX0 k fI fd ps sp) (hr : Room (k + 1) X.A) (hb : Binds X.K fd ps []) (hg : Gl X x) (hm : X.mg x = some (.ref C)) (ha : PA X (e :: es) ta)
    (hdb : (x == ("__debug__" : Str)) = false := by decide) (he : starEach (e :: es) X.env = (false, eval e X.env) :: starEach es X.env := by rfl) (hpl : (backTo pos (starEach es X.env)).any (·.1) = false := by rfl) :
    PE X (.Call (.Name x p) (e :: es) [] pos) (tOexV C sp ta) := by
  constructor
  intro pins st σ H Q I h
  obtain ⟨nm, q, N, bs, bm, sn, sub, ab, col, dd, k0, k1, k2, k3, k5, hC, hbm⟩ := OC.cls
  refine wpAny_Call_Name_kw (ld_glob I hg hm ?_ hdb)
  refine PySem.W.callWith_K (h₀ := X.base) I.ok.mod.kin OC.kC (thn (ha.run pos pins st σ H _ I h) fun us s1 z => ?_) he hpl
  obtain ⟨vs, H1, I1, r1, hz, q1⟩ := z
  refine ⟨I1.kIn, ?_⟩
  obtain ⟨hp, g, dr, tk, os⟩ := s1
  have hn : H1 (hp.objs.size + 1) = none := I1.hok.fresh (Nat.le_succ _)
  have hq := q1 _ hn
  have kk : ∀ b o, hp.get? b = some o → ((hp.push (PySem.W.kdv_tup us)).push (PySem.HandSPX.excO C hp.objs.size)).get? b = some o := fun b o z =>
    Heap.get?_push_of_some _ (Heap.get?_push_of_some _ z)
  have hget : ((hp.push (PySem.W.kdv_tup us)).push (PySem.HandSPX.excO C hp.objs.size)).get? (hp.objs.size + 1) = some (PySem.HandSPX.excO C hp.objs.size) := by
    heap_get
  have I2 : Inv X pins σ (upd H1 (hp.objs.size + 1) (exo (hp.objs.size + 1) C none)) ⟨(hp.push (PySem.W.kdv_tup us)).push (PySem.HandSPX.excO C hp.objs.size), g, dr, tk, os⟩ :=
    I1.laid (t' := tk) (a := hp.objs.size + 1) (o := exo (hp.objs.size + 1) C none) (h' := (hp.push (PySem.W.kdv_tup us)).push (PySem.HandSPX.excO C hp.objs.size)) kk (Nat.le_succ _) (exo_ok hget)
  have r2 : Vals (V.ref (hp.objs.size + 1) :: vs) (Value.ref (hp.objs.size + 1) :: us) := .cons rfl r1
  have hl : (Value.ref (hp.objs.size + 1) :: us).length = ps.length := by
    rw [← r2.length]
    exact F1.len _ _ _ _ hq
  have hus : us.length ≤ sizeLine := by
    rw [← Paired.length r1, sizeLine_eq]
    omega
  have hb2 := hb ⟨(hp.push (PySem.W.kdv_tup us)).push (PySem.HandSPX.excO C hp.objs.size), g, dr, tk, os⟩ (Value.ref (hp.objs.size + 1) :: us) I2.kIn (by rw [List.append_nil]; exact hl)
  rw [List.append_nil] at hb2
  refine wpAny_call (PySem.HandSPX.call_own PySem.F.excBase_ValueError (fun Y => PySem.HandSPX.refsVE_contains Y bm hbm) (I1.kIn _ _ hC) (PySem.W.looks_findIn I1.kIn iC) (fun self => PySem.W.bind_fn I1.kIn self tI) hus
    (codeAny_mono (F1.run _ X.stack _ _ ⟨Value.ref (hp.objs.size + 1) :: us, []⟩ (Value.ref (hp.objs.size + 1) :: us) _ _ (fun _ _ _ => False) (hr.make C us []) (I2.env0.make C us []) hb2 r2 hq) fun r s' z => ?_))
  cases r with
  | error er => exact absurd z id
  | ok fl =>
    cases fl with
    | ret u =>
      obtain ⟨v, H', J, rv, ev, qq⟩ := I2.after z
      subst ev
      exact ⟨rv, .ref (hp.objs.size + 1), H', J, rfl, qq⟩
    | next => exact absurd z id
    | brk => exact absurd z id
    | cont => exact absurd z id
/-- what isinstance asks of the class of an exception -/
structure XcC (K : PySem.W.Frag) (C : Addr) : Prop where
  cl : (PySem.W.clsIn K C).isSome = true
  hg : PySem.W.findIn K (.ref C) "__getattribute__" = some (some (.builtin "BaseException.__getattribute__"))
  hk : PySem.W.findIn K (.ref C) "__getattr__" = some none
  hs : PySem.W.subIn K (.ref C) (.type "BaseException") = some true
  ha : PySem.W.findIn K (.ref C) "__class__" = some (some (.builtin "object.__class__"))
  hn : PySem.W.specialIn K (.builtin "object.__class__") "__get__" = some (some (.builtin "getset_descriptor.__get__"))
  ht : PySem.W.takesIn K (.builtin "object.__class__") = some true
  hm : PySem.W.mroIn K C (.type "object") = some true
def xcB (K : PySem.W.Frag) (C : Addr) : Bool := (PySem.W.clsIn K C).isSome && (decide (PySem.W.findIn K (.ref C) "__getattribute__" = some (some (.builtin "BaseException.__getattribute__"))) && (decide (PySem.W.findIn K (.ref C) "__getattr__" = some none) &&
  (decide (PySem.W.subIn K (.ref C) (.type "BaseException") = some true) && (decide (PySem.W.findIn K (.ref C) "__class__" = some (some (.builtin "object.__class__"))) && (decide (PySem.W.specialIn K (.builtin "object.__class__") "__get__" = some (some (.builtin "getset_descriptor.__get__"))) &&
  (decide (PySem.W.takesIn K (.builtin "object.__class__") = some true) && decide (PySem.W.mroIn K C (.type "object") = some true)))))))
theorem xcB_ok {K : PySem.W.Frag} {C : Addr} (h : xcB K C = true) : XcC K C := by
  unfold xcB at h
  simp only [Bool.and_eq_true, decide_eq_true_eq] at h
  obtain ⟨h1, h2, h3, h4, h5, h6, h7, h8⟩ := h
  exact ⟨h1, h2, h3, h4, h5, h6, h7, h8⟩
def rIsX (K : PySem.W.Frag) : List V → Hp → VK → Prop := fun xs H Q => ∃ (a C : Addr) (c : V) (cv : Value) (b : Bool), xs = [.ref a, c] ∧ ExAt H a C ∧ XcC K C ∧ ClsV c cv ∧ PySem.W.kitOne K (.ref C) cv = some b ∧ Q (.bl b) H
theorem call_isX : CallR X (.builtin "isinstance") (rIsX X.K) := by
  intro pins st σ H xs us Q I r h
  obtain ⟨a, C, c, cv, b, rfl, ex, xc, kc, e, q⟩ := h
  obtain ⟨u1, u2, rfl, r1, r2⟩ := vals2 r
  cases r1
  have e2 := kc.eq r2
  subst e2
  obtain ⟨oe, od, J⟩ := ex.inst I
  exact PySem.W.kia_one (PySem.W.kitx_exc xc.cl xc.hg xc.hk xc.hs xc.ha xc.hn xc.ht xc.hm) I.kIn J e (fun z => nomatch z) fun tk => ⟨.bl b, H, I.kept (t' := tk) fun _ _ z => z, rfl, q⟩
theorem call_isXK {K : PySem.W.Frag} (hK : X.K = K) : CallR X (.builtin "isinstance") (rIsX K) := by
  subst hK
  exact call_isX
/-- e.f of such an object -/
def tXv (K : PySem.W.Frag) (f : Str) (te : TE) : TE := fun σ H Q => te σ H fun x H1 => ∃ (a C d : Addr) (fs : List (Str × V)) (v : V), x = .ref a ∧ H1 a = some (exo a C (some d)) ∧ H1 d = some (exd d fs) ∧ XfC K C ∧ PySem.W.findIn K (.ref C) f = some none ∧ fs.lookup f = some v ∧ Q v H1
theorem pe_xv {e : Expr} {te : TE} {pos : Pos} {n : Str} (he : PE X e te) (hb : attributeBase e n X.env (eval e X.env) = eval e X.env := by rfl) : PE X (.Attribute e n pos) (tXv X.K n te) := by
  constructor
  intro pins st σ H Q I h
  refine attr_of hb (thn (he.run pins st σ H _ I h) fun u s1 z => ?_)
  obtain ⟨x, H1, I1, rx, a, C, d, fs, v, rfl, h1, h2, xf, hno, hl, q⟩ := z
  cases rx
  obtain ⟨t1, ho⟩ := exo_at I1.hok h1
  obtain ⟨mA, hns, hrel⟩ := exd_at I1.hok h2
  obtain ⟨od, hod, hlk⟩ := lookIn_ns hns
  obtain ⟨u, hu, ru⟩ := RelO.some_of (v := v) (o := mA n) (by rw [← hl]; exact hrel n)
  have J : PySem.W.InstAt s1.heap a _ C (some od) := ⟨ho, rfl, rfl, hod⟩
  exact HandSPX.exc_get I1.kIn J xf.ga xf.gg xf.exC (PySem.W.findObj_own xf.hdC hno rfl (by rw [hlk, hu])) (handed_of ru) ⟨v, H1, I1.tok _, ru, q⟩
end
/-! ### facts of the written part, by one kernel run each -/
/-- a written tuple of texts -/
def strOf : Value → Option Str
  | .str x _ => some x
  | _ => none
def tupB (K : PySem.W.Frag) (a : Addr) (ws : List Str) : Bool := match K.lookup a with
  | some o => decide (o.cls = .type "tuple") && (match o.data with
    | .seq its _ => decide (its.size ≤ 1000) && decide (its.toList.map strOf = ws.map some)
    | _ => false)
  | none => false
theorem vals_str : ∀ {us : List Value} {ws : List Str}, us.map strOf = ws.map some → Vals (ws.map V.str) us
  | [], [], _ => .nil
  | [], _ :: _, h => nomatch h
  | _ :: _, [], h => nomatch h
  | u :: us, w :: ws, h => by
    rw [List.map_cons, List.map_cons] at h
    obtain ⟨h1, h2⟩ := List.cons.inj h
    refine .cons ?_ (vals_str h2)
    cases u with
    | str x t =>
      have e : x = w := Option.some.inj h1
      subst e
      exact ⟨t, rfl⟩
    | _ => exact nomatch h1
theorem tupB_ok {K : PySem.W.Frag} {a : Addr} {ws : List Str} (h : tupB K a ws = true) (H : Hp) : SqT K H a (ws.map V.str) := by
  unfold tupB at h
  split at h
  · rename_i o ho
    rw [Bool.and_eq_true] at h
    obtain ⟨h1, h2⟩ := h
    split at h2
    · rename_i its n hd
      rw [Bool.and_eq_true] at h2
      exact .inr ⟨o, its, n, ho, of_decide_eq_true h1, hd, sz (Nat.le_trans (of_decide_eq_true h2.1) (by decide)), vals_str (of_decide_eq_true h2.2)⟩
    · cases h2
  · cases h
/-- the refusals among one another, and under the first of them -/
def kitsB (K : PySem.W.Frag) (t : Addr) (cs : List Addr) : Bool := (List.range cs.length).all fun i => decide (PySem.W.kitOne K (.ref (cs.getD i 0)) (.ref t) = some true) && (List.range cs.length).all fun j => decide (PySem.W.kitOne K (.ref (cs.getD i 0)) (.ref (cs.getD j 0)) = some (decide (i = j)))
theorem kitsB_top {K : PySem.W.Frag} {t : Addr} {cs : List Addr} (h : kitsB K t cs = true) {i : Nat} (hi : i < cs.length) : PySem.W.kitOne K (.ref (cs.getD i 0)) (.ref t) = some true := by
  unfold kitsB at h
  have z := List.all_eq_true.mp h i (List.mem_range.mpr hi)
  rw [Bool.and_eq_true] at z
  exact of_decide_eq_true z.1
theorem kitsB_two {K : PySem.W.Frag} {t : Addr} {cs : List Addr} (h : kitsB K t cs = true) {i j : Nat} (hi : i < cs.length) (hj : j < cs.length) : PySem.W.kitOne K (.ref (cs.getD i 0)) (.ref (cs.getD j 0)) = some (decide (i = j)) := by
  unfold kitsB at h
  have z := List.all_eq_true.mp h i (List.mem_range.mpr hi)
  rw [Bool.and_eq_true] at z
  exact of_decide_eq_true (List.all_eq_true.mp z.2 j (List.mem_range.mpr hj))
def dws : List Str := ["new", "put", "paint", "tie", "cut", "add", "spread"]

inductive Sl | pt | oth | num | plc | knd
  deriving DecidableEq
def fit : Sl → V → Prop
  | .pt, v => ∃ i, v = .int i
  | .oth, v => v = .non ∨ ∃ i, v = .int i
  | .num, v => ∃ i, v = .int i
  | .plc, v => ∃ i : Int, v = .int i ∧ 0 ≤ i
  | .knd, v => ∃ k, v = .str k ∧ k ∈ kinds
inductive FitAll : List Sl → List V → Prop
  | nil : FitAll [] []
  | cons {s : Sl} {v : V} {ss : List Sl} {vs : List V} : fit s v → FitAll ss vs → FitAll (s :: ss) (v :: vs)
def forms : List (Str × List Sl) := [("new", [.num, .knd]), ("put", [.pt, .num]), ("paint", [.pt, .knd]), ("tie", [.pt, .pt]), ("cut", [.pt, .pt]), ("add", [.pt, .pt, .num]), ("spread", [.pt, .oth, .num]),
  ("joined", [.pt, .pt]), ("way", [.pt, .pt]), ("total", [.pt, .pt]), ("many", [.pt, .pt]), ("most", [.pt, .pt]), ("first", [.pt, .pt, .knd]), ("reach", [.pt, .pt, .num]), ("kth", [.pt, .pt, .plc]), ("meet", [.pt, .pt, .pt]), ("sum", [.pt, .oth]), ("size", [.pt, .oth]), ("top", [.pt, .oth]), ("least", [.pt, .oth, .knd])]
def evs : List Str := ["new", "put", "paint", "tie", "cut", "add", "spread", "joined", "way", "total", "many", "most", "first", "reach", "kth", "meet", "sum", "size", "top", "least"]

/-! ### a written dict from texts to tuples of texts -/
def formB (K : PySem.W.Frag) : List DictEntry → List (Str × List Str) → Bool
  | [], [] => true
  | e :: es, f :: fs => e.key.isStr f.1 && ((match e.val with | .ref a => tupB K a f.2 | _ => false) && formB K es fs)
  | _, _ => false
theorem isStr_key {v : Value} {x : Str} (h : v.isStr x = true) : ∃ t, v = .str x t := by
  cases v with
  | str y t =>
    have e : (y == x) = true := h
    exact ⟨t, by rw [beq_iff_eq.mp e]⟩
  | _ => exact nomatch h
theorem formB_ns {K : PySem.W.Frag} : ∀ {es : List DictEntry} {fs : List (Str × List Str)}, formB K es fs = true → es.any (·.refKey) = false ∧ ∀ z : Str, match fs.lookup z with
    | none => es.find? (·.key.isStr z) = none
    | some ws => ∃ e a, es.find? (·.key.isStr z) = some e ∧ e.val = .ref a ∧ tupB K a ws = true
  | [], [], _ => ⟨rfl, fun _ => rfl⟩
  | [], _ :: _, h => nomatch h
  | _ :: _, [], h => nomatch h
  | e :: es, f :: fs, h => by
    unfold formB at h
    rw [Bool.and_eq_true, Bool.and_eq_true] at h
    obtain ⟨h1, h2, h3⟩ := h
    obtain ⟨r1, r2⟩ := formB_ns h3
    obtain ⟨t, ek⟩ := isStr_key h1
    refine ⟨?_, fun z => ?_⟩
    · rw [List.any_cons, r1, Bool.or_false]
      obtain ⟨hs, k, v⟩ := e
      dsimp only at ek
      subst ek
      rfl
    · have q := r2 z
      rw [List.lookup_cons, List.find?_cons]
      by_cases ez : z = f.1
      · subst ez
        rw [beq_self_eq_true]
        dsimp only
        rw [h1]
        dsimp only
        cases ev : e.val with
        | ref a =>
          rw [ev] at h2
          exact ⟨e, a, rfl, ev, h2⟩
        | _ =>
          rw [ev] at h2
          exact nomatch h2
      · have e1 : (z == f.1) = false := beq_eq_false_iff_ne.mpr ez
        have e2 : e.key.isStr z = false := by
          rw [ek]
          show (f.1 == z) = false
          exact beq_eq_false_iff_ne.mpr fun y => ez y.symm
        rw [e1, e2]
        dsimp only
        exact q
theorem formB_get {K : PySem.W.Frag} {d : Addr} {c : Value} {od : Option Addr} {es : Array DictEntry} {n : Nat} {sl : Array (Option Value)} {fs : List (Str × List Str)} (hl : K.lookup d = some ⟨c, od, .dict es n, sl⟩) (h : formB K es.toList fs = true) (z : Str) :
    match fs.lookup z with
    | none => PySem.W.nsIn K d z = some none
    | some ws => ∃ a, PySem.W.nsIn K d z = some (some (.ref a)) ∧ tupB K a ws = true := by
  obtain ⟨r1, r2⟩ := formB_ns h
  have q := r2 z
  unfold PySem.W.nsIn
  rw [hl]
  cases e : fs.lookup z with
  | none =>
    rw [e] at q
    dsimp only at q ⊢
    rw [q]
    dsimp only
    rw [r1]
    rfl
  | some ws =>
    rw [e] at q
    obtain ⟨en, a, h1, h2, h3⟩ := q
    refine ⟨a, ?_, h3⟩
    dsimp only
    rw [h1]
    dsimp only
    rw [h2]
/-! ### anything -/
inductive AnyV (H : Hp) : V → Prop
  | non : AnyV H .non
  | bl (b : Bool) : AnyV H (.bl b)
  | int (i : Int) : AnyV H (.int i)
  | str (x : Str) : AnyV H (.str x)
  | tup {a : Addr} {xs : List V} (h : H a = some (.tup xs)) : AnyV H (.ref a)
  | lst {a : Addr} {xs : List V} (h : H a = some (.lst xs)) : AnyV H (.ref a)
  | dK {a : Addr} {kvs : List (Key × V)} (h : H a = some (.dK kvs)) : AnyV H (.ref a)
/-- all but tables of code objects stays -/
def Kp (H H' : Hp) : Prop := ∀ a o, H a = some o → (∀ ps, o ≠ .tbl ps) → H' a = some o
theorem Kp.refl (H : Hp) : Kp H H := fun _ _ e _ => e
theorem Kp.trans {H H1 H2 : Hp} (x : Kp H H1) (y : Kp H1 H2) : Kp H H2 := fun a o e n => y a o (x a o e n) n
theorem Kp.of_same {H H' : Hp} (s : Same H H') : Kp H H' := fun a o e _ => s a o e
theorem Kp.of_tab {H H' : Hp} {P : Addr} (g : GxR.TabG H P) (t : GxR.Tabbed P H H') : Kp H H' := fun a o e n => by
  by_cases h : a = P
  · subst h
    obtain ⟨ps, hp, _⟩ := g
    rw [hp] at e
    exact absurd (Option.some.inj e).symm (n ps)
  · rw [t.2 a h]
    exact e
theorem AnyV.kp {H H' : Hp} (k : Kp H H') {v : V} (h : AnyV H v) : AnyV H' v := by
  cases h with
  | non => exact .non
  | bl b => exact .bl b
  | int i => exact .int i
  | str x => exact .str x
  | tup h => exact .tup (k _ _ h (by intro ps z; cases z))
  | lst h => exact .lst (k _ _ h (by intro ps z; cases z))
  | dK h => exact .dK (k _ _ h (by intro ps z; cases z))
/-- isinstance with int, bool, str, tuple -/
def isIntV : V → Bool
  | .bl _ => true
  | .int _ => true
  | _ => false
def isBoolV : V → Bool
  | .bl _ => true
  | _ => false
def isStrV : V → Bool
  | .str _ => true
  | _ => false
theorem int_ok {K : PySem.W.Frag} {H : Hp} {v : V} (h : AnyV H v) : ∃ t, TyX K H v t ∧ PySem.W.kitOne K t (.type "int") = some (isIntV v) := by
  cases h with
  | non => exact ⟨_, .base .non, kit_ty (show kitB _ _ = some false by decide +kernel)⟩
  | bl b => exact ⟨_, .base (.bl b), kit_ty (show kitB _ _ = some true by decide +kernel)⟩
  | int i => exact ⟨_, .base (.int i), kit_ty (show kitB _ _ = some true by decide +kernel)⟩
  | str x => exact ⟨_, .base (.str x), kit_ty (show kitB _ _ = some false by decide +kernel)⟩
  | tup h => exact ⟨_, .base (.tup h), kit_ty (show kitB _ _ = some false by decide +kernel)⟩
  | lst h => exact ⟨_, .base (.lst h), kit_ty (show kitB _ _ = some false by decide +kernel)⟩
  | dK h => exact ⟨_, .base (.dK h), kit_ty (show kitB _ _ = some false by decide +kernel)⟩
theorem bool_ok {K : PySem.W.Frag} {H : Hp} {v : V} (h : AnyV H v) : ∃ t, TyX K H v t ∧ PySem.W.kitOne K t (.type "bool") = some (isBoolV v) := by
  cases h with
  | non => exact ⟨_, .base .non, kit_ty (show kitB _ _ = some false by decide +kernel)⟩
  | bl b => exact ⟨_, .base (.bl b), kit_ty (show kitB _ _ = some true by decide +kernel)⟩
  | int i => exact ⟨_, .base (.int i), kit_ty (show kitB _ _ = some false by decide +kernel)⟩
  | str x => exact ⟨_, .base (.str x), kit_ty (show kitB _ _ = some false by decide +kernel)⟩
  | tup h => exact ⟨_, .base (.tup h), kit_ty (show kitB _ _ = some false by decide +kernel)⟩
  | lst h => exact ⟨_, .base (.lst h), kit_ty (show kitB _ _ = some false by decide +kernel)⟩
  | dK h => exact ⟨_, .base (.dK h), kit_ty (show kitB _ _ = some false by decide +kernel)⟩
theorem str_ok {K : PySem.W.Frag} {H : Hp} {v : V} (h : AnyV H v) : ∃ t, TyX K H v t ∧ PySem.W.kitOne K t (.type "str") = some (isStrV v) := by
  cases h with
  | non => exact ⟨_, .base .non, kit_ty (show kitB _ _ = some false by decide +kernel)⟩
  | bl b => exact ⟨_, .base (.bl b), kit_ty (show kitB _ _ = some false by decide +kernel)⟩
  | int i => exact ⟨_, .base (.int i), kit_ty (show kitB _ _ = some false by decide +kernel)⟩
  | str x => exact ⟨_, .base (.str x), kit_ty (show kitB _ _ = some true by decide +kernel)⟩
  | tup h => exact ⟨_, .base (.tup h), kit_ty (show kitB _ _ = some false by decide +kernel)⟩
  | lst h => exact ⟨_, .base (.lst h), kit_ty (show kitB _ _ = some false by decide +kernel)⟩
  | dK h => exact ⟨_, .base (.dK h), kit_ty (show kitB _ _ = some false by decide +kernel)⟩
/-! ### rows by their form -/
def wholeB : V → Bool
  | .int _ => true
  | _ => false
def kindB : V → Bool
  | .str k => decide (k ∈ kinds)
  | _ => false
def fitB : Sl → V → Bool
  | .knd, v => kindB v
  | .oth, v => decide (v = .non) || wholeB v
  | .plc, .int i => decide (0 ≤ i)
  | .plc, _ => false
  | _, v => wholeB v
def slT : Sl → Str
  | .pt => "point"
  | .oth => "other"
  | .num => "number"
  | .plc => "place"
  | .knd => "kind"
def fitsB : List Sl → List V → Bool
  | [], [] => true
  | s :: ss, v :: vs => fitB s v && fitsB ss vs
  | _, _ => false
theorem fits_len : ∀ {ss : List Sl} {vs : List V}, vs.length ≠ ss.length → fitsB ss vs = false
  | [], [], h => absurd rfl h
  | [], _ :: _, _ => rfl
  | _ :: _, [], _ => rfl
  | s :: ss, v :: vs, h => by
    show (fitB s v && fitsB ss vs) = false
    rw [fits_len (ss := ss) (vs := vs) fun z => h (by rw [List.length_cons, List.length_cons, z]), Bool.and_false]
theorem drop_at {α : Type} {xs : List α} {i : Nat} {x : α} (h : xs[i]? = some x) : xs.drop i = x :: xs.drop (i + 1) := by
  obtain ⟨hl, e⟩ := List.getElem?_eq_some_iff.mp h
  rw [List.drop_eq_getElem_cons hl, e]
def rowB : List V → Bool
  | .str w :: ps => (match forms.lookup w with | some sl => fitsB sl ps | none => false)
  | _ => false
def formsT : List (Str × List Str) := forms.map fun f => (f.1, f.2.map slT)
theorem formsT_lookup (z : Str) : formsT.lookup z = (forms.lookup z).map fun sl => sl.map slT := by
  have g : ∀ l : List (Str × List Sl), (l.map fun f => (f.1, f.2.map slT)).lookup z = (l.lookup z).map fun sl => sl.map slT := by
    intro l
    induction l with
    | nil => rfl
    | cons f r ih =>
      obtain ⟨a, b⟩ := f
      rw [List.map_cons, List.lookup_cons, List.lookup_cons]
      cases e : z == a with
      | true => rfl
      | false => exact ih
  exact g forms
/-- a def by its body, its code object known -/
theorem okC {P : Program} {w : World} {K : PySem.W.Frag} {mg : Str → Option Value} {base : Heap} {x qual : Str} {st : Stmt} {f c : Addr} {fd : FuncData} {N ps : List Str} {k : Nat} {sp : Sp} (F : Fun K x qual st f fd) (hcd : fd.code = .ref c) (S : FnScope N ps (defScope st))
    (len : ∀ vs H Q E, sp vs H Q E → vs.length = ps.length)
    (body : ∀ (A : Around) (outer : List Env) (s : Shared) (H : Hp) (vs : List V) (Q : VK) (E : XK), Room k (A.deeper (PyProof.Rows.envOfC qual (defScope st) s.heap.objs.size f (.ref c))) → sp vs H Q E →
      ∃ t, PSs (cxOf CX0 P w K mg base N qual (defScope st) f (.ref c) A outer s H E).nox (defBody st) t ∧ t { nx := fun _ H' => Q .non H', rt := Q } (start N vs) H) : FnOk P w K mg base CX0 (k + 1) f fd ps sp := by
  obtain ⟨oc, od, kV, doc, pm, an, cdv, ct, osl, rfl, lk, hc⟩ := F.ex
  have e : cdv = .ref c := hcd
  subst e
  refine fn_of lk hc S len fun A outer s H vs Q E hr hsp => ?_
  obtain ⟨t, h, q⟩ := body A outer s H vs Q E hr hsp
  exact ⟨t, h.nox, q⟩


/-! ### the text by places -/
def topS (i : Nat) : Stmt := PySem.Challenge.pw_tiedcut_k10_what_is_a_row.main.body.getD i (.Pass ⟨0, 0, 0, 0⟩)
abbrev s_iswhole : Stmt := topS 1
abbrev s_iskind : Stmt := topS 4
abbrev s_isrow : Stmt := topS 7
abbrev s_fits : Stmt := topS 8
abbrev s_Lmixed : Stmt := topS 10
abbrev s_Lbox : Stmt := topS 11
abbrev s_Lnext : Stmt := topS 12
abbrev s_Lfew : Stmt := topS 13
abbrev s_Lworth : Stmt := topS 14
abbrev s_Lpoint : Stmt := topS 15
abbrev s_Lforest : Stmt := topS 16
abbrev s_Lspot : Stmt := topS 17
abbrev s_Lpair : Stmt := topS 18
abbrev s_Lrow : Stmt := topS 19
abbrev s_Lsame : Stmt := topS 20
abbrev s_Lisrow : Stmt := topS 21
abbrev s_Levery : Stmt := topS 22
abbrev s_Lspoilt : Stmt := topS 23
abbrev s_law : Stmt := topS 24
theorem sc_iswhole : FnScope ["thing"] ["thing"] (defScope s_iswhole) := ⟨rfl, rfl, rfl, by decide +kernel, rfl, by decide +kernel, by decide +kernel⟩
theorem sc_iskind : FnScope ["thing"] ["thing"] (defScope s_iskind) := ⟨rfl, rfl, rfl, by decide +kernel, rfl, by decide +kernel, by decide +kernel⟩
theorem sc_isrow : FnScope ["thing", "form", "parts", "part", "wanted"] ["thing"] (defScope s_isrow) := ⟨rfl, rfl, rfl, by decide +kernel, rfl, by decide +kernel, by decide +kernel⟩
theorem sc_fits : FnScope ["part", "wanted"] ["part", "wanted"] (defScope s_fits) := ⟨rfl, rfl, rfl, by decide +kernel, rfl, by decide +kernel, by decide +kernel⟩
theorem sc_Lmixed : FnScope ["_law_cell", "_law_many", "_law_at", "_law_found", "_law_k"] ["_law_cell", "_law_many"] (defScope s_Lmixed) := ⟨rfl, rfl, rfl, by decide +kernel, rfl, by decide +kernel, by decide +kernel⟩
theorem sc_Lbox : FnScope ["_law_script", "_law_found", "_law_cell", "_law_left", "_law_k"] ["_law_script"] (defScope s_Lbox) := ⟨rfl, rfl, rfl, by decide +kernel, rfl, by decide +kernel, by decide +kernel⟩
theorem sc_Lnext : FnScope ["_law_box_here"] ["_law_box_here"] (defScope s_Lnext) := ⟨rfl, rfl, rfl, by decide +kernel, rfl, by decide +kernel, by decide +kernel⟩
theorem sc_Lfew : FnScope ["_law_box_here", "_law_few_here", "_law_most", "_law_x"] ["_law_box_here", "_law_few_here", "_law_most"] (defScope s_Lfew) := ⟨rfl, rfl, rfl, by decide +kernel, rfl, by decide +kernel, by decide +kernel⟩
theorem sc_Lworth : FnScope ["_law_box_here", "_law_x"] ["_law_box_here"] (defScope s_Lworth) := ⟨rfl, rfl, rfl, by decide +kernel, rfl, by decide +kernel, by decide +kernel⟩
theorem sc_Lpoint : FnScope ["_law_box_here", "_law_x"] ["_law_box_here"] (defScope s_Lpoint) := ⟨rfl, rfl, rfl, by decide +kernel, rfl, by decide +kernel, by decide +kernel⟩
theorem sc_Lforest : FnScope ["_law_box_here", "_law_few_here", "_law_most", "_law_many", "_law_shape", "_law_names", "_law_k", "_law_ties", "_law_apart", "_law_under"] ["_law_box_here", "_law_few_here", "_law_most"] (defScope s_Lforest) := ⟨rfl, rfl, rfl, by decide +kernel, rfl, by decide +kernel, by decide +kernel⟩
theorem sc_Lspot : FnScope ["_law_box_here", "_law_many", "_law_x"] ["_law_box_here", "_law_many"] (defScope s_Lspot) := ⟨rfl, rfl, rfl, by decide +kernel, rfl, by decide +kernel, by decide +kernel⟩
theorem sc_Lpair : FnScope ["_law_box_here", "_law_forest_here", "_law_whole", "_law_x", "_law_one", "_law_other", "_law_two"] ["_law_box_here", "_law_forest_here", "_law_whole"] (defScope s_Lpair) := ⟨rfl, rfl, rfl, by decide +kernel, rfl, by decide +kernel, by decide +kernel⟩
theorem sc_Lrow : FnScope ["_law_box_here", "_law_forest_here", "_law_words", "_law_word", "_law_many", "_law_two"] ["_law_box_here", "_law_forest_here", "_law_words"] (defScope s_Lrow) := ⟨rfl, rfl, rfl, by decide +kernel, rfl, by decide +kernel, by decide +kernel⟩
theorem sc_Lsame : FnScope ["_law_found", "_law_due", "_law_one", "_law_other"] ["_law_found", "_law_due"] (defScope s_Lsame) := ⟨rfl, rfl, rfl, by decide +kernel, rfl, by decide +kernel, by decide +kernel⟩
theorem sc_Lisrow : FnScope ["_law_thing", "_law_forms", "_law_signs", "_law_sign", "_law_one", "_law_fits"] ["_law_thing"] (defScope s_Lisrow) := ⟨rfl, rfl, rfl, by decide +kernel, rfl, by decide +kernel, by decide +kernel⟩
theorem sc_Levery : FnScope ["_law_deeds", "_law_asks"] [] (defScope s_Levery) := ⟨rfl, rfl, rfl, by decide +kernel, rfl, by decide +kernel, by decide +kernel⟩
theorem sc_Lspoilt : FnScope ["_law_box_here", "_law_row_here", "_law_x", "_law_at", "_law_thing"] ["_law_box_here", "_law_row_here"] (defScope s_Lspoilt) := ⟨rfl, rfl, rfl, by decide +kernel, rfl, by decide +kernel, by decide +kernel⟩
theorem sc_law : FnScope ["_law_script", "_law_box_here", "_law_turn", "_law_row_here", "_law_k", "_law_thing"] ["_law_script"] (defScope s_law) := ⟨rfl, rfl, rfl, by decide +kernel, rfl, by decide +kernel, by decide +kernel⟩
/-- what the top has left -/
structure Top (w : World) (K : PySem.W.Frag) (mg : Str → Option Value) where
  a_iswhole : Addr
  d_iswhole : FuncData
  F_iswhole : Fun K "is_whole" "is_whole" s_iswhole a_iswhole d_iswhole
  b_iswhole : Binds K d_iswhole ["thing"] []
  g_iswhole : mg "is_whole" = some (.ref a_iswhole)
  a_iskind : Addr
  d_iskind : FuncData
  F_iskind : Fun K "is_kind" "is_kind" s_iskind a_iskind d_iskind
  b_iskind : Binds K d_iskind ["thing"] []
  g_iskind : mg "is_kind" = some (.ref a_iskind)
  a_isrow : Addr
  d_isrow : FuncData
  F_isrow : Fun K "is_row" "is_row" s_isrow a_isrow d_isrow
  b_isrow : Binds K d_isrow ["thing"] []
  g_isrow : mg "is_row" = some (.ref a_isrow)
  a_fits : Addr
  d_fits : FuncData
  F_fits : Fun K "fits" "fits" s_fits a_fits d_fits
  b_fits : Binds K d_fits ["part", "wanted"] []
  g_fits : mg "fits" = some (.ref a_fits)
  a_Lmixed : Addr
  d_Lmixed : FuncData
  F_Lmixed : Fun K "_law_mixed" "_law_mixed" s_Lmixed a_Lmixed d_Lmixed
  b_Lmixed : Binds K d_Lmixed ["_law_cell", "_law_many"] []
  g_Lmixed : mg "_law_mixed" = some (.ref a_Lmixed)
  a_Lbox : Addr
  d_Lbox : FuncData
  F_Lbox : Fun K "_law_box" "_law_box" s_Lbox a_Lbox d_Lbox
  b_Lbox : Binds K d_Lbox ["_law_script"] []
  g_Lbox : mg "_law_box" = some (.ref a_Lbox)
  a_Lnext : Addr
  d_Lnext : FuncData
  F_Lnext : Fun K "_law_next" "_law_next" s_Lnext a_Lnext d_Lnext
  b_Lnext : Binds K d_Lnext ["_law_box_here"] []
  g_Lnext : mg "_law_next" = some (.ref a_Lnext)
  a_Lfew : Addr
  d_Lfew : FuncData
  F_Lfew : Fun K "_law_few" "_law_few" s_Lfew a_Lfew d_Lfew
  b_Lfew : Binds K d_Lfew ["_law_box_here", "_law_few_here", "_law_most"] []
  g_Lfew : mg "_law_few" = some (.ref a_Lfew)
  a_Lworth : Addr
  d_Lworth : FuncData
  F_Lworth : Fun K "_law_worth" "_law_worth" s_Lworth a_Lworth d_Lworth
  b_Lworth : Binds K d_Lworth ["_law_box_here"] []
  g_Lworth : mg "_law_worth" = some (.ref a_Lworth)
  a_Lpoint : Addr
  d_Lpoint : FuncData
  F_Lpoint : Fun K "_law_point" "_law_point" s_Lpoint a_Lpoint d_Lpoint
  b_Lpoint : Binds K d_Lpoint ["_law_box_here"] []
  g_Lpoint : mg "_law_point" = some (.ref a_Lpoint)
  a_Lforest : Addr
  d_Lforest : FuncData
  F_Lforest : Fun K "_law_forest" "_law_forest" s_Lforest a_Lforest d_Lforest
  b_Lforest : Binds K d_Lforest ["_law_box_here", "_law_few_here", "_law_most"] []
  g_Lforest : mg "_law_forest" = some (.ref a_Lforest)
  a_Lspot : Addr
  d_Lspot : FuncData
  F_Lspot : Fun K "_law_spot" "_law_spot" s_Lspot a_Lspot d_Lspot
  b_Lspot : Binds K d_Lspot ["_law_box_here", "_law_many"] []
  g_Lspot : mg "_law_spot" = some (.ref a_Lspot)
  a_Lpair : Addr
  d_Lpair : FuncData
  F_Lpair : Fun K "_law_pair" "_law_pair" s_Lpair a_Lpair d_Lpair
  b_Lpair : Binds K d_Lpair ["_law_box_here", "_law_forest_here", "_law_whole"] []
  g_Lpair : mg "_law_pair" = some (.ref a_Lpair)
  a_Lrow : Addr
  d_Lrow : FuncData
  F_Lrow : Fun K "_law_row" "_law_row" s_Lrow a_Lrow d_Lrow
  b_Lrow : Binds K d_Lrow ["_law_box_here", "_law_forest_here", "_law_words"] []
  g_Lrow : mg "_law_row" = some (.ref a_Lrow)
  a_Lsame : Addr
  d_Lsame : FuncData
  F_Lsame : Fun K "_law_same" "_law_same" s_Lsame a_Lsame d_Lsame
  b_Lsame : Binds K d_Lsame ["_law_found", "_law_due"] []
  g_Lsame : mg "_law_same" = some (.ref a_Lsame)
  a_Lisrow : Addr
  d_Lisrow : FuncData
  F_Lisrow : Fun K "_law_is_row" "_law_is_row" s_Lisrow a_Lisrow d_Lisrow
  b_Lisrow : Binds K d_Lisrow ["_law_thing"] []
  g_Lisrow : mg "_law_is_row" = some (.ref a_Lisrow)
  a_Levery : Addr
  d_Levery : FuncData
  F_Levery : Fun K "_law_every" "_law_every" s_Levery a_Levery d_Levery
  b_Levery : Binds K d_Levery [] []
  g_Levery : mg "_law_every" = some (.ref a_Levery)
  a_Lspoilt : Addr
  d_Lspoilt : FuncData
  F_Lspoilt : Fun K "_law_spoilt" "_law_spoilt" s_Lspoilt a_Lspoilt d_Lspoilt
  b_Lspoilt : Binds K d_Lspoilt ["_law_box_here", "_law_row_here"] []
  g_Lspoilt : mg "_law_spoilt" = some (.ref a_Lspoilt)
  a_law : Addr
  d_law : FuncData
  F_law : Fun K "law" "law" s_law a_law d_law
  b_law : Binds K d_law ["_law_script"] []
  g_law : mg "law" = some (.ref a_law)
  m_all : mg "all" = none
  m_bool : mg "bool" = none
  m_int : mg "int" = none
  m_isinstance : mg "isinstance" = none
  m_len : mg "len" = none
  m_list : mg "list" = none
  m_max : mg "max" = none
  m_min : mg "min" = none
  m_range : mg "range" = none
  m_sorted : mg "sorted" = none
  m_str : mg "str" = none
  m_sum : mg "sum" = none
  m_tuple : mg "tuple" = none
  m_zip : mg "zip" = none
  aK : Addr
  v_KINDS : mg "KINDS" = some (.ref aK)
  tK : tupB K aK kinds = true
  aF : Addr
  v_FORMS : mg "FORMS" = some (.ref aF)
  esF : Array DictEntry
  nF : Nat
  lF : K.lookup aF = some ⟨.type "dict", none, .dict esF nF, #[]⟩
  kF : PySem.W.KeysLit w.params esF.toList
  oF : (aF == sysModules) = false
  fF : formB K esF.toList formsT = true
  cR : Addr
  PR : Addr
  hcR : d_isrow.code = .ref cR
/-! ### the box of draws -/
def Smalls (ns : List Int) : Prop := ∀ x ∈ ns, 0 ≤ x ∧ x < 2147483648
theorem Smalls.append {a b : List Int} (h : Smalls a) (g : Smalls b) : Smalls (a ++ b) := fun x m => by
  rcases List.mem_append.mp m with m | m
  · exact h x m
  · exact g x m
theorem Smalls.one {x : Int} (h0 : 0 ≤ x) (h1 : x < 2147483648) : Smalls [x] := fun y m => by
  rcases List.mem_cons.mp m with e | m
  · subst e
    exact ⟨h0, h1⟩
  · cases m
theorem Smalls.take {a : List Int} (h : Smalls a) (k : Nat) : Smalls (a.take k) := fun x m => h x (List.mem_of_mem_take m)
structure BoxAt (H : Hp) (b L : Addr) : Prop where
  ex : ∃ (ns : List Int) (n : Int), H b = some (.lst [.ref L, .int n]) ∧ H L = some (.lst (ns.map V.int)) ∧ ns ≠ [] ∧ L ≠ b ∧ Smalls ns
theorem BoxAt.same {H H' : Hp} {b L : Addr} (B : BoxAt H b L) (s : Same H H') : BoxAt H' b L := by
  obtain ⟨ns, n, h1, h2, r⟩ := B.ex
  exact ⟨ns, n, s _ _ h1, s _ _ h2, r⟩
theorem BoxAt.new {H : Hp} {b L p : Addr} {o : HO} (B : BoxAt H b L) (n : H p = none) : BoxAt (upd H p o) b L := B.same (same_new n)
theorem BoxAt.put {H : Hp} {b L p : Addr} {o : HO} (B : BoxAt H b L) (n1 : p ≠ b) (n2 : p ≠ L) : BoxAt (upd H p o) b L := by
  obtain ⟨ns, n, h1, h2, r⟩ := B.ex
  refine ⟨ns, n, ?_, ?_, r⟩
  · rw [upd_ne n1.symm]
    exact h1
  · rw [upd_ne n2.symm]
    exact h2
theorem BoxAt.tups {K : PySem.W.Frag} {H H' : Hp} {b L : Addr} (B : BoxAt H b L) (s : But b H H') : Tups K H H' := by
  obtain ⟨ns, n, h1, _⟩ := B.ex
  exact Tups.of_but s h1
theorem BoxAt.ne {H : Hp} {b L p : Addr} (B : BoxAt H b L) (n : H p = none) : p ≠ b := by
  obtain ⟨ns, n', h1, _⟩ := B.ex
  exact (ne_of_none h1 n).symm
theorem BoxAt.neL {H : Hp} {b L p : Addr} (B : BoxAt H b L) (n : H p = none) : p ≠ L := by
  obtain ⟨ns, n', h1, h2, _⟩ := B.ex
  exact (ne_of_none h2 n).symm
/-- what is new behind a draw was new ahead of it -/
theorem BoxAt.back {H H' : Hp} {b L p : Addr} (B : BoxAt H' b L) (s : But b H H') (n : H' p = none) : H p = none := by
  cases e : H p with
  | none => rfl
  | some o =>
    have z := s _ _ e (B.ne n)
    rw [z] at n
    cases n
def spMixed : Sp := fun vs H Q _ => ∃ (c m : Int), vs = [.int c, .int m] ∧ 0 ≤ m ∧ m ≤ 700 ∧ ∀ (p : Addr) (ns : List Int) (H' : Hp), Same H H' → H p = none → H' p = some (.lst (ns.map V.int)) → (ns.length : Int) = m → Smalls ns → Q (.ref p) H'
def spBox (K : PySem.W.Frag) : Sp := fun vs H Q _ => ∃ (a : Addr) (ns : List Int), vs = [.ref a] ∧ SqL K H a (ns.map V.int) ∧ ns.length ≤ 63 ∧ ∀ (b L : Addr) (H' : Hp), Same H H' → H b = none → BoxAt H' b L → Q (.ref b) H'
/-- a draw: the box at b goes on, all else stays; what comes of it -/
def spDraw (R : Int → Prop) : Sp := fun vs H Q _ => ∃ (b L : Addr), vs = [.ref b] ∧ BoxAt H b L ∧ ∀ (x : Int) (H' : Hp), R x → BoxAt H' b L → But b H H' → Q (.int x) H'
abbrev spNext : Sp := spDraw fun x => 0 ≤ x ∧ x < 2147483648
abbrev spWorth : Sp := spDraw fun x => -(2 ^ 90) < x ∧ x < 2 ^ 90
def spFew : Sp := fun vs H Q _ => ∃ (b L : Addr) (f m : Int), vs = [.ref b, .int f, .int m] ∧ BoxAt H b L ∧ 0 ≤ f ∧ 0 ≤ m ∧ f < 1000 ∧ m < 1000 ∧ ∀ (x : Int) (H' : Hp), 0 ≤ x → (x ≤ f ∨ x ≤ m) → BoxAt H' b L → But b H H' → Q (.int x) H'
def spSpot : Sp := fun vs H Q _ => ∃ (b L : Addr) (m : Int), vs = [.ref b, .int m] ∧ BoxAt H b L ∧ 0 < m ∧ m < 1000 ∧ ∀ (x : Int) (H' : Hp), -2 < x → x < 2000 → BoxAt H' b L → But b H H' → Q (.int x) H'
def pdata (p : Int × Str) : PyData := .tuple [.int p.1, .str p.2]
def tdata (t : Int × Int) : PyData := .tuple [.int t.1, .int t.2]
def PtOk (p : Int × Str) : Prop := -(2 ^ 90) < p.1 ∧ p.1 < 2 ^ 90 ∧ p.2 ∈ kinds
def spPoint (K : PySem.W.Frag) : Sp := fun vs H Q _ => ∃ (b L : Addr), vs = [.ref b] ∧ BoxAt H b L ∧ ∀ (p : Addr) (x : Int) (k : Str) (H' : Hp), PtOk (x, k) → BoxAt H' b L → But b H H' → H p = none → H' p = some (.tup [.int x, .str k]) → Q (.ref p) H'
section
variable {P : Program} {w : World} {K : PySem.W.Frag} {mg : Str → Option Value} {base : Heap}
theorem ok_mixed (T : Top w K mg) : FnOk P w K mg base CX0 1 T.a_Lmixed T.d_Lmixed ["_law_cell", "_law_many"] spMixed := by
  refine T.F_Lmixed.ok sc_Lmixed (fun vs H Q E h => ?_) (fun cdv A outer s H vs Q E hr h => ?_)
  · obtain ⟨c, m, rfl, _⟩ := h
    rfl
  · obtain ⟨c, m, rfl, h0, h1, q⟩ := h
    refine ⟨_, (pss_cons (ps_set (i := 2) sc_Lmixed.nd rfl (.inl rfl) (pe_op op_mod (pv 0) pe_int))
      (pss_cons (ps_set (i := 3) sc_Lmixed.nd rfl (.inl rfl) (pe_lst pa_nil))
      (pss_cons (ps_for PassesOwn.never rfl (pi_range1 (by rfl) T.m_range (pa_cons (pv 1) pa_nil)) (pg_name (i := 4) sc_Lmixed.nd rfl (.inl rfl)) (pss_cons (ps_set (i := 2) sc_Lmixed.nd rfl (.inl rfl) (pe_op op_mod (pe_op op_add (pe_op op_add (pe_op op_mul (pv 2) pe_int) (pe_op op_mul (pe_op op_mul pe_int (pv 4)) (pv 4))) pe_int) pe_int))
      (pss_one (ps_expr (pe_bm PySem.F.plainAttrs_list PySem.F.slot_list_append PySem.F.type_list_append mt_append (pv 3) (pa_cons (pe_op op_fdivW (pe_op op_mod (pe_op op_add (pe_op op_add (pe_op op_mul (pv 2) (pv 2)) (pe_op op_mul pe_int (pv 2))) (pv 4)) pe_int) pe_int) pa_nil))))))
      (pss_one (ps_ret (pv 3)))))), ?_⟩
    refine ⟨_, rfl, _, _, rfl, rfl, (by show (0 : Int) < 2147483647; decide), Nat.zero_le _, fun p np => ?_⟩
    refine ⟨_, rfl, _, rfl, by omega, by omega, for_range (lo := 0) (n := m.toNat) (fun i σ H2 => ∃ (a : Int) (ns : List Int) (y : Option V), σ = [some (.int c), some (.int m), some (.int a), some (.ref p), y] ∧ 0 ≤ a ∧ a < 2147483647 ∧ Same H H2 ∧ H2 p = some (.lst (ns.map V.int)) ∧ ns.length = i ∧ Smalls ns)
      ⟨_, [], none, rfl, Int.emod_nonneg _ (by decide), Int.emod_lt_of_pos _ (by decide), same_new np, upd_same, rfl, fun x z => nomatch z⟩ ?_ ?_⟩
    · rintro i σ H2 hi ⟨a, ns, y, rfl, a0, a1, sm, hp, hl, hs⟩
      have hi2 : (i : Int) < 700 := by omega
      refine ⟨_, rfl, _, _, rfl, rfl, .inr ⟨by decide, by decide⟩, _, rfl, _, _, rfl, rfl, .inl ⟨by decide, by decide⟩, _, rfl, _, _, rfl, rfl, .inl ⟨by omega, by omega⟩, _, _, rfl, rfl, _, _, rfl, rfl, _, _, rfl, rfl, (by show (0 : Int) < 2147483629; decide), ?_⟩
      generalize hA : (a * 48271 + 7 * (0 + (i : Int)) * (0 + (i : Int)) + 11) % 2147483629 = A1
      have A0 : 0 ≤ A1 := by
        rw [← hA]
        exact Int.emod_nonneg _ (by decide)
      have A2 : A1 < 2147483629 := by
        rw [← hA]
        exact Int.emod_lt_of_pos _ (by decide)
      refine ⟨_, rfl, .inl ⟨rfl, _, SqL.of hp⟩, _, rfl, _, rfl, _, _, rfl, rfl, .inl ⟨by omega, by omega⟩, _, rfl, _, _, rfl, rfl, .inl ⟨by decide, by decide⟩, _, _, rfl, rfl, _, rfl, _, _, rfl, rfl, _, _, rfl, rfl, (by show (0 : Int) < 2147483587; decide), _, _, rfl, rfl, wide_ok (by decide) (by decide), p, _, _, rfl, rfl, hp, szl (by rw [List.length_map]; omega), ?_⟩
      have fin : Smalls (ns ++ [(A1 * A1 + 3 * A1 + (0 + (i : Int))) % 2147483587 / 7]) := by
        refine hs.append (Smalls.one ?_ ?_)
        · exact Int.ediv_nonneg (Int.emod_nonneg _ (by decide)) (by decide)
        · have z := Int.emod_lt_of_pos (A1 * A1 + 3 * A1 + (0 + (i : Int))) (show (0 : Int) < 2147483587 by decide)
          have z0 := Int.emod_nonneg (A1 * A1 + 3 * A1 + (0 + (i : Int))) (show (2147483587 : Int) ≠ 0 by decide)
          omega
      subst hA
      refine ⟨_, _, _, rfl, A0, Int.lt_trans A2 (by decide), fun b o e => ?_, ?_, ?_, fin⟩
      · rw [upd_ne (ne_of_none e np)]
        exact sm _ _ e
      · rw [upd_same, List.map_append]
        rfl
      · rw [List.length_append, hl]
        rfl
    · rintro σ H2 ⟨a, ns, y, rfl, a0, a1, sm, hp, hl, hs⟩
      exact ⟨_, rfl, q p ns H2 sm np hp (by omega) hs⟩
theorem pow18 : (10 : Int) ^ (18 : Int).toNat = 1000000000000000000 := by decide +kernel
theorem pow24 : (10 : Int) ^ (24 : Int).toNat = 1000000000000000000000000 := by decide +kernel
theorem pow29 : (10 : Int) ^ (29 : Int).toNat = 100000000000000000000000000000 := by decide +kernel
theorem ok_box (T : Top w K mg) : FnOk P w K mg base CX0 2 T.a_Lbox T.d_Lbox ["_law_script"] (spBox K) := by
  have G_Lmixed : FnOk P w K mg base CX0 1 _ _ _ _ := ok_mixed T
  refine T.F_Lbox.ok sc_Lbox (fun vs H Q E h => ?_) (fun cdv A outer s H vs Q E hr h => ?_)
  · obtain ⟨a, ns, rfl, _⟩ := h
    rfl
  · obtain ⟨a, ns, rfl, hS, hlen, q⟩ := h
    refine ⟨_, (pss_cons (ps_set (i := 1) sc_Lbox.nd rfl (.inl rfl) (pe_lst pa_nil))
      (pss_cons (ps_for PassesOwn.never rfl (pi_list (pe_slice sl_list (pv 0) po_none (po_some pe_int))) (pg_name (i := 2) sc_Lbox.nd rfl (.inl rfl)) (pss_cons (ps_if (pt_cmpR op_lt (pv 2) (pe_op op_pow pe_int pe_int) (nomark _)) (pss_cons (ps_expr (pe_bm PySem.F.plainAttrs_list PySem.F.slot_list_extend PySem.F.type_list_extend mt_extend (pv 1) (pa_cons (pe_call G_Lmixed hr (by rfl) T.g_Lmixed T.F_Lmixed.kp T.b_Lmixed .nil pass0 (pa_cons (pv 2) (pa_cons pe_int pa_nil))) pa_nil)))
      (pss_one ps_continue)) pss_nil)
      (pss_cons (ps_set (i := 3) sc_Lbox.nd rfl (.inl rfl) (pv 2))
      (pss_one (ps_for PassesOwn.never rfl (pi_range1 (by rfl) T.m_range (pa_cons pe_int pa_nil)) (pg_name (i := 4) sc_Lbox.nd rfl (.inl rfl)) (pss_one (ps_if (pt_cmpR op_gt (pv 3) pe_int (nomark _)) (pss_cons (ps_expr (pe_bm PySem.F.plainAttrs_list PySem.F.slot_list_append PySem.F.type_list_append mt_append (pv 1) (pa_cons (pe_op op_mod (pv 3) pe_int) pa_nil)))
      (pss_one (ps_set (i := 3) sc_Lbox.nd rfl (.inl rfl) (pe_op op_fdivW (pv 3) pe_int)))) pss_nil)))))))
      (pss_cons (ps_set (i := 1) sc_Lbox.nd rfl (.inl rfl) (pe_slice sl_list (pv 1) po_none (po_some pe_int)))
      (pss_one (ps_ret (pe_lst (pa_cons (pe_op op_cat (pv 1) (pe_call G_Lmixed hr (by rfl) T.g_Lmixed T.F_Lmixed.kp T.b_Lmixed .nil pass0 (pa_cons (pe_op op_add (pe_callB (cr_sum rfl) (by rfl) T.m_sum (by decide +kernel) (pa_cons (pe_slice sl_list (pv 0) po_none (po_some pe_int)) pa_nil)) (pe_callB call_len_seq (by rfl) T.m_len PySem.boot_len (pa_cons (pv 0) pa_nil))) (pa_cons (pe_op op_sub pe_int (pe_callB call_len_seq (by rfl) T.m_len PySem.boot_len (pa_cons (pv 1) pa_nil))) pa_nil)))) (pa_cons pe_int pa_nil)))))))), ?_⟩
    refine ⟨Nat.zero_le _, fun p np => ?_⟩
    have s1 : Same H (upd H p (.lst [])) := same_new np
    obtain ⟨k63, e63⟩ := cut_map ns (some 63)
    refine ⟨_, rfl, 63, rfl, a, _, rfl, s1.seq hS, fun c nc => ?_⟩
    have npc : p ≠ c := ne_of_none upd_same nc
    have hl63 : (cutV (ns.map V.int) none (some 63)).length ≤ 63 := by
      have z := cutV_length (ns.map V.int) none (some 63)
      rw [List.length_map] at z
      omega
    refine ⟨c, rfl, ⟨_, SqL.of upd_same⟩, for_list (K := K) (a := c) (xs := cutV (ns.map V.int) none (some 63)) (fun i σ H2 => ∃ (ms : List Int) (y2 y3 y4 : Option V), σ = [some (.ref a), some (.ref p), y2, y3, y4] ∧ Same H H2 ∧ H2 c = some (.lst (cutV (ns.map V.int) none (some 63))) ∧ H2 p = some (.lst (ms.map V.int)) ∧ ms.length ≤ 90 * i ∧ Smalls ms)
      ⟨[], none, none, none, rfl, s1.trans (same_new nc), upd_same, ?_, by decide, fun x z => nomatch z⟩ (fun i σ H2 _ ⟨_, _, _, _, _, _, hc, _⟩ => SqL.of hc) ?_ ?_⟩
    · rw [upd_ne npc, upd_same]
      rfl
    · rintro i x σ H2 hi ⟨ms, y2, y3, y4, rfl, sm, hc, hp, hl, hs⟩
      have hil : i < 63 := Nat.lt_of_lt_of_le (List.getElem?_eq_some_iff.mp hi).1 hl63
      obtain ⟨v, rfl⟩ : ∃ v, x = V.int v := by
        rw [e63, List.getElem?_map] at hi
        cases e : (ns.take k63)[i]? with
        | none =>
          rw [e] at hi
          cases hi
        | some z =>
          rw [e] at hi
          exact ⟨z, (Option.some.inj hi).symm⟩
      refine ⟨_, rfl, _, _, rfl, rfl, ⟨by decide, by decide, by decide⟩, _, _, rfl, rfl, _, rfl, ite2 (fun e1 => ?_) (fun e1 => ?_)⟩
      · refine ⟨_, rfl, .inl ⟨rfl, _, SqL.of hp⟩, _, rfl, v, 12, rfl, by decide, by decide, fun r rs H3 sm3 nr hr3 hrl hrs => ?_⟩
        have hp3 := sm3 _ _ hp
        have npr : p ≠ r := ne_of_none hp nr
        refine ⟨p, r, _, _, rfl, rfl, hp3, hr3, ?_, ?_⟩
        · rw [List.length_map, List.length_map]
          exact sz (by omega)
        · refine ⟨ms ++ rs, _, _, _, rfl, fun b o e => ?_, ?_, ?_, ?_, hs.append hrs⟩
          · rw [upd_ne (ne_of_none e np)]
            exact sm3 _ _ (sm _ _ e)
          · rw [upd_ne npc.symm]
            exact sm3 _ _ hc
          · rw [upd_same, List.map_append]
          · rw [List.length_append]
            omega
      · have e2 : ¬ v < 10 ^ (18 : Int).toNat := of_decide_eq_false (Bool.eq_false_iff.mpr e1)
        rw [pow18] at e2
        refine ⟨_, rfl, 90, rfl, by decide, by decide, for_range (lo := 0) (n := 90) (fun j σ H3 => ∃ (ms' : List Int) (l : Int) (z2 z4 : Option V), σ = [some (.ref a), some (.ref p), z2, some (.int l), z4] ∧ Same H H3 ∧ H3 c = some (.lst (cutV (ns.map V.int) none (some 63))) ∧ H3 p = some (.lst (ms'.map V.int)) ∧ ms'.length ≤ 90 * i + j ∧ Smalls ms')
          ⟨ms, v, _, _, rfl, sm, hc, hp, hl, hs⟩ ?_ ?_⟩
        · rintro j σ H3 hj ⟨ms', l, z2, z4, rfl, sm3, hc3, hp3, hl3, hs3⟩
          refine ⟨_, rfl, _, _, rfl, rfl, _, rfl, ite2 (fun e3 => ?_) (fun e3 => ?_)⟩
          · refine ⟨_, rfl, .inl ⟨rfl, _, SqL.of hp3⟩, _, rfl, _, _, rfl, rfl, (by show (0 : Int) < 10007; decide), p, _, _, rfl, rfl, hp3, szl (by rw [List.length_map]; omega), ?_⟩
            refine ⟨_, rfl, _, _, rfl, rfl, wide_ok (by decide) (by decide), ?_⟩
            refine ⟨ms' ++ [l % 10007], _, _, _, rfl, fun b o e => ?_, ?_, ?_, ?_, hs3.append (Smalls.one (Int.emod_nonneg _ (by decide)) ?_)⟩
            · rw [upd_ne (ne_of_none e np)]
              exact sm3 _ _ e
            · rw [upd_ne npc.symm]
              exact hc3
            · rw [upd_same, List.map_append]
              rfl
            · rw [List.length_append]
              show ms'.length + 1 ≤ _
              omega
            · have z := Int.emod_lt_of_pos l (show (0 : Int) < 10007 by decide)
              omega
          · exact ⟨ms', l, _, _, rfl, sm3, hc3, hp3, by omega, hs3⟩
        · rintro σ H3 ⟨ms', l, z2, z4, rfl, sm3, hc3, hp3, hl3, hs3⟩
          exact ⟨ms', _, _, _, rfl, sm3, hc3, hp3, by omega, hs3⟩
    · rintro σ H2 ⟨ms, y2, y3, y4, rfl, sm, hc, hp, hl, hs⟩
      obtain ⟨k7, e7⟩ := cut_map ms (some 700)
      have l7 : (cutV (ms.map V.int) none (some 700)).length ≤ 700 := by
        have z := cut_nat (α := Nat) (ms.map V.int) 700
        have z2 : cutV (ms.map V.int) none (some 700) = (ms.map V.int).take 700 := z
        rw [z2, List.length_take]
        omega
      refine ⟨_, rfl, 700, rfl, p, _, rfl, SqL.of hp, fun p2 np2 => ?_⟩
      have sm2 : Same H2 (upd H2 p2 (.lst (cutV (ms.map V.int) none (some 700)))) := same_new np2
      refine ⟨_, rfl, _, rfl, 63, rfl, a, _, rfl, (sm.trans sm2).seq hS, fun p3 np3 => ?_⟩
      have sm3 := same_new (o := .lst (cutV (ns.map V.int) none (some 63))) np3
      refine ⟨p3, ns.take k63, rfl, ?_, _, rfl, a, _, rfl, .inl (sm3.seq ((sm.trans sm2).seq hS)), _, _, rfl, rfl, _, rfl, p2, _, rfl, .inl (SqL.of (sm3 _ _ upd_same)), _, _, rfl, rfl, _, _, rfl, by omega, by omega, fun r rs H4 sm4 nr hr4 hrl hrs => ?_⟩
      · rw [e63]
        exact SqL.of upd_same
      · have hp4 := sm4 _ _ (sm3 _ _ (upd_same (H := H2) (a := p2) (o := .lst (cutV (ms.map V.int) none (some 700)))))
        refine ⟨p2, r, _, _, rfl, rfl, hp4, hr4, ?_, fun L nL => ⟨(by show 2 ≤ sizeLine; decide), fun b nb => ?_⟩⟩
        · rw [List.length_map]
          exact sz (by omega)
        · have nLb : L ≠ b := ne_of_none upd_same nb
          have s4 : Same H H4 := ((sm.trans sm2).trans sm3).trans sm4
          have s5 : Same H (upd H4 L (.lst (cutV (ms.map V.int) none (some 700) ++ rs.map V.int))) := s4.trans (same_new nL)
          refine q b L _ (s5.trans (same_new nb)) (s5.free nb) ⟨ms.take k7 ++ rs, 0, upd_same, ?_, ?_, nLb, (hs.take _).append hrs⟩
          · rw [upd_ne nLb, upd_same, e7, List.map_append]
          · intro e
            have e2 := congrArg List.length e
            rw [List.length_append] at e2
            have e3 : (cutV (ms.map V.int) none (some 700)).length = (ms.take k7).length := by rw [e7, List.length_map]
            have e4 : (ms.take k7).length + rs.length = 0 := e2
            omega
theorem ok_next (T : Top w K mg) : FnOk P w K mg base CX0 1 T.a_Lnext T.d_Lnext ["_law_box_here"] spNext := by
  refine T.F_Lnext.ok sc_Lnext (fun vs H Q E h => ?_) (fun cdv A outer s H vs Q E hr h => ?_)
  · obtain ⟨b, L, rfl, _⟩ := h
    rfl
  · obtain ⟨b, L, rfl, ⟨ns, n, hb, hL, hne, nLb, hs⟩, q⟩ := h
    have hl : 0 < ns.length := List.length_pos_iff.mpr hne
    refine ⟨_, (pss_cons (ps_augS (pv 0) pe_int get_list pe_int ip_add set_list)
      (pss_one (ps_ret (pe_ix ix_list (pe_ix ix_list (pv 0) pe_int (fun _ _ => rfl)) (pe_op op_mod (pe_op op_sub (pe_ix ix_list (pv 0) pe_int (fun _ _ => rfl)) pe_int) (pe_callB call_len_seq (by rfl) T.m_len PySem.boot_len (pa_cons (pe_ix ix_list (pv 0) pe_int (fun _ _ => rfl)) pa_nil))) (fun _ _ => rfl))))), ?_⟩
    refine ⟨_, rfl, b, _, _, _, rfl, rfl, SqL.of hb, atI_nat (j := 1) rfl, _, _, rfl, rfl, b, _, _, 1, rfl, rfl, hb, rfl, ?_⟩
    have hb2 : (upd H b (.lst ([V.ref L, V.int n].set 1 (.int (n + 1))))) b = some (.lst [.ref L, .int (n + 1)]) := upd_same
    have hL2 : (upd H b (.lst ([V.ref L, V.int n].set 1 (.int (n + 1))))) L = some (.lst (ns.map V.int)) := by
      rw [upd_ne nLb]
      exact hL
    have m0 : (0 : Int) < ((ns.map V.int).length : Int) := by
      rw [List.length_map]
      omega
    have z0 := Int.emod_nonneg (n + 1 - 1) (show ((ns.map V.int).length : Int) ≠ 0 by omega)
    have z1 := Int.emod_lt_of_pos (n + 1 - 1) m0
    obtain ⟨v, hv, hm⟩ := at_map (ns := ns) z0 (by rw [List.length_map] at z1 ⊢; exact z1)
    refine ⟨_, rfl, b, _, _, _, rfl, rfl, SqL.of hb2, atI_nat (j := 0) rfl, _, rfl, b, _, _, _, rfl, rfl, SqL.of hb2, atI_nat (j := 1) rfl, _, _, rfl, rfl, _, rfl, b, _, _, _, rfl, rfl, SqL.of hb2, atI_nat (j := 0) rfl, L, _, rfl, .inl (SqL.of hL2), _, _, rfl, rfl, m0, L, _, _, _, rfl, rfl, SqL.of hL2, hv, ?_⟩
    exact q v _ (hs v hm) ⟨ns, n + 1, hb2, hL2, hne, nLb, hs⟩ But.refl.put
theorem ok_few (T : Top w K mg) : FnOk P w K mg base CX0 2 T.a_Lfew T.d_Lfew ["_law_box_here", "_law_few_here", "_law_most"] spFew := by
  have G_Lnext : FnOk P w K mg base CX0 1 _ _ _ _ := ok_next T
  refine T.F_Lfew.ok sc_Lfew (fun vs H Q E h => ?_) (fun cdv A outer s H vs Q E hr h => ?_)
  · obtain ⟨b, L, f, m, rfl, _⟩ := h
    rfl
  · obtain ⟨b, L, f, m, rfl, B, f0, m0, f1, m1, q⟩ := h
    refine ⟨_, (pss_cons (ps_set (i := 3) sc_Lfew.nd rfl (.inl rfl) (pe_call G_Lnext hr (by rfl) T.g_Lnext T.F_Lnext.kp T.b_Lnext .nil pass0 (pa_cons (pv 0) pa_nil)))
      (pss_one (ps_ret (pe_ix ix_list (pe_lst (pa_cons (pe_op op_mod (pe_op op_fdivW (pv 3) pe_int) (pe_op op_add (pv 1) pe_int)) (pa_cons (pe_op op_mod (pe_op op_fdivW (pv 3) pe_int) (pe_op op_add (pv 2) pe_int)) pa_nil))) (pe_callTy call_int1 (by rfl) T.m_int (by decide +kernel) (pa_cons (pe_cmpR op_eq (pe_op op_mod (pv 3) pe_int) pe_int (nomark _)) pa_nil)) (fun _ _ => rfl))))), ?_⟩
    refine ⟨_, rfl, b, L, rfl, B, fun x H1 hx B1 k1 => ?_⟩
    refine ⟨_, rfl, _, _, rfl, rfl, wide_ok (by decide) (by decide), _, rfl, _, _, rfl, rfl, _, _, rfl, rfl, (by show (0 : Int) < f + 1; omega), _, rfl, _, _, rfl, rfl, wide_ok (by decide) (by decide), _, rfl, _, _, rfl, rfl, _, _, rfl, rfl, (by show (0 : Int) < m + 1; omega), (by show 2 ≤ sizeLine; decide), fun p np => ?_⟩
    have zf0 := Int.emod_nonneg (x / 8) (show f + 1 ≠ 0 by omega)
    have zf1 := Int.emod_lt_of_pos (x / 8) (show (0 : Int) < f + 1 by omega)
    have zm0 := Int.emod_nonneg (x / 8) (show m + 1 ≠ 0 by omega)
    have zm1 := Int.emod_lt_of_pos (x / 8) (show (0 : Int) < m + 1 by omega)
    refine ⟨_, rfl, _, _, rfl, rfl, (by show (0 : Int) < 8; decide), rfl, .inr ⟨_, rfl, ?_⟩⟩
    by_cases e : x % 8 = 5
    · have e2 : decide (V.int (x % 8) = V.int 5) = true := decide_eq_true (congrArg V.int e)
      rw [e2]
      refine ⟨p, _, _, _, rfl, rfl, SqL.of upd_same, atI_nat (j := 1) rfl, ?_⟩
      exact q _ _ zm0 (.inr (by omega)) (B1.new np) (k1.new np)
    · have e2 : decide (V.int (x % 8) = V.int 5) = false := decide_eq_false fun z => e (V.int.inj z)
      rw [e2]
      refine ⟨p, _, _, _, rfl, rfl, SqL.of upd_same, atI_nat (j := 0) rfl, ?_⟩
      exact q _ _ zf0 (.inl (by omega)) (B1.new np) (k1.new np)
theorem ok_worth (T : Top w K mg) : FnOk P w K mg base CX0 2 T.a_Lworth T.d_Lworth ["_law_box_here"] spWorth := by
  have G_Lnext : FnOk P w K mg base CX0 1 _ _ _ _ := ok_next T
  refine T.F_Lworth.ok sc_Lworth (fun vs H Q E h => ?_) (fun cdv A outer s H vs Q E hr h => ?_)
  · obtain ⟨b, L, rfl, _⟩ := h
    rfl
  · obtain ⟨b, L, rfl, B, q⟩ := h
    refine ⟨_, (pss_cons (ps_set (i := 1) sc_Lworth.nd rfl (.inl rfl) (pe_call G_Lnext hr (by rfl) T.g_Lnext T.F_Lnext.kp T.b_Lnext .nil pass0 (pa_cons (pv 0) pa_nil)))
      (pss_one (ps_ret (pe_ix ix_list (pe_lst (pa_cons (pe_op op_sub (pe_op op_mod (pe_op op_fdivW (pv 1) pe_int) pe_int) pe_int) (pa_cons (pe_op op_mod (pe_op op_fdivW (pv 1) pe_int) pe_int) (pa_cons (pe_op op_sub (pe_op op_mod (pe_op op_fdivW (pv 1) pe_int) pe_int) pe_int) (pa_cons (pe_op op_add (pe_op op_pow pe_int pe_int) (pv 1)) (pa_cons (pe_op op_sub (pe_op op_sub pe_int (pe_op op_pow pe_int pe_int)) (pv 1)) (pa_cons pe_int (pa_cons pe_int (pa_cons (pv 1) pa_nil))))))))) (pe_op op_mod (pv 1) pe_int) (fun _ _ => rfl))))), ?_⟩
    refine ⟨_, rfl, b, L, rfl, B, fun x H1 hx B1 k1 => ?_⟩
    have p8 : ∀ {i : Int}, CDivW i 8 := wide_ok (by decide) (by decide)
    refine ⟨_, rfl, _, _, rfl, rfl, p8, _, _, rfl, rfl, (by show (0 : Int) < 9; decide), _, _, rfl, rfl, _, rfl, _, _, rfl, rfl, p8, _, _, rfl, rfl, (by show (0 : Int) < 3; decide), _, rfl, _, _, rfl, rfl, p8, _, _, rfl, rfl, (by show (0 : Int) < 40; decide), _, _, rfl, rfl, _, _, rfl, rfl, ⟨by decide, by decide, by decide⟩, _, rfl, _, _, rfl, rfl, _, _, rfl, rfl, ⟨by decide, by decide, by decide⟩, _, _, rfl, rfl, _, rfl, _, _, rfl, rfl, _, rfl, (by show 8 ≤ sizeLine; decide), fun p np => ?_⟩
    have c0 := Int.emod_nonneg x (show (8 : Int) ≠ 0 by decide)
    have c1 := Int.emod_lt_of_pos x (show (0 : Int) < 8 by decide)
    have pick : ∃ v : Int, atI [V.int (x / 8 % 9 - 3), V.int (x / 8 % 3), V.int (x / 8 % 40 - 20), V.int (10 ^ (24 : Int).toNat + x), V.int (0 - 10 ^ (24 : Int).toNat - x), V.int 5, V.int 0, V.int x] (x % 8) = some (.int v) ∧ -(2 ^ 90) < v ∧ v < 2 ^ 90 := by
      rw [pow24]
      generalize x % 8 = r at c0 c1
      have hc : r = 0 ∨ r = 1 ∨ r = 2 ∨ r = 3 ∨ r = 4 ∨ r = 5 ∨ r = 6 ∨ r = 7 := by omega
      rcases hc with rfl | rfl | rfl | rfl | rfl | rfl | rfl | rfl
      all_goals exact ⟨_, rfl, by omega, by omega⟩
    obtain ⟨v, hv, hw⟩ := pick
    refine ⟨_, rfl, _, _, rfl, rfl, (by show (0 : Int) < 8; decide), p, _, _, _, rfl, rfl, SqL.of upd_same, hv, ?_⟩
    exact q v _ hw (B1.new np) (k1.new np)
theorem ok_point (T : Top w K mg) : FnOk P w K mg base CX0 3 T.a_Lpoint T.d_Lpoint ["_law_box_here"] (spPoint K) := by
  have G_Lnext : FnOk P w K mg base CX0 1 _ _ _ _ := ok_next T
  have G_Lworth : FnOk P w K mg base CX0 2 _ _ _ _ := ok_worth T
  refine T.F_Lpoint.ok sc_Lpoint (fun vs H Q E h => ?_) (fun cdv A outer s H vs Q E hr h => ?_)
  · obtain ⟨b, L, rfl, _⟩ := h
    rfl
  · obtain ⟨b, L, rfl, B, q⟩ := h
    refine ⟨_, (pss_cons (ps_set (i := 1) sc_Lpoint.nd rfl (.inl rfl) (pe_call G_Lnext (hr.mono (by decide)) (by rfl) T.g_Lnext T.F_Lnext.kp T.b_Lnext .nil pass0 (pa_cons (pv 0) pa_nil)))
      (pss_one (ps_ret (pe_tup (pa_cons (pe_call G_Lworth hr (by rfl) T.g_Lworth T.F_Lworth.kp T.b_Lworth .nil pass0 (pa_cons (pv 0) pa_nil)) (pa_cons (pe_ix ix_str (pe_ix ix_list (pe_lst (pa_cons pe_str (pa_cons pe_str (pa_cons pe_str (pa_cons pe_str pa_nil))))) (pe_op op_mod (pv 1) pe_int) (fun _ _ => rfl)) (pe_op op_mod (pe_op op_fdivW (pv 1) pe_int) (pe_ix ix_list (pe_lst (pa_cons pe_int (pa_cons pe_int (pa_cons pe_int (pa_cons pe_int pa_nil))))) (pe_op op_mod (pv 1) pe_int) (fun _ _ => rfl))) (fun _ _ => rfl)) pa_nil)))))), ?_⟩
    refine ⟨_, rfl, b, L, rfl, B, fun x H1 hx B1 k1 => ?_⟩
    refine ⟨_, rfl, b, L, rfl, B1, fun v H2 hv B2 k2 => ?_⟩
    refine ⟨(by show 4 ≤ sizeLine; decide), fun p np => ?_⟩
    have c0 := Int.emod_nonneg x (show (4 : Int) ≠ 0 by decide)
    have c1 := Int.emod_lt_of_pos x (show (0 : Int) < 4 by decide)
    have pick : ∃ (z : Str) (m : Int) (c : Nat), atI [V.str "abcdefgh", V.str "ab", V.str "a", V.str "h"] (x % 4) = some (.str z) ∧ atI [V.int 8, V.int 2, V.int 1, V.int 1] (x % 4) = some (.int m) ∧ 0 < m ∧ z.length ≤ sizeLine ∧ atI z.cps.toList (x / 4 % m) = some c ∧ (⟨#[c]⟩ : Str) ∈ kinds := by
      generalize x % 4 = r at c0 c1
      have hc : r = 0 ∨ r = 1 ∨ r = 2 ∨ r = 3 := by omega
      rcases hc with rfl | rfl | rfl | rfl
      · have d0 := Int.emod_nonneg (x / 4) (show (8 : Int) ≠ 0 by decide)
        have d1 := Int.emod_lt_of_pos (x / 4) (show (0 : Int) < 8 by decide)
        generalize hm : x / 4 % 8 = r2 at d0 d1
        have hc : r2 = 0 ∨ r2 = 1 ∨ r2 = 2 ∨ r2 = 3 ∨ r2 = 4 ∨ r2 = 5 ∨ r2 = 6 ∨ r2 = 7 := by omega
        rcases hc with h | h | h | h | h | h | h | h
        all_goals
          subst h
          refine ⟨_, _, _, rfl, rfl, by decide, by decide +kernel, by rw [hm]; exact rfl, by decide +kernel⟩
      · have d0 := Int.emod_nonneg (x / 4) (show (2 : Int) ≠ 0 by decide)
        have d1 := Int.emod_lt_of_pos (x / 4) (show (0 : Int) < 2 by decide)
        generalize hm : x / 4 % 2 = r2 at d0 d1
        have hc : r2 = 0 ∨ r2 = 1 := by omega
        rcases hc with h | h
        all_goals
          subst h
          refine ⟨_, _, _, rfl, rfl, by decide, by decide +kernel, by rw [hm]; exact rfl, by decide +kernel⟩
      all_goals
        have hm : x / 4 % 1 = 0 := by omega
        refine ⟨_, _, _, rfl, rfl, by decide, by decide +kernel, by rw [hm]; exact rfl, by decide +kernel⟩
    obtain ⟨z, m, c, h1, h2, hm, hz, hc, hk⟩ := pick
    refine ⟨_, rfl, _, _, rfl, rfl, (by show (0 : Int) < 4; decide), p, _, _, _, rfl, rfl, SqL.of upd_same, h1, ?_⟩
    refine ⟨_, rfl, _, _, rfl, rfl, wide_ok (by decide) (by decide), (by show 4 ≤ sizeLine; decide), fun p2 np2 => ?_⟩
    refine ⟨_, rfl, _, _, rfl, rfl, (by show (0 : Int) < 4; decide), p2, _, _, _, rfl, rfl, SqL.of upd_same, h2, _, _, rfl, rfl, hm, z, _, c, rfl, rfl, hz, hc, (by show 2 ≤ sizeLine; decide), fun t nt => ?_⟩
    have kk : But b H (upd (upd (upd H2 p (.lst [V.str "abcdefgh", V.str "ab", V.str "a", V.str "h"])) p2 (.lst [V.int 8, V.int 2, V.int 1, V.int 1])) t (.tup [.int v, .str ⟨#[c]⟩])) := (((k1.trans k2).new np).new np2).new nt
    have nH : H t = none := ((B2.new np).new np2).back (((k1.trans k2).new np).new np2) nt
    exact q t v ⟨#[c]⟩ _ ⟨hv.1, hv.2, hk⟩ (((B2.new np).new np2).new nt) kk nH upd_same
theorem ok_spot (T : Top w K mg) : FnOk P w K mg base CX0 2 T.a_Lspot T.d_Lspot ["_law_box_here", "_law_many"] spSpot := by
  have G_Lnext : FnOk P w K mg base CX0 1 _ _ _ _ := ok_next T
  refine T.F_Lspot.ok sc_Lspot (fun vs H Q E h => ?_) (fun cdv A outer s H vs Q E hr h => ?_)
  · obtain ⟨b, L, m, rfl, _⟩ := h
    rfl
  · obtain ⟨b, L, m, rfl, B, m0, m1, q⟩ := h
    refine ⟨_, (pss_cons (ps_set (i := 2) sc_Lspot.nd rfl (.inl rfl) (pe_call G_Lnext hr (by rfl) T.g_Lnext T.F_Lnext.kp T.b_Lnext .nil pass0 (pa_cons (pv 0) pa_nil)))
      (pss_one (ps_ret (pe_ifExp (pt_cmpR op_gt (pe_op op_mod (pv 2) pe_int) pe_int (nomark _)) (pe_op op_mod (pv 2) (pv 1)) (pe_ix ix_list (pe_lst (pa_cons (pv 1) (pa_cons (pe_un un_neg pe_int) (pa_cons (pe_op op_add (pv 1) pe_int) pa_nil)))) (pe_op op_mod (pe_op op_fdivW (pv 2) pe_int) pe_int) (fun _ _ => rfl)))))), ?_⟩
    refine ⟨_, rfl, b, L, rfl, B, fun x H1 hx B1 k1 => ?_⟩
    refine ⟨_, rfl, _, _, rfl, rfl, (by show (0 : Int) < 29; decide), _, _, rfl, rfl, _, rfl, ite2 (fun e1 => ?_) (fun e1 => ?_)⟩
    · have z0 := Int.emod_nonneg x (show m ≠ 0 by omega)
      have z1 := Int.emod_lt_of_pos x m0
      exact ⟨_, rfl, _, rfl, _, _, rfl, rfl, m0, q _ _ (by omega) (by omega) B1 k1⟩
    · refine ⟨_, rfl, _, rfl, _, rfl, _, _, rfl, rfl, (by show 3 ≤ sizeLine; decide), fun p np => ?_⟩
      have c0 := Int.emod_nonneg (x / 29) (show (3 : Int) ≠ 0 by decide)
      have c1 := Int.emod_lt_of_pos (x / 29) (show (0 : Int) < 3 by decide)
      have pick : ∃ v : Int, atI [V.int m, V.int (-1), V.int (m + 7)] (x / 29 % 3) = some (.int v) ∧ -2 < v ∧ v < 2000 := by
        generalize x / 29 % 3 = r at c0 c1
        have hc : r = 0 ∨ r = 1 ∨ r = 2 := by omega
        rcases hc with rfl | rfl | rfl
        all_goals exact ⟨_, rfl, by omega, by omega⟩
      obtain ⟨v, hv, h1, h2⟩ := pick
      refine ⟨_, rfl, _, _, rfl, rfl, wide_ok (by decide) (by decide), _, _, rfl, rfl, (by show (0 : Int) < 3; decide), p, _, _, _, rfl, rfl, SqL.of upd_same, hv, ?_⟩
      exact q v _ h1 h2 (B1.new np) (k1.new np)
end

/-! ### forests drawn from the box -/
/-- a forest stands at f -/
def fdata (pts : List (Int × Str)) (ts : List (Int × Int)) : PyData := .tuple [.tuple (pts.map pdata), .tuple (ts.map tdata)]
structure FrOk (pts : List (Int × Str)) (ts : List (Int × Int)) : Prop where
  pos : 0 < pts.length
  few : pts.length ≤ 100
  pok : ∀ p ∈ pts, PtOk p
  tok : ∀ t ∈ ts, 0 ≤ t.1 ∧ 0 ≤ t.2 ∧ t.1 < (pts.length : Int) ∧ t.2 < (pts.length : Int)
  tl : ts.length ≤ pts.length
def spForest (K : PySem.W.Frag) : Sp := fun vs H Q _ => ∃ (b L : Addr) (f m : Int), vs = [.ref b, .int f, .int m] ∧ BoxAt H b L ∧ 0 ≤ f ∧ 0 ≤ m ∧ f < 100 ∧ m < 100 ∧
  ∀ (p : Addr) (pts : List (Int × Str)) (ts : List (Int × Int)) (H' : Hp), FrOk pts ts → (pts.length : Int) ≤ max f m + 1 → BoxAt H' b L → But b H H' → Td K H' (.ref p) (fdata pts ts) → Q (.ref p) H'
theorem Td.two {K : PySem.W.Frag} {H : Hp} {x y : Int} {t : Addr} (h : H t = some (.tup [.int x, .int y])) : Td K H (.ref t) (tdata (x, y)) := .tup (SqT.of h) (.cons (.int x) (.cons (.int y) .nil))
theorem Td.pt {K : PySem.W.Frag} {H : Hp} {x : Int} {y : Str} {t : Addr} (h : H t = some (.tup [.int x, .str y])) : Td K H (.ref t) (pdata (x, y)) := .tup (SqT.of h) (.cons (.int x) (.cons (.str y) .nil))
/-- tied pairs stand in H itself -/
inductive PAll (H : Hp) : List V → List (Int × Int) → Prop
  | nil : PAll H [] []
  | cons {t : Addr} {x y : Int} {vs : List V} {ts : List (Int × Int)} : H t = some (.tup [.int x, .int y]) → PAll H vs ts → PAll H (.ref t :: vs) ((x, y) :: ts)
theorem PAll.td {K : PySem.W.Frag} {H : Hp} : ∀ {vs : List V} {ts : List (Int × Int)}, PAll H vs ts → TdAll K H vs (ts.map tdata)
  | _, _, .nil => .nil
  | _, _, .cons h k => .cons (Td.two h) (PAll.td k)
theorem PAll.mono {H H' : Hp} (s : ∀ t x y, H t = some (.tup [.int x, .int y]) → H' t = some (.tup [.int x, .int y])) : ∀ {vs : List V} {ts : List (Int × Int)}, PAll H vs ts → PAll H' vs ts
  | _, _, .nil => .nil
  | _, _, .cons h k => .cons (s _ _ _ h) (PAll.mono s k)
theorem PAll.same {H H' : Hp} (s : Same H H') {vs : List V} {ts : List (Int × Int)} (h : PAll H vs ts) : PAll H' vs ts := h.mono fun _ _ _ e => s _ _ e
theorem PAll.put {H : Hp} {l : Addr} {xs ys : List V} (e : H l = some (.lst xs)) {vs : List V} {ts : List (Int × Int)} (h : PAll H vs ts) : PAll (upd H l (.lst ys)) vs ts := h.mono fun t _ _ z => by
  rw [upd_ne (ne_of z e (by intro z; cases z))]
  exact z
theorem PAll.but {H H' : Hp} {b L : Addr} (B : BoxAt H b L) (s : But b H H') {vs : List V} {ts : List (Int × Int)} (h : PAll H vs ts) : PAll H' vs ts := h.mono fun t _ _ z => by
  obtain ⟨ns, n, h1, _⟩ := B.ex
  exact s _ _ z (ne_of z h1 (by intro z; cases z))
theorem PAll.snoc {H : Hp} {t : Addr} {x y : Int} (e : H t = some (.tup [.int x, .int y])) : ∀ {vs : List V} {ts : List (Int × Int)}, PAll H vs ts → PAll H (vs ++ [.ref t]) (ts ++ [(x, y)])
  | _, _, .nil => .cons e .nil
  | _, _, .cons h k => .cons h (PAll.snoc e k)
theorem PAll.length {H : Hp} : ∀ {vs : List V} {ts : List (Int × Int)}, PAll H vs ts → vs.length = ts.length
  | _, _, .nil => rfl
  | _, _, .cons _ k => congrArg (· + 1) k.length
theorem PAll.pairs {H : Hp} : ∀ {vs : List V} {ts : List (Int × Int)}, PAll H vs ts → ∀ x ∈ vs, ∃ t i j, x = V.ref t ∧ H t = some (.tup [.int i, .int j])
  | _, _, .nil, _, m => nomatch m
  | _, _, .cons h k, x, m => by
    rcases List.mem_cons.mp m with e | m
    · subst e
      exact ⟨_, _, _, rfl, h⟩
    · exact k.pairs x m
theorem PAll.perm {H : Hp} {xs ys : List V} (p : ys.Perm xs) : ∀ {ts : List (Int × Int)}, PAll H xs ts → ∃ us : List (Int × Int), us.Perm ts ∧ PAll H ys us := by
  induction p with
  | nil =>
    intro ts h
    cases h
    exact ⟨[], .refl _, .nil⟩
  | cons x p ih =>
    intro ts h
    cases h with
    | cons h1 h2 =>
      obtain ⟨us, pu, hu⟩ := ih h2
      exact ⟨_ :: us, pu.cons _, .cons h1 hu⟩
  | swap x y l =>
    intro ts h
    cases h with
    | cons h1 h2 =>
      cases h2 with
      | cons h2 h3 => exact ⟨_, .swap .., .cons h2 (.cons h1 h3)⟩
  | trans p1 p2 ih1 ih2 =>
    intro ts h
    obtain ⟨us, pu, hu⟩ := ih2 h
    obtain ⟨vs, pv, hv⟩ := ih1 hu
    exact ⟨vs, pv.trans pu, hv⟩
/-- the list of names -/
def Names (n : Nat) (ns : List Int) : Prop := ns.length = n ∧ ∀ x ∈ ns, 0 ≤ x ∧ x < (n : Int)
theorem names_put {n : Nat} {ns : List Int} {k : Nat} (h : Names n ns) : Names (n + 1) (ns.take k ++ [(n : Int)] ++ ns.drop k) := by
  refine ⟨?_, fun x m => ?_⟩
  · have z := List.take_append_drop k ns
    have z2 := congrArg List.length z
    rw [List.length_append] at z2
    rw [List.length_append, List.length_append]
    show (ns.take k).length + 1 + (ns.drop k).length = n + 1
    have := h.1
    omega
  · rcases List.mem_append.mp m with m | m
    · rcases List.mem_append.mp m with m | m
      · have := h.2 x (List.mem_of_mem_take m)
        omega
      · rcases List.mem_cons.mp m with e | m
        · omega
        · cases m
    · have := h.2 x (List.mem_of_mem_drop m)
      omega
section
variable {P : Program} {w : World} {K : PySem.W.Frag} {mg : Str → Option Value} {base : Heap}
theorem ok_forest (T : Top w K mg) : FnOk P w K mg base CX0 4 T.a_Lforest T.d_Lforest ["_law_box_here", "_law_few_here", "_law_most"] (spForest K) := by
  have G_Lnext : FnOk P w K mg base CX0 1 _ _ _ _ := ok_next T
  have G_Lfew : FnOk P w K mg base CX0 2 _ _ _ _ := ok_few T
  have G_Lpoint : FnOk P w K mg base CX0 3 _ _ _ _ := ok_point T
  refine T.F_Lforest.ok sc_Lforest (fun vs H Q E h => ?_) (fun cdv A outer s H vs Q E hr h => ?_)
  · obtain ⟨b, L, f, m, rfl, _⟩ := h
    rfl
  · obtain ⟨b, L, f, m, rfl, B, f0, m0, f1, m1, q⟩ := h
    refine ⟨_, (pss_cons (ps_set (i := 3) sc_Lforest.nd rfl (.inl rfl) (pe_op op_add pe_int (pe_call G_Lfew (hr.mono (by decide)) (by rfl) T.g_Lfew T.F_Lfew.kp T.b_Lfew .nil pass0 (pa_cons (pv 0) (pa_cons (pv 1) (pa_cons (pv 2) pa_nil))))))
      (pss_cons (ps_set (i := 4) sc_Lforest.nd rfl (.inl rfl) (pe_op op_mod (pe_call G_Lnext (hr.mono (by decide)) (by rfl) T.g_Lnext T.F_Lnext.kp T.b_Lnext .nil pass0 (pa_cons (pv 0) pa_nil)) pe_int))
      (pss_cons (ps_set (i := 5) sc_Lforest.nd rfl (.inl rfl) (pe_lst pa_nil))
      (pss_cons (ps_for PassesOwn.never rfl (pi_range1 (by rfl) T.m_range (pa_cons (pv 3) pa_nil)) (pg_name (i := 6) sc_Lforest.nd rfl (.inl rfl)) (pss_one (ps_expr (pe_bm PySem.F.plainAttrs_list PySem.F.slot_list_insert PySem.F.type_list_insert mt_insert (pv 5) (pa_cons (pe_ifExp (pt_cmpR op_gt (pv 4) pe_int (nomark _)) (pe_op op_mod (pe_call G_Lnext (hr.mono (by decide)) (by rfl) T.g_Lnext T.F_Lnext.kp T.b_Lnext .nil pass0 (pa_cons (pv 0) pa_nil)) (pe_op op_add (pv 6) pe_int)) (pv 6)) (pa_cons (pv 6) pa_nil))))))
      (pss_cons (ps_set (i := 7) sc_Lforest.nd rfl (.inl rfl) (pe_lst pa_nil))
      (pss_cons (ps_set (i := 8) sc_Lforest.nd rfl (.inl rfl) (pe_op op_mod (pe_call G_Lnext (hr.mono (by decide)) (by rfl) T.g_Lnext T.F_Lnext.kp T.b_Lnext .nil pass0 (pa_cons (pv 0) pa_nil)) pe_int))
      (pss_cons (ps_for PassesOwn.never rfl (pi_range2 (by rfl) T.m_range (pa_cons pe_int (pa_cons (pv 3) pa_nil))) (pg_name (i := 6) sc_Lforest.nd rfl (.inl rfl)) (pss_cons (ps_set (i := 9) sc_Lforest.nd rfl (.inl rfl) (pe_ix ix_list (pe_lst (pa_cons (pe_op op_sub (pv 6) pe_int) (pa_cons pe_int (pa_cons (pe_op op_fdivW (pe_op op_sub (pv 6) pe_int) pe_int) (pa_cons (pe_op op_mod (pe_call G_Lnext (hr.mono (by decide)) (by rfl) T.g_Lnext T.F_Lnext.kp T.b_Lnext .nil pass0 (pa_cons (pv 0) pa_nil)) (pv 6)) (pa_cons (pe_op op_sub (pe_op op_sub (pv 6) pe_int) (pe_op op_mul (pe_op op_mod (pv 6) pe_int) (pe_callTy call_int1 (by rfl) T.m_int (by decide +kernel) (pa_cons (pe_cmpR op_gt (pv 6) pe_int (nomark _)) pa_nil)))) pa_nil)))))) (pv 4) (fun _ _ => rfl)))
      (pss_one (ps_if (pt_mid (PW.pt (pw_or (pt_cmpR op_gt (pv 8) pe_int (nomark _)) (pw_or1 (pt_cmpR op_gt (pe_op op_mod (pe_call G_Lnext (hr.mono (by decide)) (by rfl) T.g_Lnext T.F_Lnext.kp T.b_Lnext .nil pass0 (pa_cons (pv 0) pa_nil)) pe_int) pe_int (nomark _)))))) (pss_one (ps_expr (pe_bm PySem.F.plainAttrs_list PySem.F.slot_list_append PySem.F.type_list_append mt_append (pv 7) (pa_cons (pe_tup (pa_cons (pe_callB (call_min2 rfl) (by rfl) T.m_min (by decide +kernel) (pa_cons (pe_ix ix_list (pv 5) (pv 6) (fun _ _ => rfl)) (pa_cons (pe_ix ix_list (pv 5) (pv 9) (fun _ _ => rfl)) pa_nil))) (pa_cons (pe_callB (call_max2 rfl) (by rfl) T.m_max (by decide +kernel) (pa_cons (pe_ix ix_list (pv 5) (pv 6) (fun _ _ => rfl)) (pa_cons (pe_ix ix_list (pv 5) (pv 9) (fun _ _ => rfl)) pa_nil))) pa_nil))) pa_nil)))) pss_nil))))
      (pss_one (ps_ret (pe_tup (pa_cons (pe_callTy call_tuple_of (by rfl) T.m_tuple (by decide +kernel) (pa_cons (pe_lc (own := [("_law_k", 6)]) (g := gName 6) (tt := tYes) (by rfl) sc_Lforest.nd (pi_range1 (by rfl) T.m_range (pa_cons (pv 3) pa_nil)) (blkOk_by (own := [("_law_k", 6)]) (N := ["_law_box_here", "_law_few_here", "_law_most", "_law_many", "_law_shape", "_law_names", "_law_k", "_law_ties", "_law_apart", "_law_under"]) (sc := defScope s_Lforest) (by decide +kernel)) (fun _ _ _ _ _ => (pg_name (i := 6) sc_Lforest.nd rfl (.inl rfl))) (fun _ _ _ _ _ => pts_nil) (fun _ _ _ _ _ => (pe_call G_Lpoint hr (by rfl) T.g_Lpoint T.F_Lpoint.kp T.b_Lpoint .nil pass0 (pa_cons (pv 0) pa_nil)))) pa_nil)) (pa_cons (pe_callTy call_tuple_of (by rfl) T.m_tuple (by decide +kernel) (pa_cons (pe_callB cr_sortedP (by rfl) T.m_sorted (by decide +kernel) (pa_cons (pv 7) pa_nil)) pa_nil)) pa_nil)))))))))))), ?_⟩
    refine ⟨_, rfl, _, rfl, _, rfl, b, L, f, m, rfl, B, f0, m0, by omega, by omega, fun x1 H1 a0 a1 B1 k1 => ⟨_, _, rfl, rfl, ?_⟩⟩
    refine ⟨_, rfl, b, L, rfl, B1, fun x2 H2 hx2 B2 k2 => ⟨_, _, rfl, rfl, (by show (0 : Int) < 5; decide), Nat.zero_le _, fun nm nnm => ?_⟩⟩
    generalize hs : x2 % 5 = sh
    have s0 : 0 ≤ sh := by
      rw [← hs]
      exact Int.emod_nonneg _ (by decide)
    have s1 : sh < 5 := by
      rw [← hs]
      exact Int.emod_lt_of_pos _ (by decide)
    have nnb : nm ≠ b := B2.ne nnm
    have nnL : nm ≠ L := B2.neL nnm
    refine ⟨_, rfl, _, rfl, by omega, by omega, for_range (lo := 0) (n := (1 + x1).toNat) (fun i σ H3 => ∃ (ns : List Int) (y6 : Option V), σ = [some (.ref b), some (.int f), some (.int m), some (.int (1 + x1)), some (.int (x2 % 5)), some (.ref nm), y6, none, none, none] ∧ BoxAt H3 b L ∧ H3 nm = some (.lst (ns.map V.int)) ∧ Names i ns ∧ But b H2 H3)
      ⟨[], none, rfl, B2.new nnm, upd_same, ⟨rfl, fun x z => nomatch z⟩, But.refl.new nnm⟩ ?_ ?_⟩
    · rintro i σ H3 hi ⟨ns, y6, rfl, B3, hnm, hN, k3⟩
      have e0 : (0 : Int) + (i : Int) = (i : Int) := by omega
      have fin : ∀ (j : Int) (H4 : Hp), BoxAt H4 b L → But b H3 H4 → H4 nm = some (.lst (ns.map V.int)) → ∃ (ns' : List Int) (y6' : Option V), [some (V.ref b), some (V.int f), some (V.int m), some (V.int (1 + x1)), some (V.int (x2 % 5)), some (V.ref nm), some (V.int (0 + (i : Int))), none, none, none] = [some (V.ref b), some (V.int f), some (V.int m), some (V.int (1 + x1)), some (V.int (x2 % 5)), some (V.ref nm), y6', none, none, none] ∧ BoxAt (upd H4 nm (.lst ((ns.map V.int).take j.toNat ++ [V.int (0 + (i : Int))] ++ (ns.map V.int).drop j.toNat))) b L ∧ (upd H4 nm (.lst ((ns.map V.int).take j.toNat ++ [V.int (0 + (i : Int))] ++ (ns.map V.int).drop j.toNat))) nm = some (.lst (ns'.map V.int)) ∧ Names (i + 1) ns' ∧ But b H2 (upd H4 nm (.lst ((ns.map V.int).take j.toNat ++ [V.int (0 + (i : Int))] ++ (ns.map V.int).drop j.toNat))) := by
        intro j H4 B4 k4 h4
        refine ⟨ns.take j.toNat ++ [(i : Int)] ++ ns.drop j.toNat, _, rfl, B4.put nnb nnL, ?_, names_put hN, fun a o e ne => ?_⟩
        · rw [upd_same, e0, List.map_append, List.map_append, List.map_take, List.map_drop]
          rfl
        · rw [upd_ne (ne_of_none e nnm)]
          exact k4 _ _ (k3 _ _ e ne) ne
      refine ⟨_, rfl, .inl ⟨rfl, _, SqL.of hnm⟩, _, rfl, _, _, rfl, rfl, _, rfl, ite2 (fun e1 => ?_) (fun e1 => ?_)⟩
      · refine ⟨_, rfl, b, L, rfl, B3, fun x3 H4 hx3 B4 k4 => ⟨_, rfl, _, _, rfl, rfl, _, _, rfl, rfl, (by show (0 : Int) < 0 + (i : Int) + 1; omega), _, rfl, ?_⟩⟩
        have z0 := Int.emod_nonneg x3 (show (0 : Int) + (i : Int) + 1 ≠ 0 by omega)
        have z1 := Int.emod_lt_of_pos x3 (show (0 : Int) < 0 + (i : Int) + 1 by omega)
        have h4 := k4 _ _ hnm nnb
        refine ⟨nm, _, _, _, rfl, rfl, h4, szl (by rw [List.length_map, hN.1]; omega), z0, by omega, ?_⟩
        exact fin _ H4 B4 k4 h4
      · refine ⟨_, rfl, _, rfl, nm, _, _, _, rfl, rfl, hnm, szl (by rw [List.length_map, hN.1]; omega), by omega, by omega, ?_⟩
        exact fin _ H3 B3 But.refl hnm
    · rintro σ H3 ⟨ns, y6, rfl, B3, hnm, hN, k3⟩
      refine ⟨Nat.zero_le _, fun tl ntl => ?_⟩
      have ntb : tl ≠ b := B3.ne ntl
      have ntL : tl ≠ L := B3.neL ntl
      have ntn : nm ≠ tl := ne_of_none hnm ntl
      have hnm' : (upd H3 tl (.lst [])) nm = some (.lst (ns.map V.int)) := by
        rw [upd_ne ntn]
        exact hnm
      have nmy : (ns.length : Int) = 1 + x1 := by
        have := hN.1
        omega
      have pk : ∀ k : Int, 0 ≤ k → k < 1 + x1 → ∃ v : Int, atI (ns.map V.int) k = some (.int v) ∧ 0 ≤ v ∧ v < 1 + x1 := fun k k0 k1 => by
        obtain ⟨v, hv, hm⟩ := at_map (ns := ns) k0 (by omega)
        have := hN.2 v hm
        have := hN.1
        exact ⟨v, hv, by omega, by omega⟩
      refine ⟨_, rfl, b, L, rfl, B3.new ntl, fun x4 H4 hx4 B4 k4 => ⟨_, _, rfl, rfl, (by show (0 : Int) < 3; decide), ?_⟩⟩
      have htl4 : H4 tl = some (.lst []) := k4 _ _ upd_same ntb
      have hnm4 : H4 nm = some (.lst (ns.map V.int)) := k4 _ _ hnm' nnb
      refine ⟨_, rfl, _, _, rfl, ⟨by decide, by decide, by omega, by omega⟩, for_range (lo := 1) (n := _) (fun i σ H5 => ∃ (xs : List V) (ts : List (Int × Int)) (y6 y9 : Option V), σ = [some (.ref b), some (.int f), some (.int m), some (.int (1 + x1)), some (.int (x2 % 5)), some (.ref nm), y6, some (.ref tl), some (.int (x4 % 3)), y9] ∧ BoxAt H5 b L ∧ H5 nm = some (.lst (ns.map V.int)) ∧ H5 tl = some (.lst xs) ∧ PAll H5 xs ts ∧ ts.length ≤ i ∧ (∀ t ∈ ts, 0 ≤ t.1 ∧ 0 ≤ t.2 ∧ t.1 < 1 + x1 ∧ t.2 < 1 + x1) ∧ But b H3 H5)
        ⟨[], [], _, none, rfl, B4, hnm4, htl4, .nil, Nat.zero_le _, (fun t z => nomatch z), (But.refl.new ntl).trans k4⟩ ?_ ?_⟩
      · rintro i σ H5 hi ⟨xs, ts, y6, y9, rfl, B5, hnm5, htl5, pa5, hl5, ht5, k5⟩
        have hk0 : (1 : Int) ≤ 1 + (i : Int) := by omega
        have hk1 : (1 : Int) + (i : Int) < 1 + x1 := by omega
        generalize hk : (1 : Int) + (i : Int) = k at hk0 hk1
        refine ⟨_, rfl, _, _, rfl, rfl, _, rfl, _, _, rfl, rfl, _, _, rfl, rfl, wide_ok (by decide) (by decide), _, rfl, b, L, rfl, B5, fun x5 H6 hx5 B6 k6 => ⟨_, rfl, _, _, rfl, rfl, (by show (0 : Int) < k; omega), _, rfl, _, _, rfl, rfl, _, rfl, _, _, rfl, rfl, (by show (0 : Int) < 2; decide), _, rfl, _, _, rfl, rfl, .inr ⟨_, rfl, _, _, rfl, rfl, .inr ⟨?_, ?_⟩, _, _, rfl, rfl, (by show 5 ≤ sizeLine; decide), fun p np => ?_⟩⟩⟩
        · split <;> decide
        · split <;> decide
        · have z0 := Int.emod_nonneg x5 (show k ≠ 0 by omega)
          have z1 := Int.emod_lt_of_pos x5 (show (0 : Int) < k by omega)
          have pick : ∃ v : Int, atI [V.int (k - 1), V.int 0, V.int ((k - 1) / 2), V.int (x5 % k), V.int (k - 1 - k % 2 * (if decide (1 < k) = true then 1 else 0))] (x2 % 5) = some (.int v) ∧ 0 ≤ v ∧ v < k := by
            rw [hs]
            have hc : sh = 0 ∨ sh = 1 ∨ sh = 2 ∨ sh = 3 ∨ sh = 4 := by omega
            rcases hc with h | h | h | h | h
            all_goals rw [h]
            · exact ⟨_, rfl, by omega, by omega⟩
            · exact ⟨_, rfl, by omega, by omega⟩
            · exact ⟨_, rfl, by omega, by omega⟩
            · exact ⟨_, rfl, by omega, by omega⟩
            · refine ⟨_, rfl, ?_, ?_⟩
              · by_cases e : 1 < k
                · rw [decide_eq_true e]
                  simp
                  omega
                · rw [decide_eq_false e]
                  simp
                  omega
              · by_cases e : 1 < k
                · rw [decide_eq_true e]
                  simp
                  omega
                · rw [decide_eq_false e]
                  simp
                  omega
          obtain ⟨u, hu, u0, u1⟩ := pick
          refine ⟨_, rfl, p, _, _, _, rfl, rfl, SqL.of upd_same, hu, ?_⟩
          have B7 : BoxAt (upd H6 p (.lst [V.int (k - 1), V.int 0, V.int ((k - 1) / 2), V.int (x5 % k), V.int (k - 1 - k % 2 * (if decide (1 < k) = true then 1 else 0))])) b L := B6.new np
          have k7 : But b H5 (upd H6 p (.lst [V.int (k - 1), V.int 0, V.int ((k - 1) / 2), V.int (x5 % k), V.int (k - 1 - k % 2 * (if decide (1 < k) = true then 1 else 0))])) := k6.new np
          generalize (upd H6 p (.lst [V.int (k - 1), V.int 0, V.int ((k - 1) / 2), V.int (x5 % k), V.int (k - 1 - k % 2 * (if decide (1 < k) = true then 1 else 0))])) = H7 at B7 k7
          have hnm7 := k7 _ _ hnm5 nnb
          have htl7 := k7 _ _ htl5 ntb
          have pa7 := pa5.but B5 k7
          refine ⟨fun _ H8 => BoxAt H8 b L ∧ But b H7 H8, ?_, ?_⟩
          · refine ⟨_, rfl, _, _, rfl, rfl, _, rfl, ite2 (fun _ => ⟨B7, But.refl⟩) (fun _ => ?_)⟩
            exact ⟨_, rfl, b, L, rfl, B7, fun x8 H8 hx8 B8 k8 => ⟨_, _, rfl, rfl, (by show (0 : Int) < 5; decide), _, _, rfl, rfl, _, rfl, B8, k8⟩⟩
          · rintro bb H8 ⟨B8, k8⟩
            have hnm8 := k8 _ _ hnm7 nnb
            have htl8 := k8 _ _ htl7 ntb
            have pa8 := pa7.but B7 k8
            have k58 := (k5.trans k7).trans k8
            refine ite2 (fun _ => ?_) (fun _ => ?_)
            · obtain ⟨v1, hv1, a1, b1⟩ := pk k (by omega) hk1
              obtain ⟨v2, hv2, a2, b2⟩ := pk u u0 (by omega)
              refine ⟨_, rfl, .inl ⟨rfl, _, SqL.of htl8⟩, _, rfl, _, rfl, nm, _, _, _, rfl, rfl, SqL.of hnm8, hv1, _, rfl, _, rfl, nm, _, _, _, rfl, rfl, SqL.of hnm8, hv2, _, _, rfl, _, rfl, _, rfl, nm, _, _, _, rfl, rfl, SqL.of hnm8, hv1, _, rfl, _, rfl, nm, _, _, _, rfl, rfl, SqL.of hnm8, hv2, _, _, rfl, (by show 2 ≤ sizeLine; decide), fun t nt => ?_⟩
              have nt1 : tl ≠ t := ne_of_none htl8 nt
              have nt2 : nm ≠ t := ne_of_none hnm8 nt
              have htl9 : (upd H8 t (.tup [.int (if v2 < v1 then v2 else v1), .int (if v2 > v1 then v2 else v1)])) tl = some (.lst xs) := by
                rw [upd_ne nt1]
                exact htl8
              refine ⟨tl, _, _, rfl, rfl, htl9, szl ?_, ?_⟩
              · have := pa8.length
                omega
              · refine ⟨xs ++ [.ref t], ts ++ [((if v2 < v1 then v2 else v1), (if v2 > v1 then v2 else v1))], _, _, rfl, (B8.new nt).put ntb ntL, ?_, upd_same, ?_, ?_, ?_, ?_⟩
                · rw [upd_ne ntn, upd_ne nt2]
                  exact hnm8
                · exact (PAll.snoc upd_same (pa8.same (same_new nt))).put htl9
                · rw [List.length_append]
                  show ts.length + 1 ≤ i + 1
                  omega
                · intro t' m'
                  rcases List.mem_append.mp m' with m' | m'
                  · exact ht5 t' m'
                  · rcases List.mem_cons.mp m' with e | m'
                    · subst e
                      dsimp only
                      refine ⟨?_, ?_, ?_, ?_⟩ <;> split <;> omega
                    · cases m'
                · intro a o e ne
                  have z := k58 _ _ e ne
                  rw [upd_ne (ne_of_none e ntl), upd_ne (ne_of_none z nt)]
                  exact z
            · exact ⟨xs, ts, _, _, rfl, B8, hnm8, htl8, pa8, by omega, ht5, k58⟩
      · rintro σ H5 ⟨xs, ts, y6, y9, rfl, B5, hnm5, htl5, pa5, hl5, ht5, k5⟩
        refine ⟨_, rfl, _, rfl, by omega, by omega, fun D nD => ?_⟩
        have nDb : D ≠ b := B5.ne nD
        have nDL : D ≠ L := B5.neL nD
        refine lc_range (lo := 0) (n := (1 + x1).toNat) (fun i H6 => BoxAt H6 b L ∧ ∃ (pts : List (Int × Str)) (ys : List V), H6 D = some (.lst ys) ∧ TdAll K H6 ys (pts.map pdata) ∧ pts.length = i ∧ (∀ p ∈ pts, PtOk p) ∧ But b H5 H6) ⟨B5.new nD, [], [], upd_same, .nil, rfl, (fun p z => nomatch z), But.refl.new nD⟩ ?_ ?_
        · rintro i H6 hi ⟨B6, pts, ys, hD6, hp6, hl6, ho6, k6⟩
          refine ⟨rfl, yes_ite ?_⟩
          refine ⟨_, rfl, b, L, rfl, B6, fun p x c H7 hpo B7 k7 np hp7 => ?_⟩
          have hD7 := k7 _ _ hD6 nDb
          have hl7 := hp6.length
          rw [List.length_map] at hl7
          refine ⟨ys, hD7, szl (by omega), B7.put nDb nDL, pts ++ [(x, c)], ys ++ [.ref p], upd_same, ?_, ?_, ?_, ?_⟩
          · have t7 : Tups K H7 (upd H7 D (.lst (ys ++ [V.ref p]))) := Tups.of_but (But.refl.put) hD7
            rw [List.map_append]
            exact TdAll.mono t7 ((hp6.mono (B6.tups k7)).append (.cons (Td.pt hp7) .nil))
          · rw [List.length_append, hl6]
            rfl
          · intro p' m'
            rcases List.mem_append.mp m' with m' | m'
            · exact ho6 p' m'
            · rcases List.mem_cons.mp m' with e | m'
              · subst e
                exact hpo
              · cases m'
          · intro a o e ne
            rw [upd_ne (ne_of_none e nD)]
            exact k7 _ _ (k6 _ _ e ne) ne
        · rintro H6 ⟨B6, pts, ys, hD6, hp6, hl6, ho6, k6⟩
          refine ⟨D, ys, rfl, .inl ⟨SqL.of hD6, fun a1 n1 => ?_⟩⟩
          have s7 := same_new (o := .tup ys) n1
          have htl7 := s7 _ _ (k6 _ _ htl5 ntb)
          have pa7 := (pa5.but B5 k6).same s7
          refine ⟨_, rfl, tl, xs, rfl, SqL.of htl7, pa7.pairs, fun zs p8 pm n8 => ?_⟩
          have s8 := same_new (o := .lst zs) n8
          refine ⟨p8, zs, rfl, .inl ⟨SqL.of upd_same, fun a2 n2 => ?_⟩⟩
          have s9 := same_new (o := .tup zs) n2
          refine ⟨(by show 2 ≤ sizeLine; decide), fun r nr => ?_⟩
          have s10 := same_new (o := .tup [.ref a1, .ref a2]) nr
          obtain ⟨us, pu, pau⟩ := pa7.perm pm
          have tail : Same H6 _ := (((s7.trans s8).trans s9).trans s10)
          have hd1 := s10 _ _ (s9 _ _ (s8 _ _ (upd_same (H := H6) (a := a1) (o := .tup ys))))
          have hd2 := s10 _ _ (upd_same (H := upd (upd H6 a1 (.tup ys)) p8 (.lst zs)) (a := a2) (o := .tup zs))
          refine q r pts us _ ⟨by omega, by omega, ho6, fun t m' => ?_, ?_⟩ ?_ ((B6.same tail)) ((((k1.trans k2).trans k3).trans k5).trans k6 |>.same tail) ?_
          · have := ht5 t (pu.mem_iff.mp m')
            omega
          · have := pu.length_eq
            omega
          · omega
          · refine .tup (SqT.of upd_same) (.cons (.tup (SqT.of hd1) (hp6.mono (Tups.of_same tail))) (.cons (.tup (SqT.of hd2) ?_) .nil))
            exact (pau.same ((s8.trans s9).trans s10)).td
end

/-! ### rows drawn from the box -/
def RowV (w : Str) (vs : List V) : Prop := ∃ (sl : List Sl) (ps : List V), vs = .str w :: ps ∧ (w, sl) ∈ forms ∧ FitAll sl ps
theorem RowV.mk {w : Str} {ps : List V} (sl : List Sl) (h : (w, sl) ∈ forms) (f : FitAll sl ps) : RowV w (.str w :: ps) := ⟨sl, ps, rfl, h, f⟩
theorem fi (i : Int) : fit .pt (.int i) := ⟨i, rfl⟩
theorem fn (i : Int) : fit .num (.int i) := ⟨i, rfl⟩
theorem fo (i : Int) : fit .oth (.int i) := .inr ⟨i, rfl⟩
def sides : List Str := ["spread", "sum", "size", "top", "least"]
/-- the second of a pair -/
def Oth (wh : Prop) (y : V) : Prop := (∃ j, y = .int j) ∨ (y = .non ∧ wh)
theorem Oth.toOth {wh : Prop} {y : V} (h : Oth wh y) : fit .oth y := by
  rcases h with h | h
  · exact .inr h
  · exact .inl h.1
theorem Oth.toPt {wh : Prop} {y : V} (h : Oth wh y) (n : ¬ wh) : fit .pt y := by
  rcases h with h | h
  · exact h
  · exact absurd h.2 n
theorem mem_add {w : Str} {i x : Int} {y : V} (h : w ∈ (["add", "spread", "reach"] : List Str)) (hy : Oth (w ∈ sides) y) : RowV w (.str w :: [.int i, y, .int x]) := by
  simp only [List.mem_cons, List.not_mem_nil, or_false] at h
  rcases h with rfl | rfl | rfl
  · exact .mk [.pt, .pt, .num] (by decide +kernel) (.cons (fi i) (.cons (hy.toPt (by decide +kernel)) (.cons (fn x) .nil)))
  · exact .mk [.pt, .oth, .num] (by decide +kernel) (.cons (fi i) (.cons hy.toOth (.cons (fn x) .nil)))
  · exact .mk [.pt, .pt, .num] (by decide +kernel) (.cons (fi i) (.cons (hy.toPt (by decide +kernel)) (.cons (fn x) .nil)))
theorem mem_first {w k : Str} {i : Int} {y : V} (hk : k ∈ kinds) (h : w ∈ (["first", "least"] : List Str)) (hy : Oth (w ∈ sides) y) : RowV w (.str w :: [.int i, y, .str k]) := by
  simp only [List.mem_cons, List.not_mem_nil, or_false] at h
  rcases h with rfl | rfl
  · exact .mk [.pt, .pt, .knd] (by decide +kernel) (.cons (fi i) (.cons (hy.toPt (by decide +kernel)) (.cons ⟨k, rfl, hk⟩ .nil)))
  · exact .mk [.pt, .oth, .knd] (by decide +kernel) (.cons (fi i) (.cons hy.toOth (.cons ⟨k, rfl, hk⟩ .nil)))
theorem mem_rest {w : Str} {i : Int} {y : V} (h : w ∈ evs) (n1 : ¬ w = "new") (n2 : ¬ w = "put") (n3 : ¬ w = "paint") (n4 : ¬ w ∈ (["add", "spread", "reach"] : List Str)) (n5 : ¬ w ∈ (["first", "least"] : List Str)) (n6 : ¬ w = "kth") (n7 : ¬ w = "meet") (hy : Oth (w ∈ sides) y) : RowV w (.str w :: [.int i, y]) := by
  unfold evs at h
  simp only [List.mem_cons, List.not_mem_nil, or_false] at h n4 n5
  rcases h with h | h | h | h | h | h | h | h | h | h | h | h | h | h | h | h | h | h | h | h
  · exact absurd h n1
  · exact absurd h n2
  · exact absurd h n3
  · subst h
    exact .mk [.pt, .pt] (by decide +kernel) (.cons (fi i) (.cons (hy.toPt (by decide +kernel)) .nil))
  · subst h
    exact .mk [.pt, .pt] (by decide +kernel) (.cons (fi i) (.cons (hy.toPt (by decide +kernel)) .nil))
  · exact absurd (.inl h) n4
  · exact absurd (.inr (.inl h)) n4
  · subst h
    exact .mk [.pt, .pt] (by decide +kernel) (.cons (fi i) (.cons (hy.toPt (by decide +kernel)) .nil))
  · subst h
    exact .mk [.pt, .pt] (by decide +kernel) (.cons (fi i) (.cons (hy.toPt (by decide +kernel)) .nil))
  · subst h
    exact .mk [.pt, .pt] (by decide +kernel) (.cons (fi i) (.cons (hy.toPt (by decide +kernel)) .nil))
  · subst h
    exact .mk [.pt, .pt] (by decide +kernel) (.cons (fi i) (.cons (hy.toPt (by decide +kernel)) .nil))
  · subst h
    exact .mk [.pt, .pt] (by decide +kernel) (.cons (fi i) (.cons (hy.toPt (by decide +kernel)) .nil))
  · exact absurd (.inl h) n5
  · exact absurd (.inr (.inr h)) n4
  · exact absurd h n6
  · exact absurd h n7
  · subst h
    exact .mk [.pt, .oth] (by decide +kernel) (.cons (fi i) (.cons hy.toOth .nil))
  · subst h
    exact .mk [.pt, .oth] (by decide +kernel) (.cons (fi i) (.cons hy.toOth .nil))
  · subst h
    exact .mk [.pt, .oth] (by decide +kernel) (.cons (fi i) (.cons hy.toOth .nil))
  · exact absurd (.inr h) n5
/-- a forest's parts -/
theorem Td.parts {K : PySem.W.Frag} {H : Hp} {f : V} {pts : List (Int × Str)} {ts : List (Int × Int)} (h : Td K H f (fdata pts ts)) : ∃ (a pa ta : Addr) (xs ys : List V), f = .ref a ∧ SqT K H a [.ref pa, .ref ta] ∧ SqT K H pa xs ∧ TdAll K H xs (pts.map pdata) ∧ SqT K H ta ys ∧ TdAll K H ys (ts.map tdata) := by
  unfold fdata at h
  cases h with
  | tup h k =>
    cases k with
    | cons k1 k2 =>
      cases k2 with
      | cons k2 k3 =>
        cases k3
        cases k1 with
        | tup h1 l1 =>
          cases k2 with
          | tup h2 l2 => exact ⟨_, _, _, _, _, rfl, h, h1, l1, h2, l2⟩
theorem tdata_inv {K : PySem.W.Frag} {H : Hp} {v : V} {t : Int × Int} (h : Td K H v (tdata t)) : ∃ a, v = .ref a ∧ SqT K H a [.int t.1, .int t.2] := by
  unfold tdata at h
  cases h with
  | tup h k =>
    cases k with
    | cons k1 k2 =>
      cases k2 with
      | cons k2 k3 =>
        cases k3
        cases k1
        cases k2
        exact ⟨_, rfl, h⟩
theorem lay_ties : ∀ ts : List (Int × Int), PyData.canLayAll0 (ts.map tdata) = true ∧ PyData.depthAll (ts.map tdata) ≤ 1
  | [] => ⟨rfl, by decide⟩
  | t :: r => by
    obtain ⟨h1, h2⟩ := lay_ties r
    rw [List.map_cons]
    unfold PyData.canLayAll0 PyData.depthAll
    rw [h1]
    refine ⟨rfl, ?_⟩
    have e : (tdata t).depth = 1 := rfl
    omega
theorem shaped_ties (ts : List (Int × Int)) : SeqAt.shaped (.tuple (ts.map tdata)) = true := by
  obtain ⟨h1, h2⟩ := lay_ties ts
  unfold SeqAt.shaped PyData.canLay0 PyData.depth
  rw [h1, decide_eq_true (by omega)]
  rfl
def spPair (K : PySem.W.Frag) : Sp := fun vs H Q _ => ∃ (b L : Addr) (f : V) (wh : Bool) (pts : List (Int × Str)) (ts : List (Int × Int)), vs = [.ref b, f, .bl wh] ∧ BoxAt H b L ∧ Td K H f (fdata pts ts) ∧ FrOk pts ts ∧
  ∀ (p : Addr) (i : Int) (y : V) (H' : Hp), Oth (wh = true) y → BoxAt H' b L → But b H H' → H p = none → H' p = some (.tup [.int i, y]) → Q (.ref p) H'
def spRow (K : PySem.W.Frag) : Sp := fun vs H Q _ => ∃ (b L wl : Addr) (f : V) (ws : List Str) (pts : List (Int × Str)) (ts : List (Int × Int)), vs = [.ref b, f, .ref wl] ∧ BoxAt H b L ∧ Td K H f (fdata pts ts) ∧ FrOk pts ts ∧ H wl = some (.lst (ws.map V.str)) ∧ wl ≠ b ∧ ws ≠ [] ∧ ws.length ≤ 100 ∧ (∀ w ∈ ws, w ∈ evs) ∧
  ∀ (r : Addr) (w : Str) (us : List V) (H' : Hp), w ∈ ws → RowV w us → BoxAt H' b L → But b H H' → H r = none → H' r = some (.tup us) → Q (.ref r) H'
def spEvery : Sp := fun vs H Q _ => vs = [] ∧ ∀ (p : Addr) (H' : Hp), Same H H' → H p = none → H' p = some (.lst (evs.map V.str)) → Q (.ref p) H'
section
variable {P : Program} {w : World} {K : PySem.W.Frag} {mg : Str → Option Value} {base : Heap}
theorem ok_every (T : Top w K mg) : FnOk P w K mg base CX0 1 T.a_Levery T.d_Levery [] spEvery := by
  refine T.F_Levery.ok sc_Levery (fun vs H Q E h => ?_) (fun cdv A outer s H vs Q E hr h => ?_)
  · obtain ⟨rfl, _⟩ := h
    rfl
  · obtain ⟨rfl, q⟩ := h
    refine ⟨_, (pss_cons (ps_set (i := 0) sc_Levery.nd rfl (.inl rfl) (pe_lst (pa_cons pe_str (pa_cons pe_str (pa_cons pe_str (pa_cons pe_str (pa_cons pe_str (pa_cons pe_str (pa_cons pe_str pa_nil)))))))))
      (pss_cons (ps_set (i := 1) sc_Levery.nd rfl (.inl rfl) (pe_lst (pa_cons pe_str (pa_cons pe_str (pa_cons pe_str (pa_cons pe_str (pa_cons pe_str (pa_cons pe_str (pa_cons pe_str (pa_cons pe_str (pa_cons pe_str (pa_cons pe_str (pa_cons pe_str (pa_cons pe_str pa_nil))))))))))))))
      (pss_one (ps_ret (pe_op op_cat (pe_op op_cat (pv 0) (pv 1)) (pe_lst (pa_cons pe_str pa_nil))))))), ?_⟩
    refine ⟨(by show 7 ≤ sizeLine; decide), fun p1 n1 => ⟨(by show 12 ≤ sizeLine; decide), fun p2 n2 => ?_⟩⟩
    have n12 : p1 ≠ p2 := ne_of_none upd_same n2
    refine ⟨_, rfl, _, rfl, p1, p2, _, _, rfl, rfl, (by rw [upd_ne n12]; exact upd_same), upd_same, (by show 19 ≤ sizeLine; decide), fun p3 n3 => ⟨(by show 1 ≤ sizeLine; decide), fun p4 n4 => ?_⟩⟩
    have n34 : p3 ≠ p4 := ne_of_none upd_same n4
    refine ⟨p3, p4, _, _, rfl, rfl, (by rw [upd_ne n34]; exact upd_same), upd_same, (by show 20 ≤ sizeLine; decide), fun p5 n5 => ?_⟩
    refine q p5 _ (((((same_new n1).trans (same_new n2)).trans (same_new n3)).trans (same_new n4)).trans (same_new n5)) (Same.free ?_ n5) upd_same
    exact (((same_new n1).trans (same_new n2)).trans (same_new n3)).trans (same_new n4)
theorem ok_pair (T : Top w K mg) : FnOk P w K mg base CX0 3 T.a_Lpair T.d_Lpair ["_law_box_here", "_law_forest_here", "_law_whole"] (spPair K) := by
  have G_Lnext : FnOk P w K mg base CX0 1 _ _ _ _ := ok_next T
  have G_Lspot : FnOk P w K mg base CX0 2 _ _ _ _ := ok_spot T
  refine T.F_Lpair.ok sc_Lpair (fun vs H Q E h => ?_) (fun cdv A outer s H vs Q E hr h => ?_)
  · obtain ⟨b, L, f, wh, pts, ts, rfl, _⟩ := h
    rfl
  · obtain ⟨b, L, f, wh, pts, ts, rfl, B, F, fo, q⟩ := h
    refine ⟨_, (pss_cons (ps_set (i := 3) sc_Lpair.nd rfl (.inl rfl) (pe_call G_Lnext (hr.mono (by decide)) (by rfl) T.g_Lnext T.F_Lnext.kp T.b_Lnext .nil pass0 (pa_cons (pv 0) pa_nil)))
      (pss_cons (ps_mid (ps_if (pt_mid (PW.pt (pw_and (pt_cmpR (op_neD hr.units) (pe_ix ix_tup (pv 1) pe_int (fun _ _ => rfl)) (pe_tup pa_nil) (nomark _)) (pw_and1 (pt_cmpR op_eq (pe_op op_mod (pv 3) pe_int) pe_int (nomark _)))))) (pss_cons (ps_asg (pe_ix ix_tup (pe_ix ix_tup (pv 1) pe_int (fun _ _ => rfl)) (pe_op op_mod (pe_op op_fdivW (pv 3) pe_int) (pe_callB call_len_seq (by rfl) T.m_len PySem.boot_len (pa_cons (pe_ix ix_tup (pv 1) pe_int (fun _ _ => rfl)) pa_nil))) (fun _ _ => rfl)) (pg_tup rfl (pgs_cons (pg_name (i := 4) sc_Lpair.nd rfl (.inl rfl)) (pgs_cons (pg_name (i := 5) sc_Lpair.nd rfl (.inl rfl)) pgs_nil))))
      (pss_one (ps_set (i := 6) sc_Lpair.nd rfl (.inl rfl) (pe_ix ix_list (pe_lst (pa_cons (pe_lst (pa_cons (pv 4) (pa_cons (pv 5) pa_nil))) (pa_cons (pe_lst (pa_cons (pv 5) (pa_cons (pv 4) pa_nil))) pa_nil))) (pe_op op_mod (pe_call G_Lnext (hr.mono (by decide)) (by rfl) T.g_Lnext T.F_Lnext.kp T.b_Lnext .nil pass0 (pa_cons (pv 0) pa_nil)) pe_int) (fun _ _ => rfl))))) (pss_one (ps_set (i := 6) sc_Lpair.nd rfl (.inl rfl) (pe_lst (pa_cons (pe_call G_Lspot hr (by rfl) T.g_Lspot T.F_Lspot.kp T.b_Lspot .nil pass0 (pa_cons (pv 0) (pa_cons (pe_callB call_len_seq (by rfl) T.m_len PySem.boot_len (pa_cons (pe_ix ix_tup (pv 1) pe_int (fun _ _ => rfl)) pa_nil)) pa_nil))) (pa_cons (pe_call G_Lspot hr (by rfl) T.g_Lspot T.F_Lspot.kp T.b_Lspot .nil pass0 (pa_cons (pv 0) (pa_cons (pe_callB call_len_seq (by rfl) T.m_len PySem.boot_len (pa_cons (pe_ix ix_tup (pv 1) pe_int (fun _ _ => rfl)) pa_nil)) pa_nil))) pa_nil)))))))
      (pss_one (ps_ret (pe_tup (pa_cons (pe_ix ix_list (pv 6) pe_int (fun _ _ => rfl)) (pa_cons (pe_ifExp (PW.pt (pw_and (pt_val (pv 2)) (pw_and1 (pt_cmpR op_eq (pe_op op_mod (pv 3) pe_int) pe_int (nomark _))))) pe_non (pe_ix ix_list (pv 6) pe_int (fun _ _ => rfl))) pa_nil))))))), ?_⟩
    refine ⟨_, rfl, b, L, rfl, B, fun x H1 hx B1 k1 => ?_⟩
    have F1 := F.mono (B.tups k1)
    obtain ⟨fa, pa, ta, xs, ys, rfl, f1, f2, f3, f4, f5⟩ := F1.parts
    have lp : xs.length = pts.length := by
      have z := f3.length
      rw [List.length_map] at z
      exact z
    have lt : ys.length = ts.length := by
      have z := f5.length
      rw [List.length_map] at z
      exact z
    have fpos := fo.pos
    have ffew := fo.few
    have ftl := fo.tl
    refine ⟨fun σ2 H2 => ∃ (y4 y5 : Option V) (l2 : Addr) (i j : Int), σ2 = [some (.ref b), some (.ref fa), some (.bl wh), some (.int x), y4, y5, some (.ref l2)] ∧ H2 l2 = some (.lst [.int i, .int j]) ∧ BoxAt H2 b L ∧ But b H1 H2, ?_, ?_⟩
    · refine ⟨fun bb H2 => Same H1 H2 ∧ (bb = true → ts ≠ []), ?_, ?_⟩
      · refine ⟨_, rfl, fa, _, _, _, rfl, rfl, f1, atI_nat (j := 1) rfl, Nat.zero_le _, fun e ne => ?_⟩
        have s2 := same_new (o := .tup []) ne
        refine ⟨.tuple (ts.map tdata), .tuple [], .tup (Tups.of_same s2 _ _ f4) (TdAll.mono (Tups.of_same s2) f5).dp, .tup (SqT.of upd_same) .nil, shaped_ties ts, by decide, _, rfl, ?_⟩
        cases ts with
        | nil =>
          refine ite2 (fun e => absurd e (by decide)) (fun _ => ?_)
          exact ⟨s2, fun z => by cases z⟩
        | cons t r =>
          refine ite2 (fun _ => ?_) (fun e => absurd rfl e)
          exact ⟨_, rfl, _, _, rfl, rfl, (by show (0 : Int) < 2; decide), rfl, _, rfl, s2, fun _ z => by cases z⟩
      · rintro bb H2 ⟨s2, hb⟩
        have F2 := F1.mono (Tups.of_same s2)
        have B2 := B1.same s2
        have k2 : But b H1 H2 := But.refl.same s2
        have g1 := Tups.of_same (K := K) s2 _ _ f1
        have g2 := Tups.of_same (K := K) s2 _ _ f2
        have g4 := Tups.of_same (K := K) s2 _ _ f4
        refine ite2 (fun e => ?_) (fun e => ?_)
        · have hne := hb e
          have tpos : 0 < ts.length := List.length_pos_iff.mpr hne
          have m0 : (0 : Int) < (ys.length : Int) := by omega
          have z0 := Int.emod_nonneg (x / 2) (show (ys.length : Int) ≠ 0 by omega)
          have z1 := Int.emod_lt_of_pos (x / 2) m0
          obtain ⟨v, hv, hm⟩ := at_any z0 z1
          obtain ⟨d, hd, td⟩ := f5.get hm
          obtain ⟨t, ht, rfl⟩ := List.mem_map.mp hd
          obtain ⟨va, rfl, hva⟩ := tdata_inv td
          have hva2 := Tups.of_same (K := K) s2 _ _ hva
          refine ⟨_, rfl, fa, _, _, _, rfl, rfl, g1, atI_nat (j := 1) rfl, _, rfl, _, _, rfl, rfl, wide_ok (by decide) (by decide), _, rfl, fa, _, _, _, rfl, rfl, g1, atI_nat (j := 1) rfl, ta, _, rfl, .inr g4, _, _, rfl, rfl, m0, ta, _, _, _, rfl, rfl, g4, hv, ?_⟩
          refine ⟨va, _, rfl, hva2, rfl, _, _, rfl, _, _, rfl, rfl, ?_⟩
          refine ⟨_, rfl, _, rfl, (by show 2 ≤ sizeLine; decide), fun q1 m1 => ⟨_, rfl, _, rfl, (by show 2 ≤ sizeLine; decide), fun q2 m2 => ⟨(by show 2 ≤ sizeLine; decide), fun q3 m3 => ?_⟩⟩⟩
          have n12 : q1 ≠ q2 := ne_of_none upd_same m2
          have n23 : q2 ≠ q3 := ne_of_none upd_same m3
          have n13 : q1 ≠ q3 := ne_of_none (by rw [upd_ne n12]; exact upd_same) m3
          refine ⟨_, rfl, b, L, rfl, ((B2.new m1).new m2).new m3, fun x3 H3 hx3 B3 k3 => ⟨_, _, rfl, rfl, (by show (0 : Int) < 2; decide), ?_⟩⟩
          have h1 := k3 q1 (.lst [.int t.1, .int t.2]) (by rw [upd_ne n13, upd_ne n12]; exact upd_same) (B2.ne m1)
          have h2 := k3 q2 (.lst [.int t.2, .int t.1]) (by rw [upd_ne n23]; exact upd_same) ((B2.new m1).ne m2)
          have h3 := k3 q3 (.lst [.ref q1, .ref q2]) upd_same (((B2.new m1).new m2).ne m3)
          have kk : But b H1 H3 := (((k2.new m1).new m2).new m3).trans k3
          have hc : x3 % 2 = 0 ∨ x3 % 2 = 1 := by omega
          rcases hc with hc | hc
          · exact ⟨q3, _, _, .ref q1, rfl, rfl, SqL.of h3, (by show atI _ (x3 % 2) = _; rw [hc]; exact atI_nat (j := 0) rfl), _, _, q1, _, _, rfl, h1, B3, kk⟩
          · exact ⟨q3, _, _, .ref q2, rfl, rfl, SqL.of h3, (by show atI _ (x3 % 2) = _; rw [hc]; exact atI_nat (j := 1) rfl), _, _, q2, _, _, rfl, h2, B3, kk⟩
        · refine ⟨_, rfl, _, rfl, fa, _, _, _, rfl, rfl, g1, atI_nat (j := 0) rfl, pa, _, rfl, .inr g2, b, L, _, rfl, B2, by omega, by omega, fun x3 H3 _ _ B3 k3 => ?_⟩
          have g1' := B2.tups (K := K) k3 _ _ g1
          have g2' := B2.tups (K := K) k3 _ _ g2
          refine ⟨_, rfl, _, rfl, fa, _, _, _, rfl, rfl, g1', atI_nat (j := 0) rfl, pa, _, rfl, .inr g2', b, L, _, rfl, B3, by omega, by omega, fun x4 H4 _ _ B4 k4 => ⟨(by show 2 ≤ sizeLine; decide), fun l2 m2 => ?_⟩⟩
          exact ⟨_, _, l2, _, _, rfl, upd_same, B4.new m2, ((k2.trans k3).trans k4).new m2⟩
    · rintro σ2 H2 ⟨y4, y5, l2, i, j, rfl, hl, B2, k2⟩
      refine ⟨_, rfl, l2, _, _, _, rfl, rfl, SqL.of hl, atI_nat (j := 0) rfl, ?_⟩
      have fin : ∀ y, Oth (wh = true) y → ∀ p, H2 p = none → Q (.ref p) (upd H2 p (.tup [.int i, y])) := fun y hy p np =>
        q p i y _ hy (B2.new np) ((k1.trans k2).new np) (B2.back (k1.trans k2) np) upd_same
      refine ⟨_, rfl, wh, rfl, ?_⟩
      cases wh with
      | true =>
        refine iteT ?_
        refine ⟨_, rfl, _, _, rfl, rfl, (by show (0 : Int) < 5; decide), rfl, _, rfl, ite2 (fun _ => ?_) (fun _ => ?_)⟩
        · exact ⟨(by show 2 ≤ sizeLine; decide), fin .non (.inr ⟨rfl, rfl⟩)⟩
        · exact ⟨_, rfl, l2, _, _, _, rfl, rfl, SqL.of hl, atI_nat (j := 1) rfl, (by show 2 ≤ sizeLine; decide), fin _ (.inl ⟨j, rfl⟩)⟩
      | false =>
        refine iteF ?_
        refine iteF ?_
        exact ⟨_, rfl, l2, _, _, _, rfl, rfl, SqL.of hl, atI_nat (j := 1) rfl, (by show 2 ≤ sizeLine; decide), fin _ (.inl ⟨j, rfl⟩)⟩
theorem ok_row (T : Top w K mg) : FnOk P w K mg base CX0 4 T.a_Lrow T.d_Lrow ["_law_box_here", "_law_forest_here", "_law_words"] (spRow K) := by
  have G_Lnext : FnOk P w K mg base CX0 1 _ _ _ _ := ok_next T
  have G_Lspot : FnOk P w K mg base CX0 2 _ _ _ _ := ok_spot T
  have G_Lworth : FnOk P w K mg base CX0 2 _ _ _ _ := ok_worth T
  have G_Lpoint : FnOk P w K mg base CX0 3 _ _ _ _ := ok_point T
  have G_Lpair : FnOk P w K mg base CX0 3 _ _ _ _ := ok_pair T
  refine T.F_Lrow.ok sc_Lrow (fun vs H Q E h => ?_) (fun cdv A outer s H vs Q E hr h => ?_)
  · obtain ⟨b, L, wl, f, ws, pts, ts, rfl, _⟩ := h
    rfl
  · obtain ⟨b, L, wl, f, ws, pts, ts, rfl, B, F, fok, hwl, nwb, wne, wfew, wall, q⟩ := h
    refine ⟨_, (pss_cons (ps_set (i := 3) sc_Lrow.nd rfl (.inl rfl) (pe_ix ix_list (pv 2) (pe_op op_mod (pe_call G_Lnext (hr.mono (by decide)) (by rfl) T.g_Lnext T.F_Lnext.kp T.b_Lnext .nil pass0 (pa_cons (pv 0) pa_nil)) (pe_callB call_len_seq (by rfl) T.m_len PySem.boot_len (pa_cons (pv 2) pa_nil))) (fun _ _ => rfl)))
      (pss_cons (ps_set (i := 4) sc_Lrow.nd rfl (.inl rfl) (pe_callB call_len_seq (by rfl) T.m_len PySem.boot_len (pa_cons (pe_ix ix_tup (pv 1) pe_int (fun _ _ => rfl)) pa_nil)))
      (pss_cons (ps_if (pt_cmpR op_eq (pv 3) pe_str (nomark _)) (pss_one (ps_ret (pe_op op_catT (pe_tup (pa_cons (pv 3) pa_nil)) (pe_call G_Lpoint hr (by rfl) T.g_Lpoint T.F_Lpoint.kp T.b_Lpoint .nil pass0 (pa_cons (pv 0) pa_nil))))) pss_nil)
      (pss_cons (ps_if (pt_cmpR op_eq (pv 3) pe_str (nomark _)) (pss_one (ps_ret (pe_tup (pa_cons (pv 3) (pa_cons (pe_call G_Lspot (hr.mono (by decide)) (by rfl) T.g_Lspot T.F_Lspot.kp T.b_Lspot .nil pass0 (pa_cons (pv 0) (pa_cons (pv 4) pa_nil))) (pa_cons (pe_call G_Lworth (hr.mono (by decide)) (by rfl) T.g_Lworth T.F_Lworth.kp T.b_Lworth .nil pass0 (pa_cons (pv 0) pa_nil)) pa_nil)))))) pss_nil)
      (pss_cons (ps_if (pt_cmpR op_eq (pv 3) pe_str (nomark _)) (pss_one (ps_ret (pe_tup (pa_cons (pv 3) (pa_cons (pe_call G_Lspot (hr.mono (by decide)) (by rfl) T.g_Lspot T.F_Lspot.kp T.b_Lspot .nil pass0 (pa_cons (pv 0) (pa_cons (pv 4) pa_nil))) (pa_cons (pe_ix ix_tup (pe_call G_Lpoint hr (by rfl) T.g_Lpoint T.F_Lpoint.kp T.b_Lpoint .nil pass0 (pa_cons (pv 0) pa_nil)) pe_int (fun _ _ => rfl)) pa_nil)))))) pss_nil)
      (pss_cons (ps_mid (ps_if (pt_cmpR op_in_seq (pv 3) (pe_tup (pa_cons pe_str (pa_cons pe_str (pa_cons pe_str (pa_cons pe_str (pa_cons pe_str (pa_cons pe_str pa_nil))))))) (by rfl)) (pss_one (ps_set (i := 5) sc_Lrow.nd rfl (.inl rfl) (pe_call G_Lpair hr (by rfl) T.g_Lpair T.F_Lpair.kp T.b_Lpair .nil pass0 (pa_cons (pv 0) (pa_cons (pv 1) (pa_cons (pe_cmpR op_ne (pv 3) pe_str (nomark _)) pa_nil)))))) (pss_one (ps_set (i := 5) sc_Lrow.nd rfl (.inl rfl) (pe_tup (pa_cons (pe_call G_Lspot (hr.mono (by decide)) (by rfl) T.g_Lspot T.F_Lspot.kp T.b_Lspot .nil pass0 (pa_cons (pv 0) (pa_cons (pv 4) pa_nil))) (pa_cons (pe_call G_Lspot (hr.mono (by decide)) (by rfl) T.g_Lspot T.F_Lspot.kp T.b_Lspot .nil pass0 (pa_cons (pv 0) (pa_cons (pv 4) pa_nil))) pa_nil)))))))
      (pss_cons (ps_if (pt_cmpR op_in_seq (pv 3) (pe_tup (pa_cons pe_str (pa_cons pe_str (pa_cons pe_str pa_nil)))) (by rfl)) (pss_one (ps_ret (pe_op op_catT (pe_op op_catT (pe_tup (pa_cons (pv 3) pa_nil)) (pv 5)) (pe_tup (pa_cons (pe_call G_Lworth (hr.mono (by decide)) (by rfl) T.g_Lworth T.F_Lworth.kp T.b_Lworth .nil pass0 (pa_cons (pv 0) pa_nil)) pa_nil))))) pss_nil)
      (pss_cons (ps_if (pt_cmpR op_in_seq (pv 3) (pe_tup (pa_cons pe_str (pa_cons pe_str pa_nil))) (by rfl)) (pss_one (ps_ret (pe_op op_catT (pe_op op_catT (pe_tup (pa_cons (pv 3) pa_nil)) (pv 5)) (pe_tup (pa_cons (pe_ix ix_tup (pe_call G_Lpoint hr (by rfl) T.g_Lpoint T.F_Lpoint.kp T.b_Lpoint .nil pass0 (pa_cons (pv 0) pa_nil)) pe_int (fun _ _ => rfl)) pa_nil))))) pss_nil)
      (pss_cons (ps_if (pt_cmpR op_eq (pv 3) pe_str (nomark _)) (pss_one (ps_ret (pe_op op_catT (pe_op op_catT (pe_tup (pa_cons (pv 3) pa_nil)) (pv 5)) (pe_tup (pa_cons (pe_op op_mod (pe_call G_Lnext (hr.mono (by decide)) (by rfl) T.g_Lnext T.F_Lnext.kp T.b_Lnext .nil pass0 (pa_cons (pv 0) pa_nil)) (pe_op op_add (pv 4) pe_int)) pa_nil))))) pss_nil)
      (pss_one (ps_ret (pe_op op_catT (pe_op op_catT (pe_tup (pa_cons (pv 3) pa_nil)) (pv 5)) (pe_ifExp (pt_cmpR op_eq (pv 3) pe_str (nomark _)) (pe_tup (pa_cons (pe_call G_Lspot (hr.mono (by decide)) (by rfl) T.g_Lspot T.F_Lspot.kp T.b_Lspot .nil pass0 (pa_cons (pv 0) (pa_cons (pv 4) pa_nil))) pa_nil)) (pe_tup pa_nil)))))))))))))), ?_⟩
    refine ⟨_, rfl, _, rfl, b, L, rfl, B, fun x H1 hx B1 k1 => ?_⟩
    have hwl1 := k1 _ _ hwl nwb
    have wpos : 0 < ws.length := List.length_pos_iff.mpr wne
    have m0 : (0 : Int) < ((ws.map V.str).length : Int) := by
      rw [List.length_map]
      omega
    have z0 := Int.emod_nonneg x (show ((ws.map V.str).length : Int) ≠ 0 by omega)
    have z1 := Int.emod_lt_of_pos x m0
    obtain ⟨v, hv, hm⟩ := at_any z0 z1
    obtain ⟨wd, hwd, rfl⟩ := List.mem_map.mp hm
    have hev := wall wd hwd
    have F1 := F.mono (B.tups k1)
    obtain ⟨fa, pa, ta, xs, ys, rfl, f1, f2, f3, f4, f5⟩ := F1.parts
    have lp : xs.length = pts.length := by
      have z := f3.length
      rw [List.length_map] at z
      exact z
    have fpos := fok.pos
    have ffew := fok.few
    refine ⟨_, rfl, wl, _, rfl, .inl (SqL.of hwl1), _, _, rfl, rfl, m0, wl, _, _, _, rfl, rfl, SqL.of hwl1, hv, ?_⟩
    refine ⟨_, rfl, fa, _, _, _, rfl, rfl, f1, atI_nat (j := 0) rfl, pa, _, rfl, .inr f2, ?_⟩
    have fin : ∀ (us : List V) (H2 : Hp) (p : Addr), RowV wd us → BoxAt H2 b L → But b H1 H2 → H2 p = none → Q (.ref p) (upd H2 p (.tup us)) := fun us H2 p hu B2 k2 np =>
      q p wd us _ hwd hu (B2.new np) ((k1.trans k2).new np) (B2.back (k1.trans k2) np) upd_same
    -- new
    refine ⟨_, rfl, rfl, _, rfl, ite2 (fun e1 => ?_) (fun e1 => ?_)⟩
    · have e : wd = "new" := V.str.inj (of_decide_eq_true e1)
      refine ⟨_, rfl, (by show 1 ≤ sizeLine; decide), fun p1 m1 => ?_⟩
      refine ⟨_, rfl, b, L, rfl, B1.new m1, fun p2 i k H2 hpk B2 k2 m2 hp2 => ?_⟩
      have hp1 := k2 _ _ (upd_same (H := H1) (a := p1) (o := .tup [V.str wd])) (B1.ne m1)
      refine ⟨p1, p2, _, _, rfl, rfl, SqT.of hp1, SqT.of hp2, (fun z => nomatch z), (by show 3 ≤ sizeLine; decide), (fun z => nomatch z), fun _ p3 m3 => ?_⟩
      refine fin _ _ _ ?_ B2 ((But.refl.new m1).trans k2) m3
      rw [e]
      exact .mk [.num, .knd] (by decide +kernel) (.cons (fn i) (.cons ⟨k, rfl, hpk.2.2⟩ .nil))
    have n1 : ¬ wd = "new" := fun z => e1 (decide_eq_true (congrArg V.str z))
    -- put
    refine ⟨_, rfl, rfl, _, rfl, ite2 (fun e2 => ?_) (fun e2 => ?_)⟩
    · have e : wd = "put" := V.str.inj (of_decide_eq_true e2)
      refine ⟨_, rfl, _, rfl, _, rfl, b, L, _, rfl, B1, by omega, by omega, fun i H2 _ _ B2 k2 => ?_⟩
      refine ⟨_, rfl, b, L, rfl, B2, fun x3 H3 _ B3 k3 => ⟨(by show 3 ≤ sizeLine; decide), fun p m => ?_⟩⟩
      refine fin _ _ _ ?_ B3 (k2.trans k3) m
      rw [e]
      exact .mk [.pt, .num] (by decide +kernel) (.cons (fi i) (.cons (fn x3) .nil))
    have n2 : ¬ wd = "put" := fun z => e2 (decide_eq_true (congrArg V.str z))
    -- paint
    refine ⟨_, rfl, rfl, _, rfl, ite2 (fun e3 => ?_) (fun e3 => ?_)⟩
    · have e : wd = "paint" := V.str.inj (of_decide_eq_true e3)
      refine ⟨_, rfl, _, rfl, _, rfl, b, L, _, rfl, B1, by omega, by omega, fun i H2 _ _ B2 k2 => ?_⟩
      refine ⟨_, rfl, b, L, rfl, B2, fun p2 j k H3 hpk B3 k3 m2 hp2 => ⟨p2, _, _, _, rfl, rfl, SqT.of hp2, atI_nat (j := 1) rfl, (by show 3 ≤ sizeLine; decide), fun p m => ?_⟩⟩
      refine fin _ _ _ ?_ B3 (k2.trans k3) m
      rw [e]
      exact .mk [.pt, .knd] (by decide +kernel) (.cons (fi i) (.cons ⟨k, rfl, hpk.2.2⟩ .nil))
    have n3 : ¬ wd = "paint" := fun z => e3 (decide_eq_true (congrArg V.str z))
    -- the two points
    refine ⟨fun σ2 H2 => ∃ (p5 : Addr) (i : Int) (y : V), σ2 = [some (.ref b), some (.ref fa), some (.ref wl), some (.str wd), some (.int (xs.length : Int)), some (.ref p5)] ∧ H2 p5 = some (.tup [.int i, y]) ∧ Oth (wd ∈ sides) y ∧ BoxAt H2 b L ∧ But b H1 H2, ?_, ?_⟩
    · refine ⟨_, rfl, (by show 6 ≤ sizeLine; decide), fun p6 m6 => ⟨p6, _, rfl, .inr (SqT.of upd_same), rfl, flat_strs ["cut", "spread", "sum", "size", "top", "least"], _, rfl, ?_⟩⟩
      have eI : inV (.str wd) [V.str "cut", V.str "spread", V.str "sum", V.str "size", V.str "top", V.str "least"] = decide (wd ∈ (["cut", "spread", "sum", "size", "top", "least"] : List Str)) := inV_str wd ["cut", "spread", "sum", "size", "top", "least"]
      have F2 := F1.mono (Tups.of_same (same_new (o := .tup [V.str "cut", V.str "spread", V.str "sum", V.str "size", V.str "top", V.str "least"]) m6))
      refine ite2 (fun e4 => ?_) (fun e4 => ?_)
      · have hmem : wd ∈ (["cut", "spread", "sum", "size", "top", "least"] : List Str) := of_decide_eq_true (eI.symm.trans e4)
        refine ⟨_, rfl, _, rfl, _, rfl, rfl, b, L, _, _, pts, ts, rfl, B1.new m6, F2, fok, fun p i y H2 hy B2 k2 np hp => ?_⟩
        refine ⟨p, i, y, rfl, hp, ?_, B2, (But.refl.new m6).trans k2⟩
        rcases hy with hy | ⟨hy, hw⟩
        · exact .inl hy
        · refine .inr ⟨hy, ?_⟩
          have hn : ¬ wd = "cut" := fun z => by
            subst z
            exact absurd hw (by decide +kernel)
          simp only [List.mem_cons, List.not_mem_nil, or_false] at hmem
          unfold sides
          simp only [List.mem_cons, List.not_mem_nil, or_false]
          rcases hmem with z | z | z | z | z | z
          · exact absurd z hn
          · exact .inl z
          · exact .inr (.inl z)
          · exact .inr (.inr (.inl z))
          · exact .inr (.inr (.inr (.inl z)))
          · exact .inr (.inr (.inr (.inr z)))
      · refine ⟨_, rfl, _, rfl, b, L, _, rfl, B1.new m6, by omega, by omega, fun i H2 _ _ B2 k2 => ?_⟩
        refine ⟨_, rfl, _, rfl, b, L, _, rfl, B2, by omega, by omega, fun j H3 _ _ B3 k3 => ⟨(by show 2 ≤ sizeLine; decide), fun p m => ?_⟩⟩
        exact ⟨p, i, .int j, rfl, upd_same, .inl ⟨j, rfl⟩, B3.new m, (((But.refl.new m6).trans k2).trans k3).new m⟩
    · rintro σ2 H2 ⟨p5, i, y, rfl, hp5, hy, B2, k2⟩
      have p5b : p5 ≠ b := by
        obtain ⟨ns', n', g1, _⟩ := B2.ex
        exact ne_of hp5 g1 (by intro z; cases z)
      -- add, spread, reach
      refine ⟨_, rfl, (by show 3 ≤ sizeLine; decide), fun p6 m6 => ⟨p6, _, rfl, .inr (SqT.of upd_same), rfl, flat_strs ["add", "spread", "reach"], _, rfl, ?_⟩⟩
      have eI : inV (.str wd) [V.str "add", V.str "spread", V.str "reach"] = decide (wd ∈ (["add", "spread", "reach"] : List Str)) := inV_str wd ["add", "spread", "reach"]
      have s6 := same_new (H := H2) (o := .tup [V.str "add", V.str "spread", V.str "reach"]) m6
      have B6 := B2.same s6
      have k6 := k2.same s6
      have hp6 := s6 _ _ hp5
      refine ite2 (fun e4 => ?_) (fun e4 => ?_)
      · have hmem := of_decide_eq_true (eI.symm.trans e4)
        refine ⟨_, rfl, (by show 1 ≤ sizeLine; decide), fun p7 m7 => ⟨_, rfl, p7, p5, _, _, rfl, rfl, SqT.of upd_same, SqT.of (same_new m7 _ _ hp6), (fun z => nomatch z), (by show 3 ≤ sizeLine; decide), (fun z => nomatch z), fun _ p8 m8 => ?_⟩⟩
        refine ⟨_, rfl, b, L, rfl, (B6.new m7).new m8, fun x9 H9 _ B9 k9 => ⟨(by show 1 ≤ sizeLine; decide), fun p10 m10 => ?_⟩⟩
        have h8 := k9 _ _ (upd_same (H := upd (upd H2 p6 (.tup [V.str "add", V.str "spread", V.str "reach"])) p7 (.tup [V.str wd])) (a := p8) (o := .tup ([V.str wd] ++ [V.int i, y]))) ((B6.new m7).ne m8)
        refine ⟨p8, p10, _, _, rfl, rfl, SqT.of (same_new m10 _ _ h8), SqT.of upd_same, (fun z => nomatch z), (by show 4 ≤ sizeLine; decide), (fun z => nomatch z), fun _ p11 m11 => ?_⟩
        exact fin _ _ _ (mem_add hmem hy) (B9.new m10) ((((k6.new m7).new m8).trans k9).new m10) m11
      have n4 : ¬ wd ∈ (["add", "spread", "reach"] : List Str) := fun z => e4 (eI.trans (decide_eq_true z))
      -- first, least
      refine ⟨_, rfl, (by show 2 ≤ sizeLine; decide), fun p7 m7 => ⟨p7, _, rfl, .inr (SqT.of upd_same), rfl, flat_strs ["first", "least"], _, rfl, ?_⟩⟩
      have eJ : inV (.str wd) [V.str "first", V.str "least"] = decide (wd ∈ (["first", "least"] : List Str)) := inV_str wd ["first", "least"]
      have s7 := same_new (o := .tup [V.str "first", V.str "least"]) m7
      have B7 := B6.same s7
      have k7 := k6.same s7
      have hp7 := s7 _ _ hp6
      refine ite2 (fun e5 => ?_) (fun e5 => ?_)
      · have hmem := of_decide_eq_true (eJ.symm.trans e5)
        refine ⟨_, rfl, (by show 1 ≤ sizeLine; decide), fun p8 m8 => ⟨_, rfl, p8, p5, _, _, rfl, rfl, SqT.of upd_same, SqT.of (same_new m8 _ _ hp7), (fun z => nomatch z), (by show 3 ≤ sizeLine; decide), (fun z => nomatch z), fun _ p9 m9 => ?_⟩⟩
        refine ⟨_, rfl, b, L, rfl, (B7.new m8).new m9, fun pp j k H9 hpk B9 k9 mm hpp => ⟨pp, _, _, _, rfl, rfl, SqT.of hpp, atI_nat (j := 1) rfl, (by show 1 ≤ sizeLine; decide), fun p10 m10 => ?_⟩⟩
        have h9 := k9 p9 (.tup ([V.str wd] ++ [V.int i, y])) upd_same ((B7.new m8).ne m9)
        refine ⟨p9, p10, _, _, rfl, rfl, SqT.of (same_new m10 _ _ h9), SqT.of upd_same, (fun z => nomatch z), (by show 4 ≤ sizeLine; decide), (fun z => nomatch z), fun _ p11 m11 => ?_⟩
        exact fin _ _ _ (mem_first hpk.2.2 hmem hy) (B9.new m10) ((((k7.new m8).new m9).trans k9).new m10) m11
      have n5 : ¬ wd ∈ (["first", "least"] : List Str) := fun z => e5 (eJ.trans (decide_eq_true z))
      -- kth
      refine ⟨_, rfl, rfl, _, rfl, ite2 (fun e6 => ?_) (fun e6 => ?_)⟩
      · have e : wd = "kth" := V.str.inj (of_decide_eq_true e6)
        refine ⟨_, rfl, (by show 1 ≤ sizeLine; decide), fun p8 m8 => ⟨_, rfl, p8, p5, _, _, rfl, rfl, SqT.of upd_same, SqT.of (same_new m8 _ _ hp7), (fun z => nomatch z), (by show 3 ≤ sizeLine; decide), (fun z => nomatch z), fun _ p9 m9 => ?_⟩⟩
        refine ⟨_, rfl, b, L, rfl, (B7.new m8).new m9, fun x9 H9 _ B9 k9 => ⟨_, rfl, _, _, rfl, rfl, _, _, rfl, rfl, (by show (0 : Int) < (xs.length : Int) + 1; omega), (by show 1 ≤ sizeLine; decide), fun p10 m10 => ?_⟩⟩
        have h9 := k9 p9 (.tup ([V.str wd] ++ [V.int i, y])) upd_same ((B7.new m8).ne m9)
        refine ⟨p9, p10, _, _, rfl, rfl, SqT.of (same_new m10 _ _ h9), SqT.of upd_same, (fun z => nomatch z), (by show 4 ≤ sizeLine; decide), (fun z => nomatch z), fun _ p11 m11 => ?_⟩
        refine fin _ _ _ ?_ (B9.new m10) ((((k7.new m8).new m9).trans k9).new m10) m11
        rw [e]
        rw [e] at hy
        exact .mk [.pt, .pt, .plc] (by decide +kernel) (.cons (fi i) (.cons (hy.toPt (by decide +kernel)) (.cons ⟨_, rfl, Int.emod_nonneg _ (by omega)⟩ .nil)))
      have n6 : ¬ wd = "kth" := fun z => e6 (decide_eq_true (congrArg V.str z))
      -- the rest
      refine ⟨_, rfl, (by show 1 ≤ sizeLine; decide), fun p8 m8 => ⟨_, rfl, p8, p5, _, _, rfl, rfl, SqT.of upd_same, SqT.of (same_new m8 _ _ hp7), (fun z => nomatch z), (by show 3 ≤ sizeLine; decide), (fun z => nomatch z), fun _ p9 m9 => ?_⟩⟩
      refine ⟨_, rfl, rfl, _, rfl, ite2 (fun e7 => ?_) (fun e7 => ?_)⟩
      · have e : wd = "meet" := V.str.inj (of_decide_eq_true e7)
        refine ⟨_, rfl, _, rfl, b, L, _, rfl, (B7.new m8).new m9, by omega, by omega, fun x9 H9 _ _ B9 k9 => ⟨(by show 1 ≤ sizeLine; decide), fun p10 m10 => ?_⟩⟩
        have h9 := k9 p9 (.tup ([V.str wd] ++ [V.int i, y])) upd_same ((B7.new m8).ne m9)
        refine ⟨p9, p10, _, _, rfl, rfl, SqT.of (same_new m10 _ _ h9), SqT.of upd_same, (fun z => nomatch z), (by show 4 ≤ sizeLine; decide), (fun z => nomatch z), fun _ p11 m11 => ?_⟩
        refine fin _ _ _ ?_ (B9.new m10) ((((k7.new m8).new m9).trans k9).new m10) m11
        rw [e]
        rw [e] at hy
        exact .mk [.pt, .pt, .pt] (by decide +kernel) (.cons (fi i) (.cons (hy.toPt (by decide +kernel)) (.cons (fi x9) .nil)))
      · have n7 : ¬ wd = "meet" := fun z => e7 (decide_eq_true (congrArg V.str z))
        refine ⟨Nat.zero_le _, fun p10 m10 => ?_⟩
        refine ⟨p9, p10, _, _, rfl, rfl, SqT.of (same_new m10 _ _ upd_same), SqT.of upd_same, (fun z => nomatch z), (by show 3 ≤ sizeLine; decide), fun _ => ?_, (fun z => absurd rfl z)⟩
        have nn := B7.new (o := .tup [V.str wd]) m8
        refine q p9 wd _ _ hwd (mem_rest hev n1 n2 n3 n4 n5 n6 n7 hy) ((nn.new m9).new m10) (k1.trans (((k7.new m8).new m9).new m10)) (nn.back (k1.trans (k7.new m8)) m9) (same_new m10 _ _ upd_same)
end

/-! ### _law_same of truths -/
def spSame : Sp := fun vs H Q _ => ∃ (x y : Bool), vs = [.bl x, .bl y] ∧ ∀ H', Same H H' → Q (.bl (decide (x = y))) H'
section
variable {P : Program} {w : World} {K : PySem.W.Frag} {mg : Str → Option Value} {base : Heap}
theorem ok_same (T : Top w K mg) : FnOk P w K mg base CX0 1 T.a_Lsame T.d_Lsame ["_law_found", "_law_due"] spSame := by
  refine T.F_Lsame.ok sc_Lsame (fun vs H Q E h => ?_) (fun cdv A outer s H vs Q E hr h => ?_)
  · obtain ⟨x, y, rfl, _⟩ := h
    rfl
  · obtain ⟨x, y, rfl, q⟩ := h
    refine ⟨_, (pss_cons (ps_if (pt_val (pe_callB call_isi (by rfl) T.m_isinstance (by decide +kernel) (pa_cons (pv 1) (pa_cons (pe_bltn (v := .ty "tuple") (by rfl) T.m_tuple (by decide +kernel) rfl) pa_nil)))) (pss_cons ps_never
      (pss_one ps_never)) pss_nil)
      (pss_cons (ps_if (pt_cmpR op_isN (pv 1) pe_non (nomark _)) (pss_one ps_never) pss_nil)
      (pss_cons (ps_if (PW.pt (pw_or (pt_cmpR op_ne (pe_callB call_isi (by rfl) T.m_isinstance (by decide +kernel) (pa_cons (pv 0) (pa_cons (pe_bltn (v := .ty "bool") (by rfl) T.m_bool (by decide +kernel) rfl) pa_nil))) (pe_callB call_isi (by rfl) T.m_isinstance (by decide +kernel) (pa_cons (pv 1) (pa_cons (pe_bltn (v := .ty "bool") (by rfl) T.m_bool (by decide +kernel) rfl) pa_nil))) (nomark _)) (pw_or1 (pt_cmpR op_ne (pe_callB call_isi (by rfl) T.m_isinstance (by decide +kernel) (pa_cons (pv 0) (pa_cons (pe_bltn (v := .ty "str") (by rfl) T.m_str (by decide +kernel) rfl) pa_nil))) (pe_callB call_isi (by rfl) T.m_isinstance (by decide +kernel) (pa_cons (pv 1) (pa_cons (pe_bltn (v := .ty "str") (by rfl) T.m_str (by decide +kernel) rfl) pa_nil))) (nomark _))))) (pss_one ps_never) pss_nil)
      (pss_one (ps_ret (pe_and (pe_callB call_isiT (by rfl) T.m_isinstance (by decide +kernel) (pa_cons (pv 0) (pa_cons (pe_tup (pa_cons (pe_bltn (v := .ty "int") (by rfl) T.m_int (by decide +kernel) rfl) (pa_cons (pe_bltn (v := .ty "str") (by rfl) T.m_str (by decide +kernel) rfl) pa_nil))) pa_nil))) (pe_one (pe_cmpR op_eq (pv 0) (pv 1) (nomark _))))))))), ?_⟩
    refine ⟨_, rfl, _, _, _, _, false, rfl, ClsV.ty _, .base (.bl _), kit_ty (by decide +kernel), _, rfl, iteF ?_⟩
    refine ⟨_, rfl, rfl, _, rfl, ?_⟩
    refine ite2 (fun e => absurd e (by simp)) (fun _ => ?_)
    refine ⟨_, rfl, _, _, _, _, true, rfl, ClsV.ty _, .base (.bl _), kit_ty (by decide +kernel), _, rfl, _, _, _, _, true, rfl, ClsV.ty _, .base (.bl _), kit_ty (by decide +kernel), rfl, _, rfl, iteNS rfl ?_⟩
    refine ⟨_, rfl, _, _, _, _, false, rfl, ClsV.ty _, .base (.bl _), kit_ty (by decide +kernel), _, rfl, _, _, _, _, false, rfl, ClsV.ty _, .base (.bl _), kit_ty (by decide +kernel), rfl, _, rfl, iteNS rfl ?_⟩
    refine ⟨_, rfl, (by show 2 ≤ sizeLine; decide), fun t nt => ⟨_, t, _, _, _, true, rfl, upd_same, .cons (ClsV.ty _) (.cons (ClsV.ty _) .nil), .base (.bl _), kitAny_cons (kit_ty (b := "int") (r := true) (by decide +kernel)) (fun z => nomatch z) (fun _ => rfl), true, rfl, iteT ?_⟩⟩
    refine ⟨_, rfl, _, rfl, rfl, ?_⟩
    have e : decide (V.bl x = V.bl y) = decide (x = y) := by
      by_cases z : x = y
      · rw [decide_eq_true z, decide_eq_true (congrArg V.bl z)]
      · rw [decide_eq_false z, decide_eq_false fun t => z (V.bl.inj t)]
    rw [e]
    exact q _ (same_new nt)
end

section
variable {P : Program} {w : World} {K : PySem.W.Frag} {mg : Str → Option Value} {base : Heap}
def spWhole : Sp := fun vs H Q _ => ∃ v, vs = [v] ∧ AnyV H v ∧ Q (.bl (wholeB v)) H
def spKind : Sp := fun vs H Q _ => ∃ v, vs = [v] ∧ AnyV H v ∧ Q (.bl (kindB v)) H
def spFits : Sp := fun vs H Q _ => ∃ v sl, vs = [v, .str (slT sl)] ∧ AnyV H v ∧ Q (.bl (fitB sl v)) H
theorem ok_whole (T : Top w K mg) : FnOk P w K mg base CX0 1 T.a_iswhole T.d_iswhole ["thing"] spWhole := by
  refine T.F_iswhole.ok sc_iswhole (fun vs H Q E h => ?_) (fun cdv A outer s H vs Q E hr h => ?_)
  · obtain ⟨v, rfl, _⟩ := h
    rfl
  · obtain ⟨v, rfl, hv, q⟩ := h
    refine ⟨_, (pss_one (ps_ret (pe_and (pe_callB call_isi (by rfl) T.m_isinstance (by decide +kernel) (pa_cons (pv 0) (pa_cons (pe_bltn (v := .ty "int") (by rfl) T.m_int (by decide +kernel) rfl) pa_nil))) (pe_one (pe_not (pe_callB call_isi (by rfl) T.m_isinstance (by decide +kernel) (pa_cons (pv 0) (pa_cons (pe_bltn (v := .ty "bool") (by rfl) T.m_bool (by decide +kernel) rfl) pa_nil)))))))), ?_⟩
    obtain ⟨t, ty, kt⟩ := int_ok (K := K) hv
    refine ⟨_, rfl, _, _, _, _, _, rfl, ClsV.ty _, ty, kt, _, rfl, ?_⟩
    obtain ⟨t2, ty2, kt2⟩ := bool_ok (K := K) hv
    have fin : isIntV v = true → ∀ b, b = isBoolV v → Q (.bl (!b)) H := fun e b eb => by
      have z : (!b) = wholeB v := by
        subst eb
        cases v <;> first | rfl | exact nomatch e
      rw [z]
      exact q
    refine ite2 (fun e => ?_) (fun e => ?_)
    · exact ⟨_, rfl, _, _, _, _, _, rfl, ClsV.ty _, ty2, kt2, _, rfl, fin e _ rfl⟩
    · have z : wholeB v = false := by
        cases v <;> first | rfl | exact absurd rfl e
      rw [z] at q
      exact q
theorem ok_kind (T : Top w K mg) : FnOk P w K mg base CX0 1 T.a_iskind T.d_iskind ["thing"] spKind := by
  refine T.F_iskind.ok sc_iskind (fun vs H Q E h => ?_) (fun cdv A outer s H vs Q E hr h => ?_)
  · obtain ⟨v, rfl, _⟩ := h
    rfl
  · obtain ⟨v, rfl, hv, q⟩ := h
    refine ⟨_, (pss_one (ps_ret (pe_and (pe_callB call_isi (by rfl) T.m_isinstance (by decide +kernel) (pa_cons (pv 0) (pa_cons (pe_bltn (v := .ty "str") (by rfl) T.m_str (by decide +kernel) rfl) pa_nil))) (pe_one (pe_cmpR op_in_seq (pv 0) (pe_glob (v := .ref T.aK) (by rfl) T.v_KINDS rfl) (by rfl)))))), ?_⟩
    obtain ⟨t, ty, kt⟩ := str_ok (K := K) hv
    refine ⟨_, rfl, _, _, _, _, _, rfl, ClsV.ty _, ty, kt, _, rfl, ite2 (fun e => ?_) (fun e => ?_)⟩
    · cases v with
      | str z =>
        refine ⟨_, rfl, T.aK, _, rfl, .inr (tupB_ok T.tK H), rfl, flat_strs kinds, ?_⟩
        rw [inV_str]
        exact q
      | _ => exact nomatch e
    · have z : kindB v = false := by
        cases v <;> first | rfl | exact absurd rfl e
      rw [z] at q
      exact q
theorem ok_fits (T : Top w K mg) : FnOk P w K mg base CX0 2 T.a_fits T.d_fits ["part", "wanted"] spFits := by
  have G_iskind : FnOk P w K mg base CX0 1 _ _ _ _ := ok_kind T
  have G_iswhole : FnOk P w K mg base CX0 1 _ _ _ _ := ok_whole T
  refine T.F_fits.ok sc_fits (fun vs H Q E h => ?_) (fun cdv A outer s H vs Q E hr h => ?_)
  · obtain ⟨v, sl, rfl, _⟩ := h
    rfl
  · obtain ⟨v, sl, rfl, hv, q⟩ := h
    refine ⟨_, (pss_cons (ps_if (pt_cmpR op_eq (pv 1) pe_str (nomark _)) (pss_one (ps_ret (pe_call G_iskind hr (by rfl) T.g_iskind T.F_iskind.kp T.b_iskind .nil pass0 (pa_cons (pv 0) pa_nil)))) pss_nil)
      (pss_cons (ps_if (PW.pt (pw_and (pt_cmpR op_eq (pv 1) pe_str (nomark _)) (pw_and1 (pt_cmpR op_isN (pv 0) pe_non (nomark _))))) (pss_one (ps_ret pe_bl)) pss_nil)
      (pss_cons (ps_if (pt_cmpR op_eq (pv 1) pe_str (nomark _)) (pss_one (ps_ret (pe_and (pe_call G_iswhole hr (by rfl) T.g_iswhole T.F_iswhole.kp T.b_iswhole .nil pass0 (pa_cons (pv 0) pa_nil)) (pe_one (pe_cmpR op_ge (pv 0) pe_int (nomark _)))))) pss_nil)
      (pss_one (ps_ret (pe_call G_iswhole hr (by rfl) T.g_iswhole T.F_iswhole.kp T.b_iswhole .nil pass0 (pa_cons (pv 0) pa_nil))))))), ?_⟩
    have wh : ∀ Q1 : VK, Q1 (.bl (wholeB v)) H → spWhole [v] H Q1 (fun _ _ _ => False) := fun Q1 z => ⟨v, rfl, hv, z⟩
    -- kind
    refine ⟨_, rfl, rfl, _, rfl, ite2 (fun e => ?_) (fun e1 => ?_)⟩
    · have es : slT sl = "kind" := V.str.inj (of_decide_eq_true e)
      have el : sl = .knd := by
        cases sl <;> first | rfl | exact absurd es (by decide +kernel)
      subst el
      exact ⟨_, rfl, v, rfl, hv, q⟩
    have n1 : sl ≠ .knd := fun z => e1 (by subst z; decide +kernel)
    -- other
    refine ⟨_, rfl, rfl, _, rfl, ite2 (fun e => ?_) (fun e2 => ?_)⟩
    · have es : slT sl = "other" := V.str.inj (of_decide_eq_true e)
      have el : sl = .oth := by
        cases sl <;> first | rfl | exact absurd es (by decide +kernel)
      subst el
      refine ⟨_, rfl, rfl, _, rfl, ite2 (fun e3 => ?_) (fun e3 => ?_)⟩
      · have ev : v = .non := of_decide_eq_true e3
        have z : fitB .oth v = true := by
          rw [ev]
          rfl
        rw [z] at q
        exact q
      · have z : fitB .oth v = wholeB v := by
          show (decide (v = .non) || wholeB v) = wholeB v
          rw [Bool.eq_false_iff.mpr e3, Bool.false_or]
        rw [z] at q
        refine ⟨_, rfl, rfl, _, rfl, ite2 (fun e => absurd (V.str.inj (of_decide_eq_true e)) (by decide +kernel)) (fun _ => ?_)⟩
        exact ⟨_, rfl, v, rfl, hv, q⟩
    have n2 : sl ≠ .oth := fun z => e2 (by subst z; decide +kernel)
    refine iteF ?_
    -- place
    refine ⟨_, rfl, rfl, _, rfl, ite2 (fun e => ?_) (fun e3 => ?_)⟩
    · have es : slT sl = "place" := V.str.inj (of_decide_eq_true e)
      have el : sl = .plc := by
        cases sl <;> first | rfl | exact absurd es (by decide +kernel)
      subst el
      refine ⟨_, rfl, v, rfl, hv, _, rfl, ite2 (fun e4 => ?_) (fun e4 => ?_)⟩
      · cases v with
        | int i => exact ⟨_, rfl, _, _, rfl, rfl, q⟩
        | _ => exact nomatch e4
      · have z : fitB .plc v = false := by
          cases v <;> first | rfl | exact absurd rfl e4
        rw [z] at q
        exact q
    have n3 : sl ≠ .plc := fun z => e3 (by subst z; decide +kernel)
    have z : fitB sl v = wholeB v := by
      cases sl <;> first | rfl | exact absurd rfl n1 | exact absurd rfl n2 | exact absurd rfl n3
    rw [z] at q
    exact ⟨_, rfl, v, rfl, hv, q⟩
theorem tabg_same {H H' : Hp} {P : Addr} (s : Same H H') (g : GxR.TabG H P) : GxR.TabG H' P := by
  obtain ⟨ps, h, t⟩ := g
  exact ⟨ps, s _ _ h, t⟩
def spIsRow (P : Addr) : Sp := fun vs H Q _ => ∃ (a : Addr) (xs : List V) (b : Bool), vs = [.ref a] ∧ GxR.TabG H P ∧ xs.length ≤ 1000 ∧ ((H a = some (.tup xs) ∧ (∀ x ∈ xs, AnyV H x) ∧ b = rowB xs) ∨ (H a = some (.lst xs) ∧ b = false)) ∧
  ∀ H', Kp H H' → GxR.TabG H' P → Q (.bl b) H'
theorem ok_isrow (T : Top w K mg) (TB : GxR.TabB base mg T.cR T.PR) : FnOk P w K mg base CX0 4 T.a_isrow T.d_isrow ["thing"] (spIsRow T.PR) := by
  have G_fits : FnOk P w K mg base CX0 2 _ _ _ _ := ok_fits T
  have D : KDict K w T.aF T.esF T.nF := ⟨T.lF, T.kF, T.oF⟩
  refine okC T.F_isrow T.hcR sc_isrow (fun vs H Q E h => ?_) (fun A outer s H vs Q E hr h => ?_)
  · obtain ⟨a, xs, b, rfl, _⟩ := h
    rfl
  · obtain ⟨a, xs, b, rfl, tg, hlen, hx, q⟩ := h
    refine ⟨_, (pss_cons (ps_if (PW.pt (pw_or (pt_not (pt_val (pe_callB call_isi (by rfl) T.m_isinstance (by decide +kernel) (pa_cons (pv 0) (pa_cons (pe_bltn (v := .ty "tuple") (by rfl) T.m_tuple (by decide +kernel) rfl) pa_nil))))) (pw_or (pt_cmpR op_eq (pe_callB call_len_seq (by rfl) T.m_len PySem.boot_len (pa_cons (pv 0) pa_nil)) pe_int (nomark _)) (pw_or1 (pt_not (pt_val (pe_callB call_isi (by rfl) T.m_isinstance (by decide +kernel) (pa_cons (pe_ix ix_tup (pv 0) pe_int (fun _ _ => rfl)) (pa_cons (pe_bltn (v := .ty "str") (by rfl) T.m_str (by decide +kernel) rfl) pa_nil))))))))) (pss_one (ps_ret pe_bl)) pss_nil)
      (pss_cons (ps_if (pt_cmpR (op_notIn_kd D) (pe_ix ix_tup (pv 0) pe_int (fun _ _ => rfl)) (pe_glob (v := .ref T.aF) (by rfl) T.v_FORMS rfl) (by rfl)) (pss_one (ps_ret pe_bl)) pss_nil)
      (pss_cons (ps_set (i := 1) sc_isrow.nd rfl (.inl rfl) (pe_ix ix_kdict (pe_glob (v := .ref T.aF) (by rfl) T.v_FORMS rfl) (pe_ix ix_tup (pv 0) pe_int (fun _ _ => rfl)) (fun _ _ => rfl)))
      (pss_cons (ps_set (i := 2) sc_isrow.nd rfl (.inl rfl) (pe_slice sl_tup (pv 0) (po_some pe_int) po_none))
      (pss_one (ps_ret (pe_and (pe_cmpR op_eq (pe_callB call_len_seq (by rfl) T.m_len PySem.boot_len (pa_cons (pv 2) pa_nil)) (pe_callB call_len_seq (by rfl) T.m_len PySem.boot_len (pa_cons (pv 1) pa_nil)) (nomark _)) (pe_one (pe_allG (own := [("part", 3), ("wanted", 4)]) hr rfl sc_isrow.nd (by rfl) T.m_all (by decide +kernel) TB rfl (blkOk_by (own := [("part", 3), ("wanted", 4)]) (N := ["thing", "form", "parts", "part", "wanted"]) (sc := defScope s_isrow) (by decide +kernel)) (by rfl) (by decide +kernel) (by rfl) (RZ.pi_zipA (by rfl) T.m_zip (pa_cons (pv 2) (pa_cons (pv 1) pa_nil))) (fun _ _ _ _ _ _ _ => (pg_tupK (K := K) (n := 2) rfl rfl (pgs_cons (pg_name (i := 3) sc_isrow.nd rfl (.inl rfl) (hf := Or.inr rfl)) (pgs_cons (pg_name (i := 4) sc_isrow.nd rfl (.inl rfl) (hf := Or.inr rfl)) pgs_nil)) rfl)) (fun _ _ _ _ _ _ _ hr' => (pe_call G_fits hr' (by rfl) T.g_fits T.F_fits.kp T.b_fits .nil pass0 (pa_cons (pv 3) (pa_cons (pv 4) pa_nil))))))))))))), ?_⟩
    rcases hx with ⟨ha, hany, rfl⟩ | ⟨ha, rfl⟩
    · refine ⟨_, rfl, _, _, _, _, true, rfl, ClsV.ty _, .base (.tup ha), kit_ty (by decide +kernel), _, rfl, iteF ?_⟩
      have no : rowB xs = false → Q (.bl false) H := fun z => by
        rw [z] at q
        exact q H (Kp.refl H) tg
      cases xs with
      | nil =>
        refine ⟨_, rfl, a, _, rfl, .inr (SqT.of ha), rfl, _, rfl, iteT ?_⟩
        exact iteT (no rfl)
      | cons x ps =>
        refine ⟨_, rfl, a, _, rfl, .inr (SqT.of ha), rfl, _, rfl, ?_⟩
        refine ite2 (fun e => ?_) (fun _ => ?_)
        · have z : ((x :: ps).length : Int) = 0 := V.int.inj (of_decide_eq_true e)
          rw [List.length_cons] at z
          omega
        · obtain ⟨t, ty, kt⟩ := str_ok (K := K) (hany x List.mem_cons_self)
          refine ⟨_, rfl, a, _, _, _, rfl, rfl, SqT.of ha, atI_nat (j := 0) rfl, _, _, _, _, _, rfl, ClsV.ty _, ty, kt, _, rfl, ?_⟩
          cases x with
          | str z =>
            refine iteF ?_
            have ns := formB_get T.lF T.fF z
            rw [formsT_lookup] at ns
            cases ef : forms.lookup z with
            | none =>
              rw [ef] at ns
              refine ⟨_, rfl, a, _, _, _, rfl, rfl, SqT.of ha, atI_nat (j := 0) rfl, z, none, rfl, rfl, ns, _, rfl, iteT ?_⟩
              refine no ?_
              show (match forms.lookup z with | some sl => fitsB sl ps | none => false) = false
              rw [ef]
            | some sl =>
              rw [ef] at ns
              obtain ⟨fa, hns, htb⟩ := ns
              have hform : SqT K H fa ((sl.map slT).map V.str) := tupB_ok htb H
              refine ⟨_, rfl, a, _, _, _, rfl, rfl, SqT.of ha, atI_nat (j := 0) rfl, z, some (.ref fa), rfl, rfl, hns, _, rfl, iteF ?_⟩
              refine ⟨_, rfl, a, _, _, _, rfl, rfl, SqT.of ha, atI_nat (j := 0) rfl, T.aF, z, .ref fa, rfl, rfl, ⟨T.esF, T.nF, _, T.lF, T.kF, hns, rfl⟩, ?_⟩
              refine ⟨_, rfl, 1, rfl, a, _, rfl, SqT.of ha, ?_, fun pp np => ?_⟩
              · rintro ⟨z1, _⟩
                have e1 : HT.sIx (V.str z :: ps).length 0 (some 1) = 1 := by
                  rw [show (1 : Int) = ((1 : Nat) : Int) from rfl, HT.sIx_nat, List.length_cons]
                  omega
                rw [e1] at z1
                exact nomatch z1
              · have ec : cutV (V.str z :: ps) (some 1) none = ps := cut_tail _ _
                have s1 : Same H (upd H pp (.tup (cutV (V.str z :: ps) (some 1) none))) := same_new np
                rw [ec] at s1 ⊢
                have hp1 : upd H pp (.tup ps) pp = some (.tup ps) := upd_same
                generalize upd H pp (.tup ps) = H1 at s1 hp1 ⊢
                have hform1 : SqT K H1 fa ((sl.map slT).map V.str) := tupB_ok htb H1
                have tg1 : GxR.TabG H1 T.PR := (tabg_same s1 tg)
                have rb : rowB (.str z :: ps) = fitsB sl ps := by
                  show (match forms.lookup z with | some sl => fitsB sl ps | none => false) = _
                  rw [ef]
                refine ⟨_, rfl, pp, _, rfl, .inr (SqT.of hp1), _, rfl, fa, _, rfl, .inr hform1, rfl, _, rfl, ite2 (fun e => ?_) (fun e => ?_)⟩
                · have el : ps.length = sl.length := by
                    have z1 := V.int.inj (of_decide_eq_true e)
                    rw [List.length_map, List.length_map] at z1
                    omega
                  refine ⟨_, rfl, _, rfl, pp, fa, _, _, rfl, .inr ⟨SqT.of hp1, hform1, tg1, fun H2 tb => ?_⟩⟩
                  have k2 : Kp H H2 := (Kp.of_same s1).trans (Kp.of_tab tg1 tb)
                  refine gturns_zipT (by rw [List.length_map, List.length_map]; exact el) (fun i H' => Kp H H' ∧ H' pp = some (.tup ps) ∧ GxR.TabG H' T.PR ∧ fitsB sl ps = fitsB (sl.drop i) (ps.drop i)) ⟨k2, Kp.of_tab tg1 tb _ _ hp1 (by intro ps z; cases z), tb.1, rfl⟩ (fun i H' h => ⟨SqT.of h.2.1, tupB_ok htb H'⟩) (fun i x y t H' N hx hy h ht k => ?_) (fun H' h => ?_)
                  · obtain ⟨k0, hp0, tg0, e0⟩ := h
                    rw [List.map_map, List.getElem?_map] at hy
                    obtain ⟨si, hsi, rfl⟩ := Option.map_eq_some_iff.mp hy
                    have st : Same H' (upd H' t (.tup [x, .str (slT si)])) := same_new ht
                    have ht1 : upd H' t (.tup [x, .str (slT si)]) t = some (.tup [x, .str (slT si)]) := upd_same
                    have es : sl.drop i = si :: sl.drop (i + 1) := drop_at hsi
                    have ep : ps.drop i = x :: ps.drop (i + 1) := drop_at hx
                    have ef2 : fitsB sl ps = (fitB si x && fitsB (sl.drop (i + 1)) (ps.drop (i + 1))) := by
                      rw [e0, es, ep]
                      rfl
                    have ax : AnyV (upd H' t (.tup [x, .str (slT si)])) x := (hany x (List.mem_cons_of_mem _ (List.mem_of_getElem? hx))).kp (k0.trans (Kp.of_same st))
                    refine ⟨t, _, rfl, SqT.of ht1, rfl, _, _, rfl, _, _, rfl, rfl, rfl, _, rfl, _, rfl, x, si, rfl, ax, _, rfl, ite2 (fun eb => ?_) (fun eb => ?_)⟩
                    · refine k _ ⟨k0.trans (Kp.of_same st), st _ _ hp0, tabg_same st tg0, ?_⟩
                      rw [ef2, eb, Bool.true_and]
                    · have z1 : rowB (.str z :: ps) = false := by
                        rw [rb, ef2, Bool.eq_false_iff.mpr eb, Bool.false_and]
                      rw [z1] at q
                      exact q _ (k0.trans (Kp.of_same st)) (tabg_same st tg0)
                  · obtain ⟨k0, hp0, tg0, e0⟩ := h
                    have z1 : rowB (.str z :: ps) = true := by
                      rw [rb, e0, List.drop_of_length_le (Nat.le_refl _), List.drop_of_length_le (by omega)]
                      rfl
                    rw [z1] at q
                    exact q _ k0 tg0
                · have z1 : rowB (.str z :: ps) = false := by
                    rw [rb]
                    refine fits_len fun z1 => e ?_
                    rw [List.length_map, List.length_map, z1]
                    exact decide_eq_true rfl
                  rw [z1] at q
                  exact q _ (Kp.of_same s1) tg1
          | _ => exact iteT (no rfl)
    · refine ⟨_, rfl, _, _, _, _, false, rfl, ClsV.ty _, .base (.lst ha), kit_ty (by decide +kernel), _, rfl, iteT ?_⟩
      refine iteT ?_
      exact q H (Kp.refl H) tg
end

/-! ### the law's own is_row -/
def sgN : Sl → Nat
  | .pt => 112
  | .oth => 113
  | .num => 119
  | .plc => 110
  | .knd => 107
def sgS (sl : List Sl) : Str := ⟨(sl.map sgN).toArray⟩
def own1 : List (Key × V) := [(.inr "new", .str "wk"), (.inr "put", .str "pw"), (.inr "paint", .str "pk"), (.inr "tie", .str "pp"), (.inr "cut", .str "pp"), (.inr "add", .str "ppw"), (.inr "spread", .str "pqw")]
def own2 : List (Key × V) := [(.inr "joined", .str "pp"), (.inr "way", .str "pp"), (.inr "total", .str "pp"), (.inr "many", .str "pp"), (.inr "most", .str "pp"), (.inr "first", .str "ppk")]
def own3 : List (Key × V) := [(.inr "reach", .str "ppw"), (.inr "kth", .str "ppn"), (.inr "meet", .str "ppp"), (.inr "sum", .str "pq"), (.inr "size", .str "pq"), (.inr "top", .str "pq")]
def ownK : List (Key × V) := forms.map fun f => (.inr f.1, .str (sgS f.2))
theorem own_all : putK (mergeK (mergeK (mergeK [] own1) (mergeK [] own2)) (mergeK [] own3)) (.inr "least") (.str "pqk") = ownK := by decide +kernel
theorem ownK_val (z : Str) : valV ownK (.inr z) = (forms.lookup z).map fun sl => V.str (sgS sl) := by
  have g : ∀ l : List (Str × List Sl), valV (l.map fun f => ((.inr f.1 : Key), V.str (sgS f.2))) (.inr z) = (l.lookup z).map fun sl => V.str (sgS sl) := by
    intro l
    induction l with
    | nil => rfl
    | cons f r ih =>
      obtain ⟨a, b⟩ := f
      rw [List.map_cons, List.lookup_cons]
      by_cases e : z = a
      · subst e
        rw [valV_pos rfl, beq_self_eq_true]
        rfl
      · rw [valV_neg (fun h => e (Sum.inr.inj h).symm), ih, beq_eq_false_iff_ne.mpr e]
  exact g forms
theorem same_at {H H1 : Hp} {d : Addr} {o : HO} (s : Same H H1) (n : H d = none) : Same H (upd H1 d o) := fun b u z => by
  rw [upd_ne (ne_of_none z n)]
  exact s b u z
theorem sgN_k {si : Sl} (h : V.str ⟨#[sgN si]⟩ = V.str "k") : si = .knd := by
  cases si <;> first | rfl | exact absurd h (by decide +kernel)
theorem sgN_q {si : Sl} (h : V.str ⟨#[sgN si]⟩ = V.str "q") : si = .oth := by
  cases si <;> first | rfl | exact absurd h (by decide +kernel)
theorem sgN_n {si : Sl} (h : V.str ⟨#[sgN si]⟩ = V.str "n") : si = .plc := by
  cases si <;> first | rfl | exact absurd h (by decide +kernel)
theorem forms_len {z : Str} {sl : List Sl} (h : forms.lookup z = some sl) : sl.length ≤ 3 := by
  have g : ∀ l : List (Str × List Sl), (∀ f ∈ l, f.2.length ≤ 3) → l.lookup z = some sl → sl.length ≤ 3 := by
    intro l
    induction l with
    | nil => intro _ h; exact nomatch h
    | cons f r ih =>
      intro k h
      obtain ⟨a, b⟩ := f
      rw [List.lookup_cons] at h
      cases e : z == a with
      | true =>
        rw [e] at h
        cases h
        exact k _ List.mem_cons_self
      | false =>
        rw [e] at h
        exact ih (fun f hf => k f (List.mem_cons_of_mem _ hf)) h
  exact g forms (by decide +kernel) h
theorem not_yes {b : Bool} (h : (!b) = true) : b = false := by
  cases b
  · rfl
  · exact nomatch h
theorem not_no {b : Bool} (h : ¬ (!b) = true) : b = true := by
  cases b
  · exact absurd rfl h
  · rfl
theorem sgs_kinds : sgs "abcdefgh" = kinds.map V.str := by decide +kernel
section
variable {P : Program} {w : World} {K : PySem.W.Frag} {mg : Str → Option Value} {base : Heap}
/-- a tuple of anything, or a list -/
def ThingAt (H : Hp) (v : V) : Prop := ∃ (a : Addr) (xs : List V), v = .ref a ∧ xs.length ≤ 1000 ∧ ((H a = some (.tup xs) ∧ ∀ x ∈ xs, AnyV H x) ∨ H a = some (.lst xs))
def spOwn : Sp := fun vs H Q _ => ∃ (a : Addr) (xs : List V) (b : Bool), vs = [.ref a] ∧ xs.length ≤ 1000 ∧ ((H a = some (.tup xs) ∧ (∀ x ∈ xs, AnyV H x) ∧ b = rowB xs) ∨ (H a = some (.lst xs) ∧ b = false)) ∧ ∀ H', Same H H' → Q (.bl b) H'
theorem ok_own (T : Top w K mg) : FnOk P w K mg base CX0 1 T.a_Lisrow T.d_Lisrow ["_law_thing"] spOwn := by
  refine T.F_Lisrow.ok sc_Lisrow (fun vs H Q E h => ?_) (fun cdv A outer s H vs Q E hr h => ?_)
  · obtain ⟨a, xs, b, rfl, _⟩ := h
    rfl
  · obtain ⟨a, xs, b, rfl, hlen, hx, q⟩ := h
    refine ⟨_, (pss_cons (ps_set (i := 1) sc_Lisrow.nd rfl (.inl rfl) (pe_disp (pps_cons pe_str pe_str (pps_cons pe_str pe_str (pps_cons pe_str pe_str (pps_cons pe_str pe_str (pps_cons pe_str pe_str (pps_cons pe_str pe_str (pps_cons pe_str pe_str pps_nil))))))) (by rfl) (by rfl) (fun z => by cases z) (by decide)))
      (pss_cons (ps_expr (pe_dupd (pv 1) (pe_disp (pps_cons pe_str pe_str (pps_cons pe_str pe_str (pps_cons pe_str pe_str (pps_cons pe_str pe_str (pps_cons pe_str pe_str (pps_cons pe_str pe_str pps_nil)))))) (by rfl) (by rfl) (fun z => by cases z) (by decide)) ⟨by rfl, by rfl, by rfl, by rfl⟩))
      (pss_cons (ps_expr (pe_dupd (pv 1) (pe_disp (pps_cons pe_str pe_str (pps_cons pe_str pe_str (pps_cons pe_str pe_str (pps_cons pe_str pe_str (pps_cons pe_str pe_str (pps_cons pe_str pe_str pps_nil)))))) (by rfl) (by rfl) (fun z => by cases z) (by decide)) ⟨by rfl, by rfl, by rfl, by rfl⟩))
      (pss_cons (ps_dput (u1 hr) (pv 1) pe_str pe_str rfl)
      (pss_cons (ps_if (PW.pt (pw_or (pt_not (pt_val (pe_callB call_isi (by rfl) T.m_isinstance (by decide +kernel) (pa_cons (pv 0) (pa_cons (pe_bltn (v := .ty "tuple") (by rfl) T.m_tuple (by decide +kernel) rfl) pa_nil))))) (pw_or (pt_cmpR (op_eq0 (u0 hr)) (pv 0) (pe_tup pa_nil) (nomark _)) (pw_or1 (pt_not (pt_val (pe_callB call_isi (by rfl) T.m_isinstance (by decide +kernel) (pa_cons (pe_ix ix_tup (pv 0) pe_int (fun _ _ => rfl)) (pa_cons (pe_bltn (v := .ty "str") (by rfl) T.m_str (by decide +kernel) rfl) pa_nil))))))))) (pss_one (ps_ret pe_bl)) pss_nil)
      (pss_cons (ps_set (i := 2) sc_Lisrow.nd rfl (.inl rfl) (pe_dget1 (u1 hr) (pv 1) (pe_ix ix_tup (pv 0) pe_int (fun _ _ => rfl)) ⟨by rfl, by rfl, by rfl, by rfl⟩))
      (pss_cons (ps_if (PW.pt (pw_or (pt_cmpR op_isN (pv 2) pe_non (nomark _)) (pw_or1 (pt_cmpR op_ne (pe_callB call_len_seq (by rfl) T.m_len PySem.boot_len (pa_cons (pv 0) pa_nil)) (pe_op op_add (pe_callB call_len_str (by rfl) T.m_len PySem.boot_len (pa_cons (pv 2) pa_nil)) pe_int) (nomark _))))) (pss_one (ps_ret pe_bl)) pss_nil)
      (pss_cons (ps_for PassesOwn.never rfl (pi_zipS (by rfl) T.m_zip (pa_cons (pv 2) (pa_cons (pe_slice sl_tup (pv 0) (po_some pe_int) po_none) pa_nil))) (pg_tup rfl (pgs_cons (pg_name (i := 3) sc_Lisrow.nd rfl (.inl rfl)) (pgs_cons (pg_name (i := 4) sc_Lisrow.nd rfl (.inl rfl)) pgs_nil))) (pss_cons (ps_if (pt_cmpR op_eq (pv 3) pe_str (nomark _)) (pss_one (ps_set (i := 5) sc_Lisrow.nd rfl (.inl rfl) (pe_and (pe_callB call_isi (by rfl) T.m_isinstance (by decide +kernel) (pa_cons (pv 4) (pa_cons (pe_bltn (v := .ty "str") (by rfl) T.m_str (by decide +kernel) rfl) pa_nil))) (pe_one (pe_cmpR op_in_seq (pv 4) (pe_callTy (call_list_txt rfl) (by rfl) T.m_list (by decide +kernel) (pa_cons pe_str pa_nil)) (by rfl)))))) (pss_one (ps_if (PW.pt (pw_and (pt_cmpR op_eq (pv 3) pe_str (nomark _)) (pw_and1 (pt_cmpR op_isN (pv 4) pe_non (nomark _))))) (pss_one (ps_set (i := 5) sc_Lisrow.nd rfl (.inl rfl) pe_bl)) (pss_one (ps_set (i := 5) sc_Lisrow.nd rfl (.inl rfl) (pe_and (pe_callB call_isi (by rfl) T.m_isinstance (by decide +kernel) (pa_cons (pv 4) (pa_cons (pe_bltn (v := .ty "int") (by rfl) T.m_int (by decide +kernel) rfl) pa_nil))) (pe_and (pe_not (pe_callB call_isi (by rfl) T.m_isinstance (by decide +kernel) (pa_cons (pv 4) (pa_cons (pe_bltn (v := .ty "bool") (by rfl) T.m_bool (by decide +kernel) rfl) pa_nil)))) (pe_one (pe_or (pe_cmpR op_ne (pv 3) pe_str (nomark _)) (pe_one (pe_cmpR op_ge (pv 4) pe_int (nomark _))))))))))))
      (pss_one (ps_if (pt_not (pt_val (pv 5))) (pss_one (ps_ret pe_bl)) pss_nil))))
      (pss_one (ps_ret pe_bl)))))))))), ?_⟩
    refine fun d nd => ⟨upd_same, own1, rfl, by decide, ?_⟩
    rw [upd_upd]
    have s1 : Same H (upd H d (.dK (mergeK [] own1))) := same_new nd
    have h1 : upd H d (.dK (mergeK [] own1)) d = some (.dK (mergeK [] own1)) := upd_same
    generalize upd H d (.dK (mergeK [] own1)) = H1 at s1 h1 ⊢
    refine ⟨_, rfl, d, rfl, .inl ⟨_, .inl h1⟩, fun e2 ne2 => ⟨upd_same, own2, rfl, by decide, e2, mergeK [] own1, mergeK [] own2, rfl, ?_, upd_same, ne_of_none h1 ne2, (by decide +kernel), ?_⟩⟩
    · rw [upd_upd, upd_ne (ne_of_none h1 ne2)]
      exact h1
    rw [upd_upd]
    have s2 : Same H (upd (upd H1 e2 (.dK (mergeK [] own2))) d (.dK (mergeK (mergeK [] own1) (mergeK [] own2)))) := same_at (s1.trans (same_new ne2)) nd
    have h2 : upd (upd H1 e2 (.dK (mergeK [] own2))) d (.dK (mergeK (mergeK [] own1) (mergeK [] own2))) d = some (.dK (mergeK (mergeK [] own1) (mergeK [] own2))) := upd_same
    generalize upd (upd H1 e2 (.dK (mergeK [] own2))) d (.dK (mergeK (mergeK [] own1) (mergeK [] own2))) = H2 at s2 h2 ⊢
    refine ⟨_, rfl, d, rfl, .inl ⟨_, .inl h2⟩, fun e3 ne3 => ⟨upd_same, own3, rfl, by decide, e3, mergeK (mergeK [] own1) (mergeK [] own2), mergeK [] own3, rfl, ?_, upd_same, ne_of_none h2 ne3, (by decide +kernel), ?_⟩⟩
    · rw [upd_upd, upd_ne (ne_of_none h2 ne3)]
      exact h2
    rw [upd_upd]
    have s3 : Same H (upd (upd H2 e3 (.dK (mergeK [] own3))) d (.dK (mergeK (mergeK (mergeK [] own1) (mergeK [] own2)) (mergeK [] own3)))) := same_at (s2.trans (same_new ne3)) nd
    have h3 : upd (upd H2 e3 (.dK (mergeK [] own3))) d (.dK (mergeK (mergeK (mergeK [] own1) (mergeK [] own2)) (mergeK [] own3))) d = some (.dK (mergeK (mergeK (mergeK [] own1) (mergeK [] own2)) (mergeK [] own3))) := upd_same
    generalize upd (upd H2 e3 (.dK (mergeK [] own3))) d (.dK (mergeK (mergeK (mergeK [] own1) (mergeK [] own2)) (mergeK [] own3))) = H3 at s3 h3 ⊢
    refine ⟨_, rfl, d, _, rfl, DPut.k (k := .inr "least") h3 (by decide +kernel), ?_⟩
    rw [own_all]
    have s4 : Same H (upd H3 d (.dK ownK)) := same_at s3 nd
    have h4 : upd H3 d (.dK ownK) d = some (.dK ownK) := upd_same
    generalize upd H3 d (.dK ownK) = H4 at s4 h4 ⊢
    rcases hx with ⟨ha0, hany, rfl⟩ | ⟨ha0, rfl⟩
    · have ha := s4 _ _ ha0
      have no : rowB xs = false → ∀ H', Same H H' → Q (.bl false) H' := fun z => by
        rw [z] at q
        exact q
      refine ⟨_, rfl, _, _, _, _, true, rfl, ClsV.ty _, .base (.tup ha), kit_ty (by decide +kernel), _, rfl, iteF ?_⟩
      refine ⟨_, rfl, (by show 0 ≤ sizeLine; decide), fun p0 n0 => ⟨a, p0, xs, rfl, rfl, SqT.of (same_new n0 _ _ ha), SqT.of upd_same, _, rfl, ?_⟩⟩
      have s5 : Same H (upd H4 p0 (.tup [])) := s4.trans (same_new n0)
      have h5 : upd H4 p0 (.tup []) d = some (.dK ownK) := same_new n0 _ _ h4
      have ha5 : upd H4 p0 (.tup []) a = some (.tup xs) := same_new n0 _ _ ha
      generalize upd H4 p0 (.tup []) = H5 at s5 h5 ha5 ⊢
      cases xs with
      | nil => exact iteT (iteT (no rfl _ s5))
      | cons x ps =>
        refine iteF ?_
        obtain ⟨t, ty, kt⟩ := str_ok (K := K) ((hany x List.mem_cons_self).kp (Kp.of_same s5))
        refine ⟨_, rfl, a, _, _, _, rfl, rfl, SqT.of ha5, atI_nat (j := 0) rfl, _, _, _, _, _, rfl, ClsV.ty _, ty, kt, _, rfl, ?_⟩
        cases x with
        | str z =>
          refine iteF ?_
          refine ⟨_, rfl, d, rfl, .inl ⟨_, .inl h5⟩, _, rfl, a, _, _, _, rfl, rfl, SqT.of ha5, atI_nat (j := 0) rfl, _, DGet.k (k := .inr z) h5, ?_⟩
          rw [ownK_val]
          cases ef : forms.lookup z with
          | none =>
            refine ⟨_, rfl, rfl, _, rfl, iteT ?_⟩
            refine no ?_ _ s5
            show (match forms.lookup z with | some sl => fitsB sl ps | none => false) = false
            rw [ef]
          | some sl =>
            have rb : rowB (.str z :: ps) = fitsB sl ps := by
              show (match forms.lookup z with | some sl => fitsB sl ps | none => false) = _
              rw [ef]
            have el2 : (sgS sl).length = sl.length := by
              show (sl.map sgN).toArray.size = sl.length
              rw [List.size_toArray, List.length_map]
            have hsl : sl.length ≤ 3 := forms_len ef
            refine ⟨_, rfl, rfl, _, rfl, iteF ?_⟩
            refine ⟨_, rfl, a, _, rfl, .inr (SqT.of ha5), _, rfl, _, rfl, (by rw [el2]; exact sz (by omega)), _, _, rfl, rfl, rfl, _, rfl, ite2 (fun e => ?_) (fun e => ?_)⟩
            · refine no ?_ _ s5
              rw [rb]
              refine fits_len fun z1 => ?_
              rw [el2, List.length_cons, z1] at e
              have e1 : decide (V.int ((sl.length + 1 : Nat) : Int) = V.int ((sl.length : Int) + 1)) = true := decide_eq_true rfl
              simp only [e1] at e
              exact nomatch e
            · have el : ps.length = sl.length := by
                have z1 : V.int (((V.str z :: ps).length : Nat) : Int) = V.int (((sgS sl).length : Int) + 1) := Decidable.byContradiction fun n => e (by rw [decide_eq_false n]; rfl)
                have z2 := V.int.inj z1
                rw [el2, List.length_cons] at z2
                omega
              refine ⟨_, rfl, _, rfl, 1, rfl, a, _, rfl, SqT.of ha5, ?_, fun pp np => ?_⟩
              · rintro ⟨z1, _⟩
                have e1 : HT.sIx (V.str z :: ps).length 0 (some 1) = 1 := by
                  rw [show (1 : Int) = ((1 : Nat) : Int) from rfl, HT.sIx_nat, List.length_cons]
                  omega
                rw [e1] at z1
                exact nomatch z1
              · rw [cut_tail]
                refine ⟨sgS sl, pp, ps, rfl, SqT.of upd_same, ?_⟩
                refine for_zipS (by rw [el, ← el2]; rfl) (fun i σ H' => (∃ y3 y4 y5 : Option V, σ = [some (.ref a), some (.ref d), some (.str (sgS sl)), y3, y4, y5]) ∧ Same H H' ∧ H' pp = some (.tup ps) ∧ fitsB sl ps = fitsB (sl.drop i) (ps.drop i)) ⟨⟨none, none, none, rfl⟩, s5.trans (same_new np), upd_same, rfl⟩ (fun i σ H' h => SqT.of h.2.2.1) ?_ ?_
                · rintro i c y t σ H' hc hy ⟨⟨y3, y4, y5, rfl⟩, s6, hp6, e6⟩ nt
                  have hsi : ∃ si, sl[i]? = some si ∧ sgN si = c := by
                    have z1 : (sl.map sgN).toArray[i]? = some c := hc
                    rw [List.getElem?_toArray, List.getElem?_map] at z1
                    obtain ⟨si, h1, h2⟩ := Option.map_eq_some_iff.mp z1
                    exact ⟨si, h1, h2⟩
                  obtain ⟨si, hsi, rfl⟩ := hsi
                  have st : Same H' (upd H' t (.tup [.str ⟨#[sgN si]⟩, y])) := same_new nt
                  have ht : upd H' t (.tup [.str ⟨#[sgN si]⟩, y]) t = some (.tup [.str ⟨#[sgN si]⟩, y]) := upd_same
                  generalize upd H' t (.tup [.str ⟨#[sgN si]⟩, y]) = H7 at st ht ⊢
                  have s7 := s6.trans st
                  have hp7 := st _ _ hp6
                  have es : sl.drop i = si :: sl.drop (i + 1) := drop_at hsi
                  have ep : ps.drop i = y :: ps.drop (i + 1) := drop_at hy
                  have ef2 : fitsB sl ps = (fitB si y && fitsB (sl.drop (i + 1)) (ps.drop (i + 1))) := by
                    rw [e6, es, ep]
                    rfl
                  have ay : ∀ H8, Same H H8 → AnyV H8 y := fun H8 s8 => (hany y (List.mem_cons_of_mem _ (List.mem_of_getElem? hy))).kp (Kp.of_same s8)
                  refine ⟨t, _, rfl, SqT.of ht, rfl, _, _, rfl, _, _, rfl, rfl, ?_⟩
                  have hyes : fitB si y = true → fitsB sl ps = fitsB (sl.drop (i + 1)) (ps.drop (i + 1)) := fun z1 => by rw [ef2, z1, Bool.true_and]
                  have hno : fitB si y = false → rowB (.str z :: ps) = false := fun z1 => by rw [rb, ef2, z1, Bool.false_and]
                  obtain ⟨t2, ty2, kt2⟩ := str_ok (K := K) (ay _ s7)
                  obtain ⟨t3, ty3, kt3⟩ := int_ok (K := K) (ay _ s7)
                  obtain ⟨t4, ty4, kt4⟩ := bool_ok (K := K) (ay _ s7)
                  refine ⟨_, rfl, rfl, _, rfl, ite2 (fun e1 => ?_) (fun e1 => ?_)⟩
                  · have ek : si = .knd := sgN_k (of_decide_eq_true e1)
                    subst ek
                    refine ⟨_, rfl, _, _, _, _, _, rfl, ClsV.ty _, ty2, kt2, _, rfl, ite2 (fun e3 => ?_) (fun e3 => ?_)⟩
                    · cases y with
                      | str k =>
                        refine ⟨_, rfl, "abcdefgh", rfl, (by decide +kernel), fun l nl => ⟨l, _, rfl, .inl (SqL.of upd_same), rfl, (by rw [sgs_kinds]; exact flat_strs kinds), ?_⟩⟩
                        have eb : fitB .knd (.str k) = inV (.str k) (sgs "abcdefgh") := by
                          rw [sgs_kinds, inV_str]
                          rfl
                        refine ⟨_, rfl, _, rfl, ite2 (fun e6 => no (hno (Eq.trans eb (not_yes e6))) _ (s7.trans (same_new nl))) (fun e6 => ⟨⟨_, _, _, rfl⟩, (s7.trans (same_new nl)), (same_new nl _ _ hp7), hyes (Eq.trans eb (not_no e6))⟩)⟩
                      | _ => exact nomatch e3
                    · have eb : fitB .knd y = false := by
                        cases y <;> first | rfl | exact absurd rfl e3
                      refine ⟨_, rfl, _, rfl, ite2 (fun e6 => no (hno (Eq.trans eb (not_yes e6))) _ s7) (fun e6 => ⟨⟨_, _, _, rfl⟩, s7, hp7, hyes (Eq.trans eb (not_no e6))⟩)⟩
                  · have n1 : si ≠ .knd := fun z1 => by
                      subst z1
                      exact e1 (by decide +kernel)
                    refine ⟨_, rfl, rfl, _, rfl, ite2 (fun e2 => ?_) (fun e2 => ?_)⟩
                    · have eo : si = .oth := sgN_q (of_decide_eq_true e2)
                      refine ⟨_, rfl, rfl, _, rfl, ite2 (fun e7 => ?_) (fun e7 => ?_)⟩
                      · have ey : y = .non := of_decide_eq_true e7
                        have eb : fitB si y = true := by
                          rw [eo, ey]
                          rfl
                        refine ⟨_, rfl, _, rfl, ite2 (fun e6 => no (hno (Eq.trans eb (not_yes e6))) _ s7) (fun e6 => ⟨⟨_, _, _, rfl⟩, s7, hp7, hyes (Eq.trans eb (not_no e6))⟩)⟩
                      · have n5 : ¬ (si = .oth ∧ y = .non) := fun z1 => e7 (decide_eq_true z1.2)
                        refine ⟨_, rfl, _, _, _, _, _, rfl, ClsV.ty _, ty3, kt3, _, rfl, ite2 (fun e3 => ?_) (fun e3 => ?_)⟩
                        · refine ⟨_, rfl, _, _, _, _, _, rfl, ClsV.ty _, ty4, kt4, _, rfl, _, rfl, ite2 (fun e4 => ?_) (fun e4 => ?_)⟩
                          · cases y with
                            | int i0 =>
                              refine ⟨_, rfl, rfl, _, rfl, ite2 (fun e5 => ?_) (fun e5 => ?_)⟩
                              · have np2 : si ≠ .plc := fun z1 => by
                                  subst z1
                                  exact absurd e5 (by decide +kernel)
                                have eb : fitB si (.int i0) = true := by
                                  cases si <;> first | rfl | exact absurd rfl n1 | exact absurd rfl np2
                                refine ⟨_, rfl, _, rfl, ite2 (fun e6 => no (hno (Eq.trans eb (not_yes e6))) _ s7) (fun e6 => ⟨⟨_, _, _, rfl⟩, s7, hp7, hyes (Eq.trans eb (not_no e6))⟩)⟩
                              · have ep2 : si = .plc := sgN_n (Decidable.byContradiction fun n => e5 (by rw [decide_eq_false n]; rfl))
                                subst ep2
                                refine ⟨_, rfl, _, _, rfl, rfl, ?_⟩
                                refine ⟨_, rfl, _, rfl, ite2 (fun e6 => no (hno (Eq.trans (rfl : fitB .plc (.int i0) = decide (0 ≤ i0)) (not_yes e6))) _ s7) (fun e6 => ⟨⟨_, _, _, rfl⟩, s7, hp7, hyes (Eq.trans (rfl : fitB .plc (.int i0) = decide (0 ≤ i0)) (not_no e6))⟩)⟩
                            | _ => first | exact absurd e3 Bool.false_ne_true | exact absurd e4 Bool.false_ne_true
                          · have eb : fitB si y = false := by
                              cases y <;> first | exact absurd rfl e4 | exact absurd e3 Bool.false_ne_true | (cases si <;> first | rfl | exact absurd rfl n1)
                            refine ⟨_, rfl, _, rfl, ite2 (fun e6 => no (hno (Eq.trans eb (not_yes e6))) _ s7) (fun e6 => ⟨⟨_, _, _, rfl⟩, s7, hp7, hyes (Eq.trans eb (not_no e6))⟩)⟩
                        · have eb : fitB si y = false := by
                            cases y <;> first | exact absurd rfl e3 | (cases si <;> first | rfl | exact absurd rfl n1 | exact absurd ⟨rfl, rfl⟩ n5)
                          refine ⟨_, rfl, _, rfl, ite2 (fun e6 => no (hno (Eq.trans eb (not_yes e6))) _ s7) (fun e6 => ⟨⟨_, _, _, rfl⟩, s7, hp7, hyes (Eq.trans eb (not_no e6))⟩)⟩
                    · have n5 : ¬ (si = .oth ∧ y = .non) := fun z1 => e2 (by rw [z1.1]; decide +kernel)
                      refine iteF ?_
                      refine ⟨_, rfl, _, _, _, _, _, rfl, ClsV.ty _, ty3, kt3, _, rfl, ite2 (fun e3 => ?_) (fun e3 => ?_)⟩
                      · refine ⟨_, rfl, _, _, _, _, _, rfl, ClsV.ty _, ty4, kt4, _, rfl, _, rfl, ite2 (fun e4 => ?_) (fun e4 => ?_)⟩
                        · cases y with
                          | int i0 =>
                            refine ⟨_, rfl, rfl, _, rfl, ite2 (fun e5 => ?_) (fun e5 => ?_)⟩
                            · have np2 : si ≠ .plc := fun z1 => by
                                subst z1
                                exact absurd e5 (by decide +kernel)
                              have eb : fitB si (.int i0) = true := by
                                cases si <;> first | rfl | exact absurd rfl n1 | exact absurd rfl np2
                              refine ⟨_, rfl, _, rfl, ite2 (fun e6 => no (hno (Eq.trans eb (not_yes e6))) _ s7) (fun e6 => ⟨⟨_, _, _, rfl⟩, s7, hp7, hyes (Eq.trans eb (not_no e6))⟩)⟩
                            · have ep2 : si = .plc := sgN_n (Decidable.byContradiction fun n => e5 (by rw [decide_eq_false n]; rfl))
                              subst ep2
                              refine ⟨_, rfl, _, _, rfl, rfl, ?_⟩
                              refine ⟨_, rfl, _, rfl, ite2 (fun e6 => no (hno (Eq.trans (rfl : fitB .plc (.int i0) = decide (0 ≤ i0)) (not_yes e6))) _ s7) (fun e6 => ⟨⟨_, _, _, rfl⟩, s7, hp7, hyes (Eq.trans (rfl : fitB .plc (.int i0) = decide (0 ≤ i0)) (not_no e6))⟩)⟩
                          | _ => first | exact absurd e3 Bool.false_ne_true | exact absurd e4 Bool.false_ne_true
                        · have eb : fitB si y = false := by
                            cases y <;> first | exact absurd rfl e4 | exact absurd e3 Bool.false_ne_true | (cases si <;> first | rfl | exact absurd rfl n1)
                          refine ⟨_, rfl, _, rfl, ite2 (fun e6 => no (hno (Eq.trans eb (not_yes e6))) _ s7) (fun e6 => ⟨⟨_, _, _, rfl⟩, s7, hp7, hyes (Eq.trans eb (not_no e6))⟩)⟩
                      · have eb : fitB si y = false := by
                          cases y <;> first | exact absurd rfl e3 | (cases si <;> first | rfl | exact absurd rfl n1 | exact absurd ⟨rfl, rfl⟩ n5)
                        refine ⟨_, rfl, _, rfl, ite2 (fun e6 => no (hno (Eq.trans eb (not_yes e6))) _ s7) (fun e6 => ⟨⟨_, _, _, rfl⟩, s7, hp7, hyes (Eq.trans eb (not_no e6))⟩)⟩
                · rintro σ H' ⟨_, s6, _, e6⟩
                  have z1 : rowB (.str z :: ps) = true := by
                    rw [rb, e6, List.drop_of_length_le (Nat.le_refl _), List.drop_of_length_le (by omega)]
                    rfl
                  rw [z1] at q
                  exact q _ s6
        | _ => exact iteT (no rfl _ s5)
    · have ha := s4 _ _ ha0
      refine ⟨_, rfl, _, _, _, _, false, rfl, ClsV.ty _, .base (.lst ha), kit_ty (by decide +kernel), _, rfl, iteT ?_⟩
      refine iteT ?_
      exact q _ s4
theorem cut_mem {xs : List V} {lo hi : Option Int} {x : V} (h : x ∈ cutV xs lo hi) : x ∈ xs := by
  unfold cutV at h
  exact List.mem_of_mem_drop (List.mem_of_mem_take h)
theorem cut_whole {xs : List V} {lo hi : Option Int} (h : HT.sIx xs.length 0 lo = 0 ∧ HT.sIx xs.length xs.length hi = xs.length) : cutV xs lo hi = xs := by
  unfold cutV
  rw [h.1, h.2, List.drop_zero, Nat.sub_zero, List.take_of_length_le (Nat.le_refl _)]
theorem no_part {σ : L2.St} {H : Hp} {Q : Option Int → Hp → Prop} (h : Q none H) : tNoPart σ H Q := h
theorem sl_any {H : Hp} {a : Addr} {xs : List V} {lo hi : Option Int} {Q : VK} (h : H a = some (.tup xs)) (q : ∀ (p : Addr) (H' : Hp), Same H H' → H' p = some (.tup (cutV xs lo hi)) → Q (.ref p) H') : rSlA K (.ref a) lo hi H Q := by
  refine ⟨a, xs, rfl, SqT.of h, fun w => ?_, fun _ p np => q p _ (same_new np) upd_same⟩
  refine q a H (fun _ _ z => z) ?_
  rw [cut_whole w]
  exact h
theorem cat_any {H : Hp} {a b : Addr} {xs ys : List V} {Q : VK} (ha : H a = some (.tup xs)) (hb : H b = some (.tup ys)) (hz : xs.length + ys.length ≤ sizeLine) (q : ∀ (p : Addr) (H' : Hp), Same H H' → H' p = some (.tup (xs ++ ys)) → Q (.ref p) H') : rCatA K (.ref a) (.ref b) H Q := by
  refine ⟨a, b, xs, ys, rfl, rfl, SqT.of ha, SqT.of hb, hz, fun e => ?_, fun _ e => ?_, fun _ _ p np => q p _ (same_new np) upd_same⟩
  · refine q b H (fun _ _ z => z) ?_
    rw [e, List.nil_append]
    exact hb
  · refine q a H (fun _ _ z => z) ?_
    rw [e, List.append_nil]
    exact ha
theorem fit_any {H : Hp} : ∀ {sl : List Sl} {ps : List V}, FitAll sl ps → ps.length = sl.length ∧ fitsB sl ps = true ∧ ∀ x ∈ ps, AnyV H x
  | _, _, .nil => ⟨rfl, rfl, fun x h => nomatch h⟩
  | _, _, .cons (s := s) (v := v) (ss := ss) (vs := vs) f r => by
    obtain ⟨h1, h2, h3⟩ := fit_any (H := H) r
    have hv : fitB s v = true ∧ AnyV H v := by
      cases s with
      | pt => obtain ⟨i, rfl⟩ := f; exact ⟨rfl, .int i⟩
      | oth =>
        rcases f with rfl | ⟨i, rfl⟩
        · exact ⟨rfl, .non⟩
        · exact ⟨rfl, .int i⟩
      | num => obtain ⟨i, rfl⟩ := f; exact ⟨rfl, .int i⟩
      | plc => obtain ⟨i, rfl, h⟩ := f; exact ⟨decide_eq_true h, .int i⟩
      | knd => obtain ⟨k, rfl, h⟩ := f; exact ⟨decide_eq_true h, .str k⟩
    refine ⟨congrArg (· + 1) h1, ?_, fun x hx => ?_⟩
    · show (fitB s v && fitsB ss vs) = true
      rw [hv.1, h2]
      rfl
    · rcases List.mem_cons.mp hx with e | e
      · rw [e]
        exact hv.2
      · exact h3 x e
theorem forms_at {w : Str} {sl : List Sl} (h : (w, sl) ∈ forms) : forms.lookup w = some sl ∧ w.length ≤ 100 := by
  have g : ∀ f ∈ forms, forms.lookup f.1 = some f.2 ∧ f.1.length ≤ 100 := by decide +kernel
  exact g (w, sl) h
theorem row_facts {H : Hp} {w : Str} {us : List V} (h : RowV w us) : ∃ ps, us = .str w :: ps ∧ ps.length ≤ 3 ∧ w.length ≤ 100 ∧ rowB us = true ∧ ∀ x ∈ us, AnyV H x := by
  obtain ⟨sl, ps, rfl, hf, fa⟩ := h
  obtain ⟨h1, h2, h3⟩ := fit_any (H := H) fa
  obtain ⟨e1, e2⟩ := forms_at hf
  have e3 := forms_len e1
  refine ⟨ps, rfl, by omega, e2, ?_, fun x hx => ?_⟩
  · show (match forms.lookup w with | some sl => fitsB sl ps | none => false) = true
    rw [e1]
    exact h2
  · rcases List.mem_cons.mp hx with e | e
    · rw [e]
      exact .str w
    · exact h3 x e
def spSpoilt : Sp := fun vs H Q _ => ∃ (b L r : Addr) (w : Str) (us : List V), vs = [.ref b, .ref r] ∧ BoxAt H b L ∧ RowV w us ∧ H r = some (.tup us) ∧ ∀ (v : V) (H' : Hp), ThingAt H' v → BoxAt H' b L → But b H H' → Q v H'
theorem ok_spoilt (T : Top w K mg) : FnOk P w K mg base CX0 2 T.a_Lspoilt T.d_Lspoilt ["_law_box_here", "_law_row_here"] spSpoilt := by
  have G_Lnext : FnOk P w K mg base CX0 1 _ _ _ _ := ok_next T
  have G_Levery : FnOk P w K mg base CX0 1 _ _ _ _ := ok_every T
  refine T.F_Lspoilt.ok sc_Lspoilt (fun vs H Q E h => ?_) (fun cdv A outer s H vs Q E hr h => ?_)
  · obtain ⟨b, L, r, w, us, rfl, _⟩ := h
    rfl
  · obtain ⟨b, L, r, w, us, rfl, B, hrow, hr0, q⟩ := h
    refine ⟨_, (pss_cons (ps_set (i := 2) sc_Lspoilt.nd rfl (.inl rfl) (pe_call G_Lnext hr (by rfl) T.g_Lnext T.F_Lnext.kp T.b_Lnext .nil pass0 (pa_cons (pv 0) pa_nil)))
      (pss_cons (ps_set (i := 3) sc_Lspoilt.nd rfl (.inl rfl) (pe_op op_mod (pe_op op_fdivW (pv 2) pe_int) (pe_callB call_len_seq (by rfl) T.m_len PySem.boot_len (pa_cons (pv 1) pa_nil))))
      (pss_cons (ps_set (i := 4) sc_Lspoilt.nd rfl (.inl rfl) (pe_ix ix_list (pe_lst (pa_cons pe_non (pa_cons pe_bl (pa_cons pe_bl (pa_cons (pe_un un_neg pe_int) (pa_cons pe_int (pa_cons pe_int (pa_cons (pe_op op_pow pe_int pe_int) (pa_cons pe_str (pa_cons pe_str (pa_cons pe_str (pa_cons pe_str (pa_cons pe_str (pa_cons (pe_tup pa_nil) (pa_cons (pe_tup (pa_cons pe_int pa_nil)) (pa_cons (pe_lst (pa_cons pe_int pa_nil)) (pa_cons pe_dnewK pa_nil))))))))))))))))) (pe_op op_mod (pe_call G_Lnext hr (by rfl) T.g_Lnext T.F_Lnext.kp T.b_Lnext .nil pass0 (pa_cons (pv 0) pa_nil)) pe_int) (fun _ _ => rfl)))
      (pss_cons (ps_if (pt_cmpR op_lt (pe_op op_mod (pv 2) pe_int) pe_int (nomark _)) (pss_one (ps_ret (pe_op op_catA (pe_op op_catA (pe_slice sl_tupA (pv 1) po_none (po_some (pv 3))) (pe_tup (pa_cons (pv 4) pa_nil))) (pe_slice sl_tupA (pv 1) (po_some (pe_op op_add (pv 3) pe_int)) po_none)))) pss_nil)
      (pss_cons (ps_if (pt_cmpR op_eq (pe_op op_mod (pv 2) pe_int) pe_int (nomark _)) (pss_one (ps_ret (pe_op op_catA (pv 1) (pe_tup (pa_cons (pv 4) pa_nil))))) pss_nil)
      (pss_cons (ps_if (pt_cmpR op_eq (pe_op op_mod (pv 2) pe_int) pe_int (nomark _)) (pss_one (ps_ret (pe_op op_catA (pe_slice sl_tupA (pv 1) po_none (po_some (pv 3))) (pe_slice sl_tupA (pv 1) (po_some (pe_op op_add (pv 3) pe_int)) po_none)))) pss_nil)
      (pss_cons (ps_if (pt_cmpR op_eq (pe_op op_mod (pv 2) pe_int) pe_int (nomark _)) (pss_one (ps_ret (pe_op op_catA (pe_tup (pa_cons (pe_ix ix_list (pe_call0 G_Levery hr (by rfl) T.g_Levery T.F_Levery.kp T.b_Levery .nil pass0) (pe_op op_mod (pe_op op_fdivW (pv 2) pe_int) pe_int) (fun _ _ => rfl)) pa_nil)) (pe_slice sl_tupA (pv 1) (po_some pe_int) po_none)))) pss_nil)
      (pss_one (ps_ret (pe_ix ix_list (pe_lst (pa_cons (pe_callTy call_list_of (by rfl) T.m_list (by decide +kernel) (pa_cons (pv 1) pa_nil)) (pa_cons (pe_slice sl_tupA (pv 1) po_none (po_some pe_int)) (pa_cons (pe_tup (pa_cons (pv 1) pa_nil)) (pa_cons (pe_op op_catA (pe_tup (pa_cons (pe_upper (pe_ix ix_tup (pv 1) pe_int (fun _ _ => rfl))) pa_nil)) (pe_slice sl_tupA (pv 1) (po_some pe_int) po_none)) pa_nil))))) (pe_op op_mod (pe_op op_fdivW (pv 2) pe_int) pe_int) (fun _ _ => rfl))))))))))), ?_⟩
    have p8 : ∀ {i : Int}, CDivW i 8 := wide_ok (by decide) (by decide)
    refine ⟨_, rfl, b, L, rfl, B, fun x H1 hx B1 k1 => ?_⟩
    have nrb : r ≠ b := by
      obtain ⟨ns, n, hb, _⟩ := B.ex
      exact ne_of hr0 hb (by intro z; cases z)
    have hr1 := k1 _ _ hr0 nrb
    obtain ⟨ps, rfl, hps, hwl, hrow1, _⟩ := row_facts (H := H) hrow
    refine ⟨_, rfl, _, _, rfl, rfl, p8, _, rfl, r, _, rfl, .inr (SqT.of hr1), _, _, rfl, rfl, (by rw [List.length_cons]; omega), ?_⟩
    refine ⟨_, rfl, _, _, rfl, rfl, ⟨by decide, by decide, by decide⟩, (by show 0 ≤ sizeLine; decide), fun p1 n1 => ⟨(by show 1 ≤ sizeLine; decide), fun p2 n2 => ⟨(by show 1 ≤ sizeLine; decide), fun p3 n3 => fun p4 n4 => ⟨(by show 16 ≤ sizeLine; decide), fun pl nl => ?_⟩⟩⟩⟩
    have s1 : Same H1 (upd H1 p1 (.tup [])) := same_new n1
    have s2 : Same (upd H1 p1 (.tup [])) (upd (upd H1 p1 (.tup [])) p2 (.tup [V.int 1])) := same_new n2
    have s3 : Same (upd (upd H1 p1 (.tup [])) p2 (.tup [V.int 1])) (upd (upd (upd H1 p1 (.tup [])) p2 (.tup [V.int 1])) p3 (.lst [V.int 1])) := same_new n3
    have s4 : Same (upd (upd (upd H1 p1 (.tup [])) p2 (.tup [V.int 1])) p3 (.lst [V.int 1])) (upd (upd (upd (upd H1 p1 (.tup [])) p2 (.tup [V.int 1])) p3 (.lst [V.int 1])) p4 (.dK [])) := same_new n4
    have h1 : (upd H1 p1 (.tup [])) p1 = some (.tup []) := upd_same
    have h2 : (upd (upd H1 p1 (.tup [])) p2 (.tup [V.int 1])) p2 = some (.tup [V.int 1]) := upd_same
    have h3 : (upd (upd (upd H1 p1 (.tup [])) p2 (.tup [V.int 1])) p3 (.lst [V.int 1])) p3 = some (.lst [V.int 1]) := upd_same
    have h4 : (upd (upd (upd (upd H1 p1 (.tup [])) p2 (.tup [V.int 1])) p3 (.lst [V.int 1])) p4 (.dK [])) p4 = some (.dK []) := upd_same
    have h41 := s4 _ _ (s3 _ _ (s2 _ _ h1))
    have h42 := s4 _ _ (s3 _ _ h2)
    have h43 := s4 _ _ h3
    have sA := ((s1.trans s2).trans s3).trans s4
    generalize upd (upd (upd (upd H1 p1 (.tup [])) p2 (.tup [V.int 1])) p3 (.lst [V.int 1])) p4 (.dK []) = H2 at nl sA h41 h42 h43 h4 ⊢
    have s5 : Same H2 (upd H2 pl (.lst [V.non, V.bl true, V.bl false, V.int (-1), V.int 0, V.int 7, V.int (10 ^ (29 : Int).toNat), V.str "a", V.str "h", V.str "i", V.str "ab", V.str "", V.ref p1, V.ref p2, V.ref p3, V.ref p4])) := same_new nl
    have h5 : upd H2 pl (.lst [V.non, V.bl true, V.bl false, V.int (-1), V.int 0, V.int 7, V.int (10 ^ (29 : Int).toNat), V.str "a", V.str "h", V.str "i", V.str "ab", V.str "", V.ref p1, V.ref p2, V.ref p3, V.ref p4]) pl = some (.lst [V.non, V.bl true, V.bl false, V.int (-1), V.int 0, V.int 7, V.int (10 ^ (29 : Int).toNat), V.str "a", V.str "h", V.str "i", V.str "ab", V.str "", V.ref p1, V.ref p2, V.ref p3, V.ref p4]) := upd_same
    have B5 : BoxAt (upd H2 pl (.lst [V.non, V.bl true, V.bl false, V.int (-1), V.int 0, V.int 7, V.int (10 ^ (29 : Int).toNat), V.str "a", V.str "h", V.str "i", V.str "ab", V.str "", V.ref p1, V.ref p2, V.ref p3, V.ref p4])) b L := B1.same (sA.trans s5)
    have d1 : p1 ≠ b := B1.ne n1
    have d2 : p2 ≠ b := (B1.same s1).ne n2
    have d3 : p3 ≠ b := (B1.same (s1.trans s2)).ne n3
    have d4 : p4 ≠ b := (B1.same ((s1.trans s2).trans s3)).ne n4
    have d5 : pl ≠ b := (B1.same sA).ne nl
    refine ⟨_, rfl, b, L, rfl, B5, fun x2 H3 hx2 B3 k3 => ?_⟩
    have e1 : AnyV H3 (.ref p1) := .tup (k3 _ _ (s5 _ _ h41) d1)
    have e2 : AnyV H3 (.ref p2) := .tup (k3 _ _ (s5 _ _ h42) d2)
    have e3 : AnyV H3 (.ref p3) := .lst (k3 _ _ (s5 _ _ h43) d3)
    have e4 : AnyV H3 (.ref p4) := .dK (k3 _ _ (s5 _ _ h4) d4)
    have hr3 : H3 r = some (.tup (.str w :: ps)) := k3 _ _ (s5 _ _ (sA _ _ hr1)) nrb
    have kk : But b H H3 := (k1.same (sA.trans s5)).trans k3
    have c0 := Int.emod_nonneg x2 (show (16 : Int) ≠ 0 by decide)
    have c1 := Int.emod_lt_of_pos x2 (show (0 : Int) < 16 by decide)
    have pick : ∃ v : V, atI [V.non, V.bl true, V.bl false, V.int (-1), V.int 0, V.int 7, V.int (10 ^ (29 : Int).toNat), V.str "a", V.str "h", V.str "i", V.str "ab", V.str "", V.ref p1, V.ref p2, V.ref p3, V.ref p4] (x2 % 16) = some v ∧ AnyV H3 v := by
      generalize x2 % 16 = m at c0 c1
      have hc : m = 0 ∨ m = 1 ∨ m = 2 ∨ m = 3 ∨ m = 4 ∨ m = 5 ∨ m = 6 ∨ m = 7 ∨ m = 8 ∨ m = 9 ∨ m = 10 ∨ m = 11 ∨ m = 12 ∨ m = 13 ∨ m = 14 ∨ m = 15 := by omega
      rcases hc with rfl | rfl | rfl | rfl | rfl | rfl | rfl | rfl | rfl | rfl | rfl | rfl | rfl | rfl | rfl | rfl
      · exact ⟨_, rfl, .non⟩
      · exact ⟨_, rfl, .bl _⟩
      · exact ⟨_, rfl, .bl _⟩
      · exact ⟨_, rfl, .int _⟩
      · exact ⟨_, rfl, .int _⟩
      · exact ⟨_, rfl, .int _⟩
      · exact ⟨_, rfl, .int _⟩
      · exact ⟨_, rfl, .str _⟩
      · exact ⟨_, rfl, .str _⟩
      · exact ⟨_, rfl, .str _⟩
      · exact ⟨_, rfl, .str _⟩
      · exact ⟨_, rfl, .str _⟩
      · exact ⟨_, rfl, e1⟩
      · exact ⟨_, rfl, e2⟩
      · exact ⟨_, rfl, e3⟩
      · exact ⟨_, rfl, e4⟩
    obtain ⟨v, hv, av⟩ := pick
    refine ⟨_, _, rfl, rfl, (by show (0 : Int) < 16; decide), pl, _, _, _, rfl, rfl, SqL.of (k3 _ _ h5 d5), hv, ?_⟩
    obtain ⟨_, _, _, _, _, anyR⟩ := row_facts (H := H3) hrow
    have fin : ∀ (p : Addr) (xs : List V) (H' : Hp), Same H3 H' → H' p = some (.tup xs) → xs.length ≤ 1000 → (∀ y ∈ xs, AnyV H3 y) → Q (.ref p) H' := fun p xs H' sm hp hl ha =>
      q _ _ ⟨p, xs, rfl, hl, .inl ⟨hp, fun y hy => (ha y hy).kp (Kp.of_same sm)⟩⟩ (B3.same sm) (kk.same sm)
    have lcut : ∀ lo hi, (cutV (V.str w :: ps) lo hi).length ≤ 4 := fun lo hi => by
      have z := cutV_length (V.str w :: ps) lo hi
      rw [List.length_cons] at z
      omega
    have acut : ∀ lo hi, ∀ y ∈ cutV (V.str w :: ps) lo hi, AnyV H3 y := fun lo hi y hy => anyR y (cut_mem hy)
    have aone : ∀ u : V, AnyV H3 u → ∀ y ∈ [u], AnyV H3 y := fun u hu y hy => by
      rw [List.mem_singleton.mp hy]
      exact hu
    have acat : ∀ {xs ys : List V}, (∀ y ∈ xs, AnyV H3 y) → (∀ y ∈ ys, AnyV H3 y) → ∀ y ∈ xs ++ ys, AnyV H3 y := fun h1 h2 y hy => by
      rcases List.mem_append.mp hy with z | z
      · exact h1 y z
      · exact h2 y z
    have hd : ∀ i : Int, i = i := fun _ => rfl
    refine ⟨_, rfl, _, _, rfl, rfl, (by show (0 : Int) < 8; decide), _, _, rfl, rfl, _, rfl, ite2 (fun b1 => ?_) (fun b1 => ?_)⟩
    · refine ⟨_, rfl, _, rfl, _, rfl, ?_⟩
      refine sl_any hr3 fun q1 H4 t4 g4 => ?_
      refine ⟨_, rfl, (by show 1 ≤ sizeLine; decide), fun q2 m2 => ?_⟩
      refine cat_any (same_new m2 _ _ g4) upd_same (sz (by rw [List.length_singleton]; have := lcut none (some (x / 8 % ((V.str w :: ps).length : Int))); omega)) fun q3 H5 t5 g5 => ?_
      have t5' : Same H3 H5 := (t4.trans (same_new m2)).trans t5
      refine ⟨_, rfl, _, rfl, _, _, rfl, rfl, _, rfl, ?_⟩
      refine no_part (sl_any (t5' _ _ hr3) fun q4 H6 t6 g6 => ?_)
      refine cat_any (t6 _ _ g5) g6 (sz ?_) fun q5 H7 t7 g7 => ?_
      · have z1 := lcut none (some (x / 8 % ((V.str w :: ps).length : Int)))
        have z2 := lcut (some (x / 8 % ((V.str w :: ps).length : Int) + 1)) none
        rw [List.length_append, List.length_singleton]
        omega
      · refine fin q5 _ H7 ((t5'.trans t6).trans t7) g7 ?_ (acat (acat (acut _ _) (aone v av)) (acut _ _))
        have z1 := lcut none (some (x / 8 % ((V.str w :: ps).length : Int)))
        have z2 := lcut (some (x / 8 % ((V.str w :: ps).length : Int) + 1)) none
        rw [List.length_append, List.length_append, List.length_singleton]
        omega
    refine ⟨_, rfl, _, _, rfl, rfl, (by show (0 : Int) < 8; decide), rfl, _, rfl, ite2 (fun b2 => ?_) (fun b2 => ?_)⟩
    · refine ⟨_, rfl, _, rfl, (by show 1 ≤ sizeLine; decide), fun q2 m2 => ?_⟩
      refine cat_any (same_new m2 _ _ hr3) upd_same (sz (by rw [List.length_singleton, List.length_cons]; omega)) fun q3 H5 t5 g5 => ?_
      exact fin q3 _ H5 ((same_new m2).trans t5) g5 (by rw [List.length_append, List.length_singleton, List.length_cons]; omega) (acat anyR (aone v av))
    refine ⟨_, rfl, _, _, rfl, rfl, (by show (0 : Int) < 8; decide), rfl, _, rfl, ite2 (fun b3 => ?_) (fun b3 => ?_)⟩
    · refine ⟨_, rfl, _, rfl, _, rfl, ?_⟩
      refine sl_any hr3 fun q1 H4 t4 g4 => ?_
      refine ⟨_, rfl, _, rfl, _, _, rfl, rfl, _, rfl, ?_⟩
      refine no_part (sl_any (t4 _ _ hr3) fun q4 H6 t6 g6 => ?_)
      have z1 := lcut none (some (x / 8 % ((V.str w :: ps).length : Int)))
      have z2 := lcut (some (x / 8 % ((V.str w :: ps).length : Int) + 1)) none
      refine cat_any (t6 _ _ g4) g6 (sz (by omega)) fun q5 H7 t7 g7 => ?_
      exact fin q5 _ H7 ((t4.trans t6).trans t7) g7 (by rw [List.length_append]; omega) (acat (acut _ _) (acut _ _))
    refine ⟨_, rfl, _, _, rfl, rfl, (by show (0 : Int) < 8; decide), rfl, _, rfl, ite2 (fun b4 => ?_) (fun b4 => ?_)⟩
    · refine ⟨rfl, fun wl H4 t4 nwl hwl => ?_⟩
      have f0 := Int.emod_nonneg (x / 8) (show (20 : Int) ≠ 0 by decide)
      have f1 := Int.emod_lt_of_pos (x / 8) (show (0 : Int) < 20 by decide)
      obtain ⟨u, hu, mu⟩ := at_any (xs := evs.map V.str) f0 f1
      obtain ⟨u', _, rfl⟩ := List.mem_map.mp mu
      refine ⟨_, rfl, _, _, rfl, rfl, p8, _, _, rfl, rfl, (by show (0 : Int) < 20; decide), wl, _, _, _, rfl, rfl, SqL.of hwl, hu, (by show 1 ≤ sizeLine; decide), fun q2 m2 => ?_⟩
      refine ⟨_, rfl, _, rfl, ?_⟩
      refine no_part (sl_any (same_new m2 _ _ (t4 _ _ hr3)) fun q4 H6 t6 g6 => ?_)
      have z2 := lcut (some 1) none
      refine cat_any (t6 _ _ upd_same) g6 (sz (by rw [List.length_singleton]; omega)) fun q5 H7 t7 g7 => ?_
      exact fin q5 _ H7 (((t4.trans (same_new m2)).trans t6).trans t7) g7 (by rw [List.length_append, List.length_singleton]; omega) (acat (aone _ (.str _)) (acut _ _))
    · refine ⟨_, rfl, r, _, rfl, .inr (SqT.of hr3), fun l1 m1 => ?_⟩
      have t1 : Same H3 (upd H3 l1 (.lst (V.str w :: ps))) := same_new m1
      have g1 : upd H3 l1 (.lst (V.str w :: ps)) l1 = some (.lst (V.str w :: ps)) := upd_same
      generalize upd H3 l1 (.lst (V.str w :: ps)) = H4 at t1 g1 ⊢
      refine ⟨_, rfl, _, rfl, ?_⟩
      refine sl_any (t1 _ _ hr3) fun l2 H5 t2 g2 => ?_
      refine ⟨_, rfl, (by show 1 ≤ sizeLine; decide), fun l3 m3 => ?_⟩
      have t3 : Same H5 (upd H5 l3 (.tup [V.ref r])) := same_new m3
      have g3 : upd H5 l3 (.tup [V.ref r]) l3 = some (.tup [V.ref r]) := upd_same
      generalize upd H5 l3 (.tup [V.ref r]) = H6 at t3 g3 ⊢
      have tt3 := (t1.trans t2).trans t3
      refine ⟨_, rfl, r, _, _, _, rfl, rfl, SqT.of (tt3 _ _ hr3), atI_nat (j := 0) rfl, ⟨w, rfl⟩, w, rfl, rfl, (by omega), (by show 1 ≤ sizeLine; decide), fun l4 m4 => ?_⟩
      refine ⟨_, rfl, _, rfl, ?_⟩
      refine no_part (sl_any (same_new m4 _ _ (tt3 _ _ hr3)) fun l5 H7 t5 g5 => ?_)
      have z2 := lcut (some 1) none
      refine cat_any (t5 _ _ upd_same) g5 (sz (by rw [List.length_singleton]; omega)) fun l6 H8 t6 g6 => ?_
      have tt6 := (tt3.trans (same_new m4)).trans (t5.trans t6)
      refine ⟨(by show 4 ≤ sizeLine; decide), fun l7 m7 => ?_⟩
      have t7 : Same H8 (upd H8 l7 (.lst [V.ref l1, V.ref l2, V.ref l3, V.ref l6])) := same_new m7
      have g7 : upd H8 l7 (.lst [V.ref l1, V.ref l2, V.ref l3, V.ref l6]) l7 = some (.lst [V.ref l1, V.ref l2, V.ref l3, V.ref l6]) := upd_same
      have s48 := (t2.trans t3).trans ((same_new m4).trans (t5.trans t6))
      have s58 := t3.trans ((same_new m4).trans (t5.trans t6))
      have s68 := ((same_new m4).trans (t5.trans t6))
      have f0 := Int.emod_nonneg (x / 8) (show (4 : Int) ≠ 0 by decide)
      have f1 := Int.emod_lt_of_pos (x / 8) (show (0 : Int) < 4 by decide)
      have last : ∃ u : V, atI [V.ref l1, V.ref l2, V.ref l3, V.ref l6] (x / 8 % 4) = some u ∧ Q u (upd H8 l7 (.lst [V.ref l1, V.ref l2, V.ref l3, V.ref l6])) := by
        generalize x / 8 % 4 = m at f0 f1
        have hc : m = 0 ∨ m = 1 ∨ m = 2 ∨ m = 3 := by omega
        rcases hc with rfl | rfl | rfl | rfl
        · refine ⟨_, rfl, q _ _ ⟨l1, _, rfl, ?_, .inr (t7 _ _ (s48 _ _ g1))⟩ (B3.same (tt6.trans t7)) (kk.same (tt6.trans t7))⟩
          rw [List.length_cons]
          omega
        · exact ⟨_, rfl, fin l2 _ _ (tt6.trans t7) (t7 _ _ (s58 _ _ g2)) (by have := lcut none (some 1); omega) (acut _ _)⟩
        · exact ⟨_, rfl, fin l3 _ _ (tt6.trans t7) (t7 _ _ (s68 _ _ g3)) (by rw [List.length_singleton]; omega) (aone _ (.tup hr3))⟩
        · exact ⟨_, rfl, fin l6 _ _ (tt6.trans t7) (t7 _ _ g6) (by rw [List.length_append, List.length_singleton]; omega) (acat (aone _ (.str _)) (acut _ _))⟩
      obtain ⟨u, hu, qu⟩ := last
      exact ⟨_, rfl, _, _, rfl, rfl, p8, _, _, rfl, rfl, (by show (0 : Int) < 4; decide), l7, _, _, _, rfl, rfl, SqL.of g7, hu, qu⟩
end

/-! ### the law -/
theorem BoxAt.kp {H H' : Hp} {b L : Addr} (B : BoxAt H b L) (k : Kp H H') : BoxAt H' b L := by
  obtain ⟨ns, n, h1, h2, r⟩ := B.ex
  exact ⟨ns, n, k _ _ h1 (by intro ps z; cases z), k _ _ h2 (by intro ps z; cases z), r⟩
theorem tabg_but {H H' : Hp} {b L P : Addr} (B : BoxAt H b L) (k : But b H H') (g : GxR.TabG H P) : GxR.TabG H' P := by
  obtain ⟨ns, n, h1, _⟩ := B.ex
  obtain ⟨ps, hp, t⟩ := g
  exact ⟨ps, k _ _ hp (ne_of hp h1 (by intro z; cases z)), t⟩
def spLawT (K : PySem.W.Frag) (P : Addr) : Sp := fun vs H Q _ => ∃ (a : Addr) (ns : List Int), vs = [.ref a] ∧ SqL K H a (ns.map V.int) ∧ ns.length ≤ 63 ∧ GxR.TabG H P ∧ ∀ H', Q (.bl true) H'
section
variable {P : Program} {w : World} {K : PySem.W.Frag} {mg : Str → Option Value} {base : Heap}
theorem ok_law (T : Top w K mg) (TB : GxR.TabB base mg T.cR T.PR) : FnOk P w K mg base CX0 5 T.a_law T.d_law ["_law_script"] (spLawT K T.PR) := by
  have G_Lbox : FnOk P w K mg base CX0 2 _ _ _ _ := ok_box T
  have G_Lrow : FnOk P w K mg base CX0 4 _ _ _ _ := ok_row T
  have G_Lforest : FnOk P w K mg base CX0 4 _ _ _ _ := ok_forest T
  have G_Levery : FnOk P w K mg base CX0 1 _ _ _ _ := ok_every T
  have G_Lsame : FnOk P w K mg base CX0 1 _ _ _ _ := ok_same T
  have G_isrow : FnOk P w K mg base CX0 4 _ _ _ _ := ok_isrow T TB
  have G_Lisrow : FnOk P w K mg base CX0 1 _ _ _ _ := ok_own T
  have G_Lspoilt : FnOk P w K mg base CX0 2 _ _ _ _ := ok_spoilt T
  refine T.F_law.ok sc_law (fun vs H Q E h => ?_) (fun cdv A outer s H vs Q E hr h => ?_)
  · obtain ⟨a, ns, rfl, _⟩ := h
    rfl
  · obtain ⟨a, ns, rfl, hS, hlen, tg, q⟩ := h
    refine ⟨_, (pss_cons (ps_set (i := 1) sc_law.nd rfl (.inl rfl) (pe_call G_Lbox (hr.mono (by decide)) (by rfl) T.g_Lbox T.F_Lbox.kp T.b_Lbox .nil pass0 (pa_cons (pv 0) pa_nil)))
      (pss_cons (ps_for PassesOwn.never rfl (pi_range1 (by rfl) T.m_range (pa_cons (pe_callB (call_max2 rfl) (by rfl) T.m_max (by decide +kernel) (pa_cons pe_int (pa_cons (pe_callB (call_min2 rfl) (by rfl) T.m_min (by decide +kernel) (pa_cons pe_int (pa_cons (pe_callB call_len_seq (by rfl) T.m_len PySem.boot_len (pa_cons (pv 0) pa_nil)) pa_nil))) pa_nil))) pa_nil)) (pg_name (i := 2) sc_law.nd rfl (.inl rfl)) (pss_cons (ps_set (i := 3) sc_law.nd rfl (.inl rfl) (pe_call G_Lrow hr (by rfl) T.g_Lrow T.F_Lrow.kp T.b_Lrow .nil pass0 (pa_cons (pv 1) (pa_cons (pe_call G_Lforest hr (by rfl) T.g_Lforest T.F_Lforest.kp T.b_Lforest .nil pass0 (pa_cons (pv 1) (pa_cons pe_int (pa_cons pe_int pa_nil)))) (pa_cons (pe_call0 G_Levery (hr.mono (by decide)) (by rfl) T.g_Levery T.F_Levery.kp T.b_Levery .nil pass0) pa_nil)))))
      (pss_cons (ps_if (pt_cmpR op_isnot_bl (pe_call G_isrow hr (by rfl) T.g_isrow T.F_isrow.kp T.b_isrow .nil pass0 (pa_cons (pv 3) pa_nil)) pe_bl (nomark _)) (pss_one (ps_ret pe_bl)) pss_nil)
      (pss_one (ps_for PassesOwn.never rfl (pi_range1 (by rfl) T.m_range (pa_cons pe_int pa_nil)) (pg_name (i := 4) sc_law.nd rfl (.inl rfl)) (pss_cons (ps_set (i := 5) sc_law.nd rfl (.inl rfl) (pe_call G_Lspoilt (hr.mono (by decide)) (by rfl) T.g_Lspoilt T.F_Lspoilt.kp T.b_Lspoilt .nil pass0 (pa_cons (pv 1) (pa_cons (pv 3) pa_nil))))
      (pss_one (ps_if (pt_not (pt_val (pe_call G_Lsame (hr.mono (by decide)) (by rfl) T.g_Lsame T.F_Lsame.kp T.b_Lsame .nil pass0 (pa_cons (pe_call G_isrow hr (by rfl) T.g_isrow T.F_isrow.kp T.b_isrow .nil pass0 (pa_cons (pv 5) pa_nil)) (pa_cons (pe_call G_Lisrow (hr.mono (by decide)) (by rfl) T.g_Lisrow T.F_Lisrow.kp T.b_Lisrow .nil pass0 (pa_cons (pv 5) pa_nil)) pa_nil))))) (pss_one (ps_ret pe_bl)) pss_nil))))))))
      (pss_one (ps_ret pe_bl)))), ?_⟩
    refine ⟨_, rfl, a, ns, rfl, hS, hlen, fun b L H1 s1 nb B1 => ?_⟩
    refine ⟨_, rfl, a, _, rfl, .inl (s1.seq hS), _, _, rfl, _, _, rfl, _, rfl, ?_, ?_, for_range (lo := 0) (n := _) (fun i σ H2 => ∃ (y2 y3 y4 y5 : Option V), σ = [some (.ref a), some (.ref b), y2, y3, y4, y5] ∧ BoxAt H2 b L ∧ GxR.TabG H2 T.PR) ⟨none, none, none, none, rfl, B1, tabg_same s1 tg⟩ ?_ ?_⟩
    · rw [List.length_map]
      split <;> omega
    · rw [List.length_map]
      split
      · split <;> omega
      · omega
    · rintro i σ H2 hi ⟨y2, y3, y4, y5, rfl, B2, tg2⟩
      refine ⟨_, rfl, _, rfl, b, L, 3, 8, rfl, B2, by decide, by decide, by decide, by decide, fun f pts ts H3 fok hle B3 k3 F3 => ?_⟩
      refine ⟨rfl, fun wl H4 s4 nwl hwl => ⟨b, L, wl, .ref f, evs, pts, ts, rfl, B3.same s4, F3.mono (Tups.of_same s4), fok, hwl, B3.ne nwl, by decide, by decide, (fun w h => h), fun r wd us H5 hwd hrow B5 k5 nr hr5 => ?_⟩⟩
      have tg5 : GxR.TabG H5 T.PR := tabg_but (B3.same s4) k5 (tabg_same s4 (tabg_but B2 k3 tg2))
      obtain ⟨ps, eu, hps, hwl2, hrow1, hany⟩ := row_facts (H := H5) hrow
      have hul : us.length ≤ 1000 := by
        rw [eu, List.length_cons]
        omega
      refine ⟨_, rfl, r, us, true, rfl, tg5, hul, .inl ⟨hr5, hany, hrow1.symm⟩, fun H6 k6 tg6 => ⟨_, _, rfl, rfl, _, rfl, iteF ?_⟩⟩
      refine ⟨4, rfl, (by decide), (by decide), for_range (lo := 0) (n := 4) (fun j σ H7 => ∃ (y4 y5 : Option V), σ = [some (.ref a), some (.ref b), some (.int (0 + (i : Int))), some (.ref r), y4, y5] ∧ BoxAt H7 b L ∧ GxR.TabG H7 T.PR ∧ H7 r = some (.tup us)) ⟨y4, y5, rfl, B5.kp k6, tg6, k6 _ _ hr5 (by intro ps z; cases z)⟩ ?_ ?_⟩
      · rintro j σ H7 hj ⟨z4, z5, rfl, B7, tg7, hr7⟩
        have nrb : r ≠ b := by
          obtain ⟨ns7, n7, hb7, _⟩ := B7.ex
          exact ne_of hr7 hb7 (by intro z; cases z)
        refine ⟨_, rfl, _, rfl, b, L, r, wd, us, rfl, B7, hrow, hr7, fun v H8 th B8 k8 => ?_⟩
        have tg8 : GxR.TabG H8 T.PR := tabg_but B7 k8 tg7
        have hr8 := k8 _ _ hr7 nrb
        obtain ⟨c, xs, rfl, hl, hx⟩ := th
        have go : ∃ bb : Bool, (((H8 c = some (.tup xs) ∧ (∀ x ∈ xs, AnyV H8 x) ∧ bb = rowB xs) ∨ (H8 c = some (.lst xs) ∧ bb = false))) := by
          rcases hx with ⟨h1, h2⟩ | h1
          · exact ⟨_, .inl ⟨h1, h2, rfl⟩⟩
          · exact ⟨_, .inr ⟨h1, rfl⟩⟩
        obtain ⟨bb, hb8⟩ := go
        refine ⟨_, rfl, c, xs, bb, rfl, tg8, hl, hb8, fun H9 k9 tg9 => ?_⟩
        have hb9 : (H9 c = some (.tup xs) ∧ (∀ x ∈ xs, AnyV H9 x) ∧ bb = rowB xs) ∨ (H9 c = some (.lst xs) ∧ bb = false) := by
          rcases hb8 with ⟨h1, h2, h3⟩ | ⟨h1, h3⟩
          · exact .inl ⟨k9 _ _ h1 (by intro ps z; cases z), fun x hx => (h2 x hx).kp k9, h3⟩
          · exact .inr ⟨k9 _ _ h1 (by intro ps z; cases z), h3⟩
        refine ⟨_, rfl, c, xs, bb, rfl, hl, hb9, fun H10 s10 => ⟨bb, bb, rfl, fun H11 s11 => ?_⟩⟩
        refine ⟨_, rfl, iteNS rfl ?_⟩
        exact ⟨_, _, rfl, ((B8.kp k9).same s10).same s11, tabg_same s11 (tabg_same s10 tg9), s11 _ _ (s10 _ _ (k9 _ _ hr8 (by intro ps z; cases z)))⟩
      · rintro σ H7 ⟨z4, z5, rfl, B7, tg7, _⟩
        exact ⟨_, _, _, _, rfl, B7, tg7⟩
    · rintro σ G0 _
      exact q _
end

theorem all_mk {l : PySem.W.OpenLaw} {w : World} {K : PySem.W.Frag} {h : Heap} {mg : Str → Option Value} {fa f0 f1 f2 f3 f4 f5 f6 f7 f8 f9 f10 f11 f12 f13 f14 f15 f16 f17 f18 : Addr} {fK fF cR PR : Addr} {esF : Array DictEntry} {nF : Nat} {eR : Value} {ddR : Option Addr} {vsR : Array Value} {slR : Array (Option Value)} (X : K.In h) (G : h.Ns mainGlobals mg) (hfa : mg "law" = some (.ref fa))
    {od0 an0 od1 an1 od2 an2 od3 an3 od4 an4 od5 an5 od6 an6 od7 an7 od8 an8 od9 an9 od10 an10 od11 an11 od12 an12 od13 an13 od14 an14 od15 an15 od16 an16 od17 an17 od18 an18 : Option Addr} {sl0 sl1 sl2 sl3 sl4 sl5 sl6 sl7 sl8 sl9 sl10 sl11 sl12 sl13 sl14 sl15 sl16 sl17 sl18 : Array (Option Value)} {oc0 kV0 dc0 pm0 cd0 ct0 oc1 kV1 dc1 pm1 cd1 ct1 oc2 kV2 dc2 pm2 cd2 ct2 oc3 kV3 dc3 pm3 cd3 ct3 oc4 kV4 dc4 pm4 cd4 ct4 oc5 kV5 dc5 pm5 cd5 ct5 oc6 kV6 dc6 pm6 cd6 ct6 oc7 kV7 dc7 pm7 cd7 ct7 oc8 kV8 dc8 pm8 cd8 ct8 oc9 kV9 dc9 pm9 cd9 ct9 oc10 kV10 dc10 pm10 cd10 ct10 oc11 kV11 dc11 pm11 cd11 ct11 oc12 kV12 dc12 pm12 cd12 ct12 oc13 kV13 dc13 pm13 cd13 ct13 oc14 kV14 dc14 pm14 cd14 ct14 oc15 kV15 dc15 pm15 cd15 ct15 oc16 kV16 dc16 pm16 cd16 ct16 oc17 kV17 dc17 pm17 cd17 ct17 oc18 kV18 dc18 pm18 cd18 ct18 : Value}
    (a0 : PySem.W.nsIn K mainGlobals "is_whole" = some (some (.ref f0))) (l0 : K.lookup f0 = some ⟨oc0, od0, .func (PySem.W.fnOf "is_whole" "is_whole" (defArgs s_iswhole) (defBody s_iswhole) (defScope s_iswhole) .none kV0 dc0 pm0 an0 cd0 ct0), sl0⟩) (c0 : PySem.W.codeIn K cd0 "is_whole" = true) (k0 : PySem.W.keepIn K (.ref f0) = true)
    (a1 : PySem.W.nsIn K mainGlobals "is_kind" = some (some (.ref f1))) (l1 : K.lookup f1 = some ⟨oc1, od1, .func (PySem.W.fnOf "is_kind" "is_kind" (defArgs s_iskind) (defBody s_iskind) (defScope s_iskind) .none kV1 dc1 pm1 an1 cd1 ct1), sl1⟩) (c1 : PySem.W.codeIn K cd1 "is_kind" = true) (k1 : PySem.W.keepIn K (.ref f1) = true)
    (a2 : PySem.W.nsIn K mainGlobals "is_row" = some (some (.ref f2))) (l2 : K.lookup f2 = some ⟨oc2, od2, .func (PySem.W.fnOf "is_row" "is_row" (defArgs s_isrow) (defBody s_isrow) (defScope s_isrow) .none kV2 dc2 pm2 an2 cd2 ct2), sl2⟩) (c2 : PySem.W.codeIn K cd2 "is_row" = true) (k2 : PySem.W.keepIn K (.ref f2) = true)
    (a3 : PySem.W.nsIn K mainGlobals "fits" = some (some (.ref f3))) (l3 : K.lookup f3 = some ⟨oc3, od3, .func (PySem.W.fnOf "fits" "fits" (defArgs s_fits) (defBody s_fits) (defScope s_fits) .none kV3 dc3 pm3 an3 cd3 ct3), sl3⟩) (c3 : PySem.W.codeIn K cd3 "fits" = true) (k3 : PySem.W.keepIn K (.ref f3) = true)
    (a4 : PySem.W.nsIn K mainGlobals "_law_mixed" = some (some (.ref f4))) (l4 : K.lookup f4 = some ⟨oc4, od4, .func (PySem.W.fnOf "_law_mixed" "_law_mixed" (defArgs s_Lmixed) (defBody s_Lmixed) (defScope s_Lmixed) .none kV4 dc4 pm4 an4 cd4 ct4), sl4⟩) (c4 : PySem.W.codeIn K cd4 "_law_mixed" = true) (k4 : PySem.W.keepIn K (.ref f4) = true)
    (a5 : PySem.W.nsIn K mainGlobals "_law_box" = some (some (.ref f5))) (l5 : K.lookup f5 = some ⟨oc5, od5, .func (PySem.W.fnOf "_law_box" "_law_box" (defArgs s_Lbox) (defBody s_Lbox) (defScope s_Lbox) .none kV5 dc5 pm5 an5 cd5 ct5), sl5⟩) (c5 : PySem.W.codeIn K cd5 "_law_box" = true) (k5 : PySem.W.keepIn K (.ref f5) = true)
    (a6 : PySem.W.nsIn K mainGlobals "_law_next" = some (some (.ref f6))) (l6 : K.lookup f6 = some ⟨oc6, od6, .func (PySem.W.fnOf "_law_next" "_law_next" (defArgs s_Lnext) (defBody s_Lnext) (defScope s_Lnext) .none kV6 dc6 pm6 an6 cd6 ct6), sl6⟩) (c6 : PySem.W.codeIn K cd6 "_law_next" = true) (k6 : PySem.W.keepIn K (.ref f6) = true)
    (a7 : PySem.W.nsIn K mainGlobals "_law_few" = some (some (.ref f7))) (l7 : K.lookup f7 = some ⟨oc7, od7, .func (PySem.W.fnOf "_law_few" "_law_few" (defArgs s_Lfew) (defBody s_Lfew) (defScope s_Lfew) .none kV7 dc7 pm7 an7 cd7 ct7), sl7⟩) (c7 : PySem.W.codeIn K cd7 "_law_few" = true) (k7 : PySem.W.keepIn K (.ref f7) = true)
    (a8 : PySem.W.nsIn K mainGlobals "_law_worth" = some (some (.ref f8))) (l8 : K.lookup f8 = some ⟨oc8, od8, .func (PySem.W.fnOf "_law_worth" "_law_worth" (defArgs s_Lworth) (defBody s_Lworth) (defScope s_Lworth) .none kV8 dc8 pm8 an8 cd8 ct8), sl8⟩) (c8 : PySem.W.codeIn K cd8 "_law_worth" = true) (k8 : PySem.W.keepIn K (.ref f8) = true)
    (a9 : PySem.W.nsIn K mainGlobals "_law_point" = some (some (.ref f9))) (l9 : K.lookup f9 = some ⟨oc9, od9, .func (PySem.W.fnOf "_law_point" "_law_point" (defArgs s_Lpoint) (defBody s_Lpoint) (defScope s_Lpoint) .none kV9 dc9 pm9 an9 cd9 ct9), sl9⟩) (c9 : PySem.W.codeIn K cd9 "_law_point" = true) (k9 : PySem.W.keepIn K (.ref f9) = true)
    (a10 : PySem.W.nsIn K mainGlobals "_law_forest" = some (some (.ref f10))) (l10 : K.lookup f10 = some ⟨oc10, od10, .func (PySem.W.fnOf "_law_forest" "_law_forest" (defArgs s_Lforest) (defBody s_Lforest) (defScope s_Lforest) .none kV10 dc10 pm10 an10 cd10 ct10), sl10⟩) (c10 : PySem.W.codeIn K cd10 "_law_forest" = true) (k10 : PySem.W.keepIn K (.ref f10) = true)
    (a11 : PySem.W.nsIn K mainGlobals "_law_spot" = some (some (.ref f11))) (l11 : K.lookup f11 = some ⟨oc11, od11, .func (PySem.W.fnOf "_law_spot" "_law_spot" (defArgs s_Lspot) (defBody s_Lspot) (defScope s_Lspot) .none kV11 dc11 pm11 an11 cd11 ct11), sl11⟩) (c11 : PySem.W.codeIn K cd11 "_law_spot" = true) (k11 : PySem.W.keepIn K (.ref f11) = true)
    (a12 : PySem.W.nsIn K mainGlobals "_law_pair" = some (some (.ref f12))) (l12 : K.lookup f12 = some ⟨oc12, od12, .func (PySem.W.fnOf "_law_pair" "_law_pair" (defArgs s_Lpair) (defBody s_Lpair) (defScope s_Lpair) .none kV12 dc12 pm12 an12 cd12 ct12), sl12⟩) (c12 : PySem.W.codeIn K cd12 "_law_pair" = true) (k12 : PySem.W.keepIn K (.ref f12) = true)
    (a13 : PySem.W.nsIn K mainGlobals "_law_row" = some (some (.ref f13))) (l13 : K.lookup f13 = some ⟨oc13, od13, .func (PySem.W.fnOf "_law_row" "_law_row" (defArgs s_Lrow) (defBody s_Lrow) (defScope s_Lrow) .none kV13 dc13 pm13 an13 cd13 ct13), sl13⟩) (c13 : PySem.W.codeIn K cd13 "_law_row" = true) (k13 : PySem.W.keepIn K (.ref f13) = true)
    (a14 : PySem.W.nsIn K mainGlobals "_law_same" = some (some (.ref f14))) (l14 : K.lookup f14 = some ⟨oc14, od14, .func (PySem.W.fnOf "_law_same" "_law_same" (defArgs s_Lsame) (defBody s_Lsame) (defScope s_Lsame) .none kV14 dc14 pm14 an14 cd14 ct14), sl14⟩) (c14 : PySem.W.codeIn K cd14 "_law_same" = true) (k14 : PySem.W.keepIn K (.ref f14) = true)
    (a15 : PySem.W.nsIn K mainGlobals "_law_is_row" = some (some (.ref f15))) (l15 : K.lookup f15 = some ⟨oc15, od15, .func (PySem.W.fnOf "_law_is_row" "_law_is_row" (defArgs s_Lisrow) (defBody s_Lisrow) (defScope s_Lisrow) .none kV15 dc15 pm15 an15 cd15 ct15), sl15⟩) (c15 : PySem.W.codeIn K cd15 "_law_is_row" = true) (k15 : PySem.W.keepIn K (.ref f15) = true)
    (a16 : PySem.W.nsIn K mainGlobals "_law_every" = some (some (.ref f16))) (l16 : K.lookup f16 = some ⟨oc16, od16, .func (PySem.W.fnOf "_law_every" "_law_every" (defArgs s_Levery) (defBody s_Levery) (defScope s_Levery) .none kV16 dc16 pm16 an16 cd16 ct16), sl16⟩) (c16 : PySem.W.codeIn K cd16 "_law_every" = true) (k16 : PySem.W.keepIn K (.ref f16) = true)
    (a17 : PySem.W.nsIn K mainGlobals "_law_spoilt" = some (some (.ref f17))) (l17 : K.lookup f17 = some ⟨oc17, od17, .func (PySem.W.fnOf "_law_spoilt" "_law_spoilt" (defArgs s_Lspoilt) (defBody s_Lspoilt) (defScope s_Lspoilt) .none kV17 dc17 pm17 an17 cd17 ct17), sl17⟩) (c17 : PySem.W.codeIn K cd17 "_law_spoilt" = true) (k17 : PySem.W.keepIn K (.ref f17) = true)
    (a18 : PySem.W.nsIn K mainGlobals "law" = some (some (.ref f18))) (l18 : K.lookup f18 = some ⟨oc18, od18, .func (PySem.W.fnOf "law" "law" (defArgs s_law) (defBody s_law) (defScope s_law) .none kV18 dc18 pm18 an18 cd18 ct18), sl18⟩) (c18 : PySem.W.codeIn K cd18 "law" = true) (k18 : PySem.W.keepIn K (.ref f18) = true)
    (z0 : PySem.W.nsIn K mainGlobals "all" = some none)
    (z1 : PySem.W.nsIn K mainGlobals "bool" = some none)
    (z2 : PySem.W.nsIn K mainGlobals "int" = some none)
    (z3 : PySem.W.nsIn K mainGlobals "isinstance" = some none)
    (z4 : PySem.W.nsIn K mainGlobals "len" = some none)
    (z5 : PySem.W.nsIn K mainGlobals "list" = some none)
    (z6 : PySem.W.nsIn K mainGlobals "max" = some none)
    (z7 : PySem.W.nsIn K mainGlobals "min" = some none)
    (z8 : PySem.W.nsIn K mainGlobals "range" = some none)
    (z9 : PySem.W.nsIn K mainGlobals "sorted" = some none)
    (z10 : PySem.W.nsIn K mainGlobals "str" = some none)
    (z11 : PySem.W.nsIn K mainGlobals "sum" = some none)
    (z12 : PySem.W.nsIn K mainGlobals "tuple" = some none)
    (z13 : PySem.W.nsIn K mainGlobals "zip" = some none)
    (qK : PySem.W.nsIn K mainGlobals "KINDS" = some (some (.ref fK)))
    (hK : tupB K fK kinds = true)
    (qF : PySem.W.nsIn K mainGlobals "FORMS" = some (some (.ref fF)))
    (hlF : K.lookup fF = some ⟨.type "dict", none, .dict esF nF, #[]⟩)
    (hkF : PySem.W.KeysLit w.params esF.toList)
    (hoF : (fF == sysModules) = false)
    (hfF : formB K esF.toList formsT = true)
    (hcR : cd2 = .ref cR)
    (lcR : K.lookup cR = some ⟨eR, ddR, .fields vsR, slR⟩)
    (v11 : vsR[11]? = some (.ref PR))
    (nPR : K.lookup PR = none)
    (hdR : PySem.W.codeHdIn K cR PR = true)
    (tabs : ∀ nm ∈ (["is_row"] : List Str), TabAt mg h nm) : LamX.LawAtS l w K CX0 5 63 "_law_script" mg fa h := by
  have e := hfa.symm.trans (PySem.W.mg_of X G a18)
  cases e
  have F0 := fun_mk (st := s_iswhole) l0 c0 k0
  have b0 := F0.binds (ps := ["thing"]) fun _ _ _ _ _ _ us hl => match us, hl with | [_], _ => rfl
  have F1 := fun_mk (st := s_iskind) l1 c1 k1
  have b1 := F1.binds (ps := ["thing"]) fun _ _ _ _ _ _ us hl => match us, hl with | [_], _ => rfl
  have F2 := fun_mk (st := s_isrow) l2 c2 k2
  have b2 := F2.binds (ps := ["thing"]) fun _ _ _ _ _ _ us hl => match us, hl with | [_], _ => rfl
  have F3 := fun_mk (st := s_fits) l3 c3 k3
  have b3 := F3.binds (ps := ["part", "wanted"]) fun _ _ _ _ _ _ us hl => match us, hl with | [_, _], _ => rfl
  have F4 := fun_mk (st := s_Lmixed) l4 c4 k4
  have b4 := F4.binds (ps := ["_law_cell", "_law_many"]) fun _ _ _ _ _ _ us hl => match us, hl with | [_, _], _ => rfl
  have F5 := fun_mk (st := s_Lbox) l5 c5 k5
  have b5 := F5.binds (ps := ["_law_script"]) fun _ _ _ _ _ _ us hl => match us, hl with | [_], _ => rfl
  have F6 := fun_mk (st := s_Lnext) l6 c6 k6
  have b6 := F6.binds (ps := ["_law_box_here"]) fun _ _ _ _ _ _ us hl => match us, hl with | [_], _ => rfl
  have F7 := fun_mk (st := s_Lfew) l7 c7 k7
  have b7 := F7.binds (ps := ["_law_box_here", "_law_few_here", "_law_most"]) fun _ _ _ _ _ _ us hl => match us, hl with | [_, _, _], _ => rfl
  have F8 := fun_mk (st := s_Lworth) l8 c8 k8
  have b8 := F8.binds (ps := ["_law_box_here"]) fun _ _ _ _ _ _ us hl => match us, hl with | [_], _ => rfl
  have F9 := fun_mk (st := s_Lpoint) l9 c9 k9
  have b9 := F9.binds (ps := ["_law_box_here"]) fun _ _ _ _ _ _ us hl => match us, hl with | [_], _ => rfl
  have F10 := fun_mk (st := s_Lforest) l10 c10 k10
  have b10 := F10.binds (ps := ["_law_box_here", "_law_few_here", "_law_most"]) fun _ _ _ _ _ _ us hl => match us, hl with | [_, _, _], _ => rfl
  have F11 := fun_mk (st := s_Lspot) l11 c11 k11
  have b11 := F11.binds (ps := ["_law_box_here", "_law_many"]) fun _ _ _ _ _ _ us hl => match us, hl with | [_, _], _ => rfl
  have F12 := fun_mk (st := s_Lpair) l12 c12 k12
  have b12 := F12.binds (ps := ["_law_box_here", "_law_forest_here", "_law_whole"]) fun _ _ _ _ _ _ us hl => match us, hl with | [_, _, _], _ => rfl
  have F13 := fun_mk (st := s_Lrow) l13 c13 k13
  have b13 := F13.binds (ps := ["_law_box_here", "_law_forest_here", "_law_words"]) fun _ _ _ _ _ _ us hl => match us, hl with | [_, _, _], _ => rfl
  have F14 := fun_mk (st := s_Lsame) l14 c14 k14
  have b14 := F14.binds (ps := ["_law_found", "_law_due"]) fun _ _ _ _ _ _ us hl => match us, hl with | [_, _], _ => rfl
  have F15 := fun_mk (st := s_Lisrow) l15 c15 k15
  have b15 := F15.binds (ps := ["_law_thing"]) fun _ _ _ _ _ _ us hl => match us, hl with | [_], _ => rfl
  have F16 := fun_mk (st := s_Levery) l16 c16 k16
  have b16 := F16.binds (ps := []) fun _ _ _ _ _ _ us hl => match us, hl with | [], _ => rfl
  have F17 := fun_mk (st := s_Lspoilt) l17 c17 k17
  have b17 := F17.binds (ps := ["_law_box_here", "_law_row_here"]) fun _ _ _ _ _ _ us hl => match us, hl with | [_, _], _ => rfl
  have F18 := fun_mk (st := s_law) l18 c18 k18
  have b18 := F18.binds (ps := ["_law_script"]) fun _ _ _ _ _ _ us hl => match us, hl with | [_], _ => rfl
  let T : Top w K mg := ⟨_, _, F0, b0, PySem.W.mg_of X G a0, _, _, F1, b1, PySem.W.mg_of X G a1, _, _, F2, b2, PySem.W.mg_of X G a2, _, _, F3, b3, PySem.W.mg_of X G a3, _, _, F4, b4, PySem.W.mg_of X G a4, _, _, F5, b5, PySem.W.mg_of X G a5, _, _, F6, b6, PySem.W.mg_of X G a6, _, _, F7, b7, PySem.W.mg_of X G a7, _, _, F8, b8, PySem.W.mg_of X G a8, _, _, F9, b9, PySem.W.mg_of X G a9, _, _, F10, b10, PySem.W.mg_of X G a10, _, _, F11, b11, PySem.W.mg_of X G a11, _, _, F12, b12, PySem.W.mg_of X G a12, _, _, F13, b13, PySem.W.mg_of X G a13, _, _, F14, b14, PySem.W.mg_of X G a14, _, _, F15, b15, PySem.W.mg_of X G a15, _, _, F16, b16, PySem.W.mg_of X G a16, _, _, F17, b17, PySem.W.mg_of X G a17, _, _, F18, b18, PySem.W.mg_of X G a18, PySem.W.mg_none_of X G z0, PySem.W.mg_none_of X G z1, PySem.W.mg_none_of X G z2, PySem.W.mg_none_of X G z3, PySem.W.mg_none_of X G z4, PySem.W.mg_none_of X G z5, PySem.W.mg_none_of X G z6, PySem.W.mg_none_of X G z7, PySem.W.mg_none_of X G z8, PySem.W.mg_none_of X G z9, PySem.W.mg_none_of X G z10, PySem.W.mg_none_of X G z11, PySem.W.mg_none_of X G z12, PySem.W.mg_none_of X G z13, _, PySem.W.mg_of X G qK, hK, _, PySem.W.mg_of X G qF, _, _, hlF, hkF, hoF, hfF, cR, PR, hcR⟩
  refine ⟨T.d_law, [(cR, PR)], spLawT K PR, ?_, ?_, ?_, fun s v => .of_eq rfl, ?_, fun base _ _ tb => ?_⟩
  · intro p hp
    rw [List.mem_singleton.mp hp]
    exact tab_empty (tabs _ List.mem_cons_self) X (PySem.W.mg_of X G a2) l2 rfl hcR lcR v11
  · intro p hp
    rw [List.mem_singleton.mp hp]
    exact nPR
  · intro p hp
    rw [List.mem_singleton.mp hp]
    exact PySem.W.codeHd_of_K X hdR
  · intro H a ns hl _ hH hS
    exact ⟨a, ns, rfl, hS, hl, ⟨#[], hH _ (List.mem_singleton.mpr rfl), True.intro⟩, fun _ => rfl⟩
  · have z := tb _ (List.mem_singleton.mpr rfl)
    exact ok_law (P := l.prog) (w := w) (base := base) T ⟨z.code, z.bm, z.gP⟩
end My
open PySem PySem.W PyProof.Rows
set_option maxRecDepth 100000 in
set_option maxHeartbeats 0 in
theorem PySem.Challenge.cw_tiedcut_k10_what_is_a_row_holds : PySem.Challenge.rw_tiedcut_k10_what_is_a_row.Holds := by
  w_on; o_law; k_head; (case hw => w_witness2)
  k_fill
  refine My.walk_tabs (l := PySem.Challenge.rw_tiedcut_k10_what_is_a_row) (most := 63) (lv := 5) (par := "_law_script") ["is_row"] rfl (by decide) rfl ⟨rfl, by decide, by decide⟩ (by decide +kernel) (fun w h Y => PySem.W.kIn_of Y) ?F
  case F =>
    intro w mg fa h KX G hmg tabs
    refine' My.all_mk KX G hmg ?a0 ?l0 ?c0 ?k0 ?a1 ?l1 ?c1 ?k1 ?a2 ?l2 ?c2 ?k2 ?a3 ?l3 ?c3 ?k3 ?a4 ?l4 ?c4 ?k4 ?a5 ?l5 ?c5 ?k5 ?a6 ?l6 ?c6 ?k6 ?a7 ?l7 ?c7 ?k7 ?a8 ?l8 ?c8 ?k8 ?a9 ?l9 ?c9 ?k9 ?a10 ?l10 ?c10 ?k10 ?a11 ?l11 ?c11 ?k11 ?a12 ?l12 ?c12 ?k12 ?a13 ?l13 ?c13 ?k13 ?a14 ?l14 ?c14 ?k14 ?a15 ?l15 ?c15 ?k15 ?a16 ?l16 ?c16 ?k16 ?a17 ?l17 ?c17 ?k17 ?a18 ?l18 ?c18 ?k18 ?z0 ?z1 ?z2 ?z3 ?z4 ?z5 ?z6 ?z7 ?z8 ?z9 ?z10 ?z11 ?z12 ?z13 ?qK ?hK ?qF ?hlF ?hkF ?hoF ?hfF ?hcR ?lcR ?v11 ?nPR ?hdR tabs
    (case a0 => k_is)
    (case l0 => k_is)
    (case c0 => k_is)
    (case k0 => k_is)
    (case a1 => k_is)
    (case l1 => k_is)
    (case c1 => k_is)
    (case k1 => k_is)
    (case a2 => k_is)
    (case l2 => k_is)
    (case c2 => k_is)
    (case k2 => k_is)
    (case a3 => k_is)
    (case l3 => k_is)
    (case c3 => k_is)
    (case k3 => k_is)
    (case a4 => k_is)
    (case l4 => k_is)
    (case c4 => k_is)
    (case k4 => k_is)
    (case a5 => k_is)
    (case l5 => k_is)
    (case c5 => k_is)
    (case k5 => k_is)
    (case a6 => k_is)
    (case l6 => k_is)
    (case c6 => k_is)
    (case k6 => k_is)
    (case a7 => k_is)
    (case l7 => k_is)
    (case c7 => k_is)
    (case k7 => k_is)
    (case a8 => k_is)
    (case l8 => k_is)
    (case c8 => k_is)
    (case k8 => k_is)
    (case a9 => k_is)
    (case l9 => k_is)
    (case c9 => k_is)
    (case k9 => k_is)
    (case a10 => k_is)
    (case l10 => k_is)
    (case c10 => k_is)
    (case k10 => k_is)
    (case a11 => k_is)
    (case l11 => k_is)
    (case c11 => k_is)
    (case k11 => k_is)
    (case a12 => k_is)
    (case l12 => k_is)
    (case c12 => k_is)
    (case k12 => k_is)
    (case a13 => k_is)
    (case l13 => k_is)
    (case c13 => k_is)
    (case k13 => k_is)
    (case a14 => k_is)
    (case l14 => k_is)
    (case c14 => k_is)
    (case k14 => k_is)
    (case a15 => k_is)
    (case l15 => k_is)
    (case c15 => k_is)
    (case k15 => k_is)
    (case a16 => k_is)
    (case l16 => k_is)
    (case c16 => k_is)
    (case k16 => k_is)
    (case a17 => k_is)
    (case l17 => k_is)
    (case c17 => k_is)
    (case k17 => k_is)
    (case a18 => k_is)
    (case l18 => k_is)
    (case c18 => k_is)
    (case k18 => k_is)
    (case z0 => k_is)
    (case z1 => k_is)
    (case z2 => k_is)
    (case z3 => k_is)
    (case z4 => k_is)
    (case z5 => k_is)
    (case z6 => k_is)
    (case z7 => k_is)
    (case z8 => k_is)
    (case z9 => k_is)
    (case z10 => k_is)
    (case z11 => k_is)
    (case z12 => k_is)
    (case z13 => k_is)
    (case qK => k_is)
    (case hK => kernel_rfl)
    (case qF => k_is)
    (case hlF => k_is)
    (case hkF => repeat (first | exact True.intro | refine ⟨⟨_, _, rfl, rfl⟩, ?_⟩))
    (case hoF => decide +kernel)
    (case hfF => kernel_rfl)
    (case hcR => rfl)
    (case lcR => k_is)
    (case v11 => rfl)
    (case nPR => kernel_rfl)
    (case hdR => kernel_rfl)
