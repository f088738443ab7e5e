import PyProof.Rows.All
import Wide.All
import OpenK.AllK
import Wide.FinOn
import HandS.ForMost
import HandS.More
import HandS.Sort
import HandS.Wide
import HandS.WideBits
import HandS.IsInst
import HandS.EndBits
import HandS.Exc
import HandS.ExcOwn
import HandS.ExcValue
import HandS.ExcInit
import HandS.ExcField
import HandS.WordsExc
import KE.KExcIs
import HandS.TupLe
import HandS.TupAny
import HandS.Zip
import HandS.Walk
import HandS.Deep
import HandS.AnyAll
import HandS.GenOver
import HandS.EndTab
import HandS.Lambda
import KE.GoesMore
import PySem.Challenge.RW_tiedcut_k11_rows_of_anything
set_option Elab.async false
set_option linter.all false
set_option maxRecDepth 100000
set_option maxHeartbeats 4000000
namespace My
open PySem PySem.Spec PyProof.Rows L2
/-! ### a generator expression, consumed by all: its own frame -/
def gcx (X : Cx) (s : Shared) (H : Hp) (ge : Env) (fp : List Addr) (Ag : Around) : Cx :=
  { X with A := Ag, s_0 := s, H_0 := H, env := ge, outer := X.stack, stack := ge :: X.stack, ex := fp, fn := fun _ => false, pn := [], xe := fun _ _ => False }
section
variable {X : Cx} {pins : List (Addr × Obj)} {σ : L2.St} {H : Hp} {s : Shared}
theorem clo_in {scope : Scope} {own : List (Str × Nat)} (I : Inv X pins σ H s) (ok : BlkOk X.N X.env.scope scope own) {y : Str} {c : Addr} (hm : (y, c) ∈ cloFrom X.env.cells scope.names []) : X.env.cells.lookup y = some c ∧ c < s.heap.objs.size ∧ (y, NameKind.free) ∈ scope.names := by
  rcases cloFrom_mem hm with z | ⟨h1, rfl⟩
  · cases z
  · have hc : ∃ c, X.env.cells.lookup y = some c := by
      rcases ok.free _ h1 rfl with k | k
      · exact I.ok.has _ (.inl k)
      · exact I.ok.has _ (.inr k)
    obtain ⟨c, hc⟩ := hc
    obtain ⟨v, z⟩ := I.cell _ _ hc
    rw [hc]
    exact ⟨rfl, z.lt, h1⟩
theorem gen_start {scope : Scope} {own : List (Str × Nat)} {fp : List Addr} {ge : Env} {code : Value} {Ag : Around} {s5 : Shared} {m : Str → Option Value} {ga : Addr} {go : Obj} (I : Inv X pins σ H s) (ok : BlkOk X.N X.env.scope scope own) (hN : X.N.Nodup)
    (hfp : ∀ b ∈ fp, FpOk X pins H b ∧ b < s.heap.objs.size) (hge : ge = genEnv scope (cloFrom X.env.cells scope.names []) s.heap.objs.size code builtinsNs X.env) (nocell : ∀ y ∈ scope.names, y.2 ≠ .cell)
    (hA : Ag.handled = none) (hfr : Ag.frames = some (ge :: X.stack)) (k5 : ∀ b o, s.heap.get? b = some o → s5.heap.get? b = some o) (os5 : s5.os = s.os) (bare5 : AllBare s5.gens)
    (ns5 : s5.heap.Ns s.heap.objs.size m) (hga : s5.heap.get? ga = some go) (hgt : s.heap.objs.size < ga) (hgd : ∀ v, go.data ≠ .cell v) :
    Inv (gcx X s H ge fp Ag) [(ga, go)] (wipe σ (own.map (·.2))) H s5 := by
  have hL : ge.locals = s.heap.objs.size := by
    rw [hge]
    rfl
  have hC : ge.cells = cloFrom X.env.cells scope.names [] := by
    rw [hge]
    rfl
  have hS : ge.scope = scope := by
    rw [hge]
    rfl
  have inC : ∀ {y c}, ge.cells.lookup y = some c → X.env.cells.lookup y = some c ∧ c < s.heap.objs.size := fun {y c} e => by
    rw [hC] at e
    have z := clo_in I ok (PySem.mem_of_lookup e)
    exact ⟨z.1, z.2.1⟩
  have look : ∀ {y}, scope.names.lookup y = some .free → ∃ c, ge.cells.lookup y = some c ∧ X.env.cells.lookup y = some c := fun {y} hl => by
    have hm := cloFrom_has (cells := X.env.cells) (acc := []) (PySem.mem_of_lookup hl)
    obtain ⟨c, e⟩ := mem_lookup hm
    rw [← hC] at e
    exact ⟨c, e, (inC e).1⟩
  have kindF : ∀ {y k}, scope.names.lookup y = some k → (k = .cell ∨ k = .free) → scope.names.lookup y = some .free := fun {y k} e hk => by
    rcases hk with rfl | rfl
    · exact absurd rfl (nocell _ (PySem.mem_of_lookup e))
    · exact e
  have okG : (gcx X s H ge fp Ag).Ok := by
    refine ⟨I.ok.mod, ?_, ?_, ?_, ?_, ?_, ?_, ?_, fun _ => hA, hfr, .inr ⟨rfl, ?_⟩, ?_, I.bs, Nat.le_trans I.ok.bsz I.sz, ?_, ?_, I.stack, I.stkFree⟩
    · show ge.scope.kind = .function
      rw [hS]
      exact ok.kind
    · show ge.globals = mainGlobals
      rw [hge]
      exact I.ok.glob
    · show ge.builtins = builtinsNs
      rw [hge]
      rfl
    · show s.heap.objs.size ≤ ge.locals
      rw [hL]
      exact Nat.le_refl _
    · intro y z c e1 e2
      exact I.ok.inj y z c (inC e1).1 (inC e2).1
    · intro y hy
      have e : scope.names.lookup y = some .free := by
        rcases hy with hy | hy
        · have hy2 : ge.scope.names.lookup y = some .cell := hy
          rw [hS] at hy2
          exact kindF hy2 (.inl rfl)
        · have hy2 : ge.scope.names.lookup y = some .free := hy
          rw [hS] at hy2
          exact hy2
      obtain ⟨c, e1, _⟩ := look e
      exact ⟨c, e1⟩
    · intro y c z
      cases z
    · show ge.frame = some ge.locals
      rw [hge]
      rfl
    · intro b hb
      refine ⟨?_, fun y c e z => ?_⟩
      · show b ≠ ge.locals
        rw [hL]
        exact Nat.ne_of_lt (hfp b hb).2
      · exact (hfp b hb).1.2.2.2.2.1 y c (inC e).1 z
    · intro b o e hb
      rcases (hfp b hb).1.2.2.2.1 with z | z
      · exact I.ok.noex b o e z
      · exact absurd (Nat.lt_of_lt_of_le (Heap.lt_size e) (Nat.le_trans I.ok.bsz z)) (Nat.lt_irrefl _)
    · intro b hb z
      rcases List.mem_cons.mp (I.stkSub b z) with z | z
      · exact (hfp b hb).1.2.1 z
      · exact (hfp b hb).1.2.2.1 z
  have frL : H s.heap.objs.size = none := I.hok.fresh (Nat.le_refl _)
  refine ⟨okG, os5, bare5, Un.kept k5, ⟨m, ?_, fun i y av e1 e2 e3 => ?_⟩, fun y c e => ?_, ?_, fun y c e => I.freeC y c (inC e).1, fun p hp => ?_, I.hok.kept k5, by rw [wipe_length]; exact I.len⟩
  · show s5.heap.Ns ge.locals m
    rw [hL]
    exact ns5
  · obtain ⟨e2, hne⟩ := wipe_some e2
    have e3 : Vis ge.scope y := e3
    rw [hS] at e3
    have nol : scope.names.lookup y ≠ some .local := fun z => by
      rcases ok.own _ (PySem.mem_of_lookup z) (.inl rfl) with q | q
      · obtain ⟨p, hp, hpy⟩ := List.mem_map.mp q
        have e5 := ok.ix p hp
        have e6 : p.1 = y := hpy
        rw [e6] at e5
        exact hne (List.mem_map.mpr ⟨p, hp, nodup_ix hN e5 e1⟩)
      · exact q (List.mem_of_getElem? e1)
    have hf : scope.names.lookup y = some .free := by
      rcases e3 with z | z | z
      · exact absurd z nol
      · exact kindF z (.inl rfl)
      · exact z
    obtain ⟨m0, hn, hl⟩ := I.loc
    have hvis : Vis X.env.scope y := (ok.free _ (PySem.mem_of_lookup hf) rfl).elim (fun k => .inr (.inl k)) (fun k => .inr (.inr k))
    obtain ⟨u, r, q⟩ := hl i y av e1 e2 hvis
    obtain ⟨c, g1, g2⟩ := look hf
    refine ⟨u, r, .inr ⟨.inr ?_, c, g1, ?_⟩⟩
    · show ge.scope.names.lookup y = some .free
      rw [hS]
      exact hf
    · rcases q with ⟨k, _⟩ | ⟨_, c', e', z⟩
      · have k : X.env.scope.names.lookup y = some .local := k
        rcases ok.free _ (PySem.mem_of_lookup hf) rfl with k' | k'
        · have k2 : X.env.scope.names.lookup y = some .cell := k'
          rw [k2] at k
          cases k
        · have k2 : X.env.scope.names.lookup y = some .free := k'
          rw [k2] at k
          cases k
      · rw [g2] at e'
        cases e'
        exact z.keeps k5
  · obtain ⟨v, z⟩ := I.cell y c (inC e).1
    exact ⟨v, z.keeps k5⟩
  · show H ge.locals = none
    rw [hL]
    exact frL
  · have hp2 : p ∈ ([] : List (Addr × Obj)) ++ [(ga, go)] := hp
    rw [List.nil_append] at hp2
    rcases List.mem_cons.mp hp2 with e | e
    · subst e
      refine ⟨hga, I.hok.fresh (Nat.le_of_lt hgt), ?_, fun z => ?_, hgd⟩
      · show ga ≠ ge.locals
        rw [hL]
        exact Nat.ne_of_gt hgt
      · have z2 : ga ∈ frs X.stack := z
        obtain ⟨_, o, ho, _⟩ := I.stack.mem z2
        exact absurd (Nat.lt_trans (Heap.lt_size ho) hgt) (Nat.lt_irrefl _)
    · cases e
end
section
variable {X : Cx} {pins : List (Addr × Obj)} {σ : L2.St} {H : Hp} {s : Shared}
/-- the generator's object -/
def genO (X : Cx) (s4 : Shared) : Obj := { cls := .type "generator", data := .fields #[.int s4.gens.size 0, .str "<genexpr>" (s4.toks + 1), .str (X.env.qual ++ "<genexpr>") (s4.toks + 1 + 1)] }
/-- the generator is made: its source has come, the def's table may have grown -/
theorem gen_make {c P : Addr} {elt tg iter : Expr} {gpos : Pos} {scope : Scope} {own : List (Str × Nat)} {wi : TI} {k : Nat} {Q' : Value → Shared → Prop} {R : It → Hp → Prop} (hr : Room k X.A) (TB : GxR.TabB X.base X.mg c P) (hcode : X.env.code = .ref c)
    (ok : BlkOk X.N X.env.scope scope own) (hco : scope.isCoroutine = false) (nocell : ∀ y ∈ scope.names, y.2 ≠ .cell) (hdot : scope.names.lookup (".0" : Str) = some NameKind.local) (hi : PI X tg iter wi) (hs : ∀ v, genFold iter X.env v = pure v)
    (I : Inv X pins σ H s) (h : wi σ H fun J H1 => GxR.TabG H1 P ∧ R J H1)
    (hQ : ∀ (it : Addr) (fp : List Addr) (tn : Nat → Heap → Prop) (J : It) (H1 H2 : Hp) (code : Value) (s4 : Shared) (h5 : Heap), Inv X pins σ H2 s4 → GxR.Tabbed P H1 H2 → Turn X.prog X.w X.K tg J fp it tn → tn 0 s4.heap →
      (∀ b ∈ fp, FpOk X pins H2 b ∧ b < s4.heap.objs.size) → R J H1 → h5.Ns s4.heap.objs.size (fun y => if y = ".0" then some (.ref it) else none) → Heap.SameBut s4.heap.objs.size (s4.heap.push { cls := .type "frame", data := .dict #[] }) h5 →
      Q' (.ref h5.objs.size) { s4 with gens := s4.gens.push (.fresh (.compStart (.GeneratorExp elt [⟨tg, iter, [], 0⟩] scope gpos) 0 (.ref it) .none (genEnv scope (cloFrom X.env.cells scope.names []) s4.heap.objs.size code builtinsNs X.env))), toks := s4.toks + 1 + 1 + 1, heap := h5.push (genO X s4) }) :
    wpAny (model X.prog X.w) X.A (eval (.GeneratorExp elt [⟨tg, iter, [], 0⟩] scope gpos) X.env) Q' X.xe s := by
  have hfree : ∀ y ∈ scope.names, y.2 = .free → ∃ c, X.env.cells.lookup y.1 = some c := fun y hy e => by
    rcases ok.free y hy e with z | z
    · exact I.ok.has _ (.inl z)
    · exact I.ok.has _ (.inr z)
  refine wpAny_GeneratorExp_make hco (closure_ok hfree) nocell hdot ok.kind (by have := hr.dp; omega) ?_ hs
  refine thn (hi.run pins s σ H _ I h) fun xv s1 hx => thn hx fun itv s2 h2 => ?_
  obtain ⟨it, fp, tn, J, H1, rfl, I1, T, st, f1, ⟨ps, hP, ht⟩, q1⟩ := h2
  have hPs : s2.heap.get? P = some { cls := .none, data := .fields ps } := I1.hok P _ hP
  have cd : PySem.W.CodeHd s2.heap c P := TB.code.keeps fun b u e => I1.bk b u e
  have nP : ∀ b, H1 b = none → b ≠ P := fun b e z => by
    rw [z, hP] at e
    cases e
  have fsz : ∀ b ∈ fp, b < s2.heap.objs.size := fun b hb => by
    obtain ⟨o, e, _⟩ := T.obj _ _ st b hb
    exact Heap.lt_size e
  have cont : ∀ (code : Value) (h3 : Heap) (tk : Nat) (ps' : Array Value), Heap.ExtBut P s2.heap h3 → s2.heap.objs.size ≤ h3.objs.size → h3.get? P = some { cls := .none, data := .fields ps' } → (∃ more, ps' = ps ++ more) → TriplesOk ps'.toList →
      wpAny (model X.prog X.w) X.A (builtinsFor X.env.globals X.env.builtins) (fun bi s4 => ∀ h5, h5.Ns s4.heap.objs.size (fun y => if y = ".0" then some (.ref it) else none) → Heap.SameBut s4.heap.objs.size (s4.heap.push { cls := .type "frame", data := .dict #[] }) h5 →
        Q' (.ref h5.objs.size) { s4 with gens := s4.gens.push (.fresh (.compStart (.GeneratorExp elt [⟨tg, iter, [], 0⟩] scope gpos) 0 (.ref it) .none (genEnv scope (cloFrom X.env.cells scope.names []) s4.heap.objs.size code bi X.env))), toks := s4.toks + 1 + 1 + 1, heap := h5.push (genO X s4) }) X.xe { s2 with heap := h3, toks := tk } := by
    intro code h3 tk ps' hx hsz hP3 hmore ht3
    obtain ⟨bm, ob, e1, e2, e3, e4, e5, e6, e7, e8⟩ := TB.bm
    have keep3 : ∀ b u, b ≠ P → s2.heap.get? b = some u → h3.get? b = some u := fun b u hb e => hx b u hb e
    refine wpAny_builtinsFor (m := X.mg) (by rw [I1.ok.glob]; exact (I1.mod.glob.keeps I1.bk).extBut hx TB.gP) e1 e2 (keep3 _ _ e4 (I1.bk _ _ e5)) e6 e7 e8 ?_
    intro h5 n5 b5
    obtain ⟨more, em⟩ := hmore
    have J0 := GxR.inv_tab (more := more) (h' := h3) (g' := s2.gens) (d' := s2.drawn) (t' := tk) I1 hP keep3 (by rw [← em]; exact hP3) I1.bare
    refine hQ it fp tn J H1 (upd H1 P (.tbl (ps ++ more))) code { s2 with heap := h3, toks := tk } h5 J0 ⟨⟨ps ++ more, upd_same, by rw [← em]; exact ht3⟩, fun b hb => upd_ne hb⟩ T ?_ ?_ q1 n5 b5
    · refine T.keep _ _ _ st fun b hb o e => keep3 b o (nP b (f1 b hb).1) e
    · intro b hb
      refine ⟨⟨?_, (f1 b hb).2⟩, Nat.lt_of_lt_of_le (fsz b hb) hsz⟩
      rw [upd_ne (nP b (f1 b hb).1)]
      exact (f1 b hb).1
  refine ⟨I1.nolimit, ?_⟩
  cases hf : codeAmong gpos ps.toList with
  | none =>
    refine wpAny_genexprCodeX hcode (cd.code hPs ht) (cd.tab hPs) hf fun c' h' tk hx hge hlt hco' _ htab' _ => ?_
    obtain ⟨o1, vs, f1', tf, fl, tg', inF, tx, tt, op, _, _, _, _, _, _, _, _, _, htr, _⟩ := hco'
    exact cont _ h' tk _ hx (Nat.le_trans hge (Nat.le_of_lt hlt)) htab'.2 ⟨_, rfl⟩ htr
  | some cv =>
    refine wpAny_genexprCode_hit hcode (cd.code hPs ht) hf ?_
    exact cont cv s2.heap s2.toks ps (Heap.ExtBut.refl _ _) (Nat.le_refl _) hPs ⟨#[], by simp⟩ ht
end
/-- nothing but the table of generators has changed -/
structure Woke (s s2 : Shared) : Prop where
  hp : s2.heap = s.heap
  os : s2.os = s.os
  br : AllBare s2.gens
theorem inv_woke {X : Cx} {pins : List (Addr × Obj)} {σ : L2.St} {H : Hp} {s s2 : Shared} (I : Inv X pins σ H s) (k : Woke s s2) : Inv X pins σ H s2 := by
  obtain ⟨h2, g2, d2, t2, o2⟩ := s2
  obtain ⟨h1, g1, d1, t1, o1⟩ := s
  obtain ⟨e1, e2, br⟩ := k
  dsimp only at e1 e2
  subst e1 e2
  exact ⟨I.ok, I.os, br, I.base, I.loc, I.cell, I.free, I.freeC, I.pin, I.hok, I.len⟩
/-- what a generator expression under all is asked -/
def gTurns (J : It) (g : TG) (te : TE) (σw : L2.St) (vs : List Nat) (W : Nat → Nat → Hp → Prop) (Q : Bool → Hp → Prop) : Prop :=
  ∀ i m H, W i m H → (J.stop i H ∧ Q true H) ∨ (J.go i H ∧ ∀ x H', J.yld i H x H' → g x σw H' fun σ2 H2 => wipe σ2 vs = σw ∧ te σ2 H2 fun y H3 => ∃ b, y = .bl b ∧ if b = true then ∃ m', m' < m ∧ W (i + 1) m' H3 else Q false H3)
def gFin (G : Cx) (pn : Addr × Obj) (σw : L2.St) (Q : Bool → Hp → Prop) (b : Bool) (s : Shared) : Prop := ∃ H', Inv G [pn] σw H' s ∧ Q b H'
def gY (G : Cx) (pn : Addr × Obj) (σw : L2.St) (Q : Bool → Hp → Prop) : Protocol := fun _ _ v s kap =>
  ∃ b : Bool, v = .bool b ∧ (∃ H', Inv G [pn] σw H' s) ∧ (b = true → ∀ s2, Woke s s2 → kap (.send .none) s2) ∧ (b = false → gFin G pn σw Q false s)
section
variable {G : Cx} {pn : Addr × Obj} {σw : L2.St} {Q : Bool → Hp → Prop} {A2 : Around} {elt tg iter : Expr} {scope : Scope} {gpos : Pos} {it : Addr} {fp : List Addr} {tn : Nat → Heap → Prop} {J : It} {g : TG} {te : TE} {vs : List Nat} {W : Nat → Nat → Hp → Prop}
theorem gen_loop (hA : G.A = A2.over (.compLoop (.GeneratorExp elt [⟨tg, iter, [], 0⟩] scope gpos) 0 (.ref it) .none G.env) []) (hc : G.calm = true) (hex : G.ex = fp) (hpn : G.pn = []) (hxe : G.xe = fun _ _ => False) (hco : G.env.scope.isCoroutine = false)
    (T : Turn G.prog G.w G.K tg J fp it tn) (hgp : ∀ b ∈ fp, pn.1 ≠ b) (pg : PG G tg g) (pe : PE G elt te) (hsw : ∀ σ2 : L2.St, wipe σ2 vs = σw → σ2.length = σw.length ∧ ∀ (i : Nat) v, σw[i]? = some (some v) → σ2[i]? = some (some v)) (turn : gTurns J g te σw vs W Q) :
    ∀ (m n i : Nat) (s₀ s : Shared), m < n → (∃ H', Inv G [pn] σw H' s ∧ tn i s.heap ∧ (∀ b ∈ fp, H' b = none) ∧ W i m H') →
      Seg (model G.prog G.w) A2 (fun _ _ r s1 => r = .ok .next ∧ gFin G pn σw Q true s1) (gY G pn σw Q) n s₀ (.compLoop (.GeneratorExp elt [⟨tg, iter, [], 0⟩] scope gpos) 0 (.ref it) .none G.env)
        ((model G.prog G.w).den (.compLoop (.GeneratorExp elt [⟨tg, iter, [], 0⟩] scope gpos) 0 (.ref it) .none G.env)) [] s := by
  have stat : ∀ {σ' : L2.St} {H' : Hp} {s' : Shared}, Inv G [pn] σ' H' s' → (∀ b ∈ fp, H' b = none) → ∀ b ∈ fp, FpOk G [pn] H' b := fun {σ' H' s'} I' hn b hb => by
    have hb2 : b ∈ G.ex := by
      rw [hex]
      exact hb
    refine ⟨hn b hb, (I'.ok.exf b hb2).1, I'.ok.exfs b hb2, .inl hb2, fun x c e => (I'.ok.exf b hb2).2 x c e, fun p hp => ?_⟩
    rw [hpn] at hp
    have hp2 : p ∈ [pn] := hp
    rw [List.mem_singleton.mp hp2]
    exact hgp b hb
  intro m
  induction m using Nat.strongRecOn with
  | ind m ih =>
    rintro n i s₀ s hmn ⟨H', I, st, nf, w⟩
    obtain ⟨n, rfl⟩ : ∃ n', n = n' + 1 := ⟨n - 1, by omega⟩
    show Seg _ A2 _ _ _ s₀ _ ((compTurn (.GeneratorExp elt [⟨tg, iter, [], 0⟩] scope gpos) 0 (.ref it) .none G.env).onRaise (leaving G.env)) [] s
    rw [compTurn_gen, Sem.onRaise_eq_wrap]
    refine seg_bind_wrap (wpAny_standAt ?_)
    rcases turn i m H' w with ⟨stop, qq⟩ | ⟨gox, step⟩
    · have td := T.done G rfl rfl rfl hc i [pn] s σw H' (fun _ _ => False) I (stat I nf) st stop
      rw [hA] at td
      refine seg_bind_wrap (thnF td fun r s6 z => ?_)
      obtain ⟨hr, I6⟩ := z
      subst hr
      exact seg_end (.ok .next) ⟨rfl, H', I6, qq⟩
    · have ti := T.item G rfl rfl rfl hc i [pn] s σw H' (fun _ _ => False) I (stat I nf) st gox
      rw [hA] at ti
      refine seg_bind_wrap (thnF ti fun r s6 z => ?_)
      obtain ⟨u, hr, h6⟩ := z
      subst hr
      refine seg_bind_wrap (thnF h6 fun _ s7 z => ?_)
      obtain ⟨x, H7, I7, r7, y7, st7, n7⟩ := z
      have I7' := I7.pinned (stat I7 n7) (T.obj _ _ st7)
      have pr := pg.run _ s7 _ H7 x u _ I7' r7 (step x H7 y7)
      rw [hA, hxe] at pr
      refine seg_bind_wrap (thnF pr fun _ s8 z => ?_)
      obtain ⟨σ8, H8, I8, hw8, q8⟩ := z
      have hy : ∀ v, yieldOut G.env v = yieldValue v := fun v => by simp only [yieldOut, hco, Bool.false_eq_true, if_false]
      simp only [List.forIn_nil, hy]
      refine seg_bind_wrap (wpAny_pure ?_)
      simp only [if_true]
      rw [Sem.bind_eq_wrap', Sem.bind_eq_wrap', Sem.wrap_wrap, Sem.wrap_wrap]
      have er := pe.run _ s8 σ8 H8 _ I8 q8
      rw [hA, hxe] at er
      refine seg_wrap (thnF er fun z s10 zz => ?_)
      obtain ⟨yv, H10, I10, r10, b, rfl, nx⟩ := zz
      cases r10
      have pin' : ∀ b ∈ fp, ∀ o, s7.heap.get? b = some o → s10.heap.get? b = some o ∧ H10 b = none := fun b hb o e =>
        let z := I10.pin (b, o) (List.mem_append_right _ (List.mem_append_right _ (mem_pinsAt hb e)))
        ⟨z.1, z.2.1⟩
      obtain ⟨hl8, hk8⟩ := hsw σ8 hw8
      have J10 : Inv G [pn] σw H10 s10 := (I10.unpinned (pins := [pn])).weak hl8.symm hk8
      refine seg_at (seg_yield rfl rfl rfl ⟨b, rfl, ⟨H10, J10⟩, fun hb s2 wk => ?_, fun hb => ?_⟩)
      · subst hb
        rw [if_pos rfl] at nx
        obtain ⟨m', hm', w'⟩ := nx
        refine seg_again rfl (ih m' hm' n (i + 1) s2 s2 (by omega) ⟨H10, inv_woke J10 wk, ?_, fun b hb => ?_, w'⟩)
        · rw [wk.hp]
          exact T.keep _ _ _ st7 fun b hb o e => (pin' b hb o e).1
        · obtain ⟨o, e, _⟩ := T.obj _ _ st7 b hb
          exact (pin' b hb o e).2
      · subst hb
        exact ⟨H10, J10, nx⟩
end
section
variable {M : Model} {A2 : Around} {R : GenEnd} {Y : Protocol} {n : Nat} {s₀ s : Shared} {elt tg iter : Expr} {scope : Scope} {gpos : Pos} {it : Addr} {ge : Env}
/-- the first turn -/
theorem gen_first {P : Program} {w : World} (hself : ∀ (Q : Value → Shared → Prop) (E : Value → Shared → Prop), Q (.ref it) s → wpAny (model P w) (A2.over (.compStart (.GeneratorExp elt [⟨tg, iter, [], 0⟩] scope gpos) 0 (.ref it) .none ge) []) (pyIter (.ref it)) Q E s)
    (loop : Seg (model P w) A2 R Y n s₀ (.compLoop (.GeneratorExp elt [⟨tg, iter, [], 0⟩] scope gpos) 0 (.ref it) .none ge) ((model P w).den (.compLoop (.GeneratorExp elt [⟨tg, iter, [], 0⟩] scope gpos) 0 (.ref it) .none ge)) [] s) :
    Seg (model P w) A2 R Y n s₀ (.compStart (.GeneratorExp elt [⟨tg, iter, [], 0⟩] scope gpos) 0 (.ref it) .none ge) ((model P w).den (.compStart (.GeneratorExp elt [⟨tg, iter, [], 0⟩] scope gpos) 0 (.ref it) .none ge)) [] s := by
  show Seg _ A2 _ _ _ s₀ _ ((compStart (.GeneratorExp elt [⟨tg, iter, [], 0⟩] scope gpos) 0 (.ref it) .none ge).onRaise (leaving ge)) [] s
  unfold compStart
  rw [Sem.onRaise_eq_wrap]
  show Seg _ A2 _ _ _ s₀ _ ((ask >>= _).wrap _ _ _ _) [] s
  refine seg_bind_wrap (wpAny_askSetting ?_)
  split
  · exact seg_again rfl loop
  · first
      | exact seg_bind_wrap (wpAny_rule (seg_bind_wrap (wpAny_standAt (seg_bind_wrap (hself _ _ (seg_again rfl loop))))))
      | (refine seg_bind_wrap (wpAny_rule ?_)
         show Seg _ A2 _ _ _ s₀ _ ((standAt iter.pos >>= _).wrap _ _ _ _) [] s
         exact seg_bind_wrap (wpAny_standAt (seg_bind_wrap (hself _ _ (seg_again rfl loop)))))
end
theorem bare_set {gens : Array GenState} {x : GenState} (h : AllBare gens) (hx : x.bare = true) (i : Nat) : AllBare (gens.setIfInBounds i x) := fun y hy => by
  rw [Array.mem_iff_getElem?] at hy
  obtain ⟨j, hj⟩ := hy
  by_cases e : i = j
  · subst e
    by_cases hi : i < gens.size
    · rw [Array.getElem?_setIfInBounds_self_of_lt hi] at hj
      rw [← Option.some.inj hj]
      exact hx
    · rw [Array.getElem?_eq_none (by simpa using hi)] at hj
      cases hj
  · rw [Array.getElem?_setIfInBounds_ne e] at hj
    exact h y (Array.mem_iff_getElem?.mpr ⟨j, hj⟩)
/-- all over the generator at a, number gi: its turns by the protocol -/
theorem all_gen {G : Cx} {pn : Addr × Obj} {σw : L2.St} {Q : Bool → Hp → Prop} {A : Around} {gi : Nat} {RR : Result → Shared → Prop} (hh : A.handled = none) (hroom : A.depth < recursionLimit) (hgen : ∀ h : Heap, h.get? pn.1 = some pn.2 → h.IsGen pn.1 gi)
    (hR : ∀ b s1, gFin G pn σw Q b s1 → ∀ s2 : Shared, (∀ b o, s1.heap.get? b = some o → s2.heap.get? b = some o) → s2.os = s1.os → AllBare s2.gens → RR (.ok (.ret (.bool b))) s2) :
    ∀ (n : Nat) (s : Shared), (∃ H', Inv G [pn] σw H' s) → gi < s.gens.size → (∃ gs, s.gens[gi]? = some gs ∧ ∀ s2, Woke s s2 → gs.Goes (model G.prog G.w) A.in1.in1 (fun _ _ r s1 => r = .ok .next ∧ gFin G pn σw Q true s1) (gY G pn σw Q) n (.send .none) s2) →
      codeAny (model G.prog G.w) A (.builtin "all.loop" ⟨[.ref pn.1], []⟩) RR s := by
  intro n
  induction n using Nat.strongRecOn with
  | ind n ih =>
    rintro s ⟨H', I⟩ hgi ⟨gs, hgs, hgo⟩
    have hpin := (I.pin pn (List.mem_append_right _ (List.mem_singleton.mpr rfl))).1
    have brun : AllBare (s.setGen gi .running).gens := bare_set I.bare rfl gi
    refine codeAny_builtin F.entry_all_loop ?_
    rw [Around.under_plainId F.plain_all_loop _]
    show wpAny _ A.in1 (pyNext (.ref pn.1) >>= _) _ _ s
    refine wpAny_bind (GenW.wpAny_gsz (n := s.gens.size) (Nat.le_refl _) ?_)
    refine wpAny_pyNext_genexpQ (P := fun _ _ s1 => gFin G pn σw Q true s1) hh I.nolimit hroom (hgen _ hpin) hgs (hgo _ ⟨rfl, rfl, brun⟩) (fun v s₁ gs' hb hv hsz => ?_) (fun s₁ hp h' hk hsz => ?_)
    · obtain ⟨b, rfl, ⟨H1, I1⟩, ht, hf⟩ := hv
      have b1 : AllBare (s₁.setGen gi gs').gens := bare_set I1.bare hb gi
      refine wpAny_bind (wpAny_holding (wpAny_truthy_bool ?_))
      refine wpAny_bind (wpAny_letGo ?_)
      cases b with
      | false =>
        simp only [Bool.false_eq_true, if_false]
        refine wpAny_bind (wpAny_rule (wpAny_pure ?_))
        exact hR false s₁ (hf rfl) (s₁.setGen gi gs') (fun _ _ e => e) rfl b1
      | true =>
        simp only [if_true]
        have hlt : gi < (s₁.setGen gi gs').gens.size := Nat.lt_of_lt_of_le hgi hsz
        have hlt1 : gi < s₁.gens.size := by
          have e := GenW.setGen_size s₁ gi gs'
          omega
        cases n with
        | zero => exact absurd (ht rfl s₁ ⟨rfl, rfl, I1.bare⟩) id
        | succ n =>
          refine wpAny_pure ⟨plainId_quiet F.plain_all_loop _, ih n (Nat.lt_succ_self n) (s₁.setGen gi gs') ⟨H1, inv_woke I1 ⟨rfl, rfl, b1⟩⟩ hlt ⟨gs', ?_, fun s2 wk => ht rfl s2 ⟨wk.hp, wk.os, wk.br⟩⟩⟩
          show (s₁.gens.setIfInBounds gi gs')[gi]? = some gs'
          rw [Array.getElem?_setIfInBounds_self_of_lt hlt1]
    · refine wpAny_bind (wpAny_rule (wpAny_pure ?_))
      obtain ⟨H1, I1, q1⟩ := id hp
      exact hR true s₁ hp { s₁.setGen gi .finished with heap := h' } hk rfl (bare_set I1.bare rfl gi)
def tAllG (P : Addr) (wi : TI) (g : TG) (te : TE) (vs : List Nat) : TE := fun σ H Q => wi σ H fun J H1 => GxR.TabG H1 P ∧ ∀ H2, GxR.Tabbed P H1 H2 → ∃ W : Nat → Nat → Hp → Prop, (∃ m, W 0 m H2) ∧ gTurns J g te (wipe σ vs) vs W (fun b H' => Q (.bl b) H')
theorem pe_allG {X : Cx} {c P : Addr} {elt tg iter : Expr} {p pos gpos : Pos} {scope : Scope} {own : List (Str × Nat)} {wi : TI} {g : TG} {te : TE} {k : Nat} (hr : Room (k + 1) X.A) (hc : X.calm = true) (hN : X.N.Nodup) (hg : Gl X "all") (hm : X.mg "all" = none) (hb : bootBuiltins "all" = some (.builtin "all"))
    (TB : GxR.TabB X.base X.mg c P) (hcode : X.env.code = .ref c) (ok : BlkOk X.N X.env.scope scope own) (hco : scope.isCoroutine = false) (nocell : ∀ y ∈ scope.names, y.2 ≠ .cell) (hdot : scope.names.lookup (".0" : Str) = some NameKind.local) (hi : PI X tg iter wi)
    (hgt : ∀ (s : Shared) (H : Hp) (cl : List (Str × Addr)) (C : Addr) (code : Value) (fp : List Addr) (Ag : Around), PG (gcx X s H (genEnv scope cl C code builtinsNs X.env) fp Ag) tg g)
    (hel : ∀ (s : Shared) (H : Hp) (cl : List (Str × Addr)) (C : Addr) (code : Value) (fp : List Addr) (Ag : Around), Room k Ag → PE (gcx X s H (genEnv scope cl C code builtinsNs X.env) fp Ag) elt te)
    (hs : ∀ v, genFold iter X.env v = pure v := by intro _; rfl)
    (he : starEach [.GeneratorExp elt [⟨tg, iter, [], 0⟩] scope gpos] X.env = (false, eval (.GeneratorExp elt [⟨tg, iter, [], 0⟩] scope gpos) X.env) :: starEach [] X.env := by rfl) :
    PE X (.Call (.Name "all" p) [.GeneratorExp elt [⟨tg, iter, [], 0⟩] scope gpos] [] pos) (tAllG P wi g te (own.map (·.2))) := by
  constructor
  intro pins s σ H Q I h
  refine wpAny_Call_Name_kw (ld_blt I hg hm hb ?_)
  refine PyProof.Rows.callWith_builtin1 ?_ he (by rfl)
  rw [he]
  show wpAny _ _ (spliced ((false, eval (.GeneratorExp elt [⟨tg, iter, [], 0⟩] scope gpos) X.env) :: backTo pos (starEach [] X.env))) _ _ s
  refine Calls.spliced_cons (gen_make (hr.mono (Nat.le_succ k)) TB hcode ok hco nocell hdot hi hs I h fun it fp tn J H1 H2 code s4 h5 I4 tb T st f4 hR n5 b5 => ?_)
  refine Calls.spliced_nil ?_
  obtain ⟨W, ⟨m, w0⟩, turns⟩ := hR H2 tb
  show wpAny _ _ (call (.builtin "all") [.ref h5.objs.size]) _ _ _
  have sz5 : h5.objs.size = s4.heap.objs.size + 1 := by
    rw [b5.1, Heap.size_push]
  generalize hge : genEnv scope (cloFrom X.env.cells scope.names []) s4.heap.objs.size code builtinsNs X.env = ge
  have k5 : ∀ b o, s4.heap.get? b = some o → (h5.push (genO X s4)).get? b = some o := fun b o e =>
    Heap.get?_push_of_some _ (b5.extBut b o (Nat.ne_of_lt (Heap.lt_size e)) (Heap.get?_push_of_some _ e))
  have ga5 : (h5.push (genO X s4)).get? h5.objs.size = some (genO X s4) := Heap.get?_push_size _ rfl
  have hAg : (X.A.in1.in1.over (.compLoop (.GeneratorExp elt [⟨tg, iter, [], 0⟩] scope gpos) 0 (.ref it) .none ge) []).handled = none := hr.hd
  have hFr : (X.A.in1.in1.over (.compLoop (.GeneratorExp elt [⟨tg, iter, [], 0⟩] scope gpos) 0 (.ref it) .none ge) []).frames = some (ge :: X.stack) := by
    show pushEnvs [ge] (pushEnvs [] X.A.frames) = some (ge :: X.stack)
    rw [I4.ok.frames]
    rfl
  have hRm : Room k (X.A.in1.in1.over (.compLoop (.GeneratorExp elt [⟨tg, iter, [], 0⟩] scope gpos) 0 (.ref it) .none ge) []) := by
    have e1 : (X.A.in1.in1.over (.compLoop (.GeneratorExp elt [⟨tg, iter, [], 0⟩] scope gpos) 0 (.ref it) .none ge) []).depth = X.A.depth + 1 := rfl
    have e2 : (X.A.in1.in1.over (.compLoop (.GeneratorExp elt [⟨tg, iter, [], 0⟩] scope gpos) 0 (.ref it) .none ge) []).units = X.A.units + 5 := rfl
    have d1 := hr.dp
    have d2 := hr.un
    exact ⟨hr.hd, by rw [e1]; omega, by rw [e2]; omega⟩
  have I5 := gen_start (s5 := { s4 with gens := s4.gens.push (.fresh (.compStart (.GeneratorExp elt [⟨tg, iter, [], 0⟩] scope gpos) 0 (.ref it) .none ge)), toks := s4.toks + 1 + 1 + 1, heap := h5.push (genO X s4) }) I4 ok hN f4 hge.symm nocell hAg hFr k5 rfl (I4.bare.push rfl) (n5.keeps fun b o e => Heap.get?_push_of_some _ e) ga5 (by omega) (fun v z => by cases z)
  have st5 : tn 0 (h5.push (genO X s4)) := T.keep _ _ _ st fun b _ o e => k5 b o e
  refine call_function_tree F.kind_all F.plain_all F.entry_all (F.args_all1 _) ?_
  unfold Builtin.«all»
  refine wpAny_bind (m := oneArg "all" _) (wpAny_pure ?_)
  have isg : ∀ hh : Heap, hh.get? h5.objs.size = some (genO X s4) → hh.IsGen h5.objs.size s4.gens.size := fun hh e => ⟨_, _, _, e, rfl, rfl, rfl⟩
  refine wpAny_bind (wpAny_pyIter_gen (isg _ ga5) ?_)
  refine wpAny_pure ⟨plainId_quiet F.plain_all_loop _, ?_⟩
  refine all_gen (G := gcx X s4 H2 ge fp (X.A.in1.in1.over (.compLoop (.GeneratorExp elt [⟨tg, iter, [], 0⟩] scope gpos) 0 (.ref it) .none ge) [])) (pn := (h5.objs.size, genO X s4)) (σw := wipe σ (own.map (·.2))) (Q := fun b H' => Q (.bl b) H') (gi := s4.gens.size)
    hr.hd (by have := hr.dp; omega) isg (fun b s1 hf s2 hk ho hbr => ?_) (m + 1) _ ⟨H2, I5⟩ (by show s4.gens.size < (s4.gens.push _).size; rw [Array.size_push]; omega) ⟨.fresh (.compStart (.GeneratorExp elt [⟨tg, iter, [], 0⟩] scope gpos) 0 (.ref it) .none ge), by show (s4.gens.push _)[s4.gens.size]? = some _; rw [Array.getElem?_push_size], fun s2 wk => ⟨rfl, ?_⟩⟩
  · obtain ⟨H', I', q'⟩ := hf
    have un : Un (frs X.stack) fp H2 H' s4.heap s2.heap := Un.trans I'.base (Un.kept hk)
    have J' : Inv X pins σ H' s2 := I4.call' (ch := fp) (ho.trans I'.os) un (I'.hok.kept hk) hbr fun b hb => ⟨(f4 b hb).1.2.2.2.1, (f4 b hb).1.2.1, (f4 b hb).1.2.2.2.2.1, (f4 b hb).1.2.2.2.2.2⟩
    exact ⟨.bl b, H', J', rfl, q'⟩
  · have nfp : ∀ b ∈ fp, H2 b = none := fun b hb => (f4 b hb).1.1
    refine gen_first (fun Q1 E1 q1 => T.self _ 0 s2 Q1 E1 (by rw [wk.hp]; exact st5) q1) ?_
    refine gen_loop (G := gcx X s4 H2 ge fp (X.A.in1.in1.over (.compLoop (.GeneratorExp elt [⟨tg, iter, [], 0⟩] scope gpos) 0 (.ref it) .none ge) [])) (tn := tn) (vs := own.map (·.2)) (W := W) rfl hc rfl rfl rfl ?_ T (fun b hb => ?_) ?_ ?_ ?_ turns m (m + 1) 0 s2 s2 (Nat.lt_succ_self m) ⟨H2, inv_woke I5 wk, by rw [wk.hp]; exact st5, nfp, w0⟩
    · show ge.scope.isCoroutine = false
      rw [← hge]
      exact hco
    · have hb4 : b < s4.heap.objs.size := (f4 b hb).2
      intro z
      have z2 : h5.objs.size = b := z
      rw [← z2, sz5] at hb4
      exact absurd hb4 (Nat.not_lt.mpr (Nat.le_succ _))
    · rw [← hge]
      exact hgt _ _ _ _ _ _ _
    · subst hge
      exact hel _ _ _ _ _ _ _ hRm
    · intro σ2 e2
      refine ⟨?_, fun i v e3 => ?_⟩
      · rw [← wipe_length σ2 (own.map (·.2)), e2]
      · rw [← e2] at e3
        exact (wipe_some e3).1

/-- all over zip of two tuples of one length -/
theorem gturns_zipT {K : PySem.W.Frag} {a b : Addr} {xs ys : List V} {g : TG} {te : TE} {σw : L2.St} {vs : List Nat} {Q : Bool → Hp → Prop} {H : Hp} (hl : xs.length = ys.length) (Pv : Nat → Hp → Prop) (h0 : Pv 0 H) (hq : ∀ i H, Pv i H → SqT K H a xs ∧ SqT K H b ys)
    (hs : ∀ (i : Nat) (x y : V) (T : Addr) (H : Hp) (N : Hp → Prop), xs[i]? = some x → ys[i]? = some y → Pv i H → H T = none → (∀ H3, Pv (i + 1) H3 → N H3) → g (.ref T) σw (upd H T (.tup [x, y])) fun σ2 H2 => wipe σ2 vs = σw ∧ te σ2 H2 fun v H3 => ∃ b, v = .bl b ∧ if b = true then N H3 else Q false H3)
    (hd : ∀ H, Pv xs.length H → Q true H) : ∃ W : Nat → Nat → Hp → Prop, (∃ m, W 0 m H) ∧ gTurns (RZ.ItzT K a b) g te σw vs W Q := by
  refine ⟨fun i m H => m = xs.length - i ∧ i ≤ xs.length ∧ Pv i H, ⟨xs.length, rfl, Nat.zero_le _, h0⟩, fun i m H st => ?_⟩
  obtain ⟨em, le, pv⟩ := st
  have two := hq i H pv
  rcases Nat.lt_or_eq_of_le le with lt | eq
  · refine .inr ⟨⟨xs, ys, xs[i], ys[i], two.1, two.2, List.getElem?_eq_getElem lt, List.getElem?_eq_getElem (hl ▸ lt)⟩, fun v H' y => ?_⟩
    obtain ⟨tp, a1, a2, rfl, free, rfl, w1, w2⟩ := y
    exact hs i a1 a2 tp H _ (w1 xs two.1) (w2 ys two.2) pv free fun H3 p' => ⟨xs.length - (i + 1), by omega, rfl, lt, p'⟩
  · subst eq
    exact .inl ⟨⟨xs, ys, two.1, two.2, Or.inl (Nat.le_refl _)⟩, hd H pv⟩

/-! ### zip of a text and a tuple -/
def ItzS (K : PySem.W.Frag) (x : Str) (b : Addr) : It :=
  ⟨fun i H => ∃ (ys : List V) (c : Nat) (y : V), SqT K H b ys ∧ x.cps[i]? = some c ∧ ys[i]? = some y,
    fun i H v H' => ∃ (T : Addr) (c : Nat) (y : V), v = .ref T ∧ H T = none ∧ H' = upd H T (.tup [.str ⟨#[c]⟩, y]) ∧ x.cps[i]? = some c ∧ ∀ ys, SqT K H b ys → ys[i]? = some y,
    fun i H => ∃ ys : List V, SqT K H b ys ∧ i ≤ x.cps.size ∧ i ≤ ys.length ∧ (i = x.cps.size ∨ i = ys.length)⟩
theorem zip_sep {z TI TO i1 i2 b : Addr} (D : ZipApart z TI TO i1 i2 b b) : ZipSep2 z TI TO i1 i2 [i1] [i2, b] where
  TIz := D.TIz
  TOz := D.TOz
  TITO := D.TITO
  TIi1 := D.TIi1
  mem1 := List.mem_singleton.mpr rfl
  zf1 := fun h => D.i1z (List.mem_singleton.mp h).symm
  Tf1 := fun h => D.TOi1 (List.mem_singleton.mp h)
  TIi2 := D.TIi2
  mem2 := List.mem_cons_self
  zf2 := fun h => by
    rcases List.mem_cons.mp h with e | e
    · exact D.i2z e.symm
    · exact D.l1z (List.mem_singleton.mp e).symm
  Tf2 := fun h => by
    rcases List.mem_cons.mp h with e | e
    · exact D.TOi2 e
    · exact D.l1TO (List.mem_singleton.mp e).symm
  sep1_2 := fun h => by
    rcases List.mem_cons.mp h with e | e
    · exact D.i12 e
    · exact D.l1i1 (List.mem_singleton.mp e).symm
  sep2_1 := fun h => D.i12 (List.mem_singleton.mp h).symm
/-- the five cells of a running zip of the text x and the tuple at b, i turns done -/
structure ZipGo (x : Str) (t : Tok) (z TI TO i1 i2 b : Addr) (i : Nat) (h : Heap) : Prop where
  zp : IsZip h z TI TO .none
  ins : IsPair h TI (.ref i1) (.ref i2)
  out : ∃ p : Value × Value, IsPair h TO p.1 p.2
  txt : h.IsStrIter i1 (strIterType x) x t i
  tup : h.IsTupleIter i2 b i
theorem five {z TI TO i1 i2 c : Addr} {Pr : Addr → Prop} (h : c ∈ [z, TI, TO, i1, i2]) (pz : Pr z) (pI : Pr TI) (pO : Pr TO) (p1 : Pr i1) (p2 : Pr i2) : Pr c := by
  simp only [List.mem_cons, List.not_mem_nil, or_false] at h
  rcases h with rfl | rfl | rfl | rfl | rfl
  all_goals assumption
theorem apart5 {z TI TO i1 i2 c : Addr} (h : c ∉ [z, TI, TO, i1, i2]) : c ≠ z ∧ c ≠ TO ∧ c ≠ i1 ∧ c ≠ i2 := by
  simp only [List.mem_cons, List.not_mem_nil, or_false, not_or] at h
  exact ⟨h.1, h.2.2.1, h.2.2.2.1, h.2.2.2.2⟩
section
variable {x : Str} {t : Tok} {z TI TO i1 i2 b : Addr} {i : Nat} {h h' : Heap}
theorem ZipGo.obj (g : ZipGo x t z TI TO i1 i2 b i h) {c : Addr} (hc : c ∈ [z, TI, TO, i1, i2]) : ∃ o, h.get? c = some o ∧ ∀ v, o.data ≠ .cell v := by
  obtain ⟨p, hp⟩ := g.out
  obtain ⟨oa, ea, _, da⟩ := g.txt
  obtain ⟨ob, eb, _, db⟩ := g.tup
  refine five (Pr := fun c => ∃ o, h.get? c = some o ∧ ∀ v, o.data ≠ .cell v) hc ⟨_, g.zp, ?_⟩ ⟨_, g.ins, ?_⟩ ⟨_, hp, ?_⟩ ⟨oa, ea, ?_⟩ ⟨ob, eb, ?_⟩
  · intro v e; cases e
  · intro v e; cases e
  · intro v e; cases e
  · intro v e; rw [da] at e; cases e
  · intro v e; rw [db] at e; cases e
theorem ZipGo.lt (g : ZipGo x t z TI TO i1 i2 b i h) {c : Addr} (hc : c ∈ [z, TI, TO, i1, i2]) : c < h.objs.size := by
  obtain ⟨o, e, _⟩ := g.obj hc
  exact Heap.lt_size e
theorem ZipGo.on (g : ZipGo x t z TI TO i1 i2 b i h) (k : ∀ c ∈ [z, TI, TO, i1, i2], ∀ o, h.get? c = some o → h'.get? c = some o) : ZipGo x t z TI TO i1 i2 b i h' := by
  obtain ⟨p, hp⟩ := g.out
  obtain ⟨oa, ea, ra⟩ := g.txt
  exact ⟨k z (by simp) _ g.zp, k TI (by simp) _ g.ins, ⟨p, k TO (by simp) _ hp⟩, ⟨oa, k i1 (by simp) _ ea, ra⟩, g.tup.at (k i2 (by simp))⟩
end
theorem turn_zipS {P : Program} {w : World} {K : PySem.W.Frag} {elts : List Expr} {kk : Nat} {tpos : Pos} {x : Str} {t : Tok} {b z TI TO i1 i2 : Addr} (D : ZipApart z TI TO i1 i2 b b) :
    Turn P w K (.Tuple elts kk tpos) (ItzS K x b) [z, TI, TO, i1, i2] z (ZipGo x t z TI TO i1 i2 b) where
  mem := List.mem_cons_self
  obj := fun _ _ g _ hc => g.obj hc
  keep := fun _ _ _ g k => g.on k
  item := by
    intro X eP ew eK calm n pins s σ H E I fps g go
    subst eP ew eK
    obtain ⟨ys, c, y, tys, ec, ey⟩ := go
    obtain ⟨vs, rel, tupAt, _⟩ := I.tuple tys
    obtain ⟨u, eu, ru⟩ := rel.get ey
    obtain ⟨p, hp⟩ := g.out
    have zlt := g.lt (c := z) (by simp)
    have n1 : n < x.cps.size := Nat.lt_of_not_le fun le => by
      rw [Array.getElem?_eq_none le] at ec
      cases ec
    have n2 : n < vs.toArray.size := by simpa using (List.getElem?_eq_some_iff.mp eu).1
    have calmA : X.A.in1.handled = none := I.ok.hd calm
    refine wpAny_pyNext_zipD2_item (zip_sep D) (Draws.text calmA i1 x t) (Draws.tuple calmA i2 b D.l1i2 vs.toArray) g.zp g.ins hp g.txt ⟨g.tup, tupAt⟩ n1 n2 fun v1 v2 h1 tk P1 P2 zp1 out1 txt1 tup1 new1 _ kept1 => ?_
    obtain ⟨c', k, ec', rfl⟩ := P1
    obtain rfl : c = c' := Option.some.inj (ec.symm.trans ec')
    obtain rfl : u = v2 := Option.some.inj (eu.symm.trans (by simpa using P2))
    refine ⟨_, rfl, wpAny_letOwnedTupleGo_zip (s := { s with heap := h1, toks := tk }) zp1 fun h2 zp2 sb => ?_⟩
    have up : ∀ d, d ≠ z → h2.get? d = h1.get? d := fun d nd => sb.2 d nd
    have kept2 : ∀ d o, d ∉ [z, TI, TO, i1, i2] → s.heap.get? d = some o → h2.get? d = some o := fun d o nd e => by
      obtain ⟨a1, a2, a3, a4⟩ := apart5 nd
      rw [up d a1]
      exact kept1 d o a1 a2 a3 a4 e
    have new2 : h2.get? s.heap.objs.size = some { cls := .type "tuple", data := .seq #[.str ⟨#[c]⟩ k, u] } := (up _ (Nat.ne_of_gt zlt)).trans new1
    have I2 := I.turnedNew (t' := tk) (ch := [z, TI, TO, i1, i2]) (ob := .tup [.str ⟨#[c]⟩, y]) kept2 fps (Nat.le_refl _) ⟨show 2 ≤ sizeLine by decide, [.str ⟨#[c]⟩ k, u], .cons ⟨k, rfl⟩ (.cons ru .nil), ⟨_, new2, rfl, _, rfl⟩⟩
    refine ⟨.ref s.heap.objs.size, _, I2, rfl, ⟨_, c, y, rfl, I.hok.fresh (Nat.le_refl _), rfl, ec, fun l tl => (I.tuple_inj tl tys) ▸ ey⟩, ⟨zp2, ?_, ⟨(_, _), (up _ D.TOz).trans out1⟩, ?_, tup1.1.at fun o e => (up _ D.i2z).trans e⟩, fun d hd => ?_⟩
    · exact (up _ D.TIz).trans (kept1 TI _ D.TIz D.TITO D.TIi1 D.TIi2 g.ins)
    · obtain ⟨o, e, r⟩ := txt1
      exact ⟨o, (up _ D.i1z).trans e, r⟩
    · rw [upd_ne (Nat.ne_of_lt (g.lt hd))]
      exact (fps d hd).1
  done := by
    intro X eP ew eK calm n pins s σ H E I fps g stop
    subst eP ew eK
    obtain ⟨ys, tys, le1, le2, last⟩ := stop
    obtain ⟨vs, rel, tupAt, _⟩ := I.tuple tys
    obtain ⟨p, hp⟩ := g.out
    have lv : vs.toArray.size = ys.length := by simpa using rel.length.symm
    have calmA : X.A.in1.handled = none := I.ok.hd calm
    refine wpAny_pyNext_zipD2_end (zip_sep D) (Draws.text calmA i1 x t) (Draws.tuple calmA i2 b D.l1i2 vs.toArray) g.zp g.ins hp g.txt ⟨g.tup, tupAt⟩ le1 (by omega) (by omega) fun h1 tk kept1 => ⟨rfl, ?_⟩
    refine I.turnedL (t' := tk) (ch := [z, TI, TO, i1, i2]) (fun d o nd e => ?_) fps
    obtain ⟨a1, a2, a3, a4⟩ := apart5 nd
    exact kept1 d o a1 a2 a3 a4 e
  self := fun _ _ _ _ _ g q => wpAny_pyIter_zip g.zp q
def iZipS (K : PySem.W.Frag) (ta : TA) : TI := fun σ H R => ta σ H fun vs H1 => ∃ x b ys, vs = [.str x, .ref b] ∧ SqT K H1 b ys ∧ R (ItzS K x b) H1
theorem pi_zipS {X : Cx} {ea eb : Expr} {ta : TA} {p pos tpos : Pos} {elts : List Expr} {kk : Nat} (gl : Gl X "zip") (own : X.mg "zip" = none) (args : PA X [ea, eb] ta)
    (star : starEach [ea, eb] X.env = (false, eval ea X.env) :: starEach [eb] X.env := by rfl) (plain : (backTo pos (starEach [eb] X.env)).any (·.1) = false := by rfl) :
    PI X (.Tuple elts kk tpos) (.Call (.Name "zip" p) [ea, eb] [] pos) (iZipS X.K ta) := by
  constructor
  intro pins s σ H R I q
  refine Call_ (ld_blt I gl own PyProof.Rows.boot_zip (PyProof.Rows.callWith_type1 ?_ star plain))
  refine thn (args.run pos pins s σ H _ I q) fun us s1 ans => ?_
  obtain ⟨vs, H1, J, rel, x, b, ys, rfl, tys, go⟩ := ans
  obtain ⟨u1, u2, rfl, r1, r2⟩ := vals2 rel
  obtain ⟨t, rfl⟩ := r1
  obtain rfl : u2 = Value.ref b := r2
  obtain ⟨its, _, tupAt, _⟩ := J.tuple tys
  have blt : b < s1.heap.objs.size := by
    obtain ⟨_, e, _⟩ := id tupAt
    exact Heap.lt_size e
  have fresh : ∀ c, s1.heap.objs.size ≤ c → FpOk X pins H1 c := fun c le => J.fpOk le (J.hok.fresh le)
  refine zip_begins2 (begins_text x t) (begins_tuple b its.toArray) trivial tupAt fun h2 zp ins out o1 o2 _ kept => wpAny_pyIter_zip zp ?_
  refine ⟨_, [s1.heap.objs.size + 4, s1.heap.objs.size + 2, s1.heap.objs.size + 3, s1.heap.objs.size, s1.heap.objs.size + 1], _, _, H1, rfl, J.kept (t' := s1.toks) kept, turn_zipS (t := t) (PySem.W.ktu_apart s1.heap.objs.size b b blt blt), ?_, fun c hc => ?_, go⟩
  · exact ⟨zp, ins, ⟨(_, _), out⟩, ⟨_, o1, rfl, rfl⟩, ⟨_, o2, rfl, rfl⟩⟩
  · exact five (Pr := FpOk X pins H1) hc (fresh _ (by omega)) (fresh _ (by omega)) (fresh _ (by omega)) (fresh _ (by omega)) (fresh _ (by omega))
/-- a loop over zip of a text and a tuple of one length -/
theorem for_zipS {K : PySem.W.Frag} {x : Str} {b : Addr} {ys : List V} {g : TG} {tb : TS} {D : Ends} {σ : L2.St} {H : Hp} (hl : x.cps.size = ys.length) (Pv : Nat → L2.St → Hp → Prop) (h0 : Pv 0 σ H) (hq : ∀ i σ H, Pv i σ H → SqT K H b ys)
    (hs : ∀ (i c : Nat) (y : V) (T : Addr) (σ : L2.St) (H : Hp), x.cps[i]? = some c → ys[i]? = some y → Pv i σ H → H T = none → g (.ref T) σ (upd H T (.tup [.str ⟨#[c]⟩, y])) fun σ2 H2 => tb { D with nx := Pv (i + 1), ct := Pv (i + 1), bk := D.nx } σ2 H2) (hd : ∀ σ H, Pv ys.length σ H → D.nx σ H) :
    ∃ W : Nat → Nat → L2.St → Hp → Prop, (∃ m, W 0 m σ H) ∧ ∀ i m σ H, W i m σ H →
      ((ItzS K x b).stop i H ∧ D.nx σ H) ∨ ((ItzS K x b).go i H ∧ ∃ N : L2.St → Hp → Prop, (∀ σ' H', N σ' H' → ∃ m', m' < m ∧ W (i + 1) m' σ' H') ∧ ∀ v H', (ItzS K x b).yld i H v H' → g v σ H' fun σ2 H2 => tb { D with nx := N, ct := N, bk := D.nx } σ2 H2) := by
  refine ⟨fun i m σ H => m = ys.length - i ∧ i ≤ ys.length ∧ Pv i σ H, ⟨ys.length, rfl, Nat.zero_le _, h0⟩, fun i m σ H st => ?_⟩
  obtain ⟨em, le, pv⟩ := st
  have tys := hq i σ H pv
  rcases Nat.lt_or_eq_of_le le with lt | eq
  · refine .inr ⟨⟨ys, x.cps[i], ys[i], tys, Array.getElem?_eq_getElem (hl.symm ▸ lt), List.getElem?_eq_getElem lt⟩, Pv (i + 1), fun σ' H' p' => ⟨ys.length - (i + 1), by omega, rfl, lt, p'⟩, fun v H' y => ?_⟩
    obtain ⟨tp, c, a2, rfl, free, rfl, w1, w2⟩ := y
    exact hs i c a2 tp σ H w1 (w2 ys tys) pv free
  · subst eq
    exact .inl ⟨⟨ys, tys, Nat.le_of_eq hl.symm, Nat.le_refl _, .inr rfl⟩, hd σ H pv⟩
/-! ### d.update(e) -/
def tDUpd (td ty : TE) : TE := fun σ H Q => td σ H fun x H1 => ∃ a, x = .ref a ∧ IsD H1 a ∧ ty σ H1 fun y H2 => ∃ b kvs more, y = .ref b ∧ H2 a = some (.dK kvs) ∧ H2 b = some (.dK more) ∧ a ≠ b ∧ kvs.length + more.length ≤ sizeLine ∧ Q .non (upd H2 a (.dK (mergeK kvs more)))
theorem pe_dupd {X : Cx} {o e : Expr} {apos cpos : Pos} {td ty : TE} (ho : PE X o td) (he : PE X e ty) (m : M1 X o "update" apos e cpos) : PE X (.Call (.Attribute o "update" apos) [e] [] cpos) (tDUpd td ty) := by
  refine ⟨fun pins s σ H Q I h => ?_⟩
  refine wpAny_Call_method m.base m.few m.line PySem.F.plainAttrs_dict PySem.F.slot_dict_update PySem.F.type_dict_update (thn (ho.run pins s σ H _ I h) fun u s1 ⟨x, H1, I1, rx, a, ex, d, q1⟩ => ?_)
  subst ex
  obtain rfl : u = Value.ref a := rx
  obtain ⟨t1, t2, _⟩ := isD_at I1 d
  refine ⟨t1, t2, ?_⟩
  rw [m.trees]
  refine Calls.callWith_builtin rfl (Calls.evalArgs_plain (Calls.spliced_cons (thn (he.run pins s1 σ H1 _ I1 q1) fun iv s2 ⟨y, H2, I2, ry, b, kvs, more, ey, ea, eb, ne, hz, q2⟩ => Calls.spliced_nil ?_)))
  subst ey
  obtain rfl : iv = Value.ref b := ry
  obtain ⟨za, hda, vs, ra, dda⟩ := dk_of I2.hok ea
  obtain ⟨zb, hdb, ws, rb, ddb⟩ := dk_of I2.hok eb
  refine call_meetsIn PySem.F.slot_dict_update dda.typeIs PySem.F.entry_dict_update (PySem.F.args_dict_update_2 _ _) (meets_dict_update (mixKind X.prog X.w) a b ne hdb) ⟨vs, ws, dda, ddb, (by rw [← ra.length, ← rb.length]; exact hz), fun h' hmm _ hs => ?_⟩
  have he' : ∃ q, h'.get? a = some q := let ⟨q, _, _, hq, _⟩ := hmm; ⟨q, hq⟩
  exact ⟨.non, _, d_write I2 (by rw [ea]; exact True.intro) hs he' (dk_new (Nat.le_trans (length_mergeK more kvs) hz) hda (rb.merge ra) hmm), rfl, q2⟩
/-! ### list(text), tuple == () -/
def sgs (x : Str) : List V := x.cps.toList.map fun c => V.str ⟨#[c]⟩
theorem vals_at : ∀ {xs : List V} {us : List Value}, xs.length = us.length → (∀ (j : Nat) (v : V) (u : Value), xs[j]? = some v → us[j]? = some u → RelV v u) → Vals xs us
  | [], [], _, _ => .nil
  | [], _ :: _, h, _ => nomatch h
  | _ :: _, [], h, _ => nomatch h
  | v :: xs, u :: us, h, k => .cons (k 0 v u rfl rfl) (vals_at (Nat.succ.inj h) fun j a b ha hb => k (j + 1) a b ha hb)
theorem call_list_txt {X : Cx} (hc : X.calm = true) : CallR X (.type "list") (fun xs H Q => ∃ x : Str, xs = [.str x] ∧ x.cps.size ≤ sizeLine ∧ ∀ l, H l = none → Q (.ref l) (upd H l (.lst (sgs x)))) := by
  intro pins s σ H xs us Q I r h
  obtain ⟨x, rfl, hz, q⟩ := h
  obtain ⟨u, rfl, rx⟩ := vals1 r
  obtain ⟨t, rfl⟩ := rx
  refine call_list_str (I.ok.hd hc) x t (hn := hz) fun h' tk acc' c' hk hS' hacc => ?_
  have hl : (sgs x).length = acc'.toList.length := by
    unfold sgs
    rw [List.length_map, Array.length_toList, Array.length_toList]
    exact hacc.1.symm
  have rv : Vals (sgs x) acc'.toList := vals_at hl fun j v u hv hu => by
    obtain ⟨c, k, hc', rfl⟩ := hacc.2 j u (by simpa using hu)
    unfold sgs at hv
    rw [List.getElem?_map] at hv
    obtain ⟨c2, h2, rfl⟩ := Option.map_eq_some_iff.mp hv
    have z : x.cps.toList[j]? = some c := by simpa using hc'
    rw [z] at h2
    cases h2
    exact ⟨k, rfl⟩
  have hz2 : (sgs x).length ≤ sizeLine := by
    unfold sgs
    rw [List.length_map, Array.length_toList]
    exact hz
  exact ⟨.ref s.heap.objs.size, _, I.laid (t' := tk) hk (Nat.le_refl _) (show ObjOk X.prog X.w _ h' _ (.lst (sgs x)) from ⟨hz2, acc'.toList, c', rv, by simpa using hS'⟩), rfl, q _ (I.hok.fresh (Nat.le_refl _))⟩
def rEq0 (K : PySem.W.Frag) : R2 := fun x y H Q => ∃ a b xs, x = .ref a ∧ y = .ref b ∧ SqT K H a xs ∧ SqT K H b [] ∧ Q (.bl xs.isEmpty) H
theorem op_eq0 {X : Cx} (hu : X.A.units < cLine) : OpR X (compareOp .Eq) (rEq0 X.K) := by
  intro pins s σ H x y v u Q I rx ry h
  obtain ⟨a, b, xs, rfl, rfl, ha, hb, q⟩ := h
  cases rx
  cases ry
  obtain ⟨its, r1, p1, _⟩ := I.tuple ha
  obtain ⟨its2, r2, p2, _⟩ := I.tuple hb
  cases r2
  refine SeqAt.eq_tupleAt (e := fun _ => true) p1 p2 hu (fun j h1 h2 => by simp at h2) ?_
  have e : ((List.range (min its.toArray.size ([] : List Value).toArray.size)).all (fun _ => true) && its.toArray.size == ([] : List Value).toArray.size) = xs.isEmpty := by
    cases r1 with
    | nil => rfl
    | cons _ _ => simp
  rw [e]
  exact ⟨.bl _, H, I, rfl, q⟩

/-! ### the end of a law whose defs make generator expressions -/
/-- the def nm of the top, its code object's table empty -/
def TabAt (mg : Str → Option Value) (h : Heap) (nm : Str) : Prop := ∃ (f : Addr) (o : Obj) (fd : FuncData) (c P : Addr), mg nm = some (.ref f) ∧ h.get? f = some o ∧ o.data = .func fd ∧ fd.code = .ref c ∧ h.TableAt c P #[]
theorem tab_empty {K : PySem.W.Frag} {mg : Str → Option Value} {h : Heap} {nm : Str} {f c P : Addr} {o : Obj} {fd : FuncData} {e : Value} {dd : Option Addr} {vs : Array Value} {sl : Array (Option Value)} (t : TabAt mg h nm) (X : K.In h) (g : mg nm = some (.ref f))
    (lf : K.lookup f = some o) (df : o.data = .func fd) (cf : fd.code = .ref c) (lc : K.lookup c = some ⟨e, dd, .fields vs, sl⟩) (at11 : vs[11]? = some (.ref P)) : h.get? P = some { cls := .none, data := .fields #[] } := by
  obtain ⟨f', o', fd', c', P', m1, m2, m3, m4, ⟨oc, vc, w1, _, w3, w4⟩, tp⟩ := t
  have ef : f = f' := Value.ref.inj (Option.some.inj (g.symm.trans m1))
  subst ef
  have eo : o = o' := Option.some.inj ((X f o lf).symm.trans m2)
  subst eo
  have ed : fd = fd' := Data.func.inj (df.symm.trans m3)
  subst ed
  have ec : c = c' := Value.ref.inj (cf.symm.trans m4)
  subst ec
  have eq : (⟨e, dd, .fields vs, sl⟩ : Obj) = oc := Option.some.inj ((X c _ lc).symm.trans w1)
  subst eq
  have ev : vs = vc := Data.fields.inj w3
  subst ev
  have eP : P = P' := Value.ref.inj (Option.some.inj (at11.symm.trans w4))
  subst eP
  exact tp
theorem walk_tabs {l : PySem.W.OpenLaw} {most lv : Nat} {prog : Program} {lo : List Str} {XP : (Str → Option Value) → Heap → Prop} {YP : World → Heap → Prop} {df : DefRec} {K : Params → PySem.W.Frag} {par : Str} (names : List Str)
    (h1 : l.most = some most) (h2 : most ≤ sizeLine) (h3 : df.params.defaults = []) (room : Room lv callerA) (recs : (names.all fun nm => (recsOf prog).any fun r => r.name == nm) = true) (kin : ∀ (w : World) (h : Heap), YP w h → (K w.params).In h)
    (at_ : ∀ (w : World) (mg : Str → Option Value) (fa : Addr) (h : Heap), (K w.params).In h → h.Ns mainGlobals mg → mg df.name = some (.ref fa) → (∀ nm ∈ names, TabAt mg h nm) → LamX.LawAtS l w (K w.params) CX0 lv most par mg fa h) :
    PySem.W.WalkO prog lo XP YP l.row.toRowW df [] (fun f vs => PySem.call f vs) := by
  refine Att.attach_callB h1 h3 fun w s0 s mg mb fa o pm cd doc a vs ns Gr Y _ _ _ name ob iar len bits gens => ?_
  have tabs : ∀ nm ∈ names, TabAt mg s.heap nm := fun nm hm => by
    obtain ⟨r, hr, er⟩ := List.any_eq_true.mp (List.all_eq_true.mp recs nm hm)
    obtain ⟨x1, x2, x3, x4, x5, y1, y2, y3, y4, _, y6⟩ := Gr.T.tab r hr
    rw [beq_iff_eq.mp er] at y1
    exact ⟨x1, x2, x3, x4, x5, y1, y2, y3, y4, y6⟩
  obtain ⟨fd, cs, sp, t1, t2, t3, bind, asked, ok⟩ := at_ w mg fa _ (kin w _ Y) Gr.T.g name tabs
  exact LamX.law_callTs (kin w _ Y) Gr.T.g Gr.T.b Gr.T.builtins Gr.T.nolimit gens t1 t2 t3 Gr.T.bmain ob iar (Nat.le_trans len h2) room ok bind (fun H hH hS => asked H a ns len bits hH hS) fun _ _ _ z => z

end My
namespace My
open PySem L2
/-! ### a mid-condition behind a statement, an expression, a test -/
def sMid (t : TS) : TS := fun D σ H => ∃ M : L2.St → Hp → Prop, t { D with nx := M } σ H ∧ ∀ σ' H', M σ' H' → D.nx σ' H'
theorem ps_mid {X : Cx} {st : Stmt} {t : TS} (h : PS X st t) : PS X st (sMid t) := by
  refine ⟨fun pins s σ H D I z => ?_⟩
  obtain ⟨M, q, k⟩ := z
  refine thn (h.run pins s σ H { D with nx := M } I q) fun f s1 y => ?_
  cases f with
  | next =>
    obtain ⟨σ', H', I', y⟩ := y
    exact ⟨σ', H', I', k _ _ y⟩
  | ret v => exact y
  | brk => exact y
  | cont => exact y
def tMid (t : TT) : TT := fun σ H Q => ∃ M : Bool → Hp → Prop, t σ H M ∧ ∀ b H', M b H' → Q b H'
theorem pt_mid {X : Cx} {e : Expr} {t : TT} (h : PT X e t) : PT X e (tMid t) := by
  refine ⟨fun pins s σ H Q I z => ?_⟩
  obtain ⟨M, q, k⟩ := z
  exact thn (h.run pins s σ H M I q) fun b s1 ⟨H', I', y⟩ => ⟨H', I', k _ _ y⟩
def eMid (t : TE) : TE := fun σ H Q => ∃ M : V → Hp → Prop, t σ H M ∧ ∀ v H', M v H' → Q v H'
theorem pe_mid {X : Cx} {e : Expr} {t : TE} (h : PE X e t) : PE X e (eMid t) := by
  refine ⟨fun pins s σ H Q I z => ?_⟩
  obtain ⟨M, q, k⟩ := z
  exact thn (h.run pins s σ H M I q) fun u s1 ⟨v, H', I', r, y⟩ => ⟨v, H', I', r, k _ _ y⟩
theorem yes_ite {σ : L2.St} {H : Hp} {A B : Hp → Prop} (h : A H) : tYes σ H (fun b H3 => if b = true then A H3 else B H3) := by
  unfold tYes
  exact (show (if true = true then A H else B H) from iteT h)
/-- xs[i] op= e, the read -/
theorem get_list {X : Cx} : PGet X (rIxL X.K) := by
  intro pins s σ H x y v u Q I rx ry h
  obtain ⟨p, xs, i, z, rfl, rfl, hq, he, q⟩ := h
  cases rx
  obtain ⟨t, rfl⟩ := ry
  obtain ⟨its, r, pl, hz⟩ := I.list hq
  obtain ⟨j, h1, h2, h3, h4, h5⟩ := atI_get he
  obtain ⟨w, ew, rw'⟩ := r.get h2
  have hl := r.length
  have hn := line63
  have fin : EP X pins σ Q w s := ⟨z, H, I, rw', q⟩
  by_cases h0 : 0 ≤ i
  · have hj : i.toNat = j := by
      rw [PySem.seqIndex_of h0 h5] at h1
      exact Option.some.inj h1
    exact PySem.wpAny_getItem_list pl.isList h0 (by omega) (by rw [hj]; simpa using ew) fin
  · have hj : (i + (its.toArray.size : Int)).toNat = j := by
      rw [PySem.seqIndex_neg (by omega) h4] at h1
      rw [List.size_toArray, ← hl]
      exact Option.some.inj h1
    exact PySem.wpAny_getItem_list_neg pl.isList (by omega) (by rw [List.size_toArray] <;> omega) (by omega) (by rw [hj]; simpa using ew) fin
theorem same_new {H : Hp} {p : Addr} {o : HO} (h : H p = none) : Same H (upd H p o) := fun b u q => by rw [upd_ne (ne_of_none q h)]; exact q
/-- all but d as it was -/
def But (d : Addr) (H H' : Hp) : Prop := ∀ b o, H b = some o → b ≠ d → H' b = some o
theorem But.refl {d : Addr} {H : Hp} : But d H H := fun _ _ e _ => e
theorem But.trans {d : Addr} {H H1 H2 : Hp} (x : But d H H1) (y : But d H1 H2) : But d H H2 := fun b o e n => y b o (x b o e n) n
theorem But.put {d : Addr} {H H1 : Hp} {o : HO} (x : But d H H1) : But d H (upd H1 d o) := fun b u e n => by
  rw [upd_ne n]
  exact x b u e n
theorem But.new {d p : Addr} {H H1 : Hp} {o : HO} (x : But d H H1) (n : H1 p = none) : But d H (upd H1 p o) := fun b u e nb => by
  have q := x b u e nb
  rw [upd_ne (ne_of_none q n)]
  exact q
theorem But.same {d : Addr} {H H1 H2 : Hp} (x : But d H H1) (s : Same H1 H2) : But d H H2 := fun b u e nb => s _ _ (x b u e nb)
theorem at_map {ns : List Int} {k : Int} (h0 : 0 ≤ k) (h : k < (ns.length : Int)) : ∃ v : Int, atI (ns.map V.int) k = some (.int v) ∧ v ∈ ns := by
  have hk : k.toNat < ns.length := by omega
  have ek : k = ((k.toNat : Nat) : Int) := by omega
  have q : atI (ns.map V.int) ((k.toNat : Nat) : Int) = some (.int ns[k.toNat]) := atI_nat (by rw [List.getElem?_map, List.getElem?_eq_getElem hk] <;> rfl)
  rw [← ek] at q
  exact ⟨_, q, List.getElem_mem _⟩
theorem at_any {α : Type} {xs : List α} {k : Int} (h0 : 0 ≤ k) (h : k < (xs.length : Int)) : ∃ v : α, atI xs k = some v ∧ v ∈ xs := by
  have hk : k.toNat < xs.length := by omega
  have ek : k = ((k.toNat : Nat) : Int) := by omega
  have q : atI xs ((k.toNat : Nat) : Int) = some xs[k.toNat] := atI_nat (List.getElem?_eq_getElem hk)
  rw [← ek] at q
  exact ⟨_, q, List.getElem_mem _⟩
theorem wide_ok {i j : Int} (h : 0 < j) (h2 : j < 2 ^ 100) : CDivW i j := wide_div (b := 100) h (by
  have e : ((j.natAbs : Nat) : Int) < ((2 ^ 100 : Nat) : Int) := by
    rw [Int.natCast_pow]
    show (j.natAbs : Int) < 2 ^ 100
    omega
  exact_mod_cast e) (by decide) (by decide)
theorem cut_map (ns : List Int) (hi : Option Int) : ∃ k : Nat, cutV (ns.map V.int) none hi = (ns.take k).map V.int := by
  refine ⟨HT.sIx ns.length ns.length hi, ?_⟩
  unfold cutV
  rw [HT.sIx_none, List.drop_zero, Nat.sub_zero, List.length_map, List.map_take]
theorem cut_nat {α : Type} (xs : List V) (k : Nat) : cutV xs none (some (k : Int)) = xs.take k := by
  unfold cutV
  rw [HT.sIx_none, List.drop_zero, Nat.sub_zero, HT.sIx_nat]
  by_cases h : k ≤ xs.length
  · rw [Nat.min_eq_left h]
  · rw [Nat.min_eq_right (by omega), List.take_of_length_le (Nat.le_refl _), List.take_of_length_le (by omega)]
theorem sz {n : Nat} (h : n ≤ 100000) : n ≤ sizeLine := Nat.le_trans h (by decide)
theorem szl {n : Nat} (h : n < 100000) : n < sizeLine := Nat.lt_of_lt_of_le h (by decide)
def spLaw (K : PySem.W.Frag) : Sp := fun vs H Q _ => ∃ (a : Addr) (ns : List Int), vs = [.ref a] ∧ SqL K H a (ns.map V.int) ∧ ns.length ≤ 63 ∧ (∀ z ∈ ns, Builtin.Int.intBits z ≤ 1048576) ∧ ∀ H', Q (.bl true) H'
/-! ### data of tuples -/
mutual
inductive Td (K : PySem.W.Frag) (H : Hp) : V → PyData → Prop
  | non : Td K H .non .none
  | bl (b : Bool) : Td K H (.bl b) (.bool b)
  | int (i : Int) : Td K H (.int i) (.int i)
  | str (x : Str) : Td K H (.str x) (.str x)
  | tup {a : Addr} {xs : List V} {ds : List PyData} : SqT K H a xs → TdAll K H xs ds → Td K H (.ref a) (.tuple ds)
inductive TdAll (K : PySem.W.Frag) (H : Hp) : List V → List PyData → Prop
  | nil : TdAll K H [] []
  | cons {v : V} {vs : List V} {d : PyData} {ds : List PyData} : Td K H v d → TdAll K H vs ds → TdAll K H (v :: vs) (d :: ds)
end
/-- tuples stay -/
def Tups (K : PySem.W.Frag) (H H' : Hp) : Prop := ∀ a xs, SqT K H a xs → SqT K H' a xs
theorem Tups.of_same {K : PySem.W.Frag} {H H' : Hp} (s : Same H H') : Tups K H H' := fun a xs h => by
  rcases h with h | h
  · rcases h with h | ⟨o, h⟩
    · exact .inl (.inl (s _ _ h))
    · exact .inl (.inr ⟨o, s _ _ h⟩)
  · exact .inr h
theorem Tups.of_but {K : PySem.W.Frag} {H H' : Hp} {d : Addr} {l : List V} (s : But d H H') (e : H d = some (.lst l)) : Tups K H H' := fun a xs h => by
  rcases h with h | h
  · rcases h with h | ⟨o, h⟩
    · exact .inl (.inl (s _ _ h (ne_of h e (by intro z; cases z))))
    · exact .inl (.inr ⟨o, s _ _ h (ne_of h e (by intro z; cases z))⟩)
  · exact .inr h
theorem Tups.trans {K : PySem.W.Frag} {H H1 H2 : Hp} (a : Tups K H H1) (b : Tups K H1 H2) : Tups K H H2 := fun p xs h => b _ _ (a _ _ h)
mutual
theorem Td.mono {K : PySem.W.Frag} {H H' : Hp} (t : Tups K H H') : ∀ {v : V} {d : PyData}, Td K H v d → Td K H' v d
  | _, _, .non => .non
  | _, _, .bl b => .bl b
  | _, _, .int i => .int i
  | _, _, .str x => .str x
  | _, _, .tup h k => .tup (t _ _ h) (TdAll.mono t k)
theorem TdAll.mono {K : PySem.W.Frag} {H H' : Hp} (t : Tups K H H') : ∀ {vs : List V} {ds : List PyData}, TdAll K H vs ds → TdAll K H' vs ds
  | _, _, .nil => .nil
  | _, _, .cons h k => .cons (Td.mono t h) (TdAll.mono t k)
end
mutual
theorem Td.dp {K : PySem.W.Frag} {H : Hp} : ∀ {v : V} {d : PyData}, Td K H v d → Dp K H v d
  | _, _, .non => .non
  | _, _, .bl b => .bl b
  | _, _, .int i => .int i
  | _, _, .str x => .str x
  | _, _, .tup h k => .tup h (TdAll.dp k)
theorem TdAll.dp {K : PySem.W.Frag} {H : Hp} : ∀ {vs : List V} {ds : List PyData}, TdAll K H vs ds → DpAll K H vs ds
  | _, _, .nil => .nil
  | _, _, .cons h k => .cons (Td.dp h) (TdAll.dp k)
end
theorem TdAll.length {K : PySem.W.Frag} {H : Hp} : ∀ {vs : List V} {ds : List PyData}, TdAll K H vs ds → vs.length = ds.length
  | _, _, .nil => rfl
  | _, _, .cons _ k => congrArg (· + 1) (TdAll.length k)
theorem TdAll.append {K : PySem.W.Frag} {H : Hp} : ∀ {vs ws : List V} {ds es : List PyData}, TdAll K H vs ds → TdAll K H ws es → TdAll K H (vs ++ ws) (ds ++ es)
  | _, _, _, _, .nil, k => k
  | _, _, _, _, .cons h k, z => .cons h (TdAll.append k z)
theorem TdAll.get {K : PySem.W.Frag} {H : Hp} : ∀ {vs : List V} {ds : List PyData}, TdAll K H vs ds → ∀ {v : V}, v ∈ vs → ∃ d, d ∈ ds ∧ Td K H v d
  | _, _, .nil, _, h => nomatch h
  | _, _, .cons (d := d) h k, v, m => by
    rcases List.mem_cons.mp m with e | m
    · subst e
      exact ⟨d, List.mem_cons_self, h⟩
    · obtain ⟨d', hd, t⟩ := TdAll.get k m
      exact ⟨d', List.mem_cons_of_mem _ hd, t⟩
theorem inV_str (w : Str) : ∀ ws : List Str, inV (.str w) (ws.map V.str) = decide (w ∈ ws)
  | [] => rfl
  | x :: r => by
    have ih := inV_str w r
    unfold inV at ih ⊢
    rw [List.map_cons, List.any_cons, ih]
    by_cases e : x = w
    · subst e
      simp [eqV]
    · have e2 : ¬ w = x := fun z => e z.symm
      simp [eqV, e, e2]
theorem flat_strs : ∀ ws : List Str, (ws.map V.str).all flatV = true
  | [] => rfl
  | _ :: r => by
    rw [List.map_cons, List.all_cons, flat_strs r]
    rfl
/-- the kinds -/
def kinds : List Str := ["a", "b", "c", "d", "e", "f", "g", "h"]
/-- a tuple as a target, the table and the number as they are written -/
theorem pg_tupK {X : Cx} {K : PySem.W.Frag} {pos : Pos} {es : List Expr} {k : Nat} {t : TGs} {n : Nat} (hK : X.K = K) (hc : X.calm = true) (h : PGs X es t)
    (hn : (assignEach es X.env).length = n) (hst : (assignEach es X.env).findIdx? (·.1) = none := by rfl) : PG X (.Tuple es k pos) (gTup K n t) := by
  subst hK
  exact pg_tup hc h hn hst
theorem cut_tail (x : V) (ps : List V) : cutV (x :: ps) (some 1) none = ps := by
  unfold cutV
  rw [show (1 : Int) = ((1 : Nat) : Int) from rfl, HT.sIx_nat, HT.sIx_none, List.length_cons]
  have e : min 1 (ps.length + 1) = 1 := by omega
  rw [e, List.drop_succ_cons, List.drop_zero, Nat.add_sub_cancel, List.take_of_length_le (Nat.le_refl _)]
theorem u1 {k : Nat} {A : Around} (h : Room k A) : A.units + 1 < cLine := by
  have := h.units
  omega
theorem u0 {k : Nat} {A : Around} (h : Room k A) : A.units < cLine := by
  have := h.units
  omega
theorem u65 {k : Nat} {A : Around} (h : Room k A) : A.units + 65 < cLine := by
  have := h.un
  omega
theorem op_in_seqK {X : Cx} {K : PySem.W.Frag} (hK : X.K = K) : OpR X (compareOp .In) (rIn K false) := by
  subst hK
  exact op_in_seq
theorem op_notIn_seqK {X : Cx} {K : PySem.W.Frag} (hK : X.K = K) : OpR X (compareOp .NotIn) (rIn K true) := by
  subst hK
  exact op_notIn_seq

/-! ### own exceptions as values -/
def veB : List Value := [.type "ValueError", .type "Exception", .type "BaseException", .type "object"]
/-- an exception object of the class C, not raised, with or without fields -/
def ExAt (H : Hp) (a C : Addr) : Prop := H a = some (ExO (.ref C) a) ∨ ∃ (d : Addr) (fs : List (Str × V)), H a = some (exo a C (some d)) ∧ H d = some (exd d fs)
theorem ExAt.same {H H' : Hp} {a C : Addr} (s : Same H H') (h : ExAt H a C) : ExAt H' a C := by
  rcases h with h | ⟨d, fs, h, g⟩
  · exact .inl (s _ _ h)
  · exact .inr ⟨d, fs, s _ _ h, s _ _ g⟩
section
variable {X : Cx}
theorem ExAt.inst {pins : List (Addr × Obj)} {σ : L2.St} {H : Hp} {s : Shared} {a C : Addr} (I : Inv X pins σ H s) (h : ExAt H a C) : ∃ (oe : Obj) (od : Option Obj), PySem.W.InstAt s.heap a oe C od := by
  rcases h with h | ⟨d, fs, h, g⟩
  · obtain ⟨⟨oe, vs, ho, hz, hd, _⟩, _, _⟩ := I.hok a _ h
    refine ⟨oe, none, ho, hz.1, ?_, ?_⟩
    · unfold PySem.W.notCls
      rw [hd]
    · rw [hz.2]
      trivial
  · obtain ⟨t1, ho⟩ := exo_at I.hok h
    obtain ⟨mA, hm, _⟩ := exd_at I.hok g
    obtain ⟨od, hod, _⟩ := lookIn_ns hm
    exact ⟨_, some od, ho, rfl, rfl, hod⟩
theorem pe_exc0 {C : Addr} {x : Str} {p pos : Pos} (hc : PySem.W.excIn X.K C veB "ValueError.__new__" = true) (gC : X.mg x = some (.ref C)) (kC : PySem.W.keepIn X.K (.ref C) = true) (hg : Gl X x) (hdb : (x == ("__debug__" : Str)) = false := by decide) :
    PE X (.Call (.Name x p) [] [] pos) (fun _ H Q => ∀ a, H a = none → Q (.ref a) (upd H a (ExO (.ref C) a))) := by
  constructor
  intro pins st σ H Q I h
  refine wpAny_Call_Name_kw (ld_glob I hg gC ?_ hdb)
  refine PySem.W.callWith_K0 I.kIn kC ?_
  obtain ⟨bm, N, nm, qn, bs, hdct, sn, sub, ab, col, dd, k0, k1, k2, k3, k5, mN, hC, hN, hni, OT⟩ := exc_obj I.kIn hc
  refine wpAny_call_exc_subT PySem.F.excBase_ValueError OT hC hN hni (fun h' a hm => ?_) (Nat.zero_le _)
  have free : H a = none := I.hok.gone hm.new
  obtain ⟨t, ht, _, _⟩ := hm.there
  have ok : ObjOk X.prog X.w (upd H a (ExO (.ref C) a)) h' a (ExO (.ref C) a) := exO_ok ht ⟨rfl, rfl⟩ rfl rfl rfl (show 4 < 6 by decide)
  exact ⟨.ref a, _, I.laidN hm.keeps hm.new free ok, rfl, h a free⟩
/-- C(e, ..), C an own exception class with an own __init__, as a value -/
def tOexV (C : Addr) (sp : Sp) (ta : TA) : TE := fun σ H Q => ta σ H fun vs H1 => vs.length ≤ 1000 ∧ ∀ a, H1 a = none → sp (.ref a :: vs) (upd H1 a (exo a C none)) (fun v H2 => v = .non ∧ Q (.ref a) H2) (fun _ _ _ => False)
theorem pe_oexV {x : Str} {C fI : Addr} {k : Nat} {fd : FuncData} {ps : List Str} {sp : Sp} {e : Expr} {es : List Expr} {ta : TA} {p pos : Pos} (OC : OexC X.K C) (iC : PySem.W.findIn X.K (.ref C) "__init__" = some (some (.ref fI)))
    (tI : PySem.W.typeIn X.K (.ref fI) = some (.type "function")) (F1 : FnOk X.prog X.w X.K X.mg X.base CX0 k fI fd ps sp) (hr : Room (k + 1) X.A) (hb : Binds X.K fd ps []) (hg : Gl X x) (hm : X.mg x = some (.ref C)) (ha : PA X (e :: es) ta)
    (hdb : (x == ("__debug__" : Str)) = false := by decide) (he : starEach (e :: es) X.env = (false, eval e X.env) :: starEach es X.env := by rfl) (hpl : (backTo pos (starEach es X.env)).any (·.1) = false := by rfl) :
    PE X (.Call (.Name x p) (e :: es) [] pos) (tOexV C sp ta) := by
  constructor
  intro pins st σ H Q I h
  obtain ⟨nm, q, N, bs, bm, sn, sub, ab, col, dd, k0, k1, k2, k3, k5, hC, hbm⟩ := OC.cls
  refine wpAny_Call_Name_kw (ld_glob I hg hm ?_ hdb)
  refine PySem.W.callWith_K (h₀ := X.base) I.ok.mod.kin OC.kC (thn (ha.run pos pins st σ H _ I h) fun us s1 z => ?_) he hpl
  obtain ⟨vs, H1, I1, r1, hz, q1⟩ := z
  refine ⟨I1.kIn, ?_⟩
  obtain ⟨hp, g, dr, tk, os⟩ := s1
  have hn : H1 (hp.objs.size + 1) = none := I1.hok.fresh (Nat.le_succ _)
  have hq := q1 _ hn
  have kk : ∀ b o, hp.get? b = some o → ((hp.push (PySem.W.kdv_tup us)).push (PySem.HandSPX.excO C hp.objs.size)).get? b = some o := fun b o z =>
    Heap.get?_push_of_some _ (Heap.get?_push_of_some _ z)
  have hget : ((hp.push (PySem.W.kdv_tup us)).push (PySem.HandSPX.excO C hp.objs.size)).get? (hp.objs.size + 1) = some (PySem.HandSPX.excO C hp.objs.size) := by
    heap_get
  have I2 : Inv X pins σ (upd H1 (hp.objs.size + 1) (exo (hp.objs.size + 1) C none)) ⟨(hp.push (PySem.W.kdv_tup us)).push (PySem.HandSPX.excO C hp.objs.size), g, dr, tk, os⟩ :=
    I1.laid (t' := tk) (a := hp.objs.size + 1) (o := exo (hp.objs.size + 1) C none) (h' := (hp.push (PySem.W.kdv_tup us)).push (PySem.HandSPX.excO C hp.objs.size)) kk (Nat.le_succ _) (exo_ok hget)
  have r2 : Vals (V.ref (hp.objs.size + 1) :: vs) (Value.ref (hp.objs.size + 1) :: us) := .cons rfl r1
  have hl : (Value.ref (hp.objs.size + 1) :: us).length = ps.length := by
    rw [← r2.length]
    exact F1.len _ _ _ _ hq
  have hus : us.length ≤ sizeLine := by
    rw [← Paired.length r1, sizeLine_eq]
    omega
  have hb2 := hb ⟨(hp.push (PySem.W.kdv_tup us)).push (PySem.HandSPX.excO C hp.objs.size), g, dr, tk, os⟩ (Value.ref (hp.objs.size + 1) :: us) I2.kIn (by rw [List.append_nil]; exact hl)
  rw [List.append_nil] at hb2
  refine wpAny_call (PySem.HandSPX.call_own PySem.F.excBase_ValueError (fun Y => PySem.HandSPX.refsVE_contains Y bm hbm) (I1.kIn _ _ hC) (PySem.W.looks_findIn I1.kIn iC) (fun self => PySem.W.bind_fn I1.kIn self tI) hus
    (codeAny_mono (F1.run _ X.stack _ _ ⟨Value.ref (hp.objs.size + 1) :: us, []⟩ (Value.ref (hp.objs.size + 1) :: us) _ _ (fun _ _ _ => False) (hr.make C us []) (I2.env0.make C us []) hb2 r2 hq) fun r s' z => ?_))
  cases r with
  | error er => exact absurd z id
  | ok fl =>
    cases fl with
    | ret u =>
      obtain ⟨v, H', J, rv, ev, qq⟩ := I2.after z
      subst ev
      exact ⟨rv, .ref (hp.objs.size + 1), H', J, rfl, qq⟩
    | next => exact absurd z id
    | brk => exact absurd z id
    | cont => exact absurd z id
/-- what isinstance asks of the class of an exception -/
structure XcC (K : PySem.W.Frag) (C : Addr) : Prop where
  cl : (PySem.W.clsIn K C).isSome = true
  hg : PySem.W.findIn K (.ref C) "__getattribute__" = some (some (.builtin "BaseException.__getattribute__"))
  hk : PySem.W.findIn K (.ref C) "__getattr__" = some none
  hs : PySem.W.subIn K (.ref C) (.type "BaseException") = some true
  ha : PySem.W.findIn K (.ref C) "__class__" = some (some (.builtin "object.__class__"))
  hn : PySem.W.specialIn K (.builtin "object.__class__") "__get__" = some (some (.builtin "getset_descriptor.__get__"))
  ht : PySem.W.takesIn K (.builtin "object.__class__") = some true
  hm : PySem.W.mroIn K C (.type "object") = some true
def xcB (K : PySem.W.Frag) (C : Addr) : Bool := (PySem.W.clsIn K C).isSome && (decide (PySem.W.findIn K (.ref C) "__getattribute__" = some (some (.builtin "BaseException.__getattribute__"))) && (decide (PySem.W.findIn K (.ref C) "__getattr__" = some none) &&
  (decide (PySem.W.subIn K (.ref C) (.type "BaseException") = some true) && (decide (PySem.W.findIn K (.ref C) "__class__" = some (some (.builtin "object.__class__"))) && (decide (PySem.W.specialIn K (.builtin "object.__class__") "__get__" = some (some (.builtin "getset_descriptor.__get__"))) &&
  (decide (PySem.W.takesIn K (.builtin "object.__class__") = some true) && decide (PySem.W.mroIn K C (.type "object") = some true)))))))
theorem xcB_ok {K : PySem.W.Frag} {C : Addr} (h : xcB K C = true) : XcC K C := by
  unfold xcB at h
  simp only [Bool.and_eq_true, decide_eq_true_eq] at h
  obtain ⟨h1, h2, h3, h4, h5, h6, h7, h8⟩ := h
  exact ⟨h1, h2, h3, h4, h5, h6, h7, h8⟩
def rIsX (K : PySem.W.Frag) : List V → Hp → VK → Prop := fun xs H Q => ∃ (a C : Addr) (c : V) (cv : Value) (b : Bool), xs = [.ref a, c] ∧ ExAt H a C ∧ XcC K C ∧ ClsV c cv ∧ PySem.W.kitOne K (.ref C) cv = some b ∧ Q (.bl b) H
theorem call_isX : CallR X (.builtin "isinstance") (rIsX X.K) := by
  intro pins st σ H xs us Q I r h
  obtain ⟨a, C, c, cv, b, rfl, ex, xc, kc, e, q⟩ := h
  obtain ⟨u1, u2, rfl, r1, r2⟩ := vals2 r
  cases r1
  have e2 := kc.eq r2
  subst e2
  obtain ⟨oe, od, J⟩ := ex.inst I
  exact PySem.W.kia_one (PySem.W.kitx_exc xc.cl xc.hg xc.hk xc.hs xc.ha xc.hn xc.ht xc.hm) I.kIn J e (fun z => nomatch z) fun tk => ⟨.bl b, H, I.kept (t' := tk) fun _ _ z => z, rfl, q⟩
theorem call_isXK {K : PySem.W.Frag} (hK : X.K = K) : CallR X (.builtin "isinstance") (rIsX K) := by
  subst hK
  exact call_isX
/-- e.f of such an object -/
def tXv (K : PySem.W.Frag) (f : Str) (te : TE) : TE := fun σ H Q => te σ H fun x H1 => ∃ (a C d : Addr) (fs : List (Str × V)) (v : V), x = .ref a ∧ H1 a = some (exo a C (some d)) ∧ H1 d = some (exd d fs) ∧ XfC K C ∧ PySem.W.findIn K (.ref C) f = some none ∧ fs.lookup f = some v ∧ Q v H1
theorem pe_xv {e : Expr} {te : TE} {pos : Pos} {n : Str} (he : PE X e te) (hb : attributeBase e n X.env (eval e X.env) = eval e X.env := by rfl) : PE X (.Attribute e n pos) (tXv X.K n te) := by
  constructor
  intro pins st σ H Q I h
  refine attr_of hb (thn (he.run pins st σ H _ I h) fun u s1 z => ?_)
  obtain ⟨x, H1, I1, rx, a, C, d, fs, v, rfl, h1, h2, xf, hno, hl, q⟩ := z
  cases rx
  obtain ⟨t1, ho⟩ := exo_at I1.hok h1
  obtain ⟨mA, hns, hrel⟩ := exd_at I1.hok h2
  obtain ⟨od, hod, hlk⟩ := lookIn_ns hns
  obtain ⟨u, hu, ru⟩ := RelO.some_of (v := v) (o := mA n) (by rw [← hl]; exact hrel n)
  have J : PySem.W.InstAt s1.heap a _ C (some od) := ⟨ho, rfl, rfl, hod⟩
  exact HandSPX.exc_get I1.kIn J xf.ga xf.gg xf.exC (PySem.W.findObj_own xf.hdC hno rfl (by rw [hlk, hu])) (handed_of ru) ⟨v, H1, I1.tok _, ru, q⟩
end
/-! ### facts of the written part, by one kernel run each -/
/-- a written tuple of texts -/
def strOf : Value → Option Str
  | .str x _ => some x
  | _ => none
def tupB (K : PySem.W.Frag) (a : Addr) (ws : List Str) : Bool := match K.lookup a with
  | some o => decide (o.cls = .type "tuple") && (match o.data with
    | .seq its _ => decide (its.size ≤ 1000) && decide (its.toList.map strOf = ws.map some)
    | _ => false)
  | none => false
theorem vals_str : ∀ {us : List Value} {ws : List Str}, us.map strOf = ws.map some → Vals (ws.map V.str) us
  | [], [], _ => .nil
  | [], _ :: _, h => nomatch h
  | _ :: _, [], h => nomatch h
  | u :: us, w :: ws, h => by
    rw [List.map_cons, List.map_cons] at h
    obtain ⟨h1, h2⟩ := List.cons.inj h
    refine .cons ?_ (vals_str h2)
    cases u with
    | str x t =>
      have e : x = w := Option.some.inj h1
      subst e
      exact ⟨t, rfl⟩
    | _ => exact nomatch h1
theorem tupB_ok {K : PySem.W.Frag} {a : Addr} {ws : List Str} (h : tupB K a ws = true) (H : Hp) : SqT K H a (ws.map V.str) := by
  unfold tupB at h
  split at h
  · rename_i o ho
    rw [Bool.and_eq_true] at h
    obtain ⟨h1, h2⟩ := h
    split at h2
    · rename_i its n hd
      rw [Bool.and_eq_true] at h2
      exact .inr ⟨o, its, n, ho, of_decide_eq_true h1, hd, sz (Nat.le_trans (of_decide_eq_true h2.1) (by decide)), vals_str (of_decide_eq_true h2.2)⟩
    · cases h2
  · cases h
/-- the refusals among one another, and under the first of them -/
def kitsB (K : PySem.W.Frag) (t : Addr) (cs : List Addr) : Bool := (List.range cs.length).all fun i => decide (PySem.W.kitOne K (.ref (cs.getD i 0)) (.ref t) = some true) && (List.range cs.length).all fun j => decide (PySem.W.kitOne K (.ref (cs.getD i 0)) (.ref (cs.getD j 0)) = some (decide (i = j)))
theorem kitsB_top {K : PySem.W.Frag} {t : Addr} {cs : List Addr} (h : kitsB K t cs = true) {i : Nat} (hi : i < cs.length) : PySem.W.kitOne K (.ref (cs.getD i 0)) (.ref t) = some true := by
  unfold kitsB at h
  have z := List.all_eq_true.mp h i (List.mem_range.mpr hi)
  rw [Bool.and_eq_true] at z
  exact of_decide_eq_true z.1
theorem kitsB_two {K : PySem.W.Frag} {t : Addr} {cs : List Addr} (h : kitsB K t cs = true) {i j : Nat} (hi : i < cs.length) (hj : j < cs.length) : PySem.W.kitOne K (.ref (cs.getD i 0)) (.ref (cs.getD j 0)) = some (decide (i = j)) := by
  unfold kitsB at h
  have z := List.all_eq_true.mp h i (List.mem_range.mpr hi)
  rw [Bool.and_eq_true] at z
  exact of_decide_eq_true (List.all_eq_true.mp z.2 j (List.mem_range.mpr hj))
def dws : List Str := ["new", "put", "paint", "tie", "cut", "add", "spread"]

end My
namespace My
open PySem PySem.Spec PyProof.Rows L2
/-! ### an exception caught and kept -/
/-- at a stands an exception of the class cls that was raised -/
def ExC (cls : Value) (d : Option Addr) (a : Addr) : HO := .ext fun h => ∃ (oe : Obj) (vs : Array Value), h.get? a = some oe ∧ Zc cls d oe ∧ oe.data = .fields vs
theorem exC_ok {P : Program} {w : World} {H : Hp} {h : Heap} {a : Addr} {cls : Value} {d : Option Addr} {oe : Obj} {vs : Array Value} (e : h.get? a = some oe) (z : Zc cls d oe) (dd : oe.data = .fields vs) : ObjOk P w H h a (ExC cls d a) := by
  refine ⟨⟨oe, vs, e, z, dd⟩, ⟨oe, e⟩, ?_⟩
  rintro h1 h2 ⟨o, v, e1, z1, d1⟩ st
  exact ⟨o, v, st _ e1, z1, d1⟩
/-- what stood nowhere at sI is none of the context's own: it may be tracked -/
theorem inv_seen {X : Cx} {pins : List (Addr × Obj)} {σI σ : L2.St} {HI H : Hp} {sI s : Shared} {a : Addr} {o : HO} (J : Inv X pins σI HI sI) (new : sI.heap.get? a = none) (I : Inv X pins σ H s) (na : H a = none) (ok : ObjOk X.prog X.w (upd H a o) s.heap a o) :
    Inv X pins σ (upd H a o) s := by
  have old : ∀ {b : Addr} {ob : Obj}, sI.heap.get? b = some ob → upd H a o b = H b := fun {b ob} e => upd_ne fun z => by
    rw [z, new] at e
    cases e
  have trk : ∀ {b : Addr} {u : HO}, H b = some u → upd H a o b = some u := fun {b u} e => (upd_ne (ne_of_none e na)).trans e
  refine ⟨I.ok, I.os, I.bare, ⟨I.base.keep, I.base.slot, ?_, I.base.there, ?_, ?_, ?_⟩, I.loc, I.cell, ?_, ?_, ?_, ?_, I.len⟩
  · intro b ob e nb hx
    obtain ⟨o', e'⟩ := J.base.there b ob e hx
    rw [old e']
    exact I.base.free b ob e nb hx
  · intro b xs e
    exact trk (I.base.tups b xs e)
  · intro b ob u e
    exact trk (I.base.frzs b ob u e)
  · intro b ps e
    obtain ⟨more, q⟩ := I.base.tbls b ps e
    exact ⟨more, trk q⟩
  · obtain ⟨m, ⟨ol, _, _, el, _⟩, _⟩ := J.loc
    rw [old el]
    exact I.free
  · intro y c e
    obtain ⟨v, oc, ec, _⟩ := J.cell y c e
    rw [old ec]
    exact I.freeC y c e
  · intro p hp
    obtain ⟨p1, p2, p3⟩ := I.pin p hp
    exact ⟨p1, (old (J.pin p hp).1).trans p2, p3⟩
  · intro b u e
    by_cases hb : b = a
    · subst hb
      rw [upd_same] at e
      cases e
      exact ok
    · rw [upd_ne hb] at e
      exact (I.hok b u e).stay (fun _ _ _ q => q) (fun _ q => trk q) fun _ _ q => trk q
/-- what 'except x as n' wishes, the exception kept behind it -/
def wKeep (K : PySem.W.Frag) (c : Value) (i : Nat) (ts : Addr → TS) (D : Ends) : WX := fun cls d σ H =>
  PySem.W.exmOne K cls c = some true ∧ ∀ a, H a = none → ts a { nx := fun σ' H' => H' a = none ∧ D.nx (σ'.set i none) (upd H' a (ExC cls d a)), rt := fun _ _ => False, bk := fun _ _ => False, ct := fun _ _ => False } (σ.set i (some (.ref a))) H
theorem ps_try_keep {X : Cx} {x n : Str} {c : Value} {i : Nat} {body suite : List Stmt} {b0 : Stmt} {np pos pos' : Pos} {tb : WX → TS} {ts : Addr → TS} (stk : X.stack = X.env :: X.outer) (frm : X.env.frame = some X.env.locals) (nd : X.N.Nodup) (hi : X.N[i]? = some n) (loc : X.env.kindOf n = some .local) (nm : Names X x c)
    (hb : ∀ (W : WX) (pn : List (Addr × Obj)) (xe : Value → Shared → Prop), Takes (X.tr pn xe) W → PSs (X.tr pn xe) body (tb W))
    (hsu : ∀ (a : Addr) (pn : List (Addr × Obj)), PSs (X.suite a pn) (b0 :: suite) (ts a)) :
    PS X (.Try body [.ExceptHandler (some (.Name x np)) (some n) (b0 :: suite) pos'] [] [] pos) (fun D σ H => tb (wKeep X.K c i ts D) D σ H) := by
  constructor
  intro pins s σ H D I h
  have frs' : X.A.frames = some (X.env :: X.outer) := by rw [I.ok.frames, stk]
  refine wpAny_Try_except (wpAny_mono ((hb (wKeep X.K c i ts D) (X.pn ++ pins) _ fun u s' ex => ?_).run [] s σ H D (I.toTry _) h) (fun f s1 sp => ?_) fun e s1 q => q)
  · obtain ⟨a, B, sI, pins', σ', H', cls, d, rfl, JT, nb, up, sky, na, os, ag, hm, go⟩ := ex
    have J : Inv X pins σ' H' sI := JT.ofTry I.ok
    have sky2 : Sky B (X.env :: X.outer) a (Zc cls d) X.env.locals s'.heap := stk ▸ sky
    refine Sky.land Zc.steady frs' frm sky2 fun h3 fl3 up3 => ?_
    have J3 : Inv X pins σ' H' { s' with heap := h3 } := J.landed nb fl3.1 (up.trans up3) os ag
    have away : ∀ {hp : Heap} {o : Obj} {vs : Array Value}, hp.FunFrames B (X.env :: X.outer) → hp.get? a = some o → o.data = .fields vs → a ∉ frs (X.env :: X.outer) := fun {hp o vs} ff e dd m => by
      obtain ⟨_, o', e', nf⟩ := ff.mem m
      rw [e] at e'
      cases e'
      exact nf _ dd
    obtain ⟨oe3, vs3, he3, hz3, hd3⟩ := fl3.there
    have nfr := away fl3.2.2.1 he3 hd3
    have nl : a ≠ X.env.locals := fun z => nfr (List.mem_filterMap.mpr ⟨X.env, List.mem_cons_self, by rw [frm, z]⟩)
    have nfs : a ∉ X.fs := fun m => by
      obtain ⟨e, he, q⟩ := List.mem_filterMap.mp m
      exact nfr (List.mem_filterMap.mpr ⟨e, List.mem_cons_of_mem _ he, q⟩)
    have newI : sI.heap.get? a = none := by
      cases q : sI.heap.get? a with
      | none => rfl
      | some ob =>
        have z := nb a ob q (by rw [stk]; exact nfr)
        rw [fl3.2.1] at z
        cases z
    have S3 := J3.suite he3 hd3 na nl nfs
    refine wpAny_handleBy_cons (codeAny_handlers_test ?_) (fun z => nomatch z)
    have name : ∀ {Q' : Value → Shared → Prop} {E' : Value → Shared → Prop}, Q' c { s' with heap := h3 } → wpAny (model X.prog X.w) (X.A.mark (some (.ref a))) (eval (.Name x np) X.env) Q' E' { s' with heap := h3 } := fun {Q' E'} q => by
      obtain ⟨gl, dbg, hit | ⟨miss, bt, nn⟩⟩ := nm
      · exact ld_glob (X := X.suite a ((a, oe3) :: (X.pn ++ pins))) S3 gl hit q dbg
      · exact ld_blt (X := X.suite a ((a, oe3) :: (X.pn ++ pins))) S3 gl miss bt q nn dbg
    have looks : PySem.W.Looks (model X.prog X.w) h3 (typeOf (.ref a)) cls := fun A' Q' E' t k q => wpAny_typeOf_ref (k _ _ he3) (hz3.1.symm ▸ q)
    refine name ((PySem.W.exm_one (M := model X.prog X.w) J3.kIn looks hm).here (codeAny_handlers_suite_as (HandSPX.lands_againZ fl3 fun h4 fl4 up4 => ?_)))
    · have J4 : Inv X pins σ' H' { s' with heap := h4 } := J.landed nb fl4.1 ((up.trans up3).trans up4) os ag
      obtain ⟨oe4, vs4, he4, hz4, hd4⟩ := fl4.there
      refine store_ok (X := X.suite a ((a, oe4) :: (X.pn ++ pins))) (v := .ref a) (J4.suite he4 hd4 na nl nfs) nd hi (.inl loc) rfl (fun s5 S5 => ?_) (.inr loc)
      refine wpAny_mono ((hsu a ((a, oe4) :: (X.pn ++ pins))).run [] s5 _ H' _ S5 (go a na)) (fun f s6 sp => ?_) fun _ _ z => (show False from z).elim
      cases f with
      | next =>
        obtain ⟨σ6, H6, S6, n6, q6⟩ := sp
        refine gone_ok (X := X.suite a ((a, oe4) :: (X.pn ++ pins))) S6 nd hi loc fun s7 S7 => ?_
        have at7 := (S7.pin (a, oe4) (List.mem_append_left _ List.mem_cons_self)).1
        exact ⟨_, _, inv_seen J newI (S7.unsuite I.ok) n6 (exC_ok at7 hz4 hd4), q6⟩
      | brk =>
        obtain ⟨_, _, _, z⟩ := sp
        exact (show False from z).elim
      | cont =>
        obtain ⟨_, _, _, z⟩ := sp
        exact (show False from z).elim
      | ret u =>
        obtain ⟨_, _, _, _, _, z⟩ := sp
        exact (show False from z).elim
  · cases f with
    | next =>
      obtain ⟨σ', H', J, q⟩ := sp
      exact wpAny_execs_nil ⟨σ', H', J.ofTry I.ok, q⟩
    | brk =>
      obtain ⟨σ', H', J, q⟩ := sp
      exact ⟨σ', H', J.ofTry I.ok, q⟩
    | cont =>
      obtain ⟨σ', H', J, q⟩ := sp
      exact ⟨σ', H', J.ofTry I.ok, q⟩
    | ret u =>
      obtain ⟨v, σ', H', J, r, q⟩ := sp
      exact ⟨v, σ', H', J.ofTry I.ok, r, q⟩

/-! ### a lambda of one parameter -/
structure LamP (sc scope : Scope) (p : Str) : Prop where
  kind : scope.kind = .function
  co : scope.isCoroutine = false
  gen : scope.isGenerator = false
  par : scope.names.lookup p = some .local
  own : ∀ y ∈ scope.names, y.2 ≠ .cell ∧ (y.2 = .local → y.1 = p)
  free : ∀ y ∈ scope.names, y.2 = .free → sc.names.lookup y.1 = some .cell ∨ sc.names.lookup y.1 = some .free
def lamPB (sc scope : Scope) (p : Str) : Bool := decide (scope.kind = .function) && (!scope.isCoroutine && (!scope.isGenerator && (decide (scope.names.lookup p = some .local) && scope.names.all fun y => !decide (y.2 = .cell) && ((!decide (y.2 = .local) || decide (y.1 = p)) && (!decide (y.2 = .free) || (decide (sc.names.lookup y.1 = some .cell) || decide (sc.names.lookup y.1 = some .free)))))))
theorem lamP_by {sc scope : Scope} {p : Str} (h : lamPB sc scope p = true) : LamP sc scope p := by
  unfold lamPB at h
  simp only [Bool.and_eq_true, Bool.or_eq_true, Bool.not_eq_true', decide_eq_true_eq, decide_eq_false_iff_not, List.all_eq_true] at h
  obtain ⟨h1, h2, h3, h4, h5⟩ := h
  refine ⟨h1, h2, h3, h4, fun y hy => ⟨(h5 y hy).1, fun e => ?_⟩, fun y hy e => ?_⟩
  · rcases (h5 y hy).2.1 with z | z
    · exact absurd e z
    · exact z
  · rcases (h5 y hy).2.2 with z | z
    · exact absurd e z
    · exact z
theorem LamP.has {X : Cx} {scope : Scope} {p : Str} (L : LamP X.env.scope scope p) (ok : X.Ok) {y : Str × NameKind} (hy : y ∈ scope.names) (e : y.2 = .free) : ∃ c, X.env.cells.lookup y.1 = some c := ok.has _ (L.free y hy e)
/-- the context of its body -/
def cxP (X : Cx) (A : Around) (outer : List Env) (s : Shared) (H : Hp) (E : XK) (scope : Scope) (p : Str) (f c' : Addr) : Cx := { LamX.lamCx X A outer s H E scope f c' with N := X.N ++ [p] }
section
variable {X : Cx} {pins : List (Addr × Obj)} {σ : L2.St} {H HZ : Hp} {s s1 : Shared} {A : Around} {outer : List Env} {E : XK} {scope : Scope} {p : Str} {f c' : Addr}
theorem lamP_start {h1 : Heap} {tk : Nat} {v : V} {u : Value} (I : Inv X pins σ H s) (L : LamP X.env.scope scope p) (np : ∀ (i : Nat) (v : V), X.N[i]? = some p → σ[i]? = some (some v) → False) (e0 : Env0 X.prog X.w X.K X.mg X.base A outer s1 HZ) (calm : A.handled = none)
    (un : Un (frs X.stack) [] H HZ s.heap s1.heap) (ns : h1.Ns s1.heap.objs.size fun y => ([(p, u)] : List (Str × Value)).reverse.lookup y) (kp : ∀ b o, s1.heap.get? b = some o → h1.get? b = some o) (r : RelV v u) :
    Inv (cxP X A outer s1 HZ E scope p f c') [] (σ ++ [some v]) HZ { s1 with heap := h1, toks := tk } := by
  -- the closure's cells are the maker's
  have back : ∀ {y : Str} {c : Addr}, (cloFrom X.env.cells scope.names []).lookup y = some c → X.env.cells.lookup y = some c := fun {y c} e => by
    rcases cloFrom_mem (PySem.mem_of_lookup e) with z | ⟨z, ec⟩
    · cases z
    · obtain ⟨c1, e1⟩ := L.has I.ok z rfl
      rw [ec, e1]
      rfl
  have fwd : ∀ {y : Str}, scope.names.lookup y = some .free → ∃ c, (cloFrom X.env.cells scope.names []).lookup y = some c := fun {y} e =>
    mem_lookup (cloFrom_has (cells := X.env.cells) (acc := []) (show (y, NameKind.free) ∈ scope.names from PySem.mem_of_lookup e))
  have cellOn : ∀ {c : Addr} {x : Option Value}, H c = none → s.heap.IsCell c x → h1.IsCell c x := fun {c x} n z => by
    obtain ⟨o, ho, hd⟩ := z
    obtain ⟨sl, q⟩ := un.any ho n (fun z => nomatch z)
    exact ⟨_, kp _ _ q, hd⟩
  have noCell : ∀ {y : Str}, scope.names.lookup y ≠ some .cell := fun {y} e => (L.own _ (PySem.mem_of_lookup e)).1 rfl
  have isOwn : ∀ {y : Str}, scope.names.lookup y = some .local → y = p := fun {y} e => (L.own _ (PySem.mem_of_lookup e)).2 rfl
  have ok : (cxP X A outer s1 HZ E scope p f c').Ok :=
    { mod := e0.mod
      kind := L.kind
      glob := rfl
      blt := rfl
      above := Nat.le_refl _
      inj := fun y z c e1 e2 => I.ok.inj y z c (back e1) (back e2)
      has := fun y hy => by
        rcases hy with hy | hy
        · exact absurd hy noCell
        · exact fwd hy
      cab := fun y c z _ => absurd (show false = true from z) Bool.false_ne_true
      hd := fun _ => calm
      frames := Around.frames_deeper e0.frames
      stk := .inr ⟨rfl, rfl⟩
      exf := fun b z => absurd (show b ∈ ([] : List Addr) from z) List.not_mem_nil
      bs := e0.bs
      bsz := e0.bsz
      noex := fun b _ _ z => absurd (show b ∈ ([] : List Addr) from z) List.not_mem_nil
      exfs := fun b z => absurd (show b ∈ ([] : List Addr) from z) List.not_mem_nil
      funs := e0.funs
      frf := e0.frf }
  refine ⟨ok, rfl, e0.bare, Un.kept kp, ⟨_, ns, fun i y x e1 e2 e3 => ?_⟩, fun y c e => ?_, e0.hok.fresh (Nat.le_refl _), fun y c e => ?_, fun q hq => absurd (show q ∈ ([] : List (Addr × Obj)) ++ [] from hq) List.not_mem_nil, e0.hok.kept kp, ?_⟩
  · have e1 : (X.N ++ [p])[i]? = some y := e1
    have e3 : Vis scope y := e3
    have ll : σ.length = X.N.length := I.len
    by_cases lt : i < X.N.length
    · rw [List.getElem?_append_left lt] at e1
      rw [List.getElem?_append_left (by rw [ll]; exact lt)] at e2
      have ny : y ≠ p := fun z => np i x (z ▸ e1) e2
      rcases e3 with k | k | k
      · exact absurd (isOwn k) ny
      · exact absurd k noCell
      · obtain ⟨m, _, at_⟩ := I.loc
        have fr := L.free _ (PySem.mem_of_lookup k) rfl
        obtain ⟨u', r', q⟩ := at_ i y x e1 e2 (.inr fr)
        obtain ⟨c, ec⟩ := fwd k
        refine ⟨u', r', .inr ⟨.inr k, c, ec, ?_⟩⟩
        rcases q with ⟨k', _⟩ | ⟨_, c2, ec2, z⟩
        · have k' : X.env.scope.names.lookup y = some .local := k'
          rcases fr with k2 | k2
          · rw [k'] at k2
            cases k2
          · rw [k'] at k2
            cases k2
        · rw [back ec] at ec2
          cases ec2
          exact cellOn (I.freeC y c (back ec)) z
    · have ge : X.N.length ≤ i := Nat.le_of_not_lt lt
      rw [List.getElem?_append_right ge] at e1
      rw [List.getElem?_append_right (by rw [ll]; exact ge), ll] at e2
      cases hi : i - X.N.length with
      | zero =>
        rw [hi] at e1 e2
        have ey : p = y := Option.some.inj e1
        have ev : v = x := Option.some.inj (Option.some.inj e2)
        subst ey ev
        refine ⟨u, r, .inl ⟨L.par, ?_⟩⟩
        show ([(p, u)] : List (Str × Value)).lookup p = some u
        rw [List.lookup_cons, beq_self_eq_true]
      | succ n =>
        rw [hi] at e1
        cases e1
  · obtain ⟨x, z⟩ := I.cell y c (back e)
    exact ⟨x, cellOn (I.freeC y c (back e)) z⟩
  · obtain ⟨x, o, ho, _⟩ := I.cell y c (back e)
    exact un.free c o ho (I.freeC y c (back e)) (fun z => nomatch z)
  · show (σ ++ [some v]).length = (X.N ++ [p]).length
    rw [List.length_append, List.length_append, I.len]
    rfl
/-- the lambda at f called with one thing, at any time behind its making -/
theorem lamP_run {k : Nat} {params : Arguments} {b : Expr} {pm ctv : Value} {tb : TE} {v : V} {u : Value} {Q : VK} (I : Inv X pins σ H s) (L : LamP X.env.scope scope p) (np : ∀ (i : Nat) (v : V), X.N[i]? = some p → σ[i]? = some (some v) → False)
    (hf : s.heap.get? f = some (PySem.W.kla_obj "<lambda>" (X.env.qual ++ "<lambda>") params b scope (cloFrom X.env.cells scope.names []) pm c' ctv)) (hfn : H f = none) (hfr : f ∉ frs X.stack)
    (bind : ∀ u, bindArgs (PySem.W.kla_fn "<lambda>" (X.env.qual ++ "<lambda>") params b scope (cloFrom X.env.cells scope.names []) pm (.ref c') ctv) ⟨[u], []⟩ = pure [(p, u)]) (room : Room (k + 1) A) (e0 : Env0 X.prog X.w X.K X.mg X.base A outer s1 HZ)
    (un : Un (frs X.stack) [] H HZ s.heap s1.heap) (code : HZ c' = some (LamX.CodeO c' (X.env.qual ++ "<lambda>"))) (body : ∀ (A : Around) (outer : List Env) (s : Shared) (H : Hp), Room k (A.deeper (LamX.lamEnv X scope s.heap.objs.size f c')) → PE (cxP X A outer s H E scope p f c') b tb)
    (r : RelV v u) (t : tb (σ ++ [some v]) HZ Q) : codeAny (model X.prog X.w) A (.call (.ref f) ⟨[u], []⟩) (CR (L2.CX X.prog X.w) outer X.prog X.w HZ s1 Q E) s1 := by
  have here := un.keep f _ hf hfn hfr (fun z => nomatch z)
  obtain ⟨⟨oc, vs, tk, ho, hd, hv⟩, _, _⟩ := e0.hok c' _ code
  refine PySem.W.kla_callFunE room.depth here rfl L.co L.gen rfl ⟨c', oc, vs, tk, rfl, ho, hd, hv⟩ ?_
  rw [bind u]
  refine wpAny_pure (wpAny_newFunctionEnv (fun y hy => (L.own y hy).1) (fun y hy => ?_) (fun h1 ns sb => ⟨?_, ?_⟩) L.kind)
  · rw [List.mem_singleton.mp hy]
    exact L.par
  · have kin : s1.heap.NoLimit := e0.mod.nolimit.keeps fun b o e => (e0.bs b o e).1
    exact kin.fresh _ sb
  · have kp : ∀ b o, s1.heap.get? b = some o → h1.get? b = some o := fun b o e => sb.extBut b o (Nat.ne_of_lt (Heap.lt_size e)) (Heap.get?_push_of_some _ e)
    have J := lamP_start (E := E) (f := f) (c' := c') (tk := s1.toks + ([(p, u)] : List (Str × Value)).length) I L np e0 room.hd un ns kp r
    show codeAny _ _ (.expr b (LamX.lamEnv X scope s1.heap.objs.size f c')) _ _
    refine PySem.W.kla_codeExpr (wpAny_mono ((body _ _ s1 HZ (room.deeper _)).run [] _ _ HZ Q J t) (fun w' s' z => ?_) fun e s' z => z)
    obtain ⟨x, H', J', rx, q⟩ := z
    exact ⟨x, H', J'.os, J'.bare, J'.base, J'.hok, rx, q⟩
end
/-! ### it is called by the def that got it -/
/-- that def's context, entered at s -/
abbrev gotCx (X : Cx) (Ng : List Str) (x : Str) (sg : Scope) (g : Addr) (cdg : Value) (s : Shared) (H : Hp) : Cx := cxOf CX0 X.prog X.w X.K X.mg X.base Ng x sg g cdg X.A X.stack s H E0
/-- a(e), a's slot the i-th: e's reading, then the lambda's of e's value -/
def tAct (i : Nat) (f c' : Addr) (q : Str) (ta : TA) (W : WX) (tl : XK → V → Hp → VK → Prop) : TE := fun σ H Q => σ[i]? = some (some (.ref f)) ∧ ta σ H fun vs H1 => ∃ v, vs = [v] ∧ H1 c' = some (LamX.CodeO c' q) ∧ tl (fun cls d H' => W cls d σ H') v H1 Q
theorem pe_actP {X : Cx} {pins : List (Addr × Obj)} {σ : L2.St} {H : Hp} {s : Shared} {scope : Scope} {p x a : Str} {f c' g : Addr} {k i : Nat} {params : Arguments} {b e : Expr} {pm ctv cdg : Value} {tb : XK → TE} {ta : TA} {Ng : List Str} {sg : Scope} {pn : List (Addr × Obj)} {xe : Value → Shared → Prop} {W : WX} {p1 p2 : Pos}
    (I : Inv X pins σ H s) (L : LamP X.env.scope scope p) (np : ∀ (i : Nat) (v : V), X.N[i]? = some p → σ[i]? = some (some v) → False) (hf : s.heap.get? f = some (PySem.W.kla_obj "<lambda>" (X.env.qual ++ "<lambda>") params b scope (cloFrom X.env.cells scope.names []) pm c' ctv)) (hfn : H f = none) (hfr : f ∉ frs X.stack)
    (bind : ∀ u, bindArgs (PySem.W.kla_fn "<lambda>" (X.env.qual ++ "<lambda>") params b scope (cloFrom X.env.cells scope.names []) pm (.ref c') ctv) ⟨[u], []⟩ = pure [(p, u)])
    (tk : Takes ((gotCx X Ng x sg g cdg s H).tr pn xe) W) (room : Room (k + 1) (X.A.deeper (envOfC x sg s.heap.objs.size g cdg)))
    (body : ∀ (A : Around) (outer : List Env) (s : Shared) (H : Hp) (E : XK), Room k (A.deeper (LamX.lamEnv X scope s.heap.objs.size f c')) → PE (cxP X A outer s H E scope p f c') b (tb E))
    (at_ : Ng[i]? = some a) (vis : Vis sg a) (args : PA ((gotCx X Ng x sg g cdg s H).tr pn xe) [e] ta)
    (star : starEach [e] ((gotCx X Ng x sg g cdg s H).tr pn xe).env = (false, eval e ((gotCx X Ng x sg g cdg s H).tr pn xe).env) :: starEach [] ((gotCx X Ng x sg g cdg s H).tr pn xe).env := by rfl)
    (d1 : (a == ("__debug__" : Str)) = false := by decide) (d2 : (a == ("__classdict__" : Str)) = false := by decide) :
    PE ((gotCx X Ng x sg g cdg s H).tr pn xe) (.Call (.Name a p1) [e] [] p2) (tAct i f c' (X.env.qual ++ "<lambda>") ta W fun E v H1 Q => tb E (σ ++ [some v]) H1 Q) := by
  constructor
  intro pz sz σz Hz Q Iz h
  obtain ⟨slot, ht⟩ := h
  refine wpAny_Call_Name_kw (thn ((pe_var (pos := p1) (i := i) at_ vis d1 d2).run pz sz σz Hz (fun v H1 => v = .ref f ∧ H1 = Hz) Iz ⟨.ref f, slot, rfl, rfl⟩) fun u s1 z => ?_)
  obtain ⟨v0, H1, I1, r1, rfl, rfl⟩ := z
  obtain rfl : u = Value.ref f := r1
  have still : ∀ {σ' : L2.St} {H' : Hp} {s' : Shared}, Inv ((gotCx X Ng x sg g cdg s H).tr pn xe) pz σ' H' s' → s'.heap.get? f = some (PySem.W.kla_obj "<lambda>" (X.env.qual ++ "<lambda>") params b scope (cloFrom X.env.cells scope.names []) pm c' ctv) := fun J => J.base.keep f _ hf hfn hfr (fun z => nomatch z)
  refine PySem.W.callWith_F ⟨_, _, _, _, still I1⟩ (thn (args.run p2 pz s1 σz H1 _ I1 ht) fun us s2 z => ?_) star rfl
  obtain ⟨vs, H2, I2, rv, v, rfl, hc, tl⟩ := z
  obtain ⟨u, rfl, ru⟩ := vals1 rv
  have e2 : Env0 X.prog X.w X.K X.mg X.base (X.A.deeper (envOfC x sg s.heap.objs.size g cdg)) (envOfC x sg s.heap.objs.size g cdg :: X.stack) s2 H2 := I2.env0
  have un : Un (frs X.stack) [] H H2 s.heap s2.heap := I2.base
  have run := lamP_run (X := X) (E := fun cls d H' => W cls d σz H') (k := k) (u := u) (Q := Q) I L np hf hfn hfr bind room e2 un hc (fun A outer s H rm => body A outer s H _ rm) ru tl
  refine ⟨⟨_, _, _, _, still I2⟩, wpAny_call (codeAny_mono run fun res s3 z => ?_)⟩
  cases res with
  | error er => exact tk er s3 (XE.of_call I2 (fun _ _ _ w => w) z)
  | ok fl =>
    cases fl with
    | ret u' => exact I2.after z
    | next => exact (show False from z).elim
    | brk => exact (show False from z).elim
    | cont => exact (show False from z).elim
/-- what the def makes of the lambda's reading tl and of the thing v: TT -/
def GivesP (X : Cx) (k : Nat) (Ng : List Str) (x : Str) (sg : Scope) (g : Addr) (cdg : Value) (bg : List Stmt) (a : Str) (q : Str) (TT : V → (XK → V → Hp → VK → Prop) → Hp → VK → Prop) : Prop :=
  ∀ (f c' : Addr) (v : V) (s : Shared) (H : Hp) (Q : VK) (tl : XK → V → Hp → VK → Prop), Room k (X.A.deeper (envOfC x sg s.heap.objs.size g cdg)) →
    (∀ (W : WX) (pn : List (Addr × Obj)) (xe : Value → Shared → Prop) (p1 p2 : Pos) (e : Expr) (ta : TA), Takes ((gotCx X Ng x sg g cdg s H).tr pn xe) W → PA ((gotCx X Ng x sg g cdg s H).tr pn xe) [e] ta →
      starEach [e] ((gotCx X Ng x sg g cdg s H).tr pn xe).env = (false, eval e ((gotCx X Ng x sg g cdg s H).tr pn xe).env) :: starEach [] ((gotCx X Ng x sg g cdg s H).tr pn xe).env →
      PE ((gotCx X Ng x sg g cdg s H).tr pn xe) (.Call (.Name a p1) [e] [] p2) (tAct 0 f c' q ta W tl)) →
    H c' = some (LamX.CodeO c' q) → TT v tl H Q →
    ∃ t, PSs (gotCx X Ng x sg g cdg s H).nox bg t ∧ t { nx := fun _ H' => Q .non H', rt := Q } (L2.start Ng [.ref f, v]) H
/-- the lambda is made: all but the table at P is as it was -/
theorem lam_new {X : Cx} {pins : List (Addr × Obj)} {σ : L2.St} {H : Hp} {s : Shared} {c P : Addr} {params : Arguments} {b : Expr} {scope : Scope} {pos : Pos} {E Q : Value → Shared → Prop} (J : Inv X pins σ H s) (tab : LamX.TabB X.base X.mg c P) (own : X.env.code = .ref c)
    (t0 : LamX.TabS H P (X.env.qual ++ "<lambda>")) (nodef : defaultsOf params X.env = ([], [])) (has : ∀ y ∈ scope.names, y.2 = .free → ∃ c, X.env.cells.lookup y.1 = some c)
    (go : ∀ (f c' : Addr) (pm ctv : Value) (H1 : Hp) (s1 : Shared), Inv X pins σ H1 s1 → But P H H1 → LamX.TabS H1 P (X.env.qual ++ "<lambda>") → s1.heap.get? f = some (PySem.W.kla_obj "<lambda>" (X.env.qual ++ "<lambda>") params b scope (cloFrom X.env.cells scope.names []) pm c' ctv) →
      H1 f = none → f ∉ frs X.stack → H1 c' = some (LamX.CodeO c' (X.env.qual ++ "<lambda>")) → Q (.ref f) s1) : wpAny (model X.prog X.w) X.A (eval (.Lambda params b scope pos) X.env) Q E s := by
  have seen := t0
  obtain ⟨ps, atP, tri, each⟩ := seen
  have blt : s.heap.BuiltinsAt X.mg P := tab.bm.keeps J.bk
  have objP : s.heap.get? P = some { cls := .none, data := .fields ps } := J.hok P _ atP
  have far : ∀ f, s.heap.objs.size ≤ f → f ∉ frs X.stack := fun f le m => by
    rcases List.mem_cons.mp (J.stkSub _ m) with e | e
    · have lt := J.lt
      rw [← e] at lt
      exact absurd (Nat.lt_of_lt_of_le lt le) (Nat.lt_irrefl _)
    · exact J.nofs le e
  refine PySem.W.kla_eval nodef ?_
  cases found : codeAmong pos ps.toList with
  | some cv =>
    obtain ⟨c', rfl, here⟩ := each pos cv found
    refine PySem.W.kla_makeFunctionHit (P := P) (c := c) (mg := X.mg) (ps := ps) (closure_ok has) J.ok.glob (J.mod.glob.keeps J.bk) own (tab.code.keeps J.bk) objP tri found blt fun ctv h' tk kept le => ?_
    have J1 : Inv X pins σ H { s with heap := h'.push (PySem.W.kla_obj "<lambda>" (X.env.qual ++ "<lambda>") params b scope (cloFrom X.env.cells scope.names []) ((X.mg "__name__").getD .none) c' ctv), toks := tk } := J.kept fun _ _ e => Heap.get?_push_of_some _ (kept _ _ e)
    exact go _ c' _ ctv H _ J1 .refl t0 (Heap.get?_push_size _ rfl) (J.hok.fresh le) (far _ le) here
  | none =>
    refine PySem.W.kla_makeFunction (P := P) (c := c) (mg := X.mg) (ps := ps) (closure_ok has) J.ok.glob (J.mod.glob.keeps J.bk) own (tab.code.keeps J.bk) objP tri found tab.gP blt fun c' ctv h' tk kept ge lt rec_ grown => ?_
    obtain ⟨c2, oc, vs, tk2, e2, atC, dat, nm⟩ := rec_
    cases e2
    have le : s.heap.objs.size ≤ h'.objs.size := Nat.le_trans ge (Nat.le_of_lt lt)
    have newC : H c' = none := J.hok.fresh ge
    have J1 := LamX.inv_table (t' := tk) (more := #[rawInt pos.line, rawInt pos.col, .ref c']) (h' := h'.push (PySem.W.kla_obj "<lambda>" (X.env.qual ++ "<lambda>") params b scope (cloFrom X.env.cells scope.names []) ((X.mg "__name__").getD .none) c' ctv)) J atP
      (fun _ _ nb e => Heap.get?_push_of_some _ (kept _ _ nb e)) (Heap.get?_push_of_some _ grown) ge ⟨oc, vs, tk2, Heap.get?_push_of_some _ atC, dat, nm⟩
    have but : But P H (upd (upd H P (.tbl (ps ++ #[rawInt pos.line, rawInt pos.col, .ref c']))) c' (LamX.CodeO c' (X.env.qual ++ "<lambda>"))) := fun d o e n => by
      rw [upd_ne (ne_of_none e newC), upd_ne n]
      exact e
    have toL : (ps ++ #[rawInt pos.line, rawInt pos.col, .ref c']).toList = ps.toList ++ [rawInt pos.line, rawInt pos.col, .ref c'] := by simp
    have away : ∀ {d : Addr} {q : Str}, H d = some (LamX.CodeO d q) → d ≠ P := fun {d q} e z => by
      rw [z, atP] at e
      exact LamX.codeO_ne ps (Option.some.inj e).symm
    refine go h'.objs.size c' _ ctv _ _ J1 but ⟨ps ++ #[rawInt pos.line, rawInt pos.col, .ref c'], ?_, ?_, fun p' cv among => ?_⟩ (Heap.get?_push_size _ rfl) ?_ (far _ le) upd_same
    · rw [upd_ne (ne_of_none atP newC), upd_same]
    · rw [toL]
      exact PySem.TriplesOk_snoc _ _ _ _ tri
    · rw [toL] at among
      rcases LamX.among_app _ tri among with z | z
      · obtain ⟨c0, e1, e2⟩ := each p' cv z
        exact ⟨c0, e1, but _ _ e2 (away e2)⟩
      · exact ⟨c', z, upd_same⟩
    · rw [upd_ne (Nat.ne_of_gt lt), upd_ne (Nat.ne_of_gt (Nat.lt_of_lt_of_le (Heap.lt_size objP) le))]
      exact J.hok.fresh le
def tLamP (P : Addr) (qn : Str) (TT : V → (XK → V → Hp → VK → Prop) → Hp → VK → Prop) (t : XK → TE) (ta : TA) : TE := fun σ H Q => LamX.TabS H P qn ∧ ∀ H1, But P H H1 → LamX.TabS H1 P qn → ta σ H1 fun vs H2 => ∃ v, vs = [v] ∧ LamX.ExtN H1 H2 ∧ TT v (fun E v H' Q' => t E (σ ++ [some v]) H' Q') H2 Q
theorem pinned_one {X : Cx} {pins : List (Addr × Obj)} {σ : L2.St} {H : Hp} {s : Shared} {f : Addr} {o : Obj} {fd : FuncData} (I : Inv X pins σ H s) (hf : s.heap.get? f = some o) (hd : o.data = .func fd) (hn : H f = none) (hfr : f ∉ frs X.stack) : Inv X ((f, o) :: pins) σ H s := by
  refine ⟨I.ok, I.os, I.bare, I.base, I.loc, I.cell, I.free, I.freeC, fun q hq => ?_, I.hok, I.len⟩
  rcases List.mem_append.mp hq with z | z
  · exact I.pin q (List.mem_append_left _ z)
  · rcases List.mem_cons.mp z with e | z
    · subst e
      refine ⟨hf, hn, fun e => ?_, fun m => hfr ?_, fun v e => ?_⟩
      · obtain ⟨m, ⟨ol, es, ep, el, dl, _⟩, _⟩ := I.loc
        have e' : f = X.env.locals := e
        rw [← e', hf] at el
        cases el
        rw [hd] at dl
        cases dl
      · rcases I.ok.stk with st | ⟨st, _⟩
        · rw [st]
          exact m
        · rw [st]
          obtain ⟨e1, m1, m2⟩ := List.mem_filterMap.mp m
          exact List.mem_filterMap.mpr ⟨e1, List.mem_cons_of_mem _ m1, m2⟩
      · have e' : o.data = .cell v := e
        rw [hd] at e'
        cases e'
    · exact I.pin q (List.mem_append_right _ z)
theorem unpin_one {X : Cx} {pins : List (Addr × Obj)} {σ : L2.St} {H : Hp} {s : Shared} {q : Addr × Obj} (I : Inv X (q :: pins) σ H s) : Inv X pins σ H s := by
  refine ⟨I.ok, I.os, I.bare, I.base, I.loc, I.cell, I.free, I.freeC, fun z hz => I.pin z ?_, I.hok, I.len⟩
  rcases List.mem_append.mp hz with m | m
  · exact List.mem_append_left _ m
  · exact List.mem_append_right _ (List.mem_cons_of_mem _ m)
/-- x(lambda p: b, e) -/
theorem pe_lamP {X : Cx} {TT : V → (XK → V → Hp → VK → Prop) → Hp → VK → Prop} {x a a2 p : Str} {g c P : Addr} {k : Nat} {pg : Arguments} {bg : List Stmt} {sg : Scope} {dV kV doc pm cdv ct oc : Value} {an od : Option Addr} {osl : Array (Option Value)} {Ng : List Str} {params : Arguments} {b e : Expr} {scope : Scope} {t : XK → TE} {ta : TA} {pp lpos pos : Pos}
    (gl : Gl X x) (mg : X.mg x = some (.ref g)) (keep : PySem.W.keepIn X.K (.ref g) = true) (look : X.K.lookup g = some ⟨oc, od, .func (PySem.W.fnOf x x pg bg sg dV kV doc pm an cdv ct), osl⟩) (code : PySem.W.codeIn X.K cdv x = true)
    (binds : L2.Binds X.K (PySem.W.fnOf x x pg bg sg dV kV doc pm an cdv ct) [a, a2] []) (S : FnScope Ng [a, a2] sg) (at0 : Ng[0]? = some a) (vis : Vis sg a) (gives : GivesP X (k + 1) Ng x sg g cdv bg a (X.env.qual ++ "<lambda>") TT)
    (TB : LamX.TabB X.base X.mg c P) (own : X.env.code = .ref c) (room : Room (k + 2) X.A) (L : LamP X.env.scope scope p) (np : p ∉ X.N) (nodef : defaultsOf params X.env = ([], []))
    (bind : ∀ (q : Str) (cl : List (Str × Addr)) (pm cv ctv u : Value), bindArgs (PySem.W.kla_fn "<lambda>" q params b scope cl pm cv ctv) ⟨[u], []⟩ = pure [(p, u)])
    (body : ∀ (A : Around) (outer : List Env) (s : Shared) (H : Hp) (E : XK) (f c' : Addr), Room k (A.deeper (LamX.lamEnv X scope s.heap.objs.size f c')) → PE (cxP X A outer s H E scope p f c') b (t E)) (args : PA X [e] ta)
    (star : starEach (.Lambda params b scope lpos :: [e]) X.env = (false, eval (.Lambda params b scope lpos) X.env) :: starEach [e] X.env := by rfl) (plain : (backTo pos (starEach [e] X.env)).any (·.1) = false := by rfl)
    (d0 : (x == ("__debug__" : Str)) = false := by decide) (d1 : (a == ("__debug__" : Str)) = false := by decide) (d2 : (a == ("__classdict__" : Str)) = false := by decide) :
    PE X (.Call (.Name x pp) [.Lambda params b scope lpos, e] [] pos) (tLamP P (X.env.qual ++ "<lambda>") TT t ta) := by
  constructor
  intro pins s σ H Q I h
  obtain ⟨hT, h⟩ := h
  refine wpAny_Call_Name_kw (ld_glob I gl mg ?_ d0)
  refine PySem.W.callWith_K (h₀ := X.base) I.ok.mod.kin keep ?_ star plain
  rw [star]
  show wpAny _ _ (spliced ((false, eval (.Lambda params b scope lpos) X.env) :: backTo pos (starEach [e] X.env))) _ _ s
  refine Calls.spliced_cons (lam_new I TB own hT nodef (fun y hy z => L.has I.ok hy z) fun f c' pm' ctv H1 s1 I1 ext T1 hf hfn hfr hco => ?_)
  have Ip := pinned_one I1 hf rfl hfn hfr
  refine thn (args.run pos _ s1 σ H1 _ Ip (h H1 ext T1)) fun us s2 z => ?_
  obtain ⟨vs, H2, I2, rv, v, rfl, ext2, tt⟩ := z
  obtain ⟨u, rfl, ru⟩ := vals1 rv
  have f2 := I2.pin (f, _) (List.mem_append_right _ List.mem_cons_self)
  have co2 : H2 c' = some (LamX.CodeO c' (X.env.qual ++ "<lambda>")) := ext2 _ _ hco (LamX.codeO_ne)
  refine ⟨I2.kIn, ?_⟩
  have run : codeAny (model X.prog X.w) X.A (.call (.ref g) ⟨[.ref f, u], []⟩) (CR CX0 X.stack X.prog X.w H2 s2 Q E0) s2 := by
    refine LamX.run_ofS (N := Ng) (ps := [a, a2]) (us := [.ref f, u]) (vs := [.ref f, v]) look code S room I2.env0 (binds s2 [.ref f, u] I2.kIn rfl) (.cons rfl (.cons ru .nil)) rfl fun hr' => ?_
    obtain ⟨t', ht', q'⟩ := gives f c' v s2 H2 Q (fun E v H' Q' => t E (σ ++ [some v]) H' Q') hr' (fun W pn xe p1 p2 e ta tk args star => pe_actP (k := k) I2 L (fun i v e _ => np (List.mem_of_getElem? e)) f2.1 f2.2.1 hfr (fun u => bind _ _ _ _ _ u) tk hr' (fun A outer s H E rm => body A outer s H E f c' rm) at0 vis args star d1 d2) co2 tt
    exact ⟨t', ht'.nox, q'⟩
  refine wpAny_call (codeAny_mono run fun res s3 z => ?_)
  cases res with
  | error er => exact (show False from z).elim
  | ok fl =>
    cases fl with
    | ret u' =>
      obtain ⟨v', H', J, r', q'⟩ := I2.after z
      exact ⟨v', H', unpin_one J, r', q'⟩
    | next => exact (show False from z).elim
    | brk => exact (show False from z).elim
    | cont => exact (show False from z).elim
/-- the same by the def's own facts -/
theorem pe_lamF {X : Cx} {TT : V → (XK → V → Hp → VK → Prop) → Hp → VK → Prop} {x a a2 p : Str} {g c P : Addr} {k : Nat} {st : Stmt} {fd : FuncData} {Ng : List Str} {params : Arguments} {b e : Expr} {scope : Scope} {t : XK → TE} {ta : TA} {pp lpos pos : Pos}
    (gl : Gl X x) (mg : X.mg x = some (.ref g)) (F : Fun X.K x x st g fd) (binds : L2.Binds X.K fd [a, a2] []) (S : FnScope Ng [a, a2] (defScope st)) (at0 : Ng[0]? = some a) (vis : Vis (defScope st) a) (gives : ∀ cdg, GivesP X (k + 1) Ng x (defScope st) g cdg (defBody st) a (X.env.qual ++ "<lambda>") TT)
    (TB : LamX.TabB X.base X.mg c P) (own : X.env.code = .ref c) (room : Room (k + 2) X.A) (L : LamP X.env.scope scope p) (np : p ∉ X.N) (nodef : defaultsOf params X.env = ([], []))
    (bind : ∀ (q : Str) (cl : List (Str × Addr)) (pm cv ctv u : Value), bindArgs (PySem.W.kla_fn "<lambda>" q params b scope cl pm cv ctv) ⟨[u], []⟩ = pure [(p, u)])
    (body : ∀ (A : Around) (outer : List Env) (s : Shared) (H : Hp) (E : XK) (f c' : Addr), Room k (A.deeper (LamX.lamEnv X scope s.heap.objs.size f c')) → PE (cxP X A outer s H E scope p f c') b (t E)) (args : PA X [e] ta)
    (star : starEach (.Lambda params b scope lpos :: [e]) X.env = (false, eval (.Lambda params b scope lpos) X.env) :: starEach [e] X.env := by rfl) (plain : (backTo pos (starEach [e] X.env)).any (·.1) = false := by rfl)
    (d0 : (x == ("__debug__" : Str)) = false := by decide) (d1 : (a == ("__debug__" : Str)) = false := by decide) (d2 : (a == ("__classdict__" : Str)) = false := by decide) :
    PE X (.Call (.Name x pp) [.Lambda params b scope lpos, e] [] pos) (tLamP P (X.env.qual ++ "<lambda>") TT t ta) := by
  have keep := F.kp
  obtain ⟨oc, od, kV, doc, pm, an, cdv, ct, osl, rfl, lk, hcd⟩ := F.ex
  exact pe_lamP gl mg keep lk hcd binds S at0 vis (gives cdv) TB own room L np nodef bind body args star plain d0 d1 d2

/-! ### a law called from the caller itself: nothing is shown around it -/
/-- at the law's call: its tables are empty, the script is frozen (or known by K) -/
def lawH (K : PySem.W.Frag) (cs : List (Addr × Addr)) (a : Addr) (o : Obj) (ns : List Int) : Hp := fun b => if b ∈ cs.map (·.2) then some (.tbl #[]) else if b = a ∧ K.lookup a = none then some (.frz o (.lst (ns.map V.int))) else none
theorem lawH_some {K : PySem.W.Frag} {cs : List (Addr × Addr)} {a b : Addr} {o : Obj} {ns : List Int} {u : HO} (h : lawH K cs a o ns b = some u) : (b ∈ cs.map (·.2) ∧ u = .tbl #[]) ∨ (b = a ∧ K.lookup a = none ∧ u = .frz o (.lst (ns.map V.int))) := by
  unfold lawH at h
  split at h
  · rename_i m
    exact .inl ⟨m, (Option.some.inj h).symm⟩
  · split at h
    · rename_i m
      exact .inr ⟨m.1, m.2, (Option.some.inj h).symm⟩
    · cases h
theorem call_law {P : Program} {w : World} {K : PySem.W.Frag} {mg mb : Str → Option Value} {fa a : Addr} {cs : List (Addr × Addr)} {s : Shared} {vs : List Value} {ns : List Int} (kin : K.In s.heap) (gl : s.heap.Ns mainGlobals mg) (bi : s.heap.Ns builtinsNs mb)
    (boot : ∀ x : Str, x ≠ "__name__" → mb x = bootBuiltins x) (lim : s.heap.NoLimit) (gens : s.gens = #[]) (tabs : ∀ p ∈ cs, s.heap.get? p.2 = some { cls := .none, data := .fields #[] }) (away : ∀ p ∈ cs, K.lookup p.2 = none) (code : ∀ p ∈ cs, PySem.W.CodeHd s.heap p.1 p.2)
    (bm : ∃ (bm : Addr) (ob : Obj), mg "__builtins__" = some (.ref bm) ∧ bm ≠ builtinsNs ∧ s.heap.get? bm = some ob ∧ ob.cls = .type "module" ∧ ob.dict = some builtinsNs ∧ ob.data = .plain) (scr : s.heap.get? a = some { cls := .type "list", data := .seq vs.toArray }) (iar : IntsAre vs ns) (len : ns.length ≤ sizeLine)
    (run : ∀ (base : Heap) (H : Hp), (∀ p ∈ cs, LamX.TabB base mg p.1 p.2) → Env0 P w K mg base callerA [] s H → (∀ p ∈ cs, H p.2 = some (.tbl #[])) → SqL K H a (ns.map V.int) →
      codeAny (model P w) callerA (.call (.ref fa) ⟨[.ref a], []⟩) (CR CX0 [] P w H s (fun v _ => v = .bl true) E0) s) :
    codeAny (model P w) callerA (.call (.ref fa) ⟨[.ref a], []⟩) (fun r s' => r = .ok (.ret (.bool true)) ∧ OldK s.heap s'.heap ∧ s'.os = s.os ∧ AllBare s'.gens) s := by
  have rel := vals_ints iar
  have tabAt : ∀ {b : Addr}, b ∈ cs.map (·.2) → s.heap.get? b = some { cls := .none, data := .fields #[] } := fun {b} m => by
    obtain ⟨p, hp, rfl⟩ := List.mem_map.mp m
    exact tabs p hp
  have notTab : a ∉ cs.map (·.2) := fun m => by
    have z := (tabAt m).symm.trans scr
    have z2 := congrArg Obj.data (Option.some.inj z)
    cases z2
  generalize hH : lawH K cs a { cls := .type "list", data := .seq vs.toArray } ns = H
  have some_ : ∀ {b : Addr} {u : HO}, H b = some u → (b ∈ cs.map (·.2) ∧ u = .tbl #[]) ∨ (b = a ∧ K.lookup a = none ∧ u = .frz { cls := .type "list", data := .seq vs.toArray } (.lst (ns.map V.int))) := fun {b u} e => by
    rw [← hH] at e
    exact lawH_some e
  have tabH : ∀ p ∈ cs, H p.2 = some (.tbl #[]) := fun p hp => by
    rw [← hH]
    exact if_pos (List.mem_map.mpr ⟨p, hp, rfl⟩)
  -- what is neither a list nor an empty table isn't tracked
  have loose : ∀ {b : Addr} {ob : Obj}, s.heap.get? b = some ob → (∀ xs n, ob.data ≠ .seq xs n) → ob.data ≠ .fields #[] → H b = none := fun {b ob} e n1 n2 => by
    cases q : H b with
    | none => rfl
    | some u =>
      rcases some_ q with ⟨m, _⟩ | ⟨rfl, _⟩
      · rw [tabAt m] at e
        cases e
        exact absurd rfl n2
      · rw [scr] at e
        cases e
        exact absurd rfl (n1 _ _)
  have nsOn : ∀ {b : Addr} {m : Str → Option Value}, s.heap.Ns b m → (hidT s.heap H).Ns b m := fun {b m} z => by
    obtain ⟨o, es, ep, e, d, r⟩ := z
    refine ⟨o, es, ep, hidT_get e (loose e (fun _ _ q => ?_) fun q => ?_), d, r⟩
    · rw [d] at q
      cases q
    · rw [d] at q
      cases q
  have kin' : K.In (hidT s.heap H) := fun b o e => hidT_get (kin b o e) (by
    cases q : H b with
    | none => rfl
    | some u =>
      rcases some_ q with ⟨m, _⟩ | ⟨rfl, n, _⟩
      · obtain ⟨p, hp, rfl⟩ := List.mem_map.mp m
        rw [away p hp] at e
        cases e
      · rw [n] at e
        cases e)
  have hok : HOk P w H s.heap := fun b u e => by
    rcases some_ e with ⟨m, rfl⟩ | ⟨rfl, _, rfl⟩
    · exact tabAt m
    · exact ⟨scr, by rw [List.length_map]; exact len, vs, _, rel, scr⟩
  have sq : SqL K H a (ns.map V.int) := by
    cases q : K.lookup a with
    | none =>
      refine .inl (.inr ⟨{ cls := .type "list", data := .seq vs.toArray }, ?_⟩)
      rw [← hH]
      exact (if_neg notTab).trans (if_pos ⟨rfl, q⟩)
    | some o =>
      have e := kin a o q
      rw [scr] at e
      cases e
      exact .inr ⟨_, vs.toArray, _, q, rfl, rfl, rfl, by rw [List.size_toArray, iar.length]; exact len, rel⟩
  have tb : ∀ p ∈ cs, LamX.TabB (hidT s.heap H) mg p.1 p.2 := fun p hp => by
    have pt := tabs p hp
    refine ⟨?_, ?_, fun e => ?_⟩
    · obtain ⟨o, us, fl, tf, fg, tg, iF, tx, tt, g1, g2, g3, g4, g5⟩ := code p hp
      refine ⟨o, us, fl, tf, fg, tg, iF, tx, tt, hidT_get g1 (loose g1 (fun _ _ q => ?_) fun q => ?_), g2, g3, g4, g5⟩
      · rw [g3] at q
        cases q
      · rw [g3] at q
        cases q
        simp at g4
    · obtain ⟨b, ob, m1, m2, m3, m4, m5, m6⟩ := bm
      refine ⟨b, ob, m1, m2, fun e => ?_, fun e => ?_, hidT_get m3 (loose m3 (fun _ _ q => ?_) fun q => ?_), m4, m5, m6⟩
      · obtain ⟨o, es, ep, e1, d1, _⟩ := gl
        rw [e, e1] at m3
        cases m3
        rw [d1] at m6
        cases m6
      · rw [e, pt] at m3
        cases m3
        cases m6
      · rw [m6] at q
        cases q
      · rw [m6] at q
        cases q
    · obtain ⟨o, es, ep, e1, d1, _⟩ := gl
      rw [e, pt] at e1
      cases e1
      cases d1
  have limOn : (hidT s.heap H).NoLimit := by
    obtain ⟨mc, l1, l2⟩ := lim
    exact ⟨mc, nsOn l1, l2⟩
  have env : Env0 P w K mg (hidT s.heap H) callerA [] s H := ⟨rfl, ⟨kin', nsOn gl, ⟨mb, nsOn bi, boot⟩, limOn⟩, fun b o e => of_hidT e, Nat.le_of_eq (hidT_size _ _), trivial, fun b hb => absurd (show b ∈ ([] : List Addr) from hb) List.not_mem_nil, hok, .of_eq gens⟩
  refine codeAny_mono (run _ H tb env tabH sq) fun r s' z => ?_
  cases r with
  | error e => exact (show False from z).elim
  | ok fl =>
    cases fl with
    | next => exact (show False from z).elim
    | brk => exact (show False from z).elim
    | cont => exact (show False from z).elim
    | ret u =>
      obtain ⟨v, H', os, bare, un, hok', rv, ev⟩ := z
      have ev : v = .bl true := ev
      subst ev
      obtain rfl : u = Value.bool true := rv
      have grown : ∀ p ∈ cs, ∃ more : Array Value, s'.heap.get? p.2 = some { cls := .none, data := .fields more } := fun p hp => by
        obtain ⟨more, q⟩ := un.tbls p.2 #[] (tabH p hp)
        exact ⟨_, hok' p.2 _ q⟩
      have stays : ∀ b o, b ∉ cs.map (·.2) → s.heap.get? b = some o → s'.heap.get? b = some o := fun b o nb e => by
        cases q : H b with
        | none => exact un.keep b o e q (fun z => absurd (show b ∈ ([] : List Addr) from z) List.not_mem_nil) List.not_mem_nil
        | some u =>
          rcases some_ q with ⟨m, _⟩ | ⟨_, _, rfl⟩
          · exact absurd m nb
          · have e1 := (hok b _ q).1
            have e2 := (hok' b _ (un.frzs b _ _ q)).1
            rw [e] at e1
            rw [Option.some.inj e1]
            exact e2
      refine ⟨rfl, ⟨fun b o e => ?_, fun b o e => ?_⟩, os, bare⟩
      · by_cases m : b ∈ cs.map (·.2)
        · obtain ⟨p, hp, rfl⟩ := List.mem_map.mp m
          obtain ⟨more, hm⟩ := grown p hp
          rw [tabs p hp] at e
          cases e
          exact .inr (.inl ⟨((code p hp).tab (tabs p hp)).isCodeTable, rfl, #[], more, rfl, by rw [Array.empty_append]; exact hm⟩)
        · exact .inl (stays b o m e)
      · by_cases m : b ∈ cs.map (·.2)
        · obtain ⟨p, hp, rfl⟩ := List.mem_map.mp m
          obtain ⟨more, hm⟩ := grown p hp
          exact ⟨_, hm⟩
        · exact ⟨o, stays b o m e⟩
theorem walk_law0 {l : PySem.W.OpenLaw} {most : Nat} {prog : Program} {lo : List Str} {XP : (Str → Option Value) → Heap → Prop} {YP : World → Heap → Prop} {df : DefRec} {K : Params → PySem.W.Frag} (names : List Str)
    (h1 : l.most = some most) (h2 : most ≤ sizeLine) (h3 : df.params.defaults = []) (recs : (names.all fun nm => (recsOf prog).any fun r => r.name == nm) = true) (kin : ∀ (w : World) (h : Heap), YP w h → (K w.params).In h)
    (at_ : ∀ (w : World) (mg : Str → Option Value) (fa : Addr) (h : Heap), (K w.params).In h → h.Ns mainGlobals mg → mg df.name = some (.ref fa) → (∀ nm ∈ names, TabAt mg h nm) →
      ∃ cs : List (Addr × Addr), (∀ p ∈ cs, h.get? p.2 = some { cls := .none, data := .fields #[] }) ∧ (∀ p ∈ cs, (K w.params).lookup p.2 = none) ∧ (∀ p ∈ cs, PySem.W.CodeHd h p.1 p.2) ∧
        ∀ (s : Shared) (H : Hp) (base : Heap) (a : Addr) (ns : List Int), ns.length ≤ most → (∀ z ∈ ns, Builtin.Int.intBits z ≤ 1048576) → (∀ p ∈ cs, LamX.TabB base mg p.1 p.2) → Env0 l.prog w (K w.params) mg base callerA [] s H → (∀ p ∈ cs, H p.2 = some (.tbl #[])) → SqL (K w.params) H a (ns.map V.int) →
          codeAny (model l.prog w) callerA (.call (.ref fa) ⟨[.ref a], []⟩) (CR CX0 [] l.prog w H s (fun v _ => v = .bl true) E0) s) :
    PySem.W.WalkO prog lo XP YP l.row.toRowW df [] (fun f vs => PySem.call f vs) := by
  refine Att.attach_callB h1 h3 fun w s0 s mg mb fa o pm cd doc a vs ns Gr Y _ _ _ name ob iar len bits gens => ?_
  have tabs : ∀ nm ∈ names, TabAt mg s.heap nm := fun nm hm => by
    obtain ⟨r, hr, er⟩ := List.any_eq_true.mp (List.all_eq_true.mp recs nm hm)
    obtain ⟨x1, x2, x3, x4, x5, y1, y2, y3, y4, _, y6⟩ := Gr.T.tab r hr
    rw [beq_iff_eq.mp er] at y1
    exact ⟨x1, x2, x3, x4, x5, y1, y2, y3, y4, y6⟩
  obtain ⟨cs, t1, t2, t3, go⟩ := at_ w mg fa _ (kin w _ Y) Gr.T.g name tabs
  exact call_law (kin w _ Y) Gr.T.g Gr.T.b Gr.T.builtins Gr.T.nolimit gens t1 t2 t3 Gr.T.bmain ob iar (Nat.le_trans len h2) fun base H tb e0 th sq => go s H base a ns len bits tb e0 th sq

end My
namespace My
open PySem PySem.Spec PyProof.Rows L2
/-! ### repr of what is nested; a list of truths counted; raise X() -/
def rRepr (K : PySem.W.Frag) : List V → Hp → VK → Prop := fun xs H Q => ∃ (v : V) (d : PyData), xs = [v] ∧ Dp K H v d ∧ isDisplay d = true ∧ d.showable = true ∧ d.hasDict = false ∧ d.depth ≤ 50 ∧ d.shown.length ≤ sizeLine ∧ Q (.str d.shown) H
theorem call_repr {X : Cx} (none_ : X.A.guards = some []) (room : X.A.units + 64 < cLine) : CallR X (.builtin "repr") (rRepr X.K) := by
  intro pins s σ H xs us Q I r h
  obtain ⟨v, d, rfl, dp, disp, shw, nod, dep, len, q⟩ := h
  obtain ⟨u, rfl, ru⟩ := vals1 r
  obtain ⟨as, rd⟩ := Dp.reads I d v u dp ru
  obtain ⟨a, rfl⟩ := isRef_of_reads rd disp
  exact repr_of_reads' rd shw (PyData.noDict_hsm nod) none_ (by omega) (fun _ _ e => e) (fun h' t tk hk => ⟨.str d.shown, H, I.kept (t' := tk) hk, ⟨t, rfl⟩, q⟩) len
/-- l.count(True), l a list of truths -/
def rCntB (K : PySem.W.Frag) : V → List V → Hp → VK → Prop := fun x xs H Q => ∃ (p : Addr) (bs : List Bool) (b : Bool), x = .ref p ∧ xs = [.bl b] ∧ SqL K H p (bs.map V.bl) ∧ Q (.int (bs.count b : Nat)) H
def isB (b : Bool) : Value → Bool
  | .bool c => c == b
  | _ => false
theorem bools_of {b : Bool} : ∀ {bs : List Bool} {us : List Value}, Vals (bs.map V.bl) us → (∀ y ∈ us, ∃ c, y = .bool c) ∧ us.countP (isB b) = bs.count b
  | [], _, r => by
    cases r
    exact ⟨fun y h => (nomatch h), rfl⟩
  | c :: bs, _, r => by
    rw [List.map_cons] at r
    cases r with
    | @cons a u as us ru rr =>
      obtain ⟨h1, h2⟩ := bools_of (b := b) rr
      obtain rfl : u = Value.bool c := ru
      refine ⟨fun y hy => ?_, ?_⟩
      · rcases List.mem_cons.mp hy with e | e
        · exact ⟨c, e⟩
        · exact h1 y e
      · rw [List.countP_cons, List.count_cons, h2]
        rfl
theorem mt_countB {X : Cx} : MtR X "list.count" (rCntB X.K) := by
  intro pins s σ H x xs v us Q I rx rxs h
  obtain ⟨p, bs, b, rfl, rfl, sq, q⟩ := h
  obtain rfl : v = Value.ref p := rx
  obtain ⟨u, rfl, ru⟩ := rxs.one
  obtain rfl : u = Value.bool b := ru
  obtain ⟨its, rel, ⟨ob, n, hob, cls, dct, dat⟩, _⟩ := I.list sq
  obtain ⟨oc, od, odt, osl⟩ := ob
  simp only at cls dat
  subst cls dat
  obtain ⟨all, cnt⟩ := bools_of (b := b) rel
  refine call_meets PySem.F.slot_list_count ⟨_, hob, rfl⟩ PySem.F.entry_list_count (PySem.F.args_list_count_2 _ _) (SeqAt.list_countAt p its.toArray n od osl (.bool b) (isB b)) ⟨hob, fun y hy => ?_, ?_⟩
  · obtain ⟨c, rfl⟩ := all y (by simpa using hy)
    exact SeqAt.EqAt.bool_bool c b
  · refine ⟨.int (bs.count b : Nat), H, I.tok _, ⟨s.toks, ?_⟩, q⟩
    show Value.int ((its.toArray.toList.countP (isB b) : Nat) : Int) s.toks = Value.int ((bs.count b : Nat) : Int) s.toks
    rw [← cnt]
/-- raise X() -/
theorem pmk_own0 {X : Cx} {C : Addr} {x : Str} {p pos : Pos} (ex : PySem.W.excIn X.K C veB "ValueError.__new__" = true) (gC : X.mg x = some (.ref C)) (kC : PySem.W.keepIn X.K (.ref C) = true) (rs : Raises X (.ref C)) (gl : Gl X x) (dbg : (x == ("__debug__" : Str)) = false := by decide) :
    PMk X (.Call (.Name x p) [] [] pos) (fun _ H Q => Q (.ref C) none H) := by
  intro pins st σ H Q I q
  refine wpAny_Call_Name_kw (ld_glob I gl gC ?_ dbg)
  refine PySem.W.callWith_K0 I.kIn kC ?_
  obtain ⟨bm, N, nm, qn, bs, hdct, sn, sub, ab, col, dd, k0, k1, k2, k3, k5, mN, hC, hN, hni, OT⟩ := exc_obj I.kIn ex
  exact wpAny_call_exc_subT PySem.F.excBase_ValueError OT hC hN hni (fun h' a made => mk_of I made rs q (I.hok.gone made.new)) (Nat.zero_le _)
/-- isinstance of a kept exception -/
def rIsC (K : PySem.W.Frag) : List V → Hp → VK → Prop := fun xs H Q => ∃ (a C : Addr) (c : V) (cv : Value) (b : Bool), xs = [.ref a, c] ∧ H a = some (ExC (.ref C) none a) ∧ XcC K C ∧ ClsV c cv ∧ PySem.W.kitOne K (.ref C) cv = some b ∧ Q (.bl b) H
theorem call_isC {X : Cx} : CallR X (.builtin "isinstance") (rIsC X.K) := by
  intro pins st σ H xs us Q I r h
  obtain ⟨a, C, c, cv, b, rfl, at_, xc, kc, e, q⟩ := h
  obtain ⟨u1, u2, rfl, r1, r2⟩ := vals2 r
  obtain rfl : u1 = Value.ref a := r1
  obtain rfl := kc.eq r2
  obtain ⟨⟨oe, vs, ho, hz, hd⟩, _, _⟩ := I.hok a _ at_
  have inst : PySem.W.InstAt st.heap a oe C none := by
    refine ⟨ho, hz.1, ?_, ?_⟩
    · unfold PySem.W.notCls
      rw [hd]
    · rw [hz.2]
      trivial
  exact PySem.W.kia_one (PySem.W.kitx_exc xc.cl xc.hg xc.hk xc.hs xc.ha xc.hn xc.ht xc.hm) I.kIn inst e (fun z => nomatch z) fun tk => ⟨.bl b, H, I.kept (t' := tk) fun _ _ z => z, rfl, q⟩

end My
namespace My
open PySem PySem.Spec PyProof.Rows L2
/-! ### == of a dict and a tuple; of anything and a tuple -/
theorem dict_eq_declines_tuple (l b : Addr) (es : Array DictEntry) (items2 : Array Value) (n n2 : Nat) (dd dd2 : Option Addr) (sl sl2 : Array (Option Value)) :
    PySem.Meets (Builtin.«dict.__eq__» ⟨[.ref l, .ref b], []⟩) (fun _ R s => s.heap.get? l = some { cls := .type "dict", dict := dd, data := .dict es n, slots := sl } ∧ s.heap.get? b = some { cls := .type "tuple", dict := dd2, data := .seq items2 n2, slots := sl2 } ∧ R (.ok (.ret .notImplemented)) s) :=
  .of_wp fun prog w A R s h => by obtain ⟨hp, g, d, tk, os⟩ := s; obtain ⟨hl, hb, h⟩ := h; have f1 := F.sub_tuple_dict; wp_walk using PySem.AutoSeq1.wpAny_loadPart' hl, PySem.AutoSeq1.wpAny_loadPart' hb; exact ⟨_, rfl, h⟩
theorem tuple_eq_declines_dict (l b : Addr) (items : Array Value) (es2 : Array DictEntry) (n n2 : Nat) (dd dd2 : Option Addr) (sl sl2 : Array (Option Value)) :
    PySem.Meets (Builtin.«tuple.__eq__» ⟨[.ref l, .ref b], []⟩) (fun _ R s => s.heap.get? l = some { cls := .type "tuple", dict := dd, data := .seq items n, slots := sl } ∧ s.heap.get? b = some { cls := .type "dict", dict := dd2, data := .dict es2 n2, slots := sl2 } ∧ R (.ok (.ret .notImplemented)) s) :=
  .of_wp fun prog w A R s h => by obtain ⟨hp, g, d, tk, os⟩ := s; obtain ⟨hl, hb, h⟩ := h; have f1 := F.sub_dict_tuple; wp_walk using PySem.AutoSeq1.wpAny_loadPart' hl, PySem.AutoSeq1.wpAny_loadPart' hb; exact ⟨_, rfl, h⟩
theorem rc_dict_tuple {A : Around} {s : Shared} {l b : Addr} {o : Obj} {es : Array DictEntry} {n : Nat} {items2 : Array Value} (ho : s.heap.get? l = some o) (hc : o.cls = .type "dict") (hd : o.data = .dict es n) (hb : s.heap.IsTuple b items2) (hu : A.units < cLine) : PySem.SeqAt.RcAt A s (.ref l) (.ref b) false := fun prog w E Q h => by
  obtain ⟨cls, dd, data, sl⟩ := o
  obtain ⟨⟨cls2, dd2, data2, sl2⟩, ho2, hc2, n2, hd2⟩ := id hb
  simp only at hc hd hc2 hd2
  subst hc hd hc2 hd2
  have hne : l ≠ b := by
    rintro rfl
    have z := Option.some.inj (ho.symm.trans ho2)
    injection z with z1
    injection z1 with z2
    exact absurd z2 (by decide)
  exact (PySem.SeqAt.rc_eq_decline_or (k := false) ⟨_, ho, rfl⟩ ⟨_, ho2, rfl⟩ (by decide) F.sub_tuple_dict F.slot_dict_eq F.slot_tuple_eq_refl
    (fun _ hq => call_meets F.slot_dict_eq ⟨_, ho, rfl⟩ F.entry_dict_eq (F.args_dict_eq_2 _ _) (dict_eq_declines_tuple l b es items2 n n2 dd dd2 sl sl2) ⟨ho, ho2, hq⟩)
    (fun _ hq => call_meets F.slot_tuple_eq_refl ⟨_, ho2, rfl⟩ F.entry_tuple_eq (F.args_tuple_eq_2 _ _) (tuple_eq_declines_dict b l items2 es n2 n dd2 dd sl2 sl) ⟨ho2, ho, hq⟩)
    (fun _ hq => PySem.wpAny_isSame_ref_other hne ho ho2 (by simp) hq) (.inr hu) h)
/-- anything on the left, data on the right -/
def rEqX (K : PySem.W.Frag) : R2 := fun x y H Q => (∃ d e, Dp K H x d ∧ Dp K H y e ∧ SeqAt.shaped d = true ∧ SeqAt.shaped e = true ∧ Q (.bl (PyData.eqv d e)) H) ∨
  (∃ a b kvs xs, x = .ref a ∧ y = .ref b ∧ H a = some (.dK kvs) ∧ SqT K H b xs ∧ Q (.bl false) H)
theorem op_eqX {X : Cx} (hu : X.A.units + 64 < cLine) : OpR X (compareOp .Eq) (rEqX X.K) := by
  intro pins s σ H x y v u Q I rx ry h
  rcases h with h | ⟨a, b, kvs, xs, rfl, rfl, ha, hb, q⟩
  · exact op_eqD hu pins s σ H x y v u Q I rx ry h
  · cases rx
    cases ry
    obtain ⟨_, _, vs, _, o, es, ep, h1, h2, h3, _⟩ := dk_of I.hok ha
    obtain ⟨its2, r2, p2, _⟩ := I.tuple hb
    exact rc_dict_tuple h1 h2.1 h3 p2 (by omega) X.prog X.w _ _ ⟨.bl false, H, I, rfl, q⟩

end My
namespace My
open PySem L2
inductive Sl | pt | oth | num | plc | knd
  deriving DecidableEq
def fit : Sl → V → Prop
  | .pt, v => ∃ i, v = .int i
  | .oth, v => v = .non ∨ ∃ i, v = .int i
  | .num, v => ∃ i, v = .int i
  | .plc, v => ∃ i : Int, v = .int i ∧ 0 ≤ i
  | .knd, v => ∃ k, v = .str k ∧ k ∈ kinds
inductive FitAll : List Sl → List V → Prop
  | nil : FitAll [] []
  | cons {s : Sl} {v : V} {ss : List Sl} {vs : List V} : fit s v → FitAll ss vs → FitAll (s :: ss) (v :: vs)
def forms : List (Str × List Sl) := [("new", [.num, .knd]), ("put", [.pt, .num]), ("paint", [.pt, .knd]), ("tie", [.pt, .pt]), ("cut", [.pt, .pt]), ("add", [.pt, .pt, .num]), ("spread", [.pt, .oth, .num]),
  ("joined", [.pt, .pt]), ("way", [.pt, .pt]), ("total", [.pt, .pt]), ("many", [.pt, .pt]), ("most", [.pt, .pt]), ("first", [.pt, .pt, .knd]), ("reach", [.pt, .pt, .num]), ("kth", [.pt, .pt, .plc]), ("meet", [.pt, .pt, .pt]), ("sum", [.pt, .oth]), ("size", [.pt, .oth]), ("top", [.pt, .oth]), ("least", [.pt, .oth, .knd])]
def evs : List Str := ["new", "put", "paint", "tie", "cut", "add", "spread", "joined", "way", "total", "many", "most", "first", "reach", "kth", "meet", "sum", "size", "top", "least"]

/-! ### a written dict from texts to tuples of texts -/
def formB (K : PySem.W.Frag) : List DictEntry → List (Str × List Str) → Bool
  | [], [] => true
  | e :: es, f :: fs => e.key.isStr f.1 && ((match e.val with | .ref a => tupB K a f.2 | _ => false) && formB K es fs)
  | _, _ => false
theorem isStr_key {v : Value} {x : Str} (h : v.isStr x = true) : ∃ t, v = .str x t := by
  cases v with
  | str y t =>
    have e : (y == x) = true := h
    exact ⟨t, by rw [beq_iff_eq.mp e]⟩
  | _ => exact nomatch h
theorem formB_ns {K : PySem.W.Frag} : ∀ {es : List DictEntry} {fs : List (Str × List Str)}, formB K es fs = true → es.any (·.refKey) = false ∧ ∀ z : Str, match fs.lookup z with
    | none => es.find? (·.key.isStr z) = none
    | some ws => ∃ e a, es.find? (·.key.isStr z) = some e ∧ e.val = .ref a ∧ tupB K a ws = true
  | [], [], _ => ⟨rfl, fun _ => rfl⟩
  | [], _ :: _, h => nomatch h
  | _ :: _, [], h => nomatch h
  | e :: es, f :: fs, h => by
    unfold formB at h
    rw [Bool.and_eq_true, Bool.and_eq_true] at h
    obtain ⟨h1, h2, h3⟩ := h
    obtain ⟨r1, r2⟩ := formB_ns h3
    obtain ⟨t, ek⟩ := isStr_key h1
    refine ⟨?_, fun z => ?_⟩
    · rw [List.any_cons, r1, Bool.or_false]
      obtain ⟨hs, k, v⟩ := e
      dsimp only at ek
      subst ek
      rfl
    · have q := r2 z
      rw [List.lookup_cons, List.find?_cons]
      by_cases ez : z = f.1
      · subst ez
        rw [beq_self_eq_true]
        dsimp only
        rw [h1]
        dsimp only
        cases ev : e.val with
        | ref a =>
          rw [ev] at h2
          exact ⟨e, a, rfl, ev, h2⟩
        | _ =>
          rw [ev] at h2
          exact nomatch h2
      · have e1 : (z == f.1) = false := beq_eq_false_iff_ne.mpr ez
        have e2 : e.key.isStr z = false := by
          rw [ek]
          show (f.1 == z) = false
          exact beq_eq_false_iff_ne.mpr fun y => ez y.symm
        rw [e1, e2]
        dsimp only
        exact q
theorem formB_get {K : PySem.W.Frag} {d : Addr} {c : Value} {od : Option Addr} {es : Array DictEntry} {n : Nat} {sl : Array (Option Value)} {fs : List (Str × List Str)} (hl : K.lookup d = some ⟨c, od, .dict es n, sl⟩) (h : formB K es.toList fs = true) (z : Str) :
    match fs.lookup z with
    | none => PySem.W.nsIn K d z = some none
    | some ws => ∃ a, PySem.W.nsIn K d z = some (some (.ref a)) ∧ tupB K a ws = true := by
  obtain ⟨r1, r2⟩ := formB_ns h
  have q := r2 z
  unfold PySem.W.nsIn
  rw [hl]
  cases e : fs.lookup z with
  | none =>
    rw [e] at q
    dsimp only at q ⊢
    rw [q]
    dsimp only
    rw [r1]
    rfl
  | some ws =>
    rw [e] at q
    obtain ⟨en, a, h1, h2, h3⟩ := q
    refine ⟨a, ?_, h3⟩
    dsimp only
    rw [h1]
    dsimp only
    rw [h2]
/-! ### anything -/
inductive AnyV (H : Hp) : V → Prop
  | non : AnyV H .non
  | bl (b : Bool) : AnyV H (.bl b)
  | int (i : Int) : AnyV H (.int i)
  | str (x : Str) : AnyV H (.str x)
  | tup {a : Addr} {xs : List V} (h : H a = some (.tup xs)) : AnyV H (.ref a)
  | lst {a : Addr} {xs : List V} (h : H a = some (.lst xs)) : AnyV H (.ref a)
  | dK {a : Addr} {kvs : List (Key × V)} (h : H a = some (.dK kvs)) : AnyV H (.ref a)
/-- all but tables of code objects stays -/
def Kp (H H' : Hp) : Prop := ∀ a o, H a = some o → (∀ ps, o ≠ .tbl ps) → H' a = some o
theorem Kp.refl (H : Hp) : Kp H H := fun _ _ e _ => e
theorem Kp.trans {H H1 H2 : Hp} (x : Kp H H1) (y : Kp H1 H2) : Kp H H2 := fun a o e n => y a o (x a o e n) n
theorem Kp.of_same {H H' : Hp} (s : Same H H') : Kp H H' := fun a o e _ => s a o e
theorem Kp.of_tab {H H' : Hp} {P : Addr} (g : GxR.TabG H P) (t : GxR.Tabbed P H H') : Kp H H' := fun a o e n => by
  by_cases h : a = P
  · subst h
    obtain ⟨ps, hp, _⟩ := g
    rw [hp] at e
    exact absurd (Option.some.inj e).symm (n ps)
  · rw [t.2 a h]
    exact e
theorem AnyV.kp {H H' : Hp} (k : Kp H H') {v : V} (h : AnyV H v) : AnyV H' v := by
  cases h with
  | non => exact .non
  | bl b => exact .bl b
  | int i => exact .int i
  | str x => exact .str x
  | tup h => exact .tup (k _ _ h (by intro ps z; cases z))
  | lst h => exact .lst (k _ _ h (by intro ps z; cases z))
  | dK h => exact .dK (k _ _ h (by intro ps z; cases z))
/-- isinstance with int, bool, str, tuple -/
def isIntV : V → Bool
  | .bl _ => true
  | .int _ => true
  | _ => false
def isBoolV : V → Bool
  | .bl _ => true
  | _ => false
def isStrV : V → Bool
  | .str _ => true
  | _ => false
theorem int_ok {K : PySem.W.Frag} {H : Hp} {v : V} (h : AnyV H v) : ∃ t, TyX K H v t ∧ PySem.W.kitOne K t (.type "int") = some (isIntV v) := by
  cases h with
  | non => exact ⟨_, .base .non, kit_ty (show kitB _ _ = some false by decide +kernel)⟩
  | bl b => exact ⟨_, .base (.bl b), kit_ty (show kitB _ _ = some true by decide +kernel)⟩
  | int i => exact ⟨_, .base (.int i), kit_ty (show kitB _ _ = some true by decide +kernel)⟩
  | str x => exact ⟨_, .base (.str x), kit_ty (show kitB _ _ = some false by decide +kernel)⟩
  | tup h => exact ⟨_, .base (.tup h), kit_ty (show kitB _ _ = some false by decide +kernel)⟩
  | lst h => exact ⟨_, .base (.lst h), kit_ty (show kitB _ _ = some false by decide +kernel)⟩
  | dK h => exact ⟨_, .base (.dK h), kit_ty (show kitB _ _ = some false by decide +kernel)⟩
theorem bool_ok {K : PySem.W.Frag} {H : Hp} {v : V} (h : AnyV H v) : ∃ t, TyX K H v t ∧ PySem.W.kitOne K t (.type "bool") = some (isBoolV v) := by
  cases h with
  | non => exact ⟨_, .base .non, kit_ty (show kitB _ _ = some false by decide +kernel)⟩
  | bl b => exact ⟨_, .base (.bl b), kit_ty (show kitB _ _ = some true by decide +kernel)⟩
  | int i => exact ⟨_, .base (.int i), kit_ty (show kitB _ _ = some false by decide +kernel)⟩
  | str x => exact ⟨_, .base (.str x), kit_ty (show kitB _ _ = some false by decide +kernel)⟩
  | tup h => exact ⟨_, .base (.tup h), kit_ty (show kitB _ _ = some false by decide +kernel)⟩
  | lst h => exact ⟨_, .base (.lst h), kit_ty (show kitB _ _ = some false by decide +kernel)⟩
  | dK h => exact ⟨_, .base (.dK h), kit_ty (show kitB _ _ = some false by decide +kernel)⟩
theorem str_ok {K : PySem.W.Frag} {H : Hp} {v : V} (h : AnyV H v) : ∃ t, TyX K H v t ∧ PySem.W.kitOne K t (.type "str") = some (isStrV v) := by
  cases h with
  | non => exact ⟨_, .base .non, kit_ty (show kitB _ _ = some false by decide +kernel)⟩
  | bl b => exact ⟨_, .base (.bl b), kit_ty (show kitB _ _ = some false by decide +kernel)⟩
  | int i => exact ⟨_, .base (.int i), kit_ty (show kitB _ _ = some false by decide +kernel)⟩
  | str x => exact ⟨_, .base (.str x), kit_ty (show kitB _ _ = some true by decide +kernel)⟩
  | tup h => exact ⟨_, .base (.tup h), kit_ty (show kitB _ _ = some false by decide +kernel)⟩
  | lst h => exact ⟨_, .base (.lst h), kit_ty (show kitB _ _ = some false by decide +kernel)⟩
  | dK h => exact ⟨_, .base (.dK h), kit_ty (show kitB _ _ = some false by decide +kernel)⟩
/-! ### rows by their form -/
def wholeB : V → Bool
  | .int _ => true
  | _ => false
def kindB : V → Bool
  | .str k => decide (k ∈ kinds)
  | _ => false
def fitB : Sl → V → Bool
  | .knd, v => kindB v
  | .oth, v => decide (v = .non) || wholeB v
  | .plc, .int i => decide (0 ≤ i)
  | .plc, _ => false
  | _, v => wholeB v
def slT : Sl → Str
  | .pt => "point"
  | .oth => "other"
  | .num => "number"
  | .plc => "place"
  | .knd => "kind"
def fitsB : List Sl → List V → Bool
  | [], [] => true
  | s :: ss, v :: vs => fitB s v && fitsB ss vs
  | _, _ => false
theorem fits_len : ∀ {ss : List Sl} {vs : List V}, vs.length ≠ ss.length → fitsB ss vs = false
  | [], [], h => absurd rfl h
  | [], _ :: _, _ => rfl
  | _ :: _, [], _ => rfl
  | s :: ss, v :: vs, h => by
    show (fitB s v && fitsB ss vs) = false
    rw [fits_len (ss := ss) (vs := vs) fun z => h (by rw [List.length_cons, List.length_cons, z]), Bool.and_false]
theorem drop_at {α : Type} {xs : List α} {i : Nat} {x : α} (h : xs[i]? = some x) : xs.drop i = x :: xs.drop (i + 1) := by
  obtain ⟨hl, e⟩ := List.getElem?_eq_some_iff.mp h
  rw [List.drop_eq_getElem_cons hl, e]
def rowB : List V → Bool
  | .str w :: ps => (match forms.lookup w with | some sl => fitsB sl ps | none => false)
  | _ => false
def formsT : List (Str × List Str) := forms.map fun f => (f.1, f.2.map slT)
theorem formsT_lookup (z : Str) : formsT.lookup z = (forms.lookup z).map fun sl => sl.map slT := by
  have g : ∀ l : List (Str × List Sl), (l.map fun f => (f.1, f.2.map slT)).lookup z = (l.lookup z).map fun sl => sl.map slT := by
    intro l
    induction l with
    | nil => rfl
    | cons f r ih =>
      obtain ⟨a, b⟩ := f
      rw [List.map_cons, List.lookup_cons, List.lookup_cons]
      cases e : z == a with
      | true => rfl
      | false => exact ih
  exact g forms
/-- a def by its body, its code object known -/
theorem okC {P : Program} {w : World} {K : PySem.W.Frag} {mg : Str → Option Value} {base : Heap} {x qual : Str} {st : Stmt} {f c : Addr} {fd : FuncData} {N ps : List Str} {k : Nat} {sp : Sp} (F : Fun K x qual st f fd) (hcd : fd.code = .ref c) (S : FnScope N ps (defScope st))
    (len : ∀ vs H Q E, sp vs H Q E → vs.length = ps.length)
    (body : ∀ (A : Around) (outer : List Env) (s : Shared) (H : Hp) (vs : List V) (Q : VK) (E : XK), Room k (A.deeper (PyProof.Rows.envOfC qual (defScope st) s.heap.objs.size f (.ref c))) → sp vs H Q E →
      ∃ t, PSs (cxOf CX0 P w K mg base N qual (defScope st) f (.ref c) A outer s H E).nox (defBody st) t ∧ t { nx := fun _ H' => Q .non H', rt := Q } (start N vs) H) : FnOk P w K mg base CX0 (k + 1) f fd ps sp := by
  obtain ⟨oc, od, kV, doc, pm, an, cdv, ct, osl, rfl, lk, hc⟩ := F.ex
  have e : cdv = .ref c := hcd
  subst e
  refine fn_of lk hc S len fun A outer s H vs Q E hr hsp => ?_
  obtain ⟨t, h, q⟩ := body A outer s H vs Q E hr hsp
  exact ⟨t, h.nox, q⟩

end My
namespace My
open PySem L2

/-! ### the text by places -/
def topS (i : Nat) : Stmt := PySem.Challenge.pw_tiedcut_k11_rows_of_anything.main.body.getD i (.Pass ⟨0, 0, 0, 0⟩)
abbrev s_iswhole : Stmt := topS 10
abbrev s_iskind : Stmt := topS 13
abbrev s_isrow : Stmt := topS 20
abbrev s_fits : Stmt := topS 21
abbrev s_pointsnamed : Stmt := topS 23
abbrev s_refuseunfit : Stmt := topS 24
abbrev s_refusemissing : Stmt := topS 25
abbrev s_plaindo : Stmt := topS 64
abbrev s_Lmixed : Stmt := topS 66
abbrev s_Lbox : Stmt := topS 67
abbrev s_Lnext : Stmt := topS 68
abbrev s_Lfew : Stmt := topS 69
abbrev s_Lworth : Stmt := topS 70
abbrev s_Lpoint : Stmt := topS 71
abbrev s_Lforest : Stmt := topS 72
abbrev s_Lrefused : Stmt := topS 73
abbrev s_Lthings : Stmt := topS 74
abbrev s_law : Stmt := topS 75
theorem sc_iswhole : FnScope ["thing"] ["thing"] (defScope s_iswhole) := ⟨rfl, rfl, rfl, by decide +kernel, rfl, by decide +kernel, by decide +kernel⟩
theorem sc_iskind : FnScope ["thing"] ["thing"] (defScope s_iskind) := ⟨rfl, rfl, rfl, by decide +kernel, rfl, by decide +kernel, by decide +kernel⟩
theorem sc_isrow : FnScope ["thing", "form", "parts", "part", "wanted"] ["thing"] (defScope s_isrow) := ⟨rfl, rfl, rfl, by decide +kernel, rfl, by decide +kernel, by decide +kernel⟩
theorem sc_fits : FnScope ["part", "wanted"] ["part", "wanted"] (defScope s_fits) := ⟨rfl, rfl, rfl, by decide +kernel, rfl, by decide +kernel, by decide +kernel⟩
theorem sc_pointsnamed : FnScope ["row", "named", "part", "wanted", "number"] ["row"] (defScope s_pointsnamed) := ⟨rfl, rfl, rfl, by decide +kernel, rfl, by decide +kernel, by decide +kernel⟩
theorem sc_refuseunfit : FnScope ["row", "many"] ["row", "many"] (defScope s_refuseunfit) := ⟨rfl, rfl, rfl, by decide +kernel, rfl, by decide +kernel, by decide +kernel⟩
theorem sc_refusemissing : FnScope ["numbers", "many", "number"] ["numbers", "many"] (defScope s_refusemissing) := ⟨rfl, rfl, rfl, by decide +kernel, rfl, by decide +kernel, by decide +kernel⟩
theorem sc_plaindo : FnScope ["forest", "row", "deed", "ask"] ["forest", "row"] (defScope s_plaindo) := ⟨rfl, rfl, rfl, by decide +kernel, rfl, by decide +kernel, by decide +kernel⟩
theorem sc_Lmixed : FnScope ["_law_cell", "_law_many", "_law_at", "_law_found", "_law_k"] ["_law_cell", "_law_many"] (defScope s_Lmixed) := ⟨rfl, rfl, rfl, by decide +kernel, rfl, by decide +kernel, by decide +kernel⟩
theorem sc_Lbox : FnScope ["_law_script", "_law_found", "_law_cell", "_law_left", "_law_k"] ["_law_script"] (defScope s_Lbox) := ⟨rfl, rfl, rfl, by decide +kernel, rfl, by decide +kernel, by decide +kernel⟩
theorem sc_Lnext : FnScope ["_law_box_here"] ["_law_box_here"] (defScope s_Lnext) := ⟨rfl, rfl, rfl, by decide +kernel, rfl, by decide +kernel, by decide +kernel⟩
theorem sc_Lfew : FnScope ["_law_box_here", "_law_few_here", "_law_most", "_law_x"] ["_law_box_here", "_law_few_here", "_law_most"] (defScope s_Lfew) := ⟨rfl, rfl, rfl, by decide +kernel, rfl, by decide +kernel, by decide +kernel⟩
theorem sc_Lworth : FnScope ["_law_box_here", "_law_x"] ["_law_box_here"] (defScope s_Lworth) := ⟨rfl, rfl, rfl, by decide +kernel, rfl, by decide +kernel, by decide +kernel⟩
theorem sc_Lpoint : FnScope ["_law_box_here", "_law_x"] ["_law_box_here"] (defScope s_Lpoint) := ⟨rfl, rfl, rfl, by decide +kernel, rfl, by decide +kernel, by decide +kernel⟩
theorem sc_Lforest : FnScope ["_law_box_here", "_law_few_here", "_law_most", "_law_many", "_law_shape", "_law_names", "_law_k", "_law_ties", "_law_apart", "_law_under"] ["_law_box_here", "_law_few_here", "_law_most"] (defScope s_Lforest) := ⟨rfl, rfl, rfl, by decide +kernel, rfl, by decide +kernel, by decide +kernel⟩
theorem sc_Lrefused : FnScope ["_law_told_by", "_law_thing", "_law_caught", "_law_told", "e", "_law_some"] ["_law_told_by", "_law_thing"] (defScope s_Lrefused) := ⟨rfl, rfl, rfl, by decide +kernel, rfl, by decide +kernel, by decide +kernel⟩
theorem sc_Lthings : FnScope ["_law_box_here", "_law_some", "_law_x"] ["_law_box_here"] (defScope s_Lthings) := ⟨rfl, rfl, rfl, by decide +kernel, rfl, by decide +kernel, by decide +kernel⟩
theorem sc_law : FnScope ["_law_script", "_law_box_here", "_law_forest_here", "_law_first", "_law_deep", "_law_turn", "_law_thing"] ["_law_script"] (defScope s_law) := ⟨rfl, rfl, rfl, by decide +kernel, rfl, by decide +kernel, by decide +kernel⟩
/-- what the top has left -/
structure Top (w : World) (K : PySem.W.Frag) (mg : Str → Option Value) where
  a_iswhole : Addr
  d_iswhole : FuncData
  F_iswhole : Fun K "is_whole" "is_whole" s_iswhole a_iswhole d_iswhole
  b_iswhole : Binds K d_iswhole ["thing"] []
  g_iswhole : mg "is_whole" = some (.ref a_iswhole)
  a_iskind : Addr
  d_iskind : FuncData
  F_iskind : Fun K "is_kind" "is_kind" s_iskind a_iskind d_iskind
  b_iskind : Binds K d_iskind ["thing"] []
  g_iskind : mg "is_kind" = some (.ref a_iskind)
  a_isrow : Addr
  d_isrow : FuncData
  F_isrow : Fun K "is_row" "is_row" s_isrow a_isrow d_isrow
  b_isrow : Binds K d_isrow ["thing"] []
  g_isrow : mg "is_row" = some (.ref a_isrow)
  a_fits : Addr
  d_fits : FuncData
  F_fits : Fun K "fits" "fits" s_fits a_fits d_fits
  b_fits : Binds K d_fits ["part", "wanted"] []
  g_fits : mg "fits" = some (.ref a_fits)
  a_pointsnamed : Addr
  d_pointsnamed : FuncData
  F_pointsnamed : Fun K "points_named" "points_named" s_pointsnamed a_pointsnamed d_pointsnamed
  b_pointsnamed : Binds K d_pointsnamed ["row"] []
  g_pointsnamed : mg "points_named" = some (.ref a_pointsnamed)
  a_refuseunfit : Addr
  d_refuseunfit : FuncData
  F_refuseunfit : Fun K "refuse_unfit" "refuse_unfit" s_refuseunfit a_refuseunfit d_refuseunfit
  b_refuseunfit : Binds K d_refuseunfit ["row", "many"] []
  g_refuseunfit : mg "refuse_unfit" = some (.ref a_refuseunfit)
  a_refusemissing : Addr
  d_refusemissing : FuncData
  F_refusemissing : Fun K "refuse_missing" "refuse_missing" s_refusemissing a_refusemissing d_refusemissing
  b_refusemissing : Binds K d_refusemissing ["numbers", "many"] []
  g_refusemissing : mg "refuse_missing" = some (.ref a_refusemissing)
  a_plaindo : Addr
  d_plaindo : FuncData
  F_plaindo : Fun K "plain_do" "plain_do" s_plaindo a_plaindo d_plaindo
  b_plaindo : Binds K d_plaindo ["forest", "row"] []
  g_plaindo : mg "plain_do" = some (.ref a_plaindo)
  a_Lmixed : Addr
  d_Lmixed : FuncData
  F_Lmixed : Fun K "_law_mixed" "_law_mixed" s_Lmixed a_Lmixed d_Lmixed
  b_Lmixed : Binds K d_Lmixed ["_law_cell", "_law_many"] []
  g_Lmixed : mg "_law_mixed" = some (.ref a_Lmixed)
  a_Lbox : Addr
  d_Lbox : FuncData
  F_Lbox : Fun K "_law_box" "_law_box" s_Lbox a_Lbox d_Lbox
  b_Lbox : Binds K d_Lbox ["_law_script"] []
  g_Lbox : mg "_law_box" = some (.ref a_Lbox)
  a_Lnext : Addr
  d_Lnext : FuncData
  F_Lnext : Fun K "_law_next" "_law_next" s_Lnext a_Lnext d_Lnext
  b_Lnext : Binds K d_Lnext ["_law_box_here"] []
  g_Lnext : mg "_law_next" = some (.ref a_Lnext)
  a_Lfew : Addr
  d_Lfew : FuncData
  F_Lfew : Fun K "_law_few" "_law_few" s_Lfew a_Lfew d_Lfew
  b_Lfew : Binds K d_Lfew ["_law_box_here", "_law_few_here", "_law_most"] []
  g_Lfew : mg "_law_few" = some (.ref a_Lfew)
  a_Lworth : Addr
  d_Lworth : FuncData
  F_Lworth : Fun K "_law_worth" "_law_worth" s_Lworth a_Lworth d_Lworth
  b_Lworth : Binds K d_Lworth ["_law_box_here"] []
  g_Lworth : mg "_law_worth" = some (.ref a_Lworth)
  a_Lpoint : Addr
  d_Lpoint : FuncData
  F_Lpoint : Fun K "_law_point" "_law_point" s_Lpoint a_Lpoint d_Lpoint
  b_Lpoint : Binds K d_Lpoint ["_law_box_here"] []
  g_Lpoint : mg "_law_point" = some (.ref a_Lpoint)
  a_Lforest : Addr
  d_Lforest : FuncData
  F_Lforest : Fun K "_law_forest" "_law_forest" s_Lforest a_Lforest d_Lforest
  b_Lforest : Binds K d_Lforest ["_law_box_here", "_law_few_here", "_law_most"] []
  g_Lforest : mg "_law_forest" = some (.ref a_Lforest)
  a_Lrefused : Addr
  d_Lrefused : FuncData
  F_Lrefused : Fun K "_law_refused" "_law_refused" s_Lrefused a_Lrefused d_Lrefused
  b_Lrefused : Binds K d_Lrefused ["_law_told_by", "_law_thing"] []
  g_Lrefused : mg "_law_refused" = some (.ref a_Lrefused)
  a_Lthings : Addr
  d_Lthings : FuncData
  F_Lthings : Fun K "_law_things" "_law_things" s_Lthings a_Lthings d_Lthings
  b_Lthings : Binds K d_Lthings ["_law_box_here"] []
  g_Lthings : mg "_law_things" = some (.ref a_Lthings)
  a_law : Addr
  d_law : FuncData
  F_law : Fun K "law" "law" s_law a_law d_law
  b_law : Binds K d_law ["_law_script"] []
  g_law : mg "law" = some (.ref a_law)
  m_ValueError : mg "ValueError" = none
  m_all : mg "all" = none
  m_bool : mg "bool" = none
  m_int : mg "int" = none
  m_isinstance : mg "isinstance" = none
  m_len : mg "len" = none
  m_max : mg "max" = none
  m_min : mg "min" = none
  m_range : mg "range" = none
  m_repr : mg "repr" = none
  m_sorted : mg "sorted" = none
  m_str : mg "str" = none
  m_sum : mg "sum" = none
  m_tuple : mg "tuple" = none
  m_zip : mg "zip" = none
  c_TreeError : Addr
  c_NoRow : Addr
  c_NoPoint : Addr
  c_Ring : Addr
  c_NoTie : Addr
  c_Apart : Addr
  c_NoPlace : Addr
  c_NoDeed : Addr
  v_TreeError : mg "TreeError" = some (.ref c_TreeError)
  v_NoRow : mg "NoRow" = some (.ref c_NoRow)
  v_NoPoint : mg "NoPoint" = some (.ref c_NoPoint)
  v_Ring : mg "Ring" = some (.ref c_Ring)
  v_NoTie : mg "NoTie" = some (.ref c_NoTie)
  v_Apart : mg "Apart" = some (.ref c_Apart)
  v_NoPlace : mg "NoPlace" = some (.ref c_NoPlace)
  v_NoDeed : mg "NoDeed" = some (.ref c_NoDeed)
  k_NoRow : PySem.W.keepIn K (.ref c_NoRow) = true
  s_NoRow : XcC K c_NoRow
  x_NoRow : PySem.W.excIn K c_NoRow veB "ValueError.__new__" = true
  sb_NoRow : PySem.W.subIn K (.ref c_NoRow) (.type "BaseException") = some true
  ty_NoRow : PySem.W.typeIn K (.ref c_NoRow) = some (.type "type")
  em_NoRow : PySem.W.exmOne K (.ref c_NoRow) (.ref c_TreeError) = some true
  kv_NoRow : PySem.W.kitOne K (.ref c_NoRow) (.type "ValueError") = some true
  k_NoPoint : PySem.W.keepIn K (.ref c_NoPoint) = true
  s_NoPoint : XcC K c_NoPoint
  x_NoPoint : PySem.W.excIn K c_NoPoint veB "ValueError.__new__" = true
  sb_NoPoint : PySem.W.subIn K (.ref c_NoPoint) (.type "BaseException") = some true
  ty_NoPoint : PySem.W.typeIn K (.ref c_NoPoint) = some (.type "type")
  em_NoPoint : PySem.W.exmOne K (.ref c_NoPoint) (.ref c_TreeError) = some true
  kv_NoPoint : PySem.W.kitOne K (.ref c_NoPoint) (.type "ValueError") = some true
  k_Ring : PySem.W.keepIn K (.ref c_Ring) = true
  s_Ring : XcC K c_Ring
  x_Ring : PySem.W.excIn K c_Ring veB "ValueError.__new__" = true
  sb_Ring : PySem.W.subIn K (.ref c_Ring) (.type "BaseException") = some true
  ty_Ring : PySem.W.typeIn K (.ref c_Ring) = some (.type "type")
  em_Ring : PySem.W.exmOne K (.ref c_Ring) (.ref c_TreeError) = some true
  kv_Ring : PySem.W.kitOne K (.ref c_Ring) (.type "ValueError") = some true
  k_NoTie : PySem.W.keepIn K (.ref c_NoTie) = true
  s_NoTie : XcC K c_NoTie
  x_NoTie : PySem.W.excIn K c_NoTie veB "ValueError.__new__" = true
  sb_NoTie : PySem.W.subIn K (.ref c_NoTie) (.type "BaseException") = some true
  ty_NoTie : PySem.W.typeIn K (.ref c_NoTie) = some (.type "type")
  em_NoTie : PySem.W.exmOne K (.ref c_NoTie) (.ref c_TreeError) = some true
  kv_NoTie : PySem.W.kitOne K (.ref c_NoTie) (.type "ValueError") = some true
  k_Apart : PySem.W.keepIn K (.ref c_Apart) = true
  s_Apart : XcC K c_Apart
  x_Apart : PySem.W.excIn K c_Apart veB "ValueError.__new__" = true
  sb_Apart : PySem.W.subIn K (.ref c_Apart) (.type "BaseException") = some true
  ty_Apart : PySem.W.typeIn K (.ref c_Apart) = some (.type "type")
  em_Apart : PySem.W.exmOne K (.ref c_Apart) (.ref c_TreeError) = some true
  kv_Apart : PySem.W.kitOne K (.ref c_Apart) (.type "ValueError") = some true
  k_NoPlace : PySem.W.keepIn K (.ref c_NoPlace) = true
  s_NoPlace : XcC K c_NoPlace
  x_NoPlace : PySem.W.excIn K c_NoPlace veB "ValueError.__new__" = true
  sb_NoPlace : PySem.W.subIn K (.ref c_NoPlace) (.type "BaseException") = some true
  ty_NoPlace : PySem.W.typeIn K (.ref c_NoPlace) = some (.type "type")
  em_NoPlace : PySem.W.exmOne K (.ref c_NoPlace) (.ref c_TreeError) = some true
  kv_NoPlace : PySem.W.kitOne K (.ref c_NoPlace) (.type "ValueError") = some true
  k_NoDeed : PySem.W.keepIn K (.ref c_NoDeed) = true
  s_NoDeed : XcC K c_NoDeed
  x_NoDeed : PySem.W.excIn K c_NoDeed veB "ValueError.__new__" = true
  sb_NoDeed : PySem.W.subIn K (.ref c_NoDeed) (.type "BaseException") = some true
  ty_NoDeed : PySem.W.typeIn K (.ref c_NoDeed) = some (.type "type")
  em_NoDeed : PySem.W.exmOne K (.ref c_NoDeed) (.ref c_TreeError) = some true
  kv_NoDeed : PySem.W.kitOne K (.ref c_NoDeed) (.type "ValueError") = some true
  kits : kitsB K c_TreeError [c_NoRow, c_NoPoint, c_Ring, c_NoTie, c_Apart, c_NoPlace, c_NoDeed] = true
  aK : Addr
  v_KINDS : mg "KINDS" = some (.ref aK)
  tK : tupB K aK kinds = true
  aF : Addr
  v_FORMS : mg "FORMS" = some (.ref aF)
  esF : Array DictEntry
  nF : Nat
  lF : K.lookup aF = some ⟨.type "dict", none, .dict esF nF, #[]⟩
  kF : PySem.W.KeysLit w.params esF.toList
  oF : (aF == sysModules) = false
  fF : formB K esF.toList formsT = true
  cR : Addr
  PR : Addr
  hcR : d_isrow.code = .ref cR
  cM : Addr
  PM : Addr
  hcM : d_refusemissing.code = .ref cM
  cL : Addr
  PL : Addr
  hcL : d_law.code = .ref cL
  neP : ([PR, PM, PL] : List Addr).Nodup
end My
namespace My
open PySem L2
/-! ### the box of draws -/
def Smalls (ns : List Int) : Prop := ∀ x ∈ ns, 0 ≤ x ∧ x < 2147483648
theorem Smalls.append {a b : List Int} (h : Smalls a) (g : Smalls b) : Smalls (a ++ b) := fun x m => by
  rcases List.mem_append.mp m with m | m
  · exact h x m
  · exact g x m
theorem Smalls.one {x : Int} (h0 : 0 ≤ x) (h1 : x < 2147483648) : Smalls [x] := fun y m => by
  rcases List.mem_cons.mp m with e | m
  · subst e
    exact ⟨h0, h1⟩
  · cases m
theorem Smalls.take {a : List Int} (h : Smalls a) (k : Nat) : Smalls (a.take k) := fun x m => h x (List.mem_of_mem_take m)
structure BoxAt (H : Hp) (b L : Addr) : Prop where
  ex : ∃ (ns : List Int) (n : Int), H b = some (.lst [.ref L, .int n]) ∧ H L = some (.lst (ns.map V.int)) ∧ ns ≠ [] ∧ L ≠ b ∧ Smalls ns
theorem BoxAt.same {H H' : Hp} {b L : Addr} (B : BoxAt H b L) (s : Same H H') : BoxAt H' b L := by
  obtain ⟨ns, n, h1, h2, r⟩ := B.ex
  exact ⟨ns, n, s _ _ h1, s _ _ h2, r⟩
theorem BoxAt.new {H : Hp} {b L p : Addr} {o : HO} (B : BoxAt H b L) (n : H p = none) : BoxAt (upd H p o) b L := B.same (same_new n)
theorem BoxAt.put {H : Hp} {b L p : Addr} {o : HO} (B : BoxAt H b L) (n1 : p ≠ b) (n2 : p ≠ L) : BoxAt (upd H p o) b L := by
  obtain ⟨ns, n, h1, h2, r⟩ := B.ex
  refine ⟨ns, n, ?_, ?_, r⟩
  · rw [upd_ne n1.symm]
    exact h1
  · rw [upd_ne n2.symm]
    exact h2
theorem BoxAt.tups {K : PySem.W.Frag} {H H' : Hp} {b L : Addr} (B : BoxAt H b L) (s : But b H H') : Tups K H H' := by
  obtain ⟨ns, n, h1, _⟩ := B.ex
  exact Tups.of_but s h1
theorem BoxAt.ne {H : Hp} {b L p : Addr} (B : BoxAt H b L) (n : H p = none) : p ≠ b := by
  obtain ⟨ns, n', h1, _⟩ := B.ex
  exact (ne_of_none h1 n).symm
theorem BoxAt.neL {H : Hp} {b L p : Addr} (B : BoxAt H b L) (n : H p = none) : p ≠ L := by
  obtain ⟨ns, n', h1, h2, _⟩ := B.ex
  exact (ne_of_none h2 n).symm
/-- what is new behind a draw was new ahead of it -/
theorem BoxAt.back {H H' : Hp} {b L p : Addr} (B : BoxAt H' b L) (s : But b H H') (n : H' p = none) : H p = none := by
  cases e : H p with
  | none => rfl
  | some o =>
    have z := s _ _ e (B.ne n)
    rw [z] at n
    cases n
def spMixed : Sp := fun vs H Q _ => ∃ (c m : Int), vs = [.int c, .int m] ∧ 0 ≤ m ∧ m ≤ 700 ∧ ∀ (p : Addr) (ns : List Int) (H' : Hp), Same H H' → H p = none → H' p = some (.lst (ns.map V.int)) → (ns.length : Int) = m → Smalls ns → Q (.ref p) H'
def spBox (K : PySem.W.Frag) : Sp := fun vs H Q _ => ∃ (a : Addr) (ns : List Int), vs = [.ref a] ∧ SqL K H a (ns.map V.int) ∧ ns.length ≤ 63 ∧ ∀ (b L : Addr) (H' : Hp), Same H H' → H b = none → BoxAt H' b L → Q (.ref b) H'
/-- a draw: the box at b goes on, all else stays; what comes of it -/
def spDraw (R : Int → Prop) : Sp := fun vs H Q _ => ∃ (b L : Addr), vs = [.ref b] ∧ BoxAt H b L ∧ ∀ (x : Int) (H' : Hp), R x → BoxAt H' b L → But b H H' → Q (.int x) H'
abbrev spNext : Sp := spDraw fun x => 0 ≤ x ∧ x < 2147483648
abbrev spWorth : Sp := spDraw fun x => -(2 ^ 90) < x ∧ x < 2 ^ 90
def spFew : Sp := fun vs H Q _ => ∃ (b L : Addr) (f m : Int), vs = [.ref b, .int f, .int m] ∧ BoxAt H b L ∧ 0 ≤ f ∧ 0 ≤ m ∧ f < 1000 ∧ m < 1000 ∧ ∀ (x : Int) (H' : Hp), 0 ≤ x → (x ≤ f ∨ x ≤ m) → BoxAt H' b L → But b H H' → Q (.int x) H'
def spSpot : Sp := fun vs H Q _ => ∃ (b L : Addr) (m : Int), vs = [.ref b, .int m] ∧ BoxAt H b L ∧ 0 < m ∧ m < 1000 ∧ ∀ (x : Int) (H' : Hp), -2 < x → x < 2000 → BoxAt H' b L → But b H H' → Q (.int x) H'
def pdata (p : Int × Str) : PyData := .tuple [.int p.1, .str p.2]
def tdata (t : Int × Int) : PyData := .tuple [.int t.1, .int t.2]
def PtOk (p : Int × Str) : Prop := -(2 ^ 90) < p.1 ∧ p.1 < 2 ^ 90 ∧ p.2 ∈ kinds
def spPoint (K : PySem.W.Frag) : Sp := fun vs H Q _ => ∃ (b L : Addr), vs = [.ref b] ∧ BoxAt H b L ∧ ∀ (p : Addr) (x : Int) (k : Str) (H' : Hp), PtOk (x, k) → BoxAt H' b L → But b H H' → H p = none → H' p = some (.tup [.int x, .str k]) → Q (.ref p) H'
section
variable {P : Program} {w : World} {K : PySem.W.Frag} {mg : Str → Option Value} {base : Heap}
theorem ok_mixed (T : Top w K mg) : FnOk P w K mg base CX0 1 T.a_Lmixed T.d_Lmixed ["_law_cell", "_law_many"] spMixed := by
  refine T.F_Lmixed.ok sc_Lmixed (fun vs H Q E h => ?_) (fun cdv A outer s H vs Q E hr h => ?_)
  · obtain ⟨c, m, rfl, _⟩ := h
    rfl
  · obtain ⟨c, m, rfl, h0, h1, q⟩ := h
    refine ⟨_, (pss_cons (ps_set (i := 2) sc_Lmixed.nd rfl (.inl rfl) (pe_op op_mod (pv 0) pe_int))
      (pss_cons (ps_set (i := 3) sc_Lmixed.nd rfl (.inl rfl) (pe_lst pa_nil))
      (pss_cons (ps_for PassesOwn.never rfl (pi_range1 (by rfl) T.m_range (pa_cons (pv 1) pa_nil)) (pg_name (i := 4) sc_Lmixed.nd rfl (.inl rfl)) (pss_cons (ps_set (i := 2) sc_Lmixed.nd rfl (.inl rfl) (pe_op op_mod (pe_op op_add (pe_op op_add (pe_op op_mul (pv 2) pe_int) (pe_op op_mul (pe_op op_mul pe_int (pv 4)) (pv 4))) pe_int) pe_int))
      (pss_one (ps_expr (pe_bm PySem.F.plainAttrs_list PySem.F.slot_list_append PySem.F.type_list_append mt_append (pv 3) (pa_cons (pe_op op_fdivW (pe_op op_mod (pe_op op_add (pe_op op_add (pe_op op_mul (pv 2) (pv 2)) (pe_op op_mul pe_int (pv 2))) (pv 4)) pe_int) pe_int) pa_nil))))))
      (pss_one (ps_ret (pv 3)))))), ?_⟩
    refine ⟨_, rfl, _, _, rfl, rfl, (by show (0 : Int) < 2147483647; decide), Nat.zero_le _, fun p np => ?_⟩
    refine ⟨_, rfl, _, rfl, by omega, by omega, for_range (lo := 0) (n := m.toNat) (fun i σ H2 => ∃ (a : Int) (ns : List Int) (y : Option V), σ = [some (.int c), some (.int m), some (.int a), some (.ref p), y] ∧ 0 ≤ a ∧ a < 2147483647 ∧ Same H H2 ∧ H2 p = some (.lst (ns.map V.int)) ∧ ns.length = i ∧ Smalls ns)
      ⟨_, [], none, rfl, Int.emod_nonneg _ (by decide), Int.emod_lt_of_pos _ (by decide), same_new np, upd_same, rfl, fun x z => nomatch z⟩ ?_ ?_⟩
    · rintro i σ H2 hi ⟨a, ns, y, rfl, a0, a1, sm, hp, hl, hs⟩
      have hi2 : (i : Int) < 700 := by omega
      refine ⟨_, rfl, _, _, rfl, rfl, .inr ⟨by decide, by decide⟩, _, rfl, _, _, rfl, rfl, .inl ⟨by decide, by decide⟩, _, rfl, _, _, rfl, rfl, .inl ⟨by omega, by omega⟩, _, _, rfl, rfl, _, _, rfl, rfl, _, _, rfl, rfl, (by show (0 : Int) < 2147483629; decide), ?_⟩
      generalize hA : (a * 48271 + 7 * (0 + (i : Int)) * (0 + (i : Int)) + 11) % 2147483629 = A1
      have A0 : 0 ≤ A1 := by
        rw [← hA]
        exact Int.emod_nonneg _ (by decide)
      have A2 : A1 < 2147483629 := by
        rw [← hA]
        exact Int.emod_lt_of_pos _ (by decide)
      refine ⟨_, rfl, .inl ⟨rfl, _, SqL.of hp⟩, _, rfl, _, rfl, _, _, rfl, rfl, .inl ⟨by omega, by omega⟩, _, rfl, _, _, rfl, rfl, .inl ⟨by decide, by decide⟩, _, _, rfl, rfl, _, rfl, _, _, rfl, rfl, _, _, rfl, rfl, (by show (0 : Int) < 2147483587; decide), _, _, rfl, rfl, wide_ok (by decide) (by decide), p, _, _, rfl, rfl, hp, szl (by rw [List.length_map]; omega), ?_⟩
      have fin : Smalls (ns ++ [(A1 * A1 + 3 * A1 + (0 + (i : Int))) % 2147483587 / 7]) := by
        refine hs.append (Smalls.one ?_ ?_)
        · exact Int.ediv_nonneg (Int.emod_nonneg _ (by decide)) (by decide)
        · have z := Int.emod_lt_of_pos (A1 * A1 + 3 * A1 + (0 + (i : Int))) (show (0 : Int) < 2147483587 by decide)
          have z0 := Int.emod_nonneg (A1 * A1 + 3 * A1 + (0 + (i : Int))) (show (2147483587 : Int) ≠ 0 by decide)
          omega
      subst hA
      refine ⟨_, _, _, rfl, A0, Int.lt_trans A2 (by decide), fun b o e => ?_, ?_, ?_, fin⟩
      · rw [upd_ne (ne_of_none e np)]
        exact sm _ _ e
      · rw [upd_same, List.map_append]
        rfl
      · rw [List.length_append, hl]
        rfl
    · rintro σ H2 ⟨a, ns, y, rfl, a0, a1, sm, hp, hl, hs⟩
      exact ⟨_, rfl, q p ns H2 sm np hp (by omega) hs⟩
theorem pow18 : (10 : Int) ^ (18 : Int).toNat = 1000000000000000000 := by decide +kernel
theorem pow24 : (10 : Int) ^ (24 : Int).toNat = 1000000000000000000000000 := by decide +kernel
theorem pow29 : (10 : Int) ^ (29 : Int).toNat = 100000000000000000000000000000 := by decide +kernel
theorem ok_box (T : Top w K mg) : FnOk P w K mg base CX0 2 T.a_Lbox T.d_Lbox ["_law_script"] (spBox K) := by
  have G_Lmixed : FnOk P w K mg base CX0 1 _ _ _ _ := ok_mixed T
  refine T.F_Lbox.ok sc_Lbox (fun vs H Q E h => ?_) (fun cdv A outer s H vs Q E hr h => ?_)
  · obtain ⟨a, ns, rfl, _⟩ := h
    rfl
  · obtain ⟨a, ns, rfl, hS, hlen, q⟩ := h
    refine ⟨_, (pss_cons (ps_set (i := 1) sc_Lbox.nd rfl (.inl rfl) (pe_lst pa_nil))
      (pss_cons (ps_for PassesOwn.never rfl (pi_list (pe_slice sl_list (pv 0) po_none (po_some pe_int))) (pg_name (i := 2) sc_Lbox.nd rfl (.inl rfl)) (pss_cons (ps_if (pt_cmpR op_lt (pv 2) (pe_op op_pow pe_int pe_int) (nomark _)) (pss_cons (ps_expr (pe_bm PySem.F.plainAttrs_list PySem.F.slot_list_extend PySem.F.type_list_extend mt_extend (pv 1) (pa_cons (pe_call G_Lmixed hr (by rfl) T.g_Lmixed T.F_Lmixed.kp T.b_Lmixed .nil pass0 (pa_cons (pv 2) (pa_cons pe_int pa_nil))) pa_nil)))
      (pss_one ps_continue)) pss_nil)
      (pss_cons (ps_set (i := 3) sc_Lbox.nd rfl (.inl rfl) (pv 2))
      (pss_one (ps_for PassesOwn.never rfl (pi_range1 (by rfl) T.m_range (pa_cons pe_int pa_nil)) (pg_name (i := 4) sc_Lbox.nd rfl (.inl rfl)) (pss_one (ps_if (pt_cmpR op_gt (pv 3) pe_int (nomark _)) (pss_cons (ps_expr (pe_bm PySem.F.plainAttrs_list PySem.F.slot_list_append PySem.F.type_list_append mt_append (pv 1) (pa_cons (pe_op op_mod (pv 3) pe_int) pa_nil)))
      (pss_one (ps_set (i := 3) sc_Lbox.nd rfl (.inl rfl) (pe_op op_fdivW (pv 3) pe_int)))) pss_nil)))))))
      (pss_cons (ps_set (i := 1) sc_Lbox.nd rfl (.inl rfl) (pe_slice sl_list (pv 1) po_none (po_some pe_int)))
      (pss_one (ps_ret (pe_lst (pa_cons (pe_op op_cat (pv 1) (pe_call G_Lmixed hr (by rfl) T.g_Lmixed T.F_Lmixed.kp T.b_Lmixed .nil pass0 (pa_cons (pe_op op_add (pe_callB (cr_sum rfl) (by rfl) T.m_sum (by decide +kernel) (pa_cons (pe_slice sl_list (pv 0) po_none (po_some pe_int)) pa_nil)) (pe_callB call_len_seq (by rfl) T.m_len PySem.boot_len (pa_cons (pv 0) pa_nil))) (pa_cons (pe_op op_sub pe_int (pe_callB call_len_seq (by rfl) T.m_len PySem.boot_len (pa_cons (pv 1) pa_nil))) pa_nil)))) (pa_cons pe_int pa_nil)))))))), ?_⟩
    refine ⟨Nat.zero_le _, fun p np => ?_⟩
    have s1 : Same H (upd H p (.lst [])) := same_new np
    obtain ⟨k63, e63⟩ := cut_map ns (some 63)
    refine ⟨_, rfl, 63, rfl, a, _, rfl, s1.seq hS, fun c nc => ?_⟩
    have npc : p ≠ c := ne_of_none upd_same nc
    have hl63 : (cutV (ns.map V.int) none (some 63)).length ≤ 63 := by
      have z := cutV_length (ns.map V.int) none (some 63)
      rw [List.length_map] at z
      omega
    refine ⟨c, rfl, ⟨_, SqL.of upd_same⟩, for_list (K := K) (a := c) (xs := cutV (ns.map V.int) none (some 63)) (fun i σ H2 => ∃ (ms : List Int) (y2 y3 y4 : Option V), σ = [some (.ref a), some (.ref p), y2, y3, y4] ∧ Same H H2 ∧ H2 c = some (.lst (cutV (ns.map V.int) none (some 63))) ∧ H2 p = some (.lst (ms.map V.int)) ∧ ms.length ≤ 90 * i ∧ Smalls ms)
      ⟨[], none, none, none, rfl, s1.trans (same_new nc), upd_same, ?_, by decide, fun x z => nomatch z⟩ (fun i σ H2 _ ⟨_, _, _, _, _, _, hc, _⟩ => SqL.of hc) ?_ ?_⟩
    · rw [upd_ne npc, upd_same]
      rfl
    · rintro i x σ H2 hi ⟨ms, y2, y3, y4, rfl, sm, hc, hp, hl, hs⟩
      have hil : i < 63 := Nat.lt_of_lt_of_le (List.getElem?_eq_some_iff.mp hi).1 hl63
      obtain ⟨v, rfl⟩ : ∃ v, x = V.int v := by
        rw [e63, List.getElem?_map] at hi
        cases e : (ns.take k63)[i]? with
        | none =>
          rw [e] at hi
          cases hi
        | some z =>
          rw [e] at hi
          exact ⟨z, (Option.some.inj hi).symm⟩
      refine ⟨_, rfl, _, _, rfl, rfl, ⟨by decide, by decide, by decide⟩, _, _, rfl, rfl, _, rfl, ite2 (fun e1 => ?_) (fun e1 => ?_)⟩
      · refine ⟨_, rfl, .inl ⟨rfl, _, SqL.of hp⟩, _, rfl, v, 12, rfl, by decide, by decide, fun r rs H3 sm3 nr hr3 hrl hrs => ?_⟩
        have hp3 := sm3 _ _ hp
        have npr : p ≠ r := ne_of_none hp nr
        refine ⟨p, r, _, _, rfl, rfl, hp3, hr3, ?_, ?_⟩
        · rw [List.length_map, List.length_map]
          exact sz (by omega)
        · refine ⟨ms ++ rs, _, _, _, rfl, fun b o e => ?_, ?_, ?_, ?_, hs.append hrs⟩
          · rw [upd_ne (ne_of_none e np)]
            exact sm3 _ _ (sm _ _ e)
          · rw [upd_ne npc.symm]
            exact sm3 _ _ hc
          · rw [upd_same, List.map_append]
          · rw [List.length_append]
            omega
      · have e2 : ¬ v < 10 ^ (18 : Int).toNat := of_decide_eq_false (Bool.eq_false_iff.mpr e1)
        rw [pow18] at e2
        refine ⟨_, rfl, 90, rfl, by decide, by decide, for_range (lo := 0) (n := 90) (fun j σ H3 => ∃ (ms' : List Int) (l : Int) (z2 z4 : Option V), σ = [some (.ref a), some (.ref p), z2, some (.int l), z4] ∧ Same H H3 ∧ H3 c = some (.lst (cutV (ns.map V.int) none (some 63))) ∧ H3 p = some (.lst (ms'.map V.int)) ∧ ms'.length ≤ 90 * i + j ∧ Smalls ms')
          ⟨ms, v, _, _, rfl, sm, hc, hp, hl, hs⟩ ?_ ?_⟩
        · rintro j σ H3 hj ⟨ms', l, z2, z4, rfl, sm3, hc3, hp3, hl3, hs3⟩
          refine ⟨_, rfl, _, _, rfl, rfl, _, rfl, ite2 (fun e3 => ?_) (fun e3 => ?_)⟩
          · refine ⟨_, rfl, .inl ⟨rfl, _, SqL.of hp3⟩, _, rfl, _, _, rfl, rfl, (by show (0 : Int) < 10007; decide), p, _, _, rfl, rfl, hp3, szl (by rw [List.length_map]; omega), ?_⟩
            refine ⟨_, rfl, _, _, rfl, rfl, wide_ok (by decide) (by decide), ?_⟩
            refine ⟨ms' ++ [l % 10007], _, _, _, rfl, fun b o e => ?_, ?_, ?_, ?_, hs3.append (Smalls.one (Int.emod_nonneg _ (by decide)) ?_)⟩
            · rw [upd_ne (ne_of_none e np)]
              exact sm3 _ _ e
            · rw [upd_ne npc.symm]
              exact hc3
            · rw [upd_same, List.map_append]
              rfl
            · rw [List.length_append]
              show ms'.length + 1 ≤ _
              omega
            · have z := Int.emod_lt_of_pos l (show (0 : Int) < 10007 by decide)
              omega
          · exact ⟨ms', l, _, _, rfl, sm3, hc3, hp3, by omega, hs3⟩
        · rintro σ H3 ⟨ms', l, z2, z4, rfl, sm3, hc3, hp3, hl3, hs3⟩
          exact ⟨ms', _, _, _, rfl, sm3, hc3, hp3, by omega, hs3⟩
    · rintro σ H2 ⟨ms, y2, y3, y4, rfl, sm, hc, hp, hl, hs⟩
      obtain ⟨k7, e7⟩ := cut_map ms (some 700)
      have l7 : (cutV (ms.map V.int) none (some 700)).length ≤ 700 := by
        have z := cut_nat (α := Nat) (ms.map V.int) 700
        have z2 : cutV (ms.map V.int) none (some 700) = (ms.map V.int).take 700 := z
        rw [z2, List.length_take]
        omega
      refine ⟨_, rfl, 700, rfl, p, _, rfl, SqL.of hp, fun p2 np2 => ?_⟩
      have sm2 : Same H2 (upd H2 p2 (.lst (cutV (ms.map V.int) none (some 700)))) := same_new np2
      refine ⟨_, rfl, _, rfl, 63, rfl, a, _, rfl, (sm.trans sm2).seq hS, fun p3 np3 => ?_⟩
      have sm3 := same_new (o := .lst (cutV (ns.map V.int) none (some 63))) np3
      refine ⟨p3, ns.take k63, rfl, ?_, _, rfl, a, _, rfl, .inl (sm3.seq ((sm.trans sm2).seq hS)), _, _, rfl, rfl, _, rfl, p2, _, rfl, .inl (SqL.of (sm3 _ _ upd_same)), _, _, rfl, rfl, _, _, rfl, by omega, by omega, fun r rs H4 sm4 nr hr4 hrl hrs => ?_⟩
      · rw [e63]
        exact SqL.of upd_same
      · have hp4 := sm4 _ _ (sm3 _ _ (upd_same (H := H2) (a := p2) (o := .lst (cutV (ms.map V.int) none (some 700)))))
        refine ⟨p2, r, _, _, rfl, rfl, hp4, hr4, ?_, fun L nL => ⟨(by show 2 ≤ sizeLine; decide), fun b nb => ?_⟩⟩
        · rw [List.length_map]
          exact sz (by omega)
        · have nLb : L ≠ b := ne_of_none upd_same nb
          have s4 : Same H H4 := ((sm.trans sm2).trans sm3).trans sm4
          have s5 : Same H (upd H4 L (.lst (cutV (ms.map V.int) none (some 700) ++ rs.map V.int))) := s4.trans (same_new nL)
          refine q b L _ (s5.trans (same_new nb)) (s5.free nb) ⟨ms.take k7 ++ rs, 0, upd_same, ?_, ?_, nLb, (hs.take _).append hrs⟩
          · rw [upd_ne nLb, upd_same, e7, List.map_append]
          · intro e
            have e2 := congrArg List.length e
            rw [List.length_append] at e2
            have e3 : (cutV (ms.map V.int) none (some 700)).length = (ms.take k7).length := by rw [e7, List.length_map]
            have e4 : (ms.take k7).length + rs.length = 0 := e2
            omega
theorem ok_next (T : Top w K mg) : FnOk P w K mg base CX0 1 T.a_Lnext T.d_Lnext ["_law_box_here"] spNext := by
  refine T.F_Lnext.ok sc_Lnext (fun vs H Q E h => ?_) (fun cdv A outer s H vs Q E hr h => ?_)
  · obtain ⟨b, L, rfl, _⟩ := h
    rfl
  · obtain ⟨b, L, rfl, ⟨ns, n, hb, hL, hne, nLb, hs⟩, q⟩ := h
    have hl : 0 < ns.length := List.length_pos_iff.mpr hne
    refine ⟨_, (pss_cons (ps_augS (pv 0) pe_int get_list pe_int ip_add set_list)
      (pss_one (ps_ret (pe_ix ix_list (pe_ix ix_list (pv 0) pe_int (fun _ _ => rfl)) (pe_op op_mod (pe_op op_sub (pe_ix ix_list (pv 0) pe_int (fun _ _ => rfl)) pe_int) (pe_callB call_len_seq (by rfl) T.m_len PySem.boot_len (pa_cons (pe_ix ix_list (pv 0) pe_int (fun _ _ => rfl)) pa_nil))) (fun _ _ => rfl))))), ?_⟩
    refine ⟨_, rfl, b, _, _, _, rfl, rfl, SqL.of hb, atI_nat (j := 1) rfl, _, _, rfl, rfl, b, _, _, 1, rfl, rfl, hb, rfl, ?_⟩
    have hb2 : (upd H b (.lst ([V.ref L, V.int n].set 1 (.int (n + 1))))) b = some (.lst [.ref L, .int (n + 1)]) := upd_same
    have hL2 : (upd H b (.lst ([V.ref L, V.int n].set 1 (.int (n + 1))))) L = some (.lst (ns.map V.int)) := by
      rw [upd_ne nLb]
      exact hL
    have m0 : (0 : Int) < ((ns.map V.int).length : Int) := by
      rw [List.length_map]
      omega
    have z0 := Int.emod_nonneg (n + 1 - 1) (show ((ns.map V.int).length : Int) ≠ 0 by omega)
    have z1 := Int.emod_lt_of_pos (n + 1 - 1) m0
    obtain ⟨v, hv, hm⟩ := at_map (ns := ns) z0 (by rw [List.length_map] at z1 ⊢; exact z1)
    refine ⟨_, rfl, b, _, _, _, rfl, rfl, SqL.of hb2, atI_nat (j := 0) rfl, _, rfl, b, _, _, _, rfl, rfl, SqL.of hb2, atI_nat (j := 1) rfl, _, _, rfl, rfl, _, rfl, b, _, _, _, rfl, rfl, SqL.of hb2, atI_nat (j := 0) rfl, L, _, rfl, .inl (SqL.of hL2), _, _, rfl, rfl, m0, L, _, _, _, rfl, rfl, SqL.of hL2, hv, ?_⟩
    exact q v _ (hs v hm) ⟨ns, n + 1, hb2, hL2, hne, nLb, hs⟩ But.refl.put
theorem ok_few (T : Top w K mg) : FnOk P w K mg base CX0 2 T.a_Lfew T.d_Lfew ["_law_box_here", "_law_few_here", "_law_most"] spFew := by
  have G_Lnext : FnOk P w K mg base CX0 1 _ _ _ _ := ok_next T
  refine T.F_Lfew.ok sc_Lfew (fun vs H Q E h => ?_) (fun cdv A outer s H vs Q E hr h => ?_)
  · obtain ⟨b, L, f, m, rfl, _⟩ := h
    rfl
  · obtain ⟨b, L, f, m, rfl, B, f0, m0, f1, m1, q⟩ := h
    refine ⟨_, (pss_cons (ps_set (i := 3) sc_Lfew.nd rfl (.inl rfl) (pe_call G_Lnext hr (by rfl) T.g_Lnext T.F_Lnext.kp T.b_Lnext .nil pass0 (pa_cons (pv 0) pa_nil)))
      (pss_one (ps_ret (pe_ix ix_list (pe_lst (pa_cons (pe_op op_mod (pe_op op_fdivW (pv 3) pe_int) (pe_op op_add (pv 1) pe_int)) (pa_cons (pe_op op_mod (pe_op op_fdivW (pv 3) pe_int) (pe_op op_add (pv 2) pe_int)) pa_nil))) (pe_callTy call_int1 (by rfl) T.m_int (by decide +kernel) (pa_cons (pe_cmpR op_eq (pe_op op_mod (pv 3) pe_int) pe_int (nomark _)) pa_nil)) (fun _ _ => rfl))))), ?_⟩
    refine ⟨_, rfl, b, L, rfl, B, fun x H1 hx B1 k1 => ?_⟩
    refine ⟨_, rfl, _, _, rfl, rfl, wide_ok (by decide) (by decide), _, rfl, _, _, rfl, rfl, _, _, rfl, rfl, (by show (0 : Int) < f + 1; omega), _, rfl, _, _, rfl, rfl, wide_ok (by decide) (by decide), _, rfl, _, _, rfl, rfl, _, _, rfl, rfl, (by show (0 : Int) < m + 1; omega), (by show 2 ≤ sizeLine; decide), fun p np => ?_⟩
    have zf0 := Int.emod_nonneg (x / 8) (show f + 1 ≠ 0 by omega)
    have zf1 := Int.emod_lt_of_pos (x / 8) (show (0 : Int) < f + 1 by omega)
    have zm0 := Int.emod_nonneg (x / 8) (show m + 1 ≠ 0 by omega)
    have zm1 := Int.emod_lt_of_pos (x / 8) (show (0 : Int) < m + 1 by omega)
    refine ⟨_, rfl, _, _, rfl, rfl, (by show (0 : Int) < 8; decide), rfl, .inr ⟨_, rfl, ?_⟩⟩
    by_cases e : x % 8 = 5
    · have e2 : decide (V.int (x % 8) = V.int 5) = true := decide_eq_true (congrArg V.int e)
      rw [e2]
      refine ⟨p, _, _, _, rfl, rfl, SqL.of upd_same, atI_nat (j := 1) rfl, ?_⟩
      exact q _ _ zm0 (.inr (by omega)) (B1.new np) (k1.new np)
    · have e2 : decide (V.int (x % 8) = V.int 5) = false := decide_eq_false fun z => e (V.int.inj z)
      rw [e2]
      refine ⟨p, _, _, _, rfl, rfl, SqL.of upd_same, atI_nat (j := 0) rfl, ?_⟩
      exact q _ _ zf0 (.inl (by omega)) (B1.new np) (k1.new np)
theorem ok_worth (T : Top w K mg) : FnOk P w K mg base CX0 2 T.a_Lworth T.d_Lworth ["_law_box_here"] spWorth := by
  have G_Lnext : FnOk P w K mg base CX0 1 _ _ _ _ := ok_next T
  refine T.F_Lworth.ok sc_Lworth (fun vs H Q E h => ?_) (fun cdv A outer s H vs Q E hr h => ?_)
  · obtain ⟨b, L, rfl, _⟩ := h
    rfl
  · obtain ⟨b, L, rfl, B, q⟩ := h
    refine ⟨_, (pss_cons (ps_set (i := 1) sc_Lworth.nd rfl (.inl rfl) (pe_call G_Lnext hr (by rfl) T.g_Lnext T.F_Lnext.kp T.b_Lnext .nil pass0 (pa_cons (pv 0) pa_nil)))
      (pss_one (ps_ret (pe_ix ix_list (pe_lst (pa_cons (pe_op op_sub (pe_op op_mod (pe_op op_fdivW (pv 1) pe_int) pe_int) pe_int) (pa_cons (pe_op op_mod (pe_op op_fdivW (pv 1) pe_int) pe_int) (pa_cons (pe_op op_sub (pe_op op_mod (pe_op op_fdivW (pv 1) pe_int) pe_int) pe_int) (pa_cons (pe_op op_add (pe_op op_pow pe_int pe_int) (pv 1)) (pa_cons (pe_op op_sub (pe_op op_sub pe_int (pe_op op_pow pe_int pe_int)) (pv 1)) (pa_cons pe_int (pa_cons pe_int (pa_cons (pv 1) pa_nil))))))))) (pe_op op_mod (pv 1) pe_int) (fun _ _ => rfl))))), ?_⟩
    refine ⟨_, rfl, b, L, rfl, B, fun x H1 hx B1 k1 => ?_⟩
    have p8 : ∀ {i : Int}, CDivW i 8 := wide_ok (by decide) (by decide)
    refine ⟨_, rfl, _, _, rfl, rfl, p8, _, _, rfl, rfl, (by show (0 : Int) < 9; decide), _, _, rfl, rfl, _, rfl, _, _, rfl, rfl, p8, _, _, rfl, rfl, (by show (0 : Int) < 3; decide), _, rfl, _, _, rfl, rfl, p8, _, _, rfl, rfl, (by show (0 : Int) < 40; decide), _, _, rfl, rfl, _, _, rfl, rfl, ⟨by decide, by decide, by decide⟩, _, rfl, _, _, rfl, rfl, _, _, rfl, rfl, ⟨by decide, by decide, by decide⟩, _, _, rfl, rfl, _, rfl, _, _, rfl, rfl, _, rfl, (by show 8 ≤ sizeLine; decide), fun p np => ?_⟩
    have c0 := Int.emod_nonneg x (show (8 : Int) ≠ 0 by decide)
    have c1 := Int.emod_lt_of_pos x (show (0 : Int) < 8 by decide)
    have pick : ∃ v : Int, atI [V.int (x / 8 % 9 - 3), V.int (x / 8 % 3), V.int (x / 8 % 40 - 20), V.int (10 ^ (24 : Int).toNat + x), V.int (0 - 10 ^ (24 : Int).toNat - x), V.int 5, V.int 0, V.int x] (x % 8) = some (.int v) ∧ -(2 ^ 90) < v ∧ v < 2 ^ 90 := by
      rw [pow24]
      generalize x % 8 = r at c0 c1
      have hc : r = 0 ∨ r = 1 ∨ r = 2 ∨ r = 3 ∨ r = 4 ∨ r = 5 ∨ r = 6 ∨ r = 7 := by omega
      rcases hc with rfl | rfl | rfl | rfl | rfl | rfl | rfl | rfl
      all_goals exact ⟨_, rfl, by omega, by omega⟩
    obtain ⟨v, hv, hw⟩ := pick
    refine ⟨_, rfl, _, _, rfl, rfl, (by show (0 : Int) < 8; decide), p, _, _, _, rfl, rfl, SqL.of upd_same, hv, ?_⟩
    exact q v _ hw (B1.new np) (k1.new np)
theorem ok_point (T : Top w K mg) : FnOk P w K mg base CX0 3 T.a_Lpoint T.d_Lpoint ["_law_box_here"] (spPoint K) := by
  have G_Lnext : FnOk P w K mg base CX0 1 _ _ _ _ := ok_next T
  have G_Lworth : FnOk P w K mg base CX0 2 _ _ _ _ := ok_worth T
  refine T.F_Lpoint.ok sc_Lpoint (fun vs H Q E h => ?_) (fun cdv A outer s H vs Q E hr h => ?_)
  · obtain ⟨b, L, rfl, _⟩ := h
    rfl
  · obtain ⟨b, L, rfl, B, q⟩ := h
    refine ⟨_, (pss_cons (ps_set (i := 1) sc_Lpoint.nd rfl (.inl rfl) (pe_call G_Lnext (hr.mono (by decide)) (by rfl) T.g_Lnext T.F_Lnext.kp T.b_Lnext .nil pass0 (pa_cons (pv 0) pa_nil)))
      (pss_one (ps_ret (pe_tup (pa_cons (pe_call G_Lworth hr (by rfl) T.g_Lworth T.F_Lworth.kp T.b_Lworth .nil pass0 (pa_cons (pv 0) pa_nil)) (pa_cons (pe_ix ix_str (pe_ix ix_list (pe_lst (pa_cons pe_str (pa_cons pe_str (pa_cons pe_str (pa_cons pe_str pa_nil))))) (pe_op op_mod (pv 1) pe_int) (fun _ _ => rfl)) (pe_op op_mod (pe_op op_fdivW (pv 1) pe_int) (pe_ix ix_list (pe_lst (pa_cons pe_int (pa_cons pe_int (pa_cons pe_int (pa_cons pe_int pa_nil))))) (pe_op op_mod (pv 1) pe_int) (fun _ _ => rfl))) (fun _ _ => rfl)) pa_nil)))))), ?_⟩
    refine ⟨_, rfl, b, L, rfl, B, fun x H1 hx B1 k1 => ?_⟩
    refine ⟨_, rfl, b, L, rfl, B1, fun v H2 hv B2 k2 => ?_⟩
    refine ⟨(by show 4 ≤ sizeLine; decide), fun p np => ?_⟩
    have c0 := Int.emod_nonneg x (show (4 : Int) ≠ 0 by decide)
    have c1 := Int.emod_lt_of_pos x (show (0 : Int) < 4 by decide)
    have pick : ∃ (z : Str) (m : Int) (c : Nat), atI [V.str "abcdefgh", V.str "ab", V.str "a", V.str "h"] (x % 4) = some (.str z) ∧ atI [V.int 8, V.int 2, V.int 1, V.int 1] (x % 4) = some (.int m) ∧ 0 < m ∧ z.length ≤ sizeLine ∧ atI z.cps.toList (x / 4 % m) = some c ∧ (⟨#[c]⟩ : Str) ∈ kinds := by
      generalize x % 4 = r at c0 c1
      have hc : r = 0 ∨ r = 1 ∨ r = 2 ∨ r = 3 := by omega
      rcases hc with rfl | rfl | rfl | rfl
      · have d0 := Int.emod_nonneg (x / 4) (show (8 : Int) ≠ 0 by decide)
        have d1 := Int.emod_lt_of_pos (x / 4) (show (0 : Int) < 8 by decide)
        generalize hm : x / 4 % 8 = r2 at d0 d1
        have hc : r2 = 0 ∨ r2 = 1 ∨ r2 = 2 ∨ r2 = 3 ∨ r2 = 4 ∨ r2 = 5 ∨ r2 = 6 ∨ r2 = 7 := by omega
        rcases hc with h | h | h | h | h | h | h | h
        all_goals
          subst h
          refine ⟨_, _, _, rfl, rfl, by decide, by decide +kernel, by rw [hm]; exact rfl, by decide +kernel⟩
      · have d0 := Int.emod_nonneg (x / 4) (show (2 : Int) ≠ 0 by decide)
        have d1 := Int.emod_lt_of_pos (x / 4) (show (0 : Int) < 2 by decide)
        generalize hm : x / 4 % 2 = r2 at d0 d1
        have hc : r2 = 0 ∨ r2 = 1 := by omega
        rcases hc with h | h
        all_goals
          subst h
          refine ⟨_, _, _, rfl, rfl, by decide, by decide +kernel, by rw [hm]; exact rfl, by decide +kernel⟩
      all_goals
        have hm : x / 4 % 1 = 0 := by omega
        refine ⟨_, _, _, rfl, rfl, by decide, by decide +kernel, by rw [hm]; exact rfl, by decide +kernel⟩
    obtain ⟨z, m, c, h1, h2, hm, hz, hc, hk⟩ := pick
    refine ⟨_, rfl, _, _, rfl, rfl, (by show (0 : Int) < 4; decide), p, _, _, _, rfl, rfl, SqL.of upd_same, h1, ?_⟩
    refine ⟨_, rfl, _, _, rfl, rfl, wide_ok (by decide) (by decide), (by show 4 ≤ sizeLine; decide), fun p2 np2 => ?_⟩
    refine ⟨_, rfl, _, _, rfl, rfl, (by show (0 : Int) < 4; decide), p2, _, _, _, rfl, rfl, SqL.of upd_same, h2, _, _, rfl, rfl, hm, z, _, c, rfl, rfl, hz, hc, (by show 2 ≤ sizeLine; decide), fun t nt => ?_⟩
    have kk : But b H (upd (upd (upd H2 p (.lst [V.str "abcdefgh", V.str "ab", V.str "a", V.str "h"])) p2 (.lst [V.int 8, V.int 2, V.int 1, V.int 1])) t (.tup [.int v, .str ⟨#[c]⟩])) := (((k1.trans k2).new np).new np2).new nt
    have nH : H t = none := ((B2.new np).new np2).back (((k1.trans k2).new np).new np2) nt
    exact q t v ⟨#[c]⟩ _ ⟨hv.1, hv.2, hk⟩ (((B2.new np).new np2).new nt) kk nH upd_same
end

end My
namespace My
open PySem L2
/-! ### forests drawn from the box -/
/-- a forest stands at f -/
def fdata (pts : List (Int × Str)) (ts : List (Int × Int)) : PyData := .tuple [.tuple (pts.map pdata), .tuple (ts.map tdata)]
structure FrOk (pts : List (Int × Str)) (ts : List (Int × Int)) : Prop where
  pos : 0 < pts.length
  few : pts.length ≤ 100
  pok : ∀ p ∈ pts, PtOk p
  tok : ∀ t ∈ ts, 0 ≤ t.1 ∧ 0 ≤ t.2 ∧ t.1 < (pts.length : Int) ∧ t.2 < (pts.length : Int)
  tl : ts.length ≤ pts.length
def spForest (K : PySem.W.Frag) : Sp := fun vs H Q _ => ∃ (b L : Addr) (f m : Int), vs = [.ref b, .int f, .int m] ∧ BoxAt H b L ∧ 0 ≤ f ∧ 0 ≤ m ∧ f < 100 ∧ m < 100 ∧
  ∀ (p : Addr) (pts : List (Int × Str)) (ts : List (Int × Int)) (H' : Hp), FrOk pts ts → (pts.length : Int) ≤ max f m + 1 → BoxAt H' b L → But b H H' → Td K H' (.ref p) (fdata pts ts) → Q (.ref p) H'
theorem Td.two {K : PySem.W.Frag} {H : Hp} {x y : Int} {t : Addr} (h : H t = some (.tup [.int x, .int y])) : Td K H (.ref t) (tdata (x, y)) := .tup (SqT.of h) (.cons (.int x) (.cons (.int y) .nil))
theorem Td.pt {K : PySem.W.Frag} {H : Hp} {x : Int} {y : Str} {t : Addr} (h : H t = some (.tup [.int x, .str y])) : Td K H (.ref t) (pdata (x, y)) := .tup (SqT.of h) (.cons (.int x) (.cons (.str y) .nil))
/-- tied pairs stand in H itself -/
inductive PAll (H : Hp) : List V → List (Int × Int) → Prop
  | nil : PAll H [] []
  | cons {t : Addr} {x y : Int} {vs : List V} {ts : List (Int × Int)} : H t = some (.tup [.int x, .int y]) → PAll H vs ts → PAll H (.ref t :: vs) ((x, y) :: ts)
theorem PAll.td {K : PySem.W.Frag} {H : Hp} : ∀ {vs : List V} {ts : List (Int × Int)}, PAll H vs ts → TdAll K H vs (ts.map tdata)
  | _, _, .nil => .nil
  | _, _, .cons h k => .cons (Td.two h) (PAll.td k)
theorem PAll.mono {H H' : Hp} (s : ∀ t x y, H t = some (.tup [.int x, .int y]) → H' t = some (.tup [.int x, .int y])) : ∀ {vs : List V} {ts : List (Int × Int)}, PAll H vs ts → PAll H' vs ts
  | _, _, .nil => .nil
  | _, _, .cons h k => .cons (s _ _ _ h) (PAll.mono s k)
theorem PAll.same {H H' : Hp} (s : Same H H') {vs : List V} {ts : List (Int × Int)} (h : PAll H vs ts) : PAll H' vs ts := h.mono fun _ _ _ e => s _ _ e
theorem PAll.put {H : Hp} {l : Addr} {xs ys : List V} (e : H l = some (.lst xs)) {vs : List V} {ts : List (Int × Int)} (h : PAll H vs ts) : PAll (upd H l (.lst ys)) vs ts := h.mono fun t _ _ z => by
  rw [upd_ne (ne_of z e (by intro z; cases z))]
  exact z
theorem PAll.but {H H' : Hp} {b L : Addr} (B : BoxAt H b L) (s : But b H H') {vs : List V} {ts : List (Int × Int)} (h : PAll H vs ts) : PAll H' vs ts := h.mono fun t _ _ z => by
  obtain ⟨ns, n, h1, _⟩ := B.ex
  exact s _ _ z (ne_of z h1 (by intro z; cases z))
theorem PAll.snoc {H : Hp} {t : Addr} {x y : Int} (e : H t = some (.tup [.int x, .int y])) : ∀ {vs : List V} {ts : List (Int × Int)}, PAll H vs ts → PAll H (vs ++ [.ref t]) (ts ++ [(x, y)])
  | _, _, .nil => .cons e .nil
  | _, _, .cons h k => .cons h (PAll.snoc e k)
theorem PAll.length {H : Hp} : ∀ {vs : List V} {ts : List (Int × Int)}, PAll H vs ts → vs.length = ts.length
  | _, _, .nil => rfl
  | _, _, .cons _ k => congrArg (· + 1) k.length
theorem PAll.pairs {H : Hp} : ∀ {vs : List V} {ts : List (Int × Int)}, PAll H vs ts → ∀ x ∈ vs, ∃ t i j, x = V.ref t ∧ H t = some (.tup [.int i, .int j])
  | _, _, .nil, _, m => nomatch m
  | _, _, .cons h k, x, m => by
    rcases List.mem_cons.mp m with e | m
    · subst e
      exact ⟨_, _, _, rfl, h⟩
    · exact k.pairs x m
theorem PAll.perm {H : Hp} {xs ys : List V} (p : ys.Perm xs) : ∀ {ts : List (Int × Int)}, PAll H xs ts → ∃ us : List (Int × Int), us.Perm ts ∧ PAll H ys us := by
  induction p with
  | nil =>
    intro ts h
    cases h
    exact ⟨[], .refl _, .nil⟩
  | cons x p ih =>
    intro ts h
    cases h with
    | cons h1 h2 =>
      obtain ⟨us, pu, hu⟩ := ih h2
      exact ⟨_ :: us, pu.cons _, .cons h1 hu⟩
  | swap x y l =>
    intro ts h
    cases h with
    | cons h1 h2 =>
      cases h2 with
      | cons h2 h3 => exact ⟨_, .swap .., .cons h2 (.cons h1 h3)⟩
  | trans p1 p2 ih1 ih2 =>
    intro ts h
    obtain ⟨us, pu, hu⟩ := ih2 h
    obtain ⟨vs, pv, hv⟩ := ih1 hu
    exact ⟨vs, pv.trans pu, hv⟩
/-- the list of names -/
def Names (n : Nat) (ns : List Int) : Prop := ns.length = n ∧ ∀ x ∈ ns, 0 ≤ x ∧ x < (n : Int)
theorem names_put {n : Nat} {ns : List Int} {k : Nat} (h : Names n ns) : Names (n + 1) (ns.take k ++ [(n : Int)] ++ ns.drop k) := by
  refine ⟨?_, fun x m => ?_⟩
  · have z := List.take_append_drop k ns
    have z2 := congrArg List.length z
    rw [List.length_append] at z2
    rw [List.length_append, List.length_append]
    show (ns.take k).length + 1 + (ns.drop k).length = n + 1
    have := h.1
    omega
  · rcases List.mem_append.mp m with m | m
    · rcases List.mem_append.mp m with m | m
      · have := h.2 x (List.mem_of_mem_take m)
        omega
      · rcases List.mem_cons.mp m with e | m
        · omega
        · cases m
    · have := h.2 x (List.mem_of_mem_drop m)
      omega
section
variable {P : Program} {w : World} {K : PySem.W.Frag} {mg : Str → Option Value} {base : Heap}
theorem ok_forest (T : Top w K mg) : FnOk P w K mg base CX0 4 T.a_Lforest T.d_Lforest ["_law_box_here", "_law_few_here", "_law_most"] (spForest K) := by
  have G_Lnext : FnOk P w K mg base CX0 1 _ _ _ _ := ok_next T
  have G_Lfew : FnOk P w K mg base CX0 2 _ _ _ _ := ok_few T
  have G_Lpoint : FnOk P w K mg base CX0 3 _ _ _ _ := ok_point T
  refine T.F_Lforest.ok sc_Lforest (fun vs H Q E h => ?_) (fun cdv A outer s H vs Q E hr h => ?_)
  · obtain ⟨b, L, f, m, rfl, _⟩ := h
    rfl
  · obtain ⟨b, L, f, m, rfl, B, f0, m0, f1, m1, q⟩ := h
    refine ⟨_, (pss_cons (ps_set (i := 3) sc_Lforest.nd rfl (.inl rfl) (pe_op op_add pe_int (pe_call G_Lfew (hr.mono (by decide)) (by rfl) T.g_Lfew T.F_Lfew.kp T.b_Lfew .nil pass0 (pa_cons (pv 0) (pa_cons (pv 1) (pa_cons (pv 2) pa_nil))))))
      (pss_cons (ps_set (i := 4) sc_Lforest.nd rfl (.inl rfl) (pe_op op_mod (pe_call G_Lnext (hr.mono (by decide)) (by rfl) T.g_Lnext T.F_Lnext.kp T.b_Lnext .nil pass0 (pa_cons (pv 0) pa_nil)) pe_int))
      (pss_cons (ps_set (i := 5) sc_Lforest.nd rfl (.inl rfl) (pe_lst pa_nil))
      (pss_cons (ps_for PassesOwn.never rfl (pi_range1 (by rfl) T.m_range (pa_cons (pv 3) pa_nil)) (pg_name (i := 6) sc_Lforest.nd rfl (.inl rfl)) (pss_one (ps_expr (pe_bm PySem.F.plainAttrs_list PySem.F.slot_list_insert PySem.F.type_list_insert mt_insert (pv 5) (pa_cons (pe_ifExp (pt_cmpR op_gt (pv 4) pe_int (nomark _)) (pe_op op_mod (pe_call G_Lnext (hr.mono (by decide)) (by rfl) T.g_Lnext T.F_Lnext.kp T.b_Lnext .nil pass0 (pa_cons (pv 0) pa_nil)) (pe_op op_add (pv 6) pe_int)) (pv 6)) (pa_cons (pv 6) pa_nil))))))
      (pss_cons (ps_set (i := 7) sc_Lforest.nd rfl (.inl rfl) (pe_lst pa_nil))
      (pss_cons (ps_set (i := 8) sc_Lforest.nd rfl (.inl rfl) (pe_op op_mod (pe_call G_Lnext (hr.mono (by decide)) (by rfl) T.g_Lnext T.F_Lnext.kp T.b_Lnext .nil pass0 (pa_cons (pv 0) pa_nil)) pe_int))
      (pss_cons (ps_for PassesOwn.never rfl (pi_range2 (by rfl) T.m_range (pa_cons pe_int (pa_cons (pv 3) pa_nil))) (pg_name (i := 6) sc_Lforest.nd rfl (.inl rfl)) (pss_cons (ps_set (i := 9) sc_Lforest.nd rfl (.inl rfl) (pe_ix ix_list (pe_lst (pa_cons (pe_op op_sub (pv 6) pe_int) (pa_cons pe_int (pa_cons (pe_op op_fdivW (pe_op op_sub (pv 6) pe_int) pe_int) (pa_cons (pe_op op_mod (pe_call G_Lnext (hr.mono (by decide)) (by rfl) T.g_Lnext T.F_Lnext.kp T.b_Lnext .nil pass0 (pa_cons (pv 0) pa_nil)) (pv 6)) (pa_cons (pe_op op_sub (pe_op op_sub (pv 6) pe_int) (pe_op op_mul (pe_op op_mod (pv 6) pe_int) (pe_callTy call_int1 (by rfl) T.m_int (by decide +kernel) (pa_cons (pe_cmpR op_gt (pv 6) pe_int (nomark _)) pa_nil)))) pa_nil)))))) (pv 4) (fun _ _ => rfl)))
      (pss_one (ps_if (pt_mid (PW.pt (pw_or (pt_cmpR op_gt (pv 8) pe_int (nomark _)) (pw_or1 (pt_cmpR op_gt (pe_op op_mod (pe_call G_Lnext (hr.mono (by decide)) (by rfl) T.g_Lnext T.F_Lnext.kp T.b_Lnext .nil pass0 (pa_cons (pv 0) pa_nil)) pe_int) pe_int (nomark _)))))) (pss_one (ps_expr (pe_bm PySem.F.plainAttrs_list PySem.F.slot_list_append PySem.F.type_list_append mt_append (pv 7) (pa_cons (pe_tup (pa_cons (pe_callB (call_min2 rfl) (by rfl) T.m_min (by decide +kernel) (pa_cons (pe_ix ix_list (pv 5) (pv 6) (fun _ _ => rfl)) (pa_cons (pe_ix ix_list (pv 5) (pv 9) (fun _ _ => rfl)) pa_nil))) (pa_cons (pe_callB (call_max2 rfl) (by rfl) T.m_max (by decide +kernel) (pa_cons (pe_ix ix_list (pv 5) (pv 6) (fun _ _ => rfl)) (pa_cons (pe_ix ix_list (pv 5) (pv 9) (fun _ _ => rfl)) pa_nil))) pa_nil))) pa_nil)))) pss_nil))))
      (pss_one (ps_ret (pe_tup (pa_cons (pe_callTy call_tuple_of (by rfl) T.m_tuple (by decide +kernel) (pa_cons (pe_lc (own := [("_law_k", 6)]) (g := gName 6) (tt := tYes) (by rfl) sc_Lforest.nd (pi_range1 (by rfl) T.m_range (pa_cons (pv 3) pa_nil)) (blkOk_by (own := [("_law_k", 6)]) (N := ["_law_box_here", "_law_few_here", "_law_most", "_law_many", "_law_shape", "_law_names", "_law_k", "_law_ties", "_law_apart", "_law_under"]) (sc := defScope s_Lforest) (by decide +kernel)) (fun _ _ _ _ _ => (pg_name (i := 6) sc_Lforest.nd rfl (.inl rfl))) (fun _ _ _ _ _ => pts_nil) (fun _ _ _ _ _ => (pe_call G_Lpoint hr (by rfl) T.g_Lpoint T.F_Lpoint.kp T.b_Lpoint .nil pass0 (pa_cons (pv 0) pa_nil)))) pa_nil)) (pa_cons (pe_callTy call_tuple_of (by rfl) T.m_tuple (by decide +kernel) (pa_cons (pe_callB cr_sortedP (by rfl) T.m_sorted (by decide +kernel) (pa_cons (pv 7) pa_nil)) pa_nil)) pa_nil)))))))))))), ?_⟩
    refine ⟨_, rfl, _, rfl, _, rfl, b, L, f, m, rfl, B, f0, m0, by omega, by omega, fun x1 H1 a0 a1 B1 k1 => ⟨_, _, rfl, rfl, ?_⟩⟩
    refine ⟨_, rfl, b, L, rfl, B1, fun x2 H2 hx2 B2 k2 => ⟨_, _, rfl, rfl, (by show (0 : Int) < 5; decide), Nat.zero_le _, fun nm nnm => ?_⟩⟩
    generalize hs : x2 % 5 = sh
    have s0 : 0 ≤ sh := by
      rw [← hs]
      exact Int.emod_nonneg _ (by decide)
    have s1 : sh < 5 := by
      rw [← hs]
      exact Int.emod_lt_of_pos _ (by decide)
    have nnb : nm ≠ b := B2.ne nnm
    have nnL : nm ≠ L := B2.neL nnm
    refine ⟨_, rfl, _, rfl, by omega, by omega, for_range (lo := 0) (n := (1 + x1).toNat) (fun i σ H3 => ∃ (ns : List Int) (y6 : Option V), σ = [some (.ref b), some (.int f), some (.int m), some (.int (1 + x1)), some (.int (x2 % 5)), some (.ref nm), y6, none, none, none] ∧ BoxAt H3 b L ∧ H3 nm = some (.lst (ns.map V.int)) ∧ Names i ns ∧ But b H2 H3)
      ⟨[], none, rfl, B2.new nnm, upd_same, ⟨rfl, fun x z => nomatch z⟩, But.refl.new nnm⟩ ?_ ?_⟩
    · rintro i σ H3 hi ⟨ns, y6, rfl, B3, hnm, hN, k3⟩
      have e0 : (0 : Int) + (i : Int) = (i : Int) := by omega
      have fin : ∀ (j : Int) (H4 : Hp), BoxAt H4 b L → But b H3 H4 → H4 nm = some (.lst (ns.map V.int)) → ∃ (ns' : List Int) (y6' : Option V), [some (V.ref b), some (V.int f), some (V.int m), some (V.int (1 + x1)), some (V.int (x2 % 5)), some (V.ref nm), some (V.int (0 + (i : Int))), none, none, none] = [some (V.ref b), some (V.int f), some (V.int m), some (V.int (1 + x1)), some (V.int (x2 % 5)), some (V.ref nm), y6', none, none, none] ∧ BoxAt (upd H4 nm (.lst ((ns.map V.int).take j.toNat ++ [V.int (0 + (i : Int))] ++ (ns.map V.int).drop j.toNat))) b L ∧ (upd H4 nm (.lst ((ns.map V.int).take j.toNat ++ [V.int (0 + (i : Int))] ++ (ns.map V.int).drop j.toNat))) nm = some (.lst (ns'.map V.int)) ∧ Names (i + 1) ns' ∧ But b H2 (upd H4 nm (.lst ((ns.map V.int).take j.toNat ++ [V.int (0 + (i : Int))] ++ (ns.map V.int).drop j.toNat))) := by
        intro j H4 B4 k4 h4
        refine ⟨ns.take j.toNat ++ [(i : Int)] ++ ns.drop j.toNat, _, rfl, B4.put nnb nnL, ?_, names_put hN, fun a o e ne => ?_⟩
        · rw [upd_same, e0, List.map_append, List.map_append, List.map_take, List.map_drop]
          rfl
        · rw [upd_ne (ne_of_none e nnm)]
          exact k4 _ _ (k3 _ _ e ne) ne
      refine ⟨_, rfl, .inl ⟨rfl, _, SqL.of hnm⟩, _, rfl, _, _, rfl, rfl, _, rfl, ite2 (fun e1 => ?_) (fun e1 => ?_)⟩
      · refine ⟨_, rfl, b, L, rfl, B3, fun x3 H4 hx3 B4 k4 => ⟨_, rfl, _, _, rfl, rfl, _, _, rfl, rfl, (by show (0 : Int) < 0 + (i : Int) + 1; omega), _, rfl, ?_⟩⟩
        have z0 := Int.emod_nonneg x3 (show (0 : Int) + (i : Int) + 1 ≠ 0 by omega)
        have z1 := Int.emod_lt_of_pos x3 (show (0 : Int) < 0 + (i : Int) + 1 by omega)
        have h4 := k4 _ _ hnm nnb
        refine ⟨nm, _, _, _, rfl, rfl, h4, szl (by rw [List.length_map, hN.1]; omega), z0, by omega, ?_⟩
        exact fin _ H4 B4 k4 h4
      · refine ⟨_, rfl, _, rfl, nm, _, _, _, rfl, rfl, hnm, szl (by rw [List.length_map, hN.1]; omega), by omega, by omega, ?_⟩
        exact fin _ H3 B3 But.refl hnm
    · rintro σ H3 ⟨ns, y6, rfl, B3, hnm, hN, k3⟩
      refine ⟨Nat.zero_le _, fun tl ntl => ?_⟩
      have ntb : tl ≠ b := B3.ne ntl
      have ntL : tl ≠ L := B3.neL ntl
      have ntn : nm ≠ tl := ne_of_none hnm ntl
      have hnm' : (upd H3 tl (.lst [])) nm = some (.lst (ns.map V.int)) := by
        rw [upd_ne ntn]
        exact hnm
      have nmy : (ns.length : Int) = 1 + x1 := by
        have := hN.1
        omega
      have pk : ∀ k : Int, 0 ≤ k → k < 1 + x1 → ∃ v : Int, atI (ns.map V.int) k = some (.int v) ∧ 0 ≤ v ∧ v < 1 + x1 := fun k k0 k1 => by
        obtain ⟨v, hv, hm⟩ := at_map (ns := ns) k0 (by omega)
        have := hN.2 v hm
        have := hN.1
        exact ⟨v, hv, by omega, by omega⟩
      refine ⟨_, rfl, b, L, rfl, B3.new ntl, fun x4 H4 hx4 B4 k4 => ⟨_, _, rfl, rfl, (by show (0 : Int) < 3; decide), ?_⟩⟩
      have htl4 : H4 tl = some (.lst []) := k4 _ _ upd_same ntb
      have hnm4 : H4 nm = some (.lst (ns.map V.int)) := k4 _ _ hnm' nnb
      refine ⟨_, rfl, _, _, rfl, ⟨by decide, by decide, by omega, by omega⟩, for_range (lo := 1) (n := _) (fun i σ H5 => ∃ (xs : List V) (ts : List (Int × Int)) (y6 y9 : Option V), σ = [some (.ref b), some (.int f), some (.int m), some (.int (1 + x1)), some (.int (x2 % 5)), some (.ref nm), y6, some (.ref tl), some (.int (x4 % 3)), y9] ∧ BoxAt H5 b L ∧ H5 nm = some (.lst (ns.map V.int)) ∧ H5 tl = some (.lst xs) ∧ PAll H5 xs ts ∧ ts.length ≤ i ∧ (∀ t ∈ ts, 0 ≤ t.1 ∧ 0 ≤ t.2 ∧ t.1 < 1 + x1 ∧ t.2 < 1 + x1) ∧ But b H3 H5)
        ⟨[], [], _, none, rfl, B4, hnm4, htl4, .nil, Nat.zero_le _, (fun t z => nomatch z), (But.refl.new ntl).trans k4⟩ ?_ ?_⟩
      · rintro i σ H5 hi ⟨xs, ts, y6, y9, rfl, B5, hnm5, htl5, pa5, hl5, ht5, k5⟩
        have hk0 : (1 : Int) ≤ 1 + (i : Int) := by omega
        have hk1 : (1 : Int) + (i : Int) < 1 + x1 := by omega
        generalize hk : (1 : Int) + (i : Int) = k at hk0 hk1
        refine ⟨_, rfl, _, _, rfl, rfl, _, rfl, _, _, rfl, rfl, _, _, rfl, rfl, wide_ok (by decide) (by decide), _, rfl, b, L, rfl, B5, fun x5 H6 hx5 B6 k6 => ⟨_, rfl, _, _, rfl, rfl, (by show (0 : Int) < k; omega), _, rfl, _, _, rfl, rfl, _, rfl, _, _, rfl, rfl, (by show (0 : Int) < 2; decide), _, rfl, _, _, rfl, rfl, .inr ⟨_, rfl, _, _, rfl, rfl, .inr ⟨?_, ?_⟩, _, _, rfl, rfl, (by show 5 ≤ sizeLine; decide), fun p np => ?_⟩⟩⟩
        · split <;> decide
        · split <;> decide
        · have z0 := Int.emod_nonneg x5 (show k ≠ 0 by omega)
          have z1 := Int.emod_lt_of_pos x5 (show (0 : Int) < k by omega)
          have pick : ∃ v : Int, atI [V.int (k - 1), V.int 0, V.int ((k - 1) / 2), V.int (x5 % k), V.int (k - 1 - k % 2 * (if decide (1 < k) = true then 1 else 0))] (x2 % 5) = some (.int v) ∧ 0 ≤ v ∧ v < k := by
            rw [hs]
            have hc : sh = 0 ∨ sh = 1 ∨ sh = 2 ∨ sh = 3 ∨ sh = 4 := by omega
            rcases hc with h | h | h | h | h
            all_goals rw [h]
            · exact ⟨_, rfl, by omega, by omega⟩
            · exact ⟨_, rfl, by omega, by omega⟩
            · exact ⟨_, rfl, by omega, by omega⟩
            · exact ⟨_, rfl, by omega, by omega⟩
            · refine ⟨_, rfl, ?_, ?_⟩
              · by_cases e : 1 < k
                · rw [decide_eq_true e]
                  simp
                  omega
                · rw [decide_eq_false e]
                  simp
                  omega
              · by_cases e : 1 < k
                · rw [decide_eq_true e]
                  simp
                  omega
                · rw [decide_eq_false e]
                  simp
                  omega
          obtain ⟨u, hu, u0, u1⟩ := pick
          refine ⟨_, rfl, p, _, _, _, rfl, rfl, SqL.of upd_same, hu, ?_⟩
          have B7 : BoxAt (upd H6 p (.lst [V.int (k - 1), V.int 0, V.int ((k - 1) / 2), V.int (x5 % k), V.int (k - 1 - k % 2 * (if decide (1 < k) = true then 1 else 0))])) b L := B6.new np
          have k7 : But b H5 (upd H6 p (.lst [V.int (k - 1), V.int 0, V.int ((k - 1) / 2), V.int (x5 % k), V.int (k - 1 - k % 2 * (if decide (1 < k) = true then 1 else 0))])) := k6.new np
          generalize (upd H6 p (.lst [V.int (k - 1), V.int 0, V.int ((k - 1) / 2), V.int (x5 % k), V.int (k - 1 - k % 2 * (if decide (1 < k) = true then 1 else 0))])) = H7 at B7 k7
          have hnm7 := k7 _ _ hnm5 nnb
          have htl7 := k7 _ _ htl5 ntb
          have pa7 := pa5.but B5 k7
          refine ⟨fun _ H8 => BoxAt H8 b L ∧ But b H7 H8, ?_, ?_⟩
          · refine ⟨_, rfl, _, _, rfl, rfl, _, rfl, ite2 (fun _ => ⟨B7, But.refl⟩) (fun _ => ?_)⟩
            exact ⟨_, rfl, b, L, rfl, B7, fun x8 H8 hx8 B8 k8 => ⟨_, _, rfl, rfl, (by show (0 : Int) < 5; decide), _, _, rfl, rfl, _, rfl, B8, k8⟩⟩
          · rintro bb H8 ⟨B8, k8⟩
            have hnm8 := k8 _ _ hnm7 nnb
            have htl8 := k8 _ _ htl7 ntb
            have pa8 := pa7.but B7 k8
            have k58 := (k5.trans k7).trans k8
            refine ite2 (fun _ => ?_) (fun _ => ?_)
            · obtain ⟨v1, hv1, a1, b1⟩ := pk k (by omega) hk1
              obtain ⟨v2, hv2, a2, b2⟩ := pk u u0 (by omega)
              refine ⟨_, rfl, .inl ⟨rfl, _, SqL.of htl8⟩, _, rfl, _, rfl, nm, _, _, _, rfl, rfl, SqL.of hnm8, hv1, _, rfl, _, rfl, nm, _, _, _, rfl, rfl, SqL.of hnm8, hv2, _, _, rfl, _, rfl, _, rfl, nm, _, _, _, rfl, rfl, SqL.of hnm8, hv1, _, rfl, _, rfl, nm, _, _, _, rfl, rfl, SqL.of hnm8, hv2, _, _, rfl, (by show 2 ≤ sizeLine; decide), fun t nt => ?_⟩
              have nt1 : tl ≠ t := ne_of_none htl8 nt
              have nt2 : nm ≠ t := ne_of_none hnm8 nt
              have htl9 : (upd H8 t (.tup [.int (if v2 < v1 then v2 else v1), .int (if v2 > v1 then v2 else v1)])) tl = some (.lst xs) := by
                rw [upd_ne nt1]
                exact htl8
              refine ⟨tl, _, _, rfl, rfl, htl9, szl ?_, ?_⟩
              · have := pa8.length
                omega
              · refine ⟨xs ++ [.ref t], ts ++ [((if v2 < v1 then v2 else v1), (if v2 > v1 then v2 else v1))], _, _, rfl, (B8.new nt).put ntb ntL, ?_, upd_same, ?_, ?_, ?_, ?_⟩
                · rw [upd_ne ntn, upd_ne nt2]
                  exact hnm8
                · exact (PAll.snoc upd_same (pa8.same (same_new nt))).put htl9
                · rw [List.length_append]
                  show ts.length + 1 ≤ i + 1
                  omega
                · intro t' m'
                  rcases List.mem_append.mp m' with m' | m'
                  · exact ht5 t' m'
                  · rcases List.mem_cons.mp m' with e | m'
                    · subst e
                      dsimp only
                      refine ⟨?_, ?_, ?_, ?_⟩ <;> split <;> omega
                    · cases m'
                · intro a o e ne
                  have z := k58 _ _ e ne
                  rw [upd_ne (ne_of_none e ntl), upd_ne (ne_of_none z nt)]
                  exact z
            · exact ⟨xs, ts, _, _, rfl, B8, hnm8, htl8, pa8, by omega, ht5, k58⟩
      · rintro σ H5 ⟨xs, ts, y6, y9, rfl, B5, hnm5, htl5, pa5, hl5, ht5, k5⟩
        refine ⟨_, rfl, _, rfl, by omega, by omega, fun D nD => ?_⟩
        have nDb : D ≠ b := B5.ne nD
        have nDL : D ≠ L := B5.neL nD
        refine lc_range (lo := 0) (n := (1 + x1).toNat) (fun i H6 => BoxAt H6 b L ∧ ∃ (pts : List (Int × Str)) (ys : List V), H6 D = some (.lst ys) ∧ TdAll K H6 ys (pts.map pdata) ∧ pts.length = i ∧ (∀ p ∈ pts, PtOk p) ∧ But b H5 H6) ⟨B5.new nD, [], [], upd_same, .nil, rfl, (fun p z => nomatch z), But.refl.new nD⟩ ?_ ?_
        · rintro i H6 hi ⟨B6, pts, ys, hD6, hp6, hl6, ho6, k6⟩
          refine ⟨rfl, yes_ite ?_⟩
          refine ⟨_, rfl, b, L, rfl, B6, fun p x c H7 hpo B7 k7 np hp7 => ?_⟩
          have hD7 := k7 _ _ hD6 nDb
          have hl7 := hp6.length
          rw [List.length_map] at hl7
          refine ⟨ys, hD7, szl (by omega), B7.put nDb nDL, pts ++ [(x, c)], ys ++ [.ref p], upd_same, ?_, ?_, ?_, ?_⟩
          · have t7 : Tups K H7 (upd H7 D (.lst (ys ++ [V.ref p]))) := Tups.of_but (But.refl.put) hD7
            rw [List.map_append]
            exact TdAll.mono t7 ((hp6.mono (B6.tups k7)).append (.cons (Td.pt hp7) .nil))
          · rw [List.length_append, hl6]
            rfl
          · intro p' m'
            rcases List.mem_append.mp m' with m' | m'
            · exact ho6 p' m'
            · rcases List.mem_cons.mp m' with e | m'
              · subst e
                exact hpo
              · cases m'
          · intro a o e ne
            rw [upd_ne (ne_of_none e nD)]
            exact k7 _ _ (k6 _ _ e ne) ne
        · rintro H6 ⟨B6, pts, ys, hD6, hp6, hl6, ho6, k6⟩
          refine ⟨D, ys, rfl, .inl ⟨SqL.of hD6, fun a1 n1 => ?_⟩⟩
          have s7 := same_new (o := .tup ys) n1
          have htl7 := s7 _ _ (k6 _ _ htl5 ntb)
          have pa7 := (pa5.but B5 k6).same s7
          refine ⟨_, rfl, tl, xs, rfl, SqL.of htl7, pa7.pairs, fun zs p8 pm n8 => ?_⟩
          have s8 := same_new (o := .lst zs) n8
          refine ⟨p8, zs, rfl, .inl ⟨SqL.of upd_same, fun a2 n2 => ?_⟩⟩
          have s9 := same_new (o := .tup zs) n2
          refine ⟨(by show 2 ≤ sizeLine; decide), fun r nr => ?_⟩
          have s10 := same_new (o := .tup [.ref a1, .ref a2]) nr
          obtain ⟨us, pu, pau⟩ := pa7.perm pm
          have tail : Same H6 _ := (((s7.trans s8).trans s9).trans s10)
          have hd1 := s10 _ _ (s9 _ _ (s8 _ _ (upd_same (H := H6) (a := a1) (o := .tup ys))))
          have hd2 := s10 _ _ (upd_same (H := upd (upd H6 a1 (.tup ys)) p8 (.lst zs)) (a := a2) (o := .tup zs))
          refine q r pts us _ ⟨by omega, by omega, ho6, fun t m' => ?_, ?_⟩ ?_ ((B6.same tail)) ((((k1.trans k2).trans k3).trans k5).trans k6 |>.same tail) ?_
          · have := ht5 t (pu.mem_iff.mp m')
            omega
          · have := pu.length_eq
            omega
          · omega
          · refine .tup (SqT.of upd_same) (.cons (.tup (SqT.of hd1) (hp6.mono (Tups.of_same tail))) (.cons (.tup (SqT.of hd2) ?_) .nil))
            exact (pau.same ((s8.trans s9).trans s10)).td
end

end My
namespace My
open PySem L2
section
variable {P : Program} {w : World} {K : PySem.W.Frag} {mg : Str → Option Value} {base : Heap}
def spWhole : Sp := fun vs H Q _ => ∃ v, vs = [v] ∧ AnyV H v ∧ Q (.bl (wholeB v)) H
def spKind : Sp := fun vs H Q _ => ∃ v, vs = [v] ∧ AnyV H v ∧ Q (.bl (kindB v)) H
def spFits : Sp := fun vs H Q _ => ∃ v sl, vs = [v, .str (slT sl)] ∧ AnyV H v ∧ Q (.bl (fitB sl v)) H
theorem ok_whole (T : Top w K mg) : FnOk P w K mg base CX0 1 T.a_iswhole T.d_iswhole ["thing"] spWhole := by
  refine T.F_iswhole.ok sc_iswhole (fun vs H Q E h => ?_) (fun cdv A outer s H vs Q E hr h => ?_)
  · obtain ⟨v, rfl, _⟩ := h
    rfl
  · obtain ⟨v, rfl, hv, q⟩ := h
    refine ⟨_, (pss_one (ps_ret (pe_and (pe_callB call_isi (by rfl) T.m_isinstance (by decide +kernel) (pa_cons (pv 0) (pa_cons (pe_bltn (v := .ty "int") (by rfl) T.m_int (by decide +kernel) rfl) pa_nil))) (pe_one (pe_not (pe_callB call_isi (by rfl) T.m_isinstance (by decide +kernel) (pa_cons (pv 0) (pa_cons (pe_bltn (v := .ty "bool") (by rfl) T.m_bool (by decide +kernel) rfl) pa_nil)))))))), ?_⟩
    obtain ⟨t, ty, kt⟩ := int_ok (K := K) hv
    refine ⟨_, rfl, _, _, _, _, _, rfl, ClsV.ty _, ty, kt, _, rfl, ?_⟩
    obtain ⟨t2, ty2, kt2⟩ := bool_ok (K := K) hv
    have fin : isIntV v = true → ∀ b, b = isBoolV v → Q (.bl (!b)) H := fun e b eb => by
      have z : (!b) = wholeB v := by
        subst eb
        cases v <;> first | rfl | exact nomatch e
      rw [z]
      exact q
    refine ite2 (fun e => ?_) (fun e => ?_)
    · exact ⟨_, rfl, _, _, _, _, _, rfl, ClsV.ty _, ty2, kt2, _, rfl, fin e _ rfl⟩
    · have z : wholeB v = false := by
        cases v <;> first | rfl | exact absurd rfl e
      rw [z] at q
      exact q
theorem ok_kind (T : Top w K mg) : FnOk P w K mg base CX0 1 T.a_iskind T.d_iskind ["thing"] spKind := by
  refine T.F_iskind.ok sc_iskind (fun vs H Q E h => ?_) (fun cdv A outer s H vs Q E hr h => ?_)
  · obtain ⟨v, rfl, _⟩ := h
    rfl
  · obtain ⟨v, rfl, hv, q⟩ := h
    refine ⟨_, (pss_one (ps_ret (pe_and (pe_callB call_isi (by rfl) T.m_isinstance (by decide +kernel) (pa_cons (pv 0) (pa_cons (pe_bltn (v := .ty "str") (by rfl) T.m_str (by decide +kernel) rfl) pa_nil))) (pe_one (pe_cmpR op_in_seq (pv 0) (pe_glob (v := .ref T.aK) (by rfl) T.v_KINDS rfl) (by rfl)))))), ?_⟩
    obtain ⟨t, ty, kt⟩ := str_ok (K := K) hv
    refine ⟨_, rfl, _, _, _, _, _, rfl, ClsV.ty _, ty, kt, _, rfl, ite2 (fun e => ?_) (fun e => ?_)⟩
    · cases v with
      | str z =>
        refine ⟨_, rfl, T.aK, _, rfl, .inr (tupB_ok T.tK H), rfl, flat_strs kinds, ?_⟩
        rw [inV_str]
        exact q
      | _ => exact nomatch e
    · have z : kindB v = false := by
        cases v <;> first | rfl | exact absurd rfl e
      rw [z] at q
      exact q
theorem ok_fits (T : Top w K mg) : FnOk P w K mg base CX0 2 T.a_fits T.d_fits ["part", "wanted"] spFits := by
  have G_iskind : FnOk P w K mg base CX0 1 _ _ _ _ := ok_kind T
  have G_iswhole : FnOk P w K mg base CX0 1 _ _ _ _ := ok_whole T
  refine T.F_fits.ok sc_fits (fun vs H Q E h => ?_) (fun cdv A outer s H vs Q E hr h => ?_)
  · obtain ⟨v, sl, rfl, _⟩ := h
    rfl
  · obtain ⟨v, sl, rfl, hv, q⟩ := h
    refine ⟨_, (pss_cons (ps_if (pt_cmpR op_eq (pv 1) pe_str (nomark _)) (pss_one (ps_ret (pe_call G_iskind hr (by rfl) T.g_iskind T.F_iskind.kp T.b_iskind .nil pass0 (pa_cons (pv 0) pa_nil)))) pss_nil)
      (pss_cons (ps_if (PW.pt (pw_and (pt_cmpR op_eq (pv 1) pe_str (nomark _)) (pw_and1 (pt_cmpR op_isN (pv 0) pe_non (nomark _))))) (pss_one (ps_ret pe_bl)) pss_nil)
      (pss_cons (ps_if (pt_cmpR op_eq (pv 1) pe_str (nomark _)) (pss_one (ps_ret (pe_and (pe_call G_iswhole hr (by rfl) T.g_iswhole T.F_iswhole.kp T.b_iswhole .nil pass0 (pa_cons (pv 0) pa_nil)) (pe_one (pe_cmpR op_ge (pv 0) pe_int (nomark _)))))) pss_nil)
      (pss_one (ps_ret (pe_call G_iswhole hr (by rfl) T.g_iswhole T.F_iswhole.kp T.b_iswhole .nil pass0 (pa_cons (pv 0) pa_nil))))))), ?_⟩
    have wh : ∀ Q1 : VK, Q1 (.bl (wholeB v)) H → spWhole [v] H Q1 (fun _ _ _ => False) := fun Q1 z => ⟨v, rfl, hv, z⟩
    -- kind
    refine ⟨_, rfl, rfl, _, rfl, ite2 (fun e => ?_) (fun e1 => ?_)⟩
    · have es : slT sl = "kind" := V.str.inj (of_decide_eq_true e)
      have el : sl = .knd := by
        cases sl <;> first | rfl | exact absurd es (by decide +kernel)
      subst el
      exact ⟨_, rfl, v, rfl, hv, q⟩
    have n1 : sl ≠ .knd := fun z => e1 (by subst z; decide +kernel)
    -- other
    refine ⟨_, rfl, rfl, _, rfl, ite2 (fun e => ?_) (fun e2 => ?_)⟩
    · have es : slT sl = "other" := V.str.inj (of_decide_eq_true e)
      have el : sl = .oth := by
        cases sl <;> first | rfl | exact absurd es (by decide +kernel)
      subst el
      refine ⟨_, rfl, rfl, _, rfl, ite2 (fun e3 => ?_) (fun e3 => ?_)⟩
      · have ev : v = .non := of_decide_eq_true e3
        have z : fitB .oth v = true := by
          rw [ev]
          rfl
        rw [z] at q
        exact q
      · have z : fitB .oth v = wholeB v := by
          show (decide (v = .non) || wholeB v) = wholeB v
          rw [Bool.eq_false_iff.mpr e3, Bool.false_or]
        rw [z] at q
        refine ⟨_, rfl, rfl, _, rfl, ite2 (fun e => absurd (V.str.inj (of_decide_eq_true e)) (by decide +kernel)) (fun _ => ?_)⟩
        exact ⟨_, rfl, v, rfl, hv, q⟩
    have n2 : sl ≠ .oth := fun z => e2 (by subst z; decide +kernel)
    refine iteF ?_
    -- place
    refine ⟨_, rfl, rfl, _, rfl, ite2 (fun e => ?_) (fun e3 => ?_)⟩
    · have es : slT sl = "place" := V.str.inj (of_decide_eq_true e)
      have el : sl = .plc := by
        cases sl <;> first | rfl | exact absurd es (by decide +kernel)
      subst el
      refine ⟨_, rfl, v, rfl, hv, _, rfl, ite2 (fun e4 => ?_) (fun e4 => ?_)⟩
      · cases v with
        | int i => exact ⟨_, rfl, _, _, rfl, rfl, q⟩
        | _ => exact nomatch e4
      · have z : fitB .plc v = false := by
          cases v <;> first | rfl | exact absurd rfl e4
        rw [z] at q
        exact q
    have n3 : sl ≠ .plc := fun z => e3 (by subst z; decide +kernel)
    have z : fitB sl v = wholeB v := by
      cases sl <;> first | rfl | exact absurd rfl n1 | exact absurd rfl n2 | exact absurd rfl n3
    rw [z] at q
    exact ⟨_, rfl, v, rfl, hv, q⟩
theorem tabg_same {H H' : Hp} {P : Addr} (s : Same H H') (g : GxR.TabG H P) : GxR.TabG H' P := by
  obtain ⟨ps, h, t⟩ := g
  exact ⟨ps, s _ _ h, t⟩
end

/-! ### the tables of code made on the way: what is no table stays -/
theorem But.of_same {P : Addr} {H H' : Hp} (s : Same H H') : But P H H' := fun a o e _ => s a o e
theorem But.of_tab {P : Addr} {H H' : Hp} (t : GxR.Tabbed P H H') : But P H H' := fun a o e n => (t.2 a n).trans e
theorem Kp.of_but {P : Addr} {H H' : Hp} (g : GxR.TabG H P) (k : But P H H') : Kp H H' := fun a o e n => by
  refine k a o e fun h => ?_
  subst h
  obtain ⟨ps, hp, _⟩ := g
  rw [hp] at e
  exact n ps (Option.some.inj e).symm
theorem TabG.ne {P a : Addr} {H : Hp} {o : HO} (g : GxR.TabG H P) (e : H a = some o) (n : ∀ ps, o ≠ .tbl ps) : a ≠ P := fun h => by
  subst h
  obtain ⟨ps, hp, _⟩ := g
  rw [hp] at e
  exact n ps (Option.some.inj e).symm
/-! ### tables kept -/
theorem tabg_but {H H' : Hp} {b L P : Addr} (B : BoxAt H b L) (k : But b H H') (g : GxR.TabG H P) : GxR.TabG H' P := by
  obtain ⟨ns, n, h1, _⟩ := B.ex
  obtain ⟨ps, hp, t⟩ := g
  exact ⟨ps, k _ _ hp (ne_of hp h1 (by intro z; cases z)), t⟩
theorem tabs_but {H H' : Hp} {b L P : Addr} {q : Str} (B : BoxAt H b L) (k : But b H H') (g : LamX.TabS H P q) : LamX.TabS H' P q := by
  obtain ⟨ns, n, h1, _⟩ := B.ex
  obtain ⟨ps, hp, t, e⟩ := g
  refine ⟨ps, k _ _ hp (ne_of hp h1 (by intro z; cases z)), t, fun pos cv hc => ?_⟩
  obtain ⟨c, e1, e2⟩ := e pos cv hc
  exact ⟨c, e1, k _ _ e2 (ne_of e2 h1 (by intro z; cases z))⟩
theorem tabs_same {H H' : Hp} {P : Addr} {q : Str} (s : Same H H') (g : LamX.TabS H P q) : LamX.TabS H' P q := g.ext s
/-- the other table's writing -/
theorem tabs_other {H H' : Hp} {P R : Addr} {q : Str} (n : P ≠ R) (gR : GxR.TabG H R) (k : But R H H') (g : LamX.TabS H P q) : LamX.TabS H' P q := by
  obtain ⟨ps, hp, t, e⟩ := g
  refine ⟨ps, k _ _ hp n, t, fun pos cv hc => ?_⟩
  obtain ⟨c, e1, e2⟩ := e pos cv hc
  exact ⟨c, e1, k _ _ e2 (TabG.ne gR e2 LamX.codeO_ne)⟩
theorem tabg_other {H H' : Hp} {P R : Addr} (n : R ≠ P) (k : But P H H') (g : GxR.TabG H R) : GxR.TabG H' R := by
  obtain ⟨ps, hp, t⟩ := g
  exact ⟨ps, k _ _ hp n, t⟩
theorem BoxAt.tab {H H' : Hp} {b L P : Addr} (B : BoxAt H b L) (g : GxR.TabG H P) (k : But P H H') : BoxAt H' b L := by
  obtain ⟨ns, n, h1, h2, r⟩ := B.ex
  exact ⟨ns, n, k _ _ h1 (TabG.ne g h1 (by intro ps z; cases z)), k _ _ h2 (TabG.ne g h2 (by intro ps z; cases z)), r⟩
theorem TabS.g {H : Hp} {P : Addr} {q : Str} (g : LamX.TabS H P q) : GxR.TabG H P := by
  obtain ⟨ps, hp, t, _⟩ := g
  exact ⟨ps, hp, t⟩
theorem Tups.of_tab {K : PySem.W.Frag} {H H' : Hp} {P : Addr} (g : GxR.TabG H P) (k : But P H H') : Tups K H H' := fun a xs h => by
  rcases h with h | h
  · rcases h with h | ⟨o, h⟩
    · exact .inl (.inl (k _ _ h (TabG.ne g h (by intro ps z; cases z))))
    · exact .inl (.inr ⟨o, k _ _ h (TabG.ne g h (by intro ps z; cases z))⟩)
  · exact .inr h

theorem Tups.of_kp {K : PySem.W.Frag} {H H' : Hp} (k : Kp H H') : Tups K H H' := fun a xs h => by
  rcases h with h | h
  · rcases h with h | ⟨o, h⟩
    · exact .inl (.inl (k _ _ h (by intro ps z; cases z)))
    · exact .inl (.inr ⟨o, k _ _ h (by intro ps z; cases z)⟩)
  · exact .inr h
theorem Kp.same {H H1 H2 : Hp} (k : Kp H H1) (s : Same H1 H2) : Kp H H2 := k.trans (Kp.of_same s)
theorem BoxAt.kp {H H' : Hp} {b L : Addr} (B : BoxAt H b L) (k : Kp H H') : BoxAt H' b L := by
  obtain ⟨ns, n, h1, h2, r⟩ := B.ex
  exact ⟨ns, n, k _ _ h1 (by intro ps z; cases z), k _ _ h2 (by intro ps z; cases z), r⟩
/-- each table as it has to be: of generators (none), of lambdas that stand in one def (its name) -/
def Tb (ts : List (Addr × Option Str)) (H : Hp) : Prop := ∀ t ∈ ts, match t.2 with | none => GxR.TabG H t.1 | some q => LamX.TabS H t.1 q
section
variable {ts : List (Addr × Option Str)} {H H' : Hp}
theorem Tb.g {P : Addr} (h : Tb ts H) (m : (P, none) ∈ ts) : GxR.TabG H P := h _ m
theorem Tb.s {P : Addr} {q : Str} (h : Tb ts H) (m : (P, some q) ∈ ts) : LamX.TabS H P q := h _ m
theorem Tb.mk (h : ∀ P, (P, none) ∈ ts → GxR.TabG H P) (k : ∀ P q, (P, some q) ∈ ts → LamX.TabS H P q) : Tb ts H := fun t m => by
  obtain ⟨P, o⟩ := t
  cases o with
  | none => exact h P m
  | some q => exact k P q m
theorem Tb.same (h : Tb ts H) (s : Same H H') : Tb ts H' := .mk (fun P m => tabg_same s (h.g m)) (fun P q m => tabs_same s (h.s m))
theorem Tb.but {b L : Addr} (h : Tb ts H) (B : BoxAt H b L) (k : But b H H') : Tb ts H' := .mk (fun P m => tabg_but B k (h.g m)) (fun P q m => tabs_but B k (h.s m))
theorem nd_fst : ∀ {ts : List (Addr × Option Str)}, (ts.map (·.1)).Nodup → ∀ {x y : Addr × Option Str}, x ∈ ts → y ∈ ts → x.1 = y.1 → x = y
  | [], _, _, _, hx, _, _ => nomatch hx
  | t :: r, nd, x, y, hx, hy, e => by
    rw [List.map_cons, List.nodup_cons] at nd
    rcases List.mem_cons.mp hx with e1 | h1
    · rcases List.mem_cons.mp hy with e2 | h2
      · rw [e1, e2]
      · exact absurd (List.mem_map.mpr ⟨y, h2, by rw [← e, e1]⟩) nd.1
    · rcases List.mem_cons.mp hy with e2 | h2
      · exact absurd (List.mem_map.mpr ⟨x, h1, by rw [e, e2]⟩) nd.1
      · exact nd_fst nd.2 h1 h2 e
/-- one of generators was written -/
theorem Tb.tab {P : Addr} (h : Tb ts H) (nd : (ts.map (·.1)).Nodup) (m : (P, none) ∈ ts) (k : But P H H') (g : GxR.TabG H' P) : Tb ts H' := by
  refine .mk (fun R mR => ?_) (fun R q mR => ?_)
  · by_cases e : R = P
    · subst e
      exact g
    · exact tabg_other e k (h.g mR)
  · refine tabs_other (fun e => ?_) (h.g m) k (h.s mR)
    subst e
    cases nd_fst nd m mR rfl
/-- one of lambdas was written -/
theorem Tb.lam {P : Addr} {q : Str} (h : Tb ts H) (nd : (ts.map (·.1)).Nodup) (m : (P, some q) ∈ ts) (k : But P H H') (g : LamX.TabS H' P q) : Tb ts H' := by
  refine .mk (fun R mR => ?_) (fun R q2 mR => ?_)
  · refine tabg_other (fun e => ?_) k (h.g mR)
    subst e
    cases nd_fst nd m mR rfl
  · by_cases e : R = P
    · subst e
      cases nd_fst nd m mR rfl
      exact g
    · exact tabs_other e (TabS.g (h.s m)) k (h.s mR)
end

abbrev qLam : Str := ("law" : Str) ++ ".<locals>." ++ "<lambda>"
section
variable {w : World} {K : PySem.W.Frag} {mg : Str → Option Value}
def Top.tbs (T : Top w K mg) : List (Addr × Option Str) := [(T.PR, none), (T.PM, none), (T.PL, some qLam)]
theorem Top.mR (T : Top w K mg) : (T.PR, none) ∈ T.tbs := List.mem_cons_self
theorem Top.mM (T : Top w K mg) : (T.PM, none) ∈ T.tbs := List.mem_cons_of_mem _ List.mem_cons_self
theorem Top.mL (T : Top w K mg) : (T.PL, some qLam) ∈ T.tbs := List.mem_cons_of_mem _ (List.mem_cons_of_mem _ List.mem_cons_self)
theorem Top.nd (T : Top w K mg) : (T.tbs.map (·.1)).Nodup := T.neP
structure TBs (T : Top w K mg) (base : Heap) : Prop where
  R : GxR.TabB base mg T.cR T.PR
  M : GxR.TabB base mg T.cM T.PM
theorem tbs0 (T : Top w K mg) {H : Hp} (hR : H T.PR = some (.tbl #[])) (hM : H T.PM = some (.tbl #[])) (hL : H T.PL = some (.tbl #[])) : Tb T.tbs H := by
  intro t m
  rcases List.mem_cons.mp m with rfl | m
  · exact ⟨#[], hR, True.intro⟩
  rcases List.mem_cons.mp m with rfl | m
  · exact ⟨#[], hM, True.intro⟩
  · rw [List.mem_singleton.mp m]
    exact LamX.TabS.nil hL
end

/-! ### is_row, all but its table as it was -/
/-- anything but a tuple -/
inductive NoTup (H : Hp) : V → Prop
  | non : NoTup H .non
  | bl (b : Bool) : NoTup H (.bl b)
  | int (i : Int) : NoTup H (.int i)
  | str (x : Str) : NoTup H (.str x)
  | lst {a : Addr} {xs : List V} (h : H a = some (.lst xs)) : NoTup H (.ref a)
  | dK {a : Addr} {kvs : List (Key × V)} (h : H a = some (.dK kvs)) : NoTup H (.ref a)
theorem NoTup.kp {H H' : Hp} (k : Kp H H') {v : V} (h : NoTup H v) : NoTup H' v := by
  cases h with
  | non => exact .non
  | bl b => exact .bl b
  | int i => exact .int i
  | str x => exact .str x
  | lst h => exact .lst (k _ _ h (by intro ps z; cases z))
  | dK h => exact .dK (k _ _ h (by intro ps z; cases z))
theorem notup_ok {K : PySem.W.Frag} {H : Hp} {v : V} (h : NoTup H v) : ∃ t, TyX K H v t ∧ PySem.W.kitOne K t (.type "tuple") = some false := by
  cases h with
  | non => exact ⟨_, .base .non, kit_ty (show kitB _ _ = some false by decide +kernel)⟩
  | bl b => exact ⟨_, .base (.bl b), kit_ty (show kitB _ _ = some false by decide +kernel)⟩
  | int i => exact ⟨_, .base (.int i), kit_ty (show kitB _ _ = some false by decide +kernel)⟩
  | str x => exact ⟨_, .base (.str x), kit_ty (show kitB _ _ = some false by decide +kernel)⟩
  | lst h => exact ⟨_, .base (.lst h), kit_ty (show kitB _ _ = some false by decide +kernel)⟩
  | dK h => exact ⟨_, .base (.dK h), kit_ty (show kitB _ _ = some false by decide +kernel)⟩
def ThingV (H : Hp) (v : V) (b : Bool) : Prop := (∃ (a : Addr) (xs : List V), v = .ref a ∧ xs.length ≤ 1000 ∧ H a = some (.tup xs) ∧ (∀ x ∈ xs, AnyV H x) ∧ b = rowB xs) ∨ (NoTup H v ∧ b = false)
def spIsRow (tb : List (Addr × Option Str)) : Sp := fun vs H Q _ => ∃ (v : V) (b : Bool), vs = [v] ∧ Tb tb H ∧ ThingV H v b ∧ ∀ H', Kp H H' → Tb tb H' → Q (.bl b) H'
section
variable {P : Program} {w : World} {K : PySem.W.Frag} {mg : Str → Option Value} {base : Heap}
theorem ok_isrow (T : Top w K mg) (TBs : TBs T base) : FnOk P w K mg base CX0 4 T.a_isrow T.d_isrow ["thing"] (spIsRow T.tbs) := by
  have TB := TBs.R
  have G_fits : FnOk P w K mg base CX0 2 _ _ _ _ := ok_fits T
  have D : KDict K w T.aF T.esF T.nF := ⟨T.lF, T.kF, T.oF⟩
  refine okC T.F_isrow T.hcR sc_isrow (fun vs H Q E h => ?_) (fun A outer s H vs Q E hr h => ?_)
  · obtain ⟨v, b, rfl, _⟩ := h
    rfl
  · obtain ⟨v, b, rfl, tbs, hx, q0⟩ := h
    have tg : GxR.TabG H T.PR := tbs.g T.mR
    have q : ∀ H', But T.PR H H' → GxR.TabG H' T.PR → Q (.bl b) H' := fun H' k g => q0 H' (Kp.of_but tg k) (tbs.tab T.nd T.mR k g)
    refine ⟨_, (pss_cons (ps_if (PW.pt (pw_or (pt_not (pt_val (pe_callB call_isi (by rfl) T.m_isinstance (by decide +kernel) (pa_cons (pv 0) (pa_cons (pe_bltn (v := .ty "tuple") (by rfl) T.m_tuple (by decide +kernel) rfl) pa_nil))))) (pw_or (pt_cmpR op_eq (pe_callB call_len_seq (by rfl) T.m_len PySem.boot_len (pa_cons (pv 0) pa_nil)) pe_int (nomark _)) (pw_or1 (pt_not (pt_val (pe_callB call_isi (by rfl) T.m_isinstance (by decide +kernel) (pa_cons (pe_ix ix_tup (pv 0) pe_int (fun _ _ => rfl)) (pa_cons (pe_bltn (v := .ty "str") (by rfl) T.m_str (by decide +kernel) rfl) pa_nil))))))))) (pss_one (ps_ret pe_bl)) pss_nil)
      (pss_cons (ps_if (pt_cmpR (op_notIn_kd D) (pe_ix ix_tup (pv 0) pe_int (fun _ _ => rfl)) (pe_glob (v := .ref T.aF) (by rfl) T.v_FORMS rfl) (by rfl)) (pss_one (ps_ret pe_bl)) pss_nil)
      (pss_cons (ps_set (i := 1) sc_isrow.nd rfl (.inl rfl) (pe_ix ix_kdict (pe_glob (v := .ref T.aF) (by rfl) T.v_FORMS rfl) (pe_ix ix_tup (pv 0) pe_int (fun _ _ => rfl)) (fun _ _ => rfl)))
      (pss_cons (ps_set (i := 2) sc_isrow.nd rfl (.inl rfl) (pe_slice sl_tup (pv 0) (po_some pe_int) po_none))
      (pss_one (ps_ret (pe_and (pe_cmpR op_eq (pe_callB call_len_seq (by rfl) T.m_len PySem.boot_len (pa_cons (pv 2) pa_nil)) (pe_callB call_len_seq (by rfl) T.m_len PySem.boot_len (pa_cons (pv 1) pa_nil)) (nomark _)) (pe_one (pe_allG (own := [("part", 3), ("wanted", 4)]) hr rfl sc_isrow.nd (by rfl) T.m_all (by decide +kernel) TB rfl (blkOk_by (own := [("part", 3), ("wanted", 4)]) (N := ["thing", "form", "parts", "part", "wanted"]) (sc := defScope s_isrow) (by decide +kernel)) (by rfl) (by decide +kernel) (by rfl) (RZ.pi_zipA (by rfl) T.m_zip (pa_cons (pv 2) (pa_cons (pv 1) pa_nil))) (fun _ _ _ _ _ _ _ => (pg_tupK (K := K) (n := 2) rfl rfl (pgs_cons (pg_name (i := 3) sc_isrow.nd rfl (.inl rfl) (hf := Or.inr rfl)) (pgs_cons (pg_name (i := 4) sc_isrow.nd rfl (.inl rfl) (hf := Or.inr rfl)) pgs_nil)) rfl)) (fun _ _ _ _ _ _ _ hr' => (pe_call G_fits hr' (by rfl) T.g_fits T.F_fits.kp T.b_fits .nil pass0 (pa_cons (pv 3) (pa_cons (pv 4) pa_nil))))))))))))), ?_⟩
    rcases hx with ⟨a, xs, rfl, hlen, ha, hany, rfl⟩ | ⟨nt, rfl⟩
    · refine ⟨_, rfl, _, _, _, _, true, rfl, ClsV.ty _, .base (.tup ha), kit_ty (by decide +kernel), _, rfl, iteF ?_⟩
      have no : rowB xs = false → Q (.bl false) H := fun z => by
        rw [z] at q
        exact q H .refl tg
      cases xs with
      | nil =>
        refine ⟨_, rfl, a, _, rfl, .inr (SqT.of ha), rfl, _, rfl, iteT ?_⟩
        exact iteT (no rfl)
      | cons x ps =>
        refine ⟨_, rfl, a, _, rfl, .inr (SqT.of ha), rfl, _, rfl, ?_⟩
        refine ite2 (fun e => ?_) (fun _ => ?_)
        · have z : ((x :: ps).length : Int) = 0 := V.int.inj (of_decide_eq_true e)
          rw [List.length_cons] at z
          omega
        · obtain ⟨t, ty, kt⟩ := str_ok (K := K) (hany x List.mem_cons_self)
          refine ⟨_, rfl, a, _, _, _, rfl, rfl, SqT.of ha, atI_nat (j := 0) rfl, _, _, _, _, _, rfl, ClsV.ty _, ty, kt, _, rfl, ?_⟩
          cases x with
          | str z =>
            refine iteF ?_
            have ns := formB_get T.lF T.fF z
            rw [formsT_lookup] at ns
            cases ef : forms.lookup z with
            | none =>
              rw [ef] at ns
              refine ⟨_, rfl, a, _, _, _, rfl, rfl, SqT.of ha, atI_nat (j := 0) rfl, z, none, rfl, rfl, ns, _, rfl, iteT ?_⟩
              refine no ?_
              show (match forms.lookup z with | some sl => fitsB sl ps | none => false) = false
              rw [ef]
            | some sl =>
              rw [ef] at ns
              obtain ⟨fa, hns, htb⟩ := ns
              have hform : SqT K H fa ((sl.map slT).map V.str) := tupB_ok htb H
              refine ⟨_, rfl, a, _, _, _, rfl, rfl, SqT.of ha, atI_nat (j := 0) rfl, z, some (.ref fa), rfl, rfl, hns, _, rfl, iteF ?_⟩
              refine ⟨_, rfl, a, _, _, _, rfl, rfl, SqT.of ha, atI_nat (j := 0) rfl, T.aF, z, .ref fa, rfl, rfl, ⟨T.esF, T.nF, _, T.lF, T.kF, hns, rfl⟩, ?_⟩
              refine ⟨_, rfl, 1, rfl, a, _, rfl, SqT.of ha, ?_, fun pp np => ?_⟩
              · rintro ⟨z1, _⟩
                have e1 : HT.sIx (V.str z :: ps).length 0 (some 1) = 1 := by
                  rw [show (1 : Int) = ((1 : Nat) : Int) from rfl, HT.sIx_nat, List.length_cons]
                  omega
                rw [e1] at z1
                exact nomatch z1
              · have ec : cutV (V.str z :: ps) (some 1) none = ps := cut_tail _ _
                have s1 : Same H (upd H pp (.tup (cutV (V.str z :: ps) (some 1) none))) := same_new np
                rw [ec] at s1 ⊢
                have hp1 : upd H pp (.tup ps) pp = some (.tup ps) := upd_same
                generalize upd H pp (.tup ps) = H1 at s1 hp1 ⊢
                have hform1 : SqT K H1 fa ((sl.map slT).map V.str) := tupB_ok htb H1
                have tg1 : GxR.TabG H1 T.PR := (tabg_same s1 tg)
                have rb : rowB (.str z :: ps) = fitsB sl ps := by
                  show (match forms.lookup z with | some sl => fitsB sl ps | none => false) = _
                  rw [ef]
                refine ⟨_, rfl, pp, _, rfl, .inr (SqT.of hp1), _, rfl, fa, _, rfl, .inr hform1, rfl, _, rfl, ite2 (fun e => ?_) (fun e => ?_)⟩
                · have el : ps.length = sl.length := by
                    have z1 := V.int.inj (of_decide_eq_true e)
                    rw [List.length_map, List.length_map] at z1
                    omega
                  refine ⟨_, rfl, _, rfl, pp, fa, _, _, rfl, .inr ⟨SqT.of hp1, hform1, tg1, fun H2 tb => ?_⟩⟩
                  have k2 : But T.PR H H2 := (But.of_same s1).trans (But.of_tab tb)
                  refine gturns_zipT (by rw [List.length_map, List.length_map]; exact el) (fun i H' => But T.PR H H' ∧ H' pp = some (.tup ps) ∧ GxR.TabG H' T.PR ∧ fitsB sl ps = fitsB (sl.drop i) (ps.drop i)) ⟨k2, But.of_tab tb _ _ hp1 (TabG.ne tg1 hp1 (by intro ps z; cases z)), tb.1, rfl⟩ (fun i H' h => ⟨SqT.of h.2.1, tupB_ok htb H'⟩) (fun i x y t H' N hx hy h ht k => ?_) (fun H' h => ?_)
                  · obtain ⟨k0, hp0, tg0, e0⟩ := h
                    rw [List.map_map, List.getElem?_map] at hy
                    obtain ⟨si, hsi, rfl⟩ := Option.map_eq_some_iff.mp hy
                    have st : Same H' (upd H' t (.tup [x, .str (slT si)])) := same_new ht
                    have ht1 : upd H' t (.tup [x, .str (slT si)]) t = some (.tup [x, .str (slT si)]) := upd_same
                    have es : sl.drop i = si :: sl.drop (i + 1) := drop_at hsi
                    have ep : ps.drop i = x :: ps.drop (i + 1) := drop_at hx
                    have ef2 : fitsB sl ps = (fitB si x && fitsB (sl.drop (i + 1)) (ps.drop (i + 1))) := by
                      rw [e0, es, ep]
                      rfl
                    have ax : AnyV (upd H' t (.tup [x, .str (slT si)])) x := (hany x (List.mem_cons_of_mem _ (List.mem_of_getElem? hx))).kp (Kp.of_but tg (k0.same st))
                    refine ⟨t, _, rfl, SqT.of ht1, rfl, _, _, rfl, _, _, rfl, rfl, rfl, _, rfl, _, rfl, x, si, rfl, ax, _, rfl, ite2 (fun eb => ?_) (fun eb => ?_)⟩
                    · refine k _ ⟨k0.same st, st _ _ hp0, tabg_same st tg0, ?_⟩
                      rw [ef2, eb, Bool.true_and]
                    · have z1 : rowB (.str z :: ps) = false := by
                        rw [rb, ef2, Bool.eq_false_iff.mpr eb, Bool.false_and]
                      rw [z1] at q
                      exact q _ (k0.same st) (tabg_same st tg0)
                  · obtain ⟨k0, hp0, tg0, e0⟩ := h
                    have z1 : rowB (.str z :: ps) = true := by
                      rw [rb, e0, List.drop_of_length_le (Nat.le_refl _), List.drop_of_length_le (by omega)]
                      rfl
                    rw [z1] at q
                    exact q _ k0 tg0
                · have z1 : rowB (.str z :: ps) = false := by
                    rw [rb]
                    refine fits_len fun z1 => e ?_
                    rw [List.length_map, List.length_map, z1]
                    exact decide_eq_true rfl
                  rw [z1] at q
                  exact q _ (But.of_same s1) tg1
          | _ => exact iteT (no rfl)
    · obtain ⟨t, ty, kt⟩ := notup_ok (K := K) nt
      refine ⟨_, rfl, _, _, _, _, false, rfl, ClsV.ty _, ty, kt, _, rfl, iteT ?_⟩
      refine iteT ?_
      exact q H .refl tg
end

end My
namespace My
open PySem L2
/-! ### points_named -/
theorem walk_zipT {K : PySem.W.Frag} {a b : Addr} {xs ys : List V} {n : Nat} (hn : n = min xs.length ys.length) : L2.Walk (RZ.ItzT K a b) n (fun H => SqT K H a xs ∧ SqT K H b ys) (YPair (fun i => xs[i]?) (fun i => ys[i]?)) := by
  subst hn
  refine ⟨fun i H hi q => ?_, fun H q => ?_, fun i H v H' hi q y => ?_⟩
  · have h1 : i < xs.length := by omega
    have h2 : i < ys.length := by omega
    exact ⟨xs, ys, xs[i], ys[i], q.1, q.2, List.getElem?_eq_getElem h1, List.getElem?_eq_getElem h2⟩
  · refine ⟨xs, ys, q.1, q.2, ?_⟩
    by_cases h : xs.length ≤ ys.length
    · exact .inl (by omega)
    · exact .inr (by omega)
  · obtain ⟨tp, a1, a2, rfl, free, rfl, w1, w2⟩ := y
    exact ⟨tp, a1, a2, rfl, free, rfl, w1 xs q.1, w2 ys q.2⟩
def isPt : Sl → Bool
  | .pt => true
  | .oth => true
  | _ => false
def pick1 : List Sl → List V → List V
  | s :: ss, v :: vs => if isPt s = true then v :: pick1 ss vs else pick1 ss vs
  | _, _ => []
theorem pick1_append : ∀ {a c : List Sl} {b d : List V}, a.length = b.length → pick1 (a ++ c) (b ++ d) = pick1 a b ++ pick1 c d
  | [], _, [], _, _ => rfl
  | [], _, _ :: _, _, h => nomatch h
  | _ :: _, _, [], _, h => nomatch h
  | s :: ss, c, v :: vs, d, h => by
    have ih := pick1_append (a := ss) (c := c) (b := vs) (d := d) (Nat.succ.inj h)
    show (if isPt s = true then v :: pick1 (ss ++ c) (vs ++ d) else pick1 (ss ++ c) (vs ++ d)) = (if isPt s = true then v :: pick1 ss vs else pick1 ss vs) ++ pick1 c d
    rw [ih]
    cases isPt s <;> rfl
theorem take_at {α : Type} {xs : List α} {i : Nat} {x : α} (h : xs[i]? = some x) : xs.take (i + 1) = xs.take i ++ [x] := by
  rw [List.take_succ, h]
  rfl
theorem pick1_turn {sl : List Sl} {ps : List V} {i : Nat} {s : Sl} {x : V} (h1 : sl[i]? = some s) (h2 : ps[i]? = some x) : pick1 (sl.take (i + 1)) (ps.take (i + 1)) = pick1 (sl.take i) (ps.take i) ++ (if isPt s = true then [x] else []) := by
  have l1 := (List.getElem?_eq_some_iff.mp h1).1
  have l2 := (List.getElem?_eq_some_iff.mp h2).1
  rw [take_at h1, take_at h2, pick1_append (by rw [List.length_take, List.length_take]; omega)]
  rfl
theorem pick1_length : ∀ (a : List Sl) (b : List V), (pick1 a b).length ≤ b.length
  | [], b => Nat.zero_le _
  | _ :: _, [] => Nat.zero_le _
  | s :: ss, v :: vs => by
    have ih := pick1_length ss vs
    unfold pick1
    split
    · rw [List.length_cons, List.length_cons]
      omega
    · rw [List.length_cons]
      omega
def notN (v : V) : Bool := !decide (v = .non)
theorem filter_turn {α : Type} {xs : List α} {i : Nat} {x : α} (f : α → Bool) (h : xs[i]? = some x) : (xs.take (i + 1)).filter f = (xs.take i).filter f ++ (if f x = true then [x] else []) := by
  rw [take_at h, List.filter_append]
  congr 1
  rw [List.filter_cons, List.filter_nil]
theorem pt_in (s : Sl) : inV (.str (slT s)) [V.str "point", V.str "other"] = isPt s := by
  cases s <;> decide +kernel
/-- the numbers of points that stand in a row -/
def namedV (sl : List Sl) (ps : List V) : List V := (pick1 sl ps).filter notN
def spNamed : Sp := fun vs H Q _ => ∃ (a : Addr) (z : Str) (sl : List Sl) (ps : List V), vs = [.ref a] ∧ H a = some (.tup (.str z :: ps)) ∧ forms.lookup z = some sl ∧ ps.length = sl.length ∧ ps.length ≤ 1000 ∧
  ∀ (p : Addr) (H' : Hp), Same H H' → H p = none → H' p = some (.lst (namedV sl ps)) → Q (.ref p) H'
section
variable {P : Program} {w : World} {K : PySem.W.Frag} {mg : Str → Option Value} {base : Heap}
theorem ok_named (T : Top w K mg) : FnOk P w K mg base CX0 1 T.a_pointsnamed T.d_pointsnamed ["row"] spNamed := by
  have D : KDict K w T.aF T.esF T.nF := ⟨T.lF, T.kF, T.oF⟩
  refine T.F_pointsnamed.ok sc_pointsnamed (fun vs H Q E h => ?_) (fun cdv A outer s H vs Q E hr h => ?_)
  · obtain ⟨a, z, sl, ps, rfl, _⟩ := h
    rfl
  · obtain ⟨a, z, sl, ps, rfl, ha, ef, el, hlen, q⟩ := h
    refine ⟨_, (pss_cons (ps_setLc (i := 1) (own := [("part", 2), ("wanted", 3)]) (by rfl) sc_pointsnamed.nd rfl rfl (sw_true rfl rfl rfl (by decide +kernel)) (RZ.pi_zipA (by rfl) T.m_zip (pa_cons (pe_slice sl_tup (pv 0) (po_some pe_int) po_none) (pa_cons (pe_ix ix_kdict (pe_glob (v := .ref T.aF) (by rfl) T.v_FORMS rfl) (pe_ix ix_tup (pv 0) pe_int (fun _ _ => rfl)) (fun _ _ => rfl)) pa_nil))) (blkOk_by (own := [("part", 2), ("wanted", 3)]) (N := ["row", "named", "part", "wanted", "number"]) (sc := defScope s_pointsnamed) (by decide +kernel)) (fun _ _ _ _ _ => (pg_tupK (K := K) (n := 2) rfl rfl (pgs_cons (pg_name (i := 2) sc_pointsnamed.nd rfl (.inl rfl)) (pgs_cons (pg_name (i := 3) sc_pointsnamed.nd rfl (.inl rfl)) pgs_nil)) rfl)) (fun _ _ _ _ _ => (pts_one (pt_cmpR (op_in_seqK (K := K) rfl) (pv 3) (pe_tup (pa_cons pe_str (pa_cons pe_str pa_nil))) (by rfl)))) (fun _ _ _ _ _ => (pv 2)))
      (pss_one (ps_ret (pe_lc (own := [("number", 4)]) (g := gName 4) (by rfl) sc_pointsnamed.nd (pi_list (pv 1)) (blkOk_by (own := [("number", 4)]) (N := ["row", "named", "part", "wanted", "number"]) (sc := defScope s_pointsnamed) (by decide +kernel)) (fun _ _ _ _ _ => (pg_name (i := 4) sc_pointsnamed.nd rfl (.inl rfl))) (fun _ _ _ _ _ => (pts_one (pt_cmpR op_notN (pv 4) pe_non (nomark _)))) (fun _ _ _ _ _ => (pv 4)))))), ?_⟩
    refine ⟨_, rfl, 1, rfl, a, _, rfl, SqT.of ha, ?_, fun pp np => ?_⟩
    · rintro ⟨z1, _⟩
      have e1 : HT.sIx (V.str z :: ps).length 0 (some 1) = 1 := by
        rw [show (1 : Int) = ((1 : Nat) : Int) from rfl, HT.sIx_nat, List.length_cons]
        omega
      rw [e1] at z1
      exact nomatch z1
    · have ec : cutV (V.str z :: ps) (some 1) none = ps := cut_tail _ _
      have s1 : Same H (upd H pp (.tup (cutV (V.str z :: ps) (some 1) none))) := same_new np
      rw [ec] at s1 ⊢
      have hp1 : upd H pp (.tup ps) pp = some (.tup ps) := upd_same
      generalize upd H pp (.tup ps) = H1 at s1 hp1 ⊢
      have ns := formB_get T.lF T.fF z
      rw [formsT_lookup, ef] at ns
      obtain ⟨fa, hns, htb⟩ := ns
      refine ⟨_, rfl, a, _, _, _, rfl, rfl, SqT.of (s1 _ _ ha), atI_nat (j := 0) rfl, T.aF, z, .ref fa, rfl, rfl, ⟨T.esF, T.nF, _, T.lF, T.kF, hns, rfl⟩, ?_⟩
      refine ⟨pp, fa, _, _, rfl, .inr ⟨SqT.of hp1, tupB_ok htb H1, fun D1 nD1 => ?_⟩⟩
      refine lc_it (walk_zipT (n := ps.length) (by rw [List.length_map, List.length_map]; omega)) (fun i H' => Same H1 H' ∧ H' D1 = some (.lst (pick1 (sl.take i) (ps.take i)))) ⟨same_new nD1, upd_same⟩ (fun i H' hi hq => ⟨SqT.of (hq.1 _ _ hp1), tupB_ok htb H'⟩) (fun i x H' H'' hi hq y => ?_) (fun H' hq => ?_)
      · obtain ⟨s2, hD⟩ := hq
        obtain ⟨Tt, x0, y0, rfl, nT, rfl, hx, hy⟩ := y
        have hy : ((sl.map slT).map V.str)[i]? = some y0 := hy
        rw [List.map_map, List.getElem?_map] at hy
        obtain ⟨si, hsi, rfl⟩ := Option.map_eq_some_iff.mp hy
        have hx : ps[i]? = some x0 := hx
        have sT := same_new (o := .tup [x0, .str (slT si)]) nT
        refine ⟨Tt, _, rfl, SqT.of upd_same, rfl, _, _, rfl, _, _, rfl, rfl, rfl, _, rfl, (by show 2 ≤ sizeLine; decide), fun p2 np2 => ?_⟩
        have sp2 := same_new (o := .tup [.str "point", .str "other"]) np2
        refine ⟨p2, _, rfl, .inr (SqT.of upd_same), rfl, by decide, isPt si, congrArg V.bl (pt_in si), ?_⟩
        show if isPt si = true then _ else _
        have tn := pick1_turn hsi hx
        cases hb : isPt si with
        | true =>
          refine iteT ⟨_, rfl, _, sp2 _ _ (sT _ _ hD), ?_, ?_, ?_⟩
          · have := pick1_length (sl.take i) (ps.take i)
            rw [List.length_take] at this
            exact szl (by omega)
          · intro b o e
            rw [upd_ne (ne_of_none e nD1)]
            exact sp2 _ _ (sT _ _ (s2 _ _ e))
          · rw [upd_same, tn, hb, if_pos rfl]
        | false =>
          refine iteF ⟨fun b o e => sp2 _ _ (sT _ _ (s2 _ _ e)), ?_⟩
          rw [tn, hb, if_neg Bool.false_ne_true, List.append_nil]
          exact sp2 _ _ (sT _ _ hD)
      · obtain ⟨s2, hD⟩ := hq
        rw [List.take_of_length_le (by omega), List.take_of_length_le (by omega)] at hD
        refine ⟨_, rfl, D1, rfl, ⟨_, SqL.of hD⟩, fun D2 nD2 => ?_⟩
        refine lc_list (xs := pick1 sl ps) (fun i H2 => Same H' H2 ∧ H2 D2 = some (.lst (((pick1 sl ps).take i).filter notN))) ⟨same_new nD2, upd_same⟩ (fun i H2 hi hq => SqL.of (hq.1 _ _ hD)) (fun i x H2 hx hq => ?_) (fun H2 hq => ?_)
        · obtain ⟨s3, hD2⟩ := hq
          have tn := filter_turn notN hx
          refine ⟨rfl, _, rfl, rfl, _, rfl, ?_⟩
          show if notN x = true then _ else _
          cases hb : notN x with
          | true =>
            refine iteT ⟨_, rfl, _, hD2, ?_, ?_, ?_⟩
            · have h1 := List.length_filter_le notN ((pick1 sl ps).take i)
              rw [List.length_take] at h1
              have := pick1_length sl ps
              exact szl (by omega)
            · intro b o e
              rw [upd_ne (ne_of_none e nD2)]
              exact s3 _ _ e
            · rw [upd_same, tn, hb, if_pos rfl]
          | false =>
            refine iteF ⟨s3, ?_⟩
            rw [tn, hb, if_neg Bool.false_ne_true, List.append_nil]
            exact hD2
        · obtain ⟨s3, hD2⟩ := hq
          rw [List.take_of_length_le (Nat.le_refl _)] at hD2
          exact q D2 H2 ((s1.trans s2).trans s3) ((s1.trans s2).free nD2) hD2
end

end My
namespace My
open PySem L2
/-! ### refuse_unfit, and what plain_do refuses first of all -/
def inR (m : Int) : V → Bool
  | .int i => decide (0 ≤ i) && decide (i < m)
  | _ => false
def allIn (m : Int) (vs : List V) : Bool := vs.all (inR m)
theorem rowB_inv {xs : List V} (h : rowB xs = true) : ∃ z ps sl, xs = .str z :: ps ∧ forms.lookup z = some sl ∧ fitsB sl ps = true := by
  cases xs with
  | nil => exact nomatch h
  | cons x ps =>
    cases x with
    | str z =>
      have h : (match forms.lookup z with | some sl => fitsB sl ps | none => false) = true := h
      cases e : forms.lookup z with
      | none =>
        rw [e] at h
        exact nomatch h
      | some sl =>
        rw [e] at h
        exact ⟨z, ps, sl, rfl, e, h⟩
    | _ => exact nomatch h
theorem fits_length : ∀ {sl : List Sl} {ps : List V}, fitsB sl ps = true → ps.length = sl.length := by
  intro sl ps h
  by_cases e : ps.length = sl.length
  · exact e
  · rw [fits_len e] at h
    exact nomatch h
theorem pick1_fits : ∀ {sl : List Sl} {ps : List V}, fitsB sl ps = true → ∀ v ∈ pick1 sl ps, v = .non ∨ ∃ i, v = .int i
  | [], [], _, v, m => nomatch m
  | [], _ :: _, h, _, _ => nomatch h
  | _ :: _, [], h, _, _ => nomatch h
  | s :: ss, x :: xs, h, v, m => by
    have h : (fitB s x && fitsB ss xs) = true := h
    rw [Bool.and_eq_true] at h
    have ih := pick1_fits h.2
    have one : isPt s = true → x = .non ∨ ∃ i, x = .int i := by
      intro hs
      have wh : ∀ {y : V}, wholeB y = true → ∃ i, y = .int i := by
        intro y hy
        cases y <;> first | exact ⟨_, rfl⟩ | exact nomatch hy
      cases s with
      | pt => exact .inr (wh h.1)
      | oth =>
        have z : (decide (x = .non) || wholeB x) = true := h.1
        rw [Bool.or_eq_true] at z
        rcases z with z | z
        · exact .inl (of_decide_eq_true z)
        · exact .inr (wh z)
      | _ => exact nomatch hs
    have m : v ∈ (if isPt s = true then x :: pick1 ss xs else pick1 ss xs) := m
    by_cases hs : isPt s = true
    · rw [if_pos hs] at m
      rcases List.mem_cons.mp m with e | m
      · rw [e]
        exact one hs
      · exact ih v m
    · rw [if_neg hs] at m
      exact ih v m
theorem named_int {sl : List Sl} {ps : List V} (h : fitsB sl ps = true) (v : V) (m : v ∈ namedV sl ps) : ∃ i, v = .int i := by
  obtain ⟨m1, m2⟩ := List.mem_filter.mp m
  rcases pick1_fits h v m1 with e | e
  · subst e
    exact nomatch m2
  · exact e
theorem allIn_false {m : Int} {vs : List V} (h : allIn m vs = false) : ∃ v ∈ vs, inR m v = false := by
  unfold allIn at h
  rw [List.all_eq_false] at h
  obtain ⟨v, h1, h2⟩ := h
  exact ⟨v, h1, Bool.eq_false_iff.mpr h2⟩
/-- what a row that is one is told: by its points -/
def RowIn (H : Hp) (v : V) (m : Int) (r : Bool) : Prop := ∀ a z sl ps, v = .ref a → H a = some (.tup (.str z :: ps)) → forms.lookup z = some sl → fitsB sl ps = true → allIn m (namedV sl ps) = r
theorem okCX {P : Program} {w : World} {K : PySem.W.Frag} {mg : Str → Option Value} {base : Heap} {x qual : Str} {st : Stmt} {f c : Addr} {fd : FuncData} {N ps : List Str} {k : Nat} {sp : Sp} (F : Fun K x qual st f fd) (hcd : fd.code = .ref c) (S : FnScope N ps (defScope st))
    (len : ∀ vs H Q E, sp vs H Q E → vs.length = ps.length)
    (body : ∀ (A : Around) (outer : List Env) (s : Shared) (H : Hp) (vs : List V) (Q : VK) (E : XK), Room k (A.deeper (PyProof.Rows.envOfC qual (defScope st) s.heap.objs.size f (.ref c))) → sp vs H Q E →
      ∃ t, PSs (cxOf (L2.CX P w) P w K mg base N qual (defScope st) f (.ref c) A outer s H E) (defBody st) t ∧ t { nx := fun _ H' => Q .non H', rt := Q } (start N vs) H) : FnOk P w K mg base (L2.CX P w) (k + 1) f fd ps sp := by
  obtain ⟨oc, od, kV, doc, pm, an, cdv, ct, osl, rfl, lk, hc⟩ := F.ex
  have e : cdv = .ref c := hcd
  subst e
  exact fn_of lk hc S len fun A outer s H vs Q E hr hsp => body A outer s H vs Q E hr hsp
/-- all over a list -/
theorem gturns_list {K : PySem.W.Frag} {a : Addr} {xs : List V} {g : TG} {te : TE} {σw : L2.St} {vs : List Nat} {Q : Bool → Hp → Prop} {H : Hp} (Pv : Nat → Hp → Prop) (h0 : Pv 0 H) (hq : ∀ i H, Pv i H → SqL K H a xs)
    (hs : ∀ (i : Nat) (x : V) (H : Hp) (N : Hp → Prop), xs[i]? = some x → Pv i H → (∀ H3, Pv (i + 1) H3 → N H3) → g x σw H fun σ2 H2 => wipe σ2 vs = σw ∧ te σ2 H2 fun v H3 => ∃ b, v = .bl b ∧ if b = true then N H3 else Q false H3)
    (hd : ∀ H, Pv xs.length H → Q true H) : ∃ W : Nat → Nat → Hp → Prop, (∃ m, W 0 m H) ∧ gTurns (Itl K a) g te σw vs W Q := by
  refine ⟨fun i m H => m = xs.length - i ∧ i ≤ xs.length ∧ Pv i H, ⟨xs.length, rfl, Nat.zero_le _, h0⟩, fun i m H st => ?_⟩
  obtain ⟨em, le, pv⟩ := st
  have sq := hq i H pv
  rcases Nat.lt_or_eq_of_le le with lt | eq
  · refine .inr ⟨⟨xs, xs[i], sq, List.getElem?_eq_getElem lt⟩, fun v H' y => ?_⟩
    obtain ⟨rfl, y⟩ := y
    exact hs i v _ _ (y xs sq) pv fun H3 p' => ⟨xs.length - (i + 1), by omega, rfl, lt, p'⟩
  · subst eq
    exact .inl ⟨⟨xs, sq, Nat.le_refl _⟩, hd H pv⟩
section
variable {P : Program} {w : World} {K : PySem.W.Frag} {mg : Str → Option Value} {base : Heap}
def spMissing (T : Top w K mg) : Sp := fun vs H Q E => ∃ (p : Addr) (xs : List V) (m : Int), vs = [.ref p, .int m] ∧ H p = some (.lst xs) ∧ (∀ v ∈ xs, ∃ i, v = .int i) ∧ Tb T.tbs H ∧ ∀ H', Kp H H' → Tb T.tbs H' →
  if allIn m xs = true then Q .non H' else E (.ref T.c_NoPoint) none H'
theorem ok_missing (T : Top w K mg) (TBs : TBs T base) : FnOk P w K mg base (L2.CX P w) 2 T.a_refusemissing T.d_refusemissing ["numbers", "many"] (spMissing T) := by
  have TB := TBs.M
  refine okCX T.F_refusemissing T.hcM sc_refusemissing (fun vs H Q E h => ?_) (fun A outer s H vs Q E hr h => ?_)
  · obtain ⟨p, xs, m, rfl, _⟩ := h
    rfl
  · obtain ⟨p, xs, m, rfl, hp, hi, tbs, q⟩ := h
    have tg : GxR.TabG H T.PM := tbs.g T.mM
    refine ⟨_, (pss_one (ps_if (pt_not (pt_val (pe_allG (own := [("number", 2)]) hr rfl sc_refusemissing.nd (by rfl) T.m_all (by decide +kernel) TB rfl (blkOk_by (own := [("number", 2)]) (N := ["numbers", "many", "number"]) (sc := defScope s_refusemissing) (by decide +kernel)) (by rfl) (by decide +kernel) (by rfl) (pi_list (pv 0)) (fun _ _ _ _ _ _ _ => (pg_name (i := 2) sc_refusemissing.nd rfl (.inl rfl) (hf := Or.inr rfl))) (fun _ _ _ _ _ _ _ hr' => (pe_chain op_le op_lt pe_int (pv 2) (pv 1)))))) (pss_one (ps_raise rfl (takes_of rfl rfl rfl rfl) (pmk_own0 T.x_NoPoint T.v_NoPoint T.k_NoPoint (raises_own T.sb_NoPoint T.ty_NoPoint) (by rfl)))) pss_nil)), ?_⟩
    refine ⟨_, rfl, p, rfl, ⟨_, SqL.of hp⟩, tg, fun H2 tb => ?_⟩
    refine gturns_list (xs := xs) (fun i H' => Kp H H' ∧ Tb T.tbs H' ∧ H' p = some (.lst xs) ∧ ∀ v ∈ xs.take i, inR m v = true) ⟨Kp.of_tab tg tb, tbs.tab T.nd T.mM (But.of_tab tb) tb.1, Kp.of_tab tg tb _ _ hp (by intro ps z; cases z), fun v z => nomatch z⟩ (fun i H' h => SqL.of h.2.2.1) (fun i x H' N hx h k => ?_) (fun H' h => ?_)
    · obtain ⟨k1, tb1, hp1, hall⟩ := h
      obtain ⟨j, rfl⟩ := hi x (List.mem_of_getElem? hx)
      have no : inR m (.int j) = false → allIn m xs = false := fun hj => by
        unfold allIn
        exact List.all_eq_false.mpr ⟨_, List.mem_of_getElem? hx, Bool.eq_false_iff.mp hj⟩
      have nx : inR m (.int j) = true → N H' := fun hj => by
        refine k H' ⟨k1, tb1, hp1, fun v hv => ?_⟩
        rw [take_at hx] at hv
        rcases List.mem_append.mp hv with h | h
        · exact hall v h
        · rw [List.mem_singleton.mp h]
          exact hj
      have fin : inR m (.int j) = false → E (.ref T.c_NoPoint) none H' := fun hj => by
        have q1 := q H' k1 tb1
        rw [no hj, if_neg Bool.false_ne_true] at q1
        exact q1
      refine ⟨rfl, _, rfl, _, _, rfl, rfl, _, rfl, ?_⟩
      refine ite2 (fun e0 => ?_) (fun e0 => ?_)
      · refine ⟨_, rfl, _, _, rfl, rfl, _, rfl, ?_⟩
        have e0 := of_decide_eq_true e0
        by_cases e1 : j < m
        · rw [decide_eq_true e1]
          refine iteT ?_
          exact nx (by show (decide (0 ≤ j) && decide (j < m)) = true; rw [decide_eq_true e0, decide_eq_true e1]; rfl)
        · rw [decide_eq_false e1]
          refine iteF ?_
          exact ⟨_, rfl, iteT (fin (by show (decide (0 ≤ j) && decide (j < m)) = false; rw [decide_eq_false e1, Bool.and_false]))⟩
      · refine ⟨_, rfl, iteF ?_⟩
        have e0 : ¬ 0 ≤ j := fun z => e0 (decide_eq_true z)
        exact ⟨_, rfl, iteT (fin (by show (decide (0 ≤ j) && decide (j < m)) = false; rw [decide_eq_false e0, Bool.false_and]))⟩
    · obtain ⟨k1, tb1, hp1, hall⟩ := h
      have z : allIn m xs = true := by
        unfold allIn
        rw [List.take_of_length_le (Nat.le_refl _)] at hall
        exact List.all_eq_true.mpr hall
      have q1 := q H' k1 tb1
      rw [z, if_pos rfl] at q1
      exact ⟨_, rfl, iteF q1⟩
def spRefuse (T : Top w K mg) : Sp := fun vs H Q E => ∃ (v : V) (m : Int) (b r : Bool), vs = [v, .int m] ∧ Tb T.tbs H ∧ ThingV H v b ∧ (b = true → RowIn H v m r) ∧ ∀ H', Kp H H' → Tb T.tbs H' →
  if b = true then (if r = true then Q .non H' else E (.ref T.c_NoPoint) none H') else E (.ref T.c_NoRow) none H'
theorem ok_refuse (T : Top w K mg) (TBs : TBs T base) : FnOk P w K mg base (L2.CX P w) 5 T.a_refuseunfit T.d_refuseunfit ["row", "many"] (spRefuse T) := by
  have G_isrow : FnOk P w K mg base CX0 4 _ _ _ _ := ok_isrow T TBs
  have G_pointsnamed : FnOk P w K mg base CX0 1 _ _ _ _ := ok_named T
  have G_refusemissing : FnOk P w K mg base (L2.CX P w) 2 _ _ _ _ := ok_missing T TBs
  refine T.F_refuseunfit.okX sc_refuseunfit (fun vs H Q E h => ?_) (fun cdv A outer s H vs Q E hr h => ?_)
  · obtain ⟨v, m, b, r, rfl, _⟩ := h
    rfl
  · obtain ⟨v, m, b, r, rfl, tg, th, hin, q⟩ := h
    refine ⟨_, (pss_cons (ps_if (pt_not (pt_val (pe_call G_isrow hr (by rfl) T.g_isrow T.F_isrow.kp T.b_isrow .nil pass0 (pa_cons (pv 0) pa_nil)))) (pss_one (ps_raise rfl (takes_of rfl rfl rfl rfl) (pmk_own0 T.x_NoRow T.v_NoRow T.k_NoRow (raises_own T.sb_NoRow T.ty_NoRow) (by rfl)))) pss_nil)
      (pss_one (ps_expr (pe_callS G_refusemissing (hr.mono (by decide)) (by rfl) T.g_refusemissing T.F_refusemissing.kp T.b_refusemissing (fun σ => passAt (takes_of rfl rfl rfl rfl) σ) (pa_cons (pe_call G_pointsnamed (hr.mono (by decide)) (by rfl) T.g_pointsnamed T.F_pointsnamed.kp T.b_pointsnamed .nil pass0 (pa_cons (pv 0) pa_nil)) (pa_cons (pv 1) pa_nil)))))), ?_⟩
    refine ⟨_, rfl, v, b, rfl, tg, th, fun H1 k1 tg1 => ⟨b, rfl, ?_⟩⟩
    have q1 := q H1 k1 tg1
    cases b with
    | false => exact iteT (show E _ _ _ from by rw [if_neg Bool.false_ne_true] at q1; exact q1)
    | true =>
      refine iteF ?_
      rcases th with ⟨a, xs, rfl, hl, ha, hany, hb⟩ | ⟨_, hb⟩
      · obtain ⟨z, ps, sl, rfl, ef, hf⟩ := rowB_inv hb.symm
        have ha1 : H1 a = some (.tup (.str z :: ps)) := k1 _ _ ha (by intro ps z; cases z)
        have hr' := hin rfl a z sl ps rfl ha ef hf
        have hpl : ps.length ≤ 1000 := by
          rw [List.length_cons] at hl
          omega
        refine ⟨_, rfl, a, z, sl, ps, rfl, ha1, ef, fits_length hf, hpl, fun p H2 s2 np hp => ?_⟩
        refine ⟨_, rfl, p, namedV sl ps, m, rfl, hp, fun v hv => named_int hf v hv, tg1.same s2, fun H3 k3 tb3 => ?_⟩
        have q3 := q H3 ((k1.same s2).trans k3) tb3
        rw [if_pos rfl, ← hr'] at q3
        exact q3
      · exact nomatch hb
def spPlainNo (T : Top w K mg) : Sp := fun vs H Q E => ∃ (fa pa : Addr) (y : V) (pts : List V) (v : V) (b : Bool), vs = [.ref fa, v] ∧ SqT K H fa [.ref pa, y] ∧ SqT K H pa pts ∧ Tb T.tbs H ∧ ThingV H v b ∧ (b = true → RowIn H v pts.length false) ∧
  ∀ H', Kp H H' → Tb T.tbs H' → E (.ref (if b = true then T.c_NoPoint else T.c_NoRow)) none H'
theorem ok_plainno (T : Top w K mg) (TB : TBs T base) : FnOk P w K mg base (L2.CX P w) 6 T.a_plaindo T.d_plaindo ["forest", "row"] (spPlainNo T) := by
  have G_refuseunfit : FnOk P w K mg base (L2.CX P w) 5 _ _ _ _ := ok_refuse T TB
  refine T.F_plaindo.okX sc_plaindo (fun vs H Q E h => ?_) (fun cdv A outer s H vs Q E hr h => ?_)
  · obtain ⟨fa, pa, y, pts, v, b, rfl, _⟩ := h
    rfl
  · obtain ⟨fa, pa, y, pts, v, b, rfl, h1, h2, tg, th, hin, q⟩ := h
    refine ⟨_, (pss_cons (ps_expr (pe_callS G_refuseunfit hr (by rfl) T.g_refuseunfit T.F_refuseunfit.kp T.b_refuseunfit (fun σ => passAt (takes_of rfl rfl rfl rfl) σ) (pa_cons (pv 1) (pa_cons (pe_callB call_len_seq (by rfl) T.m_len PySem.boot_len (pa_cons (pe_ix ix_tup (pv 0) pe_int (fun _ _ => rfl)) pa_nil)) pa_nil))))
      (pss_cons ps_never
      (pss_cons ps_never
      (pss_one ps_never)))), ?_⟩
    refine ⟨_, rfl, _, rfl, fa, _, _, _, rfl, rfl, h1, atI_nat (j := 0) rfl, pa, _, rfl, .inr h2, v, _, b, false, rfl, tg, th, hin, fun H1 k1 tg1 => ?_⟩
    have q1 := q H1 k1 tg1
    cases b with
    | true => exact iteT (iteF q1)
    | false => exact iteF q1
end

end My
namespace My
open PySem L2
/-! ### repr of a forest -/
theorem int_shown {i : Int} (h1 : -(10 ^ 40) < i) (h2 : i < 10 ^ 40) : (PyData.int i).shown.length ≤ 41 := by
  show (Str.ofString (toString i)).length ≤ 41
  by_cases h : i < 0
  · rw [PyProof.Rows.len_text_neg h]
    have := PyProof.Rows.toString_length_le (v := 0 - i) (k := 40) (by omega) (by decide) (by omega)
    omega
  · have := PyProof.Rows.toString_length_le (v := i) (k := 40) (by omega) (by decide) h2
    omega
theorem shownAll_length : ∀ xs : List PyData, (PyData.shownAll xs).length = xs.length
  | [] => rfl
  | x :: xs => by
    show (PyData.shown x :: PyData.shownAll xs).length = _
    rw [List.length_cons, List.length_cons, shownAll_length xs]
theorem piled_le {m : Nat} : ∀ {xs : List PyData}, (∀ x ∈ xs, x.shown.length ≤ m) → piled (PyData.shownAll xs) ≤ xs.length * (m + 2)
  | [], _ => Nat.zero_le _
  | x :: xs, h => by
    have ih := piled_le (xs := xs) fun y hy => h y (List.mem_cons_of_mem _ hy)
    have h1 := h x List.mem_cons_self
    show piled (PyData.shown x :: PyData.shownAll xs) ≤ _
    rw [piled_cons, List.length_cons, Nat.succ_mul]
    omega
theorem tuple_shown {m : Nat} {xs : List PyData} (h : ∀ x ∈ xs, x.shown.length ≤ m) : (PyData.tuple xs).shown.length ≤ xs.length * (m + 2) + 4 := by
  have h1 := piled_le h
  show (tupleText (PyData.shownAll xs)).length ≤ _
  unfold tupleText
  rw [strLen_append, strLen_append]
  have h2 : (Str.join ", " (PyData.shownAll xs)).length ≤ piled (PyData.shownAll xs) := by
    cases xs with
    | nil => exact Nat.zero_le _
    | cons x r =>
      have := join_length_add (PyData.shownAll (x :: r)) (by intro z; cases z)
      omega
  have h3 : (Str.ofString (if (PyData.shownAll xs).length == 1 then ",)" else ")")).length ≤ 2 := by
    split <;> decide
  have h4 : (("(" : String) : Str).length = 1 := rfl
  omega
theorem kinds_shown : ∀ k ∈ kinds, (PyData.str k).shown.length ≤ 12 := by
  show ∀ k ∈ kinds, (reprText k).length ≤ 12
  decide +kernel
theorem two_all {α : Type} (p : α → Prop) {a b : α} (ha : p a) (hb : p b) : ∀ x ∈ [a, b], p x := fun x m => by
  rcases List.mem_cons.mp m with rfl | m
  · exact ha
  · rw [List.mem_singleton.mp m]
    exact hb
theorem point_shown {p : Int × Str} (h : PtOk p) : (pdata p).shown.length ≤ 90 := by
  have h1 : (PyData.int p.1).shown.length ≤ 41 := int_shown (by have := h.1; omega) (by have := h.2.1; omega)
  have h2 := kinds_shown p.2 h.2.2
  exact tuple_shown (m := 41) (xs := [.int p.1, .str p.2]) (two_all (fun x : PyData => x.shown.length ≤ 41) h1 (Nat.le_trans h2 (by decide)))
theorem tie_shown {t : Int × Int} (h1 : 0 ≤ t.1) (h2 : t.1 < 1000) (h3 : 0 ≤ t.2) (h4 : t.2 < 1000) : (tdata t).shown.length ≤ 90 := by
  have e1 : (PyData.int t.1).shown.length ≤ 41 := int_shown (by omega) (by omega)
  have e2 : (PyData.int t.2).shown.length ≤ 41 := int_shown (by omega) (by omega)
  exact tuple_shown (m := 41) (xs := [.int t.1, .int t.2]) (two_all (fun x : PyData => x.shown.length ≤ 41) e1 e2)
theorem showAll {xs : List PyData} : (∀ x ∈ xs, x.showable = true) → PyData.showableAll xs = true := by
  induction xs with
  | nil => intro _; rfl
  | cons x r ih =>
    intro h
    show (PyData.showable x && PyData.showableAll r) = true
    rw [h x List.mem_cons_self, ih fun y hy => h y (List.mem_cons_of_mem _ hy)]
    rfl
theorem nodAll {xs : List PyData} : (∀ x ∈ xs, x.hasDict = false) → PyData.hasDictAll xs = false := by
  induction xs with
  | nil => intro _; rfl
  | cons x r ih =>
    intro h
    show (PyData.hasDict x || PyData.hasDictAll r) = false
    rw [h x List.mem_cons_self, ih fun y hy => h y (List.mem_cons_of_mem _ hy)]
    rfl
theorem depAll {m : Nat} {xs : List PyData} : (∀ x ∈ xs, x.depth ≤ m) → PyData.depthAll xs ≤ m := by
  induction xs with
  | nil => intro _; exact Nat.zero_le _
  | cons x r ih =>
    intro h
    show max (PyData.depth x) (PyData.depthAll r) ≤ m
    have h1 := h x List.mem_cons_self
    have h2 := ih fun y hy => h y (List.mem_cons_of_mem _ hy)
    omega
theorem show_int {i : Int} (h1 : -(2 ^ 100) < i) (h2 : i < 2 ^ 100) : (PyData.int i).showable = true := by
  show decide (i.natAbs.log2 < 1920) = true
  refine decide_eq_true ?_
  by_cases z : i.natAbs = 0
  · rw [z]
    decide
  · rw [Nat.log2_lt z]
    exact Nat.lt_of_lt_of_le (show i.natAbs < 2 ^ 100 by omega) (Nat.pow_le_pow_right (by decide) (by decide))
theorem show_pt {p : Int × Str} (h : PtOk p) : (pdata p).showable = true := by
  refine showAll (xs := [.int p.1, .str p.2]) (two_all (fun x => PyData.showable x = true) (show_int (by have := h.1; omega) (by have := h.2.1; omega)) rfl)
theorem show_tie {t : Int × Int} (h1 : 0 ≤ t.1) (h2 : t.1 < 1000) (h3 : 0 ≤ t.2) (h4 : t.2 < 1000) : (tdata t).showable = true := by
  refine showAll (xs := [.int t.1, .int t.2]) (two_all (fun x => PyData.showable x = true) (show_int (by omega) (by omega)) (show_int (by omega) (by omega)))
structure Shows (d : PyData) : Prop where
  sh : d.showable = true
  nd : d.hasDict = false
  dp : d.depth ≤ 50
  ln : d.shown.length ≤ sizeLine
theorem forest_shows {pts : List (Int × Str)} {ts : List (Int × Int)} (fok : FrOk pts ts) : Shows (fdata pts ts) := by
  have tb : ∀ t ∈ ts, 0 ≤ t.1 ∧ t.1 < 1000 ∧ 0 ≤ t.2 ∧ t.2 < 1000 := fun t m => by
    have h := fok.tok t m
    have := fok.few
    omega
  refine ⟨?_, ?_, ?_, ?_⟩
  · refine showAll (xs := [.tuple (pts.map pdata), .tuple (ts.map tdata)]) (two_all (fun x => PyData.showable x = true) ?_ ?_)
    · refine showAll fun x hx => ?_
      obtain ⟨p, hp, rfl⟩ := List.mem_map.mp hx
      exact show_pt (fok.pok p hp)
    · refine showAll fun x hx => ?_
      obtain ⟨t, ht, rfl⟩ := List.mem_map.mp hx
      obtain ⟨h1, h2, h3, h4⟩ := tb t ht
      exact show_tie h1 h2 h3 h4
  · refine nodAll (xs := [.tuple (pts.map pdata), .tuple (ts.map tdata)]) (two_all (fun x => PyData.hasDict x = false) ?_ ?_)
    · refine nodAll fun x hx => ?_
      obtain ⟨p, hp, rfl⟩ := List.mem_map.mp hx
      rfl
    · refine nodAll fun x hx => ?_
      obtain ⟨t, ht, rfl⟩ := List.mem_map.mp hx
      rfl
  · have d1 : PyData.depthAll (pts.map pdata) ≤ 1 := depAll fun x hx => by
      obtain ⟨p, hp, rfl⟩ := List.mem_map.mp hx
      exact Nat.le_refl _
    have d2 : PyData.depthAll (ts.map tdata) ≤ 1 := depAll fun x hx => by
      obtain ⟨t, ht, rfl⟩ := List.mem_map.mp hx
      exact Nat.le_refl _
    show PyData.depthAll [.tuple (pts.map pdata), .tuple (ts.map tdata)] + 1 ≤ 50
    have d3 : PyData.depthAll [.tuple (pts.map pdata), .tuple (ts.map tdata)] ≤ 2 := depAll (two_all (fun x => PyData.depth x ≤ 2) (show PyData.depth (.tuple (pts.map pdata)) ≤ 2 from (show PyData.depthAll (pts.map pdata) + 1 ≤ 2 by omega)) (show PyData.depth (.tuple (ts.map tdata)) ≤ 2 from (show PyData.depthAll (ts.map tdata) + 1 ≤ 2 by omega)))
    omega
  · have l1 : (PyData.tuple (pts.map pdata)).shown.length ≤ (pts.map pdata).length * (90 + 2) + 4 := tuple_shown fun x hx => by
      obtain ⟨p, hp, rfl⟩ := List.mem_map.mp hx
      exact point_shown (fok.pok p hp)
    have l2 : (PyData.tuple (ts.map tdata)).shown.length ≤ (ts.map tdata).length * (90 + 2) + 4 := tuple_shown fun x hx => by
      obtain ⟨t, ht, rfl⟩ := List.mem_map.mp hx
      obtain ⟨h1, h2, h3, h4⟩ := tb t ht
      exact tie_shown h1 h2 h3 h4
    rw [List.length_map] at l1 l2
    have f1 := fok.few
    have f2 := fok.tl
    have l3 : (fdata pts ts).shown.length ≤ 2 * (10000 + 2) + 4 := tuple_shown (m := 10000) (xs := [.tuple (pts.map pdata), .tuple (ts.map tdata)]) (two_all (fun x : PyData => x.shown.length ≤ 10000) (by omega) (by omega))
    exact sz (by omega)

end My
namespace My
open PySem L2
/-! ### things -/
mutual
/-- data that stands in the heap, nothing of it at b -/
inductive Dq (b : Addr) (H : Hp) : V → PyData → Prop
  | non : Dq b H .non .none
  | bl (x : Bool) : Dq b H (.bl x) (.bool x)
  | int (i : Int) : Dq b H (.int i) (.int i)
  | str (x : Str) : Dq b H (.str x) (.str x)
  | lst {a : Addr} {xs : List V} {ds : List PyData} : a ≠ b → H a = some (.lst xs) → DqAll b H xs ds → Dq b H (.ref a) (.list ds)
  | tup {a : Addr} {xs : List V} {ds : List PyData} : a ≠ b → H a = some (.tup xs) → DqAll b H xs ds → Dq b H (.ref a) (.tuple ds)
inductive DqAll (b : Addr) (H : Hp) : List V → List PyData → Prop
  | nil : DqAll b H [] []
  | cons {v : V} {vs : List V} {d : PyData} {ds : List PyData} : Dq b H v d → DqAll b H vs ds → DqAll b H (v :: vs) (d :: ds)
end
/-- all but b and tables of code stays -/
def KpB (b : Addr) (H H' : Hp) : Prop := ∀ a o, a ≠ b → H a = some o → (∀ ps, o ≠ .tbl ps) → H' a = some o
theorem KpB.of_same {b : Addr} {H H' : Hp} (s : Same H H') : KpB b H H' := fun a o _ e _ => s a o e
theorem KpB.of_but {b : Addr} {H H' : Hp} (s : But b H H') : KpB b H H' := fun a o n e _ => s a o e n
theorem KpB.of_kp {b : Addr} {H H' : Hp} (s : Kp H H') : KpB b H H' := fun a o _ e n => s a o e n
mutual
theorem Dq.mono {b : Addr} {H H' : Hp} (t : KpB b H H') : ∀ {v : V} {d : PyData}, Dq b H v d → Dq b H' v d
  | _, _, .non => .non
  | _, _, .bl b => .bl b
  | _, _, .int i => .int i
  | _, _, .str x => .str x
  | _, _, .lst n h k => .lst n (t _ _ n h (by intro ps z; cases z)) (DqAll.mono t k)
  | _, _, .tup n h k => .tup n (t _ _ n h (by intro ps z; cases z)) (DqAll.mono t k)
theorem DqAll.mono {b : Addr} {H H' : Hp} (t : KpB b H H') : ∀ {vs : List V} {ds : List PyData}, DqAll b H vs ds → DqAll b H' vs ds
  | _, _, .nil => .nil
  | _, _, .cons h k => .cons (Dq.mono t h) (DqAll.mono t k)
end
mutual
theorem Dq.dp {K : PySem.W.Frag} {b : Addr} {H : Hp} : ∀ {v : V} {d : PyData}, Dq b H v d → Dp K H v d
  | _, _, .non => .non
  | _, _, .bl b => .bl b
  | _, _, .int i => .int i
  | _, _, .str x => .str x
  | _, _, .lst _ h k => .lst (SqL.of h) (DqAll.dp k)
  | _, _, .tup _ h k => .tup (SqT.of h) (DqAll.dp k)
theorem DqAll.dp {K : PySem.W.Frag} {b : Addr} {H : Hp} : ∀ {vs : List V} {ds : List PyData}, DqAll b H vs ds → DpAll K H vs ds
  | _, _, .nil => .nil
  | _, _, .cons h k => .cons (Dq.dp h) (DqAll.dp k)
end
theorem Dq.any {b : Addr} {H : Hp} {v : V} {d : PyData} (h : Dq b H v d) : AnyV H v := by
  cases h with
  | non => exact .non
  | bl x => exact .bl x
  | int i => exact .int i
  | str x => exact .str x
  | lst n h k => exact .lst h
  | tup n h k => exact .tup h
theorem DqAll.any {b : Addr} {H : Hp} : ∀ {vs : List V} {ds : List PyData}, DqAll b H vs ds → ∀ x ∈ vs, AnyV H x
  | _, _, .nil, x, m => nomatch m
  | _, _, .cons h k, x, m => by
    rcases List.mem_cons.mp m with rfl | m
    · exact h.any
    · exact DqAll.any k x m
theorem ThingV.kp {H H' : Hp} (k : Kp H H') {v : V} {b : Bool} (h : ThingV H v b) : ThingV H' v b := by
  rcases h with ⟨a, xs, e, hl, ha, hany, hb⟩ | ⟨nt, hb⟩
  · exact .inl ⟨a, xs, e, hl, k _ _ ha (by intro ps z; cases z), fun x m => (hany x m).kp k, hb⟩
  · exact .inr ⟨nt.kp k, hb⟩
def tieV : List V := [.str "tie", .int 0, .int 1]
def tieD : List PyData := [.str "tie", .int 0, .int 1]
/-- a thing that is no row, or the row ('tie', 0, 1) -/
inductive Gd (b : Addr) (H : Hp) : V → Prop
  | con {v : V} {d : PyData} (h : Dq b H v d) (n : ∀ a, v ≠ .ref a) (s : SeqAt.shaped d = true) : Gd b H v
  | lst {a : Addr} {xs : List V} {ds : List PyData} (n : a ≠ b) (h : H a = some (.lst xs)) (k : DqAll b H xs ds) (s : SeqAt.shaped (.list ds) = true) : Gd b H (.ref a)
  | tup {a : Addr} {xs : List V} {ds : List PyData} (n : a ≠ b) (h : H a = some (.tup xs)) (k : DqAll b H xs ds) (s : SeqAt.shaped (.tuple ds) = true) (l : xs.length ≤ 1000) (r : rowB xs = false ∨ ds = tieD) : Gd b H (.ref a)
  | dct {a : Addr} {kvs : List (Key × V)} (n : a ≠ b) (h : H a = some (.dK kvs)) : Gd b H (.ref a)
theorem Gd.mono {b : Addr} {H H' : Hp} (t : KpB b H H') {v : V} (g : Gd b H v) : Gd b H' v := by
  cases g with
  | con h n s => exact .con (h.mono t) n s
  | lst n h k s => exact .lst n (t _ _ n h (by intro ps z; cases z)) (k.mono t) s
  | tup n h k s l r => exact .tup n (t _ _ n h (by intro ps z; cases z)) (k.mono t) s l r
  | dct n h => exact .dct n (t _ _ n h (by intro ps z; cases z))
theorem Gd.eq {K : PySem.W.Frag} {b t : Addr} {H : Hp} {v : V} {Q : VK} (g : Gd b H v) (ht : SqT K H t tieV) (q : ∀ bb : Bool, (bb = false → ThingV H v false) → Q (.bl bb) H) : rEqX K v (.ref t) H Q := by
  have e : Dp K H (.ref t) (.tuple tieD) := .tup ht (.cons (.str _) (.cons (.int 0) (.cons (.int 1) .nil)))
  have se : SeqAt.shaped (.tuple tieD) = true := by decide +kernel
  cases g with
  | con h n s =>
    refine .inl ⟨_, _, h.dp, e, s, se, q _ fun _ => .inr ⟨?_, rfl⟩⟩
    cases h with
    | non => exact .non
    | bl x => exact .bl x
    | int i => exact .int i
    | str x => exact .str x
    | lst _ _ _ => exact absurd rfl (n _)
    | tup _ _ _ => exact absurd rfl (n _)
  | lst n h k s => exact .inl ⟨_, _, (Dq.lst n h k).dp, e, s, se, q _ fun _ => .inr ⟨.lst h, rfl⟩⟩
  | tup n h k s l r =>
    refine .inl ⟨_, _, (Dq.tup n h k).dp, e, s, se, q _ fun z => ?_⟩
    rcases r with r | r
    · exact .inl ⟨_, _, rfl, l, h, k.any, r.symm⟩
    · subst r
      have y : PyData.eqv (.tuple tieD) (.tuple tieD) = true := by decide +kernel
      rw [y] at z
      exact nomatch z
  | dct n h => exact .inr ⟨_, _, _, _, rfl, rfl, h, ht, q _ fun _ => .inr ⟨.dK h, rfl⟩⟩
theorem Gd.non {b : Addr} {H : Hp} : Gd b H .non := .con .non (fun a z => by cases z) rfl
theorem Gd.bl {b : Addr} {H : Hp} (x : Bool) : Gd b H (.bl x) := .con (.bl x) (fun a z => by cases z) rfl
theorem Gd.int {b : Addr} {H : Hp} (x : Int) : Gd b H (.int x) := .con (.int x) (fun a z => by cases z) rfl
theorem Gd.str {b : Addr} {H : Hp} (x : Str) (h : SeqAt.shaped (.str x) = true) : Gd b H (.str x) := .con (.str x) (fun a z => by cases z) h
theorem sameNone {H H' : Hp} {d : Addr} (s : Same H H') (n : H' d = none) : H d = none := by
  cases e : H d with
  | none => rfl
  | some o =>
    rw [s _ _ e] at n
    cases n
/-- a stage of the making -/
structure Stg (b L : Addr) (H0 H : Hp) (vs : List V) : Prop where
  s : Same H0 H
  B : BoxAt H b L
  g : ∀ v ∈ vs, Gd b H v
section
variable {b L p : Addr} {H0 H : Hp} {vs xs : List V} {ds : List PyData}
theorem Stg.skip (S : Stg b L H0 H vs) {o : HO} (np : H p = none) : Stg b L H0 (upd H p o) vs :=
  ⟨S.s.trans (same_new np), S.B.new np, fun v m => (S.g v m).mono (.of_same (same_new np))⟩
theorem Stg.more (S : Stg b L H0 H vs) {v : V} (g : Gd b H v) : Stg b L H0 H (v :: vs) := ⟨S.s, S.B, fun u m => by
  rcases List.mem_cons.mp m with rfl | m
  · exact g
  · exact S.g u m⟩
theorem Stg.tup (S : Stg b L H0 H vs) (np : H p = none) (k : DqAll b H xs ds) (s : SeqAt.shaped (.tuple ds) = true) (l : xs.length ≤ 1000) (r : rowB xs = false) : Stg b L H0 (upd H p (.tup xs)) (.ref p :: vs) :=
  (S.skip np).more (.tup (S.B.ne np) upd_same (k.mono (.of_same (same_new np))) s l (.inl r))
theorem Stg.lst (S : Stg b L H0 H vs) (np : H p = none) (k : DqAll b H xs ds) (s : SeqAt.shaped (.list ds) = true) : Stg b L H0 (upd H p (.lst xs)) (.ref p :: vs) :=
  (S.skip np).more (.lst (S.B.ne np) upd_same (k.mono (.of_same (same_new np))) s)
theorem Stg.dct (S : Stg b L H0 H vs) {kvs : List (Key × V)} (np : H p = none) : Stg b L H0 (upd H p (.dK kvs)) (.ref p :: vs) :=
  (S.skip np).more (.dct (S.B.ne np) upd_same)
/-- the new list, and what it holds -/
structure Made (b L l : Addr) (H0 H : Hp) (n : Nat) : Prop where
  s : Same H0 H
  B : BoxAt H b L
  nl : H0 l = none
  ex : ∃ xs, H l = some (.lst xs) ∧ xs.length = n ∧ ∀ v ∈ xs, Gd b H v
theorem Stg.made (S : Stg b L H0 H vs) {l : Addr} (nl : H l = none) (hx : ∀ v ∈ xs, Gd b H v) : Made b L l H0 (upd H l (.lst xs)) xs.length :=
  ⟨S.s.trans (same_new nl), S.B.new nl, sameNone S.s nl, xs, upd_same, rfl, fun v m => (hx v m).mono (.of_same (same_new nl))⟩
theorem appended (S : Stg b L H0 H vs) {l p : Addr} {ts : List V} (nl : H l = none) (np : upd H l (.lst xs) p = none) (hx : ∀ v ∈ xs, Gd b H v) (k : DqAll b H ts ds) (s : SeqAt.shaped (.tuple ds) = true) (hl : ts.length ≤ 1000) (r : rowB ts = false) :
    Made b L l H0 (upd (upd (upd H l (.lst xs)) p (.tup ts)) l (.lst (xs ++ [.ref p]))) (xs.length + 1) := by
  have s1 : Same H (upd (upd (upd H l (.lst xs)) p (.tup ts)) l (.lst (xs ++ [.ref p]))) := fun a o e => by
    rw [upd_ne (ne_of_none e nl)]
    exact (same_new np) _ _ ((same_new nl) _ _ e)
  have npl : p ≠ l := fun z => by
    rw [z, upd_same] at np
    cases np
  refine ⟨S.s.trans s1, S.B.same s1, sameNone S.s nl, _, upd_same, by rw [List.length_append]; rfl, fun v m => ?_⟩
  rcases List.mem_append.mp m with m | m
  · exact (hx v m).mono (.of_same s1)
  · rw [List.mem_singleton.mp m]
    refine .tup (S.B.ne (sameNone (same_new nl) np)) ?_ (k.mono (.of_same s1)) s hl (.inl r)
    rw [upd_ne npl]
    exact upd_same
theorem joined {G : Hp} {l m l' : Addr} {ys us : List V} {n : Nat} (S : Stg b L G H us) (s0 : Same H0 G) (gl : G l = some (.lst xs)) (gx : ∀ v ∈ xs, Gd b G v) (hn : xs.length = n) (nm : H m = none) (nl : upd H m (.lst ys) l' = none) (hy : ∀ v ∈ ys, Gd b H v) :
    Made b L l' H0 (upd (upd H m (.lst ys)) l' (.lst (xs ++ ys))) (n + ys.length) := by
  have s1 : Same H (upd (upd H m (.lst ys)) l' (.lst (xs ++ ys))) := (same_new nm).trans (same_new nl)
  refine ⟨s0.trans (S.s.trans s1), S.B.same s1, sameNone (s0.trans (S.s.trans (same_new nm))) nl, _, upd_same, by rw [List.length_append, hn], fun v m => ?_⟩
  rcases List.mem_append.mp m with m | m
  · exact (gx v m).mono (.of_same (S.s.trans s1))
  · exact (hy v m).mono (.of_same s1)
end

/-! ### _law_things -/
section
variable {P : Program} {w : World} {K : PySem.W.Frag} {mg : Str → Option Value} {base : Heap}
theorem no_part {σ : L2.St} {H : Hp} {Q : Option Int → Hp → Prop} (h : Q none H) : tNoPart σ H Q := h
theorem cut_memL {xs : List V} {lo hi : Option Int} {x : V} (h : x ∈ cutV xs lo hi) : x ∈ xs := by
  unfold cutV at h
  exact List.mem_of_mem_drop (List.mem_of_mem_take h)
def spThings : Sp := fun vs H Q _ => ∃ (b L : Addr), vs = [.ref b] ∧ BoxAt H b L ∧ ∀ (l : Addr) (xs : List V) (H' : Hp), BoxAt H' b L → But b H H' → l ≠ b → H' l = some (.lst xs) → xs.length ≤ 100 → (∀ v ∈ xs, Gd b H' v) → Q (.ref l) H'
theorem ok_things (T : Top w K mg) : FnOk P w K mg base CX0 2 T.a_Lthings T.d_Lthings ["_law_box_here"] spThings := by
  have G_Lnext : FnOk P w K mg base CX0 1 _ _ _ _ := ok_next T
  refine T.F_Lthings.ok sc_Lthings (fun vs H Q E h => ?_) (fun cdv A outer s H vs Q E hr h => ?_)
  · obtain ⟨b, L, rfl, _⟩ := h
    rfl
  · obtain ⟨b, L, rfl, B, q⟩ := h
    refine ⟨_, (pss_cons (ps_set (i := 1) sc_Lthings.nd rfl (.inl rfl) (pe_lst (pa_cons pe_non (pa_cons pe_bl (pa_cons pe_int (pa_cons (pe_un un_neg pe_int) (pa_cons pe_int (pa_cons pe_str (pa_cons pe_str (pa_cons pe_str (pa_cons (pe_tup pa_nil) (pa_cons (pe_lst pa_nil) (pa_cons pe_dnewK (pa_cons (pe_tup (pa_cons pe_str pa_nil)) (pa_cons (pe_lst (pa_cons pe_str (pa_cons pe_int (pa_cons pe_int pa_nil)))) (pa_cons (pe_tup (pa_cons pe_str (pa_cons pe_int pa_nil))) pa_nil))))))))))))))))
      (pss_cons (ps_expr (pe_bm PySem.F.plainAttrs_list PySem.F.slot_list_append PySem.F.type_list_append mt_append (pv 1) (pa_cons (pe_tup (pa_cons pe_str (pa_cons pe_int (pa_cons pe_int (pa_cons pe_int pa_nil))))) pa_nil)))
      (pss_cons (ps_set (i := 1) sc_Lthings.nd rfl (.inl rfl) (pe_op op_cat (pv 1) (pe_lst (pa_cons (pe_tup (pa_cons pe_str (pa_cons pe_int (pa_cons pe_non pa_nil)))) (pa_cons (pe_tup (pa_cons pe_str (pa_cons pe_int (pa_cons pe_non pa_nil)))) (pa_cons (pe_tup (pa_cons pe_str (pa_cons pe_int (pa_cons pe_bl pa_nil)))) (pa_cons (pe_tup (pa_cons pe_str (pa_cons pe_str (pa_cons pe_int pa_nil)))) (pa_cons (pe_tup (pa_cons pe_str (pa_cons pe_int (pa_cons pe_str pa_nil)))) pa_nil))))))))
      (pss_cons (ps_set (i := 1) sc_Lthings.nd rfl (.inl rfl) (pe_op op_cat (pv 1) (pe_lst (pa_cons (pe_tup (pa_cons pe_str (pa_cons pe_int (pa_cons pe_str pa_nil)))) (pa_cons (pe_tup (pa_cons pe_str (pa_cons pe_int (pa_cons pe_str pa_nil)))) (pa_cons (pe_tup (pa_cons pe_str (pa_cons pe_int (pa_cons pe_str pa_nil)))) (pa_cons (pe_tup (pa_cons pe_str (pa_cons pe_str (pa_cons pe_str pa_nil)))) (pa_cons (pe_tup (pa_cons pe_str (pa_cons pe_non (pa_cons pe_str pa_nil)))) pa_nil))))))))
      (pss_cons (ps_set (i := 1) sc_Lthings.nd rfl (.inl rfl) (pe_op op_cat (pv 1) (pe_lst (pa_cons (pe_tup (pa_cons pe_str (pa_cons pe_int (pa_cons pe_int (pa_cons (pe_un un_neg pe_int) pa_nil))))) (pa_cons (pe_tup (pa_cons pe_str (pa_cons pe_int (pa_cons pe_int (pa_cons pe_non pa_nil))))) (pa_cons (pe_tup (pa_cons pe_str (pa_cons pe_int (pa_cons pe_int pa_nil)))) (pa_cons (pe_tup (pa_cons pe_str (pa_cons pe_int (pa_cons pe_int pa_nil)))) (pa_cons (pe_tup (pa_cons pe_str (pa_cons pe_int (pa_cons pe_int (pa_cons pe_non pa_nil))))) pa_nil))))))))
      (pss_cons (ps_set (i := 1) sc_Lthings.nd rfl (.inl rfl) (pe_op op_cat (pv 1) (pe_lst (pa_cons (pe_tup (pa_cons pe_str (pa_cons pe_non (pa_cons pe_int (pa_cons pe_int pa_nil))))) (pa_cons (pe_tup (pa_cons pe_str (pa_cons pe_int (pa_cons pe_non pa_nil)))) (pa_cons (pe_tup (pa_cons pe_str (pa_cons pe_non (pa_cons pe_non pa_nil)))) (pa_cons (pe_tup (pa_cons pe_str (pa_cons pe_int pa_nil))) (pa_cons (pe_tup (pa_cons pe_str (pa_cons pe_int pa_nil))) pa_nil))))))))
      (pss_cons (ps_set (i := 1) sc_Lthings.nd rfl (.inl rfl) (pe_op op_cat (pv 1) (pe_lst (pa_cons (pe_tup (pa_cons pe_str (pa_cons pe_int (pa_cons pe_int pa_nil)))) (pa_cons (pe_tup (pa_cons pe_str pa_nil)) (pa_cons (pe_tup (pa_cons (pe_tup (pa_cons pe_str (pa_cons pe_int (pa_cons pe_int pa_nil)))) pa_nil)) (pa_cons (pe_tup (pa_cons pe_str (pa_cons pe_int (pa_cons pe_int (pa_cons pe_non pa_nil))))) (pa_cons (pe_tup (pa_cons pe_int (pa_cons pe_int (pa_cons pe_int pa_nil)))) (pa_cons (pe_tup (pa_cons pe_non (pa_cons pe_int pa_nil))) pa_nil)))))))))
      (pss_cons (ps_set (i := 1) sc_Lthings.nd rfl (.inl rfl) (pe_op op_cat (pv 1) (pe_lst (pa_cons (pe_disp (pps_cons pe_str pe_int pps_nil) (by rfl) (by rfl) (fun z => by cases z) (by decide)) (pa_cons (pe_tup (pa_cons pe_str (pa_cons pe_int (pa_cons pe_int pa_nil)))) (pa_cons (pe_tup (pa_cons pe_str (pa_cons pe_int (pa_cons pe_str pa_nil)))) (pa_cons (pe_tup (pa_cons pe_str (pa_cons pe_int (pa_cons pe_int (pa_cons pe_str pa_nil))))) (pa_cons (pe_lst (pa_cons (pe_tup (pa_cons pe_str (pa_cons pe_int (pa_cons pe_int pa_nil)))) pa_nil)) pa_nil))))))))
      (pss_cons (ps_set (i := 1) sc_Lthings.nd rfl (.inl rfl) (pe_op op_cat (pv 1) (pe_lst (pa_cons (pe_tup (pa_cons pe_str (pa_cons pe_int (pa_cons pe_int pa_nil)))) (pa_cons (pe_tup (pa_cons pe_str (pa_cons pe_int (pa_cons pe_non (pa_cons pe_int pa_nil))))) (pa_cons (pe_tup (pa_cons pe_str (pa_cons pe_int pa_nil))) pa_nil))))))
      (pss_cons (ps_set (i := 2) sc_Lthings.nd rfl (.inl rfl) (pe_call G_Lnext hr (by rfl) T.g_Lnext T.F_Lnext.kp T.b_Lnext .nil pass0 (pa_cons (pv 0) pa_nil)))
      (pss_one (ps_ret (pe_op op_cat (pe_slice sl_list (pv 1) (po_some (pe_op op_mod (pv 2) pe_int)) po_none) (pe_slice sl_list (pv 1) po_none (po_some (pe_op op_mod (pv 2) pe_int)))))))))))))))), ?_⟩
    have S0 : Stg b L H H [] := ⟨fun _ _ e => e, B, fun v m => nomatch m⟩
    refine ⟨_, rfl, ?_⟩
    refine ⟨(by show 0 ≤ sizeLine; decide), fun p1 n1 => ?_⟩
    have S1 := S0.tup (xs := []) n1 (.nil) (by decide +kernel) (by decide) (by decide +kernel)
    generalize upd H p1 (.tup []) = H1 at S1 ⊢
    refine ⟨(by show 0 ≤ sizeLine; decide), fun p2 n2 => ?_⟩
    have S2 := S1.lst (xs := []) n2 (.nil) (by decide +kernel)
    generalize upd H1 p2 (.lst []) = H2 at S2 ⊢
    refine fun p3 n3 => ?_
    have S3 := S2.dct (kvs := []) n3
    generalize upd H2 p3 (.dK []) = H3 at S3 ⊢
    refine ⟨(by show 1 ≤ sizeLine; decide), fun p4 n4 => ?_⟩
    have S4 := S3.tup (xs := [.str "tie"]) n4 (.cons (.str "tie") (.nil)) (by decide +kernel) (by decide) (by decide +kernel)
    generalize upd H3 p4 (.tup [.str "tie"]) = H4 at S4 ⊢
    refine ⟨(by show 3 ≤ sizeLine; decide), fun p5 n5 => ?_⟩
    have S5 := S4.lst (xs := [.str "tie", .int 0, .int 1]) n5 (.cons (.str "tie") (.cons (.int 0) (.cons (.int 1) (.nil)))) (by decide +kernel)
    generalize upd H4 p5 (.lst [.str "tie", .int 0, .int 1]) = H5 at S5 ⊢
    refine ⟨(by show 2 ≤ sizeLine; decide), fun p6 n6 => ?_⟩
    have S6 := S5.tup (xs := [.str "tie", .int 0]) n6 (.cons (.str "tie") (.cons (.int 0) (.nil))) (by decide +kernel) (by decide) (by decide +kernel)
    generalize upd H5 p6 (.tup [.str "tie", .int 0]) = H6 at S6 ⊢
    have M0 : ∀ v ∈ ([.non, .bl true, .int 0, .int (-1), .int 7, .str "", .str "tie", .str "way", .ref p1, .ref p2, .ref p3, .ref p4, .ref p5, .ref p6] : List V), Gd b H6 v := by
      intro v m
      rcases List.mem_cons.mp m with rfl | m
      · exact Gd.non
      rcases List.mem_cons.mp m with rfl | m
      · exact (Gd.bl true)
      rcases List.mem_cons.mp m with rfl | m
      · exact (Gd.int 0)
      rcases List.mem_cons.mp m with rfl | m
      · exact (Gd.int (-1))
      rcases List.mem_cons.mp m with rfl | m
      · exact (Gd.int 7)
      rcases List.mem_cons.mp m with rfl | m
      · exact (Gd.str "" (by decide +kernel))
      rcases List.mem_cons.mp m with rfl | m
      · exact (Gd.str "tie" (by decide +kernel))
      rcases List.mem_cons.mp m with rfl | m
      · exact (Gd.str "way" (by decide +kernel))
      rcases List.mem_cons.mp m with rfl | m
      · exact S6.g _ (by simp)
      rcases List.mem_cons.mp m with rfl | m
      · exact S6.g _ (by simp)
      rcases List.mem_cons.mp m with rfl | m
      · exact S6.g _ (by simp)
      rcases List.mem_cons.mp m with rfl | m
      · exact S6.g _ (by simp)
      rcases List.mem_cons.mp m with rfl | m
      · exact S6.g _ (by simp)
      rw [List.mem_singleton.mp m]
      exact S6.g _ (by simp)
    refine ⟨(by show 14 ≤ sizeLine; decide), fun l0 nl0 => ?_⟩
    refine ⟨_, rfl, .inl ⟨rfl, _, SqL.of upd_same⟩, (by show 4 ≤ sizeLine; decide), fun p90 n90 => ?_⟩
    have np0 : p90 ≠ l0 := fun z => by rw [z, upd_same] at n90; cases n90
    have hl0 : upd (upd H6 l0 (.lst [.non, .bl true, .int 0, .int (-1), .int 7, .str "", .str "tie", .str "way", .ref p1, .ref p2, .ref p3, .ref p4, .ref p5, .ref p6])) p90 (.tup [.str "tie", .int 0, .int 1, .int 2]) l0 = some (.lst [.non, .bl true, .int 0, .int (-1), .int 7, .str "", .str "tie", .str "way", .ref p1, .ref p2, .ref p3, .ref p4, .ref p5, .ref p6]) := by
      rw [upd_ne np0.symm]; exact upd_same
    refine ⟨l0, _, _, rfl, rfl, hl0, (by show 14 < sizeLine; decide), ?_⟩
    have A0 := appended S6 nl0 n90 M0 (xs := [.non, .bl true, .int 0, .int (-1), .int 7, .str "", .str "tie", .str "way", .ref p1, .ref p2, .ref p3, .ref p4, .ref p5, .ref p6]) (ts := [.str "tie", .int 0, .int 1, .int 2]) (.cons (.str "tie") (.cons (.int 0) (.cons (.int 1) (.cons (.int 2) (.nil))))) (by decide +kernel) (by decide) (by decide +kernel)
    generalize upd (upd (upd H6 l0 (.lst [.non, .bl true, .int 0, .int (-1), .int 7, .str "", .str "tie", .str "way", .ref p1, .ref p2, .ref p3, .ref p4, .ref p5, .ref p6])) p90 (.tup [.str "tie", .int 0, .int 1, .int 2])) l0 (.lst ([.non, .bl true, .int 0, .int (-1), .int 7, .str "", .str "tie", .str "way", .ref p1, .ref p2, .ref p3, .ref p4, .ref p5, .ref p6] ++ [.ref p90])) = G0 at A0 ⊢
    -- statement 2
    obtain ⟨sA0, BA0, nlA0, xs0, hx0, hn0, gx0⟩ := A0
    refine ⟨_, rfl, ?_⟩
    have S100 : Stg b L G0 G0 [] := ⟨fun _ _ e => e, BA0, fun v m => nomatch m⟩
    refine ⟨(by show 3 ≤ sizeLine; decide), fun p101 n101 => ?_⟩
    have S101 := S100.tup (xs := [.str "cut", .int 0, .non]) n101 (.cons (.str "cut") (.cons (.int 0) (.cons .non (.nil)))) (by decide +kernel) (by decide) (by decide +kernel)
    generalize upd G0 p101 (.tup [.str "cut", .int 0, .non]) = H101 at S101 ⊢
    refine ⟨(by show 3 ≤ sizeLine; decide), fun p102 n102 => ?_⟩
    have S102 := S101.tup (xs := [.str "tie", .int 0, .non]) n102 (.cons (.str "tie") (.cons (.int 0) (.cons .non (.nil)))) (by decide +kernel) (by decide) (by decide +kernel)
    generalize upd H101 p102 (.tup [.str "tie", .int 0, .non]) = H102 at S102 ⊢
    refine ⟨(by show 3 ≤ sizeLine; decide), fun p103 n103 => ?_⟩
    have S103 := S102.tup (xs := [.str "tie", .int 0, .bl true]) n103 (.cons (.str "tie") (.cons (.int 0) (.cons (.bl true) (.nil)))) (by decide +kernel) (by decide) (by decide +kernel)
    generalize upd H102 p103 (.tup [.str "tie", .int 0, .bl true]) = H103 at S103 ⊢
    refine ⟨(by show 3 ≤ sizeLine; decide), fun p104 n104 => ?_⟩
    have S104 := S103.tup (xs := [.str "way", .str "0", .int 1]) n104 (.cons (.str "way") (.cons (.str "0") (.cons (.int 1) (.nil)))) (by decide +kernel) (by decide) (by decide +kernel)
    generalize upd H103 p104 (.tup [.str "way", .str "0", .int 1]) = H104 at S104 ⊢
    refine ⟨(by show 3 ≤ sizeLine; decide), fun p105 n105 => ?_⟩
    have S105 := S104.tup (xs := [.str "put", .int 0, .str "1"]) n105 (.cons (.str "put") (.cons (.int 0) (.cons (.str "1") (.nil)))) (by decide +kernel) (by decide) (by decide +kernel)
    generalize upd H104 p105 (.tup [.str "put", .int 0, .str "1"]) = H105 at S105 ⊢
    have M1 : ∀ v ∈ ([.ref p101, .ref p102, .ref p103, .ref p104, .ref p105] : List V), Gd b H105 v := by
      intro v m
      rcases List.mem_cons.mp m with rfl | m
      · exact S105.g _ (by simp)
      rcases List.mem_cons.mp m with rfl | m
      · exact S105.g _ (by simp)
      rcases List.mem_cons.mp m with rfl | m
      · exact S105.g _ (by simp)
      rcases List.mem_cons.mp m with rfl | m
      · exact S105.g _ (by simp)
      rw [List.mem_singleton.mp m]
      exact S105.g _ (by simp)
    refine ⟨(by show 5 ≤ sizeLine; decide), fun m0 nm0 => ?_⟩
    refine ⟨l0, m0, xs0, _, rfl, rfl, (same_new nm0) _ _ (S105.s _ _ hx0), upd_same, (by rw [hn0]; show 15 + 5 ≤ sizeLine; decide), fun l1 nl1 => ?_⟩
    have A1 := joined S105 sA0 hx0 gx0 hn0 nm0 nl1 M1
    generalize upd (upd H105 m0 (.lst [.ref p101, .ref p102, .ref p103, .ref p104, .ref p105])) l1 (.lst (xs0 ++ [.ref p101, .ref p102, .ref p103, .ref p104, .ref p105])) = G1 at A1 ⊢
    -- statement 3
    obtain ⟨sA1, BA1, nlA1, xs1, hx1, hn1, gx1⟩ := A1
    refine ⟨_, rfl, ?_⟩
    have S200 : Stg b L G1 G1 [] := ⟨fun _ _ e => e, BA1, fun v m => nomatch m⟩
    refine ⟨(by show 3 ≤ sizeLine; decide), fun p201 n201 => ?_⟩
    have S201 := S200.tup (xs := [.str "new", .int 5, .str "i"]) n201 (.cons (.str "new") (.cons (.int 5) (.cons (.str "i") (.nil)))) (by decide +kernel) (by decide) (by decide +kernel)
    generalize upd G1 p201 (.tup [.str "new", .int 5, .str "i"]) = H201 at S201 ⊢
    refine ⟨(by show 3 ≤ sizeLine; decide), fun p202 n202 => ?_⟩
    have S202 := S201.tup (xs := [.str "new", .int 5, .str ""]) n202 (.cons (.str "new") (.cons (.int 5) (.cons (.str "") (.nil)))) (by decide +kernel) (by decide) (by decide +kernel)
    generalize upd H201 p202 (.tup [.str "new", .int 5, .str ""]) = H202 at S202 ⊢
    refine ⟨(by show 3 ≤ sizeLine; decide), fun p203 n203 => ?_⟩
    have S203 := S202.tup (xs := [.str "new", .int 5, .str "ab"]) n203 (.cons (.str "new") (.cons (.int 5) (.cons (.str "ab") (.nil)))) (by decide +kernel) (by decide) (by decide +kernel)
    generalize upd H202 p203 (.tup [.str "new", .int 5, .str "ab"]) = H203 at S203 ⊢
    refine ⟨(by show 3 ≤ sizeLine; decide), fun p204 n204 => ?_⟩
    have S204 := S203.tup (xs := [.str "new", .str "5", .str "a"]) n204 (.cons (.str "new") (.cons (.str "5") (.cons (.str "a") (.nil)))) (by decide +kernel) (by decide) (by decide +kernel)
    generalize upd H203 p204 (.tup [.str "new", .str "5", .str "a"]) = H204 at S204 ⊢
    refine ⟨(by show 3 ≤ sizeLine; decide), fun p205 n205 => ?_⟩
    have S205 := S204.tup (xs := [.str "new", .non, .str "a"]) n205 (.cons (.str "new") (.cons .non (.cons (.str "a") (.nil)))) (by decide +kernel) (by decide) (by decide +kernel)
    generalize upd H204 p205 (.tup [.str "new", .non, .str "a"]) = H205 at S205 ⊢
    have M2 : ∀ v ∈ ([.ref p201, .ref p202, .ref p203, .ref p204, .ref p205] : List V), Gd b H205 v := by
      intro v m
      rcases List.mem_cons.mp m with rfl | m
      · exact S205.g _ (by simp)
      rcases List.mem_cons.mp m with rfl | m
      · exact S205.g _ (by simp)
      rcases List.mem_cons.mp m with rfl | m
      · exact S205.g _ (by simp)
      rcases List.mem_cons.mp m with rfl | m
      · exact S205.g _ (by simp)
      rw [List.mem_singleton.mp m]
      exact S205.g _ (by simp)
    refine ⟨(by show 5 ≤ sizeLine; decide), fun m1 nm1 => ?_⟩
    refine ⟨l1, m1, xs1, _, rfl, rfl, (same_new nm1) _ _ (S205.s _ _ hx1), upd_same, (by rw [hn1]; show 20 + 5 ≤ sizeLine; decide), fun l2 nl2 => ?_⟩
    have A2 := joined S205 sA1 hx1 gx1 hn1 nm1 nl2 M2
    generalize upd (upd H205 m1 (.lst [.ref p201, .ref p202, .ref p203, .ref p204, .ref p205])) l2 (.lst (xs1 ++ [.ref p201, .ref p202, .ref p203, .ref p204, .ref p205])) = G2 at A2 ⊢
    -- statement 4
    obtain ⟨sA2, BA2, nlA2, xs2, hx2, hn2, gx2⟩ := A2
    refine ⟨_, rfl, ?_⟩
    have S300 : Stg b L G2 G2 [] := ⟨fun _ _ e => e, BA2, fun v m => nomatch m⟩
    refine ⟨_, rfl, ?_⟩
    refine ⟨(by show 4 ≤ sizeLine; decide), fun p301 n301 => ?_⟩
    have S301 := S300.tup (xs := [.str "kth", .int 0, .int 0, .int (-1)]) n301 (.cons (.str "kth") (.cons (.int 0) (.cons (.int 0) (.cons (.int (-1)) (.nil))))) (by decide +kernel) (by decide) (by decide +kernel)
    generalize upd G2 p301 (.tup [.str "kth", .int 0, .int 0, .int (-1)]) = H301 at S301 ⊢
    refine ⟨(by show 4 ≤ sizeLine; decide), fun p302 n302 => ?_⟩
    have S302 := S301.tup (xs := [.str "kth", .int 0, .int 0, .non]) n302 (.cons (.str "kth") (.cons (.int 0) (.cons (.int 0) (.cons .non (.nil))))) (by decide +kernel) (by decide) (by decide +kernel)
    generalize upd H301 p302 (.tup [.str "kth", .int 0, .int 0, .non]) = H302 at S302 ⊢
    refine ⟨(by show 3 ≤ sizeLine; decide), fun p303 n303 => ?_⟩
    have S303 := S302.tup (xs := [.str "kth", .int 0, .int 0]) n303 (.cons (.str "kth") (.cons (.int 0) (.cons (.int 0) (.nil)))) (by decide +kernel) (by decide) (by decide +kernel)
    generalize upd H302 p303 (.tup [.str "kth", .int 0, .int 0]) = H303 at S303 ⊢
    refine ⟨(by show 3 ≤ sizeLine; decide), fun p304 n304 => ?_⟩
    have S304 := S303.tup (xs := [.str "meet", .int 0, .int 0]) n304 (.cons (.str "meet") (.cons (.int 0) (.cons (.int 0) (.nil)))) (by decide +kernel) (by decide) (by decide +kernel)
    generalize upd H303 p304 (.tup [.str "meet", .int 0, .int 0]) = H304 at S304 ⊢
    refine ⟨(by show 4 ≤ sizeLine; decide), fun p305 n305 => ?_⟩
    have S305 := S304.tup (xs := [.str "meet", .int 0, .int 0, .non]) n305 (.cons (.str "meet") (.cons (.int 0) (.cons (.int 0) (.cons .non (.nil))))) (by decide +kernel) (by decide) (by decide +kernel)
    generalize upd H304 p305 (.tup [.str "meet", .int 0, .int 0, .non]) = H305 at S305 ⊢
    have M3 : ∀ v ∈ ([.ref p301, .ref p302, .ref p303, .ref p304, .ref p305] : List V), Gd b H305 v := by
      intro v m
      rcases List.mem_cons.mp m with rfl | m
      · exact S305.g _ (by simp)
      rcases List.mem_cons.mp m with rfl | m
      · exact S305.g _ (by simp)
      rcases List.mem_cons.mp m with rfl | m
      · exact S305.g _ (by simp)
      rcases List.mem_cons.mp m with rfl | m
      · exact S305.g _ (by simp)
      rw [List.mem_singleton.mp m]
      exact S305.g _ (by simp)
    refine ⟨(by show 5 ≤ sizeLine; decide), fun m2 nm2 => ?_⟩
    refine ⟨l2, m2, xs2, _, rfl, rfl, (same_new nm2) _ _ (S305.s _ _ hx2), upd_same, (by rw [hn2]; show 25 + 5 ≤ sizeLine; decide), fun l3 nl3 => ?_⟩
    have A3 := joined S305 sA2 hx2 gx2 hn2 nm2 nl3 M3
    generalize upd (upd H305 m2 (.lst [.ref p301, .ref p302, .ref p303, .ref p304, .ref p305])) l3 (.lst (xs2 ++ [.ref p301, .ref p302, .ref p303, .ref p304, .ref p305])) = G3 at A3 ⊢
    -- statement 5
    obtain ⟨sA3, BA3, nlA3, xs3, hx3, hn3, gx3⟩ := A3
    refine ⟨_, rfl, ?_⟩
    have S400 : Stg b L G3 G3 [] := ⟨fun _ _ e => e, BA3, fun v m => nomatch m⟩
    refine ⟨(by show 4 ≤ sizeLine; decide), fun p401 n401 => ?_⟩
    have S401 := S400.tup (xs := [.str "spread", .non, .int 0, .int 1]) n401 (.cons (.str "spread") (.cons .non (.cons (.int 0) (.cons (.int 1) (.nil))))) (by decide +kernel) (by decide) (by decide +kernel)
    generalize upd G3 p401 (.tup [.str "spread", .non, .int 0, .int 1]) = H401 at S401 ⊢
    refine ⟨(by show 3 ≤ sizeLine; decide), fun p402 n402 => ?_⟩
    have S402 := S401.tup (xs := [.str "spread", .int 0, .non]) n402 (.cons (.str "spread") (.cons (.int 0) (.cons .non (.nil)))) (by decide +kernel) (by decide) (by decide +kernel)
    generalize upd H401 p402 (.tup [.str "spread", .int 0, .non]) = H402 at S402 ⊢
    refine ⟨(by show 3 ≤ sizeLine; decide), fun p403 n403 => ?_⟩
    have S403 := S402.tup (xs := [.str "sum", .non, .non]) n403 (.cons (.str "sum") (.cons .non (.cons .non (.nil)))) (by decide +kernel) (by decide) (by decide +kernel)
    generalize upd H402 p403 (.tup [.str "sum", .non, .non]) = H403 at S403 ⊢
    refine ⟨(by show 2 ≤ sizeLine; decide), fun p404 n404 => ?_⟩
    have S404 := S403.tup (xs := [.str "top", .int 0]) n404 (.cons (.str "top") (.cons (.int 0) (.nil))) (by decide +kernel) (by decide) (by decide +kernel)
    generalize upd H403 p404 (.tup [.str "top", .int 0]) = H404 at S404 ⊢
    refine ⟨(by show 2 ≤ sizeLine; decide), fun p405 n405 => ?_⟩
    have S405 := S404.tup (xs := [.str "put", .int 0]) n405 (.cons (.str "put") (.cons (.int 0) (.nil))) (by decide +kernel) (by decide) (by decide +kernel)
    generalize upd H404 p405 (.tup [.str "put", .int 0]) = H405 at S405 ⊢
    have M4 : ∀ v ∈ ([.ref p401, .ref p402, .ref p403, .ref p404, .ref p405] : List V), Gd b H405 v := by
      intro v m
      rcases List.mem_cons.mp m with rfl | m
      · exact S405.g _ (by simp)
      rcases List.mem_cons.mp m with rfl | m
      · exact S405.g _ (by simp)
      rcases List.mem_cons.mp m with rfl | m
      · exact S405.g _ (by simp)
      rcases List.mem_cons.mp m with rfl | m
      · exact S405.g _ (by simp)
      rw [List.mem_singleton.mp m]
      exact S405.g _ (by simp)
    refine ⟨(by show 5 ≤ sizeLine; decide), fun m3 nm3 => ?_⟩
    refine ⟨l3, m3, xs3, _, rfl, rfl, (same_new nm3) _ _ (S405.s _ _ hx3), upd_same, (by rw [hn3]; show 30 + 5 ≤ sizeLine; decide), fun l4 nl4 => ?_⟩
    have A4 := joined S405 sA3 hx3 gx3 hn3 nm3 nl4 M4
    generalize upd (upd H405 m3 (.lst [.ref p401, .ref p402, .ref p403, .ref p404, .ref p405])) l4 (.lst (xs3 ++ [.ref p401, .ref p402, .ref p403, .ref p404, .ref p405])) = G4 at A4 ⊢
    -- statement 6
    obtain ⟨sA4, BA4, nlA4, xs4, hx4, hn4, gx4⟩ := A4
    refine ⟨_, rfl, ?_⟩
    have S500 : Stg b L G4 G4 [] := ⟨fun _ _ e => e, BA4, fun v m => nomatch m⟩
    refine ⟨(by show 3 ≤ sizeLine; decide), fun p501 n501 => ?_⟩
    have S501 := S500.tup (xs := [.str "tied", .int 0, .int 0]) n501 (.cons (.str "tied") (.cons (.int 0) (.cons (.int 0) (.nil)))) (by decide +kernel) (by decide) (by decide +kernel)
    generalize upd G4 p501 (.tup [.str "tied", .int 0, .int 0]) = H501 at S501 ⊢
    refine ⟨(by show 1 ≤ sizeLine; decide), fun p502 n502 => ?_⟩
    have S502 := S501.tup (xs := [.str "rows"]) n502 (.cons (.str "rows") (.nil)) (by decide +kernel) (by decide) (by decide +kernel)
    generalize upd H501 p502 (.tup [.str "rows"]) = H502 at S502 ⊢
    refine ⟨(by show 3 ≤ sizeLine; decide), fun p504 n504 => ?_⟩
    have D504 : Dq b (upd H502 p504 (.tup [.str "tie", .int 0, .int 1])) (.ref p504) (.tuple tieD) := .tup (S502.B.ne n504) upd_same (.cons (.str "tie") (.cons (.int 0) (.cons (.int 1) (.nil))))
    have S504 := S502.skip (o := .tup [.str "tie", .int 0, .int 1]) n504
    generalize upd H502 p504 (.tup [.str "tie", .int 0, .int 1]) = H504 at S504 D504 ⊢
    refine ⟨(by show 1 ≤ sizeLine; decide), fun p503 n503 => ?_⟩
    have S503 := S504.tup (xs := [.ref p504]) n503 (.cons D504 (.nil)) (by decide +kernel) (by show 1 ≤ 1000; decide) rfl
    generalize upd H504 p503 (.tup [.ref p504]) = H503 at S503 ⊢
    refine ⟨(by show 4 ≤ sizeLine; decide), fun p505 n505 => ?_⟩
    have S505 := S503.tup (xs := [.str "first", .int 0, .int 0, .non]) n505 (.cons (.str "first") (.cons (.int 0) (.cons (.int 0) (.cons .non (.nil))))) (by decide +kernel) (by decide) (by decide +kernel)
    generalize upd H503 p505 (.tup [.str "first", .int 0, .int 0, .non]) = H505 at S505 ⊢
    refine ⟨(by show 3 ≤ sizeLine; decide), fun p506 n506 => ?_⟩
    have S506 := S505.tup (xs := [.int 5, .int 0, .int 1]) n506 (.cons (.int 5) (.cons (.int 0) (.cons (.int 1) (.nil)))) (by decide +kernel) (by decide) (by decide +kernel)
    generalize upd H505 p506 (.tup [.int 5, .int 0, .int 1]) = H506 at S506 ⊢
    refine ⟨(by show 2 ≤ sizeLine; decide), fun p507 n507 => ?_⟩
    have S507 := S506.tup (xs := [.non, .int 0]) n507 (.cons .non (.cons (.int 0) (.nil))) (by decide +kernel) (by decide) (by decide +kernel)
    generalize upd H506 p507 (.tup [.non, .int 0]) = H507 at S507 ⊢
    have M5 : ∀ v ∈ ([.ref p501, .ref p502, .ref p503, .ref p505, .ref p506, .ref p507] : List V), Gd b H507 v := by
      intro v m
      rcases List.mem_cons.mp m with rfl | m
      · exact S507.g _ (by simp)
      rcases List.mem_cons.mp m with rfl | m
      · exact S507.g _ (by simp)
      rcases List.mem_cons.mp m with rfl | m
      · exact S507.g _ (by simp)
      rcases List.mem_cons.mp m with rfl | m
      · exact S507.g _ (by simp)
      rcases List.mem_cons.mp m with rfl | m
      · exact S507.g _ (by simp)
      rw [List.mem_singleton.mp m]
      exact S507.g _ (by simp)
    refine ⟨(by show 6 ≤ sizeLine; decide), fun m4 nm4 => ?_⟩
    refine ⟨l4, m4, xs4, _, rfl, rfl, (same_new nm4) _ _ (S507.s _ _ hx4), upd_same, (by rw [hn4]; show 35 + 6 ≤ sizeLine; decide), fun l5 nl5 => ?_⟩
    have A5 := joined S507 sA4 hx4 gx4 hn4 nm4 nl5 M5
    generalize upd (upd H507 m4 (.lst [.ref p501, .ref p502, .ref p503, .ref p505, .ref p506, .ref p507])) l5 (.lst (xs4 ++ [.ref p501, .ref p502, .ref p503, .ref p505, .ref p506, .ref p507])) = G5 at A5 ⊢
    -- statement 7
    obtain ⟨sA5, BA5, nlA5, xs5, hx5, hn5, gx5⟩ := A5
    refine ⟨_, rfl, ?_⟩
    have S600 : Stg b L G5 G5 [] := ⟨fun _ _ e => e, BA5, fun v m => nomatch m⟩
    refine fun p601 n601 => ⟨upd_same, [(.inr "tie", .int 1)], rfl, by decide, ?_⟩
    rw [upd_upd]
    have S601 := S600.dct (kvs := mergeK [] [(.inr "tie", .int 1)]) n601
    generalize upd G5 p601 (.dK (mergeK [] [(.inr "tie", .int 1)])) = H601 at S601 ⊢
    refine ⟨(by show 3 ≤ sizeLine; decide), fun p602 n602 => ?_⟩
    have S602 := S601.tup (xs := [.str "paint", .int 0, .int 1]) n602 (.cons (.str "paint") (.cons (.int 0) (.cons (.int 1) (.nil)))) (by decide +kernel) (by decide) (by decide +kernel)
    generalize upd H601 p602 (.tup [.str "paint", .int 0, .int 1]) = H602 at S602 ⊢
    refine ⟨(by show 3 ≤ sizeLine; decide), fun p603 n603 => ?_⟩
    have S603 := S602.tup (xs := [.str "paint", .int 99, .str "z"]) n603 (.cons (.str "paint") (.cons (.int 99) (.cons (.str "z") (.nil)))) (by decide +kernel) (by decide) (by decide +kernel)
    generalize upd H602 p603 (.tup [.str "paint", .int 99, .str "z"]) = H603 at S603 ⊢
    refine ⟨(by show 4 ≤ sizeLine; decide), fun p604 n604 => ?_⟩
    have S604 := S603.tup (xs := [.str "add", .int 0, .int 1, .str "x"]) n604 (.cons (.str "add") (.cons (.int 0) (.cons (.int 1) (.cons (.str "x") (.nil))))) (by decide +kernel) (by decide) (by decide +kernel)
    generalize upd H603 p604 (.tup [.str "add", .int 0, .int 1, .str "x"]) = H604 at S604 ⊢
    refine ⟨(by show 3 ≤ sizeLine; decide), fun p606 n606 => ?_⟩
    have D606 : Dq b (upd H604 p606 (.tup [.str "tie", .int 0, .int 1])) (.ref p606) (.tuple tieD) := .tup (S604.B.ne n606) upd_same (.cons (.str "tie") (.cons (.int 0) (.cons (.int 1) (.nil))))
    have S606 := S604.skip (o := .tup [.str "tie", .int 0, .int 1]) n606
    generalize upd H604 p606 (.tup [.str "tie", .int 0, .int 1]) = H606 at S606 D606 ⊢
    refine ⟨(by show 1 ≤ sizeLine; decide), fun p605 n605 => ?_⟩
    have S605 := S606.lst (xs := [.ref p606]) n605 (.cons D606 (.nil)) (by decide +kernel)
    generalize upd H606 p605 (.lst [.ref p606]) = H605 at S605 ⊢
    have M6 : ∀ v ∈ ([.ref p601, .ref p602, .ref p603, .ref p604, .ref p605] : List V), Gd b H605 v := by
      intro v m
      rcases List.mem_cons.mp m with rfl | m
      · exact S605.g _ (by simp)
      rcases List.mem_cons.mp m with rfl | m
      · exact S605.g _ (by simp)
      rcases List.mem_cons.mp m with rfl | m
      · exact S605.g _ (by simp)
      rcases List.mem_cons.mp m with rfl | m
      · exact S605.g _ (by simp)
      rw [List.mem_singleton.mp m]
      exact S605.g _ (by simp)
    refine ⟨(by show 5 ≤ sizeLine; decide), fun m5 nm5 => ?_⟩
    refine ⟨l5, m5, xs5, _, rfl, rfl, (same_new nm5) _ _ (S605.s _ _ hx5), upd_same, (by rw [hn5]; show 41 + 5 ≤ sizeLine; decide), fun l6 nl6 => ?_⟩
    have A6 := joined S605 sA5 hx5 gx5 hn5 nm5 nl6 M6
    generalize upd (upd H605 m5 (.lst [.ref p601, .ref p602, .ref p603, .ref p604, .ref p605])) l6 (.lst (xs5 ++ [.ref p601, .ref p602, .ref p603, .ref p604, .ref p605])) = G6 at A6 ⊢
    -- statement 8
    obtain ⟨sA6, BA6, nlA6, xs6, hx6, hn6, gx6⟩ := A6
    refine ⟨_, rfl, ?_⟩
    have S700 : Stg b L G6 G6 [] := ⟨fun _ _ e => e, BA6, fun v m => nomatch m⟩
    refine ⟨(by show 3 ≤ sizeLine; decide), fun p701 n701 => ?_⟩
    have S701 := S700.tup (xs := [.str "", .int 0, .int 1]) n701 (.cons (.str "") (.cons (.int 0) (.cons (.int 1) (.nil)))) (by decide +kernel) (by decide) (by decide +kernel)
    generalize upd G6 p701 (.tup [.str "", .int 0, .int 1]) = H701 at S701 ⊢
    refine ⟨(by show 4 ≤ sizeLine; decide), fun p702 n702 => ?_⟩
    have S702 := S701.tup (xs := [.str "least", .int 0, .non, .int 3]) n702 (.cons (.str "least") (.cons (.int 0) (.cons .non (.cons (.int 3) (.nil))))) (by decide +kernel) (by decide) (by decide +kernel)
    generalize upd H701 p702 (.tup [.str "least", .int 0, .non, .int 3]) = H702 at S702 ⊢
    refine ⟨(by show 2 ≤ sizeLine; decide), fun p703 n703 => ?_⟩
    have S703 := S702.tup (xs := [.str "new", .int 5]) n703 (.cons (.str "new") (.cons (.int 5) (.nil))) (by decide +kernel) (by decide) (by decide +kernel)
    generalize upd H702 p703 (.tup [.str "new", .int 5]) = H703 at S703 ⊢
    have M7 : ∀ v ∈ ([.ref p701, .ref p702, .ref p703] : List V), Gd b H703 v := by
      intro v m
      rcases List.mem_cons.mp m with rfl | m
      · exact S703.g _ (by simp)
      rcases List.mem_cons.mp m with rfl | m
      · exact S703.g _ (by simp)
      rw [List.mem_singleton.mp m]
      exact S703.g _ (by simp)
    refine ⟨(by show 3 ≤ sizeLine; decide), fun m6 nm6 => ?_⟩
    refine ⟨l6, m6, xs6, _, rfl, rfl, (same_new nm6) _ _ (S703.s _ _ hx6), upd_same, (by rw [hn6]; show 46 + 3 ≤ sizeLine; decide), fun l7 nl7 => ?_⟩
    have A7 := joined S703 sA6 hx6 gx6 hn6 nm6 nl7 M7
    generalize upd (upd H703 m6 (.lst [.ref p701, .ref p702, .ref p703])) l7 (.lst (xs6 ++ [.ref p701, .ref p702, .ref p703])) = G7 at A7 ⊢
    obtain ⟨sZ, BZ, nlZ, xsZ, hxZ, hnZ, gxZ⟩ := A7
    have hnZ : xsZ.length = 49 := hnZ

    have lZ : l7 ≠ b := fun z => by
      obtain ⟨ns, n, hb, _⟩ := B.ex
      rw [z, hb] at nlZ
      cases nlZ
    refine ⟨_, rfl, b, L, rfl, BZ, fun x H2 hx B2 k2 => ?_⟩
    have hx2 := k2 _ _ hxZ lZ
    have k02 : But b H H2 := (But.of_same sZ).trans k2
    have g2 : ∀ v ∈ xsZ, Gd b H2 v := fun v m => (gxZ v m).mono (.of_but k2)
    refine ⟨_, rfl, _, rfl, _, _, rfl, rfl, (by show (0 : Int) < 8; decide), _, rfl, l7, _, rfl, SqL.of hx2, fun c1 nc1 => ?_⟩
    have s1 := same_new (o := .lst (cutV xsZ (some (x % 8)) none)) nc1
    have h1 : upd H2 c1 (.lst (cutV xsZ (some (x % 8)) none)) c1 = some (.lst (cutV xsZ (some (x % 8)) none)) := upd_same
    have n1 : c1 ≠ b := B2.ne nc1
    generalize upd H2 c1 (.lst (cutV xsZ (some (x % 8)) none)) = H3 at s1 h1 ⊢
    refine ⟨_, rfl, no_part ?_⟩
    refine ⟨_, rfl, _, _, rfl, rfl, (by show (0 : Int) < 8; decide), _, rfl, l7, _, rfl, SqL.of (s1 _ _ hx2), fun c2 nc2 => ?_⟩
    have s2 := same_new (o := .lst (cutV xsZ none (some (x % 8)))) nc2
    have h2 : upd H3 c2 (.lst (cutV xsZ none (some (x % 8)))) c2 = some (.lst (cutV xsZ none (some (x % 8)))) := upd_same
    generalize upd H3 c2 (.lst (cutV xsZ none (some (x % 8)))) = H4 at s2 h2 ⊢
    have z1 := cutV_length xsZ (some (x % 8)) none
    have z2 := cutV_length xsZ none (some (x % 8))
    refine ⟨c1, c2, _, _, rfl, rfl, s2 _ _ h1, h2, (by rw [hnZ] at z1 z2; exact Nat.le_trans (Nat.add_le_add z1 z2) (by decide)), fun l nl => ?_⟩
    have s3 := same_new (o := .lst (cutV xsZ (some (x % 8)) none ++ cutV xsZ none (some (x % 8)))) nl
    have s14 : Same H2 (upd H4 l (.lst (cutV xsZ (some (x % 8)) none ++ cutV xsZ none (some (x % 8))))) := s1.trans (s2.trans s3)
    refine q l _ _ (B2.same s14) (k02.trans (But.of_same s14)) ((B2.same (s1.trans s2)).ne nl) upd_same (by rw [List.length_append]; omega) fun v m => ?_
    refine (g2 v ?_).mono (.of_same s14)
    rcases List.mem_append.mp m with m | m
    · exact cut_memL m
    · exact cut_memL m
end

end My
namespace My
open PySem L2
/-! ### _law_refused -/
def wds : List Str := ["NoRow", "NoPoint", "Ring", "NoTie", "Apart", "NoPlace", "NoDeed"]
/-- one of seven -/
def tw7 (j : Nat) : List Bool := (List.range 7).map fun i => decide (j = i)
theorem seven {j : Nat} (h : j < 7) : j = 0 ∨ j = 1 ∨ j = 2 ∨ j = 3 ∨ j = 4 ∨ j = 5 ∨ j = 6 := by omega
section
variable {w : World} {K : PySem.W.Frag} {mg : Str → Option Value}
abbrev Top.cs (T : Top w K mg) : List Addr := [T.c_NoRow, T.c_NoPoint, T.c_Ring, T.c_NoTie, T.c_Apart, T.c_NoPlace, T.c_NoDeed]
theorem cs_em (T : Top w K mg) {j : Nat} (h : j < 7) : PySem.W.exmOne K (.ref (T.cs.getD j 0)) (.ref T.c_TreeError) = some true := by
  rcases seven h with rfl | rfl | rfl | rfl | rfl | rfl | rfl
  · exact T.em_NoRow
  · exact T.em_NoPoint
  · exact T.em_Ring
  · exact T.em_NoTie
  · exact T.em_Apart
  · exact T.em_NoPlace
  · exact T.em_NoDeed
theorem cs_xc (T : Top w K mg) {j : Nat} (h : j < 7) : XcC K (T.cs.getD j 0) := by
  rcases seven h with rfl | rfl | rfl | rfl | rfl | rfl | rfl
  · exact T.s_NoRow
  · exact T.s_NoPoint
  · exact T.s_Ring
  · exact T.s_NoTie
  · exact T.s_Apart
  · exact T.s_NoPlace
  · exact T.s_NoDeed
theorem cs_kv (T : Top w K mg) {j : Nat} (h : j < 7) : PySem.W.kitOne K (.ref (T.cs.getD j 0)) (.type "ValueError") = some true := by
  rcases seven h with rfl | rfl | rfl | rfl | rfl | rfl | rfl
  · exact T.kv_NoRow
  · exact T.kv_NoPoint
  · exact T.kv_Ring
  · exact T.kv_NoTie
  · exact T.kv_Apart
  · exact T.kv_NoPlace
  · exact T.kv_NoDeed
theorem cs_kit (T : Top w K mg) {i j : Nat} (hi : i < 7) (hj : j < 7) : PySem.W.kitOne K (.ref (T.cs.getD i 0)) (.ref (T.cs.getD j 0)) = some (decide (i = j)) := kitsB_two T.kits hi hj
/-- what the def makes of the lambda's reading: what it tells, or the word of what it raises -/
def TTref (T : Top w K mg) (v : V) (tl : XK → V → Hp → VK → Prop) (H : Hp) (Q : VK) : Prop := ∀ (H1 : Hp) (E' : XK) (Q' : VK), Same H H1 →
  (∀ j, j < 7 → ∀ H', (∀ H'', Same H' H'' → Q (.str (wds.getD j "")) H'') → E' (.ref (T.cs.getD j 0)) none H') → (∀ u H', Q u H' → Q' u H') → tl E' v H1 Q'
theorem dp_bls {K : PySem.W.Frag} {H : Hp} : ∀ bs : List Bool, DpAll K H (bs.map V.bl) (bs.map PyData.bool)
  | [] => .nil
  | b :: r => .cons (.bl b) (dp_bls r)
theorem gives_Lrefused {X : Cx} {w : World} {K : PySem.W.Frag} {mg : Str → Option Value} (T : Top w K mg) (hw : X.w = w) (hK : X.K = K) (hm : X.mg = mg) {k : Nat} {qn : Str} (cdg : Value) : GivesP X k ["_law_told_by", "_law_thing", "_law_caught", "_law_told", "e", "_law_some"] "_law_refused" (defScope s_Lrefused) T.a_Lrefused cdg (defBody s_Lrefused) "_law_told_by" qn (TTref T) := by
  subst hw hK hm
  intro f c' v s H Q tl hr act hc h
  refine ⟨_, (pss_cons (ps_asg (pe_tup (pa_cons pe_non (pa_cons pe_non pa_nil))) (pg_tup rfl (pgs_cons (pg_name (i := 2) sc_Lrefused.nd rfl (.inl rfl)) (pgs_cons (pg_name (i := 3) sc_Lrefused.nd rfl (.inl rfl)) pgs_nil))))
      (pss_cons (ps_try_keep (i := 4) rfl rfl sc_Lrefused.nd rfl rfl ⟨rfl, by decide, .inl T.v_TreeError⟩ (fun W pn xe tk => (pss_one (ps_set (i := 3) sc_Lrefused.nd rfl (.inl rfl) (act W pn xe _ _ _ _ tk (pa_cons (pv 1) pa_nil) rfl)))) (fun a pn => (pss_one (ps_set (i := 2) sc_Lrefused.nd rfl (.inl rfl) (pv 4)))))
      (pss_cons (ps_if (pt_cmpR op_isN (pv 2) pe_non (nomark _)) (pss_one (ps_ret (pv 3))) pss_nil)
      (pss_cons (ps_set (i := 5) sc_Lrefused.nd rfl (.inl rfl) (pe_lst (pa_cons (pe_callB call_isC (by rfl) T.m_isinstance (by decide +kernel) (pa_cons (pv 2) (pa_cons (pe_glob (v := .ref T.c_NoRow) (by rfl) T.v_NoRow rfl) pa_nil))) (pa_cons (pe_callB call_isC (by rfl) T.m_isinstance (by decide +kernel) (pa_cons (pv 2) (pa_cons (pe_glob (v := .ref T.c_NoPoint) (by rfl) T.v_NoPoint rfl) pa_nil))) (pa_cons (pe_callB call_isC (by rfl) T.m_isinstance (by decide +kernel) (pa_cons (pv 2) (pa_cons (pe_glob (v := .ref T.c_Ring) (by rfl) T.v_Ring rfl) pa_nil))) pa_nil)))))
      (pss_cons (ps_set (i := 5) sc_Lrefused.nd rfl (.inl rfl) (pe_op op_cat (pv 5) (pe_lst (pa_cons (pe_callB call_isC (by rfl) T.m_isinstance (by decide +kernel) (pa_cons (pv 2) (pa_cons (pe_glob (v := .ref T.c_NoTie) (by rfl) T.v_NoTie rfl) pa_nil))) (pa_cons (pe_callB call_isC (by rfl) T.m_isinstance (by decide +kernel) (pa_cons (pv 2) (pa_cons (pe_glob (v := .ref T.c_Apart) (by rfl) T.v_Apart rfl) pa_nil))) (pa_cons (pe_callB call_isC (by rfl) T.m_isinstance (by decide +kernel) (pa_cons (pv 2) (pa_cons (pe_glob (v := .ref T.c_NoPlace) (by rfl) T.v_NoPlace rfl) pa_nil))) pa_nil))))))
      (pss_cons (ps_expr (pe_bm PySem.F.plainAttrs_list PySem.F.slot_list_append PySem.F.type_list_append mt_append (pv 5) (pa_cons (pe_callB call_isC (by rfl) T.m_isinstance (by decide +kernel) (pa_cons (pv 2) (pa_cons (pe_glob (v := .ref T.c_NoDeed) (by rfl) T.v_NoDeed rfl) pa_nil))) pa_nil)))
      (pss_cons (ps_if (PW.pt (pw_or (pt_cmpR op_ne (pe_bm PySem.F.plainAttrs_list PySem.F.slot_list_count PySem.F.type_list_count mt_countB (pv 5) (pa_cons pe_bl pa_nil)) pe_int (nomark _)) (pw_or1 (pt_not (pt_val (pe_callB call_isC (by rfl) T.m_isinstance (by decide +kernel) (pa_cons (pv 2) (pa_cons (pe_bltn (v := .ty "ValueError") (by rfl) T.m_ValueError (by decide +kernel) rfl) pa_nil)))))))) (pss_one (ps_ret pe_str)) pss_nil)
      (pss_one (ps_ret (pe_ix ix_list (pe_lst (pa_cons pe_str (pa_cons pe_str (pa_cons pe_str (pa_cons pe_str (pa_cons pe_str (pa_cons pe_str (pa_cons pe_str pa_nil)))))))) (pe_bm PySem.F.plainAttrs_list PySem.F.slot_list_index PySem.F.type_list_index (mt_indexD (u65 hr)) (pv 5) (pa_cons pe_bl pa_nil)) (fun _ _ => rfl))))))))))), ?_⟩
  refine ⟨(by show 2 ≤ sizeLine; decide), fun p np => ⟨p, _, rfl, SqT.of upd_same, rfl, _, _, rfl, _, _, rfl, rfl, ?_⟩⟩
  have s1 : Same H (upd H p (.tup [.non, .non])) := same_new np
  refine ⟨rfl, _, rfl, v, rfl, s1 _ _ hc, ?_⟩
  refine h _ _ _ s1 (fun j hj H' q => ?_) fun u H' q => ?_
  · refine ⟨cs_em T hj, fun a na => ⟨_, rfl, na, ?_⟩⟩
    have at_ : upd H' a (ExC (.ref (T.cs.getD j 0)) none a) a = some (ExC (.ref (T.cs.getD j 0)) none a) := upd_same
    have sA : Same H' (upd H' a (ExC (.ref (T.cs.getD j 0)) none a)) := same_new na
    refine ⟨_, rfl, rfl, _, rfl, iteF ?_⟩
    have k0 : PySem.W.kitOne X.K (.ref (T.cs.getD j 0)) (.ref T.c_NoRow) = some (decide (j = 0)) := cs_kit T hj (show 0 < 7 by decide)
    have k1 : PySem.W.kitOne X.K (.ref (T.cs.getD j 0)) (.ref T.c_NoPoint) = some (decide (j = 1)) := cs_kit T hj (show 1 < 7 by decide)
    have k2 : PySem.W.kitOne X.K (.ref (T.cs.getD j 0)) (.ref T.c_Ring) = some (decide (j = 2)) := cs_kit T hj (show 2 < 7 by decide)
    have k3 : PySem.W.kitOne X.K (.ref (T.cs.getD j 0)) (.ref T.c_NoTie) = some (decide (j = 3)) := cs_kit T hj (show 3 < 7 by decide)
    have k4 : PySem.W.kitOne X.K (.ref (T.cs.getD j 0)) (.ref T.c_Apart) = some (decide (j = 4)) := cs_kit T hj (show 4 < 7 by decide)
    have k5 : PySem.W.kitOne X.K (.ref (T.cs.getD j 0)) (.ref T.c_NoPlace) = some (decide (j = 5)) := cs_kit T hj (show 5 < 7 by decide)
    have k6 : PySem.W.kitOne X.K (.ref (T.cs.getD j 0)) (.ref T.c_NoDeed) = some (decide (j = 6)) := cs_kit T hj (show 6 < 7 by decide)
    have xc := cs_xc T hj
    refine ⟨_, rfl, a, _, _, _, _, rfl, at_, xc, .own _, k0, _, rfl, a, _, _, _, _, rfl, at_, xc, .own _, k1, _, rfl, a, _, _, _, _, rfl, at_, xc, .own _, k2, (by show 3 ≤ sizeLine; decide), fun l1 n1 => ?_⟩
    have na1 : a ≠ l1 := ne_of_none at_ n1
    have at1 := (same_new (o := .lst [.bl (decide (j = 0)), .bl (decide (j = 1)), .bl (decide (j = 2))]) n1) _ _ at_
    refine ⟨_, rfl, _, rfl, a, _, _, _, _, rfl, at1, xc, .own _, k3, _, rfl, a, _, _, _, _, rfl, at1, xc, .own _, k4, _, rfl, a, _, _, _, _, rfl, at1, xc, .own _, k5, (by show 3 ≤ sizeLine; decide), fun l2 n2 => ?_⟩
    have at2 := (same_new (o := .lst [.bl (decide (j = 3)), .bl (decide (j = 4)), .bl (decide (j = 5))]) n2) _ _ at1
    have h1 := (same_new (o := .lst [.bl (decide (j = 3)), .bl (decide (j = 4)), .bl (decide (j = 5))]) n2) _ _ (upd_same (H := upd H' a (ExC (.ref (T.cs.getD j 0)) none a)) (a := l1) (o := .lst [.bl (decide (j = 0)), .bl (decide (j = 1)), .bl (decide (j = 2))]))
    refine ⟨l1, l2, _, _, rfl, rfl, h1, upd_same, (by show 3 + 3 ≤ sizeLine; decide), fun l3 n3 => ?_⟩
    have at3 := (same_new (o := .lst ([.bl (decide (j = 0)), .bl (decide (j = 1)), .bl (decide (j = 2))] ++ [.bl (decide (j = 3)), .bl (decide (j = 4)), .bl (decide (j = 5))])) n3) _ _ at2
    refine ⟨_, rfl, .inl ⟨rfl, _, SqL.of upd_same⟩, _, rfl, a, _, _, _, _, rfl, at3, xc, .own _, k6, l3, _, _, rfl, rfl, upd_same, (by show 6 < sizeLine; decide), ?_⟩
    have cnt : ([decide (j = 0), decide (j = 1), decide (j = 2), decide (j = 3), decide (j = 4), decide (j = 5), decide (j = 6)] : List Bool).count true = 1 := by
      rcases seven hj with rfl | rfl | rfl | rfl | rfl | rfl | rfl <;> decide
    have at4 := at3
    have ne3 : a ≠ l3 := ne_of_none at2 n3
    refine ⟨_, rfl, .inl ⟨rfl, _, SqL.of upd_same⟩, l3, [decide (j = 0), decide (j = 1), decide (j = 2), decide (j = 3), decide (j = 4), decide (j = 5), decide (j = 6)], true, rfl, rfl, SqL.of upd_same, rfl, _, rfl, ?_⟩
    rw [cnt]
    refine iteF ?_
    have at5 : ∀ {o : HO}, upd (upd (upd (upd (upd H' a (ExC (.ref (T.cs.getD j 0)) none a)) l1 (.lst [.bl (decide (j = 0)), .bl (decide (j = 1)), .bl (decide (j = 2))])) l2 (.lst [.bl (decide (j = 3)), .bl (decide (j = 4)), .bl (decide (j = 5))])) l3 (.lst ([.bl (decide (j = 0)), .bl (decide (j = 1)), .bl (decide (j = 2))] ++ [.bl (decide (j = 3)), .bl (decide (j = 4)), .bl (decide (j = 5))]))) l3 o a = some (ExC (.ref (T.cs.getD j 0)) none a) := by
      intro o
      rw [upd_ne ne3]
      exact at3
    refine ⟨_, rfl, a, _, _, _, _, rfl, at5, xc, .ty _, cs_kv T hj, _, rfl, ?_⟩
    refine iteF ?_
    have sL : Same H' (upd (upd (upd (upd (upd H' a (ExC (.ref (T.cs.getD j 0)) none a)) l1 (.lst [.bl (decide (j = 0)), .bl (decide (j = 1)), .bl (decide (j = 2))])) l2 (.lst [.bl (decide (j = 3)), .bl (decide (j = 4)), .bl (decide (j = 5))])) l3 (.lst ([.bl (decide (j = 0)), .bl (decide (j = 1)), .bl (decide (j = 2))] ++ [.bl (decide (j = 3)), .bl (decide (j = 4)), .bl (decide (j = 5))]))) l3 (.lst ([.bl (decide (j = 0)), .bl (decide (j = 1)), .bl (decide (j = 2))] ++ [.bl (decide (j = 3)), .bl (decide (j = 4)), .bl (decide (j = 5))] ++ [.bl (decide (j = 6))]))) := by
      intro b o e
      have e3 := (same_new (o := HO.lst [.bl (decide (j = 3)), .bl (decide (j = 4)), .bl (decide (j = 5))]) n2) _ _ ((same_new (o := HO.lst [.bl (decide (j = 0)), .bl (decide (j = 1)), .bl (decide (j = 2))]) n1) _ _ (sA _ _ e))
      rw [upd_ne (ne_of_none e3 n3), upd_ne (ne_of_none e3 n3)]
      exact e3
    refine ⟨(by show 7 ≤ sizeLine; decide), fun l4 n4 => ?_⟩
    have h3 := (same_new (o := .lst [.str "NoRow", .str "NoPoint", .str "Ring", .str "NoTie", .str "Apart", .str "NoPlace", .str "NoDeed"]) n4) _ _ upd_same
    refine ⟨_, rfl, .inl ⟨rfl, _, SqL.of h3⟩, l3, _, _, (([decide (j = 0), decide (j = 1), decide (j = 2), decide (j = 3), decide (j = 4), decide (j = 5), decide (j = 6)] : List Bool).map PyData.bool), j, .bool true, rfl, rfl, .lst (SqL.of h3) (dp_bls [decide (j = 0), decide (j = 1), decide (j = 2), decide (j = 3), decide (j = 4), decide (j = 5), decide (j = 6)]), .bl true, ?_, by decide, ?_, by decide, ?_, ?_⟩
    · rcases seven hj with rfl | rfl | rfl | rfl | rfl | rfl | rfl <;> decide
    · rcases seven hj with rfl | rfl | rfl | rfl | rfl | rfl | rfl <;> rfl
    · intro m z' hm e
      have ez : ∀ b : Bool, PyData.eqv (.bool b) (.bool true) = b := fun b => by cases b <;> decide
      rw [List.getElem?_map] at e
      obtain ⟨b, e1, e2⟩ := Option.map_eq_some_iff.mp e
      rw [← e2, ez]
      have m7 : m < 7 := Nat.lt_trans hm hj
      have e3 : b = decide (j = m) := by
        rcases seven m7 with rfl | rfl | rfl | rfl | rfl | rfl | rfl <;> exact (Option.some.inj e1).symm
      rw [e3]
      exact decide_eq_false fun z => absurd (z ▸ hm) (Nat.lt_irrefl _)
    · refine ⟨l4, _, _, .str (wds.getD j ""), rfl, rfl, SqL.of upd_same, ?_, ?_⟩
      · rcases seven hj with rfl | rfl | rfl | rfl | rfl | rfl | rfl <;> rfl
      · exact q _ (sL.trans (same_new n4))
  · refine ⟨_, rfl, rfl, _, rfl, iteT ?_⟩
    exact ⟨_, rfl, q⟩
end

end My
namespace My
open PySem L2
/-! ### the law -/
theorem Td.parts {K : PySem.W.Frag} {H : Hp} {f : V} {pts : List (Int × Str)} {ts : List (Int × Int)} (h : Td K H f (fdata pts ts)) : ∃ (a pa ta : Addr) (xs ys : List V), f = .ref a ∧ SqT K H a [.ref pa, .ref ta] ∧ SqT K H pa xs ∧ TdAll K H xs (pts.map pdata) ∧ SqT K H ta ys ∧ TdAll K H ys (ts.map tdata) := by
  unfold fdata at h
  cases h with
  | tup h k =>
    cases k with
    | cons k1 k2 =>
      cases k2 with
      | cons k2 k3 =>
        cases k3
        cases k1 with
        | tup h1 l1 =>
          cases k2 with
          | tup h2 l2 => exact ⟨_, _, _, _, _, rfl, h, h1, l1, h2, l2⟩
/-- what lies deep -/
def Deep (b : Addr) (H : Hp) (i : Nat) (d : Addr) : Prop := ∃ dd : PyData, Dq b H (.ref d) dd ∧ dd.canLay0 = true ∧ dd.depth ≤ i + 1 ∧ Gd b H (.ref d)
theorem Deep.mono {b : Addr} {H H' : Hp} (t : KpB b H H') {i : Nat} {d : Addr} (h : Deep b H i d) : Deep b H' i d := by
  obtain ⟨dd, h1, h2, h3, h4⟩ := h
  exact ⟨dd, h1.mono t, h2, h3, h4.mono t⟩
theorem shape_of {d : PyData} (h : d.canLay0 = true) (k : d.depth ≤ 64) : SeqAt.shaped d = true := by
  unfold SeqAt.shaped
  rw [h, decide_eq_true k]
  rfl
theorem Deep.lst {b : Addr} {H : Hp} {i : Nat} {d p : Addr} (h : Deep b H i d) (hi : i ≤ 40) (n : p ≠ b) (e : H p = some (.lst [.ref d])) : Deep b H (i + 1) p := by
  obtain ⟨dd, h1, h2, h3, h4⟩ := h
  have c : PyData.canLay0 (.list [dd]) = true := by
    show (PyData.canLay0 dd && true) = true
    rw [h2]
    rfl
  have dp : PyData.depth (.list [dd]) ≤ i + 1 + 1 := by
    show max (PyData.depth dd) 0 + 1 ≤ _
    omega
  exact ⟨.list [dd], .lst n e (.cons h1 .nil), c, dp, .lst n e (.cons h1 .nil) (shape_of c (by omega))⟩
theorem Deep.tup {b : Addr} {H : Hp} {i : Nat} {d p : Addr} (h : Deep b H i d) (hi : i ≤ 40) (n : p ≠ b) (e : H p = some (.tup [.ref d])) : Deep b H (i + 1) p := by
  obtain ⟨dd, h1, h2, h3, h4⟩ := h
  have c : PyData.canLay0 (.tuple [dd]) = true := by
    show (PyData.canLay0 dd && true) = true
    rw [h2]
    rfl
  have dp : PyData.depth (.tuple [dd]) ≤ i + 1 + 1 := by
    show max (PyData.depth dd) 0 + 1 ≤ _
    omega
  exact ⟨.tuple [dd], .tup n e (.cons h1 .nil), c, dp, .tup n e (.cons h1 .nil) (shape_of c (by omega)) (by show 1 ≤ 1000; decide) (.inl rfl)⟩
section
variable {P : Program} {w : World} {K : PySem.W.Frag} {mg : Str → Option Value} {base : Heap}
theorem run_law (T : Top w K mg) {s : Shared} {H : Hp} {a : Addr} {ns : List Int} (TBR : GxR.TabB base mg T.cR T.PR) (TBM : GxR.TabB base mg T.cM T.PM) (TBL : LamX.TabB base mg T.cL T.PL) (e0 : Env0 P w K mg base callerA [] s H) (hR : H T.PR = some (.tbl #[])) (hM : H T.PM = some (.tbl #[])) (hL : H T.PL = some (.tbl #[])) (hS : SqL K H a (ns.map V.int)) (hlen : ns.length ≤ 63) (room : Room 9 callerA) (bind : ∀ (s : Shared) (u : Value), BindsTo s T.d_law ⟨[u], []⟩ [("_law_script", u)]) :
    codeAny (model P w) callerA (.call (.ref T.a_law) ⟨[.ref a], []⟩) (CR CX0 [] P w H s (fun v _ => v = .bl true) E0) s := by
  have G_Lbox : FnOk P w K mg base CX0 2 _ _ _ _ := ok_box T
  have G_Lnext : FnOk P w K mg base CX0 1 _ _ _ _ := ok_next T
  have G_Lforest : FnOk P w K mg base CX0 4 _ _ _ _ := ok_forest T
  have G_Lthings : FnOk P w K mg base CX0 2 _ _ _ _ := ok_things T
  have G_isrow : FnOk P w K mg base CX0 4 _ _ _ _ := ok_isrow T ⟨TBR, TBM⟩
  have G_plaindo : FnOk P w K mg base (L2.CX P w) 6 _ _ _ _ := ok_plainno T ⟨TBR, TBM⟩
  obtain ⟨oc, od, kV, doc, pm, an, cdv, ct, osl, ed, lk, hcd⟩ := T.F_law.ex
  have ecd : cdv = .ref T.cL := by
    have z := T.hcL
    rw [ed] at z
    exact z
  subst ecd
  rw [ed] at lk
  refine LamX.run_ofS (k := 8) (N := ["_law_script", "_law_box_here", "_law_forest_here", "_law_first", "_law_deep", "_law_turn", "_law_thing"]) (ps := ["_law_script"]) (us := [.ref a]) (vs := [.ref a]) lk hcd sc_law room e0 (by rw [← ed]; exact bind s _) (.cons rfl .nil) rfl fun hr => ?_
  refine ⟨_, PSs.nox (pss_cons (ps_set (i := 1) sc_law.nd rfl (.inl rfl) (pe_call G_Lbox (hr.mono (by decide)) (by rfl) T.g_Lbox T.F_Lbox.kp T.b_Lbox .nil pass0 (pa_cons (pv 0) pa_nil)))
      (pss_cons (ps_set (i := 2) sc_law.nd rfl (.inr rfl) (pe_call G_Lforest (hr.mono (by decide)) (by rfl) T.g_Lforest T.F_Lforest.kp T.b_Lforest .nil pass0 (pa_cons (pv 1) (pa_cons pe_int (pa_cons pe_int pa_nil)))))
      (pss_cons (ps_set (i := 3) sc_law.nd rfl (.inl rfl) (pe_callB (call_repr rfl hr.units) (by rfl) T.m_repr (by decide +kernel) (pa_cons (pv 2) pa_nil)))
      (pss_cons (ps_set (i := 4) sc_law.nd rfl (.inl rfl) (pe_tup (pa_cons pe_str (pa_cons pe_int (pa_cons pe_int pa_nil)))))
      (pss_cons (ps_for PassesOwn.never rfl (pi_range1 (by rfl) T.m_range (pa_cons (pe_op op_mod (pe_call G_Lnext (hr.mono (by decide)) (by rfl) T.g_Lnext T.F_Lnext.kp T.b_Lnext .nil pass0 (pa_cons (pv 1) pa_nil)) pe_int) pa_nil)) (pg_name (i := 5) sc_law.nd rfl (.inl rfl)) (pss_one (ps_set (i := 4) sc_law.nd rfl (.inl rfl) (pe_ix ix_list (pe_lst (pa_cons (pe_tup (pa_cons (pv 4) pa_nil)) (pa_cons (pe_lst (pa_cons (pv 4) pa_nil)) pa_nil))) (pe_op op_mod (pe_call G_Lnext (hr.mono (by decide)) (by rfl) T.g_Lnext T.F_Lnext.kp T.b_Lnext .nil pass0 (pa_cons (pv 1) pa_nil)) pe_int) (fun _ _ => rfl)))))
      (pss_cons (ps_for PassesOwn.never rfl (pi_list (pe_op op_cat (pe_call G_Lthings (hr.mono (by decide)) (by rfl) T.g_Lthings T.F_Lthings.kp T.b_Lthings .nil pass0 (pa_cons (pv 1) pa_nil)) (pe_lst (pa_cons (pv 4) (pa_cons (pe_tup (pa_cons pe_str (pa_cons (pv 4) (pa_cons pe_int pa_nil)))) (pa_cons (pe_tup (pa_cons (pv 4) (pa_cons pe_int (pa_cons pe_int pa_nil)))) pa_nil)))))) (pg_name (i := 6) sc_law.nd rfl (.inl rfl)) (pss_cons (ps_mid (ps_if (pt_cmpR (op_eqX hr.units) (pv 6) (pe_tup (pa_cons pe_str (pa_cons pe_int (pa_cons pe_int pa_nil)))) (nomark _)) (pss_one (ps_set (i := 6) sc_law.nd rfl (.inl rfl) (pe_tup (pa_cons pe_str (pa_cons pe_int (pa_cons (pv 4) (pa_cons pe_int pa_nil))))))) pss_nil))
      (pss_one (ps_if (PW.pt (pw_or (pt_cmpR op_isnot_bl (pe_call G_isrow (hr.mono (by decide)) (by rfl) T.g_isrow T.F_isrow.kp T.b_isrow .nil pass0 (pa_cons (pv 6) pa_nil)) pe_bl (nomark _)) (pw_or1 (pt_cmpR op_ne (pe_lamF (k := 6) (p := "_law_one") (by rfl) T.g_Lrefused T.F_Lrefused T.b_Lrefused sc_Lrefused rfl (.inl rfl) (fun cdg => gives_Lrefused T rfl rfl rfl cdg) TBL rfl hr (lamP_by (sc := defScope s_law) (by decide +kernel)) (show ("_law_one" : Str) ∉ (["_law_script", "_law_box_here", "_law_forest_here", "_law_first", "_law_deep", "_law_turn", "_law_thing"] : List Str) from by decide +kernel) (by rfl) (fun _ _ _ _ _ _ => by rfl) (fun _ _ _ _ _ _ _ hrb => (pe_callS G_plaindo hrb (by rfl) T.g_plaindo T.F_plaindo.kp T.b_plaindo (fun σ => passAt (takes_of rfl rfl rfl rfl) σ) (pa_cons (pv 2) (pa_cons (pv 7) pa_nil)))) (pa_cons (pv 6) pa_nil)) pe_str (nomark _))))) (pss_one (ps_ret pe_bl)) pss_nil))))
      (pss_one (ps_ret (pe_cmpR op_eq (pe_callB (call_repr rfl hr.units) (by rfl) T.m_repr (by decide +kernel) (pa_cons (pv 2) pa_nil)) (pv 3) (nomark _)))))))))), ?_⟩
  have tb0 : Tb T.tbs H := tbs0 T hR hM hL
  refine ⟨_, rfl, a, ns, rfl, hS, hlen, fun b L H1 s1 nb B1 => ?_⟩
  refine ⟨_, rfl, b, L, 6, 23, rfl, B1, by decide, by decide, by decide, by decide, fun f pts ts H3 fok hle B3 k3 F3 => ?_⟩
  have t3 : Tb T.tbs H3 := (tb0.same s1).but B1 k3
  have sh := forest_shows fok
  refine ⟨_, rfl, _, _, rfl, F3.dp, rfl, sh.sh, sh.nd, sh.dp, sh.ln, ?_⟩
  refine ⟨(by show 3 ≤ sizeLine; decide), fun d0 nd0 => ?_⟩
  have s4 := same_new (o := .tup [.str "tie", .int 0, .int 1]) nd0
  have h4 : upd H3 d0 (.tup [.str "tie", .int 0, .int 1]) d0 = some (.tup [.str "tie", .int 0, .int 1]) := upd_same
  generalize upd H3 d0 (.tup [.str "tie", .int 0, .int 1]) = H4 at s4 h4 ⊢
  have B4 := B3.same s4
  have q4 : DqAll b H4 [.str "tie", .int 0, .int 1] tieD := .cons (.str _) (.cons (.int 0) (.cons (.int 1) .nil))
  have P4 : Deep b H4 0 d0 := ⟨.tuple tieD, .tup (B3.ne nd0) h4 q4, by decide +kernel, by decide +kernel, .tup (B3.ne nd0) h4 q4 (by decide +kernel) (by decide) (.inr rfl)⟩
  refine ⟨_, rfl, b, L, rfl, B4, fun x H5 hx B5 k5 => ?_⟩
  have m0 := Int.emod_nonneg x (show (28 : Int) ≠ 0 by decide)
  have m1 := Int.emod_lt_of_pos x (show (0 : Int) < 28 by decide)
  refine ⟨_, _, rfl, rfl, (by show (0 : Int) < 28; decide), _, rfl, (by omega), (by omega), for_range (lo := 0) (n := (x % 28).toNat) (fun i σ H2 => ∃ (d : Addr) (y5 : Option V), σ = [some (.ref a), some (.ref b), some (.ref f), some (.str (fdata pts ts).shown), some (.ref d), y5, none] ∧ BoxAt H2 b L ∧ Tb T.tbs H2 ∧ Td K H2 (.ref f) (fdata pts ts) ∧ Deep b H2 i d) ⟨d0, none, rfl, B5, (t3.same s4).but B4 k5, (F3.mono (Tups.of_same s4)).mono (B4.tups k5), P4.mono (.of_but k5)⟩ ?_ ?_⟩
  · rintro i σ H6 hi ⟨d, y5, rfl, B6, t6, F6, P6⟩
    refine ⟨_, rfl, (by show 1 ≤ sizeLine; decide), fun p1 n1 => ?_⟩
    have s7 := same_new (o := .tup [.ref d]) n1
    have h7 : upd H6 p1 (.tup [.ref d]) p1 = some (.tup [.ref d]) := upd_same
    have e7 := B6.ne n1
    generalize upd H6 p1 (.tup [.ref d]) = H7 at s7 h7 ⊢
    refine ⟨_, rfl, (by show 1 ≤ sizeLine; decide), fun p2 n2 => ?_⟩
    have s8 := same_new (o := .lst [.ref d]) n2
    have h8 : upd H7 p2 (.lst [.ref d]) p2 = some (.lst [.ref d]) := upd_same
    have e8 := (B6.same s7).ne n2
    generalize upd H7 p2 (.lst [.ref d]) = H8 at s8 h8 ⊢
    refine ⟨(by show 2 ≤ sizeLine; decide), fun p3 n3 => ?_⟩
    have s9 := same_new (o := .lst [.ref p1, .ref p2]) n3
    have h9 : upd H8 p3 (.lst [.ref p1, .ref p2]) p3 = some (.lst [.ref p1, .ref p2]) := upd_same
    have e9 := ((B6.same s7).same s8).ne n3
    generalize upd H8 p3 (.lst [.ref p1, .ref p2]) = H9 at s9 h9 ⊢
    have s69 : Same H6 H9 := s7.trans (s8.trans s9)
    have B9 := B6.same s69
    refine ⟨_, rfl, b, L, rfl, B9, fun x2 H10 hx2 B10 k10 => ?_⟩
    have c0 := Int.emod_nonneg x2 (show (2 : Int) ≠ 0 by decide)
    have c1 := Int.emod_lt_of_pos x2 (show (0 : Int) < 2 by decide)
    have F10 := (F6.mono (Tups.of_same s69)).mono (B9.tups k10)
    have t10 := (t6.same s69).but B9 k10
    have P9 := P6.mono (.of_same s69)
    have pick : ∃ p, atI [V.ref p1, V.ref p2] (x2 % 2) = some (.ref p) ∧ Deep b H9 (i + 1) p := by
      generalize x2 % 2 = r at c0 c1
      have hc : r = 0 ∨ r = 1 := by omega
      rcases hc with rfl | rfl
      · exact ⟨p1, rfl, P9.tup (by omega) e7 (s9 _ _ (s8 _ _ h7))⟩
      · exact ⟨p2, rfl, P9.lst (by omega) e8 (s9 _ _ h8)⟩
    obtain ⟨p, hp, Pp⟩ := pick
    refine ⟨_, _, rfl, rfl, (by show (0 : Int) < 2; decide), p3, _, _, _, rfl, rfl, SqL.of (k10 _ _ h9 e9), hp, ?_⟩
    exact ⟨p, _, rfl, B10, t10, F10, Pp.mono (.of_but k10)⟩
  · rintro σ H6 ⟨d, y5, rfl, B6, t6, F6, P6⟩
    refine ⟨_, rfl, b, L, rfl, B6, fun l xs H7 B7 k7 nlb hl hxl gx => ?_⟩
    have t7 := t6.but B6 k7
    have F7 := F6.mono (B6.tups k7)
    have P7 := P6.mono (.of_but k7)
    obtain ⟨dd, D7, dc, ddp, dg⟩ := P7
    refine ⟨_, rfl, _, rfl, (by show 3 ≤ sizeLine; decide), fun p1 n1 => ?_⟩
    have s8 := same_new (o := .tup [.str "tie", .ref d, .int 0]) n1
    have h8 : upd H7 p1 (.tup [.str "tie", .ref d, .int 0]) p1 = some (.tup [.str "tie", .ref d, .int 0]) := upd_same
    have e8 := B7.ne n1
    generalize upd H7 p1 (.tup [.str "tie", .ref d, .int 0]) = H8 at s8 h8 ⊢
    refine ⟨_, rfl, (by show 3 ≤ sizeLine; decide), fun p2 n2 => ?_⟩
    have s9 := same_new (o := .tup [.ref d, .int 0, .int 1]) n2
    have h9 : upd H8 p2 (.tup [.ref d, .int 0, .int 1]) p2 = some (.tup [.ref d, .int 0, .int 1]) := upd_same
    have e9 := (B7.same s8).ne n2
    generalize upd H8 p2 (.tup [.ref d, .int 0, .int 1]) = H9 at s9 h9 ⊢
    refine ⟨(by show 3 ≤ sizeLine; decide), fun m nm => ?_⟩
    have s10 := same_new (o := .lst [.ref d, .ref p1, .ref p2]) nm
    have h10 : upd H9 m (.lst [.ref d, .ref p1, .ref p2]) m = some (.lst [.ref d, .ref p1, .ref p2]) := upd_same
    generalize upd H9 m (.lst [.ref d, .ref p1, .ref p2]) = H10 at s10 h10 ⊢
    have s710 : Same H7 H10 := s8.trans (s9.trans s10)
    refine ⟨l, m, _, _, rfl, rfl, s710 _ _ hl, h10, (by show xs.length + 3 ≤ sizeLine; exact Nat.le_trans (Nat.add_le_add_right hxl 3) (by decide)), fun l2 nl2 => ?_⟩
    have s11 := same_new (o := .lst (xs ++ [.ref d, .ref p1, .ref p2])) nl2
    have h11 : upd H10 l2 (.lst (xs ++ [.ref d, .ref p1, .ref p2])) l2 = some (.lst (xs ++ [.ref d, .ref p1, .ref p2])) := upd_same
    generalize upd H10 l2 (.lst (xs ++ [.ref d, .ref p1, .ref p2])) = H11 at s11 h11 ⊢
    have s711 : Same H7 H11 := s710.trans s11
    have D11 := D7.mono (.of_same s711)
    have g11 : ∀ v ∈ xs ++ [.ref d, .ref p1, .ref p2], Gd b H11 v := by
      have dp1 : PyData.canLay0 (.tuple [.str "tie", dd, .int 0]) = true := by
        show (PyData.canLay0 (.str "tie") && (PyData.canLay0 dd && true)) = true
        rw [dc]
        decide +kernel
      have dp2 : PyData.canLay0 (.tuple [dd, .int 0, .int 1]) = true := by
        show (PyData.canLay0 dd && true) = true
        rw [dc]
        rfl
      have dz1 : PyData.depth (.tuple [.str "tie", dd, .int 0]) ≤ 64 := by
        show max 0 (max (PyData.depth dd) (max 0 0)) + 1 ≤ _
        omega
      have dz2 : PyData.depth (.tuple [dd, .int 0, .int 1]) ≤ 64 := by
        show max (PyData.depth dd) (max 0 (max 0 0)) + 1 ≤ _
        omega
      intro v mv
      rcases List.mem_append.mp mv with mv | mv
      · exact (gx v mv).mono (.of_same s711)
      · rcases List.mem_cons.mp mv with rfl | mv
        · exact dg.mono (.of_same s711)
        · rcases List.mem_cons.mp mv with rfl | mv
          · exact .tup e8 (s11 _ _ (s10 _ _ (s9 _ _ h8))) (.cons (.str _) (.cons D11 (.cons (.int 0) .nil))) (shape_of dp1 dz1) (by show 3 ≤ 1000; decide) (.inl rfl)
          · rw [List.mem_singleton.mp mv]
            exact .tup e9 (s11 _ _ (s10 _ _ h9)) (.cons D11 (.cons (.int 0) (.cons (.int 1) .nil))) (shape_of dp2 dz2) (by show 3 ≤ 1000; decide) (.inl rfl)
    refine ⟨l2, rfl, ⟨_, SqL.of h11⟩, for_list (K := K) (a := l2) (xs := xs ++ [.ref d, .ref p1, .ref p2]) (fun i σ H2 => ∃ (y5 y6 : Option V), σ = [some (.ref a), some (.ref b), some (.ref f), some (.str (fdata pts ts).shown), some (.ref d), y5, y6] ∧ Kp H11 H2 ∧ Tb T.tbs H2) ⟨_, _, rfl, Kp.refl _, t7.same s711⟩ (fun i σ H2 _ h => ?_) ?_ ?_⟩
    · obtain ⟨_, _, _, k, _⟩ := h
      exact SqL.of (k _ _ h11 (by intro ps z; cases z))
    · rintro i v σ H12 hv ⟨y5, y6, rfl, k12, t12⟩
      have g12 : Gd b H12 v := (g11 v (List.mem_of_getElem? hv)).mono (.of_kp k12)
      have D12 := D11.mono (.of_kp k12)
      refine ⟨fun σ' H' => ∃ u, σ' = [some (.ref a), some (.ref b), some (.ref f), some (.str (fdata pts ts).shown), some (.ref d), y5, some u] ∧ Same H12 H' ∧ ThingV H' u false, ?_, ?_⟩
      · refine ⟨_, rfl, (by show 3 ≤ sizeLine; decide), fun t nt => ?_⟩
        have s13 := same_new (o := .tup [.str "tie", .int 0, .int 1]) nt
        have h13 : upd H12 t (.tup [.str "tie", .int 0, .int 1]) t = some (.tup [.str "tie", .int 0, .int 1]) := upd_same
        generalize upd H12 t (.tup [.str "tie", .int 0, .int 1]) = H13 at s13 h13 ⊢
        refine (g12.mono (.of_same s13)).eq (SqT.of h13) fun bb hb => ?_
        cases bb with
        | false => exact ⟨_, rfl, iteF ⟨_, rfl, s13, hb rfl⟩⟩
        | true =>
          refine ⟨_, rfl, iteT ?_⟩
          refine ⟨_, rfl, (by show 4 ≤ sizeLine; decide), fun t2 nt2 => ?_⟩
          refine ⟨_, rfl, s13.trans (same_new nt2), .inl ⟨t2, _, rfl, (by show 4 ≤ 1000; decide), upd_same, ?_, rfl⟩⟩
          intro z hz
          have D14 := D12.mono (.of_same (s13.trans (same_new (o := .tup [.str "tie", .int 0, .ref d, .int 1]) nt2)))
          exact (show DqAll b _ [.str "tie", .int 0, .ref d, .int 1] _ from .cons (.str _) (.cons (.int 0) (.cons D14 (.cons (.int 1) .nil)))).any z hz
      · rintro σ' H14 ⟨u, rfl, s14, th⟩
        have t14 := t12.same s14
        have k14 := k12.same s14
        refine ⟨_, rfl, u, false, rfl, t14, th, fun H15 k15 t15 => ⟨_, _, rfl, rfl, _, rfl, iteF ?_⟩⟩
        have tl6 := t15.s T.mL
        refine ⟨tl6, fun H16 k16 tl16 => ?_⟩
        have t16 := t15.lam T.nd T.mL k16 tl16
        have k1416 : Kp H14 H16 := k15.trans (Kp.of_but (TabS.g tl6) k16)
        refine ⟨_, rfl, _, rfl, LamX.ExtN.refl _, fun H17 E' Q' s17 hraise hret => ?_⟩
        have t17 := t16.same s17
        have k1417 := k1416.same s17
        have k1117 := k14.trans k1417
        have F17 := (F7.mono (Tups.of_same s711)).mono (Tups.of_kp k1117)
        obtain ⟨fa, pa, ta, xs', ys', efa, f1, f2, f3, _, _⟩ := Td.parts F17
        cases efa
        refine ⟨_, rfl, _, rfl, f, pa, _, xs', u, false, rfl, f1, f2, t17, th.kp k1417, (fun z => nomatch z), fun H18 k18 t18 => ?_⟩
        refine hraise 0 (by decide) H18 fun H19 s19 => ?_
        refine ⟨rfl, _, rfl, iteF ?_⟩
        exact ⟨_, _, rfl, (k1117.trans k18).same s19, t18.same s19⟩
    · rintro σ H12 ⟨y5, y6, rfl, k12, t12⟩
      have F12 := (F7.mono (Tups.of_same s711)).mono (Tups.of_kp k12)
      refine ⟨_, rfl, _, _, rfl, F12.dp, rfl, sh.sh, sh.nd, sh.dp, sh.ln, ?_⟩
      refine ⟨_, rfl, rfl, ?_⟩
      exact congrArg V.bl (decide_eq_true rfl)
end

end My
namespace My
open PySem L2
theorem mem1 {α : Type} {p a : α} (h : p ∈ [a]) : p = a := List.mem_singleton.mp h
theorem mem2 {α : Type} {p a b : α} (h : p ∈ [a, b]) : p = a ∨ p = b := (List.mem_cons.mp h).imp id mem1
theorem mem3 {α : Type} {p a b c : α} (h : p ∈ [a, b, c]) : p = a ∨ p = b ∨ p = c := (List.mem_cons.mp h).imp id mem2
theorem all_mk {l : PySem.W.OpenLaw} {w : World} {K : PySem.W.Frag} {h : Heap} {mg : Str → Option Value} {fa f0 f1 f2 f3 f4 f5 f6 f7 f8 f9 f10 f11 f12 f13 f14 f15 f16 f17 : Addr} {fK fF : Addr} {esF : Array DictEntry} {nF : Nat} {cR PR : Addr} {eR : Value} {ddR : Option Addr} {vsR : Array Value} {sloR : Array (Option Value)} {cM PM : Addr} {eM : Value} {ddM : Option Addr} {vsM : Array Value} {sloM : Array (Option Value)} {cL PL : Addr} {eL : Value} {ddL : Option Addr} {vsL : Array Value} {sloL : Array (Option Value)} (X : K.In h) (G : h.Ns mainGlobals mg) (hfa : mg "law" = some (.ref fa))
    {od0 an0 od1 an1 od2 an2 od3 an3 od4 an4 od5 an5 od6 an6 od7 an7 od8 an8 od9 an9 od10 an10 od11 an11 od12 an12 od13 an13 od14 an14 od15 an15 od16 an16 od17 an17 : Option Addr} {sl0 sl1 sl2 sl3 sl4 sl5 sl6 sl7 sl8 sl9 sl10 sl11 sl12 sl13 sl14 sl15 sl16 sl17 : Array (Option Value)} {oc0 kV0 dc0 pm0 cd0 ct0 oc1 kV1 dc1 pm1 cd1 ct1 oc2 kV2 dc2 pm2 cd2 ct2 oc3 kV3 dc3 pm3 cd3 ct3 oc4 kV4 dc4 pm4 cd4 ct4 oc5 kV5 dc5 pm5 cd5 ct5 oc6 kV6 dc6 pm6 cd6 ct6 oc7 kV7 dc7 pm7 cd7 ct7 oc8 kV8 dc8 pm8 cd8 ct8 oc9 kV9 dc9 pm9 cd9 ct9 oc10 kV10 dc10 pm10 cd10 ct10 oc11 kV11 dc11 pm11 cd11 ct11 oc12 kV12 dc12 pm12 cd12 ct12 oc13 kV13 dc13 pm13 cd13 ct13 oc14 kV14 dc14 pm14 cd14 ct14 oc15 kV15 dc15 pm15 cd15 ct15 oc16 kV16 dc16 pm16 cd16 ct16 oc17 kV17 dc17 pm17 cd17 ct17 : Value}
    (a0 : PySem.W.nsIn K mainGlobals "is_whole" = some (some (.ref f0))) (l0 : K.lookup f0 = some ⟨oc0, od0, .func (PySem.W.fnOf "is_whole" "is_whole" (defArgs s_iswhole) (defBody s_iswhole) (defScope s_iswhole) .none kV0 dc0 pm0 an0 cd0 ct0), sl0⟩) (c0 : PySem.W.codeIn K cd0 "is_whole" = true) (k0 : PySem.W.keepIn K (.ref f0) = true)
    (a1 : PySem.W.nsIn K mainGlobals "is_kind" = some (some (.ref f1))) (l1 : K.lookup f1 = some ⟨oc1, od1, .func (PySem.W.fnOf "is_kind" "is_kind" (defArgs s_iskind) (defBody s_iskind) (defScope s_iskind) .none kV1 dc1 pm1 an1 cd1 ct1), sl1⟩) (c1 : PySem.W.codeIn K cd1 "is_kind" = true) (k1 : PySem.W.keepIn K (.ref f1) = true)
    (a2 : PySem.W.nsIn K mainGlobals "is_row" = some (some (.ref f2))) (l2 : K.lookup f2 = some ⟨oc2, od2, .func (PySem.W.fnOf "is_row" "is_row" (defArgs s_isrow) (defBody s_isrow) (defScope s_isrow) .none kV2 dc2 pm2 an2 cd2 ct2), sl2⟩) (c2 : PySem.W.codeIn K cd2 "is_row" = true) (k2 : PySem.W.keepIn K (.ref f2) = true)
    (a3 : PySem.W.nsIn K mainGlobals "fits" = some (some (.ref f3))) (l3 : K.lookup f3 = some ⟨oc3, od3, .func (PySem.W.fnOf "fits" "fits" (defArgs s_fits) (defBody s_fits) (defScope s_fits) .none kV3 dc3 pm3 an3 cd3 ct3), sl3⟩) (c3 : PySem.W.codeIn K cd3 "fits" = true) (k3 : PySem.W.keepIn K (.ref f3) = true)
    (a4 : PySem.W.nsIn K mainGlobals "points_named" = some (some (.ref f4))) (l4 : K.lookup f4 = some ⟨oc4, od4, .func (PySem.W.fnOf "points_named" "points_named" (defArgs s_pointsnamed) (defBody s_pointsnamed) (defScope s_pointsnamed) .none kV4 dc4 pm4 an4 cd4 ct4), sl4⟩) (c4 : PySem.W.codeIn K cd4 "points_named" = true) (k4 : PySem.W.keepIn K (.ref f4) = true)
    (a5 : PySem.W.nsIn K mainGlobals "refuse_unfit" = some (some (.ref f5))) (l5 : K.lookup f5 = some ⟨oc5, od5, .func (PySem.W.fnOf "refuse_unfit" "refuse_unfit" (defArgs s_refuseunfit) (defBody s_refuseunfit) (defScope s_refuseunfit) .none kV5 dc5 pm5 an5 cd5 ct5), sl5⟩) (c5 : PySem.W.codeIn K cd5 "refuse_unfit" = true) (k5 : PySem.W.keepIn K (.ref f5) = true)
    (a6 : PySem.W.nsIn K mainGlobals "refuse_missing" = some (some (.ref f6))) (l6 : K.lookup f6 = some ⟨oc6, od6, .func (PySem.W.fnOf "refuse_missing" "refuse_missing" (defArgs s_refusemissing) (defBody s_refusemissing) (defScope s_refusemissing) .none kV6 dc6 pm6 an6 cd6 ct6), sl6⟩) (c6 : PySem.W.codeIn K cd6 "refuse_missing" = true) (k6 : PySem.W.keepIn K (.ref f6) = true)
    (a7 : PySem.W.nsIn K mainGlobals "plain_do" = some (some (.ref f7))) (l7 : K.lookup f7 = some ⟨oc7, od7, .func (PySem.W.fnOf "plain_do" "plain_do" (defArgs s_plaindo) (defBody s_plaindo) (defScope s_plaindo) .none kV7 dc7 pm7 an7 cd7 ct7), sl7⟩) (c7 : PySem.W.codeIn K cd7 "plain_do" = true) (k7 : PySem.W.keepIn K (.ref f7) = true)
    (a8 : PySem.W.nsIn K mainGlobals "_law_mixed" = some (some (.ref f8))) (l8 : K.lookup f8 = some ⟨oc8, od8, .func (PySem.W.fnOf "_law_mixed" "_law_mixed" (defArgs s_Lmixed) (defBody s_Lmixed) (defScope s_Lmixed) .none kV8 dc8 pm8 an8 cd8 ct8), sl8⟩) (c8 : PySem.W.codeIn K cd8 "_law_mixed" = true) (k8 : PySem.W.keepIn K (.ref f8) = true)
    (a9 : PySem.W.nsIn K mainGlobals "_law_box" = some (some (.ref f9))) (l9 : K.lookup f9 = some ⟨oc9, od9, .func (PySem.W.fnOf "_law_box" "_law_box" (defArgs s_Lbox) (defBody s_Lbox) (defScope s_Lbox) .none kV9 dc9 pm9 an9 cd9 ct9), sl9⟩) (c9 : PySem.W.codeIn K cd9 "_law_box" = true) (k9 : PySem.W.keepIn K (.ref f9) = true)
    (a10 : PySem.W.nsIn K mainGlobals "_law_next" = some (some (.ref f10))) (l10 : K.lookup f10 = some ⟨oc10, od10, .func (PySem.W.fnOf "_law_next" "_law_next" (defArgs s_Lnext) (defBody s_Lnext) (defScope s_Lnext) .none kV10 dc10 pm10 an10 cd10 ct10), sl10⟩) (c10 : PySem.W.codeIn K cd10 "_law_next" = true) (k10 : PySem.W.keepIn K (.ref f10) = true)
    (a11 : PySem.W.nsIn K mainGlobals "_law_few" = some (some (.ref f11))) (l11 : K.lookup f11 = some ⟨oc11, od11, .func (PySem.W.fnOf "_law_few" "_law_few" (defArgs s_Lfew) (defBody s_Lfew) (defScope s_Lfew) .none kV11 dc11 pm11 an11 cd11 ct11), sl11⟩) (c11 : PySem.W.codeIn K cd11 "_law_few" = true) (k11 : PySem.W.keepIn K (.ref f11) = true)
    (a12 : PySem.W.nsIn K mainGlobals "_law_worth" = some (some (.ref f12))) (l12 : K.lookup f12 = some ⟨oc12, od12, .func (PySem.W.fnOf "_law_worth" "_law_worth" (defArgs s_Lworth) (defBody s_Lworth) (defScope s_Lworth) .none kV12 dc12 pm12 an12 cd12 ct12), sl12⟩) (c12 : PySem.W.codeIn K cd12 "_law_worth" = true) (k12 : PySem.W.keepIn K (.ref f12) = true)
    (a13 : PySem.W.nsIn K mainGlobals "_law_point" = some (some (.ref f13))) (l13 : K.lookup f13 = some ⟨oc13, od13, .func (PySem.W.fnOf "_law_point" "_law_point" (defArgs s_Lpoint) (defBody s_Lpoint) (defScope s_Lpoint) .none kV13 dc13 pm13 an13 cd13 ct13), sl13⟩) (c13 : PySem.W.codeIn K cd13 "_law_point" = true) (k13 : PySem.W.keepIn K (.ref f13) = true)
    (a14 : PySem.W.nsIn K mainGlobals "_law_forest" = some (some (.ref f14))) (l14 : K.lookup f14 = some ⟨oc14, od14, .func (PySem.W.fnOf "_law_forest" "_law_forest" (defArgs s_Lforest) (defBody s_Lforest) (defScope s_Lforest) .none kV14 dc14 pm14 an14 cd14 ct14), sl14⟩) (c14 : PySem.W.codeIn K cd14 "_law_forest" = true) (k14 : PySem.W.keepIn K (.ref f14) = true)
    (a15 : PySem.W.nsIn K mainGlobals "_law_refused" = some (some (.ref f15))) (l15 : K.lookup f15 = some ⟨oc15, od15, .func (PySem.W.fnOf "_law_refused" "_law_refused" (defArgs s_Lrefused) (defBody s_Lrefused) (defScope s_Lrefused) .none kV15 dc15 pm15 an15 cd15 ct15), sl15⟩) (c15 : PySem.W.codeIn K cd15 "_law_refused" = true) (k15 : PySem.W.keepIn K (.ref f15) = true)
    (a16 : PySem.W.nsIn K mainGlobals "_law_things" = some (some (.ref f16))) (l16 : K.lookup f16 = some ⟨oc16, od16, .func (PySem.W.fnOf "_law_things" "_law_things" (defArgs s_Lthings) (defBody s_Lthings) (defScope s_Lthings) .none kV16 dc16 pm16 an16 cd16 ct16), sl16⟩) (c16 : PySem.W.codeIn K cd16 "_law_things" = true) (k16 : PySem.W.keepIn K (.ref f16) = true)
    (a17 : PySem.W.nsIn K mainGlobals "law" = some (some (.ref f17))) (l17 : K.lookup f17 = some ⟨oc17, od17, .func (PySem.W.fnOf "law" "law" (defArgs s_law) (defBody s_law) (defScope s_law) .none kV17 dc17 pm17 an17 cd17 ct17), sl17⟩) (c17 : PySem.W.codeIn K cd17 "law" = true) (k17 : PySem.W.keepIn K (.ref f17) = true)
    (z0 : PySem.W.nsIn K mainGlobals "ValueError" = some none)
    (z1 : PySem.W.nsIn K mainGlobals "all" = some none)
    (z2 : PySem.W.nsIn K mainGlobals "bool" = some none)
    (z3 : PySem.W.nsIn K mainGlobals "int" = some none)
    (z4 : PySem.W.nsIn K mainGlobals "isinstance" = some none)
    (z5 : PySem.W.nsIn K mainGlobals "len" = some none)
    (z6 : PySem.W.nsIn K mainGlobals "max" = some none)
    (z7 : PySem.W.nsIn K mainGlobals "min" = some none)
    (z8 : PySem.W.nsIn K mainGlobals "range" = some none)
    (z9 : PySem.W.nsIn K mainGlobals "repr" = some none)
    (z10 : PySem.W.nsIn K mainGlobals "sorted" = some none)
    (z11 : PySem.W.nsIn K mainGlobals "str" = some none)
    (z12 : PySem.W.nsIn K mainGlobals "sum" = some none)
    (z13 : PySem.W.nsIn K mainGlobals "tuple" = some none)
    (z14 : PySem.W.nsIn K mainGlobals "zip" = some none)
    (q_TreeError : PySem.W.nsIn K mainGlobals "TreeError" = some (some (.ref cTreeError)))
    (q_NoRow : PySem.W.nsIn K mainGlobals "NoRow" = some (some (.ref cNoRow)))
    (q_NoPoint : PySem.W.nsIn K mainGlobals "NoPoint" = some (some (.ref cNoPoint)))
    (q_Ring : PySem.W.nsIn K mainGlobals "Ring" = some (some (.ref cRing)))
    (q_NoTie : PySem.W.nsIn K mainGlobals "NoTie" = some (some (.ref cNoTie)))
    (q_Apart : PySem.W.nsIn K mainGlobals "Apart" = some (some (.ref cApart)))
    (q_NoPlace : PySem.W.nsIn K mainGlobals "NoPlace" = some (some (.ref cNoPlace)))
    (q_NoDeed : PySem.W.nsIn K mainGlobals "NoDeed" = some (some (.ref cNoDeed)))
    (h_NoRow : PySem.W.keepIn K (.ref cNoRow) = true)
    (j_NoRow : xcB K cNoRow = true)
    (e_NoRow : PySem.W.excIn K cNoRow veB "ValueError.__new__" = true)
    (b_NoRow : PySem.W.subIn K (.ref cNoRow) (.type "BaseException") = some true)
    (t_NoRow : PySem.W.typeIn K (.ref cNoRow) = some (.type "type"))
    (m_NoRow : PySem.W.exmOne K (.ref cNoRow) (.ref cTreeError) = some true)
    (y_NoRow : PySem.W.kitOne K (.ref cNoRow) (.type "ValueError") = some true)
    (h_NoPoint : PySem.W.keepIn K (.ref cNoPoint) = true)
    (j_NoPoint : xcB K cNoPoint = true)
    (e_NoPoint : PySem.W.excIn K cNoPoint veB "ValueError.__new__" = true)
    (b_NoPoint : PySem.W.subIn K (.ref cNoPoint) (.type "BaseException") = some true)
    (t_NoPoint : PySem.W.typeIn K (.ref cNoPoint) = some (.type "type"))
    (m_NoPoint : PySem.W.exmOne K (.ref cNoPoint) (.ref cTreeError) = some true)
    (y_NoPoint : PySem.W.kitOne K (.ref cNoPoint) (.type "ValueError") = some true)
    (h_Ring : PySem.W.keepIn K (.ref cRing) = true)
    (j_Ring : xcB K cRing = true)
    (e_Ring : PySem.W.excIn K cRing veB "ValueError.__new__" = true)
    (b_Ring : PySem.W.subIn K (.ref cRing) (.type "BaseException") = some true)
    (t_Ring : PySem.W.typeIn K (.ref cRing) = some (.type "type"))
    (m_Ring : PySem.W.exmOne K (.ref cRing) (.ref cTreeError) = some true)
    (y_Ring : PySem.W.kitOne K (.ref cRing) (.type "ValueError") = some true)
    (h_NoTie : PySem.W.keepIn K (.ref cNoTie) = true)
    (j_NoTie : xcB K cNoTie = true)
    (e_NoTie : PySem.W.excIn K cNoTie veB "ValueError.__new__" = true)
    (b_NoTie : PySem.W.subIn K (.ref cNoTie) (.type "BaseException") = some true)
    (t_NoTie : PySem.W.typeIn K (.ref cNoTie) = some (.type "type"))
    (m_NoTie : PySem.W.exmOne K (.ref cNoTie) (.ref cTreeError) = some true)
    (y_NoTie : PySem.W.kitOne K (.ref cNoTie) (.type "ValueError") = some true)
    (h_Apart : PySem.W.keepIn K (.ref cApart) = true)
    (j_Apart : xcB K cApart = true)
    (e_Apart : PySem.W.excIn K cApart veB "ValueError.__new__" = true)
    (b_Apart : PySem.W.subIn K (.ref cApart) (.type "BaseException") = some true)
    (t_Apart : PySem.W.typeIn K (.ref cApart) = some (.type "type"))
    (m_Apart : PySem.W.exmOne K (.ref cApart) (.ref cTreeError) = some true)
    (y_Apart : PySem.W.kitOne K (.ref cApart) (.type "ValueError") = some true)
    (h_NoPlace : PySem.W.keepIn K (.ref cNoPlace) = true)
    (j_NoPlace : xcB K cNoPlace = true)
    (e_NoPlace : PySem.W.excIn K cNoPlace veB "ValueError.__new__" = true)
    (b_NoPlace : PySem.W.subIn K (.ref cNoPlace) (.type "BaseException") = some true)
    (t_NoPlace : PySem.W.typeIn K (.ref cNoPlace) = some (.type "type"))
    (m_NoPlace : PySem.W.exmOne K (.ref cNoPlace) (.ref cTreeError) = some true)
    (y_NoPlace : PySem.W.kitOne K (.ref cNoPlace) (.type "ValueError") = some true)
    (h_NoDeed : PySem.W.keepIn K (.ref cNoDeed) = true)
    (j_NoDeed : xcB K cNoDeed = true)
    (e_NoDeed : PySem.W.excIn K cNoDeed veB "ValueError.__new__" = true)
    (b_NoDeed : PySem.W.subIn K (.ref cNoDeed) (.type "BaseException") = some true)
    (t_NoDeed : PySem.W.typeIn K (.ref cNoDeed) = some (.type "type"))
    (m_NoDeed : PySem.W.exmOne K (.ref cNoDeed) (.ref cTreeError) = some true)
    (y_NoDeed : PySem.W.kitOne K (.ref cNoDeed) (.type "ValueError") = some true)
    (hkits : kitsB K cTreeError [cNoRow, cNoPoint, cRing, cNoTie, cApart, cNoPlace, cNoDeed] = true)
    (qK : PySem.W.nsIn K mainGlobals "KINDS" = some (some (.ref fK)))
    (hK : tupB K fK kinds = true)
    (qF : PySem.W.nsIn K mainGlobals "FORMS" = some (some (.ref fF)))
    (hlF : K.lookup fF = some ⟨.type "dict", none, .dict esF nF, #[]⟩)
    (hkF : PySem.W.KeysLit w.params esF.toList)
    (hoF : (fF == sysModules) = false)
    (hfF : formB K esF.toList formsT = true)
    (hcR : cd2 = .ref cR)
    (lcR : K.lookup cR = some ⟨eR, ddR, .fields vsR, sloR⟩)
    (v11R : vsR[11]? = some (.ref PR))
    (nPR : K.lookup PR = none)
    (hdR : PySem.W.codeHdIn K cR PR = true)
    (hcM : cd6 = .ref cM)
    (lcM : K.lookup cM = some ⟨eM, ddM, .fields vsM, sloM⟩)
    (v11M : vsM[11]? = some (.ref PM))
    (nPM : K.lookup PM = none)
    (hdM : PySem.W.codeHdIn K cM PM = true)
    (hcL : cd17 = .ref cL)
    (lcL : K.lookup cL = some ⟨eL, ddL, .fields vsL, sloL⟩)
    (v11L : vsL[11]? = some (.ref PL))
    (nPL : K.lookup PL = none)
    (hdL : PySem.W.codeHdIn K cL PL = true)
    (hneP : ([PR, PM, PL] : List Addr).Nodup)
    (tabs : ∀ nm ∈ (["is_row", "refuse_missing", "law"] : List Str), TabAt mg h nm) : ∃ cs : List (Addr × Addr), (∀ p ∈ cs, h.get? p.2 = some { cls := .none, data := .fields #[] }) ∧ (∀ p ∈ cs, K.lookup p.2 = none) ∧ (∀ p ∈ cs, PySem.W.CodeHd h p.1 p.2) ∧
      ∀ (s : Shared) (H : Hp) (base : Heap) (a : Addr) (ns : List Int), ns.length ≤ 63 → (∀ z ∈ ns, Builtin.Int.intBits z ≤ 1048576) → (∀ p ∈ cs, LamX.TabB base mg p.1 p.2) → Env0 l.prog w K mg base callerA [] s H → (∀ p ∈ cs, H p.2 = some (.tbl #[])) → SqL K H a (ns.map V.int) →
        codeAny (model l.prog w) callerA (.call (.ref fa) ⟨[.ref a], []⟩) (CR CX0 [] l.prog w H s (fun v _ => v = .bl true) E0) s := by
  have e := hfa.symm.trans (PySem.W.mg_of X G a17)
  cases e
  have F0 := fun_mk (st := s_iswhole) l0 c0 k0
  have b0 := F0.binds (ps := ["thing"]) fun _ _ _ _ _ _ us hl => match us, hl with | [_], _ => rfl
  have F1 := fun_mk (st := s_iskind) l1 c1 k1
  have b1 := F1.binds (ps := ["thing"]) fun _ _ _ _ _ _ us hl => match us, hl with | [_], _ => rfl
  have F2 := fun_mk (st := s_isrow) l2 c2 k2
  have b2 := F2.binds (ps := ["thing"]) fun _ _ _ _ _ _ us hl => match us, hl with | [_], _ => rfl
  have F3 := fun_mk (st := s_fits) l3 c3 k3
  have b3 := F3.binds (ps := ["part", "wanted"]) fun _ _ _ _ _ _ us hl => match us, hl with | [_, _], _ => rfl
  have F4 := fun_mk (st := s_pointsnamed) l4 c4 k4
  have b4 := F4.binds (ps := ["row"]) fun _ _ _ _ _ _ us hl => match us, hl with | [_], _ => rfl
  have F5 := fun_mk (st := s_refuseunfit) l5 c5 k5
  have b5 := F5.binds (ps := ["row", "many"]) fun _ _ _ _ _ _ us hl => match us, hl with | [_, _], _ => rfl
  have F6 := fun_mk (st := s_refusemissing) l6 c6 k6
  have b6 := F6.binds (ps := ["numbers", "many"]) fun _ _ _ _ _ _ us hl => match us, hl with | [_, _], _ => rfl
  have F7 := fun_mk (st := s_plaindo) l7 c7 k7
  have b7 := F7.binds (ps := ["forest", "row"]) fun _ _ _ _ _ _ us hl => match us, hl with | [_, _], _ => rfl
  have F8 := fun_mk (st := s_Lmixed) l8 c8 k8
  have b8 := F8.binds (ps := ["_law_cell", "_law_many"]) fun _ _ _ _ _ _ us hl => match us, hl with | [_, _], _ => rfl
  have F9 := fun_mk (st := s_Lbox) l9 c9 k9
  have b9 := F9.binds (ps := ["_law_script"]) fun _ _ _ _ _ _ us hl => match us, hl with | [_], _ => rfl
  have F10 := fun_mk (st := s_Lnext) l10 c10 k10
  have b10 := F10.binds (ps := ["_law_box_here"]) fun _ _ _ _ _ _ us hl => match us, hl with | [_], _ => rfl
  have F11 := fun_mk (st := s_Lfew) l11 c11 k11
  have b11 := F11.binds (ps := ["_law_box_here", "_law_few_here", "_law_most"]) fun _ _ _ _ _ _ us hl => match us, hl with | [_, _, _], _ => rfl
  have F12 := fun_mk (st := s_Lworth) l12 c12 k12
  have b12 := F12.binds (ps := ["_law_box_here"]) fun _ _ _ _ _ _ us hl => match us, hl with | [_], _ => rfl
  have F13 := fun_mk (st := s_Lpoint) l13 c13 k13
  have b13 := F13.binds (ps := ["_law_box_here"]) fun _ _ _ _ _ _ us hl => match us, hl with | [_], _ => rfl
  have F14 := fun_mk (st := s_Lforest) l14 c14 k14
  have b14 := F14.binds (ps := ["_law_box_here", "_law_few_here", "_law_most"]) fun _ _ _ _ _ _ us hl => match us, hl with | [_, _, _], _ => rfl
  have F15 := fun_mk (st := s_Lrefused) l15 c15 k15
  have b15 := F15.binds (ps := ["_law_told_by", "_law_thing"]) fun _ _ _ _ _ _ us hl => match us, hl with | [_, _], _ => rfl
  have F16 := fun_mk (st := s_Lthings) l16 c16 k16
  have b16 := F16.binds (ps := ["_law_box_here"]) fun _ _ _ _ _ _ us hl => match us, hl with | [_], _ => rfl
  have F17 := fun_mk (st := s_law) l17 c17 k17
  have b17 := F17.binds (ps := ["_law_script"]) fun _ _ _ _ _ _ us hl => match us, hl with | [_], _ => rfl
  let T : Top w K mg := ⟨_, _, F0, b0, PySem.W.mg_of X G a0, _, _, F1, b1, PySem.W.mg_of X G a1, _, _, F2, b2, PySem.W.mg_of X G a2, _, _, F3, b3, PySem.W.mg_of X G a3, _, _, F4, b4, PySem.W.mg_of X G a4, _, _, F5, b5, PySem.W.mg_of X G a5, _, _, F6, b6, PySem.W.mg_of X G a6, _, _, F7, b7, PySem.W.mg_of X G a7, _, _, F8, b8, PySem.W.mg_of X G a8, _, _, F9, b9, PySem.W.mg_of X G a9, _, _, F10, b10, PySem.W.mg_of X G a10, _, _, F11, b11, PySem.W.mg_of X G a11, _, _, F12, b12, PySem.W.mg_of X G a12, _, _, F13, b13, PySem.W.mg_of X G a13, _, _, F14, b14, PySem.W.mg_of X G a14, _, _, F15, b15, PySem.W.mg_of X G a15, _, _, F16, b16, PySem.W.mg_of X G a16, _, _, F17, b17, PySem.W.mg_of X G a17, PySem.W.mg_none_of X G z0, PySem.W.mg_none_of X G z1, PySem.W.mg_none_of X G z2, PySem.W.mg_none_of X G z3, PySem.W.mg_none_of X G z4, PySem.W.mg_none_of X G z5, PySem.W.mg_none_of X G z6, PySem.W.mg_none_of X G z7, PySem.W.mg_none_of X G z8, PySem.W.mg_none_of X G z9, PySem.W.mg_none_of X G z10, PySem.W.mg_none_of X G z11, PySem.W.mg_none_of X G z12, PySem.W.mg_none_of X G z13, PySem.W.mg_none_of X G z14, _, _, _, _, _, _, _, _, PySem.W.mg_of X G q_TreeError, PySem.W.mg_of X G q_NoRow, PySem.W.mg_of X G q_NoPoint, PySem.W.mg_of X G q_Ring, PySem.W.mg_of X G q_NoTie, PySem.W.mg_of X G q_Apart, PySem.W.mg_of X G q_NoPlace, PySem.W.mg_of X G q_NoDeed, h_NoRow, xcB_ok j_NoRow, e_NoRow, b_NoRow, t_NoRow, m_NoRow, y_NoRow, h_NoPoint, xcB_ok j_NoPoint, e_NoPoint, b_NoPoint, t_NoPoint, m_NoPoint, y_NoPoint, h_Ring, xcB_ok j_Ring, e_Ring, b_Ring, t_Ring, m_Ring, y_Ring, h_NoTie, xcB_ok j_NoTie, e_NoTie, b_NoTie, t_NoTie, m_NoTie, y_NoTie, h_Apart, xcB_ok j_Apart, e_Apart, b_Apart, t_Apart, m_Apart, y_Apart, h_NoPlace, xcB_ok j_NoPlace, e_NoPlace, b_NoPlace, t_NoPlace, m_NoPlace, y_NoPlace, h_NoDeed, xcB_ok j_NoDeed, e_NoDeed, b_NoDeed, t_NoDeed, m_NoDeed, y_NoDeed, hkits, _, PySem.W.mg_of X G qK, hK, _, PySem.W.mg_of X G qF, _, _, hlF, hkF, hoF, hfF, cR, PR, hcR, cM, PM, hcM, cL, PL, hcL, hneP⟩
  refine ⟨[(cR, PR), (cM, PM), (cL, PL)], ?_, ?_, ?_, fun s H base a ns hlen hbits tb e0 th sq => ?_⟩
  · intro p hp
    rcases mem3 hp with rfl | rfl | rfl
    · exact tab_empty (tabs _ List.mem_cons_self) X (PySem.W.mg_of X G a2) l2 rfl hcR lcR v11R
    · exact tab_empty (tabs _ (List.mem_cons_of_mem _ List.mem_cons_self)) X (PySem.W.mg_of X G a6) l6 rfl hcM lcM v11M
    · exact tab_empty (tabs _ (List.mem_cons_of_mem _ (List.mem_cons_of_mem _ List.mem_cons_self))) X (PySem.W.mg_of X G a17) l17 rfl hcL lcL v11L
  · intro p hp
    rcases mem3 hp with rfl | rfl | rfl
    · exact nPR
    · exact nPM
    · exact nPL
  · intro p hp
    rcases mem3 hp with rfl | rfl | rfl
    · exact PySem.W.codeHd_of_K X hdR
    · exact PySem.W.codeHd_of_K X hdM
    · exact PySem.W.codeHd_of_K X hdL
  · exact run_law T ⟨(tb _ List.mem_cons_self).code, (tb _ List.mem_cons_self).bm, (tb _ List.mem_cons_self).gP⟩ ⟨(tb _ (List.mem_cons_of_mem _ List.mem_cons_self)).code, (tb _ (List.mem_cons_of_mem _ List.mem_cons_self)).bm, (tb _ (List.mem_cons_of_mem _ List.mem_cons_self)).gP⟩ (tb _ (List.mem_cons_of_mem _ (List.mem_cons_of_mem _ List.mem_cons_self))) e0 (th _ List.mem_cons_self) (th _ (List.mem_cons_of_mem _ List.mem_cons_self)) (th _ (List.mem_cons_of_mem _ (List.mem_cons_of_mem _ List.mem_cons_self))) sq hlen ⟨rfl, by decide, by decide⟩ (fun s u => .of_eq rfl)
end My
open PySem PySem.W PyProof.Rows
set_option maxRecDepth 100000 in
set_option maxHeartbeats 0 in
theorem PySem.Challenge.cw_tiedcut_k11_rows_of_anything_holds : PySem.Challenge.rw_tiedcut_k11_rows_of_anything.Holds := by
  w_on; o_law; k_head; (case hw => w_witness2)
  k_fill
  refine My.walk_law0 (l := PySem.Challenge.rw_tiedcut_k11_rows_of_anything) (most := 63) ["is_row", "refuse_missing", "law"] rfl (by decide) rfl (by decide +kernel) (fun w h Y => by first | exact PySem.W.kIn_of Y | exact PySem.W.km_in_of Y) ?F
  case F =>
    intro w mg fa h KX G hmg tabs
    refine' My.all_mk KX G hmg ?a0 ?l0 ?c0 ?k0 ?a1 ?l1 ?c1 ?k1 ?a2 ?l2 ?c2 ?k2 ?a3 ?l3 ?c3 ?k3 ?a4 ?l4 ?c4 ?k4 ?a5 ?l5 ?c5 ?k5 ?a6 ?l6 ?c6 ?k6 ?a7 ?l7 ?c7 ?k7 ?a8 ?l8 ?c8 ?k8 ?a9 ?l9 ?c9 ?k9 ?a10 ?l10 ?c10 ?k10 ?a11 ?l11 ?c11 ?k11 ?a12 ?l12 ?c12 ?k12 ?a13 ?l13 ?c13 ?k13 ?a14 ?l14 ?c14 ?k14 ?a15 ?l15 ?c15 ?k15 ?a16 ?l16 ?c16 ?k16 ?a17 ?l17 ?c17 ?k17 ?z0 ?z1 ?z2 ?z3 ?z4 ?z5 ?z6 ?z7 ?z8 ?z9 ?z10 ?z11 ?z12 ?z13 ?z14 ?q_TreeError ?q_NoRow ?q_NoPoint ?q_Ring ?q_NoTie ?q_Apart ?q_NoPlace ?q_NoDeed ?h_NoRow ?j_NoRow ?e_NoRow ?b_NoRow ?t_NoRow ?m_NoRow ?y_NoRow ?h_NoPoint ?j_NoPoint ?e_NoPoint ?b_NoPoint ?t_NoPoint ?m_NoPoint ?y_NoPoint ?h_Ring ?j_Ring ?e_Ring ?b_Ring ?t_Ring ?m_Ring ?y_Ring ?h_NoTie ?j_NoTie ?e_NoTie ?b_NoTie ?t_NoTie ?m_NoTie ?y_NoTie ?h_Apart ?j_Apart ?e_Apart ?b_Apart ?t_Apart ?m_Apart ?y_Apart ?h_NoPlace ?j_NoPlace ?e_NoPlace ?b_NoPlace ?t_NoPlace ?m_NoPlace ?y_NoPlace ?h_NoDeed ?j_NoDeed ?e_NoDeed ?b_NoDeed ?t_NoDeed ?m_NoDeed ?y_NoDeed ?hkits ?qK ?hK ?qF ?hlF ?hkF ?hoF ?hfF ?hcR ?lcR ?v11R ?nPR ?hdR ?hcM ?lcM ?v11M ?nPM ?hdM ?hcL ?lcL ?v11L ?nPL ?hdL ?hneP tabs
    (case a0 => k_is)
    (case l0 => k_is)
    (case c0 => k_is)
    (case k0 => k_is)
    (case a1 => k_is)
    (case l1 => k_is)
    (case c1 => k_is)
    (case k1 => k_is)
    (case a2 => k_is)
    (case l2 => k_is)
    (case c2 => k_is)
    (case k2 => k_is)
    (case a3 => k_is)
    (case l3 => k_is)
    (case c3 => k_is)
    (case k3 => k_is)
    (case a4 => k_is)
    (case l4 => k_is)
    (case c4 => k_is)
    (case k4 => k_is)
    (case a5 => k_is)
    (case l5 => k_is)
    (case c5 => k_is)
    (case k5 => k_is)
    (case a6 => k_is)
    (case l6 => k_is)
    (case c6 => k_is)
    (case k6 => k_is)
    (case a7 => k_is)
    (case l7 => k_is)
    (case c7 => k_is)
    (case k7 => k_is)
    (case a8 => k_is)
    (case l8 => k_is)
    (case c8 => k_is)
    (case k8 => k_is)
    (case a9 => k_is)
    (case l9 => k_is)
    (case c9 => k_is)
    (case k9 => k_is)
    (case a10 => k_is)
    (case l10 => k_is)
    (case c10 => k_is)
    (case k10 => k_is)
    (case a11 => k_is)
    (case l11 => k_is)
    (case c11 => k_is)
    (case k11 => k_is)
    (case a12 => k_is)
    (case l12 => k_is)
    (case c12 => k_is)
    (case k12 => k_is)
    (case a13 => k_is)
    (case l13 => k_is)
    (case c13 => k_is)
    (case k13 => k_is)
    (case a14 => k_is)
    (case l14 => k_is)
    (case c14 => k_is)
    (case k14 => k_is)
    (case a15 => k_is)
    (case l15 => k_is)
    (case c15 => k_is)
    (case k15 => k_is)
    (case a16 => k_is)
    (case l16 => k_is)
    (case c16 => k_is)
    (case k16 => k_is)
    (case a17 => k_is)
    (case l17 => k_is)
    (case c17 => k_is)
    (case k17 => k_is)
    (case z0 => k_is)
    (case z1 => k_is)
    (case z2 => k_is)
    (case z3 => k_is)
    (case z4 => k_is)
    (case z5 => k_is)
    (case z6 => k_is)
    (case z7 => k_is)
    (case z8 => k_is)
    (case z9 => k_is)
    (case z10 => k_is)
    (case z11 => k_is)
    (case z12 => k_is)
    (case z13 => k_is)
    (case z14 => k_is)
    (case q_TreeError => k_is)
    (case q_NoRow => k_is)
    (case q_NoPoint => k_is)
    (case q_Ring => k_is)
    (case q_NoTie => k_is)
    (case q_Apart => k_is)
    (case q_NoPlace => k_is)
    (case q_NoDeed => k_is)
    (case h_NoRow => k_is)
    (case j_NoRow => kernel_rfl)
    (case e_NoRow => kernel_rfl)
    (case b_NoRow => k_is)
    (case t_NoRow => k_is)
    (case m_NoRow => kernel_rfl)
    (case y_NoRow => kernel_rfl)
    (case h_NoPoint => k_is)
    (case j_NoPoint => kernel_rfl)
    (case e_NoPoint => kernel_rfl)
    (case b_NoPoint => k_is)
    (case t_NoPoint => k_is)
    (case m_NoPoint => kernel_rfl)
    (case y_NoPoint => kernel_rfl)
    (case h_Ring => k_is)
    (case j_Ring => kernel_rfl)
    (case e_Ring => kernel_rfl)
    (case b_Ring => k_is)
    (case t_Ring => k_is)
    (case m_Ring => kernel_rfl)
    (case y_Ring => kernel_rfl)
    (case h_NoTie => k_is)
    (case j_NoTie => kernel_rfl)
    (case e_NoTie => kernel_rfl)
    (case b_NoTie => k_is)
    (case t_NoTie => k_is)
    (case m_NoTie => kernel_rfl)
    (case y_NoTie => kernel_rfl)
    (case h_Apart => k_is)
    (case j_Apart => kernel_rfl)
    (case e_Apart => kernel_rfl)
    (case b_Apart => k_is)
    (case t_Apart => k_is)
    (case m_Apart => kernel_rfl)
    (case y_Apart => kernel_rfl)
    (case h_NoPlace => k_is)
    (case j_NoPlace => kernel_rfl)
    (case e_NoPlace => kernel_rfl)
    (case b_NoPlace => k_is)
    (case t_NoPlace => k_is)
    (case m_NoPlace => kernel_rfl)
    (case y_NoPlace => kernel_rfl)
    (case h_NoDeed => k_is)
    (case j_NoDeed => kernel_rfl)
    (case e_NoDeed => kernel_rfl)
    (case b_NoDeed => k_is)
    (case t_NoDeed => k_is)
    (case m_NoDeed => kernel_rfl)
    (case y_NoDeed => kernel_rfl)
    (case hkits => kernel_rfl)
    (case qK => k_is)
    (case hK => kernel_rfl)
    (case qF => k_is)
    (case hlF => k_is)
    (case hkF => repeat (first | exact True.intro | refine ⟨⟨_, _, rfl, rfl⟩, ?_⟩))
    (case hoF => decide +kernel)
    (case hfF => kernel_rfl)
    (case hcR => rfl)
    (case lcR => k_is)
    (case v11R => rfl)
    (case nPR => kernel_rfl)
    (case hdR => kernel_rfl)
    (case hcM => rfl)
    (case lcM => k_is)
    (case v11M => rfl)
    (case nPM => kernel_rfl)
    (case hdM => kernel_rfl)
    (case hcL => rfl)
    (case lcL => k_is)
    (case v11L => rfl)
    (case nPL => kernel_rfl)
    (case hdL => kernel_rfl)
    (case hneP => decide +kernel)
