import PyProof.Rows.All
import Wide.All
import OpenK.AllK
import Wide.FinOn
import HandS.ForMost
import HandS.More
import HandS.Sort
import HandS.Wide
import HandS.WideBits
import HandS.IsInst
import HandS.EndBits
import HandS.Exc
import HandS.ExcOwn
import HandS.ExcValue
import HandS.ExcInit
import HandS.ExcField
import KE.KExcIs
import HandS.TupLe
import PySem.Challenge.RW_tiedcut_k12_deeds_and_words_of_refusals
set_option Elab.async false
set_option linter.all false
set_option maxRecDepth 100000
set_option maxHeartbeats 4000000
namespace My
open PySem L2
/-! ### a mid-condition behind a statement, an expression, a test -/
def sMid (t : TS) : TS := fun D σ H => ∃ M : L2.St → Hp → Prop, t { D with nx := M } σ H ∧ ∀ σ' H', M σ' H' → D.nx σ' H'
theorem ps_mid {X : Cx} {st : Stmt} {t : TS} (h : PS X st t) : PS X st (sMid t) := by
  refine ⟨fun pins s σ H D I z => ?_⟩
  obtain ⟨M, q, k⟩ := z
  refine thn (h.run pins s σ H { D with nx := M } I q) fun f s1 y => ?_
  cases f with
  | next =>
    obtain ⟨σ', H', I', y⟩ := y
    exact ⟨σ', H', I', k _ _ y⟩
  | ret v => exact y
  | brk => exact y
  | cont => exact y
def tMid (t : TT) : TT := fun σ H Q => ∃ M : Bool → Hp → Prop, t σ H M ∧ ∀ b H', M b H' → Q b H'
theorem pt_mid {X : Cx} {e : Expr} {t : TT} (h : PT X e t) : PT X e (tMid t) := by
  refine ⟨fun pins s σ H Q I z => ?_⟩
  obtain ⟨M, q, k⟩ := z
  exact thn (h.run pins s σ H M I q) fun b s1 ⟨H', I', y⟩ => ⟨H', I', k _ _ y⟩
def eMid (t : TE) : TE := fun σ H Q => ∃ M : V → Hp → Prop, t σ H M ∧ ∀ v H', M v H' → Q v H'
theorem pe_mid {X : Cx} {e : Expr} {t : TE} (h : PE X e t) : PE X e (eMid t) := by
  refine ⟨fun pins s σ H Q I z => ?_⟩
  obtain ⟨M, q, k⟩ := z
  exact thn (h.run pins s σ H M I q) fun u s1 ⟨v, H', I', r, y⟩ => ⟨v, H', I', r, k _ _ y⟩
theorem yes_ite {σ : L2.St} {H : Hp} {A B : Hp → Prop} (h : A H) : tYes σ H (fun b H3 => if b = true then A H3 else B H3) := by
  unfold tYes
  exact (show (if true = true then A H else B H) from iteT h)
/-- xs[i] op= e, the read -/
theorem get_list {X : Cx} : PGet X (rIxL X.K) := by
  intro pins s σ H x y v u Q I rx ry h
  obtain ⟨p, xs, i, z, rfl, rfl, hq, he, q⟩ := h
  cases rx
  obtain ⟨t, rfl⟩ := ry
  obtain ⟨its, r, pl, hz⟩ := I.list hq
  obtain ⟨j, h1, h2, h3, h4, h5⟩ := atI_get he
  obtain ⟨w, ew, rw'⟩ := r.get h2
  have hl := r.length
  have hn := line63
  have fin : EP X pins σ Q w s := ⟨z, H, I, rw', q⟩
  by_cases h0 : 0 ≤ i
  · have hj : i.toNat = j := by
      rw [PySem.seqIndex_of h0 h5] at h1
      exact Option.some.inj h1
    exact PySem.wpAny_getItem_list pl.isList h0 (by omega) (by rw [hj]; simpa using ew) fin
  · have hj : (i + (its.toArray.size : Int)).toNat = j := by
      rw [PySem.seqIndex_neg (by omega) h4] at h1
      rw [List.size_toArray, ← hl]
      exact Option.some.inj h1
    exact PySem.wpAny_getItem_list_neg pl.isList (by omega) (by rw [List.size_toArray] <;> omega) (by omega) (by rw [hj]; simpa using ew) fin
theorem same_new {H : Hp} {p : Addr} {o : HO} (h : H p = none) : Same H (upd H p o) := fun b u q => by rw [upd_ne (ne_of_none q h)]; exact q
/-- all but d as it was -/
def But (d : Addr) (H H' : Hp) : Prop := ∀ b o, H b = some o → b ≠ d → H' b = some o
theorem But.refl {d : Addr} {H : Hp} : But d H H := fun _ _ e _ => e
theorem But.trans {d : Addr} {H H1 H2 : Hp} (x : But d H H1) (y : But d H1 H2) : But d H H2 := fun b o e n => y b o (x b o e n) n
theorem But.put {d : Addr} {H H1 : Hp} {o : HO} (x : But d H H1) : But d H (upd H1 d o) := fun b u e n => by
  rw [upd_ne n]
  exact x b u e n
theorem But.new {d p : Addr} {H H1 : Hp} {o : HO} (x : But d H H1) (n : H1 p = none) : But d H (upd H1 p o) := fun b u e nb => by
  have q := x b u e nb
  rw [upd_ne (ne_of_none q n)]
  exact q
theorem But.same {d : Addr} {H H1 H2 : Hp} (x : But d H H1) (s : Same H1 H2) : But d H H2 := fun b u e nb => s _ _ (x b u e nb)
theorem at_map {ns : List Int} {k : Int} (h0 : 0 ≤ k) (h : k < (ns.length : Int)) : ∃ v : Int, atI (ns.map V.int) k = some (.int v) ∧ v ∈ ns := by
  have hk : k.toNat < ns.length := by omega
  have ek : k = ((k.toNat : Nat) : Int) := by omega
  have q : atI (ns.map V.int) ((k.toNat : Nat) : Int) = some (.int ns[k.toNat]) := atI_nat (by rw [List.getElem?_map, List.getElem?_eq_getElem hk] <;> rfl)
  rw [← ek] at q
  exact ⟨_, q, List.getElem_mem _⟩
theorem at_any {α : Type} {xs : List α} {k : Int} (h0 : 0 ≤ k) (h : k < (xs.length : Int)) : ∃ v : α, atI xs k = some v ∧ v ∈ xs := by
  have hk : k.toNat < xs.length := by omega
  have ek : k = ((k.toNat : Nat) : Int) := by omega
  have q : atI xs ((k.toNat : Nat) : Int) = some xs[k.toNat] := atI_nat (List.getElem?_eq_getElem hk)
  rw [← ek] at q
  exact ⟨_, q, List.getElem_mem _⟩
theorem wide_ok {i j : Int} (h : 0 < j) (h2 : j < 2 ^ 100) : CDivW i j := wide_div (b := 100) h (by
  have e : ((j.natAbs : Nat) : Int) < ((2 ^ 100 : Nat) : Int) := by
    rw [Int.natCast_pow]
    show (j.natAbs : Int) < 2 ^ 100
    omega
  exact_mod_cast e) (by decide) (by decide)
theorem cut_map (ns : List Int) (hi : Option Int) : ∃ k : Nat, cutV (ns.map V.int) none hi = (ns.take k).map V.int := by
  refine ⟨HT.sIx ns.length ns.length hi, ?_⟩
  unfold cutV
  rw [HT.sIx_none, List.drop_zero, Nat.sub_zero, List.length_map, List.map_take]
theorem cut_nat {α : Type} (xs : List V) (k : Nat) : cutV xs none (some (k : Int)) = xs.take k := by
  unfold cutV
  rw [HT.sIx_none, List.drop_zero, Nat.sub_zero, HT.sIx_nat]
  by_cases h : k ≤ xs.length
  · rw [Nat.min_eq_left h]
  · rw [Nat.min_eq_right (by omega), List.take_of_length_le (Nat.le_refl _), List.take_of_length_le (by omega)]
theorem sz {n : Nat} (h : n ≤ 100000) : n ≤ sizeLine := Nat.le_trans h (by decide)
theorem szl {n : Nat} (h : n < 100000) : n < sizeLine := Nat.lt_of_lt_of_le h (by decide)
def spLaw (K : PySem.W.Frag) : Sp := fun vs H Q _ => ∃ (a : Addr) (ns : List Int), vs = [.ref a] ∧ SqL K H a (ns.map V.int) ∧ ns.length ≤ 63 ∧ (∀ z ∈ ns, Builtin.Int.intBits z ≤ 1048576) ∧ ∀ H', Q (.bl true) H'
/-! ### data of tuples -/
mutual
inductive Td (K : PySem.W.Frag) (H : Hp) : V → PyData → Prop
  | non : Td K H .non .none
  | bl (b : Bool) : Td K H (.bl b) (.bool b)
  | int (i : Int) : Td K H (.int i) (.int i)
  | str (x : Str) : Td K H (.str x) (.str x)
  | tup {a : Addr} {xs : List V} {ds : List PyData} : SqT K H a xs → TdAll K H xs ds → Td K H (.ref a) (.tuple ds)
inductive TdAll (K : PySem.W.Frag) (H : Hp) : List V → List PyData → Prop
  | nil : TdAll K H [] []
  | cons {v : V} {vs : List V} {d : PyData} {ds : List PyData} : Td K H v d → TdAll K H vs ds → TdAll K H (v :: vs) (d :: ds)
end
/-- tuples stay -/
def Tups (K : PySem.W.Frag) (H H' : Hp) : Prop := ∀ a xs, SqT K H a xs → SqT K H' a xs
theorem Tups.of_same {K : PySem.W.Frag} {H H' : Hp} (s : Same H H') : Tups K H H' := fun a xs h => by
  rcases h with h | h
  · rcases h with h | ⟨o, h⟩
    · exact .inl (.inl (s _ _ h))
    · exact .inl (.inr ⟨o, s _ _ h⟩)
  · exact .inr h
theorem Tups.of_but {K : PySem.W.Frag} {H H' : Hp} {d : Addr} {l : List V} (s : But d H H') (e : H d = some (.lst l)) : Tups K H H' := fun a xs h => by
  rcases h with h | h
  · rcases h with h | ⟨o, h⟩
    · exact .inl (.inl (s _ _ h (ne_of h e (by intro z; cases z))))
    · exact .inl (.inr ⟨o, s _ _ h (ne_of h e (by intro z; cases z))⟩)
  · exact .inr h
theorem Tups.trans {K : PySem.W.Frag} {H H1 H2 : Hp} (a : Tups K H H1) (b : Tups K H1 H2) : Tups K H H2 := fun p xs h => b _ _ (a _ _ h)
mutual
theorem Td.mono {K : PySem.W.Frag} {H H' : Hp} (t : Tups K H H') : ∀ {v : V} {d : PyData}, Td K H v d → Td K H' v d
  | _, _, .non => .non
  | _, _, .bl b => .bl b
  | _, _, .int i => .int i
  | _, _, .str x => .str x
  | _, _, .tup h k => .tup (t _ _ h) (TdAll.mono t k)
theorem TdAll.mono {K : PySem.W.Frag} {H H' : Hp} (t : Tups K H H') : ∀ {vs : List V} {ds : List PyData}, TdAll K H vs ds → TdAll K H' vs ds
  | _, _, .nil => .nil
  | _, _, .cons h k => .cons (Td.mono t h) (TdAll.mono t k)
end
mutual
theorem Td.dp {K : PySem.W.Frag} {H : Hp} : ∀ {v : V} {d : PyData}, Td K H v d → Dp K H v d
  | _, _, .non => .non
  | _, _, .bl b => .bl b
  | _, _, .int i => .int i
  | _, _, .str x => .str x
  | _, _, .tup h k => .tup h (TdAll.dp k)
theorem TdAll.dp {K : PySem.W.Frag} {H : Hp} : ∀ {vs : List V} {ds : List PyData}, TdAll K H vs ds → DpAll K H vs ds
  | _, _, .nil => .nil
  | _, _, .cons h k => .cons (Td.dp h) (TdAll.dp k)
end
theorem TdAll.length {K : PySem.W.Frag} {H : Hp} : ∀ {vs : List V} {ds : List PyData}, TdAll K H vs ds → vs.length = ds.length
  | _, _, .nil => rfl
  | _, _, .cons _ k => congrArg (· + 1) (TdAll.length k)
theorem TdAll.append {K : PySem.W.Frag} {H : Hp} : ∀ {vs ws : List V} {ds es : List PyData}, TdAll K H vs ds → TdAll K H ws es → TdAll K H (vs ++ ws) (ds ++ es)
  | _, _, _, _, .nil, k => k
  | _, _, _, _, .cons h k, z => .cons h (TdAll.append k z)
theorem TdAll.get {K : PySem.W.Frag} {H : Hp} : ∀ {vs : List V} {ds : List PyData}, TdAll K H vs ds → ∀ {v : V}, v ∈ vs → ∃ d, d ∈ ds ∧ Td K H v d
  | _, _, .nil, _, h => nomatch h
  | _, _, .cons (d := d) h k, v, m => by
    rcases List.mem_cons.mp m with e | m
    · subst e
      exact ⟨d, List.mem_cons_self, h⟩
    · obtain ⟨d', hd, t⟩ := TdAll.get k m
      exact ⟨d', List.mem_cons_of_mem _ hd, t⟩

/-! ### own exceptions as values -/
def veB : List Value := [.type "ValueError", .type "Exception", .type "BaseException", .type "object"]
/-- an exception object of the class C, not raised, with or without fields -/
def ExAt (H : Hp) (a C : Addr) : Prop := H a = some (ExO (.ref C) a) ∨ ∃ (d : Addr) (fs : List (Str × V)), H a = some (exo a C (some d)) ∧ H d = some (exd d fs)
theorem ExAt.same {H H' : Hp} {a C : Addr} (s : Same H H') (h : ExAt H a C) : ExAt H' a C := by
  rcases h with h | ⟨d, fs, h, g⟩
  · exact .inl (s _ _ h)
  · exact .inr ⟨d, fs, s _ _ h, s _ _ g⟩
section
variable {X : Cx}
theorem ExAt.inst {pins : List (Addr × Obj)} {σ : L2.St} {H : Hp} {s : Shared} {a C : Addr} (I : Inv X pins σ H s) (h : ExAt H a C) : ∃ (oe : Obj) (od : Option Obj), PySem.W.InstAt s.heap a oe C od := by
  rcases h with h | ⟨d, fs, h, g⟩
  · obtain ⟨⟨oe, vs, ho, hz, hd, _⟩, _, _⟩ := I.hok a _ h
    refine ⟨oe, none, ho, hz.1, ?_, ?_⟩
    · unfold PySem.W.notCls
      rw [hd]
    · rw [hz.2]
      trivial
  · obtain ⟨t1, ho⟩ := exo_at I.hok h
    obtain ⟨mA, hm, _⟩ := exd_at I.hok g
    obtain ⟨od, hod, _⟩ := lookIn_ns hm
    exact ⟨_, some od, ho, rfl, rfl, hod⟩
theorem pe_exc0 {C : Addr} {x : Str} {p pos : Pos} (hc : PySem.W.excIn X.K C veB "ValueError.__new__" = true) (gC : X.mg x = some (.ref C)) (kC : PySem.W.keepIn X.K (.ref C) = true) (hg : Gl X x) (hdb : (x == ("__debug__" : Str)) = false := by decide) :
    PE X (.Call (.Name x p) [] [] pos) (fun _ H Q => ∀ a, H a = none → Q (.ref a) (upd H a (ExO (.ref C) a))) := by
  constructor
  intro pins st σ H Q I h
  refine wpAny_Call_Name_kw (ld_glob I hg gC ?_ hdb)
  refine PySem.W.callWith_K0 I.kIn kC ?_
  obtain ⟨bm, N, nm, qn, bs, hdct, sn, sub, ab, col, dd, k0, k1, k2, k3, k5, mN, hC, hN, hni, OT⟩ := exc_obj I.kIn hc
  refine wpAny_call_exc_subT PySem.F.excBase_ValueError OT hC hN hni (fun h' a hm => ?_) (Nat.zero_le _)
  have free : H a = none := I.hok.gone hm.new
  obtain ⟨t, ht, _, _⟩ := hm.there
  have ok : ObjOk X.prog X.w (upd H a (ExO (.ref C) a)) h' a (ExO (.ref C) a) := exO_ok ht ⟨rfl, rfl⟩ rfl rfl rfl (show 4 < 6 by decide)
  exact ⟨.ref a, _, I.laidN hm.keeps hm.new free ok, rfl, h a free⟩
/-- C(e, ..), C an own exception class with an own __init__, as a value -/
def tOexV (C : Addr) (sp : Sp) (ta : TA) : TE := fun σ H Q => ta σ H fun vs H1 => vs.length ≤ 1000 ∧ ∀ a, H1 a = none → sp (.ref a :: vs) (upd H1 a (exo a C none)) (fun v H2 => v = .non ∧ Q (.ref a) H2) (fun _ _ _ => False)
theorem pe_oexV {x : Str} {C fI : Addr} {k : Nat} {fd : FuncData} {ps : List Str} {sp : Sp} {e : Expr} {es : List Expr} {ta : TA} {p pos : Pos} (OC : OexC X.K C) (iC : PySem.W.findIn X.K (.ref C) "__init__" = some (some (.ref fI)))
    (tI : PySem.W.typeIn X.K (.ref fI) = some (.type "function")) (F1 : FnOk X.prog X.w X.K X.mg X.base CX0 k fI fd ps sp) (hr : Room (k + 1) X.A) (hb : Binds X.K fd ps []) (hg : Gl X x) (hm : X.mg x = some (.ref C)) (ha : PA X (e :: es) ta)
    (hdb : (x == ("__debug__" : Str)) = false := by decide) (he : starEach (e :: es) X.env = (false, eval e X.env) :: starEach es X.env := by rfl) (hpl : (backTo pos (starEach es X.env)).any (·.1) = false := by rfl) :
    PE X (.Call (.Name x p) (e :: es) [] pos) (tOexV C sp ta) := by
  constructor
  intro pins st σ H Q I h
  obtain ⟨nm, q, N, bs, bm, sn, sub, ab, col, dd, k0, k1, k2, k3, k5, hC, hbm⟩ := OC.cls
  refine wpAny_Call_Name_kw (ld_glob I hg hm ?_ hdb)
  refine PySem.W.callWith_K (h₀ := X.base) I.ok.mod.kin OC.kC (thn (ha.run pos pins st σ H _ I h) fun us s1 z => ?_) he hpl
  obtain ⟨vs, H1, I1, r1, hz, q1⟩ := z
  refine ⟨I1.kIn, ?_⟩
  obtain ⟨hp, g, dr, tk, os⟩ := s1
  have hn : H1 (hp.objs.size + 1) = none := I1.hok.fresh (Nat.le_succ _)
  have hq := q1 _ hn
  have kk : ∀ b o, hp.get? b = some o → ((hp.push (PySem.W.kdv_tup us)).push (PySem.HandSPX.excO C hp.objs.size)).get? b = some o := fun b o z =>
    Heap.get?_push_of_some _ (Heap.get?_push_of_some _ z)
  have hget : ((hp.push (PySem.W.kdv_tup us)).push (PySem.HandSPX.excO C hp.objs.size)).get? (hp.objs.size + 1) = some (PySem.HandSPX.excO C hp.objs.size) := by
    heap_get
  have I2 : Inv X pins σ (upd H1 (hp.objs.size + 1) (exo (hp.objs.size + 1) C none)) ⟨(hp.push (PySem.W.kdv_tup us)).push (PySem.HandSPX.excO C hp.objs.size), g, dr, tk, os⟩ :=
    I1.laid (t' := tk) (a := hp.objs.size + 1) (o := exo (hp.objs.size + 1) C none) (h' := (hp.push (PySem.W.kdv_tup us)).push (PySem.HandSPX.excO C hp.objs.size)) kk (Nat.le_succ _) (exo_ok hget)
  have r2 : Vals (V.ref (hp.objs.size + 1) :: vs) (Value.ref (hp.objs.size + 1) :: us) := .cons rfl r1
  have hl : (Value.ref (hp.objs.size + 1) :: us).length = ps.length := by
    rw [← r2.length]
    exact F1.len _ _ _ _ hq
  have hus : us.length ≤ sizeLine := by
    rw [← Paired.length r1, sizeLine_eq]
    omega
  have hb2 := hb ⟨(hp.push (PySem.W.kdv_tup us)).push (PySem.HandSPX.excO C hp.objs.size), g, dr, tk, os⟩ (Value.ref (hp.objs.size + 1) :: us) I2.kIn (by rw [List.append_nil]; exact hl)
  rw [List.append_nil] at hb2
  refine wpAny_call (PySem.HandSPX.call_own PySem.F.excBase_ValueError (fun Y => PySem.HandSPX.refsVE_contains Y bm hbm) (I1.kIn _ _ hC) (PySem.W.looks_findIn I1.kIn iC) (fun self => PySem.W.bind_fn I1.kIn self tI) hus
    (codeAny_mono (F1.run _ X.stack _ _ ⟨Value.ref (hp.objs.size + 1) :: us, []⟩ (Value.ref (hp.objs.size + 1) :: us) _ _ (fun _ _ _ => False) (hr.make C us []) (I2.env0.make C us []) hb2 r2 hq) fun r s' z => ?_))
  cases r with
  | error er => exact absurd z id
  | ok fl =>
    cases fl with
    | ret u =>
      obtain ⟨v, H', J, rv, ev, qq⟩ := I2.after z
      subst ev
      exact ⟨rv, .ref (hp.objs.size + 1), H', J, rfl, qq⟩
    | next => exact absurd z id
    | brk => exact absurd z id
    | cont => exact absurd z id
/-- what isinstance asks of the class of an exception -/
structure XcC (K : PySem.W.Frag) (C : Addr) : Prop where
  cl : (PySem.W.clsIn K C).isSome = true
  hg : PySem.W.findIn K (.ref C) "__getattribute__" = some (some (.builtin "BaseException.__getattribute__"))
  hk : PySem.W.findIn K (.ref C) "__getattr__" = some none
  hs : PySem.W.subIn K (.ref C) (.type "BaseException") = some true
  ha : PySem.W.findIn K (.ref C) "__class__" = some (some (.builtin "object.__class__"))
  hn : PySem.W.specialIn K (.builtin "object.__class__") "__get__" = some (some (.builtin "getset_descriptor.__get__"))
  ht : PySem.W.takesIn K (.builtin "object.__class__") = some true
  hm : PySem.W.mroIn K C (.type "object") = some true
def xcB (K : PySem.W.Frag) (C : Addr) : Bool := (PySem.W.clsIn K C).isSome && (decide (PySem.W.findIn K (.ref C) "__getattribute__" = some (some (.builtin "BaseException.__getattribute__"))) && (decide (PySem.W.findIn K (.ref C) "__getattr__" = some none) &&
  (decide (PySem.W.subIn K (.ref C) (.type "BaseException") = some true) && (decide (PySem.W.findIn K (.ref C) "__class__" = some (some (.builtin "object.__class__"))) && (decide (PySem.W.specialIn K (.builtin "object.__class__") "__get__" = some (some (.builtin "getset_descriptor.__get__"))) &&
  (decide (PySem.W.takesIn K (.builtin "object.__class__") = some true) && decide (PySem.W.mroIn K C (.type "object") = some true)))))))
theorem xcB_ok {K : PySem.W.Frag} {C : Addr} (h : xcB K C = true) : XcC K C := by
  unfold xcB at h
  simp only [Bool.and_eq_true, decide_eq_true_eq] at h
  obtain ⟨h1, h2, h3, h4, h5, h6, h7, h8⟩ := h
  exact ⟨h1, h2, h3, h4, h5, h6, h7, h8⟩
def rIsX (K : PySem.W.Frag) : List V → Hp → VK → Prop := fun xs H Q => ∃ (a C : Addr) (c : V) (cv : Value) (b : Bool), xs = [.ref a, c] ∧ ExAt H a C ∧ XcC K C ∧ ClsV c cv ∧ PySem.W.kitOne K (.ref C) cv = some b ∧ Q (.bl b) H
theorem call_isX : CallR X (.builtin "isinstance") (rIsX X.K) := by
  intro pins st σ H xs us Q I r h
  obtain ⟨a, C, c, cv, b, rfl, ex, xc, kc, e, q⟩ := h
  obtain ⟨u1, u2, rfl, r1, r2⟩ := vals2 r
  cases r1
  have e2 := kc.eq r2
  subst e2
  obtain ⟨oe, od, J⟩ := ex.inst I
  exact PySem.W.kia_one (PySem.W.kitx_exc xc.cl xc.hg xc.hk xc.hs xc.ha xc.hn xc.ht xc.hm) I.kIn J e (fun z => nomatch z) fun tk => ⟨.bl b, H, I.kept (t' := tk) fun _ _ z => z, rfl, q⟩
theorem call_isXK {K : PySem.W.Frag} (hK : X.K = K) : CallR X (.builtin "isinstance") (rIsX K) := by
  subst hK
  exact call_isX
/-- e.f of such an object -/
def tXv (K : PySem.W.Frag) (f : Str) (te : TE) : TE := fun σ H Q => te σ H fun x H1 => ∃ (a C d : Addr) (fs : List (Str × V)) (v : V), x = .ref a ∧ H1 a = some (exo a C (some d)) ∧ H1 d = some (exd d fs) ∧ XfC K C ∧ PySem.W.findIn K (.ref C) f = some none ∧ fs.lookup f = some v ∧ Q v H1
theorem pe_xv {e : Expr} {te : TE} {pos : Pos} {n : Str} (he : PE X e te) (hb : attributeBase e n X.env (eval e X.env) = eval e X.env := by rfl) : PE X (.Attribute e n pos) (tXv X.K n te) := by
  constructor
  intro pins st σ H Q I h
  refine attr_of hb (thn (he.run pins st σ H _ I h) fun u s1 z => ?_)
  obtain ⟨x, H1, I1, rx, a, C, d, fs, v, rfl, h1, h2, xf, hno, hl, q⟩ := z
  cases rx
  obtain ⟨t1, ho⟩ := exo_at I1.hok h1
  obtain ⟨mA, hns, hrel⟩ := exd_at I1.hok h2
  obtain ⟨od, hod, hlk⟩ := lookIn_ns hns
  obtain ⟨u, hu, ru⟩ := RelO.some_of (v := v) (o := mA n) (by rw [← hl]; exact hrel n)
  have J : PySem.W.InstAt s1.heap a _ C (some od) := ⟨ho, rfl, rfl, hod⟩
  exact HandSPX.exc_get I1.kIn J xf.ga xf.gg xf.exC (PySem.W.findObj_own xf.hdC hno rfl (by rw [hlk, hu])) (handed_of ru) ⟨v, H1, I1.tok _, ru, q⟩
end
/-! ### facts of the written part, by one kernel run each -/
/-- a written tuple of texts -/
def strOf : Value → Option Str
  | .str x _ => some x
  | _ => none
def tupB (K : PySem.W.Frag) (a : Addr) (ws : List Str) : Bool := match K.lookup a with
  | some o => decide (o.cls = .type "tuple") && (match o.data with
    | .seq its _ => decide (its.size ≤ 1000) && decide (its.toList.map strOf = ws.map some)
    | _ => false)
  | none => false
theorem vals_str : ∀ {us : List Value} {ws : List Str}, us.map strOf = ws.map some → Vals (ws.map V.str) us
  | [], [], _ => .nil
  | [], _ :: _, h => nomatch h
  | _ :: _, [], h => nomatch h
  | u :: us, w :: ws, h => by
    rw [List.map_cons, List.map_cons] at h
    obtain ⟨h1, h2⟩ := List.cons.inj h
    refine .cons ?_ (vals_str h2)
    cases u with
    | str x t =>
      have e : x = w := Option.some.inj h1
      subst e
      exact ⟨t, rfl⟩
    | _ => exact nomatch h1
theorem tupB_ok {K : PySem.W.Frag} {a : Addr} {ws : List Str} (h : tupB K a ws = true) (H : Hp) : SqT K H a (ws.map V.str) := by
  unfold tupB at h
  split at h
  · rename_i o ho
    rw [Bool.and_eq_true] at h
    obtain ⟨h1, h2⟩ := h
    split at h2
    · rename_i its n hd
      rw [Bool.and_eq_true] at h2
      exact .inr ⟨o, its, n, ho, of_decide_eq_true h1, hd, sz (Nat.le_trans (of_decide_eq_true h2.1) (by decide)), vals_str (of_decide_eq_true h2.2)⟩
    · cases h2
  · cases h
/-- the refusals among one another, and under the first of them -/
def kitsB (K : PySem.W.Frag) (t : Addr) (cs : List Addr) : Bool := (List.range cs.length).all fun i => decide (PySem.W.kitOne K (.ref (cs.getD i 0)) (.ref t) = some true) && (List.range cs.length).all fun j => decide (PySem.W.kitOne K (.ref (cs.getD i 0)) (.ref (cs.getD j 0)) = some (decide (i = j)))
theorem kitsB_top {K : PySem.W.Frag} {t : Addr} {cs : List Addr} (h : kitsB K t cs = true) {i : Nat} (hi : i < cs.length) : PySem.W.kitOne K (.ref (cs.getD i 0)) (.ref t) = some true := by
  unfold kitsB at h
  have z := List.all_eq_true.mp h i (List.mem_range.mpr hi)
  rw [Bool.and_eq_true] at z
  exact of_decide_eq_true z.1
theorem kitsB_two {K : PySem.W.Frag} {t : Addr} {cs : List Addr} (h : kitsB K t cs = true) {i j : Nat} (hi : i < cs.length) (hj : j < cs.length) : PySem.W.kitOne K (.ref (cs.getD i 0)) (.ref (cs.getD j 0)) = some (decide (i = j)) := by
  unfold kitsB at h
  have z := List.all_eq_true.mp h i (List.mem_range.mpr hi)
  rw [Bool.and_eq_true] at z
  exact of_decide_eq_true (List.all_eq_true.mp z.2 j (List.mem_range.mpr hj))
def dws : List Str := ["new", "put", "paint", "tie", "cut", "add", "spread"]


/-! ### the text by places -/
def topS (i : Nat) : Stmt := PySem.Challenge.pw_tiedcut_k12_deeds_and_words_of_refusals.main.body.getD i (.Pass ⟨0, 0, 0, 0⟩)
abbrev s_isdeed : Stmt := topS 14
abbrev s_plainword : Stmt := topS 15
abbrev s_Lmixed : Stmt := topS 17
abbrev s_Lbox : Stmt := topS 18
abbrev s_Lnext : Stmt := topS 19
abbrev s_Lfew : Stmt := topS 20
abbrev s_Lworth : Stmt := topS 21
abbrev s_Lpoint : Stmt := topS 22
abbrev s_Lforest : Stmt := topS 23
abbrev s_Lspot : Stmt := topS 24
abbrev s_Lpair : Stmt := topS 25
abbrev s_Lrow : Stmt := topS 26
abbrev s_Lsame : Stmt := topS 27
abbrev s_Levery : Stmt := topS 28
abbrev s_law : Stmt := topS 29
theorem sc_isdeed : FnScope ["row"] ["row"] (defScope s_isdeed) := ⟨rfl, rfl, rfl, by decide +kernel, rfl, by decide +kernel, by decide +kernel⟩
theorem sc_plainword : FnScope ["error"] ["error"] (defScope s_plainword) := ⟨rfl, rfl, rfl, by decide +kernel, rfl, by decide +kernel, by decide +kernel⟩
theorem sc_Lmixed : FnScope ["_law_cell", "_law_many", "_law_at", "_law_found", "_law_k"] ["_law_cell", "_law_many"] (defScope s_Lmixed) := ⟨rfl, rfl, rfl, by decide +kernel, rfl, by decide +kernel, by decide +kernel⟩
theorem sc_Lbox : FnScope ["_law_script", "_law_found", "_law_cell", "_law_left", "_law_k"] ["_law_script"] (defScope s_Lbox) := ⟨rfl, rfl, rfl, by decide +kernel, rfl, by decide +kernel, by decide +kernel⟩
theorem sc_Lnext : FnScope ["_law_box_here"] ["_law_box_here"] (defScope s_Lnext) := ⟨rfl, rfl, rfl, by decide +kernel, rfl, by decide +kernel, by decide +kernel⟩
theorem sc_Lfew : FnScope ["_law_box_here", "_law_few_here", "_law_most", "_law_x"] ["_law_box_here", "_law_few_here", "_law_most"] (defScope s_Lfew) := ⟨rfl, rfl, rfl, by decide +kernel, rfl, by decide +kernel, by decide +kernel⟩
theorem sc_Lworth : FnScope ["_law_box_here", "_law_x"] ["_law_box_here"] (defScope s_Lworth) := ⟨rfl, rfl, rfl, by decide +kernel, rfl, by decide +kernel, by decide +kernel⟩
theorem sc_Lpoint : FnScope ["_law_box_here", "_law_x"] ["_law_box_here"] (defScope s_Lpoint) := ⟨rfl, rfl, rfl, by decide +kernel, rfl, by decide +kernel, by decide +kernel⟩
theorem sc_Lforest : FnScope ["_law_box_here", "_law_few_here", "_law_most", "_law_many", "_law_shape", "_law_names", "_law_k", "_law_ties", "_law_apart", "_law_under"] ["_law_box_here", "_law_few_here", "_law_most"] (defScope s_Lforest) := ⟨rfl, rfl, rfl, by decide +kernel, rfl, by decide +kernel, by decide +kernel⟩
theorem sc_Lspot : FnScope ["_law_box_here", "_law_many", "_law_x"] ["_law_box_here", "_law_many"] (defScope s_Lspot) := ⟨rfl, rfl, rfl, by decide +kernel, rfl, by decide +kernel, by decide +kernel⟩
theorem sc_Lpair : FnScope ["_law_box_here", "_law_forest_here", "_law_whole", "_law_x", "_law_one", "_law_other", "_law_two"] ["_law_box_here", "_law_forest_here", "_law_whole"] (defScope s_Lpair) := ⟨rfl, rfl, rfl, by decide +kernel, rfl, by decide +kernel, by decide +kernel⟩
theorem sc_Lrow : FnScope ["_law_box_here", "_law_forest_here", "_law_words", "_law_word", "_law_many", "_law_two"] ["_law_box_here", "_law_forest_here", "_law_words"] (defScope s_Lrow) := ⟨rfl, rfl, rfl, by decide +kernel, rfl, by decide +kernel, by decide +kernel⟩
theorem sc_Lsame : FnScope ["_law_found", "_law_due", "_law_one", "_law_other"] ["_law_found", "_law_due"] (defScope s_Lsame) := ⟨rfl, rfl, rfl, by decide +kernel, rfl, by decide +kernel, by decide +kernel⟩
theorem sc_Levery : FnScope ["_law_deeds", "_law_asks"] [] (defScope s_Levery) := ⟨rfl, rfl, rfl, by decide +kernel, rfl, by decide +kernel, by decide +kernel⟩
theorem sc_law : FnScope ["_law_script", "_law_box_here", "_law_turn", "_law_row_here", "_law_errors", "_law_words", "_law_error"] ["_law_script"] (defScope s_law) := ⟨rfl, rfl, rfl, by decide +kernel, rfl, by decide +kernel, by decide +kernel⟩
abbrev s_NoText_init : Stmt := inClass (topS 11) 0
theorem sc_NoText_init : FnScope ["self", "line"] ["self", "line"] (defScope s_NoText_init) := ⟨rfl, rfl, rfl, by decide +kernel, rfl, by decide +kernel, by decide +kernel⟩
/-- what the top has left -/
structure Top (K : PySem.W.Frag) (mg : Str → Option Value) where
  a_isdeed : Addr
  d_isdeed : FuncData
  F_isdeed : Fun K "is_deed" "is_deed" s_isdeed a_isdeed d_isdeed
  b_isdeed : Binds K d_isdeed ["row"] []
  g_isdeed : mg "is_deed" = some (.ref a_isdeed)
  a_plainword : Addr
  d_plainword : FuncData
  F_plainword : Fun K "plain_word" "plain_word" s_plainword a_plainword d_plainword
  b_plainword : Binds K d_plainword ["error"] []
  g_plainword : mg "plain_word" = some (.ref a_plainword)
  a_Lmixed : Addr
  d_Lmixed : FuncData
  F_Lmixed : Fun K "_law_mixed" "_law_mixed" s_Lmixed a_Lmixed d_Lmixed
  b_Lmixed : Binds K d_Lmixed ["_law_cell", "_law_many"] []
  g_Lmixed : mg "_law_mixed" = some (.ref a_Lmixed)
  a_Lbox : Addr
  d_Lbox : FuncData
  F_Lbox : Fun K "_law_box" "_law_box" s_Lbox a_Lbox d_Lbox
  b_Lbox : Binds K d_Lbox ["_law_script"] []
  g_Lbox : mg "_law_box" = some (.ref a_Lbox)
  a_Lnext : Addr
  d_Lnext : FuncData
  F_Lnext : Fun K "_law_next" "_law_next" s_Lnext a_Lnext d_Lnext
  b_Lnext : Binds K d_Lnext ["_law_box_here"] []
  g_Lnext : mg "_law_next" = some (.ref a_Lnext)
  a_Lfew : Addr
  d_Lfew : FuncData
  F_Lfew : Fun K "_law_few" "_law_few" s_Lfew a_Lfew d_Lfew
  b_Lfew : Binds K d_Lfew ["_law_box_here", "_law_few_here", "_law_most"] []
  g_Lfew : mg "_law_few" = some (.ref a_Lfew)
  a_Lworth : Addr
  d_Lworth : FuncData
  F_Lworth : Fun K "_law_worth" "_law_worth" s_Lworth a_Lworth d_Lworth
  b_Lworth : Binds K d_Lworth ["_law_box_here"] []
  g_Lworth : mg "_law_worth" = some (.ref a_Lworth)
  a_Lpoint : Addr
  d_Lpoint : FuncData
  F_Lpoint : Fun K "_law_point" "_law_point" s_Lpoint a_Lpoint d_Lpoint
  b_Lpoint : Binds K d_Lpoint ["_law_box_here"] []
  g_Lpoint : mg "_law_point" = some (.ref a_Lpoint)
  a_Lforest : Addr
  d_Lforest : FuncData
  F_Lforest : Fun K "_law_forest" "_law_forest" s_Lforest a_Lforest d_Lforest
  b_Lforest : Binds K d_Lforest ["_law_box_here", "_law_few_here", "_law_most"] []
  g_Lforest : mg "_law_forest" = some (.ref a_Lforest)
  a_Lspot : Addr
  d_Lspot : FuncData
  F_Lspot : Fun K "_law_spot" "_law_spot" s_Lspot a_Lspot d_Lspot
  b_Lspot : Binds K d_Lspot ["_law_box_here", "_law_many"] []
  g_Lspot : mg "_law_spot" = some (.ref a_Lspot)
  a_Lpair : Addr
  d_Lpair : FuncData
  F_Lpair : Fun K "_law_pair" "_law_pair" s_Lpair a_Lpair d_Lpair
  b_Lpair : Binds K d_Lpair ["_law_box_here", "_law_forest_here", "_law_whole"] []
  g_Lpair : mg "_law_pair" = some (.ref a_Lpair)
  a_Lrow : Addr
  d_Lrow : FuncData
  F_Lrow : Fun K "_law_row" "_law_row" s_Lrow a_Lrow d_Lrow
  b_Lrow : Binds K d_Lrow ["_law_box_here", "_law_forest_here", "_law_words"] []
  g_Lrow : mg "_law_row" = some (.ref a_Lrow)
  a_Lsame : Addr
  d_Lsame : FuncData
  F_Lsame : Fun K "_law_same" "_law_same" s_Lsame a_Lsame d_Lsame
  b_Lsame : Binds K d_Lsame ["_law_found", "_law_due"] []
  g_Lsame : mg "_law_same" = some (.ref a_Lsame)
  a_Levery : Addr
  d_Levery : FuncData
  F_Levery : Fun K "_law_every" "_law_every" s_Levery a_Levery d_Levery
  b_Levery : Binds K d_Levery [] []
  g_Levery : mg "_law_every" = some (.ref a_Levery)
  a_law : Addr
  d_law : FuncData
  F_law : Fun K "law" "law" s_law a_law d_law
  b_law : Binds K d_law ["_law_script"] []
  g_law : mg "law" = some (.ref a_law)
  m_all : mg "all" = none
  m_bool : mg "bool" = none
  m_int : mg "int" = none
  m_isinstance : mg "isinstance" = none
  m_len : mg "len" = none
  m_max : mg "max" = none
  m_min : mg "min" = none
  m_range : mg "range" = none
  m_sorted : mg "sorted" = none
  m_str : mg "str" = none
  m_sum : mg "sum" = none
  m_tuple : mg "tuple" = none
  c_TreeError : Addr
  c_NoRow : Addr
  c_NoPoint : Addr
  c_Ring : Addr
  c_NoTie : Addr
  c_Apart : Addr
  c_NoPlace : Addr
  c_NoDeed : Addr
  c_NoForest : Addr
  c_NoLine : Addr
  c_NoText : Addr
  v_TreeError : mg "TreeError" = some (.ref c_TreeError)
  v_NoRow : mg "NoRow" = some (.ref c_NoRow)
  v_NoPoint : mg "NoPoint" = some (.ref c_NoPoint)
  v_Ring : mg "Ring" = some (.ref c_Ring)
  v_NoTie : mg "NoTie" = some (.ref c_NoTie)
  v_Apart : mg "Apart" = some (.ref c_Apart)
  v_NoPlace : mg "NoPlace" = some (.ref c_NoPlace)
  v_NoDeed : mg "NoDeed" = some (.ref c_NoDeed)
  v_NoForest : mg "NoForest" = some (.ref c_NoForest)
  v_NoLine : mg "NoLine" = some (.ref c_NoLine)
  v_NoText : mg "NoText" = some (.ref c_NoText)
  k_NoRow : PySem.W.keepIn K (.ref c_NoRow) = true
  s_NoRow : XcC K c_NoRow
  x_NoRow : PySem.W.excIn K c_NoRow veB "ValueError.__new__" = true
  k_NoPoint : PySem.W.keepIn K (.ref c_NoPoint) = true
  s_NoPoint : XcC K c_NoPoint
  x_NoPoint : PySem.W.excIn K c_NoPoint veB "ValueError.__new__" = true
  k_Ring : PySem.W.keepIn K (.ref c_Ring) = true
  s_Ring : XcC K c_Ring
  x_Ring : PySem.W.excIn K c_Ring veB "ValueError.__new__" = true
  k_NoTie : PySem.W.keepIn K (.ref c_NoTie) = true
  s_NoTie : XcC K c_NoTie
  x_NoTie : PySem.W.excIn K c_NoTie veB "ValueError.__new__" = true
  k_Apart : PySem.W.keepIn K (.ref c_Apart) = true
  s_Apart : XcC K c_Apart
  x_Apart : PySem.W.excIn K c_Apart veB "ValueError.__new__" = true
  k_NoPlace : PySem.W.keepIn K (.ref c_NoPlace) = true
  s_NoPlace : XcC K c_NoPlace
  x_NoPlace : PySem.W.excIn K c_NoPlace veB "ValueError.__new__" = true
  k_NoDeed : PySem.W.keepIn K (.ref c_NoDeed) = true
  s_NoDeed : XcC K c_NoDeed
  x_NoDeed : PySem.W.excIn K c_NoDeed veB "ValueError.__new__" = true
  k_NoForest : PySem.W.keepIn K (.ref c_NoForest) = true
  s_NoForest : XcC K c_NoForest
  x_NoForest : PySem.W.excIn K c_NoForest veB "ValueError.__new__" = true
  k_NoLine : PySem.W.keepIn K (.ref c_NoLine) = true
  s_NoLine : XcC K c_NoLine
  x_NoLine : PySem.W.excIn K c_NoLine veB "ValueError.__new__" = true
  k_NoText : PySem.W.keepIn K (.ref c_NoText) = true
  s_NoText : XcC K c_NoText
  kits : kitsB K c_TreeError [c_NoRow, c_NoPoint, c_Ring, c_NoTie, c_Apart, c_NoPlace, c_NoDeed, c_NoForest, c_NoLine, c_NoText] = true
  o_NoText : OexC K c_NoText
  xf_NoText : XfC K c_NoText
  ln_NoText : PySem.W.findIn K (.ref c_NoText) "line" = some none
  a_NoText_init : Addr
  d_NoText_init : FuncData
  F_NoText_init : Fun K "__init__" "NoText.__init__" s_NoText_init a_NoText_init d_NoText_init
  b_NoText_init : Binds K d_NoText_init ["self", "line"] []
  i_NoText : PySem.W.findIn K (.ref c_NoText) "__init__" = some (some (.ref a_NoText_init))
  t_NoText : PySem.W.typeIn K (.ref a_NoText_init) = some (.type "function")
  aD : Addr
  v_DEEDWORDS : mg "DEED_WORDS" = some (.ref aD)
  tD : tupB K aD dws = true
/-! ### the box of draws -/
def Smalls (ns : List Int) : Prop := ∀ x ∈ ns, 0 ≤ x ∧ x < 2147483648
theorem Smalls.append {a b : List Int} (h : Smalls a) (g : Smalls b) : Smalls (a ++ b) := fun x m => by
  rcases List.mem_append.mp m with m | m
  · exact h x m
  · exact g x m
theorem Smalls.one {x : Int} (h0 : 0 ≤ x) (h1 : x < 2147483648) : Smalls [x] := fun y m => by
  rcases List.mem_cons.mp m with e | m
  · subst e
    exact ⟨h0, h1⟩
  · cases m
theorem Smalls.take {a : List Int} (h : Smalls a) (k : Nat) : Smalls (a.take k) := fun x m => h x (List.mem_of_mem_take m)
structure BoxAt (H : Hp) (b L : Addr) : Prop where
  ex : ∃ (ns : List Int) (n : Int), H b = some (.lst [.ref L, .int n]) ∧ H L = some (.lst (ns.map V.int)) ∧ ns ≠ [] ∧ L ≠ b ∧ Smalls ns
theorem BoxAt.same {H H' : Hp} {b L : Addr} (B : BoxAt H b L) (s : Same H H') : BoxAt H' b L := by
  obtain ⟨ns, n, h1, h2, r⟩ := B.ex
  exact ⟨ns, n, s _ _ h1, s _ _ h2, r⟩
theorem BoxAt.new {H : Hp} {b L p : Addr} {o : HO} (B : BoxAt H b L) (n : H p = none) : BoxAt (upd H p o) b L := B.same (same_new n)
theorem BoxAt.put {H : Hp} {b L p : Addr} {o : HO} (B : BoxAt H b L) (n1 : p ≠ b) (n2 : p ≠ L) : BoxAt (upd H p o) b L := by
  obtain ⟨ns, n, h1, h2, r⟩ := B.ex
  refine ⟨ns, n, ?_, ?_, r⟩
  · rw [upd_ne n1.symm]
    exact h1
  · rw [upd_ne n2.symm]
    exact h2
theorem BoxAt.tups {K : PySem.W.Frag} {H H' : Hp} {b L : Addr} (B : BoxAt H b L) (s : But b H H') : Tups K H H' := by
  obtain ⟨ns, n, h1, _⟩ := B.ex
  exact Tups.of_but s h1
theorem BoxAt.ne {H : Hp} {b L p : Addr} (B : BoxAt H b L) (n : H p = none) : p ≠ b := by
  obtain ⟨ns, n', h1, _⟩ := B.ex
  exact (ne_of_none h1 n).symm
theorem BoxAt.neL {H : Hp} {b L p : Addr} (B : BoxAt H b L) (n : H p = none) : p ≠ L := by
  obtain ⟨ns, n', h1, h2, _⟩ := B.ex
  exact (ne_of_none h2 n).symm
/-- what is new behind a draw was new ahead of it -/
theorem BoxAt.back {H H' : Hp} {b L p : Addr} (B : BoxAt H' b L) (s : But b H H') (n : H' p = none) : H p = none := by
  cases e : H p with
  | none => rfl
  | some o =>
    have z := s _ _ e (B.ne n)
    rw [z] at n
    cases n
def spMixed : Sp := fun vs H Q _ => ∃ (c m : Int), vs = [.int c, .int m] ∧ 0 ≤ m ∧ m ≤ 700 ∧ ∀ (p : Addr) (ns : List Int) (H' : Hp), Same H H' → H p = none → H' p = some (.lst (ns.map V.int)) → (ns.length : Int) = m → Smalls ns → Q (.ref p) H'
def spBox (K : PySem.W.Frag) : Sp := fun vs H Q _ => ∃ (a : Addr) (ns : List Int), vs = [.ref a] ∧ SqL K H a (ns.map V.int) ∧ ns.length ≤ 63 ∧ ∀ (b L : Addr) (H' : Hp), Same H H' → H b = none → BoxAt H' b L → Q (.ref b) H'
/-- a draw: the box at b goes on, all else stays; what comes of it -/
def spDraw (R : Int → Prop) : Sp := fun vs H Q _ => ∃ (b L : Addr), vs = [.ref b] ∧ BoxAt H b L ∧ ∀ (x : Int) (H' : Hp), R x → BoxAt H' b L → But b H H' → Q (.int x) H'
abbrev spNext : Sp := spDraw fun x => 0 ≤ x ∧ x < 2147483648
abbrev spWorth : Sp := spDraw fun x => -(2 ^ 90) < x ∧ x < 2 ^ 90
def spFew : Sp := fun vs H Q _ => ∃ (b L : Addr) (f m : Int), vs = [.ref b, .int f, .int m] ∧ BoxAt H b L ∧ 0 ≤ f ∧ 0 ≤ m ∧ f < 1000 ∧ m < 1000 ∧ ∀ (x : Int) (H' : Hp), 0 ≤ x → (x ≤ f ∨ x ≤ m) → BoxAt H' b L → But b H H' → Q (.int x) H'
def spSpot : Sp := fun vs H Q _ => ∃ (b L : Addr) (m : Int), vs = [.ref b, .int m] ∧ BoxAt H b L ∧ 0 < m ∧ m < 1000 ∧ ∀ (x : Int) (H' : Hp), -2 < x → x < 2000 → BoxAt H' b L → But b H H' → Q (.int x) H'
/-- the kinds -/
def kinds : List Str := ["a", "b", "c", "d", "e", "f", "g", "h"]
def pdata (p : Int × Str) : PyData := .tuple [.int p.1, .str p.2]
def tdata (t : Int × Int) : PyData := .tuple [.int t.1, .int t.2]
def PtOk (p : Int × Str) : Prop := -(2 ^ 90) < p.1 ∧ p.1 < 2 ^ 90 ∧ p.2 ∈ kinds
def spPoint (K : PySem.W.Frag) : Sp := fun vs H Q _ => ∃ (b L : Addr), vs = [.ref b] ∧ BoxAt H b L ∧ ∀ (p : Addr) (x : Int) (k : Str) (H' : Hp), PtOk (x, k) → BoxAt H' b L → But b H H' → H p = none → H' p = some (.tup [.int x, .str k]) → Q (.ref p) H'
section
variable {P : Program} {w : World} {K : PySem.W.Frag} {mg : Str → Option Value} {base : Heap}
theorem ok_mixed (T : Top K mg) : FnOk P w K mg base CX0 1 T.a_Lmixed T.d_Lmixed ["_law_cell", "_law_many"] spMixed := by
  refine T.F_Lmixed.ok sc_Lmixed (fun vs H Q E h => ?_) (fun cdv A outer s H vs Q E hr h => ?_)
  · obtain ⟨c, m, rfl, _⟩ := h
    rfl
  · obtain ⟨c, m, rfl, h0, h1, q⟩ := h
    refine ⟨_, (pss_cons (ps_set (i := 2) sc_Lmixed.nd rfl (.inl rfl) (pe_op op_mod (pv 0) pe_int))
      (pss_cons (ps_set (i := 3) sc_Lmixed.nd rfl (.inl rfl) (pe_lst pa_nil))
      (pss_cons (ps_for PassesOwn.never rfl (pi_range1 (by rfl) T.m_range (pa_cons (pv 1) pa_nil)) (pg_name (i := 4) sc_Lmixed.nd rfl (.inl rfl)) (pss_cons (ps_set (i := 2) sc_Lmixed.nd rfl (.inl rfl) (pe_op op_mod (pe_op op_add (pe_op op_add (pe_op op_mul (pv 2) pe_int) (pe_op op_mul (pe_op op_mul pe_int (pv 4)) (pv 4))) pe_int) pe_int))
      (pss_one (ps_expr (pe_bm PySem.F.plainAttrs_list PySem.F.slot_list_append PySem.F.type_list_append mt_append (pv 3) (pa_cons (pe_op op_fdivW (pe_op op_mod (pe_op op_add (pe_op op_add (pe_op op_mul (pv 2) (pv 2)) (pe_op op_mul pe_int (pv 2))) (pv 4)) pe_int) pe_int) pa_nil))))))
      (pss_one (ps_ret (pv 3)))))), ?_⟩
    refine ⟨_, rfl, _, _, rfl, rfl, (by show (0 : Int) < 2147483647; decide), Nat.zero_le _, fun p np => ?_⟩
    refine ⟨_, rfl, _, rfl, by omega, by omega, for_range (lo := 0) (n := m.toNat) (fun i σ H2 => ∃ (a : Int) (ns : List Int) (y : Option V), σ = [some (.int c), some (.int m), some (.int a), some (.ref p), y] ∧ 0 ≤ a ∧ a < 2147483647 ∧ Same H H2 ∧ H2 p = some (.lst (ns.map V.int)) ∧ ns.length = i ∧ Smalls ns)
      ⟨_, [], none, rfl, Int.emod_nonneg _ (by decide), Int.emod_lt_of_pos _ (by decide), same_new np, upd_same, rfl, fun x z => nomatch z⟩ ?_ ?_⟩
    · rintro i σ H2 hi ⟨a, ns, y, rfl, a0, a1, sm, hp, hl, hs⟩
      have hi2 : (i : Int) < 700 := by omega
      refine ⟨_, rfl, _, _, rfl, rfl, .inr ⟨by decide, by decide⟩, _, rfl, _, _, rfl, rfl, .inl ⟨by decide, by decide⟩, _, rfl, _, _, rfl, rfl, .inl ⟨by omega, by omega⟩, _, _, rfl, rfl, _, _, rfl, rfl, _, _, rfl, rfl, (by show (0 : Int) < 2147483629; decide), ?_⟩
      generalize hA : (a * 48271 + 7 * (0 + (i : Int)) * (0 + (i : Int)) + 11) % 2147483629 = A1
      have A0 : 0 ≤ A1 := by
        rw [← hA]
        exact Int.emod_nonneg _ (by decide)
      have A2 : A1 < 2147483629 := by
        rw [← hA]
        exact Int.emod_lt_of_pos _ (by decide)
      refine ⟨_, rfl, .inl ⟨rfl, _, SqL.of hp⟩, _, rfl, _, rfl, _, _, rfl, rfl, .inl ⟨by omega, by omega⟩, _, rfl, _, _, rfl, rfl, .inl ⟨by decide, by decide⟩, _, _, rfl, rfl, _, rfl, _, _, rfl, rfl, _, _, rfl, rfl, (by show (0 : Int) < 2147483587; decide), _, _, rfl, rfl, wide_ok (by decide) (by decide), p, _, _, rfl, rfl, hp, szl (by rw [List.length_map]; omega), ?_⟩
      have fin : Smalls (ns ++ [(A1 * A1 + 3 * A1 + (0 + (i : Int))) % 2147483587 / 7]) := by
        refine hs.append (Smalls.one ?_ ?_)
        · exact Int.ediv_nonneg (Int.emod_nonneg _ (by decide)) (by decide)
        · have z := Int.emod_lt_of_pos (A1 * A1 + 3 * A1 + (0 + (i : Int))) (show (0 : Int) < 2147483587 by decide)
          have z0 := Int.emod_nonneg (A1 * A1 + 3 * A1 + (0 + (i : Int))) (show (2147483587 : Int) ≠ 0 by decide)
          omega
      subst hA
      refine ⟨_, _, _, rfl, A0, Int.lt_trans A2 (by decide), fun b o e => ?_, ?_, ?_, fin⟩
      · rw [upd_ne (ne_of_none e np)]
        exact sm _ _ e
      · rw [upd_same, List.map_append]
        rfl
      · rw [List.length_append, hl]
        rfl
    · rintro σ H2 ⟨a, ns, y, rfl, a0, a1, sm, hp, hl, hs⟩
      exact ⟨_, rfl, q p ns H2 sm np hp (by omega) hs⟩
theorem pow18 : (10 : Int) ^ (18 : Int).toNat = 1000000000000000000 := by decide +kernel
theorem pow24 : (10 : Int) ^ (24 : Int).toNat = 1000000000000000000000000 := by decide +kernel
theorem pow29 : (10 : Int) ^ (29 : Int).toNat = 100000000000000000000000000000 := by decide +kernel
theorem ok_box (T : Top K mg) : FnOk P w K mg base CX0 2 T.a_Lbox T.d_Lbox ["_law_script"] (spBox K) := by
  have G_Lmixed : FnOk P w K mg base CX0 1 _ _ _ _ := ok_mixed T
  refine T.F_Lbox.ok sc_Lbox (fun vs H Q E h => ?_) (fun cdv A outer s H vs Q E hr h => ?_)
  · obtain ⟨a, ns, rfl, _⟩ := h
    rfl
  · obtain ⟨a, ns, rfl, hS, hlen, q⟩ := h
    refine ⟨_, (pss_cons (ps_set (i := 1) sc_Lbox.nd rfl (.inl rfl) (pe_lst pa_nil))
      (pss_cons (ps_for PassesOwn.never rfl (pi_list (pe_slice sl_list (pv 0) po_none (po_some pe_int))) (pg_name (i := 2) sc_Lbox.nd rfl (.inl rfl)) (pss_cons (ps_if (pt_cmpR op_lt (pv 2) (pe_op op_pow pe_int pe_int) (nomark _)) (pss_cons (ps_expr (pe_bm PySem.F.plainAttrs_list PySem.F.slot_list_extend PySem.F.type_list_extend mt_extend (pv 1) (pa_cons (pe_call G_Lmixed hr (by rfl) T.g_Lmixed T.F_Lmixed.kp T.b_Lmixed .nil pass0 (pa_cons (pv 2) (pa_cons pe_int pa_nil))) pa_nil)))
      (pss_one ps_continue)) pss_nil)
      (pss_cons (ps_set (i := 3) sc_Lbox.nd rfl (.inl rfl) (pv 2))
      (pss_one (ps_for PassesOwn.never rfl (pi_range1 (by rfl) T.m_range (pa_cons pe_int pa_nil)) (pg_name (i := 4) sc_Lbox.nd rfl (.inl rfl)) (pss_one (ps_if (pt_cmpR op_gt (pv 3) pe_int (nomark _)) (pss_cons (ps_expr (pe_bm PySem.F.plainAttrs_list PySem.F.slot_list_append PySem.F.type_list_append mt_append (pv 1) (pa_cons (pe_op op_mod (pv 3) pe_int) pa_nil)))
      (pss_one (ps_set (i := 3) sc_Lbox.nd rfl (.inl rfl) (pe_op op_fdivW (pv 3) pe_int)))) pss_nil)))))))
      (pss_cons (ps_set (i := 1) sc_Lbox.nd rfl (.inl rfl) (pe_slice sl_list (pv 1) po_none (po_some pe_int)))
      (pss_one (ps_ret (pe_lst (pa_cons (pe_op op_cat (pv 1) (pe_call G_Lmixed hr (by rfl) T.g_Lmixed T.F_Lmixed.kp T.b_Lmixed .nil pass0 (pa_cons (pe_op op_add (pe_callB (cr_sum rfl) (by rfl) T.m_sum (by decide +kernel) (pa_cons (pe_slice sl_list (pv 0) po_none (po_some pe_int)) pa_nil)) (pe_callB call_len_seq (by rfl) T.m_len PySem.boot_len (pa_cons (pv 0) pa_nil))) (pa_cons (pe_op op_sub pe_int (pe_callB call_len_seq (by rfl) T.m_len PySem.boot_len (pa_cons (pv 1) pa_nil))) pa_nil)))) (pa_cons pe_int pa_nil)))))))), ?_⟩
    refine ⟨Nat.zero_le _, fun p np => ?_⟩
    have s1 : Same H (upd H p (.lst [])) := same_new np
    obtain ⟨k63, e63⟩ := cut_map ns (some 63)
    refine ⟨_, rfl, 63, rfl, a, _, rfl, s1.seq hS, fun c nc => ?_⟩
    have npc : p ≠ c := ne_of_none upd_same nc
    have hl63 : (cutV (ns.map V.int) none (some 63)).length ≤ 63 := by
      have z := cutV_length (ns.map V.int) none (some 63)
      rw [List.length_map] at z
      omega
    refine ⟨c, rfl, ⟨_, SqL.of upd_same⟩, for_list (K := K) (a := c) (xs := cutV (ns.map V.int) none (some 63)) (fun i σ H2 => ∃ (ms : List Int) (y2 y3 y4 : Option V), σ = [some (.ref a), some (.ref p), y2, y3, y4] ∧ Same H H2 ∧ H2 c = some (.lst (cutV (ns.map V.int) none (some 63))) ∧ H2 p = some (.lst (ms.map V.int)) ∧ ms.length ≤ 90 * i ∧ Smalls ms)
      ⟨[], none, none, none, rfl, s1.trans (same_new nc), upd_same, ?_, by decide, fun x z => nomatch z⟩ (fun i σ H2 _ ⟨_, _, _, _, _, _, hc, _⟩ => SqL.of hc) ?_ ?_⟩
    · rw [upd_ne npc, upd_same]
      rfl
    · rintro i x σ H2 hi ⟨ms, y2, y3, y4, rfl, sm, hc, hp, hl, hs⟩
      have hil : i < 63 := Nat.lt_of_lt_of_le (List.getElem?_eq_some_iff.mp hi).1 hl63
      obtain ⟨v, rfl⟩ : ∃ v, x = V.int v := by
        rw [e63, List.getElem?_map] at hi
        cases e : (ns.take k63)[i]? with
        | none =>
          rw [e] at hi
          cases hi
        | some z =>
          rw [e] at hi
          exact ⟨z, (Option.some.inj hi).symm⟩
      refine ⟨_, rfl, _, _, rfl, rfl, ⟨by decide, by decide, by decide⟩, _, _, rfl, rfl, _, rfl, ite2 (fun e1 => ?_) (fun e1 => ?_)⟩
      · refine ⟨_, rfl, .inl ⟨rfl, _, SqL.of hp⟩, _, rfl, v, 12, rfl, by decide, by decide, fun r rs H3 sm3 nr hr3 hrl hrs => ?_⟩
        have hp3 := sm3 _ _ hp
        have npr : p ≠ r := ne_of_none hp nr
        refine ⟨p, r, _, _, rfl, rfl, hp3, hr3, ?_, ?_⟩
        · rw [List.length_map, List.length_map]
          exact sz (by omega)
        · refine ⟨ms ++ rs, _, _, _, rfl, fun b o e => ?_, ?_, ?_, ?_, hs.append hrs⟩
          · rw [upd_ne (ne_of_none e np)]
            exact sm3 _ _ (sm _ _ e)
          · rw [upd_ne npc.symm]
            exact sm3 _ _ hc
          · rw [upd_same, List.map_append]
          · rw [List.length_append]
            omega
      · have e2 : ¬ v < 10 ^ (18 : Int).toNat := of_decide_eq_false (Bool.eq_false_iff.mpr e1)
        rw [pow18] at e2
        refine ⟨_, rfl, 90, rfl, by decide, by decide, for_range (lo := 0) (n := 90) (fun j σ H3 => ∃ (ms' : List Int) (l : Int) (z2 z4 : Option V), σ = [some (.ref a), some (.ref p), z2, some (.int l), z4] ∧ Same H H3 ∧ H3 c = some (.lst (cutV (ns.map V.int) none (some 63))) ∧ H3 p = some (.lst (ms'.map V.int)) ∧ ms'.length ≤ 90 * i + j ∧ Smalls ms')
          ⟨ms, v, _, _, rfl, sm, hc, hp, hl, hs⟩ ?_ ?_⟩
        · rintro j σ H3 hj ⟨ms', l, z2, z4, rfl, sm3, hc3, hp3, hl3, hs3⟩
          refine ⟨_, rfl, _, _, rfl, rfl, _, rfl, ite2 (fun e3 => ?_) (fun e3 => ?_)⟩
          · refine ⟨_, rfl, .inl ⟨rfl, _, SqL.of hp3⟩, _, rfl, _, _, rfl, rfl, (by show (0 : Int) < 10007; decide), p, _, _, rfl, rfl, hp3, szl (by rw [List.length_map]; omega), ?_⟩
            refine ⟨_, rfl, _, _, rfl, rfl, wide_ok (by decide) (by decide), ?_⟩
            refine ⟨ms' ++ [l % 10007], _, _, _, rfl, fun b o e => ?_, ?_, ?_, ?_, hs3.append (Smalls.one (Int.emod_nonneg _ (by decide)) ?_)⟩
            · rw [upd_ne (ne_of_none e np)]
              exact sm3 _ _ e
            · rw [upd_ne npc.symm]
              exact hc3
            · rw [upd_same, List.map_append]
              rfl
            · rw [List.length_append]
              show ms'.length + 1 ≤ _
              omega
            · have z := Int.emod_lt_of_pos l (show (0 : Int) < 10007 by decide)
              omega
          · exact ⟨ms', l, _, _, rfl, sm3, hc3, hp3, by omega, hs3⟩
        · rintro σ H3 ⟨ms', l, z2, z4, rfl, sm3, hc3, hp3, hl3, hs3⟩
          exact ⟨ms', _, _, _, rfl, sm3, hc3, hp3, by omega, hs3⟩
    · rintro σ H2 ⟨ms, y2, y3, y4, rfl, sm, hc, hp, hl, hs⟩
      obtain ⟨k7, e7⟩ := cut_map ms (some 700)
      have l7 : (cutV (ms.map V.int) none (some 700)).length ≤ 700 := by
        have z := cut_nat (α := Nat) (ms.map V.int) 700
        have z2 : cutV (ms.map V.int) none (some 700) = (ms.map V.int).take 700 := z
        rw [z2, List.length_take]
        omega
      refine ⟨_, rfl, 700, rfl, p, _, rfl, SqL.of hp, fun p2 np2 => ?_⟩
      have sm2 : Same H2 (upd H2 p2 (.lst (cutV (ms.map V.int) none (some 700)))) := same_new np2
      refine ⟨_, rfl, _, rfl, 63, rfl, a, _, rfl, (sm.trans sm2).seq hS, fun p3 np3 => ?_⟩
      have sm3 := same_new (o := .lst (cutV (ns.map V.int) none (some 63))) np3
      refine ⟨p3, ns.take k63, rfl, ?_, _, rfl, a, _, rfl, .inl (sm3.seq ((sm.trans sm2).seq hS)), _, _, rfl, rfl, _, rfl, p2, _, rfl, .inl (SqL.of (sm3 _ _ upd_same)), _, _, rfl, rfl, _, _, rfl, by omega, by omega, fun r rs H4 sm4 nr hr4 hrl hrs => ?_⟩
      · rw [e63]
        exact SqL.of upd_same
      · have hp4 := sm4 _ _ (sm3 _ _ (upd_same (H := H2) (a := p2) (o := .lst (cutV (ms.map V.int) none (some 700)))))
        refine ⟨p2, r, _, _, rfl, rfl, hp4, hr4, ?_, fun L nL => ⟨(by show 2 ≤ sizeLine; decide), fun b nb => ?_⟩⟩
        · rw [List.length_map]
          exact sz (by omega)
        · have nLb : L ≠ b := ne_of_none upd_same nb
          have s4 : Same H H4 := ((sm.trans sm2).trans sm3).trans sm4
          have s5 : Same H (upd H4 L (.lst (cutV (ms.map V.int) none (some 700) ++ rs.map V.int))) := s4.trans (same_new nL)
          refine q b L _ (s5.trans (same_new nb)) (s5.free nb) ⟨ms.take k7 ++ rs, 0, upd_same, ?_, ?_, nLb, (hs.take _).append hrs⟩
          · rw [upd_ne nLb, upd_same, e7, List.map_append]
          · intro e
            have e2 := congrArg List.length e
            rw [List.length_append] at e2
            have e3 : (cutV (ms.map V.int) none (some 700)).length = (ms.take k7).length := by rw [e7, List.length_map]
            have e4 : (ms.take k7).length + rs.length = 0 := e2
            omega
theorem ok_next (T : Top K mg) : FnOk P w K mg base CX0 1 T.a_Lnext T.d_Lnext ["_law_box_here"] spNext := by
  refine T.F_Lnext.ok sc_Lnext (fun vs H Q E h => ?_) (fun cdv A outer s H vs Q E hr h => ?_)
  · obtain ⟨b, L, rfl, _⟩ := h
    rfl
  · obtain ⟨b, L, rfl, ⟨ns, n, hb, hL, hne, nLb, hs⟩, q⟩ := h
    have hl : 0 < ns.length := List.length_pos_iff.mpr hne
    refine ⟨_, (pss_cons (ps_augS (pv 0) pe_int get_list pe_int ip_add set_list)
      (pss_one (ps_ret (pe_ix ix_list (pe_ix ix_list (pv 0) pe_int (fun _ _ => rfl)) (pe_op op_mod (pe_op op_sub (pe_ix ix_list (pv 0) pe_int (fun _ _ => rfl)) pe_int) (pe_callB call_len_seq (by rfl) T.m_len PySem.boot_len (pa_cons (pe_ix ix_list (pv 0) pe_int (fun _ _ => rfl)) pa_nil))) (fun _ _ => rfl))))), ?_⟩
    refine ⟨_, rfl, b, _, _, _, rfl, rfl, SqL.of hb, atI_nat (j := 1) rfl, _, _, rfl, rfl, b, _, _, 1, rfl, rfl, hb, rfl, ?_⟩
    have hb2 : (upd H b (.lst ([V.ref L, V.int n].set 1 (.int (n + 1))))) b = some (.lst [.ref L, .int (n + 1)]) := upd_same
    have hL2 : (upd H b (.lst ([V.ref L, V.int n].set 1 (.int (n + 1))))) L = some (.lst (ns.map V.int)) := by
      rw [upd_ne nLb]
      exact hL
    have m0 : (0 : Int) < ((ns.map V.int).length : Int) := by
      rw [List.length_map]
      omega
    have z0 := Int.emod_nonneg (n + 1 - 1) (show ((ns.map V.int).length : Int) ≠ 0 by omega)
    have z1 := Int.emod_lt_of_pos (n + 1 - 1) m0
    obtain ⟨v, hv, hm⟩ := at_map (ns := ns) z0 (by rw [List.length_map] at z1 ⊢; exact z1)
    refine ⟨_, rfl, b, _, _, _, rfl, rfl, SqL.of hb2, atI_nat (j := 0) rfl, _, rfl, b, _, _, _, rfl, rfl, SqL.of hb2, atI_nat (j := 1) rfl, _, _, rfl, rfl, _, rfl, b, _, _, _, rfl, rfl, SqL.of hb2, atI_nat (j := 0) rfl, L, _, rfl, .inl (SqL.of hL2), _, _, rfl, rfl, m0, L, _, _, _, rfl, rfl, SqL.of hL2, hv, ?_⟩
    exact q v _ (hs v hm) ⟨ns, n + 1, hb2, hL2, hne, nLb, hs⟩ But.refl.put
theorem ok_few (T : Top K mg) : FnOk P w K mg base CX0 2 T.a_Lfew T.d_Lfew ["_law_box_here", "_law_few_here", "_law_most"] spFew := by
  have G_Lnext : FnOk P w K mg base CX0 1 _ _ _ _ := ok_next T
  refine T.F_Lfew.ok sc_Lfew (fun vs H Q E h => ?_) (fun cdv A outer s H vs Q E hr h => ?_)
  · obtain ⟨b, L, f, m, rfl, _⟩ := h
    rfl
  · obtain ⟨b, L, f, m, rfl, B, f0, m0, f1, m1, q⟩ := h
    refine ⟨_, (pss_cons (ps_set (i := 3) sc_Lfew.nd rfl (.inl rfl) (pe_call G_Lnext hr (by rfl) T.g_Lnext T.F_Lnext.kp T.b_Lnext .nil pass0 (pa_cons (pv 0) pa_nil)))
      (pss_one (ps_ret (pe_ix ix_list (pe_lst (pa_cons (pe_op op_mod (pe_op op_fdivW (pv 3) pe_int) (pe_op op_add (pv 1) pe_int)) (pa_cons (pe_op op_mod (pe_op op_fdivW (pv 3) pe_int) (pe_op op_add (pv 2) pe_int)) pa_nil))) (pe_callTy call_int1 (by rfl) T.m_int (by decide +kernel) (pa_cons (pe_cmpR op_eq (pe_op op_mod (pv 3) pe_int) pe_int (nomark _)) pa_nil)) (fun _ _ => rfl))))), ?_⟩
    refine ⟨_, rfl, b, L, rfl, B, fun x H1 hx B1 k1 => ?_⟩
    refine ⟨_, rfl, _, _, rfl, rfl, wide_ok (by decide) (by decide), _, rfl, _, _, rfl, rfl, _, _, rfl, rfl, (by show (0 : Int) < f + 1; omega), _, rfl, _, _, rfl, rfl, wide_ok (by decide) (by decide), _, rfl, _, _, rfl, rfl, _, _, rfl, rfl, (by show (0 : Int) < m + 1; omega), (by show 2 ≤ sizeLine; decide), fun p np => ?_⟩
    have zf0 := Int.emod_nonneg (x / 8) (show f + 1 ≠ 0 by omega)
    have zf1 := Int.emod_lt_of_pos (x / 8) (show (0 : Int) < f + 1 by omega)
    have zm0 := Int.emod_nonneg (x / 8) (show m + 1 ≠ 0 by omega)
    have zm1 := Int.emod_lt_of_pos (x / 8) (show (0 : Int) < m + 1 by omega)
    refine ⟨_, rfl, _, _, rfl, rfl, (by show (0 : Int) < 8; decide), rfl, .inr ⟨_, rfl, ?_⟩⟩
    by_cases e : x % 8 = 5
    · have e2 : decide (V.int (x % 8) = V.int 5) = true := decide_eq_true (congrArg V.int e)
      rw [e2]
      refine ⟨p, _, _, _, rfl, rfl, SqL.of upd_same, atI_nat (j := 1) rfl, ?_⟩
      exact q _ _ zm0 (.inr (by omega)) (B1.new np) (k1.new np)
    · have e2 : decide (V.int (x % 8) = V.int 5) = false := decide_eq_false fun z => e (V.int.inj z)
      rw [e2]
      refine ⟨p, _, _, _, rfl, rfl, SqL.of upd_same, atI_nat (j := 0) rfl, ?_⟩
      exact q _ _ zf0 (.inl (by omega)) (B1.new np) (k1.new np)
theorem ok_worth (T : Top K mg) : FnOk P w K mg base CX0 2 T.a_Lworth T.d_Lworth ["_law_box_here"] spWorth := by
  have G_Lnext : FnOk P w K mg base CX0 1 _ _ _ _ := ok_next T
  refine T.F_Lworth.ok sc_Lworth (fun vs H Q E h => ?_) (fun cdv A outer s H vs Q E hr h => ?_)
  · obtain ⟨b, L, rfl, _⟩ := h
    rfl
  · obtain ⟨b, L, rfl, B, q⟩ := h
    refine ⟨_, (pss_cons (ps_set (i := 1) sc_Lworth.nd rfl (.inl rfl) (pe_call G_Lnext hr (by rfl) T.g_Lnext T.F_Lnext.kp T.b_Lnext .nil pass0 (pa_cons (pv 0) pa_nil)))
      (pss_one (ps_ret (pe_ix ix_list (pe_lst (pa_cons (pe_op op_sub (pe_op op_mod (pe_op op_fdivW (pv 1) pe_int) pe_int) pe_int) (pa_cons (pe_op op_mod (pe_op op_fdivW (pv 1) pe_int) pe_int) (pa_cons (pe_op op_sub (pe_op op_mod (pe_op op_fdivW (pv 1) pe_int) pe_int) pe_int) (pa_cons (pe_op op_add (pe_op op_pow pe_int pe_int) (pv 1)) (pa_cons (pe_op op_sub (pe_op op_sub pe_int (pe_op op_pow pe_int pe_int)) (pv 1)) (pa_cons pe_int (pa_cons pe_int (pa_cons (pv 1) pa_nil))))))))) (pe_op op_mod (pv 1) pe_int) (fun _ _ => rfl))))), ?_⟩
    refine ⟨_, rfl, b, L, rfl, B, fun x H1 hx B1 k1 => ?_⟩
    have p8 : ∀ {i : Int}, CDivW i 8 := wide_ok (by decide) (by decide)
    refine ⟨_, rfl, _, _, rfl, rfl, p8, _, _, rfl, rfl, (by show (0 : Int) < 9; decide), _, _, rfl, rfl, _, rfl, _, _, rfl, rfl, p8, _, _, rfl, rfl, (by show (0 : Int) < 3; decide), _, rfl, _, _, rfl, rfl, p8, _, _, rfl, rfl, (by show (0 : Int) < 40; decide), _, _, rfl, rfl, _, _, rfl, rfl, ⟨by decide, by decide, by decide⟩, _, rfl, _, _, rfl, rfl, _, _, rfl, rfl, ⟨by decide, by decide, by decide⟩, _, _, rfl, rfl, _, rfl, _, _, rfl, rfl, _, rfl, (by show 8 ≤ sizeLine; decide), fun p np => ?_⟩
    have c0 := Int.emod_nonneg x (show (8 : Int) ≠ 0 by decide)
    have c1 := Int.emod_lt_of_pos x (show (0 : Int) < 8 by decide)
    have pick : ∃ v : Int, atI [V.int (x / 8 % 9 - 3), V.int (x / 8 % 3), V.int (x / 8 % 40 - 20), V.int (10 ^ (24 : Int).toNat + x), V.int (0 - 10 ^ (24 : Int).toNat - x), V.int 5, V.int 0, V.int x] (x % 8) = some (.int v) ∧ -(2 ^ 90) < v ∧ v < 2 ^ 90 := by
      rw [pow24]
      generalize x % 8 = r at c0 c1
      have hc : r = 0 ∨ r = 1 ∨ r = 2 ∨ r = 3 ∨ r = 4 ∨ r = 5 ∨ r = 6 ∨ r = 7 := by omega
      rcases hc with rfl | rfl | rfl | rfl | rfl | rfl | rfl | rfl
      all_goals exact ⟨_, rfl, by omega, by omega⟩
    obtain ⟨v, hv, hw⟩ := pick
    refine ⟨_, rfl, _, _, rfl, rfl, (by show (0 : Int) < 8; decide), p, _, _, _, rfl, rfl, SqL.of upd_same, hv, ?_⟩
    exact q v _ hw (B1.new np) (k1.new np)
theorem ok_point (T : Top K mg) : FnOk P w K mg base CX0 3 T.a_Lpoint T.d_Lpoint ["_law_box_here"] (spPoint K) := by
  have G_Lnext : FnOk P w K mg base CX0 1 _ _ _ _ := ok_next T
  have G_Lworth : FnOk P w K mg base CX0 2 _ _ _ _ := ok_worth T
  refine T.F_Lpoint.ok sc_Lpoint (fun vs H Q E h => ?_) (fun cdv A outer s H vs Q E hr h => ?_)
  · obtain ⟨b, L, rfl, _⟩ := h
    rfl
  · obtain ⟨b, L, rfl, B, q⟩ := h
    refine ⟨_, (pss_cons (ps_set (i := 1) sc_Lpoint.nd rfl (.inl rfl) (pe_call G_Lnext (hr.mono (by decide)) (by rfl) T.g_Lnext T.F_Lnext.kp T.b_Lnext .nil pass0 (pa_cons (pv 0) pa_nil)))
      (pss_one (ps_ret (pe_tup (pa_cons (pe_call G_Lworth hr (by rfl) T.g_Lworth T.F_Lworth.kp T.b_Lworth .nil pass0 (pa_cons (pv 0) pa_nil)) (pa_cons (pe_ix ix_str (pe_ix ix_list (pe_lst (pa_cons pe_str (pa_cons pe_str (pa_cons pe_str (pa_cons pe_str pa_nil))))) (pe_op op_mod (pv 1) pe_int) (fun _ _ => rfl)) (pe_op op_mod (pe_op op_fdivW (pv 1) pe_int) (pe_ix ix_list (pe_lst (pa_cons pe_int (pa_cons pe_int (pa_cons pe_int (pa_cons pe_int pa_nil))))) (pe_op op_mod (pv 1) pe_int) (fun _ _ => rfl))) (fun _ _ => rfl)) pa_nil)))))), ?_⟩
    refine ⟨_, rfl, b, L, rfl, B, fun x H1 hx B1 k1 => ?_⟩
    refine ⟨_, rfl, b, L, rfl, B1, fun v H2 hv B2 k2 => ?_⟩
    refine ⟨(by show 4 ≤ sizeLine; decide), fun p np => ?_⟩
    have c0 := Int.emod_nonneg x (show (4 : Int) ≠ 0 by decide)
    have c1 := Int.emod_lt_of_pos x (show (0 : Int) < 4 by decide)
    have pick : ∃ (z : Str) (m : Int) (c : Nat), atI [V.str "abcdefgh", V.str "ab", V.str "a", V.str "h"] (x % 4) = some (.str z) ∧ atI [V.int 8, V.int 2, V.int 1, V.int 1] (x % 4) = some (.int m) ∧ 0 < m ∧ z.length ≤ sizeLine ∧ atI z.cps.toList (x / 4 % m) = some c ∧ (⟨#[c]⟩ : Str) ∈ kinds := by
      generalize x % 4 = r at c0 c1
      have hc : r = 0 ∨ r = 1 ∨ r = 2 ∨ r = 3 := by omega
      rcases hc with rfl | rfl | rfl | rfl
      · have d0 := Int.emod_nonneg (x / 4) (show (8 : Int) ≠ 0 by decide)
        have d1 := Int.emod_lt_of_pos (x / 4) (show (0 : Int) < 8 by decide)
        generalize hm : x / 4 % 8 = r2 at d0 d1
        have hc : r2 = 0 ∨ r2 = 1 ∨ r2 = 2 ∨ r2 = 3 ∨ r2 = 4 ∨ r2 = 5 ∨ r2 = 6 ∨ r2 = 7 := by omega
        rcases hc with h | h | h | h | h | h | h | h
        all_goals
          subst h
          refine ⟨_, _, _, rfl, rfl, by decide, by decide +kernel, by rw [hm]; exact rfl, by decide +kernel⟩
      · have d0 := Int.emod_nonneg (x / 4) (show (2 : Int) ≠ 0 by decide)
        have d1 := Int.emod_lt_of_pos (x / 4) (show (0 : Int) < 2 by decide)
        generalize hm : x / 4 % 2 = r2 at d0 d1
        have hc : r2 = 0 ∨ r2 = 1 := by omega
        rcases hc with h | h
        all_goals
          subst h
          refine ⟨_, _, _, rfl, rfl, by decide, by decide +kernel, by rw [hm]; exact rfl, by decide +kernel⟩
      all_goals
        have hm : x / 4 % 1 = 0 := by omega
        refine ⟨_, _, _, rfl, rfl, by decide, by decide +kernel, by rw [hm]; exact rfl, by decide +kernel⟩
    obtain ⟨z, m, c, h1, h2, hm, hz, hc, hk⟩ := pick
    refine ⟨_, rfl, _, _, rfl, rfl, (by show (0 : Int) < 4; decide), p, _, _, _, rfl, rfl, SqL.of upd_same, h1, ?_⟩
    refine ⟨_, rfl, _, _, rfl, rfl, wide_ok (by decide) (by decide), (by show 4 ≤ sizeLine; decide), fun p2 np2 => ?_⟩
    refine ⟨_, rfl, _, _, rfl, rfl, (by show (0 : Int) < 4; decide), p2, _, _, _, rfl, rfl, SqL.of upd_same, h2, _, _, rfl, rfl, hm, z, _, c, rfl, rfl, hz, hc, (by show 2 ≤ sizeLine; decide), fun t nt => ?_⟩
    have kk : But b H (upd (upd (upd H2 p (.lst [V.str "abcdefgh", V.str "ab", V.str "a", V.str "h"])) p2 (.lst [V.int 8, V.int 2, V.int 1, V.int 1])) t (.tup [.int v, .str ⟨#[c]⟩])) := (((k1.trans k2).new np).new np2).new nt
    have nH : H t = none := ((B2.new np).new np2).back (((k1.trans k2).new np).new np2) nt
    exact q t v ⟨#[c]⟩ _ ⟨hv.1, hv.2, hk⟩ (((B2.new np).new np2).new nt) kk nH upd_same
theorem ok_spot (T : Top K mg) : FnOk P w K mg base CX0 2 T.a_Lspot T.d_Lspot ["_law_box_here", "_law_many"] spSpot := by
  have G_Lnext : FnOk P w K mg base CX0 1 _ _ _ _ := ok_next T
  refine T.F_Lspot.ok sc_Lspot (fun vs H Q E h => ?_) (fun cdv A outer s H vs Q E hr h => ?_)
  · obtain ⟨b, L, m, rfl, _⟩ := h
    rfl
  · obtain ⟨b, L, m, rfl, B, m0, m1, q⟩ := h
    refine ⟨_, (pss_cons (ps_set (i := 2) sc_Lspot.nd rfl (.inl rfl) (pe_call G_Lnext hr (by rfl) T.g_Lnext T.F_Lnext.kp T.b_Lnext .nil pass0 (pa_cons (pv 0) pa_nil)))
      (pss_one (ps_ret (pe_ifExp (pt_cmpR op_gt (pe_op op_mod (pv 2) pe_int) pe_int (nomark _)) (pe_op op_mod (pv 2) (pv 1)) (pe_ix ix_list (pe_lst (pa_cons (pv 1) (pa_cons (pe_un un_neg pe_int) (pa_cons (pe_op op_add (pv 1) pe_int) pa_nil)))) (pe_op op_mod (pe_op op_fdivW (pv 2) pe_int) pe_int) (fun _ _ => rfl)))))), ?_⟩
    refine ⟨_, rfl, b, L, rfl, B, fun x H1 hx B1 k1 => ?_⟩
    refine ⟨_, rfl, _, _, rfl, rfl, (by show (0 : Int) < 29; decide), _, _, rfl, rfl, _, rfl, ite2 (fun e1 => ?_) (fun e1 => ?_)⟩
    · have z0 := Int.emod_nonneg x (show m ≠ 0 by omega)
      have z1 := Int.emod_lt_of_pos x m0
      exact ⟨_, rfl, _, rfl, _, _, rfl, rfl, m0, q _ _ (by omega) (by omega) B1 k1⟩
    · refine ⟨_, rfl, _, rfl, _, rfl, _, _, rfl, rfl, (by show 3 ≤ sizeLine; decide), fun p np => ?_⟩
      have c0 := Int.emod_nonneg (x / 29) (show (3 : Int) ≠ 0 by decide)
      have c1 := Int.emod_lt_of_pos (x / 29) (show (0 : Int) < 3 by decide)
      have pick : ∃ v : Int, atI [V.int m, V.int (-1), V.int (m + 7)] (x / 29 % 3) = some (.int v) ∧ -2 < v ∧ v < 2000 := by
        generalize x / 29 % 3 = r at c0 c1
        have hc : r = 0 ∨ r = 1 ∨ r = 2 := by omega
        rcases hc with rfl | rfl | rfl
        all_goals exact ⟨_, rfl, by omega, by omega⟩
      obtain ⟨v, hv, h1, h2⟩ := pick
      refine ⟨_, rfl, _, _, rfl, rfl, wide_ok (by decide) (by decide), _, _, rfl, rfl, (by show (0 : Int) < 3; decide), p, _, _, _, rfl, rfl, SqL.of upd_same, hv, ?_⟩
      exact q v _ h1 h2 (B1.new np) (k1.new np)
end

/-! ### forests drawn from the box -/
/-- a forest stands at f -/
def fdata (pts : List (Int × Str)) (ts : List (Int × Int)) : PyData := .tuple [.tuple (pts.map pdata), .tuple (ts.map tdata)]
structure FrOk (pts : List (Int × Str)) (ts : List (Int × Int)) : Prop where
  pos : 0 < pts.length
  few : pts.length ≤ 100
  pok : ∀ p ∈ pts, PtOk p
  tok : ∀ t ∈ ts, 0 ≤ t.1 ∧ 0 ≤ t.2 ∧ t.1 < (pts.length : Int) ∧ t.2 < (pts.length : Int)
  tl : ts.length ≤ pts.length
def spForest (K : PySem.W.Frag) : Sp := fun vs H Q _ => ∃ (b L : Addr) (f m : Int), vs = [.ref b, .int f, .int m] ∧ BoxAt H b L ∧ 0 ≤ f ∧ 0 ≤ m ∧ f < 100 ∧ m < 100 ∧
  ∀ (p : Addr) (pts : List (Int × Str)) (ts : List (Int × Int)) (H' : Hp), FrOk pts ts → (pts.length : Int) ≤ max f m + 1 → BoxAt H' b L → But b H H' → Td K H' (.ref p) (fdata pts ts) → Q (.ref p) H'
theorem Td.two {K : PySem.W.Frag} {H : Hp} {x y : Int} {t : Addr} (h : H t = some (.tup [.int x, .int y])) : Td K H (.ref t) (tdata (x, y)) := .tup (SqT.of h) (.cons (.int x) (.cons (.int y) .nil))
theorem Td.pt {K : PySem.W.Frag} {H : Hp} {x : Int} {y : Str} {t : Addr} (h : H t = some (.tup [.int x, .str y])) : Td K H (.ref t) (pdata (x, y)) := .tup (SqT.of h) (.cons (.int x) (.cons (.str y) .nil))
/-- tied pairs stand in H itself -/
inductive PAll (H : Hp) : List V → List (Int × Int) → Prop
  | nil : PAll H [] []
  | cons {t : Addr} {x y : Int} {vs : List V} {ts : List (Int × Int)} : H t = some (.tup [.int x, .int y]) → PAll H vs ts → PAll H (.ref t :: vs) ((x, y) :: ts)
theorem PAll.td {K : PySem.W.Frag} {H : Hp} : ∀ {vs : List V} {ts : List (Int × Int)}, PAll H vs ts → TdAll K H vs (ts.map tdata)
  | _, _, .nil => .nil
  | _, _, .cons h k => .cons (Td.two h) (PAll.td k)
theorem PAll.mono {H H' : Hp} (s : ∀ t x y, H t = some (.tup [.int x, .int y]) → H' t = some (.tup [.int x, .int y])) : ∀ {vs : List V} {ts : List (Int × Int)}, PAll H vs ts → PAll H' vs ts
  | _, _, .nil => .nil
  | _, _, .cons h k => .cons (s _ _ _ h) (PAll.mono s k)
theorem PAll.same {H H' : Hp} (s : Same H H') {vs : List V} {ts : List (Int × Int)} (h : PAll H vs ts) : PAll H' vs ts := h.mono fun _ _ _ e => s _ _ e
theorem PAll.put {H : Hp} {l : Addr} {xs ys : List V} (e : H l = some (.lst xs)) {vs : List V} {ts : List (Int × Int)} (h : PAll H vs ts) : PAll (upd H l (.lst ys)) vs ts := h.mono fun t _ _ z => by
  rw [upd_ne (ne_of z e (by intro z; cases z))]
  exact z
theorem PAll.but {H H' : Hp} {b L : Addr} (B : BoxAt H b L) (s : But b H H') {vs : List V} {ts : List (Int × Int)} (h : PAll H vs ts) : PAll H' vs ts := h.mono fun t _ _ z => by
  obtain ⟨ns, n, h1, _⟩ := B.ex
  exact s _ _ z (ne_of z h1 (by intro z; cases z))
theorem PAll.snoc {H : Hp} {t : Addr} {x y : Int} (e : H t = some (.tup [.int x, .int y])) : ∀ {vs : List V} {ts : List (Int × Int)}, PAll H vs ts → PAll H (vs ++ [.ref t]) (ts ++ [(x, y)])
  | _, _, .nil => .cons e .nil
  | _, _, .cons h k => .cons h (PAll.snoc e k)
theorem PAll.length {H : Hp} : ∀ {vs : List V} {ts : List (Int × Int)}, PAll H vs ts → vs.length = ts.length
  | _, _, .nil => rfl
  | _, _, .cons _ k => congrArg (· + 1) k.length
theorem PAll.pairs {H : Hp} : ∀ {vs : List V} {ts : List (Int × Int)}, PAll H vs ts → ∀ x ∈ vs, ∃ t i j, x = V.ref t ∧ H t = some (.tup [.int i, .int j])
  | _, _, .nil, _, m => nomatch m
  | _, _, .cons h k, x, m => by
    rcases List.mem_cons.mp m with e | m
    · subst e
      exact ⟨_, _, _, rfl, h⟩
    · exact k.pairs x m
theorem PAll.perm {H : Hp} {xs ys : List V} (p : ys.Perm xs) : ∀ {ts : List (Int × Int)}, PAll H xs ts → ∃ us : List (Int × Int), us.Perm ts ∧ PAll H ys us := by
  induction p with
  | nil =>
    intro ts h
    cases h
    exact ⟨[], .refl _, .nil⟩
  | cons x p ih =>
    intro ts h
    cases h with
    | cons h1 h2 =>
      obtain ⟨us, pu, hu⟩ := ih h2
      exact ⟨_ :: us, pu.cons _, .cons h1 hu⟩
  | swap x y l =>
    intro ts h
    cases h with
    | cons h1 h2 =>
      cases h2 with
      | cons h2 h3 => exact ⟨_, .swap .., .cons h2 (.cons h1 h3)⟩
  | trans p1 p2 ih1 ih2 =>
    intro ts h
    obtain ⟨us, pu, hu⟩ := ih2 h
    obtain ⟨vs, pv, hv⟩ := ih1 hu
    exact ⟨vs, pv.trans pu, hv⟩
/-- the list of names -/
def Names (n : Nat) (ns : List Int) : Prop := ns.length = n ∧ ∀ x ∈ ns, 0 ≤ x ∧ x < (n : Int)
theorem names_put {n : Nat} {ns : List Int} {k : Nat} (h : Names n ns) : Names (n + 1) (ns.take k ++ [(n : Int)] ++ ns.drop k) := by
  refine ⟨?_, fun x m => ?_⟩
  · have z := List.take_append_drop k ns
    have z2 := congrArg List.length z
    rw [List.length_append] at z2
    rw [List.length_append, List.length_append]
    show (ns.take k).length + 1 + (ns.drop k).length = n + 1
    have := h.1
    omega
  · rcases List.mem_append.mp m with m | m
    · rcases List.mem_append.mp m with m | m
      · have := h.2 x (List.mem_of_mem_take m)
        omega
      · rcases List.mem_cons.mp m with e | m
        · omega
        · cases m
    · have := h.2 x (List.mem_of_mem_drop m)
      omega
section
variable {P : Program} {w : World} {K : PySem.W.Frag} {mg : Str → Option Value} {base : Heap}
theorem ok_forest (T : Top K mg) : FnOk P w K mg base CX0 4 T.a_Lforest T.d_Lforest ["_law_box_here", "_law_few_here", "_law_most"] (spForest K) := by
  have G_Lnext : FnOk P w K mg base CX0 1 _ _ _ _ := ok_next T
  have G_Lfew : FnOk P w K mg base CX0 2 _ _ _ _ := ok_few T
  have G_Lpoint : FnOk P w K mg base CX0 3 _ _ _ _ := ok_point T
  refine T.F_Lforest.ok sc_Lforest (fun vs H Q E h => ?_) (fun cdv A outer s H vs Q E hr h => ?_)
  · obtain ⟨b, L, f, m, rfl, _⟩ := h
    rfl
  · obtain ⟨b, L, f, m, rfl, B, f0, m0, f1, m1, q⟩ := h
    refine ⟨_, (pss_cons (ps_set (i := 3) sc_Lforest.nd rfl (.inl rfl) (pe_op op_add pe_int (pe_call G_Lfew (hr.mono (by decide)) (by rfl) T.g_Lfew T.F_Lfew.kp T.b_Lfew .nil pass0 (pa_cons (pv 0) (pa_cons (pv 1) (pa_cons (pv 2) pa_nil))))))
      (pss_cons (ps_set (i := 4) sc_Lforest.nd rfl (.inl rfl) (pe_op op_mod (pe_call G_Lnext (hr.mono (by decide)) (by rfl) T.g_Lnext T.F_Lnext.kp T.b_Lnext .nil pass0 (pa_cons (pv 0) pa_nil)) pe_int))
      (pss_cons (ps_set (i := 5) sc_Lforest.nd rfl (.inl rfl) (pe_lst pa_nil))
      (pss_cons (ps_for PassesOwn.never rfl (pi_range1 (by rfl) T.m_range (pa_cons (pv 3) pa_nil)) (pg_name (i := 6) sc_Lforest.nd rfl (.inl rfl)) (pss_one (ps_expr (pe_bm PySem.F.plainAttrs_list PySem.F.slot_list_insert PySem.F.type_list_insert mt_insert (pv 5) (pa_cons (pe_ifExp (pt_cmpR op_gt (pv 4) pe_int (nomark _)) (pe_op op_mod (pe_call G_Lnext (hr.mono (by decide)) (by rfl) T.g_Lnext T.F_Lnext.kp T.b_Lnext .nil pass0 (pa_cons (pv 0) pa_nil)) (pe_op op_add (pv 6) pe_int)) (pv 6)) (pa_cons (pv 6) pa_nil))))))
      (pss_cons (ps_set (i := 7) sc_Lforest.nd rfl (.inl rfl) (pe_lst pa_nil))
      (pss_cons (ps_set (i := 8) sc_Lforest.nd rfl (.inl rfl) (pe_op op_mod (pe_call G_Lnext (hr.mono (by decide)) (by rfl) T.g_Lnext T.F_Lnext.kp T.b_Lnext .nil pass0 (pa_cons (pv 0) pa_nil)) pe_int))
      (pss_cons (ps_for PassesOwn.never rfl (pi_range2 (by rfl) T.m_range (pa_cons pe_int (pa_cons (pv 3) pa_nil))) (pg_name (i := 6) sc_Lforest.nd rfl (.inl rfl)) (pss_cons (ps_set (i := 9) sc_Lforest.nd rfl (.inl rfl) (pe_ix ix_list (pe_lst (pa_cons (pe_op op_sub (pv 6) pe_int) (pa_cons pe_int (pa_cons (pe_op op_fdivW (pe_op op_sub (pv 6) pe_int) pe_int) (pa_cons (pe_op op_mod (pe_call G_Lnext (hr.mono (by decide)) (by rfl) T.g_Lnext T.F_Lnext.kp T.b_Lnext .nil pass0 (pa_cons (pv 0) pa_nil)) (pv 6)) (pa_cons (pe_op op_sub (pe_op op_sub (pv 6) pe_int) (pe_op op_mul (pe_op op_mod (pv 6) pe_int) (pe_callTy call_int1 (by rfl) T.m_int (by decide +kernel) (pa_cons (pe_cmpR op_gt (pv 6) pe_int (nomark _)) pa_nil)))) pa_nil)))))) (pv 4) (fun _ _ => rfl)))
      (pss_one (ps_if (pt_mid (PW.pt (pw_or (pt_cmpR op_gt (pv 8) pe_int (nomark _)) (pw_or1 (pt_cmpR op_gt (pe_op op_mod (pe_call G_Lnext (hr.mono (by decide)) (by rfl) T.g_Lnext T.F_Lnext.kp T.b_Lnext .nil pass0 (pa_cons (pv 0) pa_nil)) pe_int) pe_int (nomark _)))))) (pss_one (ps_expr (pe_bm PySem.F.plainAttrs_list PySem.F.slot_list_append PySem.F.type_list_append mt_append (pv 7) (pa_cons (pe_tup (pa_cons (pe_callB (call_min2 rfl) (by rfl) T.m_min (by decide +kernel) (pa_cons (pe_ix ix_list (pv 5) (pv 6) (fun _ _ => rfl)) (pa_cons (pe_ix ix_list (pv 5) (pv 9) (fun _ _ => rfl)) pa_nil))) (pa_cons (pe_callB (call_max2 rfl) (by rfl) T.m_max (by decide +kernel) (pa_cons (pe_ix ix_list (pv 5) (pv 6) (fun _ _ => rfl)) (pa_cons (pe_ix ix_list (pv 5) (pv 9) (fun _ _ => rfl)) pa_nil))) pa_nil))) pa_nil)))) pss_nil))))
      (pss_one (ps_ret (pe_tup (pa_cons (pe_callTy call_tuple_of (by rfl) T.m_tuple (by decide +kernel) (pa_cons (pe_lc (own := [("_law_k", 6)]) (g := gName 6) (tt := tYes) (by rfl) sc_Lforest.nd (pi_range1 (by rfl) T.m_range (pa_cons (pv 3) pa_nil)) (blkOk_by (own := [("_law_k", 6)]) (N := ["_law_box_here", "_law_few_here", "_law_most", "_law_many", "_law_shape", "_law_names", "_law_k", "_law_ties", "_law_apart", "_law_under"]) (sc := defScope s_Lforest) (by decide +kernel)) (fun _ _ _ _ _ => (pg_name (i := 6) sc_Lforest.nd rfl (.inl rfl))) (fun _ _ _ _ _ => pts_nil) (fun _ _ _ _ _ => (pe_call G_Lpoint hr (by rfl) T.g_Lpoint T.F_Lpoint.kp T.b_Lpoint .nil pass0 (pa_cons (pv 0) pa_nil)))) pa_nil)) (pa_cons (pe_callTy call_tuple_of (by rfl) T.m_tuple (by decide +kernel) (pa_cons (pe_callB cr_sortedP (by rfl) T.m_sorted (by decide +kernel) (pa_cons (pv 7) pa_nil)) pa_nil)) pa_nil)))))))))))), ?_⟩
    refine ⟨_, rfl, _, rfl, _, rfl, b, L, f, m, rfl, B, f0, m0, by omega, by omega, fun x1 H1 a0 a1 B1 k1 => ⟨_, _, rfl, rfl, ?_⟩⟩
    refine ⟨_, rfl, b, L, rfl, B1, fun x2 H2 hx2 B2 k2 => ⟨_, _, rfl, rfl, (by show (0 : Int) < 5; decide), Nat.zero_le _, fun nm nnm => ?_⟩⟩
    generalize hs : x2 % 5 = sh
    have s0 : 0 ≤ sh := by
      rw [← hs]
      exact Int.emod_nonneg _ (by decide)
    have s1 : sh < 5 := by
      rw [← hs]
      exact Int.emod_lt_of_pos _ (by decide)
    have nnb : nm ≠ b := B2.ne nnm
    have nnL : nm ≠ L := B2.neL nnm
    refine ⟨_, rfl, _, rfl, by omega, by omega, for_range (lo := 0) (n := (1 + x1).toNat) (fun i σ H3 => ∃ (ns : List Int) (y6 : Option V), σ = [some (.ref b), some (.int f), some (.int m), some (.int (1 + x1)), some (.int (x2 % 5)), some (.ref nm), y6, none, none, none] ∧ BoxAt H3 b L ∧ H3 nm = some (.lst (ns.map V.int)) ∧ Names i ns ∧ But b H2 H3)
      ⟨[], none, rfl, B2.new nnm, upd_same, ⟨rfl, fun x z => nomatch z⟩, But.refl.new nnm⟩ ?_ ?_⟩
    · rintro i σ H3 hi ⟨ns, y6, rfl, B3, hnm, hN, k3⟩
      have e0 : (0 : Int) + (i : Int) = (i : Int) := by omega
      have fin : ∀ (j : Int) (H4 : Hp), BoxAt H4 b L → But b H3 H4 → H4 nm = some (.lst (ns.map V.int)) → ∃ (ns' : List Int) (y6' : Option V), [some (V.ref b), some (V.int f), some (V.int m), some (V.int (1 + x1)), some (V.int (x2 % 5)), some (V.ref nm), some (V.int (0 + (i : Int))), none, none, none] = [some (V.ref b), some (V.int f), some (V.int m), some (V.int (1 + x1)), some (V.int (x2 % 5)), some (V.ref nm), y6', none, none, none] ∧ BoxAt (upd H4 nm (.lst ((ns.map V.int).take j.toNat ++ [V.int (0 + (i : Int))] ++ (ns.map V.int).drop j.toNat))) b L ∧ (upd H4 nm (.lst ((ns.map V.int).take j.toNat ++ [V.int (0 + (i : Int))] ++ (ns.map V.int).drop j.toNat))) nm = some (.lst (ns'.map V.int)) ∧ Names (i + 1) ns' ∧ But b H2 (upd H4 nm (.lst ((ns.map V.int).take j.toNat ++ [V.int (0 + (i : Int))] ++ (ns.map V.int).drop j.toNat))) := by
        intro j H4 B4 k4 h4
        refine ⟨ns.take j.toNat ++ [(i : Int)] ++ ns.drop j.toNat, _, rfl, B4.put nnb nnL, ?_, names_put hN, fun a o e ne => ?_⟩
        · rw [upd_same, e0, List.map_append, List.map_append, List.map_take, List.map_drop]
          rfl
        · rw [upd_ne (ne_of_none e nnm)]
          exact k4 _ _ (k3 _ _ e ne) ne
      refine ⟨_, rfl, .inl ⟨rfl, _, SqL.of hnm⟩, _, rfl, _, _, rfl, rfl, _, rfl, ite2 (fun e1 => ?_) (fun e1 => ?_)⟩
      · refine ⟨_, rfl, b, L, rfl, B3, fun x3 H4 hx3 B4 k4 => ⟨_, rfl, _, _, rfl, rfl, _, _, rfl, rfl, (by show (0 : Int) < 0 + (i : Int) + 1; omega), _, rfl, ?_⟩⟩
        have z0 := Int.emod_nonneg x3 (show (0 : Int) + (i : Int) + 1 ≠ 0 by omega)
        have z1 := Int.emod_lt_of_pos x3 (show (0 : Int) < 0 + (i : Int) + 1 by omega)
        have h4 := k4 _ _ hnm nnb
        refine ⟨nm, _, _, _, rfl, rfl, h4, szl (by rw [List.length_map, hN.1]; omega), z0, by omega, ?_⟩
        exact fin _ H4 B4 k4 h4
      · refine ⟨_, rfl, _, rfl, nm, _, _, _, rfl, rfl, hnm, szl (by rw [List.length_map, hN.1]; omega), by omega, by omega, ?_⟩
        exact fin _ H3 B3 But.refl hnm
    · rintro σ H3 ⟨ns, y6, rfl, B3, hnm, hN, k3⟩
      refine ⟨Nat.zero_le _, fun tl ntl => ?_⟩
      have ntb : tl ≠ b := B3.ne ntl
      have ntL : tl ≠ L := B3.neL ntl
      have ntn : nm ≠ tl := ne_of_none hnm ntl
      have hnm' : (upd H3 tl (.lst [])) nm = some (.lst (ns.map V.int)) := by
        rw [upd_ne ntn]
        exact hnm
      have nmy : (ns.length : Int) = 1 + x1 := by
        have := hN.1
        omega
      have pk : ∀ k : Int, 0 ≤ k → k < 1 + x1 → ∃ v : Int, atI (ns.map V.int) k = some (.int v) ∧ 0 ≤ v ∧ v < 1 + x1 := fun k k0 k1 => by
        obtain ⟨v, hv, hm⟩ := at_map (ns := ns) k0 (by omega)
        have := hN.2 v hm
        have := hN.1
        exact ⟨v, hv, by omega, by omega⟩
      refine ⟨_, rfl, b, L, rfl, B3.new ntl, fun x4 H4 hx4 B4 k4 => ⟨_, _, rfl, rfl, (by show (0 : Int) < 3; decide), ?_⟩⟩
      have htl4 : H4 tl = some (.lst []) := k4 _ _ upd_same ntb
      have hnm4 : H4 nm = some (.lst (ns.map V.int)) := k4 _ _ hnm' nnb
      refine ⟨_, rfl, _, _, rfl, ⟨by decide, by decide, by omega, by omega⟩, for_range (lo := 1) (n := _) (fun i σ H5 => ∃ (xs : List V) (ts : List (Int × Int)) (y6 y9 : Option V), σ = [some (.ref b), some (.int f), some (.int m), some (.int (1 + x1)), some (.int (x2 % 5)), some (.ref nm), y6, some (.ref tl), some (.int (x4 % 3)), y9] ∧ BoxAt H5 b L ∧ H5 nm = some (.lst (ns.map V.int)) ∧ H5 tl = some (.lst xs) ∧ PAll H5 xs ts ∧ ts.length ≤ i ∧ (∀ t ∈ ts, 0 ≤ t.1 ∧ 0 ≤ t.2 ∧ t.1 < 1 + x1 ∧ t.2 < 1 + x1) ∧ But b H3 H5)
        ⟨[], [], _, none, rfl, B4, hnm4, htl4, .nil, Nat.zero_le _, (fun t z => nomatch z), (But.refl.new ntl).trans k4⟩ ?_ ?_⟩
      · rintro i σ H5 hi ⟨xs, ts, y6, y9, rfl, B5, hnm5, htl5, pa5, hl5, ht5, k5⟩
        have hk0 : (1 : Int) ≤ 1 + (i : Int) := by omega
        have hk1 : (1 : Int) + (i : Int) < 1 + x1 := by omega
        generalize hk : (1 : Int) + (i : Int) = k at hk0 hk1
        refine ⟨_, rfl, _, _, rfl, rfl, _, rfl, _, _, rfl, rfl, _, _, rfl, rfl, wide_ok (by decide) (by decide), _, rfl, b, L, rfl, B5, fun x5 H6 hx5 B6 k6 => ⟨_, rfl, _, _, rfl, rfl, (by show (0 : Int) < k; omega), _, rfl, _, _, rfl, rfl, _, rfl, _, _, rfl, rfl, (by show (0 : Int) < 2; decide), _, rfl, _, _, rfl, rfl, .inr ⟨_, rfl, _, _, rfl, rfl, .inr ⟨?_, ?_⟩, _, _, rfl, rfl, (by show 5 ≤ sizeLine; decide), fun p np => ?_⟩⟩⟩
        · split <;> decide
        · split <;> decide
        · have z0 := Int.emod_nonneg x5 (show k ≠ 0 by omega)
          have z1 := Int.emod_lt_of_pos x5 (show (0 : Int) < k by omega)
          have pick : ∃ v : Int, atI [V.int (k - 1), V.int 0, V.int ((k - 1) / 2), V.int (x5 % k), V.int (k - 1 - k % 2 * (if decide (1 < k) = true then 1 else 0))] (x2 % 5) = some (.int v) ∧ 0 ≤ v ∧ v < k := by
            rw [hs]
            have hc : sh = 0 ∨ sh = 1 ∨ sh = 2 ∨ sh = 3 ∨ sh = 4 := by omega
            rcases hc with h | h | h | h | h
            all_goals rw [h]
            · exact ⟨_, rfl, by omega, by omega⟩
            · exact ⟨_, rfl, by omega, by omega⟩
            · exact ⟨_, rfl, by omega, by omega⟩
            · exact ⟨_, rfl, by omega, by omega⟩
            · refine ⟨_, rfl, ?_, ?_⟩
              · by_cases e : 1 < k
                · rw [decide_eq_true e]
                  simp
                  omega
                · rw [decide_eq_false e]
                  simp
                  omega
              · by_cases e : 1 < k
                · rw [decide_eq_true e]
                  simp
                  omega
                · rw [decide_eq_false e]
                  simp
                  omega
          obtain ⟨u, hu, u0, u1⟩ := pick
          refine ⟨_, rfl, p, _, _, _, rfl, rfl, SqL.of upd_same, hu, ?_⟩
          have B7 : BoxAt (upd H6 p (.lst [V.int (k - 1), V.int 0, V.int ((k - 1) / 2), V.int (x5 % k), V.int (k - 1 - k % 2 * (if decide (1 < k) = true then 1 else 0))])) b L := B6.new np
          have k7 : But b H5 (upd H6 p (.lst [V.int (k - 1), V.int 0, V.int ((k - 1) / 2), V.int (x5 % k), V.int (k - 1 - k % 2 * (if decide (1 < k) = true then 1 else 0))])) := k6.new np
          generalize (upd H6 p (.lst [V.int (k - 1), V.int 0, V.int ((k - 1) / 2), V.int (x5 % k), V.int (k - 1 - k % 2 * (if decide (1 < k) = true then 1 else 0))])) = H7 at B7 k7
          have hnm7 := k7 _ _ hnm5 nnb
          have htl7 := k7 _ _ htl5 ntb
          have pa7 := pa5.but B5 k7
          refine ⟨fun _ H8 => BoxAt H8 b L ∧ But b H7 H8, ?_, ?_⟩
          · refine ⟨_, rfl, _, _, rfl, rfl, _, rfl, ite2 (fun _ => ⟨B7, But.refl⟩) (fun _ => ?_)⟩
            exact ⟨_, rfl, b, L, rfl, B7, fun x8 H8 hx8 B8 k8 => ⟨_, _, rfl, rfl, (by show (0 : Int) < 5; decide), _, _, rfl, rfl, _, rfl, B8, k8⟩⟩
          · rintro bb H8 ⟨B8, k8⟩
            have hnm8 := k8 _ _ hnm7 nnb
            have htl8 := k8 _ _ htl7 ntb
            have pa8 := pa7.but B7 k8
            have k58 := (k5.trans k7).trans k8
            refine ite2 (fun _ => ?_) (fun _ => ?_)
            · obtain ⟨v1, hv1, a1, b1⟩ := pk k (by omega) hk1
              obtain ⟨v2, hv2, a2, b2⟩ := pk u u0 (by omega)
              refine ⟨_, rfl, .inl ⟨rfl, _, SqL.of htl8⟩, _, rfl, _, rfl, nm, _, _, _, rfl, rfl, SqL.of hnm8, hv1, _, rfl, _, rfl, nm, _, _, _, rfl, rfl, SqL.of hnm8, hv2, _, _, rfl, _, rfl, _, rfl, nm, _, _, _, rfl, rfl, SqL.of hnm8, hv1, _, rfl, _, rfl, nm, _, _, _, rfl, rfl, SqL.of hnm8, hv2, _, _, rfl, (by show 2 ≤ sizeLine; decide), fun t nt => ?_⟩
              have nt1 : tl ≠ t := ne_of_none htl8 nt
              have nt2 : nm ≠ t := ne_of_none hnm8 nt
              have htl9 : (upd H8 t (.tup [.int (if v2 < v1 then v2 else v1), .int (if v2 > v1 then v2 else v1)])) tl = some (.lst xs) := by
                rw [upd_ne nt1]
                exact htl8
              refine ⟨tl, _, _, rfl, rfl, htl9, szl ?_, ?_⟩
              · have := pa8.length
                omega
              · refine ⟨xs ++ [.ref t], ts ++ [((if v2 < v1 then v2 else v1), (if v2 > v1 then v2 else v1))], _, _, rfl, (B8.new nt).put ntb ntL, ?_, upd_same, ?_, ?_, ?_, ?_⟩
                · rw [upd_ne ntn, upd_ne nt2]
                  exact hnm8
                · exact (PAll.snoc upd_same (pa8.same (same_new nt))).put htl9
                · rw [List.length_append]
                  show ts.length + 1 ≤ i + 1
                  omega
                · intro t' m'
                  rcases List.mem_append.mp m' with m' | m'
                  · exact ht5 t' m'
                  · rcases List.mem_cons.mp m' with e | m'
                    · subst e
                      dsimp only
                      refine ⟨?_, ?_, ?_, ?_⟩ <;> split <;> omega
                    · cases m'
                · intro a o e ne
                  have z := k58 _ _ e ne
                  rw [upd_ne (ne_of_none e ntl), upd_ne (ne_of_none z nt)]
                  exact z
            · exact ⟨xs, ts, _, _, rfl, B8, hnm8, htl8, pa8, by omega, ht5, k58⟩
      · rintro σ H5 ⟨xs, ts, y6, y9, rfl, B5, hnm5, htl5, pa5, hl5, ht5, k5⟩
        refine ⟨_, rfl, _, rfl, by omega, by omega, fun D nD => ?_⟩
        have nDb : D ≠ b := B5.ne nD
        have nDL : D ≠ L := B5.neL nD
        refine lc_range (lo := 0) (n := (1 + x1).toNat) (fun i H6 => BoxAt H6 b L ∧ ∃ (pts : List (Int × Str)) (ys : List V), H6 D = some (.lst ys) ∧ TdAll K H6 ys (pts.map pdata) ∧ pts.length = i ∧ (∀ p ∈ pts, PtOk p) ∧ But b H5 H6) ⟨B5.new nD, [], [], upd_same, .nil, rfl, (fun p z => nomatch z), But.refl.new nD⟩ ?_ ?_
        · rintro i H6 hi ⟨B6, pts, ys, hD6, hp6, hl6, ho6, k6⟩
          refine ⟨rfl, yes_ite ?_⟩
          refine ⟨_, rfl, b, L, rfl, B6, fun p x c H7 hpo B7 k7 np hp7 => ?_⟩
          have hD7 := k7 _ _ hD6 nDb
          have hl7 := hp6.length
          rw [List.length_map] at hl7
          refine ⟨ys, hD7, szl (by omega), B7.put nDb nDL, pts ++ [(x, c)], ys ++ [.ref p], upd_same, ?_, ?_, ?_, ?_⟩
          · have t7 : Tups K H7 (upd H7 D (.lst (ys ++ [V.ref p]))) := Tups.of_but (But.refl.put) hD7
            rw [List.map_append]
            exact TdAll.mono t7 ((hp6.mono (B6.tups k7)).append (.cons (Td.pt hp7) .nil))
          · rw [List.length_append, hl6]
            rfl
          · intro p' m'
            rcases List.mem_append.mp m' with m' | m'
            · exact ho6 p' m'
            · rcases List.mem_cons.mp m' with e | m'
              · subst e
                exact hpo
              · cases m'
          · intro a o e ne
            rw [upd_ne (ne_of_none e nD)]
            exact k7 _ _ (k6 _ _ e ne) ne
        · rintro H6 ⟨B6, pts, ys, hD6, hp6, hl6, ho6, k6⟩
          refine ⟨D, ys, rfl, .inl ⟨SqL.of hD6, fun a1 n1 => ?_⟩⟩
          have s7 := same_new (o := .tup ys) n1
          have htl7 := s7 _ _ (k6 _ _ htl5 ntb)
          have pa7 := (pa5.but B5 k6).same s7
          refine ⟨_, rfl, tl, xs, rfl, SqL.of htl7, pa7.pairs, fun zs p8 pm n8 => ?_⟩
          have s8 := same_new (o := .lst zs) n8
          refine ⟨p8, zs, rfl, .inl ⟨SqL.of upd_same, fun a2 n2 => ?_⟩⟩
          have s9 := same_new (o := .tup zs) n2
          refine ⟨(by show 2 ≤ sizeLine; decide), fun r nr => ?_⟩
          have s10 := same_new (o := .tup [.ref a1, .ref a2]) nr
          obtain ⟨us, pu, pau⟩ := pa7.perm pm
          have tail : Same H6 _ := (((s7.trans s8).trans s9).trans s10)
          have hd1 := s10 _ _ (s9 _ _ (s8 _ _ (upd_same (H := H6) (a := a1) (o := .tup ys))))
          have hd2 := s10 _ _ (upd_same (H := upd (upd H6 a1 (.tup ys)) p8 (.lst zs)) (a := a2) (o := .tup zs))
          refine q r pts us _ ⟨by omega, by omega, ho6, fun t m' => ?_, ?_⟩ ?_ ((B6.same tail)) ((((k1.trans k2).trans k3).trans k5).trans k6 |>.same tail) ?_
          · have := ht5 t (pu.mem_iff.mp m')
            omega
          · have := pu.length_eq
            omega
          · omega
          · refine .tup (SqT.of upd_same) (.cons (.tup (SqT.of hd1) (hp6.mono (Tups.of_same tail))) (.cons (.tup (SqT.of hd2) ?_) .nil))
            exact (pau.same ((s8.trans s9).trans s10)).td
end

/-! ### rows drawn from the box -/
inductive Sl | pt | oth | num | plc | knd
  deriving DecidableEq
def fit : Sl → V → Prop
  | .pt, v => ∃ i, v = .int i
  | .oth, v => v = .non ∨ ∃ i, v = .int i
  | .num, v => ∃ i, v = .int i
  | .plc, v => ∃ i : Int, v = .int i ∧ 0 ≤ i
  | .knd, v => ∃ k, v = .str k ∧ k ∈ kinds
inductive FitAll : List Sl → List V → Prop
  | nil : FitAll [] []
  | cons {s : Sl} {v : V} {ss : List Sl} {vs : List V} : fit s v → FitAll ss vs → FitAll (s :: ss) (v :: vs)
def forms : List (Str × List Sl) := [("new", [.num, .knd]), ("put", [.pt, .num]), ("paint", [.pt, .knd]), ("tie", [.pt, .pt]), ("cut", [.pt, .pt]), ("add", [.pt, .pt, .num]), ("spread", [.pt, .oth, .num]),
  ("joined", [.pt, .pt]), ("way", [.pt, .pt]), ("total", [.pt, .pt]), ("many", [.pt, .pt]), ("most", [.pt, .pt]), ("first", [.pt, .pt, .knd]), ("reach", [.pt, .pt, .num]), ("kth", [.pt, .pt, .plc]), ("meet", [.pt, .pt, .pt]), ("sum", [.pt, .oth]), ("size", [.pt, .oth]), ("top", [.pt, .oth]), ("least", [.pt, .oth, .knd])]
def evs : List Str := ["new", "put", "paint", "tie", "cut", "add", "spread", "joined", "way", "total", "many", "most", "first", "reach", "kth", "meet", "sum", "size", "top", "least"]
def RowV (w : Str) (vs : List V) : Prop := ∃ (sl : List Sl) (ps : List V), vs = .str w :: ps ∧ (w, sl) ∈ forms ∧ FitAll sl ps
theorem RowV.mk {w : Str} {ps : List V} (sl : List Sl) (h : (w, sl) ∈ forms) (f : FitAll sl ps) : RowV w (.str w :: ps) := ⟨sl, ps, rfl, h, f⟩
theorem fi (i : Int) : fit .pt (.int i) := ⟨i, rfl⟩
theorem fn (i : Int) : fit .num (.int i) := ⟨i, rfl⟩
theorem fo (i : Int) : fit .oth (.int i) := .inr ⟨i, rfl⟩
theorem inV_str (w : Str) : ∀ ws : List Str, inV (.str w) (ws.map V.str) = decide (w ∈ ws)
  | [] => rfl
  | x :: r => by
    have ih := inV_str w r
    unfold inV at ih ⊢
    rw [List.map_cons, List.any_cons, ih]
    by_cases e : x = w
    · subst e
      simp [eqV]
    · have e2 : ¬ w = x := fun z => e z.symm
      simp [eqV, e, e2]
theorem flat_strs : ∀ ws : List Str, (ws.map V.str).all flatV = true
  | [] => rfl
  | _ :: r => by
    rw [List.map_cons, List.all_cons, flat_strs r]
    rfl
def sides : List Str := ["spread", "sum", "size", "top", "least"]
/-- the second of a pair -/
def Oth (wh : Prop) (y : V) : Prop := (∃ j, y = .int j) ∨ (y = .non ∧ wh)
theorem Oth.toOth {wh : Prop} {y : V} (h : Oth wh y) : fit .oth y := by
  rcases h with h | h
  · exact .inr h
  · exact .inl h.1
theorem Oth.toPt {wh : Prop} {y : V} (h : Oth wh y) (n : ¬ wh) : fit .pt y := by
  rcases h with h | h
  · exact h
  · exact absurd h.2 n
theorem mem_add {w : Str} {i x : Int} {y : V} (h : w ∈ (["add", "spread", "reach"] : List Str)) (hy : Oth (w ∈ sides) y) : RowV w (.str w :: [.int i, y, .int x]) := by
  simp only [List.mem_cons, List.not_mem_nil, or_false] at h
  rcases h with rfl | rfl | rfl
  · exact .mk [.pt, .pt, .num] (by decide +kernel) (.cons (fi i) (.cons (hy.toPt (by decide +kernel)) (.cons (fn x) .nil)))
  · exact .mk [.pt, .oth, .num] (by decide +kernel) (.cons (fi i) (.cons hy.toOth (.cons (fn x) .nil)))
  · exact .mk [.pt, .pt, .num] (by decide +kernel) (.cons (fi i) (.cons (hy.toPt (by decide +kernel)) (.cons (fn x) .nil)))
theorem mem_first {w k : Str} {i : Int} {y : V} (hk : k ∈ kinds) (h : w ∈ (["first", "least"] : List Str)) (hy : Oth (w ∈ sides) y) : RowV w (.str w :: [.int i, y, .str k]) := by
  simp only [List.mem_cons, List.not_mem_nil, or_false] at h
  rcases h with rfl | rfl
  · exact .mk [.pt, .pt, .knd] (by decide +kernel) (.cons (fi i) (.cons (hy.toPt (by decide +kernel)) (.cons ⟨k, rfl, hk⟩ .nil)))
  · exact .mk [.pt, .oth, .knd] (by decide +kernel) (.cons (fi i) (.cons hy.toOth (.cons ⟨k, rfl, hk⟩ .nil)))
theorem mem_rest {w : Str} {i : Int} {y : V} (h : w ∈ evs) (n1 : ¬ w = "new") (n2 : ¬ w = "put") (n3 : ¬ w = "paint") (n4 : ¬ w ∈ (["add", "spread", "reach"] : List Str)) (n5 : ¬ w ∈ (["first", "least"] : List Str)) (n6 : ¬ w = "kth") (n7 : ¬ w = "meet") (hy : Oth (w ∈ sides) y) : RowV w (.str w :: [.int i, y]) := by
  unfold evs at h
  simp only [List.mem_cons, List.not_mem_nil, or_false] at h n4 n5
  rcases h with h | h | h | h | h | h | h | h | h | h | h | h | h | h | h | h | h | h | h | h
  · exact absurd h n1
  · exact absurd h n2
  · exact absurd h n3
  · subst h
    exact .mk [.pt, .pt] (by decide +kernel) (.cons (fi i) (.cons (hy.toPt (by decide +kernel)) .nil))
  · subst h
    exact .mk [.pt, .pt] (by decide +kernel) (.cons (fi i) (.cons (hy.toPt (by decide +kernel)) .nil))
  · exact absurd (.inl h) n4
  · exact absurd (.inr (.inl h)) n4
  · subst h
    exact .mk [.pt, .pt] (by decide +kernel) (.cons (fi i) (.cons (hy.toPt (by decide +kernel)) .nil))
  · subst h
    exact .mk [.pt, .pt] (by decide +kernel) (.cons (fi i) (.cons (hy.toPt (by decide +kernel)) .nil))
  · subst h
    exact .mk [.pt, .pt] (by decide +kernel) (.cons (fi i) (.cons (hy.toPt (by decide +kernel)) .nil))
  · subst h
    exact .mk [.pt, .pt] (by decide +kernel) (.cons (fi i) (.cons (hy.toPt (by decide +kernel)) .nil))
  · subst h
    exact .mk [.pt, .pt] (by decide +kernel) (.cons (fi i) (.cons (hy.toPt (by decide +kernel)) .nil))
  · exact absurd (.inl h) n5
  · exact absurd (.inr (.inr h)) n4
  · exact absurd h n6
  · exact absurd h n7
  · subst h
    exact .mk [.pt, .oth] (by decide +kernel) (.cons (fi i) (.cons hy.toOth .nil))
  · subst h
    exact .mk [.pt, .oth] (by decide +kernel) (.cons (fi i) (.cons hy.toOth .nil))
  · subst h
    exact .mk [.pt, .oth] (by decide +kernel) (.cons (fi i) (.cons hy.toOth .nil))
  · exact absurd (.inr h) n5
/-- a forest's parts -/
theorem Td.parts {K : PySem.W.Frag} {H : Hp} {f : V} {pts : List (Int × Str)} {ts : List (Int × Int)} (h : Td K H f (fdata pts ts)) : ∃ (a pa ta : Addr) (xs ys : List V), f = .ref a ∧ SqT K H a [.ref pa, .ref ta] ∧ SqT K H pa xs ∧ TdAll K H xs (pts.map pdata) ∧ SqT K H ta ys ∧ TdAll K H ys (ts.map tdata) := by
  unfold fdata at h
  cases h with
  | tup h k =>
    cases k with
    | cons k1 k2 =>
      cases k2 with
      | cons k2 k3 =>
        cases k3
        cases k1 with
        | tup h1 l1 =>
          cases k2 with
          | tup h2 l2 => exact ⟨_, _, _, _, _, rfl, h, h1, l1, h2, l2⟩
theorem tdata_inv {K : PySem.W.Frag} {H : Hp} {v : V} {t : Int × Int} (h : Td K H v (tdata t)) : ∃ a, v = .ref a ∧ SqT K H a [.int t.1, .int t.2] := by
  unfold tdata at h
  cases h with
  | tup h k =>
    cases k with
    | cons k1 k2 =>
      cases k2 with
      | cons k2 k3 =>
        cases k3
        cases k1
        cases k2
        exact ⟨_, rfl, h⟩
theorem lay_ties : ∀ ts : List (Int × Int), PyData.canLayAll0 (ts.map tdata) = true ∧ PyData.depthAll (ts.map tdata) ≤ 1
  | [] => ⟨rfl, by decide⟩
  | t :: r => by
    obtain ⟨h1, h2⟩ := lay_ties r
    rw [List.map_cons]
    unfold PyData.canLayAll0 PyData.depthAll
    rw [h1]
    refine ⟨rfl, ?_⟩
    have e : (tdata t).depth = 1 := rfl
    omega
theorem shaped_ties (ts : List (Int × Int)) : SeqAt.shaped (.tuple (ts.map tdata)) = true := by
  obtain ⟨h1, h2⟩ := lay_ties ts
  unfold SeqAt.shaped PyData.canLay0 PyData.depth
  rw [h1, decide_eq_true (by omega)]
  rfl
def spPair (K : PySem.W.Frag) : Sp := fun vs H Q _ => ∃ (b L : Addr) (f : V) (wh : Bool) (pts : List (Int × Str)) (ts : List (Int × Int)), vs = [.ref b, f, .bl wh] ∧ BoxAt H b L ∧ Td K H f (fdata pts ts) ∧ FrOk pts ts ∧
  ∀ (p : Addr) (i : Int) (y : V) (H' : Hp), Oth (wh = true) y → BoxAt H' b L → But b H H' → H p = none → H' p = some (.tup [.int i, y]) → Q (.ref p) H'
def spRow (K : PySem.W.Frag) : Sp := fun vs H Q _ => ∃ (b L wl : Addr) (f : V) (ws : List Str) (pts : List (Int × Str)) (ts : List (Int × Int)), vs = [.ref b, f, .ref wl] ∧ BoxAt H b L ∧ Td K H f (fdata pts ts) ∧ FrOk pts ts ∧ H wl = some (.lst (ws.map V.str)) ∧ wl ≠ b ∧ ws ≠ [] ∧ ws.length ≤ 100 ∧ (∀ w ∈ ws, w ∈ evs) ∧
  ∀ (r : Addr) (w : Str) (us : List V) (H' : Hp), w ∈ ws → RowV w us → BoxAt H' b L → But b H H' → H r = none → H' r = some (.tup us) → Q (.ref r) H'
def spEvery : Sp := fun vs H Q _ => vs = [] ∧ ∀ (p : Addr) (H' : Hp), Same H H' → H p = none → H' p = some (.lst (evs.map V.str)) → Q (.ref p) H'
section
variable {P : Program} {w : World} {K : PySem.W.Frag} {mg : Str → Option Value} {base : Heap}
theorem ok_every (T : Top K mg) : FnOk P w K mg base CX0 1 T.a_Levery T.d_Levery [] spEvery := by
  refine T.F_Levery.ok sc_Levery (fun vs H Q E h => ?_) (fun cdv A outer s H vs Q E hr h => ?_)
  · obtain ⟨rfl, _⟩ := h
    rfl
  · obtain ⟨rfl, q⟩ := h
    refine ⟨_, (pss_cons (ps_set (i := 0) sc_Levery.nd rfl (.inl rfl) (pe_lst (pa_cons pe_str (pa_cons pe_str (pa_cons pe_str (pa_cons pe_str (pa_cons pe_str (pa_cons pe_str (pa_cons pe_str pa_nil)))))))))
      (pss_cons (ps_set (i := 1) sc_Levery.nd rfl (.inl rfl) (pe_lst (pa_cons pe_str (pa_cons pe_str (pa_cons pe_str (pa_cons pe_str (pa_cons pe_str (pa_cons pe_str (pa_cons pe_str (pa_cons pe_str (pa_cons pe_str (pa_cons pe_str (pa_cons pe_str (pa_cons pe_str pa_nil))))))))))))))
      (pss_one (ps_ret (pe_op op_cat (pe_op op_cat (pv 0) (pv 1)) (pe_lst (pa_cons pe_str pa_nil))))))), ?_⟩
    refine ⟨(by show 7 ≤ sizeLine; decide), fun p1 n1 => ⟨(by show 12 ≤ sizeLine; decide), fun p2 n2 => ?_⟩⟩
    have n12 : p1 ≠ p2 := ne_of_none upd_same n2
    refine ⟨_, rfl, _, rfl, p1, p2, _, _, rfl, rfl, (by rw [upd_ne n12]; exact upd_same), upd_same, (by show 19 ≤ sizeLine; decide), fun p3 n3 => ⟨(by show 1 ≤ sizeLine; decide), fun p4 n4 => ?_⟩⟩
    have n34 : p3 ≠ p4 := ne_of_none upd_same n4
    refine ⟨p3, p4, _, _, rfl, rfl, (by rw [upd_ne n34]; exact upd_same), upd_same, (by show 20 ≤ sizeLine; decide), fun p5 n5 => ?_⟩
    refine q p5 _ (((((same_new n1).trans (same_new n2)).trans (same_new n3)).trans (same_new n4)).trans (same_new n5)) (Same.free ?_ n5) upd_same
    exact (((same_new n1).trans (same_new n2)).trans (same_new n3)).trans (same_new n4)
theorem ok_pair (T : Top K mg) : FnOk P w K mg base CX0 3 T.a_Lpair T.d_Lpair ["_law_box_here", "_law_forest_here", "_law_whole"] (spPair K) := by
  have G_Lnext : FnOk P w K mg base CX0 1 _ _ _ _ := ok_next T
  have G_Lspot : FnOk P w K mg base CX0 2 _ _ _ _ := ok_spot T
  refine T.F_Lpair.ok sc_Lpair (fun vs H Q E h => ?_) (fun cdv A outer s H vs Q E hr h => ?_)
  · obtain ⟨b, L, f, wh, pts, ts, rfl, _⟩ := h
    rfl
  · obtain ⟨b, L, f, wh, pts, ts, rfl, B, F, fo, q⟩ := h
    refine ⟨_, (pss_cons (ps_set (i := 3) sc_Lpair.nd rfl (.inl rfl) (pe_call G_Lnext (hr.mono (by decide)) (by rfl) T.g_Lnext T.F_Lnext.kp T.b_Lnext .nil pass0 (pa_cons (pv 0) pa_nil)))
      (pss_cons (ps_mid (ps_if (pt_mid (PW.pt (pw_and (pt_cmpR (op_neD hr.units) (pe_ix ix_tup (pv 1) pe_int (fun _ _ => rfl)) (pe_tup pa_nil) (nomark _)) (pw_and1 (pt_cmpR op_eq (pe_op op_mod (pv 3) pe_int) pe_int (nomark _)))))) (pss_cons (ps_asg (pe_ix ix_tup (pe_ix ix_tup (pv 1) pe_int (fun _ _ => rfl)) (pe_op op_mod (pe_op op_fdivW (pv 3) pe_int) (pe_callB call_len_seq (by rfl) T.m_len PySem.boot_len (pa_cons (pe_ix ix_tup (pv 1) pe_int (fun _ _ => rfl)) pa_nil))) (fun _ _ => rfl)) (pg_tup rfl (pgs_cons (pg_name (i := 4) sc_Lpair.nd rfl (.inl rfl)) (pgs_cons (pg_name (i := 5) sc_Lpair.nd rfl (.inl rfl)) pgs_nil))))
      (pss_one (ps_set (i := 6) sc_Lpair.nd rfl (.inl rfl) (pe_ix ix_list (pe_lst (pa_cons (pe_lst (pa_cons (pv 4) (pa_cons (pv 5) pa_nil))) (pa_cons (pe_lst (pa_cons (pv 5) (pa_cons (pv 4) pa_nil))) pa_nil))) (pe_op op_mod (pe_call G_Lnext (hr.mono (by decide)) (by rfl) T.g_Lnext T.F_Lnext.kp T.b_Lnext .nil pass0 (pa_cons (pv 0) pa_nil)) pe_int) (fun _ _ => rfl))))) (pss_one (ps_set (i := 6) sc_Lpair.nd rfl (.inl rfl) (pe_lst (pa_cons (pe_call G_Lspot hr (by rfl) T.g_Lspot T.F_Lspot.kp T.b_Lspot .nil pass0 (pa_cons (pv 0) (pa_cons (pe_callB call_len_seq (by rfl) T.m_len PySem.boot_len (pa_cons (pe_ix ix_tup (pv 1) pe_int (fun _ _ => rfl)) pa_nil)) pa_nil))) (pa_cons (pe_call G_Lspot hr (by rfl) T.g_Lspot T.F_Lspot.kp T.b_Lspot .nil pass0 (pa_cons (pv 0) (pa_cons (pe_callB call_len_seq (by rfl) T.m_len PySem.boot_len (pa_cons (pe_ix ix_tup (pv 1) pe_int (fun _ _ => rfl)) pa_nil)) pa_nil))) pa_nil)))))))
      (pss_one (ps_ret (pe_tup (pa_cons (pe_ix ix_list (pv 6) pe_int (fun _ _ => rfl)) (pa_cons (pe_ifExp (PW.pt (pw_and (pt_val (pv 2)) (pw_and1 (pt_cmpR op_eq (pe_op op_mod (pv 3) pe_int) pe_int (nomark _))))) pe_non (pe_ix ix_list (pv 6) pe_int (fun _ _ => rfl))) pa_nil))))))), ?_⟩
    refine ⟨_, rfl, b, L, rfl, B, fun x H1 hx B1 k1 => ?_⟩
    have F1 := F.mono (B.tups k1)
    obtain ⟨fa, pa, ta, xs, ys, rfl, f1, f2, f3, f4, f5⟩ := F1.parts
    have lp : xs.length = pts.length := by
      have z := f3.length
      rw [List.length_map] at z
      exact z
    have lt : ys.length = ts.length := by
      have z := f5.length
      rw [List.length_map] at z
      exact z
    have fpos := fo.pos
    have ffew := fo.few
    have ftl := fo.tl
    refine ⟨fun σ2 H2 => ∃ (y4 y5 : Option V) (l2 : Addr) (i j : Int), σ2 = [some (.ref b), some (.ref fa), some (.bl wh), some (.int x), y4, y5, some (.ref l2)] ∧ H2 l2 = some (.lst [.int i, .int j]) ∧ BoxAt H2 b L ∧ But b H1 H2, ?_, ?_⟩
    · refine ⟨fun bb H2 => Same H1 H2 ∧ (bb = true → ts ≠ []), ?_, ?_⟩
      · refine ⟨_, rfl, fa, _, _, _, rfl, rfl, f1, atI_nat (j := 1) rfl, Nat.zero_le _, fun e ne => ?_⟩
        have s2 := same_new (o := .tup []) ne
        refine ⟨.tuple (ts.map tdata), .tuple [], .tup (Tups.of_same s2 _ _ f4) (TdAll.mono (Tups.of_same s2) f5).dp, .tup (SqT.of upd_same) .nil, shaped_ties ts, by decide, _, rfl, ?_⟩
        cases ts with
        | nil =>
          refine ite2 (fun e => absurd e (by decide)) (fun _ => ?_)
          exact ⟨s2, fun z => by cases z⟩
        | cons t r =>
          refine ite2 (fun _ => ?_) (fun e => absurd rfl e)
          exact ⟨_, rfl, _, _, rfl, rfl, (by show (0 : Int) < 2; decide), rfl, _, rfl, s2, fun _ z => by cases z⟩
      · rintro bb H2 ⟨s2, hb⟩
        have F2 := F1.mono (Tups.of_same s2)
        have B2 := B1.same s2
        have k2 : But b H1 H2 := But.refl.same s2
        have g1 := Tups.of_same (K := K) s2 _ _ f1
        have g2 := Tups.of_same (K := K) s2 _ _ f2
        have g4 := Tups.of_same (K := K) s2 _ _ f4
        refine ite2 (fun e => ?_) (fun e => ?_)
        · have hne := hb e
          have tpos : 0 < ts.length := List.length_pos_iff.mpr hne
          have m0 : (0 : Int) < (ys.length : Int) := by omega
          have z0 := Int.emod_nonneg (x / 2) (show (ys.length : Int) ≠ 0 by omega)
          have z1 := Int.emod_lt_of_pos (x / 2) m0
          obtain ⟨v, hv, hm⟩ := at_any z0 z1
          obtain ⟨d, hd, td⟩ := f5.get hm
          obtain ⟨t, ht, rfl⟩ := List.mem_map.mp hd
          obtain ⟨va, rfl, hva⟩ := tdata_inv td
          have hva2 := Tups.of_same (K := K) s2 _ _ hva
          refine ⟨_, rfl, fa, _, _, _, rfl, rfl, g1, atI_nat (j := 1) rfl, _, rfl, _, _, rfl, rfl, wide_ok (by decide) (by decide), _, rfl, fa, _, _, _, rfl, rfl, g1, atI_nat (j := 1) rfl, ta, _, rfl, .inr g4, _, _, rfl, rfl, m0, ta, _, _, _, rfl, rfl, g4, hv, ?_⟩
          refine ⟨va, _, rfl, hva2, rfl, _, _, rfl, _, _, rfl, rfl, ?_⟩
          refine ⟨_, rfl, _, rfl, (by show 2 ≤ sizeLine; decide), fun q1 m1 => ⟨_, rfl, _, rfl, (by show 2 ≤ sizeLine; decide), fun q2 m2 => ⟨(by show 2 ≤ sizeLine; decide), fun q3 m3 => ?_⟩⟩⟩
          have n12 : q1 ≠ q2 := ne_of_none upd_same m2
          have n23 : q2 ≠ q3 := ne_of_none upd_same m3
          have n13 : q1 ≠ q3 := ne_of_none (by rw [upd_ne n12]; exact upd_same) m3
          refine ⟨_, rfl, b, L, rfl, ((B2.new m1).new m2).new m3, fun x3 H3 hx3 B3 k3 => ⟨_, _, rfl, rfl, (by show (0 : Int) < 2; decide), ?_⟩⟩
          have h1 := k3 q1 (.lst [.int t.1, .int t.2]) (by rw [upd_ne n13, upd_ne n12]; exact upd_same) (B2.ne m1)
          have h2 := k3 q2 (.lst [.int t.2, .int t.1]) (by rw [upd_ne n23]; exact upd_same) ((B2.new m1).ne m2)
          have h3 := k3 q3 (.lst [.ref q1, .ref q2]) upd_same (((B2.new m1).new m2).ne m3)
          have kk : But b H1 H3 := (((k2.new m1).new m2).new m3).trans k3
          have hc : x3 % 2 = 0 ∨ x3 % 2 = 1 := by omega
          rcases hc with hc | hc
          · exact ⟨q3, _, _, .ref q1, rfl, rfl, SqL.of h3, (by show atI _ (x3 % 2) = _; rw [hc]; exact atI_nat (j := 0) rfl), _, _, q1, _, _, rfl, h1, B3, kk⟩
          · exact ⟨q3, _, _, .ref q2, rfl, rfl, SqL.of h3, (by show atI _ (x3 % 2) = _; rw [hc]; exact atI_nat (j := 1) rfl), _, _, q2, _, _, rfl, h2, B3, kk⟩
        · refine ⟨_, rfl, _, rfl, fa, _, _, _, rfl, rfl, g1, atI_nat (j := 0) rfl, pa, _, rfl, .inr g2, b, L, _, rfl, B2, by omega, by omega, fun x3 H3 _ _ B3 k3 => ?_⟩
          have g1' := B2.tups (K := K) k3 _ _ g1
          have g2' := B2.tups (K := K) k3 _ _ g2
          refine ⟨_, rfl, _, rfl, fa, _, _, _, rfl, rfl, g1', atI_nat (j := 0) rfl, pa, _, rfl, .inr g2', b, L, _, rfl, B3, by omega, by omega, fun x4 H4 _ _ B4 k4 => ⟨(by show 2 ≤ sizeLine; decide), fun l2 m2 => ?_⟩⟩
          exact ⟨_, _, l2, _, _, rfl, upd_same, B4.new m2, ((k2.trans k3).trans k4).new m2⟩
    · rintro σ2 H2 ⟨y4, y5, l2, i, j, rfl, hl, B2, k2⟩
      refine ⟨_, rfl, l2, _, _, _, rfl, rfl, SqL.of hl, atI_nat (j := 0) rfl, ?_⟩
      have fin : ∀ y, Oth (wh = true) y → ∀ p, H2 p = none → Q (.ref p) (upd H2 p (.tup [.int i, y])) := fun y hy p np =>
        q p i y _ hy (B2.new np) ((k1.trans k2).new np) (B2.back (k1.trans k2) np) upd_same
      refine ⟨_, rfl, wh, rfl, ?_⟩
      cases wh with
      | true =>
        refine iteT ?_
        refine ⟨_, rfl, _, _, rfl, rfl, (by show (0 : Int) < 5; decide), rfl, _, rfl, ite2 (fun _ => ?_) (fun _ => ?_)⟩
        · exact ⟨(by show 2 ≤ sizeLine; decide), fin .non (.inr ⟨rfl, rfl⟩)⟩
        · exact ⟨_, rfl, l2, _, _, _, rfl, rfl, SqL.of hl, atI_nat (j := 1) rfl, (by show 2 ≤ sizeLine; decide), fin _ (.inl ⟨j, rfl⟩)⟩
      | false =>
        refine iteF ?_
        refine iteF ?_
        exact ⟨_, rfl, l2, _, _, _, rfl, rfl, SqL.of hl, atI_nat (j := 1) rfl, (by show 2 ≤ sizeLine; decide), fin _ (.inl ⟨j, rfl⟩)⟩
theorem ok_row (T : Top K mg) : FnOk P w K mg base CX0 4 T.a_Lrow T.d_Lrow ["_law_box_here", "_law_forest_here", "_law_words"] (spRow K) := by
  have G_Lnext : FnOk P w K mg base CX0 1 _ _ _ _ := ok_next T
  have G_Lspot : FnOk P w K mg base CX0 2 _ _ _ _ := ok_spot T
  have G_Lworth : FnOk P w K mg base CX0 2 _ _ _ _ := ok_worth T
  have G_Lpoint : FnOk P w K mg base CX0 3 _ _ _ _ := ok_point T
  have G_Lpair : FnOk P w K mg base CX0 3 _ _ _ _ := ok_pair T
  refine T.F_Lrow.ok sc_Lrow (fun vs H Q E h => ?_) (fun cdv A outer s H vs Q E hr h => ?_)
  · obtain ⟨b, L, wl, f, ws, pts, ts, rfl, _⟩ := h
    rfl
  · obtain ⟨b, L, wl, f, ws, pts, ts, rfl, B, F, fok, hwl, nwb, wne, wfew, wall, q⟩ := h
    refine ⟨_, (pss_cons (ps_set (i := 3) sc_Lrow.nd rfl (.inl rfl) (pe_ix ix_list (pv 2) (pe_op op_mod (pe_call G_Lnext (hr.mono (by decide)) (by rfl) T.g_Lnext T.F_Lnext.kp T.b_Lnext .nil pass0 (pa_cons (pv 0) pa_nil)) (pe_callB call_len_seq (by rfl) T.m_len PySem.boot_len (pa_cons (pv 2) pa_nil))) (fun _ _ => rfl)))
      (pss_cons (ps_set (i := 4) sc_Lrow.nd rfl (.inl rfl) (pe_callB call_len_seq (by rfl) T.m_len PySem.boot_len (pa_cons (pe_ix ix_tup (pv 1) pe_int (fun _ _ => rfl)) pa_nil)))
      (pss_cons (ps_if (pt_cmpR op_eq (pv 3) pe_str (nomark _)) (pss_one (ps_ret (pe_op op_catT (pe_tup (pa_cons (pv 3) pa_nil)) (pe_call G_Lpoint hr (by rfl) T.g_Lpoint T.F_Lpoint.kp T.b_Lpoint .nil pass0 (pa_cons (pv 0) pa_nil))))) pss_nil)
      (pss_cons (ps_if (pt_cmpR op_eq (pv 3) pe_str (nomark _)) (pss_one (ps_ret (pe_tup (pa_cons (pv 3) (pa_cons (pe_call G_Lspot (hr.mono (by decide)) (by rfl) T.g_Lspot T.F_Lspot.kp T.b_Lspot .nil pass0 (pa_cons (pv 0) (pa_cons (pv 4) pa_nil))) (pa_cons (pe_call G_Lworth (hr.mono (by decide)) (by rfl) T.g_Lworth T.F_Lworth.kp T.b_Lworth .nil pass0 (pa_cons (pv 0) pa_nil)) pa_nil)))))) pss_nil)
      (pss_cons (ps_if (pt_cmpR op_eq (pv 3) pe_str (nomark _)) (pss_one (ps_ret (pe_tup (pa_cons (pv 3) (pa_cons (pe_call G_Lspot (hr.mono (by decide)) (by rfl) T.g_Lspot T.F_Lspot.kp T.b_Lspot .nil pass0 (pa_cons (pv 0) (pa_cons (pv 4) pa_nil))) (pa_cons (pe_ix ix_tup (pe_call G_Lpoint hr (by rfl) T.g_Lpoint T.F_Lpoint.kp T.b_Lpoint .nil pass0 (pa_cons (pv 0) pa_nil)) pe_int (fun _ _ => rfl)) pa_nil)))))) pss_nil)
      (pss_cons (ps_mid (ps_if (pt_cmpR op_in_seq (pv 3) (pe_tup (pa_cons pe_str (pa_cons pe_str (pa_cons pe_str (pa_cons pe_str (pa_cons pe_str (pa_cons pe_str pa_nil))))))) (by rfl)) (pss_one (ps_set (i := 5) sc_Lrow.nd rfl (.inl rfl) (pe_call G_Lpair hr (by rfl) T.g_Lpair T.F_Lpair.kp T.b_Lpair .nil pass0 (pa_cons (pv 0) (pa_cons (pv 1) (pa_cons (pe_cmpR op_ne (pv 3) pe_str (nomark _)) pa_nil)))))) (pss_one (ps_set (i := 5) sc_Lrow.nd rfl (.inl rfl) (pe_tup (pa_cons (pe_call G_Lspot (hr.mono (by decide)) (by rfl) T.g_Lspot T.F_Lspot.kp T.b_Lspot .nil pass0 (pa_cons (pv 0) (pa_cons (pv 4) pa_nil))) (pa_cons (pe_call G_Lspot (hr.mono (by decide)) (by rfl) T.g_Lspot T.F_Lspot.kp T.b_Lspot .nil pass0 (pa_cons (pv 0) (pa_cons (pv 4) pa_nil))) pa_nil)))))))
      (pss_cons (ps_if (pt_cmpR op_in_seq (pv 3) (pe_tup (pa_cons pe_str (pa_cons pe_str (pa_cons pe_str pa_nil)))) (by rfl)) (pss_one (ps_ret (pe_op op_catT (pe_op op_catT (pe_tup (pa_cons (pv 3) pa_nil)) (pv 5)) (pe_tup (pa_cons (pe_call G_Lworth (hr.mono (by decide)) (by rfl) T.g_Lworth T.F_Lworth.kp T.b_Lworth .nil pass0 (pa_cons (pv 0) pa_nil)) pa_nil))))) pss_nil)
      (pss_cons (ps_if (pt_cmpR op_in_seq (pv 3) (pe_tup (pa_cons pe_str (pa_cons pe_str pa_nil))) (by rfl)) (pss_one (ps_ret (pe_op op_catT (pe_op op_catT (pe_tup (pa_cons (pv 3) pa_nil)) (pv 5)) (pe_tup (pa_cons (pe_ix ix_tup (pe_call G_Lpoint hr (by rfl) T.g_Lpoint T.F_Lpoint.kp T.b_Lpoint .nil pass0 (pa_cons (pv 0) pa_nil)) pe_int (fun _ _ => rfl)) pa_nil))))) pss_nil)
      (pss_cons (ps_if (pt_cmpR op_eq (pv 3) pe_str (nomark _)) (pss_one (ps_ret (pe_op op_catT (pe_op op_catT (pe_tup (pa_cons (pv 3) pa_nil)) (pv 5)) (pe_tup (pa_cons (pe_op op_mod (pe_call G_Lnext (hr.mono (by decide)) (by rfl) T.g_Lnext T.F_Lnext.kp T.b_Lnext .nil pass0 (pa_cons (pv 0) pa_nil)) (pe_op op_add (pv 4) pe_int)) pa_nil))))) pss_nil)
      (pss_one (ps_ret (pe_op op_catT (pe_op op_catT (pe_tup (pa_cons (pv 3) pa_nil)) (pv 5)) (pe_ifExp (pt_cmpR op_eq (pv 3) pe_str (nomark _)) (pe_tup (pa_cons (pe_call G_Lspot (hr.mono (by decide)) (by rfl) T.g_Lspot T.F_Lspot.kp T.b_Lspot .nil pass0 (pa_cons (pv 0) (pa_cons (pv 4) pa_nil))) pa_nil)) (pe_tup pa_nil)))))))))))))), ?_⟩
    refine ⟨_, rfl, _, rfl, b, L, rfl, B, fun x H1 hx B1 k1 => ?_⟩
    have hwl1 := k1 _ _ hwl nwb
    have wpos : 0 < ws.length := List.length_pos_iff.mpr wne
    have m0 : (0 : Int) < ((ws.map V.str).length : Int) := by
      rw [List.length_map]
      omega
    have z0 := Int.emod_nonneg x (show ((ws.map V.str).length : Int) ≠ 0 by omega)
    have z1 := Int.emod_lt_of_pos x m0
    obtain ⟨v, hv, hm⟩ := at_any z0 z1
    obtain ⟨wd, hwd, rfl⟩ := List.mem_map.mp hm
    have hev := wall wd hwd
    have F1 := F.mono (B.tups k1)
    obtain ⟨fa, pa, ta, xs, ys, rfl, f1, f2, f3, f4, f5⟩ := F1.parts
    have lp : xs.length = pts.length := by
      have z := f3.length
      rw [List.length_map] at z
      exact z
    have fpos := fok.pos
    have ffew := fok.few
    refine ⟨_, rfl, wl, _, rfl, .inl (SqL.of hwl1), _, _, rfl, rfl, m0, wl, _, _, _, rfl, rfl, SqL.of hwl1, hv, ?_⟩
    refine ⟨_, rfl, fa, _, _, _, rfl, rfl, f1, atI_nat (j := 0) rfl, pa, _, rfl, .inr f2, ?_⟩
    have fin : ∀ (us : List V) (H2 : Hp) (p : Addr), RowV wd us → BoxAt H2 b L → But b H1 H2 → H2 p = none → Q (.ref p) (upd H2 p (.tup us)) := fun us H2 p hu B2 k2 np =>
      q p wd us _ hwd hu (B2.new np) ((k1.trans k2).new np) (B2.back (k1.trans k2) np) upd_same
    -- new
    refine ⟨_, rfl, rfl, _, rfl, ite2 (fun e1 => ?_) (fun e1 => ?_)⟩
    · have e : wd = "new" := V.str.inj (of_decide_eq_true e1)
      refine ⟨_, rfl, (by show 1 ≤ sizeLine; decide), fun p1 m1 => ?_⟩
      refine ⟨_, rfl, b, L, rfl, B1.new m1, fun p2 i k H2 hpk B2 k2 m2 hp2 => ?_⟩
      have hp1 := k2 _ _ (upd_same (H := H1) (a := p1) (o := .tup [V.str wd])) (B1.ne m1)
      refine ⟨p1, p2, _, _, rfl, rfl, SqT.of hp1, SqT.of hp2, (fun z => nomatch z), (by show 3 ≤ sizeLine; decide), (fun z => nomatch z), fun _ p3 m3 => ?_⟩
      refine fin _ _ _ ?_ B2 ((But.refl.new m1).trans k2) m3
      rw [e]
      exact .mk [.num, .knd] (by decide +kernel) (.cons (fn i) (.cons ⟨k, rfl, hpk.2.2⟩ .nil))
    have n1 : ¬ wd = "new" := fun z => e1 (decide_eq_true (congrArg V.str z))
    -- put
    refine ⟨_, rfl, rfl, _, rfl, ite2 (fun e2 => ?_) (fun e2 => ?_)⟩
    · have e : wd = "put" := V.str.inj (of_decide_eq_true e2)
      refine ⟨_, rfl, _, rfl, _, rfl, b, L, _, rfl, B1, by omega, by omega, fun i H2 _ _ B2 k2 => ?_⟩
      refine ⟨_, rfl, b, L, rfl, B2, fun x3 H3 _ B3 k3 => ⟨(by show 3 ≤ sizeLine; decide), fun p m => ?_⟩⟩
      refine fin _ _ _ ?_ B3 (k2.trans k3) m
      rw [e]
      exact .mk [.pt, .num] (by decide +kernel) (.cons (fi i) (.cons (fn x3) .nil))
    have n2 : ¬ wd = "put" := fun z => e2 (decide_eq_true (congrArg V.str z))
    -- paint
    refine ⟨_, rfl, rfl, _, rfl, ite2 (fun e3 => ?_) (fun e3 => ?_)⟩
    · have e : wd = "paint" := V.str.inj (of_decide_eq_true e3)
      refine ⟨_, rfl, _, rfl, _, rfl, b, L, _, rfl, B1, by omega, by omega, fun i H2 _ _ B2 k2 => ?_⟩
      refine ⟨_, rfl, b, L, rfl, B2, fun p2 j k H3 hpk B3 k3 m2 hp2 => ⟨p2, _, _, _, rfl, rfl, SqT.of hp2, atI_nat (j := 1) rfl, (by show 3 ≤ sizeLine; decide), fun p m => ?_⟩⟩
      refine fin _ _ _ ?_ B3 (k2.trans k3) m
      rw [e]
      exact .mk [.pt, .knd] (by decide +kernel) (.cons (fi i) (.cons ⟨k, rfl, hpk.2.2⟩ .nil))
    have n3 : ¬ wd = "paint" := fun z => e3 (decide_eq_true (congrArg V.str z))
    -- the two points
    refine ⟨fun σ2 H2 => ∃ (p5 : Addr) (i : Int) (y : V), σ2 = [some (.ref b), some (.ref fa), some (.ref wl), some (.str wd), some (.int (xs.length : Int)), some (.ref p5)] ∧ H2 p5 = some (.tup [.int i, y]) ∧ Oth (wd ∈ sides) y ∧ BoxAt H2 b L ∧ But b H1 H2, ?_, ?_⟩
    · refine ⟨_, rfl, (by show 6 ≤ sizeLine; decide), fun p6 m6 => ⟨p6, _, rfl, .inr (SqT.of upd_same), rfl, flat_strs ["cut", "spread", "sum", "size", "top", "least"], _, rfl, ?_⟩⟩
      have eI : inV (.str wd) [V.str "cut", V.str "spread", V.str "sum", V.str "size", V.str "top", V.str "least"] = decide (wd ∈ (["cut", "spread", "sum", "size", "top", "least"] : List Str)) := inV_str wd ["cut", "spread", "sum", "size", "top", "least"]
      have F2 := F1.mono (Tups.of_same (same_new (o := .tup [V.str "cut", V.str "spread", V.str "sum", V.str "size", V.str "top", V.str "least"]) m6))
      refine ite2 (fun e4 => ?_) (fun e4 => ?_)
      · have hmem : wd ∈ (["cut", "spread", "sum", "size", "top", "least"] : List Str) := of_decide_eq_true (eI.symm.trans e4)
        refine ⟨_, rfl, _, rfl, _, rfl, rfl, b, L, _, _, pts, ts, rfl, B1.new m6, F2, fok, fun p i y H2 hy B2 k2 np hp => ?_⟩
        refine ⟨p, i, y, rfl, hp, ?_, B2, (But.refl.new m6).trans k2⟩
        rcases hy with hy | ⟨hy, hw⟩
        · exact .inl hy
        · refine .inr ⟨hy, ?_⟩
          have hn : ¬ wd = "cut" := fun z => by
            subst z
            exact absurd hw (by decide +kernel)
          simp only [List.mem_cons, List.not_mem_nil, or_false] at hmem
          unfold sides
          simp only [List.mem_cons, List.not_mem_nil, or_false]
          rcases hmem with z | z | z | z | z | z
          · exact absurd z hn
          · exact .inl z
          · exact .inr (.inl z)
          · exact .inr (.inr (.inl z))
          · exact .inr (.inr (.inr (.inl z)))
          · exact .inr (.inr (.inr (.inr z)))
      · refine ⟨_, rfl, _, rfl, b, L, _, rfl, B1.new m6, by omega, by omega, fun i H2 _ _ B2 k2 => ?_⟩
        refine ⟨_, rfl, _, rfl, b, L, _, rfl, B2, by omega, by omega, fun j H3 _ _ B3 k3 => ⟨(by show 2 ≤ sizeLine; decide), fun p m => ?_⟩⟩
        exact ⟨p, i, .int j, rfl, upd_same, .inl ⟨j, rfl⟩, B3.new m, (((But.refl.new m6).trans k2).trans k3).new m⟩
    · rintro σ2 H2 ⟨p5, i, y, rfl, hp5, hy, B2, k2⟩
      have p5b : p5 ≠ b := by
        obtain ⟨ns', n', g1, _⟩ := B2.ex
        exact ne_of hp5 g1 (by intro z; cases z)
      -- add, spread, reach
      refine ⟨_, rfl, (by show 3 ≤ sizeLine; decide), fun p6 m6 => ⟨p6, _, rfl, .inr (SqT.of upd_same), rfl, flat_strs ["add", "spread", "reach"], _, rfl, ?_⟩⟩
      have eI : inV (.str wd) [V.str "add", V.str "spread", V.str "reach"] = decide (wd ∈ (["add", "spread", "reach"] : List Str)) := inV_str wd ["add", "spread", "reach"]
      have s6 := same_new (H := H2) (o := .tup [V.str "add", V.str "spread", V.str "reach"]) m6
      have B6 := B2.same s6
      have k6 := k2.same s6
      have hp6 := s6 _ _ hp5
      refine ite2 (fun e4 => ?_) (fun e4 => ?_)
      · have hmem := of_decide_eq_true (eI.symm.trans e4)
        refine ⟨_, rfl, (by show 1 ≤ sizeLine; decide), fun p7 m7 => ⟨_, rfl, p7, p5, _, _, rfl, rfl, SqT.of upd_same, SqT.of (same_new m7 _ _ hp6), (fun z => nomatch z), (by show 3 ≤ sizeLine; decide), (fun z => nomatch z), fun _ p8 m8 => ?_⟩⟩
        refine ⟨_, rfl, b, L, rfl, (B6.new m7).new m8, fun x9 H9 _ B9 k9 => ⟨(by show 1 ≤ sizeLine; decide), fun p10 m10 => ?_⟩⟩
        have h8 := k9 _ _ (upd_same (H := upd (upd H2 p6 (.tup [V.str "add", V.str "spread", V.str "reach"])) p7 (.tup [V.str wd])) (a := p8) (o := .tup ([V.str wd] ++ [V.int i, y]))) ((B6.new m7).ne m8)
        refine ⟨p8, p10, _, _, rfl, rfl, SqT.of (same_new m10 _ _ h8), SqT.of upd_same, (fun z => nomatch z), (by show 4 ≤ sizeLine; decide), (fun z => nomatch z), fun _ p11 m11 => ?_⟩
        exact fin _ _ _ (mem_add hmem hy) (B9.new m10) ((((k6.new m7).new m8).trans k9).new m10) m11
      have n4 : ¬ wd ∈ (["add", "spread", "reach"] : List Str) := fun z => e4 (eI.trans (decide_eq_true z))
      -- first, least
      refine ⟨_, rfl, (by show 2 ≤ sizeLine; decide), fun p7 m7 => ⟨p7, _, rfl, .inr (SqT.of upd_same), rfl, flat_strs ["first", "least"], _, rfl, ?_⟩⟩
      have eJ : inV (.str wd) [V.str "first", V.str "least"] = decide (wd ∈ (["first", "least"] : List Str)) := inV_str wd ["first", "least"]
      have s7 := same_new (o := .tup [V.str "first", V.str "least"]) m7
      have B7 := B6.same s7
      have k7 := k6.same s7
      have hp7 := s7 _ _ hp6
      refine ite2 (fun e5 => ?_) (fun e5 => ?_)
      · have hmem := of_decide_eq_true (eJ.symm.trans e5)
        refine ⟨_, rfl, (by show 1 ≤ sizeLine; decide), fun p8 m8 => ⟨_, rfl, p8, p5, _, _, rfl, rfl, SqT.of upd_same, SqT.of (same_new m8 _ _ hp7), (fun z => nomatch z), (by show 3 ≤ sizeLine; decide), (fun z => nomatch z), fun _ p9 m9 => ?_⟩⟩
        refine ⟨_, rfl, b, L, rfl, (B7.new m8).new m9, fun pp j k H9 hpk B9 k9 mm hpp => ⟨pp, _, _, _, rfl, rfl, SqT.of hpp, atI_nat (j := 1) rfl, (by show 1 ≤ sizeLine; decide), fun p10 m10 => ?_⟩⟩
        have h9 := k9 p9 (.tup ([V.str wd] ++ [V.int i, y])) upd_same ((B7.new m8).ne m9)
        refine ⟨p9, p10, _, _, rfl, rfl, SqT.of (same_new m10 _ _ h9), SqT.of upd_same, (fun z => nomatch z), (by show 4 ≤ sizeLine; decide), (fun z => nomatch z), fun _ p11 m11 => ?_⟩
        exact fin _ _ _ (mem_first hpk.2.2 hmem hy) (B9.new m10) ((((k7.new m8).new m9).trans k9).new m10) m11
      have n5 : ¬ wd ∈ (["first", "least"] : List Str) := fun z => e5 (eJ.trans (decide_eq_true z))
      -- kth
      refine ⟨_, rfl, rfl, _, rfl, ite2 (fun e6 => ?_) (fun e6 => ?_)⟩
      · have e : wd = "kth" := V.str.inj (of_decide_eq_true e6)
        refine ⟨_, rfl, (by show 1 ≤ sizeLine; decide), fun p8 m8 => ⟨_, rfl, p8, p5, _, _, rfl, rfl, SqT.of upd_same, SqT.of (same_new m8 _ _ hp7), (fun z => nomatch z), (by show 3 ≤ sizeLine; decide), (fun z => nomatch z), fun _ p9 m9 => ?_⟩⟩
        refine ⟨_, rfl, b, L, rfl, (B7.new m8).new m9, fun x9 H9 _ B9 k9 => ⟨_, rfl, _, _, rfl, rfl, _, _, rfl, rfl, (by show (0 : Int) < (xs.length : Int) + 1; omega), (by show 1 ≤ sizeLine; decide), fun p10 m10 => ?_⟩⟩
        have h9 := k9 p9 (.tup ([V.str wd] ++ [V.int i, y])) upd_same ((B7.new m8).ne m9)
        refine ⟨p9, p10, _, _, rfl, rfl, SqT.of (same_new m10 _ _ h9), SqT.of upd_same, (fun z => nomatch z), (by show 4 ≤ sizeLine; decide), (fun z => nomatch z), fun _ p11 m11 => ?_⟩
        refine fin _ _ _ ?_ (B9.new m10) ((((k7.new m8).new m9).trans k9).new m10) m11
        rw [e]
        rw [e] at hy
        exact .mk [.pt, .pt, .plc] (by decide +kernel) (.cons (fi i) (.cons (hy.toPt (by decide +kernel)) (.cons ⟨_, rfl, Int.emod_nonneg _ (by omega)⟩ .nil)))
      have n6 : ¬ wd = "kth" := fun z => e6 (decide_eq_true (congrArg V.str z))
      -- the rest
      refine ⟨_, rfl, (by show 1 ≤ sizeLine; decide), fun p8 m8 => ⟨_, rfl, p8, p5, _, _, rfl, rfl, SqT.of upd_same, SqT.of (same_new m8 _ _ hp7), (fun z => nomatch z), (by show 3 ≤ sizeLine; decide), (fun z => nomatch z), fun _ p9 m9 => ?_⟩⟩
      refine ⟨_, rfl, rfl, _, rfl, ite2 (fun e7 => ?_) (fun e7 => ?_)⟩
      · have e : wd = "meet" := V.str.inj (of_decide_eq_true e7)
        refine ⟨_, rfl, _, rfl, b, L, _, rfl, (B7.new m8).new m9, by omega, by omega, fun x9 H9 _ _ B9 k9 => ⟨(by show 1 ≤ sizeLine; decide), fun p10 m10 => ?_⟩⟩
        have h9 := k9 p9 (.tup ([V.str wd] ++ [V.int i, y])) upd_same ((B7.new m8).ne m9)
        refine ⟨p9, p10, _, _, rfl, rfl, SqT.of (same_new m10 _ _ h9), SqT.of upd_same, (fun z => nomatch z), (by show 4 ≤ sizeLine; decide), (fun z => nomatch z), fun _ p11 m11 => ?_⟩
        refine fin _ _ _ ?_ (B9.new m10) ((((k7.new m8).new m9).trans k9).new m10) m11
        rw [e]
        rw [e] at hy
        exact .mk [.pt, .pt, .pt] (by decide +kernel) (.cons (fi i) (.cons (hy.toPt (by decide +kernel)) (.cons (fi x9) .nil)))
      · have n7 : ¬ wd = "meet" := fun z => e7 (decide_eq_true (congrArg V.str z))
        refine ⟨Nat.zero_le _, fun p10 m10 => ?_⟩
        refine ⟨p9, p10, _, _, rfl, rfl, SqT.of (same_new m10 _ _ upd_same), SqT.of upd_same, (fun z => nomatch z), (by show 3 ≤ sizeLine; decide), fun _ => ?_, (fun z => absurd rfl z)⟩
        have nn := B7.new (o := .tup [V.str wd]) m8
        refine q p9 wd _ _ hwd (mem_rest hev n1 n2 n3 n4 n5 n6 n7 hy) ((nn.new m9).new m10) (k1.trans (((k7.new m8).new m9).new m10)) (nn.back (k1.trans (k7.new m8)) m9) (same_new m10 _ _ upd_same)
end

/-! ### the law's own -/
abbrev Top.cs {K : PySem.W.Frag} {mg : Str → Option Value} (T : Top K mg) : List Addr := [T.c_NoRow, T.c_NoPoint, T.c_Ring, T.c_NoTie, T.c_Apart, T.c_NoPlace, T.c_NoDeed, T.c_NoForest, T.c_NoLine, T.c_NoText]
def wds : List Str := ["NoRow", "NoPoint", "Ring", "NoTie", "Apart", "NoPlace", "NoDeed", "NoForest", "NoLine", "NoText"]
def spDeed (K : PySem.W.Frag) : Sp := fun vs H Q _ => ∃ (r : Addr) (w : Str) (us : List V), vs = [.ref r] ∧ H r = some (.tup (.str w :: us)) ∧ Q (.bl (decide (w ∈ dws))) H
def spSame : Sp := fun vs H Q _ => ∃ (x y : Bool), vs = [.bl x, .bl y] ∧ ∀ H', Same H H' → Q (.bl (decide (x = y))) H'
def spInit (C : Addr) : Sp := fun vs H Q _ => ∃ (a : Addr) (v : V), vs = [.ref a, v] ∧ H a = some (exo a C none) ∧ ∀ d, H d = none → d ≠ a → Q .non (upd (upd H d (exd d [("line", v)])) a (exo a C (some d)))
section
variable {P : Program} {w : World} {K : PySem.W.Frag} {mg : Str → Option Value} {base : Heap}
def spWord (T : Top K mg) : Sp := fun vs H Q _ => ∃ (a : Addr) (i : Nat), vs = [.ref a] ∧ i < 10 ∧ ExAt H a (T.cs.getD i 0) ∧ Q (.str (wds.getD i "")) H
theorem xc_all (T : Top K mg) {i : Nat} (hi : i < 10) : XcC K (T.cs.getD i 0) := by
  have hc : i = 0 ∨ i = 1 ∨ i = 2 ∨ i = 3 ∨ i = 4 ∨ i = 5 ∨ i = 6 ∨ i = 7 ∨ i = 8 ∨ i = 9 := by omega
  rcases hc with rfl | rfl | rfl | rfl | rfl | rfl | rfl | rfl | rfl | rfl
  · exact T.s_NoRow
  · exact T.s_NoPoint
  · exact T.s_Ring
  · exact T.s_NoTie
  · exact T.s_Apart
  · exact T.s_NoPlace
  · exact T.s_NoDeed
  · exact T.s_NoForest
  · exact T.s_NoLine
  · exact T.s_NoText
theorem ok_deed (T : Top K mg) : FnOk P w K mg base CX0 1 T.a_isdeed T.d_isdeed ["row"] (spDeed K) := by
  refine T.F_isdeed.ok sc_isdeed (fun vs H Q E h => ?_) (fun cdv A outer s H vs Q E hr h => ?_)
  · obtain ⟨r, w, us, rfl, _⟩ := h
    rfl
  · obtain ⟨r, w, us, rfl, hr1, q⟩ := h
    refine ⟨_, (pss_one (ps_ret (pe_cmpR op_in_seq (pe_ix ix_tup (pv 0) pe_int (fun _ _ => rfl)) (pe_glob (v := .ref T.aD) (by rfl) T.v_DEEDWORDS rfl) (by rfl)))), ?_⟩
    refine ⟨_, rfl, r, _, _, _, rfl, rfl, SqT.of hr1, atI_nat (j := 0) rfl, T.aD, _, rfl, .inr (tupB_ok T.tD H), rfl, flat_strs dws, ?_⟩
    rw [inV_str]
    exact q
theorem ok_word (T : Top K mg) : FnOk P w K mg base CX0 1 T.a_plainword T.d_plainword ["error"] (spWord T) := by
  refine T.F_plainword.ok sc_plainword (fun vs H Q E h => ?_) (fun cdv A outer s H vs Q E hr h => ?_)
  · obtain ⟨a, i, rfl, _⟩ := h
    rfl
  · obtain ⟨a, i, rfl, hi, ex, q⟩ := h
    have kt : ∀ j, j < 10 → PySem.W.kitOne K (.ref (T.cs.getD i 0)) (.ref (T.cs.getD j 0)) = some (decide (i = j)) := fun j hj => kitsB_two (cs := T.cs) T.kits hi hj
    have xc := xc_all T hi
    refine ⟨_, (pss_cons (ps_if (pt_val (pe_callB call_isX (by rfl) T.m_isinstance (by decide +kernel) (pa_cons (pv 0) (pa_cons (pe_glob (v := .ref T.c_NoRow) (by rfl) T.v_NoRow rfl) pa_nil)))) (pss_one (ps_ret pe_str)) pss_nil)
      (pss_cons (ps_if (pt_val (pe_callB call_isX (by rfl) T.m_isinstance (by decide +kernel) (pa_cons (pv 0) (pa_cons (pe_glob (v := .ref T.c_NoPoint) (by rfl) T.v_NoPoint rfl) pa_nil)))) (pss_one (ps_ret pe_str)) pss_nil)
      (pss_cons (ps_if (pt_val (pe_callB call_isX (by rfl) T.m_isinstance (by decide +kernel) (pa_cons (pv 0) (pa_cons (pe_glob (v := .ref T.c_Ring) (by rfl) T.v_Ring rfl) pa_nil)))) (pss_one (ps_ret pe_str)) pss_nil)
      (pss_cons (ps_if (pt_val (pe_callB call_isX (by rfl) T.m_isinstance (by decide +kernel) (pa_cons (pv 0) (pa_cons (pe_glob (v := .ref T.c_NoTie) (by rfl) T.v_NoTie rfl) pa_nil)))) (pss_one (ps_ret pe_str)) pss_nil)
      (pss_cons (ps_if (pt_val (pe_callB call_isX (by rfl) T.m_isinstance (by decide +kernel) (pa_cons (pv 0) (pa_cons (pe_glob (v := .ref T.c_Apart) (by rfl) T.v_Apart rfl) pa_nil)))) (pss_one (ps_ret pe_str)) pss_nil)
      (pss_cons (ps_if (pt_val (pe_callB call_isX (by rfl) T.m_isinstance (by decide +kernel) (pa_cons (pv 0) (pa_cons (pe_glob (v := .ref T.c_NoPlace) (by rfl) T.v_NoPlace rfl) pa_nil)))) (pss_one (ps_ret pe_str)) pss_nil)
      (pss_cons (ps_if (pt_val (pe_callB call_isX (by rfl) T.m_isinstance (by decide +kernel) (pa_cons (pv 0) (pa_cons (pe_glob (v := .ref T.c_NoDeed) (by rfl) T.v_NoDeed rfl) pa_nil)))) (pss_one (ps_ret pe_str)) pss_nil)
      (pss_cons (ps_if (pt_val (pe_callB call_isX (by rfl) T.m_isinstance (by decide +kernel) (pa_cons (pv 0) (pa_cons (pe_glob (v := .ref T.c_NoForest) (by rfl) T.v_NoForest rfl) pa_nil)))) (pss_one (ps_ret pe_str)) pss_nil)
      (pss_cons (ps_if (pt_val (pe_callB call_isX (by rfl) T.m_isinstance (by decide +kernel) (pa_cons (pv 0) (pa_cons (pe_glob (v := .ref T.c_NoLine) (by rfl) T.v_NoLine rfl) pa_nil)))) (pss_one (ps_ret pe_str)) pss_nil)
      (pss_cons (ps_if (pt_val (pe_callB call_isX (by rfl) T.m_isinstance (by decide +kernel) (pa_cons (pv 0) (pa_cons (pe_glob (v := .ref T.c_NoText) (by rfl) T.v_NoText rfl) pa_nil)))) (pss_one (ps_ret pe_str)) pss_nil)
      (pss_one (ps_ret pe_str)))))))))))), ?_⟩
    refine ⟨_, rfl, a, _, _, _, _, rfl, ex, xc, ClsV.own _, kt 0 (by decide), _, rfl, ite2 (fun e => ?_) (fun e0 => ?_)⟩
    · obtain rfl : i = 0 := of_decide_eq_true e
      exact q
    refine ⟨_, rfl, a, _, _, _, _, rfl, ex, xc, ClsV.own _, kt 1 (by decide), _, rfl, ite2 (fun e => ?_) (fun e1 => ?_)⟩
    · obtain rfl : i = 1 := of_decide_eq_true e
      exact q
    refine ⟨_, rfl, a, _, _, _, _, rfl, ex, xc, ClsV.own _, kt 2 (by decide), _, rfl, ite2 (fun e => ?_) (fun e2 => ?_)⟩
    · obtain rfl : i = 2 := of_decide_eq_true e
      exact q
    refine ⟨_, rfl, a, _, _, _, _, rfl, ex, xc, ClsV.own _, kt 3 (by decide), _, rfl, ite2 (fun e => ?_) (fun e3 => ?_)⟩
    · obtain rfl : i = 3 := of_decide_eq_true e
      exact q
    refine ⟨_, rfl, a, _, _, _, _, rfl, ex, xc, ClsV.own _, kt 4 (by decide), _, rfl, ite2 (fun e => ?_) (fun e4 => ?_)⟩
    · obtain rfl : i = 4 := of_decide_eq_true e
      exact q
    refine ⟨_, rfl, a, _, _, _, _, rfl, ex, xc, ClsV.own _, kt 5 (by decide), _, rfl, ite2 (fun e => ?_) (fun e5 => ?_)⟩
    · obtain rfl : i = 5 := of_decide_eq_true e
      exact q
    refine ⟨_, rfl, a, _, _, _, _, rfl, ex, xc, ClsV.own _, kt 6 (by decide), _, rfl, ite2 (fun e => ?_) (fun e6 => ?_)⟩
    · obtain rfl : i = 6 := of_decide_eq_true e
      exact q
    refine ⟨_, rfl, a, _, _, _, _, rfl, ex, xc, ClsV.own _, kt 7 (by decide), _, rfl, ite2 (fun e => ?_) (fun e7 => ?_)⟩
    · obtain rfl : i = 7 := of_decide_eq_true e
      exact q
    refine ⟨_, rfl, a, _, _, _, _, rfl, ex, xc, ClsV.own _, kt 8 (by decide), _, rfl, ite2 (fun e => ?_) (fun e8 => ?_)⟩
    · obtain rfl : i = 8 := of_decide_eq_true e
      exact q
    refine ⟨_, rfl, a, _, _, _, _, rfl, ex, xc, ClsV.own _, kt 9 (by decide), _, rfl, ite2 (fun e => ?_) (fun e9 => ?_)⟩
    · obtain rfl : i = 9 := of_decide_eq_true e
      exact q
    exfalso
    simp only [decide_eq_true_eq] at e0 e1 e2 e3 e4 e5 e6 e7 e8 e9
    omega
theorem ok_init (T : Top K mg) : FnOk P w K mg base CX0 1 T.a_NoText_init T.d_NoText_init ["self", "line"] (spInit T.c_NoText) := by
  refine T.F_NoText_init.ok sc_NoText_init (fun vs H Q E h => ?_) (fun cdv A outer s H vs Q E hr h => ?_)
  · obtain ⟨a, v, rfl, _⟩ := h
    rfl
  · obtain ⟨a, v, rfl, ha, q⟩ := h
    refine ⟨_, pss_one (ps_ost (pv 0) (pv 1)), ?_⟩
    exact ⟨_, rfl, _, rfl, a, T.c_NoText, rfl, T.o_NoText, T.ln_NoText, .inl ⟨ha, fun d nd ne => q d nd ne⟩⟩
theorem ok_same (T : Top K mg) : FnOk P w K mg base CX0 1 T.a_Lsame T.d_Lsame ["_law_found", "_law_due"] spSame := by
  refine T.F_Lsame.ok sc_Lsame (fun vs H Q E h => ?_) (fun cdv A outer s H vs Q E hr h => ?_)
  · obtain ⟨x, y, rfl, _⟩ := h
    rfl
  · obtain ⟨x, y, rfl, q⟩ := h
    refine ⟨_, (pss_cons (ps_if (pt_val (pe_callB call_isi (by rfl) T.m_isinstance (by decide +kernel) (pa_cons (pv 1) (pa_cons (pe_bltn (v := .ty "tuple") (by rfl) T.m_tuple (by decide +kernel) rfl) pa_nil)))) (pss_cons ps_never
      (pss_one ps_never)) pss_nil)
      (pss_cons (ps_if (pt_cmpR op_isN (pv 1) pe_non (nomark _)) (pss_one ps_never) pss_nil)
      (pss_cons (ps_if (PW.pt (pw_or (pt_cmpR op_ne (pe_callB call_isi (by rfl) T.m_isinstance (by decide +kernel) (pa_cons (pv 0) (pa_cons (pe_bltn (v := .ty "bool") (by rfl) T.m_bool (by decide +kernel) rfl) pa_nil))) (pe_callB call_isi (by rfl) T.m_isinstance (by decide +kernel) (pa_cons (pv 1) (pa_cons (pe_bltn (v := .ty "bool") (by rfl) T.m_bool (by decide +kernel) rfl) pa_nil))) (nomark _)) (pw_or1 (pt_cmpR op_ne (pe_callB call_isi (by rfl) T.m_isinstance (by decide +kernel) (pa_cons (pv 0) (pa_cons (pe_bltn (v := .ty "str") (by rfl) T.m_str (by decide +kernel) rfl) pa_nil))) (pe_callB call_isi (by rfl) T.m_isinstance (by decide +kernel) (pa_cons (pv 1) (pa_cons (pe_bltn (v := .ty "str") (by rfl) T.m_str (by decide +kernel) rfl) pa_nil))) (nomark _))))) (pss_one ps_never) pss_nil)
      (pss_one (ps_ret (pe_and (pe_callB call_isiT (by rfl) T.m_isinstance (by decide +kernel) (pa_cons (pv 0) (pa_cons (pe_tup (pa_cons (pe_bltn (v := .ty "int") (by rfl) T.m_int (by decide +kernel) rfl) (pa_cons (pe_bltn (v := .ty "str") (by rfl) T.m_str (by decide +kernel) rfl) pa_nil))) pa_nil))) (pe_one (pe_cmpR op_eq (pv 0) (pv 1) (nomark _))))))))), ?_⟩
    refine ⟨_, rfl, _, _, _, _, false, rfl, ClsV.ty _, .base (.bl _), kit_ty (by decide +kernel), _, rfl, iteF ?_⟩
    refine ⟨_, rfl, rfl, _, rfl, ?_⟩
    refine ite2 (fun e => absurd e (by simp)) (fun _ => ?_)
    refine ⟨_, rfl, _, _, _, _, true, rfl, ClsV.ty _, .base (.bl _), kit_ty (by decide +kernel), _, rfl, _, _, _, _, true, rfl, ClsV.ty _, .base (.bl _), kit_ty (by decide +kernel), rfl, _, rfl, iteNS rfl ?_⟩
    refine ⟨_, rfl, _, _, _, _, false, rfl, ClsV.ty _, .base (.bl _), kit_ty (by decide +kernel), _, rfl, _, _, _, _, false, rfl, ClsV.ty _, .base (.bl _), kit_ty (by decide +kernel), rfl, _, rfl, iteNS rfl ?_⟩
    refine ⟨_, rfl, (by show 2 ≤ sizeLine; decide), fun t nt => ⟨_, t, _, _, _, true, rfl, upd_same, .cons (ClsV.ty _) (.cons (ClsV.ty _) .nil), .base (.bl _), kitAny_cons (kit_ty (b := "int") (r := true) (by decide +kernel)) (fun z => nomatch z) (fun _ => rfl), true, rfl, iteT ?_⟩⟩
    refine ⟨_, rfl, _, rfl, rfl, ?_⟩
    have e : decide (V.bl x = V.bl y) = decide (x = y) := by
      by_cases z : x = y
      · rw [decide_eq_true z, decide_eq_true (congrArg V.bl z)]
      · rw [decide_eq_false z, decide_eq_false fun t => z (V.bl.inj t)]
    rw [e]
    exact q _ (same_new nt)
theorem strs_dp {H : Hp} : ∀ ws : List Str, DpAll K H (ws.map V.str) (ws.map PyData.str)
  | [] => .nil
  | x :: r => .cons (.str x) (strs_dp r)
theorem cut7 : cutV (evs.map V.str) none (some 7) = dws.map V.str := cut_nat (α := Nat) (evs.map V.str) 7
inductive ErrAll (cs : List Addr) (H : Hp) : List V → List Nat → Prop
  | nil : ErrAll cs H [] []
  | cons {a : Addr} {i : Nat} {vs : List V} {js : List Nat} : ExAt H a (cs.getD i 0) → i < 10 → ErrAll cs H vs js → ErrAll cs H (.ref a :: vs) (i :: js)
theorem ErrAll.get {cs : List Addr} {H : Hp} : ∀ {vs : List V} {js : List Nat}, ErrAll cs H vs js → ∀ {k : Nat} {x : V}, vs[k]? = some x → ∃ (a : Addr) (i : Nat), x = .ref a ∧ js[k]? = some i ∧ i < 10 ∧ ExAt H a (cs.getD i 0)
  | _, _, .nil, k, x, h => by simp at h
  | _, _, .cons e l r, 0, x, h => ⟨_, _, (Option.some.inj h).symm, rfl, l, e⟩
  | _, _, .cons e l r, k + 1, x, h => r.get (k := k) h
def idx : List Nat := [4, 6, 7, 8, 5, 1, 0, 9, 3, 2]
def ews : List Str := ["Apart", "NoDeed", "NoForest", "NoLine", "NoPlace", "NoPoint", "NoRow", "NoText", "NoTie", "Ring"]
theorem ok_law (T : Top K mg) : FnOk P w K mg base CX0 5 T.a_law T.d_law ["_law_script"] (spLaw K) := by
  have G_Lbox : FnOk P w K mg base CX0 2 _ _ _ _ := ok_box T
  have G_Lrow : FnOk P w K mg base CX0 4 _ _ _ _ := ok_row T
  have G_Lforest : FnOk P w K mg base CX0 4 _ _ _ _ := ok_forest T
  have G_Levery : FnOk P w K mg base CX0 1 _ _ _ _ := ok_every T
  have G_Lsame : FnOk P w K mg base CX0 1 _ _ _ _ := ok_same T
  have G_isdeed : FnOk P w K mg base CX0 1 _ _ _ _ := ok_deed T
  have G_plainword : FnOk P w K mg base CX0 1 _ _ _ _ := ok_word T
  have G_NoText_init : FnOk P w K mg base CX0 1 _ _ _ _ := ok_init T
  refine T.F_law.ok sc_law (fun vs H Q E h => ?_) (fun cdv A outer s H vs Q E hr h => ?_)
  · obtain ⟨a, ns, rfl, _⟩ := h
    rfl
  · obtain ⟨a, ns, rfl, hS, hlen, hbits, q⟩ := h
    refine ⟨_, (pss_cons (ps_set (i := 1) sc_law.nd rfl (.inl rfl) (pe_call G_Lbox (hr.mono (by decide)) (by rfl) T.g_Lbox T.F_Lbox.kp T.b_Lbox .nil pass0 (pa_cons (pv 0) pa_nil)))
      (pss_cons (ps_for PassesOwn.never rfl (pi_range1 (by rfl) T.m_range (pa_cons (pe_callB (call_max2 rfl) (by rfl) T.m_max (by decide +kernel) (pa_cons pe_int (pa_cons (pe_callB (call_min2 rfl) (by rfl) T.m_min (by decide +kernel) (pa_cons pe_int (pa_cons (pe_callB call_len_seq (by rfl) T.m_len PySem.boot_len (pa_cons (pv 0) pa_nil)) pa_nil))) pa_nil))) pa_nil)) (pg_name (i := 2) sc_law.nd rfl (.inl rfl)) (pss_cons (ps_set (i := 3) sc_law.nd rfl (.inl rfl) (pe_call G_Lrow hr (by rfl) T.g_Lrow T.F_Lrow.kp T.b_Lrow .nil pass0 (pa_cons (pv 1) (pa_cons (pe_call G_Lforest hr (by rfl) T.g_Lforest T.F_Lforest.kp T.b_Lforest .nil pass0 (pa_cons (pv 1) (pa_cons pe_int (pa_cons pe_int pa_nil)))) (pa_cons (pe_call0 G_Levery (hr.mono (by decide)) (by rfl) T.g_Levery T.F_Levery.kp T.b_Levery .nil pass0) pa_nil)))))
      (pss_one (ps_if (pt_not (pt_val (pe_call G_Lsame (hr.mono (by decide)) (by rfl) T.g_Lsame T.F_Lsame.kp T.b_Lsame .nil pass0 (pa_cons (pe_call G_isdeed (hr.mono (by decide)) (by rfl) T.g_isdeed T.F_isdeed.kp T.b_isdeed .nil pass0 (pa_cons (pv 3) pa_nil)) (pa_cons (pe_cmpR op_in_seq (pe_ix ix_tup (pv 3) pe_int (fun _ _ => rfl)) (pe_slice sl_list (pe_call0 G_Levery (hr.mono (by decide)) (by rfl) T.g_Levery T.F_Levery.kp T.b_Levery .nil pass0) po_none (po_some pe_int)) (by rfl)) pa_nil))))) (pss_one (ps_ret pe_bl)) pss_nil))))
      (pss_cons (ps_set (i := 4) sc_law.nd rfl (.inl rfl) (pe_lst (pa_cons (pe_exc0 T.x_Apart T.v_Apart T.k_Apart (by rfl)) (pa_cons (pe_exc0 T.x_NoDeed T.v_NoDeed T.k_NoDeed (by rfl)) (pa_cons (pe_exc0 T.x_NoForest T.v_NoForest T.k_NoForest (by rfl)) (pa_cons (pe_exc0 T.x_NoLine T.v_NoLine T.k_NoLine (by rfl)) (pa_cons (pe_exc0 T.x_NoPlace T.v_NoPlace T.k_NoPlace (by rfl)) (pa_cons (pe_exc0 T.x_NoPoint T.v_NoPoint T.k_NoPoint (by rfl)) (pa_cons (pe_exc0 T.x_NoRow T.v_NoRow T.k_NoRow (by rfl)) (pa_cons (pe_oexV T.o_NoText T.i_NoText T.t_NoText G_NoText_init (hr.mono (by decide)) T.b_NoText_init (by rfl) T.v_NoText (pa_cons pe_int pa_nil)) (pa_cons (pe_exc0 T.x_NoTie T.v_NoTie T.k_NoTie (by rfl)) (pa_cons (pe_exc0 T.x_Ring T.v_Ring T.k_Ring (by rfl)) pa_nil))))))))))))
      (pss_cons (ps_set (i := 5) sc_law.nd rfl (.inl rfl) (pe_lst (pa_cons pe_str (pa_cons pe_str (pa_cons pe_str (pa_cons pe_str (pa_cons pe_str (pa_cons pe_str (pa_cons pe_str (pa_cons pe_str (pa_cons pe_str (pa_cons pe_str pa_nil))))))))))))
      (pss_cons (ps_if (pt_not (pt_val (pe_callB (cr_all rfl) (by rfl) T.m_all (by decide +kernel) (pa_cons (pe_lc (own := [("_law_error", 6)]) (g := gName 6) (tt := tYes) (by rfl) sc_law.nd (pi_list (pv 4)) (blkOk_by (own := [("_law_error", 6)]) (N := ["_law_script", "_law_box_here", "_law_turn", "_law_row_here", "_law_errors", "_law_words", "_law_error"]) (sc := defScope s_law) (by decide +kernel)) (fun _ _ _ _ _ => (pg_name (i := 6) sc_law.nd rfl (.inl rfl))) (fun _ _ _ _ _ => pts_nil) (fun _ _ _ _ _ => (pe_callB (call_isXK (K := K) rfl) (by rfl) T.m_isinstance (by decide +kernel) (pa_cons (pv 6) (pa_cons (pe_glob (v := .ref T.c_TreeError) (by rfl) T.v_TreeError rfl) pa_nil))))) pa_nil)))) (pss_one (ps_ret pe_bl)) pss_nil)
      (pss_one (ps_ret (pe_and (pe_cmpR (op_eqD hr.units) (pe_lc (own := [("_law_error", 6)]) (g := gName 6) (tt := tYes) (by rfl) sc_law.nd (pi_list (pv 4)) (blkOk_by (own := [("_law_error", 6)]) (N := ["_law_script", "_law_box_here", "_law_turn", "_law_row_here", "_law_errors", "_law_words", "_law_error"]) (sc := defScope s_law) (by decide +kernel)) (fun _ _ _ _ _ => (pg_name (i := 6) sc_law.nd rfl (.inl rfl))) (fun _ _ _ _ _ => pts_nil) (fun _ _ _ _ _ => (pe_call G_plainword (hr.mono (by decide)) (by rfl) T.g_plainword T.F_plainword.kp T.b_plainword .nil pass0 (pa_cons (pv 6) pa_nil)))) (pv 5) (nomark _)) (pe_one (pe_cmpR op_eq (pe_xv (pe_ix ix_list (pv 4) pe_int (fun _ _ => rfl))) pe_int (nomark _))))))))))), ?_⟩
    refine ⟨_, rfl, a, ns, rfl, hS, hlen, fun b L H1 s1 nb B1 => ?_⟩
    refine ⟨_, rfl, a, _, rfl, .inl (s1.seq hS), _, _, rfl, _, _, rfl, _, rfl, ?_, ?_, for_range (lo := 0) (n := _) (fun i σ H2 => ∃ (y2 y3 : Option V), σ = [some (.ref a), some (.ref b), y2, y3, none, none, none] ∧ BoxAt H2 b L) ⟨none, none, rfl, B1⟩ ?_ ?_⟩
    · rw [List.length_map]
      split <;> omega
    · rw [List.length_map]
      split
      · split <;> omega
      · omega
    · rintro i σ H2 hi ⟨y2, y3, rfl, B2⟩
      refine ⟨_, rfl, _, rfl, b, L, 3, 8, rfl, B2, by decide, by decide, by decide, by decide, fun f pts ts H3 fok hle B3 k3 F3 => ?_⟩
      refine ⟨rfl, fun wl H4 s4 nwl hwl => ⟨b, L, wl, .ref f, evs, pts, ts, rfl, B3.same s4, F3.mono (Tups.of_same s4), fok, hwl, B3.ne nwl, by decide, by decide, (fun w h => h), fun r wd us H5 hwd hrow B5 k5 nr hr5 => ?_⟩⟩
      obtain ⟨sl, ps, rfl, _, _⟩ := hrow
      refine ⟨_, rfl, r, wd, ps, rfl, hr5, ?_⟩
      refine ⟨_, rfl, r, _, _, _, rfl, rfl, SqT.of hr5, atI_nat (j := 0) rfl, rfl, fun wl2 H6 s6 n6 h6 => ⟨7, rfl, wl2, _, rfl, SqL.of h6, fun p7 n7 => ⟨p7, _, rfl, .inl (SqL.of upd_same), rfl, ?_, _, _, rfl, fun H8 s8 => ⟨_, rfl, iteNS ?_ ?_⟩⟩⟩⟩
      · rw [cut7]
        exact flat_strs dws
      · show decide (wd ∈ dws) = inV (.str wd) (cutV (evs.map V.str) none (some 7))
        rw [cut7, inV_str]
      · exact ⟨_, _, rfl, (((B5.same s6).new n7).same s8)⟩
    · rintro σ G0 ⟨y2, y3, rfl, B2⟩
      refine fun a1 n1 => ?_
      have e1 : ExAt (upd G0 a1 (ExO (.ref T.c_Apart) a1)) a1 T.c_Apart := .inl upd_same
      have s1 : Same G0 (upd G0 a1 (ExO (.ref T.c_Apart) a1)) := same_new n1
      generalize upd G0 a1 (ExO (.ref T.c_Apart) a1) = G1 at e1 s1 ⊢
      refine fun a2 n2 => ?_
      have e2 : ExAt (upd G1 a2 (ExO (.ref T.c_NoDeed) a2)) a2 T.c_NoDeed := .inl upd_same
      have s2 : Same G1 (upd G1 a2 (ExO (.ref T.c_NoDeed) a2)) := same_new n2
      generalize upd G1 a2 (ExO (.ref T.c_NoDeed) a2) = G2 at e2 s2 ⊢
      refine fun a3 n3 => ?_
      have e3 : ExAt (upd G2 a3 (ExO (.ref T.c_NoForest) a3)) a3 T.c_NoForest := .inl upd_same
      have s3 : Same G2 (upd G2 a3 (ExO (.ref T.c_NoForest) a3)) := same_new n3
      generalize upd G2 a3 (ExO (.ref T.c_NoForest) a3) = G3 at e3 s3 ⊢
      refine fun a4 n4 => ?_
      have e4 : ExAt (upd G3 a4 (ExO (.ref T.c_NoLine) a4)) a4 T.c_NoLine := .inl upd_same
      have s4 : Same G3 (upd G3 a4 (ExO (.ref T.c_NoLine) a4)) := same_new n4
      generalize upd G3 a4 (ExO (.ref T.c_NoLine) a4) = G4 at e4 s4 ⊢
      refine fun a5 n5 => ?_
      have e5 : ExAt (upd G4 a5 (ExO (.ref T.c_NoPlace) a5)) a5 T.c_NoPlace := .inl upd_same
      have s5 : Same G4 (upd G4 a5 (ExO (.ref T.c_NoPlace) a5)) := same_new n5
      generalize upd G4 a5 (ExO (.ref T.c_NoPlace) a5) = G5 at e5 s5 ⊢
      refine fun a6 n6 => ?_
      have e6 : ExAt (upd G5 a6 (ExO (.ref T.c_NoPoint) a6)) a6 T.c_NoPoint := .inl upd_same
      have s6 : Same G5 (upd G5 a6 (ExO (.ref T.c_NoPoint) a6)) := same_new n6
      generalize upd G5 a6 (ExO (.ref T.c_NoPoint) a6) = G6 at e6 s6 ⊢
      refine fun a7 n7 => ?_
      have e7 : ExAt (upd G6 a7 (ExO (.ref T.c_NoRow) a7)) a7 T.c_NoRow := .inl upd_same
      have s7 : Same G6 (upd G6 a7 (ExO (.ref T.c_NoRow) a7)) := same_new n7
      generalize upd G6 a7 (ExO (.ref T.c_NoRow) a7) = G7 at e7 s7 ⊢
      refine ⟨(by show 1 ≤ 1000; decide), fun a8 n8 => ⟨a8, .int 3, rfl, upd_same, fun d8 m8 ne8 => ⟨rfl, ?_⟩⟩⟩
      have f8 : (upd (upd (upd G7 a8 (exo a8 T.c_NoText none)) d8 (exd d8 [("line", V.int 3)])) a8 (exo a8 T.c_NoText (some d8))) d8 = some (exd d8 [("line", .int 3)]) := by
        rw [upd_ne ne8, upd_same]
      have g8 : (upd (upd (upd G7 a8 (exo a8 T.c_NoText none)) d8 (exd d8 [("line", V.int 3)])) a8 (exo a8 T.c_NoText (some d8))) a8 = some (exo a8 T.c_NoText (some d8)) := upd_same
      have s8 : Same G7 (upd (upd (upd G7 a8 (exo a8 T.c_NoText none)) d8 (exd d8 [("line", V.int 3)])) a8 (exo a8 T.c_NoText (some d8))) := fun b o z => by
        have z2 := same_new (o := exo a8 T.c_NoText none) n8 _ _ z
        rw [upd_ne (ne_of_none z n8), upd_ne (ne_of_none z2 m8)]
        exact z2
      generalize upd (upd (upd G7 a8 (exo a8 T.c_NoText none)) d8 (exd d8 [("line", V.int 3)])) a8 (exo a8 T.c_NoText (some d8)) = G8 at f8 g8 s8 ⊢
      have e8 : ExAt G8 a8 T.c_NoText := .inr ⟨d8, _, g8, f8⟩
      refine fun a9 n9 => ?_
      have e9 : ExAt (upd G8 a9 (ExO (.ref T.c_NoTie) a9)) a9 T.c_NoTie := .inl upd_same
      have s9 : Same G8 (upd G8 a9 (ExO (.ref T.c_NoTie) a9)) := same_new n9
      generalize upd G8 a9 (ExO (.ref T.c_NoTie) a9) = G9 at e9 s9 ⊢
      refine fun a10 n10 => ?_
      have e10 : ExAt (upd G9 a10 (ExO (.ref T.c_Ring) a10)) a10 T.c_Ring := .inl upd_same
      have s10 : Same G9 (upd G9 a10 (ExO (.ref T.c_Ring) a10)) := same_new n10
      generalize upd G9 a10 (ExO (.ref T.c_Ring) a10) = G10 at e10 s10 ⊢
      refine ⟨(by show 10 ≤ sizeLine; decide), fun el nel => ?_⟩
      have s11 : Same G10 (upd G10 el (.lst [.ref a1, .ref a2, .ref a3, .ref a4, .ref a5, .ref a6, .ref a7, .ref a8, .ref a9, .ref a10])) := same_new nel
      have hel : (upd G10 el (.lst [.ref a1, .ref a2, .ref a3, .ref a4, .ref a5, .ref a6, .ref a7, .ref a8, .ref a9, .ref a10])) el = some (.lst [.ref a1, .ref a2, .ref a3, .ref a4, .ref a5, .ref a6, .ref a7, .ref a8, .ref a9, .ref a10]) := upd_same
      generalize upd G10 el (.lst [.ref a1, .ref a2, .ref a3, .ref a4, .ref a5, .ref a6, .ref a7, .ref a8, .ref a9, .ref a10]) = G11 at s11 hel ⊢
      have all : ErrAll T.cs G11 [.ref a1, .ref a2, .ref a3, .ref a4, .ref a5, .ref a6, .ref a7, .ref a8, .ref a9, .ref a10] [4, 6, 7, 8, 5, 1, 0, 9, 3, 2] := (.cons (i := 4) (e1.same (((((((((s2.trans s3).trans s4).trans s5).trans s6).trans s7).trans s8).trans s9).trans s10).trans s11)) (by decide) (.cons (i := 6) (e2.same ((((((((s3.trans s4).trans s5).trans s6).trans s7).trans s8).trans s9).trans s10).trans s11)) (by decide) (.cons (i := 7) (e3.same (((((((s4.trans s5).trans s6).trans s7).trans s8).trans s9).trans s10).trans s11)) (by decide) (.cons (i := 8) (e4.same ((((((s5.trans s6).trans s7).trans s8).trans s9).trans s10).trans s11)) (by decide) (.cons (i := 5) (e5.same (((((s6.trans s7).trans s8).trans s9).trans s10).trans s11)) (by decide) (.cons (i := 1) (e6.same ((((s7.trans s8).trans s9).trans s10).trans s11)) (by decide) (.cons (i := 0) (e7.same (((s8.trans s9).trans s10).trans s11)) (by decide) (.cons (i := 9) (e8.same ((s9.trans s10).trans s11)) (by decide) (.cons (i := 3) (e9.same (s10.trans s11)) (by decide) (.cons (i := 2) (e10.same s11) (by decide) .nil))))))))))
      have f11 := ((s9.trans s10).trans s11) _ _ f8
      have g11 := ((s9.trans s10).trans s11) _ _ g8
      refine ⟨(by show 10 ≤ sizeLine; decide), fun wl nwl => ?_⟩
      have s12 : Same G11 (upd G11 wl (.lst (ews.map V.str))) := same_new nwl
      have hwl : (upd G11 wl (.lst (ews.map V.str))) wl = some (.lst (ews.map V.str)) := upd_same
      have hel2 := s12 _ _ hel
      change tSeq _ _ _ _ (upd G11 wl (.lst (ews.map V.str)))
      generalize upd G11 wl (.lst (ews.map V.str)) = G12 at s12 hwl hel2 ⊢
      refine ⟨_, rfl, el, rfl, ⟨_, SqL.of hel2⟩, fun D nD => ?_⟩
      refine lc_list (K := K) (a := el) (xs := _) (fun i H6 => Same G12 H6 ∧ H6 D = some (.lst ((List.replicate i true).map V.bl))) ⟨same_new nD, upd_same⟩ (fun i H6 _ z => SqL.of (z.1 _ _ hel2)) ?_ ?_
      · rintro i x H6 hx ⟨s6, hD⟩
        obtain ⟨a, j, rfl, hj, hj10, ex⟩ := all.get hx
        refine ⟨rfl, yes_ite ?_⟩
        refine ⟨_, rfl, a, _, _, _, _, rfl, ex.same (s12.trans s6), xc_all T hj10, ClsV.own _, kitsB_top (cs := T.cs) T.kits hj10, ?_⟩
        have hil := (List.getElem?_eq_some_iff.mp hx).1
        refine ⟨_, hD, szl ?_, fun b o z => ?_, ?_⟩
        · rw [List.length_map, List.length_replicate]
          exact Nat.lt_of_lt_of_le hil (by show 10 ≤ 100000; decide)
        · rw [upd_ne (ne_of_none z nD)]
          exact s6 _ _ z
        · rw [upd_same, List.replicate_succ', List.map_append]
          rfl
      · rintro H6 ⟨s6, hD⟩
        refine ⟨D, _, rfl, SqL.of hD, _, rfl, ?_⟩
        refine ite2 (fun e => absurd e (show ¬ (!((List.replicate 10 true).all id)) = true by decide)) (fun _ => ?_)
        have hel6 := s6 _ _ hel2
        have hwl6 := s6 _ _ hwl
        refine ⟨_, rfl, el, rfl, ⟨_, SqL.of hel6⟩, fun D2 nD2 => ?_⟩
        refine lc_list (K := K) (a := el) (xs := _) (fun i H7 => Same H6 H7 ∧ H7 D2 = some (.lst ((idx.take i).map fun j => V.str (wds.getD j "")))) ⟨same_new nD2, upd_same⟩ (fun i H7 _ z => SqL.of (z.1 _ _ hel6)) ?_ ?_
        · rintro i x H7 hx ⟨s7, hD7⟩
          obtain ⟨a, j, rfl, hj, hj10, ex⟩ := all.get hx
          refine ⟨rfl, yes_ite ?_⟩
          have hil := (List.getElem?_eq_some_iff.mp hx).1
          refine ⟨_, rfl, a, j, rfl, hj10, ex.same ((s12.trans s6).trans s7), _, hD7, szl ?_, fun b o z => ?_, ?_⟩
          · rw [List.length_map, List.length_take]
            exact Nat.lt_of_le_of_lt (Nat.min_le_left _ _) (Nat.lt_of_lt_of_le hil (by show 10 ≤ 100000; decide))
          · rw [upd_ne (ne_of_none z nD2)]
            exact s7 _ _ z
          · have hj2 : idx[i]? = some j := hj
            rw [upd_same, List.take_add_one, hj2, List.map_append]
            rfl
        · rintro H7 ⟨s7, hD7⟩
          have hwl7 := s7 _ _ hwl6
          have sm := (s12.trans s6).trans s7
          refine ⟨_, rfl, .list (ews.map .str), .list (ews.map .str), .lst (SqL.of hD7) (strs_dp ews), .lst (SqL.of hwl7) (strs_dp ews), by decide +kernel, by decide +kernel, ?_⟩
          refine ⟨true, congrArg V.bl (by decide +kernel), iteT ?_⟩
          refine ⟨_, rfl, el, _, 7, _, rfl, rfl, SqL.of (s7 _ _ hel6), atI_nat (j := 7) rfl, a8, T.c_NoText, d8, _, .int 3, rfl, sm _ _ g11, sm _ _ f11, T.xf_NoText, T.ln_NoText, rfl, rfl, ?_⟩
          exact q _
end
theorem all_mk {l : PySem.W.OpenLaw} {w : World} {K : PySem.W.Frag} {h : Heap} {mg : Str → Option Value} {fa f0 f1 f2 f3 f4 f5 f6 f7 f8 f9 f10 f11 f12 f13 f14 : Addr} {cTreeError cNoRow cNoPoint cRing cNoTie cApart cNoPlace cNoDeed cNoForest cNoLine cNoText fI fD : Addr} {snT : List Str} {subT : List Value} {abT : Bool} {colT : Option Bool} {ddT : Option Addr} {k0T k1T k2T k3T k5T : Option Value} {nmT : Str} {qT : Str} {NT : Addr} {bsT bmT : List Value} {odI anI : Option Addr} {slI : Array (Option Value)} {ocI kVI dcI pmI cdI ctI : Value} (X : K.In h) (G : h.Ns mainGlobals mg) (hfa : mg "law" = some (.ref fa))
    {od0 an0 od1 an1 od2 an2 od3 an3 od4 an4 od5 an5 od6 an6 od7 an7 od8 an8 od9 an9 od10 an10 od11 an11 od12 an12 od13 an13 od14 an14 : Option Addr} {sl0 sl1 sl2 sl3 sl4 sl5 sl6 sl7 sl8 sl9 sl10 sl11 sl12 sl13 sl14 : Array (Option Value)} {oc0 kV0 dc0 pm0 cd0 ct0 oc1 kV1 dc1 pm1 cd1 ct1 oc2 kV2 dc2 pm2 cd2 ct2 oc3 kV3 dc3 pm3 cd3 ct3 oc4 kV4 dc4 pm4 cd4 ct4 oc5 kV5 dc5 pm5 cd5 ct5 oc6 kV6 dc6 pm6 cd6 ct6 oc7 kV7 dc7 pm7 cd7 ct7 oc8 kV8 dc8 pm8 cd8 ct8 oc9 kV9 dc9 pm9 cd9 ct9 oc10 kV10 dc10 pm10 cd10 ct10 oc11 kV11 dc11 pm11 cd11 ct11 oc12 kV12 dc12 pm12 cd12 ct12 oc13 kV13 dc13 pm13 cd13 ct13 oc14 kV14 dc14 pm14 cd14 ct14 : Value}
    (a0 : PySem.W.nsIn K mainGlobals "is_deed" = some (some (.ref f0))) (l0 : K.lookup f0 = some ⟨oc0, od0, .func (PySem.W.fnOf "is_deed" "is_deed" (defArgs s_isdeed) (defBody s_isdeed) (defScope s_isdeed) .none kV0 dc0 pm0 an0 cd0 ct0), sl0⟩) (c0 : PySem.W.codeIn K cd0 "is_deed" = true) (k0 : PySem.W.keepIn K (.ref f0) = true)
    (a1 : PySem.W.nsIn K mainGlobals "plain_word" = some (some (.ref f1))) (l1 : K.lookup f1 = some ⟨oc1, od1, .func (PySem.W.fnOf "plain_word" "plain_word" (defArgs s_plainword) (defBody s_plainword) (defScope s_plainword) .none kV1 dc1 pm1 an1 cd1 ct1), sl1⟩) (c1 : PySem.W.codeIn K cd1 "plain_word" = true) (k1 : PySem.W.keepIn K (.ref f1) = true)
    (a2 : PySem.W.nsIn K mainGlobals "_law_mixed" = some (some (.ref f2))) (l2 : K.lookup f2 = some ⟨oc2, od2, .func (PySem.W.fnOf "_law_mixed" "_law_mixed" (defArgs s_Lmixed) (defBody s_Lmixed) (defScope s_Lmixed) .none kV2 dc2 pm2 an2 cd2 ct2), sl2⟩) (c2 : PySem.W.codeIn K cd2 "_law_mixed" = true) (k2 : PySem.W.keepIn K (.ref f2) = true)
    (a3 : PySem.W.nsIn K mainGlobals "_law_box" = some (some (.ref f3))) (l3 : K.lookup f3 = some ⟨oc3, od3, .func (PySem.W.fnOf "_law_box" "_law_box" (defArgs s_Lbox) (defBody s_Lbox) (defScope s_Lbox) .none kV3 dc3 pm3 an3 cd3 ct3), sl3⟩) (c3 : PySem.W.codeIn K cd3 "_law_box" = true) (k3 : PySem.W.keepIn K (.ref f3) = true)
    (a4 : PySem.W.nsIn K mainGlobals "_law_next" = some (some (.ref f4))) (l4 : K.lookup f4 = some ⟨oc4, od4, .func (PySem.W.fnOf "_law_next" "_law_next" (defArgs s_Lnext) (defBody s_Lnext) (defScope s_Lnext) .none kV4 dc4 pm4 an4 cd4 ct4), sl4⟩) (c4 : PySem.W.codeIn K cd4 "_law_next" = true) (k4 : PySem.W.keepIn K (.ref f4) = true)
    (a5 : PySem.W.nsIn K mainGlobals "_law_few" = some (some (.ref f5))) (l5 : K.lookup f5 = some ⟨oc5, od5, .func (PySem.W.fnOf "_law_few" "_law_few" (defArgs s_Lfew) (defBody s_Lfew) (defScope s_Lfew) .none kV5 dc5 pm5 an5 cd5 ct5), sl5⟩) (c5 : PySem.W.codeIn K cd5 "_law_few" = true) (k5 : PySem.W.keepIn K (.ref f5) = true)
    (a6 : PySem.W.nsIn K mainGlobals "_law_worth" = some (some (.ref f6))) (l6 : K.lookup f6 = some ⟨oc6, od6, .func (PySem.W.fnOf "_law_worth" "_law_worth" (defArgs s_Lworth) (defBody s_Lworth) (defScope s_Lworth) .none kV6 dc6 pm6 an6 cd6 ct6), sl6⟩) (c6 : PySem.W.codeIn K cd6 "_law_worth" = true) (k6 : PySem.W.keepIn K (.ref f6) = true)
    (a7 : PySem.W.nsIn K mainGlobals "_law_point" = some (some (.ref f7))) (l7 : K.lookup f7 = some ⟨oc7, od7, .func (PySem.W.fnOf "_law_point" "_law_point" (defArgs s_Lpoint) (defBody s_Lpoint) (defScope s_Lpoint) .none kV7 dc7 pm7 an7 cd7 ct7), sl7⟩) (c7 : PySem.W.codeIn K cd7 "_law_point" = true) (k7 : PySem.W.keepIn K (.ref f7) = true)
    (a8 : PySem.W.nsIn K mainGlobals "_law_forest" = some (some (.ref f8))) (l8 : K.lookup f8 = some ⟨oc8, od8, .func (PySem.W.fnOf "_law_forest" "_law_forest" (defArgs s_Lforest) (defBody s_Lforest) (defScope s_Lforest) .none kV8 dc8 pm8 an8 cd8 ct8), sl8⟩) (c8 : PySem.W.codeIn K cd8 "_law_forest" = true) (k8 : PySem.W.keepIn K (.ref f8) = true)
    (a9 : PySem.W.nsIn K mainGlobals "_law_spot" = some (some (.ref f9))) (l9 : K.lookup f9 = some ⟨oc9, od9, .func (PySem.W.fnOf "_law_spot" "_law_spot" (defArgs s_Lspot) (defBody s_Lspot) (defScope s_Lspot) .none kV9 dc9 pm9 an9 cd9 ct9), sl9⟩) (c9 : PySem.W.codeIn K cd9 "_law_spot" = true) (k9 : PySem.W.keepIn K (.ref f9) = true)
    (a10 : PySem.W.nsIn K mainGlobals "_law_pair" = some (some (.ref f10))) (l10 : K.lookup f10 = some ⟨oc10, od10, .func (PySem.W.fnOf "_law_pair" "_law_pair" (defArgs s_Lpair) (defBody s_Lpair) (defScope s_Lpair) .none kV10 dc10 pm10 an10 cd10 ct10), sl10⟩) (c10 : PySem.W.codeIn K cd10 "_law_pair" = true) (k10 : PySem.W.keepIn K (.ref f10) = true)
    (a11 : PySem.W.nsIn K mainGlobals "_law_row" = some (some (.ref f11))) (l11 : K.lookup f11 = some ⟨oc11, od11, .func (PySem.W.fnOf "_law_row" "_law_row" (defArgs s_Lrow) (defBody s_Lrow) (defScope s_Lrow) .none kV11 dc11 pm11 an11 cd11 ct11), sl11⟩) (c11 : PySem.W.codeIn K cd11 "_law_row" = true) (k11 : PySem.W.keepIn K (.ref f11) = true)
    (a12 : PySem.W.nsIn K mainGlobals "_law_same" = some (some (.ref f12))) (l12 : K.lookup f12 = some ⟨oc12, od12, .func (PySem.W.fnOf "_law_same" "_law_same" (defArgs s_Lsame) (defBody s_Lsame) (defScope s_Lsame) .none kV12 dc12 pm12 an12 cd12 ct12), sl12⟩) (c12 : PySem.W.codeIn K cd12 "_law_same" = true) (k12 : PySem.W.keepIn K (.ref f12) = true)
    (a13 : PySem.W.nsIn K mainGlobals "_law_every" = some (some (.ref f13))) (l13 : K.lookup f13 = some ⟨oc13, od13, .func (PySem.W.fnOf "_law_every" "_law_every" (defArgs s_Levery) (defBody s_Levery) (defScope s_Levery) .none kV13 dc13 pm13 an13 cd13 ct13), sl13⟩) (c13 : PySem.W.codeIn K cd13 "_law_every" = true) (k13 : PySem.W.keepIn K (.ref f13) = true)
    (a14 : PySem.W.nsIn K mainGlobals "law" = some (some (.ref f14))) (l14 : K.lookup f14 = some ⟨oc14, od14, .func (PySem.W.fnOf "law" "law" (defArgs s_law) (defBody s_law) (defScope s_law) .none kV14 dc14 pm14 an14 cd14 ct14), sl14⟩) (c14 : PySem.W.codeIn K cd14 "law" = true) (k14 : PySem.W.keepIn K (.ref f14) = true)
    (z0 : PySem.W.nsIn K mainGlobals "all" = some none)
    (z1 : PySem.W.nsIn K mainGlobals "bool" = some none)
    (z2 : PySem.W.nsIn K mainGlobals "int" = some none)
    (z3 : PySem.W.nsIn K mainGlobals "isinstance" = some none)
    (z4 : PySem.W.nsIn K mainGlobals "len" = some none)
    (z5 : PySem.W.nsIn K mainGlobals "max" = some none)
    (z6 : PySem.W.nsIn K mainGlobals "min" = some none)
    (z7 : PySem.W.nsIn K mainGlobals "range" = some none)
    (z8 : PySem.W.nsIn K mainGlobals "sorted" = some none)
    (z9 : PySem.W.nsIn K mainGlobals "str" = some none)
    (z10 : PySem.W.nsIn K mainGlobals "sum" = some none)
    (z11 : PySem.W.nsIn K mainGlobals "tuple" = some none)
    (q_TreeError : PySem.W.nsIn K mainGlobals "TreeError" = some (some (.ref cTreeError)))
    (q_NoRow : PySem.W.nsIn K mainGlobals "NoRow" = some (some (.ref cNoRow)))
    (q_NoPoint : PySem.W.nsIn K mainGlobals "NoPoint" = some (some (.ref cNoPoint)))
    (q_Ring : PySem.W.nsIn K mainGlobals "Ring" = some (some (.ref cRing)))
    (q_NoTie : PySem.W.nsIn K mainGlobals "NoTie" = some (some (.ref cNoTie)))
    (q_Apart : PySem.W.nsIn K mainGlobals "Apart" = some (some (.ref cApart)))
    (q_NoPlace : PySem.W.nsIn K mainGlobals "NoPlace" = some (some (.ref cNoPlace)))
    (q_NoDeed : PySem.W.nsIn K mainGlobals "NoDeed" = some (some (.ref cNoDeed)))
    (q_NoForest : PySem.W.nsIn K mainGlobals "NoForest" = some (some (.ref cNoForest)))
    (q_NoLine : PySem.W.nsIn K mainGlobals "NoLine" = some (some (.ref cNoLine)))
    (q_NoText : PySem.W.nsIn K mainGlobals "NoText" = some (some (.ref cNoText)))
    (h_NoRow : PySem.W.keepIn K (.ref cNoRow) = true)
    (j_NoRow : xcB K cNoRow = true)
    (e_NoRow : PySem.W.excIn K cNoRow veB "ValueError.__new__" = true)
    (h_NoPoint : PySem.W.keepIn K (.ref cNoPoint) = true)
    (j_NoPoint : xcB K cNoPoint = true)
    (e_NoPoint : PySem.W.excIn K cNoPoint veB "ValueError.__new__" = true)
    (h_Ring : PySem.W.keepIn K (.ref cRing) = true)
    (j_Ring : xcB K cRing = true)
    (e_Ring : PySem.W.excIn K cRing veB "ValueError.__new__" = true)
    (h_NoTie : PySem.W.keepIn K (.ref cNoTie) = true)
    (j_NoTie : xcB K cNoTie = true)
    (e_NoTie : PySem.W.excIn K cNoTie veB "ValueError.__new__" = true)
    (h_Apart : PySem.W.keepIn K (.ref cApart) = true)
    (j_Apart : xcB K cApart = true)
    (e_Apart : PySem.W.excIn K cApart veB "ValueError.__new__" = true)
    (h_NoPlace : PySem.W.keepIn K (.ref cNoPlace) = true)
    (j_NoPlace : xcB K cNoPlace = true)
    (e_NoPlace : PySem.W.excIn K cNoPlace veB "ValueError.__new__" = true)
    (h_NoDeed : PySem.W.keepIn K (.ref cNoDeed) = true)
    (j_NoDeed : xcB K cNoDeed = true)
    (e_NoDeed : PySem.W.excIn K cNoDeed veB "ValueError.__new__" = true)
    (h_NoForest : PySem.W.keepIn K (.ref cNoForest) = true)
    (j_NoForest : xcB K cNoForest = true)
    (e_NoForest : PySem.W.excIn K cNoForest veB "ValueError.__new__" = true)
    (h_NoLine : PySem.W.keepIn K (.ref cNoLine) = true)
    (j_NoLine : xcB K cNoLine = true)
    (e_NoLine : PySem.W.excIn K cNoLine veB "ValueError.__new__" = true)
    (h_NoText : PySem.W.keepIn K (.ref cNoText) = true)
    (j_NoText : xcB K cNoText = true)
    (hkits : kitsB K cTreeError [cNoRow, cNoPoint, cRing, cNoTie, cApart, cNoPlace, cNoDeed, cNoForest, cNoLine, cNoText] = true)
    (lNT : K.lookup cNoText = some (excClassObj nmT qT cNoText NT bsT bmT true snT subT abT colT ddT k0T k1T k2T k3T k5T "ValueError.__new__"))
    (rNT : PySem.HandSPX.refsVE bmT = true)
    (saNT : PySem.W.findIn K (.ref cNoText) "__setattr__" = some (some (.builtin "object.__setattr__")))
    (exNT : PySem.W.subIn K (.ref cNoText) (.type "BaseException") = some true)
    (tyNT : PySem.W.typeIn K (.ref cNoText) = some (.type "type"))
    (xfNT : xfB K cNoText = true)
    (lnNT : PySem.W.findIn K (.ref cNoText) "line" = some none)
    (iNT : PySem.W.findIn K (.ref cNoText) "__init__" = some (some (.ref fI)))
    (tNT : PySem.W.typeIn K (.ref fI) = some (.type "function"))
    (lI : K.lookup fI = some ⟨ocI, odI, .func (PySem.W.fnOf "__init__" "NoText.__init__" (defArgs s_NoText_init) (defBody s_NoText_init) (defScope s_NoText_init) .none kVI dcI pmI anI cdI ctI), slI⟩)
    (cI : PySem.W.codeIn K cdI "NoText.__init__" = true)
    (kI : PySem.W.keepIn K (.ref fI) = true)
    (qD : PySem.W.nsIn K mainGlobals "DEED_WORDS" = some (some (.ref fD)))
    (hD : tupB K fD dws = true)
    : ∃ fd : FuncData, (∀ (s : Shared) (v : Value), BindsTo s fd ⟨[v], []⟩ [("_law_script", v)]) ∧ ∀ base : Heap, K.In base → base.Ns mainGlobals mg → FnOk l.prog w K mg base CX0 5 fa fd ["_law_script"] (spLaw K) := by
  have e := hfa.symm.trans (PySem.W.mg_of X G a14)
  cases e
  have F0 := fun_mk (st := s_isdeed) l0 c0 k0
  have b0 := F0.binds (ps := ["row"]) fun _ _ _ _ _ _ us hl => match us, hl with | [_], _ => rfl
  have F1 := fun_mk (st := s_plainword) l1 c1 k1
  have b1 := F1.binds (ps := ["error"]) fun _ _ _ _ _ _ us hl => match us, hl with | [_], _ => rfl
  have F2 := fun_mk (st := s_Lmixed) l2 c2 k2
  have b2 := F2.binds (ps := ["_law_cell", "_law_many"]) fun _ _ _ _ _ _ us hl => match us, hl with | [_, _], _ => rfl
  have F3 := fun_mk (st := s_Lbox) l3 c3 k3
  have b3 := F3.binds (ps := ["_law_script"]) fun _ _ _ _ _ _ us hl => match us, hl with | [_], _ => rfl
  have F4 := fun_mk (st := s_Lnext) l4 c4 k4
  have b4 := F4.binds (ps := ["_law_box_here"]) fun _ _ _ _ _ _ us hl => match us, hl with | [_], _ => rfl
  have F5 := fun_mk (st := s_Lfew) l5 c5 k5
  have b5 := F5.binds (ps := ["_law_box_here", "_law_few_here", "_law_most"]) fun _ _ _ _ _ _ us hl => match us, hl with | [_, _, _], _ => rfl
  have F6 := fun_mk (st := s_Lworth) l6 c6 k6
  have b6 := F6.binds (ps := ["_law_box_here"]) fun _ _ _ _ _ _ us hl => match us, hl with | [_], _ => rfl
  have F7 := fun_mk (st := s_Lpoint) l7 c7 k7
  have b7 := F7.binds (ps := ["_law_box_here"]) fun _ _ _ _ _ _ us hl => match us, hl with | [_], _ => rfl
  have F8 := fun_mk (st := s_Lforest) l8 c8 k8
  have b8 := F8.binds (ps := ["_law_box_here", "_law_few_here", "_law_most"]) fun _ _ _ _ _ _ us hl => match us, hl with | [_, _, _], _ => rfl
  have F9 := fun_mk (st := s_Lspot) l9 c9 k9
  have b9 := F9.binds (ps := ["_law_box_here", "_law_many"]) fun _ _ _ _ _ _ us hl => match us, hl with | [_, _], _ => rfl
  have F10 := fun_mk (st := s_Lpair) l10 c10 k10
  have b10 := F10.binds (ps := ["_law_box_here", "_law_forest_here", "_law_whole"]) fun _ _ _ _ _ _ us hl => match us, hl with | [_, _, _], _ => rfl
  have F11 := fun_mk (st := s_Lrow) l11 c11 k11
  have b11 := F11.binds (ps := ["_law_box_here", "_law_forest_here", "_law_words"]) fun _ _ _ _ _ _ us hl => match us, hl with | [_, _, _], _ => rfl
  have F12 := fun_mk (st := s_Lsame) l12 c12 k12
  have b12 := F12.binds (ps := ["_law_found", "_law_due"]) fun _ _ _ _ _ _ us hl => match us, hl with | [_, _], _ => rfl
  have F13 := fun_mk (st := s_Levery) l13 c13 k13
  have b13 := F13.binds (ps := []) fun _ _ _ _ _ _ us hl => match us, hl with | [], _ => rfl
  have F14 := fun_mk (st := s_law) l14 c14 k14
  have b14 := F14.binds (ps := ["_law_script"]) fun _ _ _ _ _ _ us hl => match us, hl with | [_], _ => rfl
  let T : Top K mg := ⟨_, _, F0, b0, PySem.W.mg_of X G a0, _, _, F1, b1, PySem.W.mg_of X G a1, _, _, F2, b2, PySem.W.mg_of X G a2, _, _, F3, b3, PySem.W.mg_of X G a3, _, _, F4, b4, PySem.W.mg_of X G a4, _, _, F5, b5, PySem.W.mg_of X G a5, _, _, F6, b6, PySem.W.mg_of X G a6, _, _, F7, b7, PySem.W.mg_of X G a7, _, _, F8, b8, PySem.W.mg_of X G a8, _, _, F9, b9, PySem.W.mg_of X G a9, _, _, F10, b10, PySem.W.mg_of X G a10, _, _, F11, b11, PySem.W.mg_of X G a11, _, _, F12, b12, PySem.W.mg_of X G a12, _, _, F13, b13, PySem.W.mg_of X G a13, _, _, F14, b14, PySem.W.mg_of X G a14, PySem.W.mg_none_of X G z0, PySem.W.mg_none_of X G z1, PySem.W.mg_none_of X G z2, PySem.W.mg_none_of X G z3, PySem.W.mg_none_of X G z4, PySem.W.mg_none_of X G z5, PySem.W.mg_none_of X G z6, PySem.W.mg_none_of X G z7, PySem.W.mg_none_of X G z8, PySem.W.mg_none_of X G z9, PySem.W.mg_none_of X G z10, PySem.W.mg_none_of X G z11, _, _, _, _, _, _, _, _, _, _, _, PySem.W.mg_of X G q_TreeError, PySem.W.mg_of X G q_NoRow, PySem.W.mg_of X G q_NoPoint, PySem.W.mg_of X G q_Ring, PySem.W.mg_of X G q_NoTie, PySem.W.mg_of X G q_Apart, PySem.W.mg_of X G q_NoPlace, PySem.W.mg_of X G q_NoDeed, PySem.W.mg_of X G q_NoForest, PySem.W.mg_of X G q_NoLine, PySem.W.mg_of X G q_NoText, h_NoRow, xcB_ok j_NoRow, e_NoRow, h_NoPoint, xcB_ok j_NoPoint, e_NoPoint, h_Ring, xcB_ok j_Ring, e_Ring, h_NoTie, xcB_ok j_NoTie, e_NoTie, h_Apart, xcB_ok j_Apart, e_Apart, h_NoPlace, xcB_ok j_NoPlace, e_NoPlace, h_NoDeed, xcB_ok j_NoDeed, e_NoDeed, h_NoForest, xcB_ok j_NoForest, e_NoForest, h_NoLine, xcB_ok j_NoLine, e_NoLine, h_NoText, xcB_ok j_NoText, hkits, ⟨⟨_, _, _, _, _, _, _, _, _, _, _, _, _, _, _, lNT, rNT⟩, saNT, exNT, tyNT, h_NoText⟩, xfB_ok xfNT, lnNT, _, _, fun_mk (st := s_NoText_init) lI cI kI, (fun_mk (st := s_NoText_init) lI cI kI).binds (ps := ["self", "line"]) fun _ _ _ _ _ _ us hl => match us, hl with | [_, _], _ => rfl, iNT, tNT, _, PySem.W.mg_of X G qD, hD⟩
  exact ⟨_, fun s v => .of_eq rfl, fun base _ _ => ok_law (P := l.prog) (w := w) (base := base) T⟩
end My
open PySem PySem.W PyProof.Rows
set_option maxRecDepth 100000 in
set_option maxHeartbeats 0 in
theorem PySem.Challenge.cw_tiedcut_k12_deeds_and_words_of_refusals_holds : PySem.Challenge.rw_tiedcut_k12_deeds_and_words_of_refusals.Holds := by
  w_on; o_law; k_head; (case hw => w_witness2)
  k_fill
  refine L2.walk_ofB (l := PySem.Challenge.rw_tiedcut_k12_deeds_and_words_of_refusals) (n := 63) (k := 5) (x := "_law_script") (CX := fun _ => L2.CX0) (sp := fun w => My.spLaw _) rfl (by decide) rfl ⟨rfl, by decide, by decide⟩ (fun w h Y => PySem.W.kIn_of Y) ?F (fun _ _ a ns hl hb _ hS => ⟨a, ns, rfl, hS, hl, hb, fun _ => rfl⟩) (fun _ _ _ _ _ h => h)
  case F =>
    intro w mg fa h KX G hmg
    refine' My.all_mk KX G hmg ?a0 ?l0 ?c0 ?k0 ?a1 ?l1 ?c1 ?k1 ?a2 ?l2 ?c2 ?k2 ?a3 ?l3 ?c3 ?k3 ?a4 ?l4 ?c4 ?k4 ?a5 ?l5 ?c5 ?k5 ?a6 ?l6 ?c6 ?k6 ?a7 ?l7 ?c7 ?k7 ?a8 ?l8 ?c8 ?k8 ?a9 ?l9 ?c9 ?k9 ?a10 ?l10 ?c10 ?k10 ?a11 ?l11 ?c11 ?k11 ?a12 ?l12 ?c12 ?k12 ?a13 ?l13 ?c13 ?k13 ?a14 ?l14 ?c14 ?k14 ?z0 ?z1 ?z2 ?z3 ?z4 ?z5 ?z6 ?z7 ?z8 ?z9 ?z10 ?z11 ?q_TreeError ?q_NoRow ?q_NoPoint ?q_Ring ?q_NoTie ?q_Apart ?q_NoPlace ?q_NoDeed ?q_NoForest ?q_NoLine ?q_NoText ?h_NoRow ?j_NoRow ?e_NoRow ?h_NoPoint ?j_NoPoint ?e_NoPoint ?h_Ring ?j_Ring ?e_Ring ?h_NoTie ?j_NoTie ?e_NoTie ?h_Apart ?j_Apart ?e_Apart ?h_NoPlace ?j_NoPlace ?e_NoPlace ?h_NoDeed ?j_NoDeed ?e_NoDeed ?h_NoForest ?j_NoForest ?e_NoForest ?h_NoLine ?j_NoLine ?e_NoLine ?h_NoText ?j_NoText ?hkits ?lNT ?rNT ?saNT ?exNT ?tyNT ?xfNT ?lnNT ?iNT ?tNT ?lI ?cI ?kI ?qD ?hD
    (case a0 => k_is)
    (case l0 => k_is)
    (case c0 => k_is)
    (case k0 => k_is)
    (case a1 => k_is)
    (case l1 => k_is)
    (case c1 => k_is)
    (case k1 => k_is)
    (case a2 => k_is)
    (case l2 => k_is)
    (case c2 => k_is)
    (case k2 => k_is)
    (case a3 => k_is)
    (case l3 => k_is)
    (case c3 => k_is)
    (case k3 => k_is)
    (case a4 => k_is)
    (case l4 => k_is)
    (case c4 => k_is)
    (case k4 => k_is)
    (case a5 => k_is)
    (case l5 => k_is)
    (case c5 => k_is)
    (case k5 => k_is)
    (case a6 => k_is)
    (case l6 => k_is)
    (case c6 => k_is)
    (case k6 => k_is)
    (case a7 => k_is)
    (case l7 => k_is)
    (case c7 => k_is)
    (case k7 => k_is)
    (case a8 => k_is)
    (case l8 => k_is)
    (case c8 => k_is)
    (case k8 => k_is)
    (case a9 => k_is)
    (case l9 => k_is)
    (case c9 => k_is)
    (case k9 => k_is)
    (case a10 => k_is)
    (case l10 => k_is)
    (case c10 => k_is)
    (case k10 => k_is)
    (case a11 => k_is)
    (case l11 => k_is)
    (case c11 => k_is)
    (case k11 => k_is)
    (case a12 => k_is)
    (case l12 => k_is)
    (case c12 => k_is)
    (case k12 => k_is)
    (case a13 => k_is)
    (case l13 => k_is)
    (case c13 => k_is)
    (case k13 => k_is)
    (case a14 => k_is)
    (case l14 => k_is)
    (case c14 => k_is)
    (case k14 => k_is)
    (case z0 => k_is)
    (case z1 => k_is)
    (case z2 => k_is)
    (case z3 => k_is)
    (case z4 => k_is)
    (case z5 => k_is)
    (case z6 => k_is)
    (case z7 => k_is)
    (case z8 => k_is)
    (case z9 => k_is)
    (case z10 => k_is)
    (case z11 => k_is)
    (case q_TreeError => k_is)
    (case q_NoRow => k_is)
    (case q_NoPoint => k_is)
    (case q_Ring => k_is)
    (case q_NoTie => k_is)
    (case q_Apart => k_is)
    (case q_NoPlace => k_is)
    (case q_NoDeed => k_is)
    (case q_NoForest => k_is)
    (case q_NoLine => k_is)
    (case q_NoText => k_is)
    (case h_NoRow => k_is)
    (case j_NoRow => kernel_rfl)
    (case e_NoRow => kernel_rfl)
    (case h_NoPoint => k_is)
    (case j_NoPoint => kernel_rfl)
    (case e_NoPoint => kernel_rfl)
    (case h_Ring => k_is)
    (case j_Ring => kernel_rfl)
    (case e_Ring => kernel_rfl)
    (case h_NoTie => k_is)
    (case j_NoTie => kernel_rfl)
    (case e_NoTie => kernel_rfl)
    (case h_Apart => k_is)
    (case j_Apart => kernel_rfl)
    (case e_Apart => kernel_rfl)
    (case h_NoPlace => k_is)
    (case j_NoPlace => kernel_rfl)
    (case e_NoPlace => kernel_rfl)
    (case h_NoDeed => k_is)
    (case j_NoDeed => kernel_rfl)
    (case e_NoDeed => kernel_rfl)
    (case h_NoForest => k_is)
    (case j_NoForest => kernel_rfl)
    (case e_NoForest => kernel_rfl)
    (case h_NoLine => k_is)
    (case j_NoLine => kernel_rfl)
    (case e_NoLine => kernel_rfl)
    (case h_NoText => k_is)
    (case j_NoText => kernel_rfl)
    (case hkits => kernel_rfl)
    (case lNT => k_is)
    (case rNT => decide +kernel)
    (case saNT => k_is)
    (case exNT => k_is)
    (case tyNT => k_is)
    (case xfNT => kernel_rfl)
    (case lnNT => k_is)
    (case iNT => k_is)
    (case tNT => k_is)
    (case lI => k_is)
    (case cI => k_is)
    (case kI => k_is)
    (case qD => k_is)
    (case hD => kernel_rfl)
