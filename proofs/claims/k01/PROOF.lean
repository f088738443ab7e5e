import PyProof.Rows.All
import Wide.All
import OpenK.AllK
import Wide.FinOn
import HandS.ForMost
import HandS.Wide
import HandS.WideBits
import HandS.IsInst
import HandS.EndBits
import PySem.Challenge.RW_tiedcut_k01_ranks
set_option Elab.async false
set_option linter.all false
set_option maxRecDepth 100000
set_option maxHeartbeats 4000000
namespace My
open PySem L2
/-! ### the text by places -/
def topS (i : Nat) : Stmt := PySem.Challenge.pw_tiedcut_k01_ranks.main.body.getD i (.Pass ⟨0, 0, 0, 0⟩)
abbrev s_rank : Stmt := topS 1
abbrev s_Lbegin : Stmt := topS 3
abbrev s_Lnext : Stmt := topS 4
abbrev s_Ldoublings : Stmt := topS 5
abbrev s_Lnumber : Stmt := topS 6
abbrev s_law : Stmt := topS 7
theorem sc_rank : FnScope ["many"] ["many"] (defScope s_rank) := ⟨rfl, rfl, rfl, by decide +kernel, rfl, by decide +kernel, by decide +kernel⟩
theorem sc_Lbegin : FnScope ["_law_script"] ["_law_script"] (defScope s_Lbegin) := ⟨rfl, rfl, rfl, by decide +kernel, rfl, by decide +kernel, by decide +kernel⟩
theorem sc_Lnext : FnScope ["_law_draws", "_law_many", "_law_cell", "_law_digit"] ["_law_draws", "_law_many"] (defScope s_Lnext) := ⟨rfl, rfl, rfl, by decide +kernel, rfl, by decide +kernel, by decide +kernel⟩
theorem sc_Ldoublings : FnScope ["_law_many", "_law_found", "_law_far"] ["_law_many"] (defScope s_Ldoublings) := ⟨rfl, rfl, rfl, by decide +kernel, rfl, by decide +kernel, by decide +kernel⟩
theorem sc_Lnumber : FnScope ["_law_draws", "_law_far", "_law_k", "_law_some"] ["_law_draws"] (defScope s_Lnumber) := ⟨rfl, rfl, rfl, by decide +kernel, rfl, by decide +kernel, by decide +kernel⟩
theorem sc_law : FnScope ["_law_script", "_law_draws", "_law_k", "_law_many", "_law_due", "_law_turn", "_law_found"] ["_law_script"] (defScope s_law) := ⟨rfl, rfl, rfl, by decide +kernel, rfl, by decide +kernel, by decide +kernel⟩
/-- what the top has left -/
structure Top (K : PySem.W.Frag) (mg : Str → Option Value) where
  a_rank : Addr
  d_rank : FuncData
  F_rank : Fun K "rank" "rank" s_rank a_rank d_rank
  b_rank : Binds K d_rank ["many"] []
  g_rank : mg "rank" = some (.ref a_rank)
  a_Lbegin : Addr
  d_Lbegin : FuncData
  F_Lbegin : Fun K "_law_begin" "_law_begin" s_Lbegin a_Lbegin d_Lbegin
  b_Lbegin : Binds K d_Lbegin ["_law_script"] []
  g_Lbegin : mg "_law_begin" = some (.ref a_Lbegin)
  a_Lnext : Addr
  d_Lnext : FuncData
  F_Lnext : Fun K "_law_next" "_law_next" s_Lnext a_Lnext d_Lnext
  b_Lnext : Binds K d_Lnext ["_law_draws", "_law_many"] []
  g_Lnext : mg "_law_next" = some (.ref a_Lnext)
  a_Ldoublings : Addr
  d_Ldoublings : FuncData
  F_Ldoublings : Fun K "_law_doublings" "_law_doublings" s_Ldoublings a_Ldoublings d_Ldoublings
  b_Ldoublings : Binds K d_Ldoublings ["_law_many"] []
  g_Ldoublings : mg "_law_doublings" = some (.ref a_Ldoublings)
  a_Lnumber : Addr
  d_Lnumber : FuncData
  F_Lnumber : Fun K "_law_number" "_law_number" s_Lnumber a_Lnumber d_Lnumber
  b_Lnumber : Binds K d_Lnumber ["_law_draws"] []
  g_Lnumber : mg "_law_number" = some (.ref a_Lnumber)
  a_law : Addr
  d_law : FuncData
  F_law : Fun K "law" "law" s_law a_law d_law
  b_law : Binds K d_law ["_law_script"] []
  g_law : mg "law" = some (.ref a_law)
  m_bool : mg "bool" = none
  m_int : mg "int" = none
  m_isinstance : mg "isinstance" = none
  m_len : mg "len" = none
  m_list : mg "list" = none
  m_max : mg "max" = none
  m_range : mg "range" = none
/-! ### a mid-condition behind a statement -/
def sMid (t : TS) : TS := fun D σ H => ∃ M : L2.St → Hp → Prop, t { D with nx := M } σ H ∧ ∀ σ' H', M σ' H' → D.nx σ' H'
theorem ps_mid {X : Cx} {st : Stmt} {t : TS} (h : PS X st t) : PS X st (sMid t) := by
  refine ⟨fun pins s σ H D I z => ?_⟩
  obtain ⟨M, q, k⟩ := z
  refine thn (h.run pins s σ H { D with nx := M } I q) fun f s1 y => ?_
  cases f with
  | next =>
    obtain ⟨σ', H', I', y⟩ := y
    exact ⟨σ', H', I', k _ _ y⟩
  | ret v => exact y
  | brk => exact y
  | cont => exact y
/-! ### the draws -/
def kv (c : Addr) (a l s : Int) : List (Key × V) := [(Sum.inr "cells", .ref c), (Sum.inr "at", .int a), (Sum.inr "left", .int l), (Sum.inr "seed", .int s)]
theorem m1 : ¬ (("cells" : Str) = "at") := by decide +kernel
theorem n1 : ¬ ((Sum.inr ("cells" : Str) : Key) = Sum.inr ("at" : Str)) := fun e => m1 (Sum.inr.inj e)
theorem m2 : ¬ (("cells" : Str) = "left") := by decide +kernel
theorem n2 : ¬ ((Sum.inr ("cells" : Str) : Key) = Sum.inr ("left" : Str)) := fun e => m2 (Sum.inr.inj e)
theorem m3 : ¬ (("cells" : Str) = "seed") := by decide +kernel
theorem n3 : ¬ ((Sum.inr ("cells" : Str) : Key) = Sum.inr ("seed" : Str)) := fun e => m3 (Sum.inr.inj e)
theorem m4 : ¬ (("at" : Str) = "left") := by decide +kernel
theorem n4 : ¬ ((Sum.inr ("at" : Str) : Key) = Sum.inr ("left" : Str)) := fun e => m4 (Sum.inr.inj e)
theorem m5 : ¬ (("at" : Str) = "seed") := by decide +kernel
theorem n5 : ¬ ((Sum.inr ("at" : Str) : Key) = Sum.inr ("seed" : Str)) := fun e => m5 (Sum.inr.inj e)
theorem m6 : ¬ (("left" : Str) = "seed") := by decide +kernel
theorem n6 : ¬ ((Sum.inr ("left" : Str) : Key) = Sum.inr ("seed" : Str)) := fun e => m6 (Sum.inr.inj e)
theorem m7 : ¬ (("seed" : Str) = "left") := by decide +kernel
theorem n7 : ¬ ((Sum.inr ("seed" : Str) : Key) = Sum.inr ("left" : Str)) := fun e => m7 (Sum.inr.inj e)
theorem m8 : ¬ (("seed" : Str) = "at") := by decide +kernel
theorem n8 : ¬ ((Sum.inr ("seed" : Str) : Key) = Sum.inr ("at" : Str)) := fun e => m8 (Sum.inr.inj e)
theorem m9 : ¬ (("left" : Str) = "at") := by decide +kernel
theorem n9 : ¬ ((Sum.inr ("left" : Str) : Key) = Sum.inr ("at" : Str)) := fun e => m9 (Sum.inr.inj e)
section
variable {H : Hp} {d c : Addr} {a l s : Int}
theorem g_cells (h : H d = some (.dK (kv c a l s))) : DGet H d (.str "cells") (some (.ref c)) := by
  have q := DGet.k (k := (Sum.inr "cells" : Key)) h
  unfold kv at q
  rw [valV_pos rfl] at q
  exact q
theorem g_at (h : H d = some (.dK (kv c a l s))) : DGet H d (.str "at") (some (.int a)) := by
  have q := DGet.k (k := (Sum.inr "at" : Key)) h
  unfold kv at q
  rw [valV_neg n1, valV_pos rfl] at q
  exact q
theorem g_left (h : H d = some (.dK (kv c a l s))) : DGet H d (.str "left") (some (.int l)) := by
  have q := DGet.k (k := (Sum.inr "left" : Key)) h
  unfold kv at q
  rw [valV_neg n2, valV_neg n4, valV_pos rfl] at q
  exact q
theorem g_seed (h : H d = some (.dK (kv c a l s))) : DGet H d (.str "seed") (some (.int s)) := by
  have q := DGet.k (k := (Sum.inr "seed" : Key)) h
  unfold kv at q
  rw [valV_neg n3, valV_neg n5, valV_neg n6, valV_pos rfl] at q
  exact q
theorem small4 : (kv c a l s).length < sizeLine := by
  show 4 < sizeLine
  decide
theorem p_at (h : H d = some (.dK (kv c a l s))) (x : Int) : DPut H d (.str "at") (.int x) (upd H d (.dK (kv c x l s))) := by
  have q := DPut.k (k := (Sum.inr "at" : Key)) (v := .int x) h small4
  have e : putK (kv c a l s) (Sum.inr "at" : Key) (.int x) = kv c x l s := by
    simp [putK, kv, m1, m9, m8]
  rw [e] at q
  exact q
theorem p_left (h : H d = some (.dK (kv c a l s))) (x : Int) : DPut H d (.str "left") (.int x) (upd H d (.dK (kv c a x s))) := by
  have q := DPut.k (k := (Sum.inr "left" : Key)) (v := .int x) h small4
  have e : putK (kv c a l s) (Sum.inr "left" : Key) (.int x) = kv c a x s := by
    simp [putK, kv, m2, m4, m7]
  rw [e] at q
  exact q
theorem p_seed (h : H d = some (.dK (kv c a l s))) (x : Int) : DPut H d (.str "seed") (.int x) (upd H d (.dK (kv c a l x))) := by
  have q := DPut.k (k := (Sum.inr "seed" : Key)) (v := .int x) h small4
  have e : putK (kv c a l s) (Sum.inr "seed" : Key) (.int x) = kv c a l x := by
    simp [putK, kv, m3, m5, m6]
  rw [e] at q
  exact q
end
theorem upd_upd {H : Hp} {d : Addr} {o o' : HO} : upd (upd H d o) d o' = upd H d o' := by
  funext b
  by_cases e : b = d
  · subst e
    rw [upd_same, upd_same]
  · rw [upd_ne e, upd_ne e, upd_ne e]
theorem same_new {H : Hp} {p : Addr} {o : HO} (h : H p = none) : Same H (upd H p o) := fun b u q => by rw [upd_ne (ne_of_none q h)]; exact q
/-- the store of draws stands at d, its cells at c -/
structure Draw (H : Hp) (d c : Addr) (ns : List Int) : Prop where
  dc : ∃ a l s : Int, H d = some (.dK (kv c a l s)) ∧ 0 ≤ a ∧ 0 ≤ l ∧ 0 ≤ s ∧ s < 2305843009213693951
  cs : H c = some (.lst (ns.map V.int))
/-- all but d as it was -/
def But (d : Addr) (H H' : Hp) : Prop := ∀ b o, H b = some o → b ≠ d → H' b = some o
theorem But.refl {d : Addr} {H : Hp} : But d H H := fun _ _ e _ => e
theorem But.trans {d : Addr} {H H1 H2 : Hp} (x : But d H H1) (y : But d H1 H2) : But d H H2 := fun b o e n => y b o (x b o e n) n
theorem But.put {d : Addr} {H H1 : Hp} {o : HO} (x : But d H H1) : But d H (upd H1 d o) := fun b u e n => by
  rw [upd_ne n]
  exact x b u e n
theorem But.new {d p : Addr} {H H1 : Hp} {o : HO} (x : But d H H1) (n : H1 p = none) : But d H (upd H1 p o) := fun b u e nb => by
  have q := x b u e nb
  rw [upd_ne (ne_of_none q n)]
  exact q
theorem at_map {ns : List Int} {k : Int} (h0 : 0 ≤ k) (h : k < (ns.length : Int)) : ∃ v : Int, atI (ns.map V.int) k = some (.int v) := by
  have hk : k.toNat < ns.length := by omega
  have ek : k = ((k.toNat : Nat) : Int) := by omega
  have q : atI (ns.map V.int) ((k.toNat : Nat) : Int) = some (.int ns[k.toNat]) := atI_nat (by rw [List.getElem?_map, List.getElem?_eq_getElem hk] <;> rfl)
  rw [← ek] at q
  exact ⟨_, q⟩
def spBegin (K : PySem.W.Frag) : Sp := fun vs H Q _ => ∃ (a : Addr) (ns : List Int), vs = [.ref a] ∧ SqL K H a (ns.map V.int) ∧ ∀ (d c : Addr) (ms : List Int) (H' : Hp), Same H H' → H d = none → Draw H' d c ms → Q (.ref d) H'
def spNext : Sp := fun vs H Q _ => ∃ (d c : Addr) (ns : List Int) (many : Int), vs = [.ref d, .int many] ∧ Draw H d c ns ∧ 0 < many ∧ many < 2 ^ 100 ∧
  ∀ (x : Int) (H' : Hp), 0 ≤ x → x < many → Draw H' d c ns → But d H H' → Q (.int x) H'
def spNumber : Sp := fun vs H Q _ => ∃ (d c : Addr) (ns : List Int), vs = [.ref d] ∧ Draw H d c ns ∧
  ∀ (x : Int) (H' : Hp), 1 ≤ x → x < 2 ^ 100 → Draw H' d c ns → But d H H' → Q (.int x) H'
/-- x is between 2^k and twice that -/
def RankIs (x k : Int) : Prop := 0 ≤ k ∧ 2 ^ k.toNat ≤ x ∧ x < 2 ^ (k.toNat + 1)
def spDoublings : Sp := fun vs H Q _ => ∃ (x : Int), vs = [.int x] ∧ 1 ≤ x ∧ ∀ k H', RankIs x k → Same H H' → Q (.int k) H'
def spRank : Sp := fun vs H Q _ => ∃ (x : Int), vs = [.int x] ∧ 1 ≤ x ∧ ∀ k, RankIs x k → Q (.int k) H
def spLaw (K : PySem.W.Frag) : Sp := fun vs H Q _ => ∃ (a : Addr) (ns : List Int), vs = [.ref a] ∧ SqL K H a (ns.map V.int) ∧ ns.length ≤ 63 ∧ (∀ z ∈ ns, Builtin.Int.intBits z ≤ 1048576) ∧ ∀ H', Q (.bl true) H'
/-! ### the mathematics of ranks -/
theorem rank_unique {x k j : Int} (h : RankIs x k) (g : RankIs x j) : k = j := by
  obtain ⟨h0, h1, h2⟩ := h
  obtain ⟨g0, g1, g2⟩ := g
  rcases Nat.lt_trichotomy k.toNat j.toNat with e | e | e
  · have q : (2 : Int) ^ (k.toNat + 1) ≤ 2 ^ j.toNat := by
      have z := Nat.pow_le_pow_right (n := 2) (by decide) (show k.toNat + 1 ≤ j.toNat by omega)
      exact_mod_cast z
    omega
  · omega
  · have q : (2 : Int) ^ (j.toNat + 1) ≤ 2 ^ k.toNat := by
      have z := Nat.pow_le_pow_right (n := 2) (by decide) (show j.toNat + 1 ≤ k.toNat by omega)
      exact_mod_cast z
    omega
theorem rank_bits {x : Int} (h : 1 ≤ x) : RankIs x ((Builtin.Int.intBits x : Nat) - 1) := by
  have e : Builtin.Int.intBits x = x.natAbs.log2 + 1 := by
    unfold Builtin.Int.intBits
    rw [if_neg]
    simp
    omega
  have hx : x.natAbs ≠ 0 := by omega
  have a := Nat.log2_self_le hx
  have b := Nat.lt_log2_self (n := x.natAbs)
  rw [e]
  refine ⟨by omega, ?_, ?_⟩
  · have ez : (((x.natAbs.log2 + 1 : Nat) : Int) - 1).toNat = x.natAbs.log2 := by omega
    rw [ez]
    have z : ((2 ^ x.natAbs.log2 : Nat) : Int) ≤ (x.natAbs : Int) := by exact_mod_cast a
    rw [Int.natCast_pow] at z
    have e2 : (x.natAbs : Int) = x := by omega
    rw [e2] at z
    exact z
  · have ez : (((x.natAbs.log2 + 1 : Nat) : Int) - 1).toNat = x.natAbs.log2 := by omega
    rw [ez]
    have z : (x.natAbs : Int) < ((2 ^ (x.natAbs.log2 + 1) : Nat) : Int) := by exact_mod_cast b
    rw [Int.natCast_pow] at z
    have e2 : (x.natAbs : Int) = x := by omega
    rw [e2] at z
    exact z
theorem rank_two {x k : Int} (h : RankIs x k) : RankIs (2 * x) (k + 1) ∧ RankIs (2 * x + 1) (k + 1) := by
  obtain ⟨h0, h1, h2⟩ := h
  have e : (k + 1).toNat = k.toNat + 1 := by omega
  have p1 : (2 : Int) ^ (k.toNat + 1) = 2 ^ k.toNat * 2 := Int.pow_succ ..
  have p2 : (2 : Int) ^ (k.toNat + 1 + 1) = 2 ^ (k.toNat + 1) * 2 := Int.pow_succ ..
  refine ⟨⟨by omega, ?_, ?_⟩, ⟨by omega, ?_, ?_⟩⟩
  all_goals rw [e]; omega
section
variable {P : Program} {w : World} {K : PySem.W.Frag} {mg : Str → Option Value} {base : Heap}
theorem ok_rank (T : Top K mg) : FnOk P w K mg base CX0 1 T.a_rank T.d_rank ["many"] spRank := by
  refine T.F_rank.ok sc_rank (fun vs H Q E h => ?_) (fun cdv A outer s H vs Q E hr h => ?_)
  · obtain ⟨x, rfl, _⟩ := h
    rfl
  · obtain ⟨x, rfl, hx, q⟩ := h
    refine ⟨_, (pss_one (ps_ret (pe_op op_sub (pe_bits (pv 0)) pe_int))), ?_⟩
    exact ⟨_, rfl, _, rfl, _, _, rfl, rfl, q _ (rank_bits hx)⟩
theorem cut63 (ns : List Int) : ∃ ms : List Int, cutV (ns.map V.int) none (some 63) = ms.map V.int := by
  refine ⟨ns.take (HT.sIx ns.length ns.length (some 63)), ?_⟩
  unfold cutV
  rw [HT.sIx_none, List.drop_zero, Nat.sub_zero, List.length_map, List.map_take]
theorem ok_begin (T : Top K mg) : FnOk P w K mg base CX0 1 T.a_Lbegin T.d_Lbegin ["_law_script"] (spBegin K) := by
  refine T.F_Lbegin.ok sc_Lbegin (fun vs H Q E h => ?_) (fun cdv A outer s H vs Q E hr h => ?_)
  · obtain ⟨x, ns, rfl, _⟩ := h
    rfl
  · obtain ⟨a, ns, rfl, hS, q⟩ := h
    have hu := hu_of hr
    refine ⟨_, (pss_one (ps_ret (pe_disp (pps_cons pe_str (pe_callTy call_list_of (by rfl) T.m_list (by decide +kernel) (pa_cons (pe_slice sl_list (pv 0) po_none (po_some pe_int)) pa_nil)) (pps_cons pe_str pe_int (pps_cons pe_str pe_int (pps_cons pe_str pe_int pps_nil)))) (by rfl) (by rfl) (fun z => by cases z) (by decide)))), ?_⟩
    intro d nd
    have s1 : Same H (upd H d (.dK [])) := same_new nd
    obtain ⟨ms, em⟩ := cut63 ns
    refine ⟨_, rfl, 63, rfl, a, _, rfl, s1.seq hS, fun p np => ?_⟩
    have s2 := same_new (H := upd H d (.dK [])) (o := .lst (cutV (ns.map V.int) none (some 63))) np
    refine ⟨p, _, rfl, .inl (SqL.of upd_same), fun c nc => ?_⟩
    have s3 := same_new (H := upd (upd H d (.dK [])) p (.lst (cutV (ns.map V.int) none (some 63)))) (o := .lst (cutV (ns.map V.int) none (some 63))) nc
    have hd2 := s3 _ _ (s2 _ _ (upd_same (H := H) (a := d) (o := .dK [])))
    refine ⟨hd2, kv c 0 0 1000003, rfl, (by show 4 ≤ 15; decide), ?_⟩
    have em2 : mergeK [] (kv c 0 0 1000003) = kv c 0 0 1000003 := by
      simp [mergeK, kv, putK, m1, m2, m3, m4, m5, m6]
    rw [em2]
    have ncd : c ≠ d := fun e => by
      subst e
      rw [s2 _ _ (upd_same (H := H) (a := c) (o := .dK []))] at nc
      cases nc
    refine q d c ms _ ?_ nd ⟨⟨0, 0, 1000003, upd_same, by decide, by decide, by decide, by decide⟩, ?_⟩
    · intro b o e
      rw [upd_ne (ne_of_none e nd)]
      exact s3 _ _ (s2 _ _ (s1 _ _ e))
    · rw [upd_ne ncd, upd_same, em]
theorem pow29 : (10 : Int) ^ (29 : Int).toNat = 100000000000000000000000000000 := by decide +kernel
theorem pow30 : (10 : Int) ^ (30 : Int).toNat = 1000000000000000000000000000000 := by decide +kernel
theorem pow18 : (10 : Int) ^ (18 : Int).toNat = 1000000000000000000 := by decide +kernel
theorem wide_ok {i j : Int} (h : 0 < j) (h2 : j < 2 ^ 100) : CDivW i j := wide_div (b := 100) h (by
  have e : ((j.natAbs : Nat) : Int) < ((2 ^ 100 : Nat) : Int) := by
    rw [Int.natCast_pow]
    show (j.natAbs : Int) < 2 ^ 100
    omega
  exact_mod_cast e) (by decide) (by decide)
theorem ok_next (T : Top K mg) : FnOk P w K mg base CX0 1 T.a_Lnext T.d_Lnext ["_law_draws", "_law_many"] spNext := by
  refine T.F_Lnext.ok sc_Lnext (fun vs H Q E h => ?_) (fun cdv A outer s H vs Q E hr h => ?_)
  · obtain ⟨d, c, ns, many, rfl, _⟩ := h
    rfl
  · obtain ⟨d, c, ns, many, rfl, ⟨⟨a, l, sd, hd, ha, hl, hs0, hs1⟩, hc⟩, hm0, hm1, q⟩ := h
    have hu := hu_of hr
    have ndc : c ≠ d := ne_of hc hd (by intro z; cases z)
    refine ⟨_, (pss_cons (ps_mid (ps_if (PW.pt (pw_and (pt_cmpR op_eq (pe_dget hu (pv 0) pe_str (fun _ _ => rfl)) pe_int (nomark _)) (pw_and1 (pt_cmpR op_lt (pe_dget hu (pv 0) pe_str (fun _ _ => rfl)) (pe_callB call_len_seq (by rfl) T.m_len PySem.boot_len (pa_cons (pe_dget hu (pv 0) pe_str (fun _ _ => rfl)) pa_nil)) (nomark _))))) (pss_cons (ps_set (i := 2) sc_Lnext.nd rfl (.inl rfl) (pe_ix ix_list (pe_dget hu (pv 0) pe_str (fun _ _ => rfl)) (pe_dget hu (pv 0) pe_str (fun _ _ => rfl)) (fun _ _ => rfl)))
      (pss_cons (ps_dput hu (pv 0) pe_str (pe_op op_add (pe_dget hu (pv 0) pe_str (fun _ _ => rfl)) pe_int) rfl)
      (pss_cons (ps_dput hu (pv 0) pe_str (pe_op op_mod (pe_op op_add (pe_op op_add (pe_op op_mul (pe_dget hu (pv 0) pe_str (fun _ _ => rfl)) pe_int) (pe_op op_mod (pv 2) (pe_op op_pow pe_int pe_int))) pe_int) pe_int) rfl)
      (pss_one (ps_dput hu (pv 0) pe_str (pe_op op_mul (pv 2) (pe_callTy call_int1 (by rfl) T.m_int (by decide +kernel) (pa_cons (pe_cmpR op_ge (pv 2) (pe_op op_pow pe_int pe_int) (nomark _)) pa_nil))) rfl))))) pss_nil))
      (pss_cons (ps_if (pt_cmpR op_gt (pe_dget hu (pv 0) pe_str (fun _ _ => rfl)) pe_int (nomark _)) (pss_cons (ps_set (i := 3) sc_Lnext.nd rfl (.inl rfl) (pe_op op_mod (pe_dget hu (pv 0) pe_str (fun _ _ => rfl)) (pv 1)))
      (pss_cons (ps_dput hu (pv 0) pe_str (pe_op op_fdivW (pe_dget hu (pv 0) pe_str (fun _ _ => rfl)) (pv 1)) rfl)
      (pss_one (ps_ret (pv 3))))) pss_nil)
      (pss_cons (ps_dput hu (pv 0) pe_str (pe_op op_mod (pe_op op_add (pe_op op_mul (pe_dget hu (pv 0) pe_str (fun _ _ => rfl)) pe_int) pe_int) pe_int) rfl)
      (pss_one (ps_ret (pe_op op_mod (pe_op op_fdivW (pe_op op_mod (pe_op op_mul (pe_dget hu (pv 0) pe_str (fun _ _ => rfl)) (pe_dget hu (pv 0) pe_str (fun _ _ => rfl))) pe_int) pe_int) (pv 1))))))), ?_⟩
    refine ⟨fun σ1 H1 => ∃ (y2 : Option V) (a l sd : Int), σ1 = [some (.ref d), some (.int many), y2, none] ∧ H1 d = some (.dK (kv c a l sd)) ∧ 0 ≤ a ∧ 0 ≤ l ∧ 0 ≤ sd ∧ sd < 2305843009213693951 ∧ H1 c = some (.lst (ns.map V.int)) ∧ But d H H1, ?_, ?_⟩
    · have dflt : ∃ (y2 : Option V) (a l sd : Int), (start ["_law_draws", "_law_many", "_law_cell", "_law_digit"] [V.ref d, V.int many]) = [some (.ref d), some (.int many), y2, none] ∧ H d = some (.dK (kv c a l sd)) ∧ 0 ≤ a ∧ 0 ≤ l ∧ 0 ≤ sd ∧ sd < 2305843009213693951 ∧ H c = some (.lst (ns.map V.int)) ∧ But d H H :=
        ⟨none, a, l, sd, rfl, hd, ha, hl, hs0, hs1, hc, But.refl⟩
      refine ⟨_, rfl, d, _, rfl, g_left hd, rfl, _, rfl, ite2 (fun e1 => ?_) (fun e1 => iteF dflt)⟩
      refine ⟨_, rfl, d, _, rfl, g_at hd, _, rfl, d, _, rfl, g_cells hd, c, _, rfl, .inl (SqL.of hc), _, _, rfl, rfl, _, rfl, ?_⟩
      refine ite2 (fun e2 => ?_) (fun e2 => dflt)
      have e3 : a < ((ns.map V.int).length : Int) := of_decide_eq_true e2
      rw [List.length_map] at e3
      obtain ⟨v, hv⟩ := at_map ha e3
      refine ⟨_, rfl, d, _, rfl, g_cells hd, _, rfl, d, _, rfl, g_at hd, c, _, _, _, rfl, rfl, SqL.of hc, hv, ?_⟩
      refine ⟨_, rfl, d, _, rfl, g_at hd, _, _, rfl, rfl, _, rfl, d, _, rfl, p_at hd _, ?_⟩
      refine ⟨_, rfl, d, _, rfl, g_seed upd_same, _, _, rfl, rfl, .inr ⟨by decide, by decide⟩, _, rfl, _, _, rfl, rfl, ⟨by decide, by decide, by decide⟩, _, _, rfl, rfl, (by show (0 : Int) < 10 ^ (30 : Int).toNat; rw [pow30]; decide), _, _, rfl, rfl, _, _, rfl, rfl, _, _, rfl, rfl, (by show (0 : Int) < 2305843009213693951; decide), _, rfl, d, _, rfl, p_seed upd_same _, ?_⟩
      refine ⟨_, rfl, _, rfl, _, _, rfl, rfl, ⟨by decide, by decide, by decide⟩, _, _, rfl, rfl, .inr ⟨_, rfl, _, _, rfl, rfl, ?_, _, rfl, d, _, rfl, p_left upd_same _, ?_⟩⟩
      · right
        constructor <;> split <;> decide
      · refine ⟨some (.int v), _, _, _, rfl, upd_same, by omega, ?_, Int.emod_nonneg _ (by decide), Int.emod_lt_of_pos _ (by decide), ?_, ((But.refl.put).put).put⟩
        · rw [pow18]
          by_cases z : (1000000000000000000 : Int) ≤ v
          · rw [decide_eq_true z]
            simp
            omega
          · rw [decide_eq_false z]
            simp
        · rw [upd_ne ndc, upd_ne ndc, upd_ne ndc]
          exact hc
    · rintro σ1 H1 ⟨y2, a, l, sd, rfl, hd, ha, hl, hs0, hs1, hc, kp⟩
      refine ⟨_, rfl, d, _, rfl, g_left hd, _, _, rfl, rfl, _, rfl, ite2 (fun e1 => ?_) (fun e1 => ?_)⟩
      · refine ⟨_, rfl, d, _, rfl, g_left hd, _, rfl, _, _, rfl, rfl, hm0, ?_⟩
        refine ⟨_, rfl, d, _, rfl, g_left hd, _, rfl, _, _, rfl, rfl, wide_ok hm0 hm1, _, rfl, d, _, rfl, p_left hd _, _, rfl, ?_⟩
        exact q _ _ (Int.emod_nonneg _ (by omega)) (Int.emod_lt_of_pos _ hm0) ⟨⟨a, _, sd, upd_same, ha, Int.ediv_nonneg hl (by omega), hs0, hs1⟩, by rw [upd_ne ndc]; exact hc⟩ kp.put
      · refine ⟨_, rfl, d, _, rfl, g_seed hd, _, _, rfl, rfl, .inr ⟨by decide, by decide⟩, _, _, rfl, rfl, _, _, rfl, rfl, (by show (0 : Int) < 2305843009213693951; decide), _, rfl, d, _, rfl, p_seed hd _, ?_⟩
        refine ⟨_, rfl, d, _, rfl, g_seed upd_same, _, rfl, d, _, rfl, g_seed upd_same, _, _, rfl, rfl, .inl ?_, _, _, rfl, rfl, (by show (0 : Int) < 2305843009213693921; decide), _, _, rfl, rfl, ?_, _, rfl, _, _, rfl, rfl, hm0, ?_⟩
        · have z1 := Int.emod_nonneg (sd * 1181783497276652981 + 12345678910987) (show (2305843009213693951 : Int) ≠ 0 by decide)
          have z2 := Int.emod_lt_of_pos (sd * 1181783497276652981 + 12345678910987) (show (0 : Int) < 2305843009213693951 by decide)
          constructor <;> omega
        · exact wide_ok (by decide) (by decide)
        · exact q _ _ (Int.emod_nonneg _ (by omega)) (Int.emod_lt_of_pos _ hm0) ⟨⟨a, l, _, upd_same, ha, hl, Int.emod_nonneg _ (by decide), Int.emod_lt_of_pos _ (by decide)⟩, by rw [upd_ne ndc]; exact hc⟩ kp.put
theorem Draw.new {H : Hp} {d c p : Addr} {ns : List Int} {o : HO} (D : Draw H d c ns) (n : H p = none) : Draw (upd H p o) d c ns := by
  obtain ⟨⟨a, l, s, hd, r⟩, hc⟩ := D
  refine ⟨⟨a, l, s, ?_, r⟩, ?_⟩
  · rw [upd_ne (ne_of_none hd n)]
    exact hd
  · rw [upd_ne (ne_of_none hc n)]
    exact hc
theorem Draw.same {H H' : Hp} {d c : Addr} {ns : List Int} (D : Draw H d c ns) (e : Same H H') : Draw H' d c ns := by
  obtain ⟨⟨a, l, s, hd, r⟩, hc⟩ := D
  exact ⟨⟨a, l, s, e _ _ hd, r⟩, e _ _ hc⟩
theorem ok_doublings (T : Top K mg) : FnOk P w K mg base CX0 1 T.a_Ldoublings T.d_Ldoublings ["_law_many"] spDoublings := by
  refine T.F_Ldoublings.ok sc_Ldoublings (fun vs H Q E h => ?_) (fun cdv A outer s H vs Q E hr h => ?_)
  · obtain ⟨x, rfl, _⟩ := h
    rfl
  · obtain ⟨x, rfl, hx, q⟩ := h
    refine ⟨_, (pss_cons (ps_asg (pe_tup (pa_cons pe_int (pa_cons pe_int pa_nil))) (pg_tup rfl (pgs_cons (pg_name (i := 1) sc_Ldoublings.nd rfl (.inl rfl)) (pgs_cons (pg_name (i := 2) sc_Ldoublings.nd rfl (.inl rfl)) pgs_nil))))
      (pss_cons (ps_while PassesOwn.never (pt_cmpR op_le (pv 2) (pv 0) (nomark _)) (pss_cons (ps_set (i := 2) sc_Ldoublings.nd rfl (.inl rfl) (pe_op op_mul (pv 2) pe_int))
      (pss_one (ps_set (i := 1) sc_Ldoublings.nd rfl (.inl rfl) (pe_op op_add (pv 1) pe_int)))))
      (pss_one (ps_ret (pv 1))))), ?_⟩
    refine ⟨(by show 2 ≤ sizeLine; decide), fun t nt => ?_⟩
    have s1 : Same H (upd H t (.tup [.int 0, .int 2])) := same_new nt
    refine ⟨t, [.int 0, .int 2], rfl, .inl (.inl upd_same), rfl, .int 0, [.int 2], rfl, .int 2, [], rfl, rfl, ?_⟩
    refine while_by (fun σ H' => ∃ (f far : Int), σ = [some (.int x), some (.int f), some (.int far)] ∧ Same H H' ∧ 0 ≤ f ∧ far = 2 ^ (f.toNat + 1) ∧ 2 ^ f.toNat ≤ x)
      (fun σ _ => match σ with | [_, _, some (.int far)] => (x + 1 - far).toNat | _ => 0) ⟨0, 2, rfl, s1, by decide, rfl, by simpa using hx⟩ ?_ ?_
    · rintro σ H' ⟨f, far, rfl, sm, h0, rfl, h1⟩
      refine ⟨_, rfl, _, rfl, _, _, rfl, rfl, _, rfl, ite2 (fun e => ?_) (fun e => ?_)⟩
      · have e1 : (2 : Int) ^ (f.toNat + 1) ≤ x := of_decide_eq_true e
        have e2 : (f + 1).toNat = f.toNat + 1 := by omega
        have pp : (0 : Int) < 2 ^ (f.toNat + 1) := Int.pow_pos (by decide)
        refine ⟨_, rfl, _, _, rfl, rfl, .inr ⟨by decide, by decide⟩, _, rfl, _, _, rfl, rfl, ⟨f + 1, 2 ^ (f.toNat + 1) * 2, rfl, sm, by omega, ?_, ?_⟩, ?_⟩
        · rw [e2, Int.pow_succ (2 : Int) (f.toNat + 1)]
        · rw [e2]
          exact e1
        · show (x + 1 - 2 ^ (f.toNat + 1) * 2).toNat < (x + 1 - 2 ^ (f.toNat + 1)).toNat
          omega
      · have e1 : ¬ (2 : Int) ^ (f.toNat + 1) ≤ x := of_decide_eq_false (Bool.eq_false_iff.mpr e)
        exact ⟨_, rfl, q f H' ⟨h0, h1, by omega⟩ sm⟩
    · rintro σ H' Q1 Q2 k ⟨v, h1, v', h2, i, j, e1, e2, b, e3, z⟩
      exact ⟨v, h1, v', h2, i, j, e1, e2, b, e3, k _ _ z⟩
theorem pick5 {p x1 x2 x4 : Int} (h1 : 1 ≤ p) (h2 : p ≤ 2 ^ 90) (a0 : 0 ≤ x1) (a1 : x1 < 40) (b0 : 0 ≤ x2) (b1 : x2 < 10 ^ 29) (c0 : 0 ≤ x4) (c1 : x4 < 5) :
    ∃ v : Int, atI [V.int (1 + x1), V.int p, V.int (p + 1), V.int (if p - 1 > 1 then p - 1 else 1), V.int (1 + x2)] x4 = some (.int v) ∧ 1 ≤ v ∧ v < 2 ^ 100 := by
  have hc : x4 = 0 ∨ x4 = 1 ∨ x4 = 2 ∨ x4 = 3 ∨ x4 = 4 := by omega
  rcases hc with rfl | rfl | rfl | rfl | rfl
  · exact ⟨_, rfl, by omega, by omega⟩
  · exact ⟨_, rfl, by omega, by omega⟩
  · exact ⟨_, rfl, by omega, by omega⟩
  · refine ⟨_, rfl, ?_, ?_⟩ <;> split <;> omega
  · exact ⟨_, rfl, by omega, by omega⟩
theorem ok_number (T : Top K mg) : FnOk P w K mg base CX0 2 T.a_Lnumber T.d_Lnumber ["_law_draws"] spNumber := by
  have G_Lnext : FnOk P w K mg base CX0 1 _ _ _ _ := ok_next T
  refine T.F_Lnumber.ok sc_Lnumber (fun vs H Q E h => ?_) (fun cdv A outer s H vs Q E hr h => ?_)
  · obtain ⟨d, c, ns, rfl, _⟩ := h
    rfl
  · obtain ⟨d, c, ns, rfl, D0, q⟩ := h
    refine ⟨_, (pss_cons (ps_set (i := 1) sc_Lnumber.nd rfl (.inl rfl) pe_int)
      (pss_cons (ps_for PassesOwn.never rfl (pi_range1 (by rfl) T.m_range (pa_cons (pe_call G_Lnext hr (by rfl) T.g_Lnext T.F_Lnext.kp T.b_Lnext .nil pass0 (pa_cons (pv 0) (pa_cons pe_int pa_nil))) pa_nil)) (pg_name (i := 2) sc_Lnumber.nd rfl (.inl rfl)) (pss_one (ps_set (i := 1) sc_Lnumber.nd rfl (.inl rfl) (pe_op op_mul (pv 1) pe_int))))
      (pss_cons (ps_set (i := 3) sc_Lnumber.nd rfl (.inl rfl) (pe_lst (pa_cons (pe_op op_add pe_int (pe_call G_Lnext hr (by rfl) T.g_Lnext T.F_Lnext.kp T.b_Lnext .nil pass0 (pa_cons (pv 0) (pa_cons pe_int pa_nil)))) (pa_cons (pv 1) (pa_cons (pe_op op_add (pv 1) pe_int) (pa_cons (pe_callB (call_max2 rfl) (by rfl) T.m_max (by decide +kernel) (pa_cons pe_int (pa_cons (pe_op op_sub (pv 1) pe_int) pa_nil))) (pa_cons (pe_op op_add pe_int (pe_call G_Lnext hr (by rfl) T.g_Lnext T.F_Lnext.kp T.b_Lnext .nil pass0 (pa_cons (pv 0) (pa_cons (pe_op op_pow pe_int pe_int) pa_nil)))) pa_nil)))))))
      (pss_one (ps_ret (pe_ix ix_list (pv 3) (pe_call G_Lnext hr (by rfl) T.g_Lnext T.F_Lnext.kp T.b_Lnext .nil pass0 (pa_cons (pv 0) (pa_cons pe_int pa_nil))) (fun _ _ => rfl))))))), ?_⟩
    refine ⟨_, rfl, d, c, ns, 90, rfl, D0, by decide, by decide, fun x0 H1 h0 h1 D1 k1 => ⟨_, rfl, by omega, by omega, for_range (lo := 0) (n := x0.toNat) (fun i σ H2 => ∃ y2, σ = [some (.ref d), some (.int (2 ^ i)), y2, none] ∧ H2 = H1) ⟨none, rfl, rfl⟩ ?_ ?_⟩⟩
    · rintro i σ H2 hi ⟨y2, rfl, rfl⟩
      refine ⟨_, rfl, _, _, rfl, rfl, .inr ⟨by decide, by decide⟩, some (.int (0 + (i : Int))), ?_, rfl⟩
      rw [Int.pow_succ]
      rfl
    · rintro σ H2 ⟨y2, rfl, rfl⟩
      have p1 : (1 : Int) ≤ 2 ^ x0.toNat := Int.pow_pos (by decide)
      have p2 : (2 : Int) ^ x0.toNat ≤ 2 ^ 90 := by
        have z := Nat.pow_le_pow_right (n := 2) (by decide) (show x0.toNat ≤ 90 by omega)
        exact_mod_cast z
      generalize hp : (2 : Int) ^ x0.toNat = p at p1 p2
      refine ⟨_, rfl, d, c, ns, 40, rfl, D1, by decide, by decide, fun x1 H3 a0 a1 D3 k3 => ⟨_, _, rfl, rfl, _, rfl, _, rfl, _, _, rfl, rfl, _, rfl, _, _, rfl, rfl, _, _, rfl, _, rfl, _, _, rfl, rfl, ⟨by decide, by decide, by decide⟩, d, c, ns, _, rfl, D3, (by rw [pow29]; decide), (by rw [pow29]; decide), fun x2 H4 b0 b1 D4 k4 => ⟨_, _, rfl, rfl, (by show 5 ≤ sizeLine; decide), fun p5 n5 => ?_⟩⟩⟩
      refine ⟨_, rfl, _, rfl, d, c, ns, 5, rfl, D4.new n5, by decide, by decide, fun x4 H6 c0 c1 D6 k6 => ?_⟩
      obtain ⟨v, hv, v0, v1⟩ := pick5 p1 p2 a0 a1 b0 b1 c0 c1
      have np : p5 ≠ d := by
        obtain ⟨⟨_, _, _, hd, _⟩, _⟩ := D4
        exact (ne_of_none hd n5).symm
      refine ⟨p5, _, _, _, rfl, rfl, SqL.of (k6 _ _ upd_same np), hv, ?_⟩
      exact q v H6 v0 v1 D6 (((k1.trans k3).trans k4).trans (But.trans (But.new But.refl n5) k6))
theorem ok_law (T : Top K mg) : FnOk P w K mg base CX0 3 T.a_law T.d_law ["_law_script"] (spLaw K) := by
  have G_Lbegin : FnOk P w K mg base CX0 1 _ _ _ _ := ok_begin T
  have G_Lnumber : FnOk P w K mg base CX0 2 _ _ _ _ := ok_number T
  have G_Ldoublings : FnOk P w K mg base CX0 1 _ _ _ _ := ok_doublings T
  have G_rank : FnOk P w K mg base CX0 1 _ _ _ _ := ok_rank T
  refine T.F_law.ok sc_law (fun vs H Q E h => ?_) (fun cdv A outer s H vs Q E hr h => ?_)
  · obtain ⟨a, ns, rfl, _⟩ := h
    rfl
  · obtain ⟨a, ns, rfl, hS, hlen, hbits, q⟩ := h
    refine ⟨_, (pss_cons (ps_set (i := 1) sc_law.nd rfl (.inl rfl) (pe_call G_Lbegin (hr.mono (by decide)) (by rfl) T.g_Lbegin T.F_Lbegin.kp T.b_Lbegin .nil pass0 (pa_cons (pv 0) pa_nil)))
      (pss_cons (ps_for PassesOwn.never rfl (pi_range1 (by rfl) T.m_range (pa_cons (pe_op op_add pe_int (pe_callB call_len_seq (by rfl) T.m_len PySem.boot_len (pa_cons (pe_slice sl_list (pv 0) po_none (po_some pe_int)) pa_nil))) pa_nil)) (pg_name (i := 2) sc_law.nd rfl (.inl rfl)) (pss_cons (ps_set (i := 3) sc_law.nd rfl (.inl rfl) (pe_call G_Lnumber hr (by rfl) T.g_Lnumber T.F_Lnumber.kp T.b_Lnumber .nil pass0 (pa_cons (pv 1) pa_nil)))
      (pss_cons (ps_set (i := 4) sc_law.nd rfl (.inl rfl) (pe_call G_Ldoublings (hr.mono (by decide)) (by rfl) T.g_Ldoublings T.F_Ldoublings.kp T.b_Ldoublings .nil pass0 (pa_cons (pv 3) pa_nil)))
      (pss_cons (ps_for PassesOwn.never rfl (pi_range1 (by rfl) T.m_range (pa_cons pe_int pa_nil)) (pg_name (i := 5) sc_law.nd rfl (.inl rfl)) (pss_cons (ps_set (i := 6) sc_law.nd rfl (.inl rfl) (pe_call G_rank (hr.mono (by decide)) (by rfl) T.g_rank T.F_rank.kp T.b_rank .nil pass0 (pa_cons (pv 3) pa_nil)))
      (pss_one (ps_if (PW.pt (pw_or (pt_not (pt_val (pe_callB call_isi (by rfl) T.m_isinstance (by decide +kernel) (pa_cons (pv 6) (pa_cons (pe_bltn (v := .ty "int") (by rfl) T.m_int (by decide +kernel) rfl) pa_nil))))) (pw_or (pt_val (pe_callB call_isi (by rfl) T.m_isinstance (by decide +kernel) (pa_cons (pv 6) (pa_cons (pe_bltn (v := .ty "bool") (by rfl) T.m_bool (by decide +kernel) rfl) pa_nil)))) (pw_or1 (pt_cmpR op_ne (pv 6) (pv 4) (nomark _)))))) (pss_one (ps_ret pe_bl)) pss_nil))))
      (pss_one (ps_if (PW.pt (pw_or (pt_cmpR op_ne (pe_call G_rank (hr.mono (by decide)) (by rfl) T.g_rank T.F_rank.kp T.b_rank .nil pass0 (pa_cons (pe_op op_mul pe_int (pv 3)) pa_nil)) (pe_op op_add (pv 4) pe_int) (nomark _)) (pw_or1 (pt_cmpR op_ne (pe_call G_rank (hr.mono (by decide)) (by rfl) T.g_rank T.F_rank.kp T.b_rank .nil pass0 (pa_cons (pe_op op_add (pe_op op_mul pe_int (pv 3)) pe_int) pa_nil)) (pe_op op_add (pv 4) pe_int) (nomark _))))) (pss_one (ps_ret pe_bl)) pss_nil))))))
      (pss_one (ps_ret (pe_cmpR op_eq (pe_call G_rank (hr.mono (by decide)) (by rfl) T.g_rank T.F_rank.kp T.b_rank .nil pass0 (pa_cons pe_int pa_nil)) pe_int (nomark _)))))), ?_⟩
    refine ⟨_, rfl, a, ns, rfl, hS, fun d c ms H1 s1 nd D1 => ?_⟩
    refine ⟨_, rfl, 30, rfl, a, _, rfl, s1.seq hS, fun p np => ⟨p, _, rfl, .inl (SqL.of upd_same), _, _, rfl, rfl, _, rfl, by omega, ?_, ?_⟩⟩
    · have z := cutV_length (ns.map V.int) none (some 30)
      rw [List.length_map] at z
      omega
    · refine for_range (lo := 0) (n := _) (fun i σ H2 => ∃ y2 y3 y4 y5 y6, σ = [some (.ref a), some (.ref d), y2, y3, y4, y5, y6] ∧ Draw H2 d c ms) ⟨none, none, none, none, none, rfl, D1.new np⟩ ?_ ?_
      · rintro i σ H2 hi ⟨y2, y3, y4, y5, y6, rfl, D2⟩
        refine ⟨_, rfl, d, c, ms, rfl, D2, fun x H3' x1 x2 D3' k3 => ⟨_, rfl, x, rfl, x1, fun k H3 hk sm3 => ⟨2, rfl, by decide, by decide, for_range (lo := 0) (n := 2) (fun i σ H4 => ∃ z2 z5 z6, σ = [some (.ref a), some (.ref d), z2, some (.int x), some (.int k), z5, z6] ∧ H4 = H3) ⟨_, _, _, rfl, rfl⟩ ?_ ?_⟩⟩⟩
        · rintro i σ H4 hi ⟨z2, z5, z6, rfl, rfl⟩
          refine ⟨_, rfl, x, rfl, x1, fun j hj => ?_⟩
          have ej := rank_unique hj hk
          subst ej
          refine ⟨_, rfl, _, _, _, _, true, rfl, ClsV.ty _, .base (.int _), kit_ty (by decide +kernel), true, rfl, iteF ?_⟩
          refine ⟨_, rfl, _, _, _, _, false, rfl, ClsV.ty _, .base (.int _), kit_ty (by decide +kernel), false, rfl, iteF ?_⟩
          refine ⟨_, rfl, _, rfl, rfl, _, rfl, iteNS rfl ?_⟩
          exact ⟨_, _, _, rfl, rfl⟩
        · rintro σ H4 ⟨z2, z5, z6, rfl, rfl⟩
          obtain ⟨r1, r2⟩ := rank_two hk
          refine ⟨_, rfl, _, _, rfl, rfl, .inl ⟨by decide, by decide⟩, _, rfl, by omega, fun j1 hj1 => ?_⟩
          have e1 := rank_unique hj1 r1
          subst e1
          refine ⟨_, rfl, _, _, rfl, rfl, rfl, _, rfl, iteNS rfl ?_⟩
          refine ⟨_, rfl, _, _, rfl, rfl, .inl ⟨by decide, by decide⟩, _, _, rfl, rfl, _, rfl, by omega, fun j2 hj2 => ?_⟩
          have e2 := rank_unique hj2 r2
          subst e2
          refine ⟨_, rfl, _, _, rfl, rfl, rfl, _, rfl, iteNS rfl ?_⟩
          exact ⟨_, _, _, _, _, rfl, D3'.same sm3⟩
      · rintro σ H2 ⟨y2, y3, y4, y5, y6, rfl, D2⟩
        refine ⟨1, rfl, by decide, fun k hk => ?_⟩
        have e : k = 0 := rank_unique hk ⟨by decide, by decide, by decide⟩
        subst e
        refine ⟨rfl, ?_⟩
        rw [decide_eq_true rfl]
        exact q _
end
theorem all_mk {l : PySem.W.OpenLaw} {w : World} {K : PySem.W.Frag} {h : Heap} {mg : Str → Option Value} {fa f0 f1 f2 f3 f4 f5 : Addr} (X : K.In h) (G : h.Ns mainGlobals mg) (hfa : mg "law" = some (.ref fa))
    {od0 an0 od1 an1 od2 an2 od3 an3 od4 an4 od5 an5 : Option Addr} {sl0 sl1 sl2 sl3 sl4 sl5 : Array (Option Value)} {oc0 kV0 dc0 pm0 cd0 ct0 oc1 kV1 dc1 pm1 cd1 ct1 oc2 kV2 dc2 pm2 cd2 ct2 oc3 kV3 dc3 pm3 cd3 ct3 oc4 kV4 dc4 pm4 cd4 ct4 oc5 kV5 dc5 pm5 cd5 ct5 : Value}
    (a0 : PySem.W.nsIn K mainGlobals "rank" = some (some (.ref f0))) (l0 : K.lookup f0 = some ⟨oc0, od0, .func (PySem.W.fnOf "rank" "rank" (defArgs s_rank) (defBody s_rank) (defScope s_rank) .none kV0 dc0 pm0 an0 cd0 ct0), sl0⟩) (c0 : PySem.W.codeIn K cd0 "rank" = true) (k0 : PySem.W.keepIn K (.ref f0) = true)
    (a1 : PySem.W.nsIn K mainGlobals "_law_begin" = some (some (.ref f1))) (l1 : K.lookup f1 = some ⟨oc1, od1, .func (PySem.W.fnOf "_law_begin" "_law_begin" (defArgs s_Lbegin) (defBody s_Lbegin) (defScope s_Lbegin) .none kV1 dc1 pm1 an1 cd1 ct1), sl1⟩) (c1 : PySem.W.codeIn K cd1 "_law_begin" = true) (k1 : PySem.W.keepIn K (.ref f1) = true)
    (a2 : PySem.W.nsIn K mainGlobals "_law_next" = some (some (.ref f2))) (l2 : K.lookup f2 = some ⟨oc2, od2, .func (PySem.W.fnOf "_law_next" "_law_next" (defArgs s_Lnext) (defBody s_Lnext) (defScope s_Lnext) .none kV2 dc2 pm2 an2 cd2 ct2), sl2⟩) (c2 : PySem.W.codeIn K cd2 "_law_next" = true) (k2 : PySem.W.keepIn K (.ref f2) = true)
    (a3 : PySem.W.nsIn K mainGlobals "_law_doublings" = some (some (.ref f3))) (l3 : K.lookup f3 = some ⟨oc3, od3, .func (PySem.W.fnOf "_law_doublings" "_law_doublings" (defArgs s_Ldoublings) (defBody s_Ldoublings) (defScope s_Ldoublings) .none kV3 dc3 pm3 an3 cd3 ct3), sl3⟩) (c3 : PySem.W.codeIn K cd3 "_law_doublings" = true) (k3 : PySem.W.keepIn K (.ref f3) = true)
    (a4 : PySem.W.nsIn K mainGlobals "_law_number" = some (some (.ref f4))) (l4 : K.lookup f4 = some ⟨oc4, od4, .func (PySem.W.fnOf "_law_number" "_law_number" (defArgs s_Lnumber) (defBody s_Lnumber) (defScope s_Lnumber) .none kV4 dc4 pm4 an4 cd4 ct4), sl4⟩) (c4 : PySem.W.codeIn K cd4 "_law_number" = true) (k4 : PySem.W.keepIn K (.ref f4) = true)
    (a5 : PySem.W.nsIn K mainGlobals "law" = some (some (.ref f5))) (l5 : K.lookup f5 = some ⟨oc5, od5, .func (PySem.W.fnOf "law" "law" (defArgs s_law) (defBody s_law) (defScope s_law) .none kV5 dc5 pm5 an5 cd5 ct5), sl5⟩) (c5 : PySem.W.codeIn K cd5 "law" = true) (k5 : PySem.W.keepIn K (.ref f5) = true)
    (z0 : PySem.W.nsIn K mainGlobals "bool" = some none)
    (z1 : PySem.W.nsIn K mainGlobals "int" = some none)
    (z2 : PySem.W.nsIn K mainGlobals "isinstance" = some none)
    (z3 : PySem.W.nsIn K mainGlobals "len" = some none)
    (z4 : PySem.W.nsIn K mainGlobals "list" = some none)
    (z5 : PySem.W.nsIn K mainGlobals "max" = some none)
    (z6 : PySem.W.nsIn K mainGlobals "range" = some none)
    : ∃ fd : FuncData, (∀ (s : Shared) (v : Value), BindsTo s fd ⟨[v], []⟩ [("_law_script", v)]) ∧ ∀ base : Heap, K.In base → base.Ns mainGlobals mg → FnOk l.prog w K mg base CX0 3 fa fd ["_law_script"] (spLaw K) := by
  have e := hfa.symm.trans (PySem.W.mg_of X G a5)
  cases e
  have F0 := fun_mk (st := s_rank) l0 c0 k0
  have b0 := F0.binds (ps := ["many"]) fun _ _ _ _ _ _ us hl => match us, hl with | [_], _ => rfl
  have F1 := fun_mk (st := s_Lbegin) l1 c1 k1
  have b1 := F1.binds (ps := ["_law_script"]) fun _ _ _ _ _ _ us hl => match us, hl with | [_], _ => rfl
  have F2 := fun_mk (st := s_Lnext) l2 c2 k2
  have b2 := F2.binds (ps := ["_law_draws", "_law_many"]) fun _ _ _ _ _ _ us hl => match us, hl with | [_, _], _ => rfl
  have F3 := fun_mk (st := s_Ldoublings) l3 c3 k3
  have b3 := F3.binds (ps := ["_law_many"]) fun _ _ _ _ _ _ us hl => match us, hl with | [_], _ => rfl
  have F4 := fun_mk (st := s_Lnumber) l4 c4 k4
  have b4 := F4.binds (ps := ["_law_draws"]) fun _ _ _ _ _ _ us hl => match us, hl with | [_], _ => rfl
  have F5 := fun_mk (st := s_law) l5 c5 k5
  have b5 := F5.binds (ps := ["_law_script"]) fun _ _ _ _ _ _ us hl => match us, hl with | [_], _ => rfl
  let T : Top K mg := ⟨_, _, F0, b0, PySem.W.mg_of X G a0, _, _, F1, b1, PySem.W.mg_of X G a1, _, _, F2, b2, PySem.W.mg_of X G a2, _, _, F3, b3, PySem.W.mg_of X G a3, _, _, F4, b4, PySem.W.mg_of X G a4, _, _, F5, b5, PySem.W.mg_of X G a5, PySem.W.mg_none_of X G z0, PySem.W.mg_none_of X G z1, PySem.W.mg_none_of X G z2, PySem.W.mg_none_of X G z3, PySem.W.mg_none_of X G z4, PySem.W.mg_none_of X G z5, PySem.W.mg_none_of X G z6⟩
  exact ⟨_, fun s v => .of_eq rfl, fun base _ _ => ok_law (P := l.prog) (w := w) (base := base) T⟩
end My
open PySem PySem.W PyProof.Rows
set_option maxRecDepth 100000 in
set_option maxHeartbeats 0 in
theorem PySem.Challenge.cw_tiedcut_k01_ranks_holds : PySem.Challenge.rw_tiedcut_k01_ranks.Holds := by
  w_on; o_law; k_head; (case hw => w_witness2)
  k_fill
  refine L2.walk_ofB (l := PySem.Challenge.rw_tiedcut_k01_ranks) (n := 63) (k := 3) (x := "_law_script") (CX := fun _ => L2.CX0) (sp := fun w => My.spLaw _) rfl (by decide) rfl ⟨rfl, by decide, by decide⟩ (fun w h Y => PySem.W.kIn_of Y) ?F (fun _ _ a ns hl hb _ hS => ⟨a, ns, rfl, hS, hl, hb, fun _ => rfl⟩) (fun _ _ _ _ _ h => h)
  case F =>
    intro w mg fa h KX G hmg
    refine' My.all_mk KX G hmg ?a0 ?l0 ?c0 ?k0 ?a1 ?l1 ?c1 ?k1 ?a2 ?l2 ?c2 ?k2 ?a3 ?l3 ?c3 ?k3 ?a4 ?l4 ?c4 ?k4 ?a5 ?l5 ?c5 ?k5 ?z0 ?z1 ?z2 ?z3 ?z4 ?z5 ?z6
    (case a0 => k_is)
    (case l0 => k_is)
    (case c0 => k_is)
    (case k0 => k_is)
    (case a1 => k_is)
    (case l1 => k_is)
    (case c1 => k_is)
    (case k1 => k_is)
    (case a2 => k_is)
    (case l2 => k_is)
    (case c2 => k_is)
    (case k2 => k_is)
    (case a3 => k_is)
    (case l3 => k_is)
    (case c3 => k_is)
    (case k3 => k_is)
    (case a4 => k_is)
    (case l4 => k_is)
    (case c4 => k_is)
    (case k4 => k_is)
    (case a5 => k_is)
    (case l5 => k_is)
    (case c5 => k_is)
    (case k5 => k_is)
    (case z0 => k_is)
    (case z1 => k_is)
    (case z2 => k_is)
    (case z3 => k_is)
    (case z4 => k_is)
    (case z5 => k_is)
    (case z6 => k_is)
