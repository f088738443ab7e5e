import PyProof.Rows.All
import Wide.All
import OpenK.AllK
import Wide.FinOn
import HandS.ForMost
import HandS.More
import HandS.Sort
import HandS.Wide
import HandS.WideBits
import HandS.IsInst
import HandS.EndBits
import HandS.TupLe
import HandS.TupAny
import HandS.Star
import HandS.Style
import HandS.Text
import HandS.Walk
import HandS.Deep
import HandS.AnyAll
import HandS.GenOver
import HandS.Lambda
import HandS.RevTup
import HandS.Rev
import PyProof.JoinWalk
import KE.GoesMore
import PySem.Challenge.RW_tiedcut_k79_forests_shown
set_option Elab.async false
set_option linter.all false
set_option maxRecDepth 100000
set_option maxHeartbeats 4000000
namespace My
open PySem L2
/-! ### a mid-condition behind a statement, an expression, a test -/
def sMid (t : TS) : TS := fun D σ H => ∃ M : L2.St → Hp → Prop, t { D with nx := M } σ H ∧ ∀ σ' H', M σ' H' → D.nx σ' H'
theorem ps_mid {X : Cx} {st : Stmt} {t : TS} (h : PS X st t) : PS X st (sMid t) := by
  refine ⟨fun pins s σ H D I z => ?_⟩
  obtain ⟨M, q, k⟩ := z
  refine thn (h.run pins s σ H { D with nx := M } I q) fun f s1 y => ?_
  cases f with
  | next =>
    obtain ⟨σ', H', I', y⟩ := y
    exact ⟨σ', H', I', k _ _ y⟩
  | ret v => exact y
  | brk => exact y
  | cont => exact y
def tMid (t : TT) : TT := fun σ H Q => ∃ M : Bool → Hp → Prop, t σ H M ∧ ∀ b H', M b H' → Q b H'
theorem pt_mid {X : Cx} {e : Expr} {t : TT} (h : PT X e t) : PT X e (tMid t) := by
  refine ⟨fun pins s σ H Q I z => ?_⟩
  obtain ⟨M, q, k⟩ := z
  exact thn (h.run pins s σ H M I q) fun b s1 ⟨H', I', y⟩ => ⟨H', I', k _ _ y⟩
def eMid (t : TE) : TE := fun σ H Q => ∃ M : V → Hp → Prop, t σ H M ∧ ∀ v H', M v H' → Q v H'
theorem pe_mid {X : Cx} {e : Expr} {t : TE} (h : PE X e t) : PE X e (eMid t) := by
  refine ⟨fun pins s σ H Q I z => ?_⟩
  obtain ⟨M, q, k⟩ := z
  exact thn (h.run pins s σ H M I q) fun u s1 ⟨v, H', I', r, y⟩ => ⟨v, H', I', r, k _ _ y⟩
theorem yes_ite {σ : L2.St} {H : Hp} {A B : Hp → Prop} (h : A H) : tYes σ H (fun b H3 => if b = true then A H3 else B H3) := by
  unfold tYes
  exact (show (if true = true then A H else B H) from iteT h)
/-- xs[i] op= e, the read -/
theorem get_list {X : Cx} : PGet X (rIxL X.K) := by
  intro pins s σ H x y v u Q I rx ry h
  obtain ⟨p, xs, i, z, rfl, rfl, hq, he, q⟩ := h
  cases rx
  obtain ⟨t, rfl⟩ := ry
  obtain ⟨its, r, pl, hz⟩ := I.list hq
  obtain ⟨j, h1, h2, h3, h4, h5⟩ := atI_get he
  obtain ⟨w, ew, rw'⟩ := r.get h2
  have hl := r.length
  have hn := line63
  have fin : EP X pins σ Q w s := ⟨z, H, I, rw', q⟩
  by_cases h0 : 0 ≤ i
  · have hj : i.toNat = j := by
      rw [PySem.seqIndex_of h0 h5] at h1
      exact Option.some.inj h1
    exact PySem.wpAny_getItem_list pl.isList h0 (by omega) (by rw [hj]; simpa using ew) fin
  · have hj : (i + (its.toArray.size : Int)).toNat = j := by
      rw [PySem.seqIndex_neg (by omega) h4] at h1
      rw [List.size_toArray, ← hl]
      exact Option.some.inj h1
    exact PySem.wpAny_getItem_list_neg pl.isList (by omega) (by rw [List.size_toArray] <;> omega) (by omega) (by rw [hj]; simpa using ew) fin
theorem same_new {H : Hp} {p : Addr} {o : HO} (h : H p = none) : Same H (upd H p o) := fun b u q => by rw [upd_ne (ne_of_none q h)]; exact q
/-- all but d as it was -/
def But (d : Addr) (H H' : Hp) : Prop := ∀ b o, H b = some o → b ≠ d → H' b = some o
theorem But.refl {d : Addr} {H : Hp} : But d H H := fun _ _ e _ => e
theorem But.trans {d : Addr} {H H1 H2 : Hp} (x : But d H H1) (y : But d H1 H2) : But d H H2 := fun b o e n => y b o (x b o e n) n
theorem But.put {d : Addr} {H H1 : Hp} {o : HO} (x : But d H H1) : But d H (upd H1 d o) := fun b u e n => by
  rw [upd_ne n]
  exact x b u e n
theorem But.new {d p : Addr} {H H1 : Hp} {o : HO} (x : But d H H1) (n : H1 p = none) : But d H (upd H1 p o) := fun b u e nb => by
  have q := x b u e nb
  rw [upd_ne (ne_of_none q n)]
  exact q
theorem But.same {d : Addr} {H H1 H2 : Hp} (x : But d H H1) (s : Same H1 H2) : But d H H2 := fun b u e nb => s _ _ (x b u e nb)
theorem at_map {ns : List Int} {k : Int} (h0 : 0 ≤ k) (h : k < (ns.length : Int)) : ∃ v : Int, atI (ns.map V.int) k = some (.int v) ∧ v ∈ ns := by
  have hk : k.toNat < ns.length := by omega
  have ek : k = ((k.toNat : Nat) : Int) := by omega
  have q : atI (ns.map V.int) ((k.toNat : Nat) : Int) = some (.int ns[k.toNat]) := atI_nat (by rw [List.getElem?_map, List.getElem?_eq_getElem hk] <;> rfl)
  rw [← ek] at q
  exact ⟨_, q, List.getElem_mem _⟩
theorem at_any {α : Type} {xs : List α} {k : Int} (h0 : 0 ≤ k) (h : k < (xs.length : Int)) : ∃ v : α, atI xs k = some v ∧ v ∈ xs := by
  have hk : k.toNat < xs.length := by omega
  have ek : k = ((k.toNat : Nat) : Int) := by omega
  have q : atI xs ((k.toNat : Nat) : Int) = some xs[k.toNat] := atI_nat (List.getElem?_eq_getElem hk)
  rw [← ek] at q
  exact ⟨_, q, List.getElem_mem _⟩
theorem wide_ok {i j : Int} (h : 0 < j) (h2 : j < 2 ^ 100) : CDivW i j := wide_div (b := 100) h (by
  have e : ((j.natAbs : Nat) : Int) < ((2 ^ 100 : Nat) : Int) := by
    rw [Int.natCast_pow]
    show (j.natAbs : Int) < 2 ^ 100
    omega
  exact_mod_cast e) (by decide) (by decide)
theorem cut_map (ns : List Int) (hi : Option Int) : ∃ k : Nat, cutV (ns.map V.int) none hi = (ns.take k).map V.int := by
  refine ⟨HT.sIx ns.length ns.length hi, ?_⟩
  unfold cutV
  rw [HT.sIx_none, List.drop_zero, Nat.sub_zero, List.length_map, List.map_take]
theorem cut_nat {α : Type} (xs : List V) (k : Nat) : cutV xs none (some (k : Int)) = xs.take k := by
  unfold cutV
  rw [HT.sIx_none, List.drop_zero, Nat.sub_zero, HT.sIx_nat]
  by_cases h : k ≤ xs.length
  · rw [Nat.min_eq_left h]
  · rw [Nat.min_eq_right (by omega), List.take_of_length_le (Nat.le_refl _), List.take_of_length_le (by omega)]
theorem sz {n : Nat} (h : n ≤ 100000) : n ≤ sizeLine := Nat.le_trans h (by decide)
theorem szl {n : Nat} (h : n < 100000) : n < sizeLine := Nat.lt_of_lt_of_le h (by decide)
def spLaw (K : PySem.W.Frag) : Sp := fun vs H Q _ => ∃ (a : Addr) (ns : List Int), vs = [.ref a] ∧ SqL K H a (ns.map V.int) ∧ ns.length ≤ 63 ∧ (∀ z ∈ ns, Builtin.Int.intBits z ≤ 1048576) ∧ ∀ H', Q (.bl true) H'
/-! ### data of tuples -/
mutual
inductive Td (K : PySem.W.Frag) (H : Hp) : V → PyData → Prop
  | non : Td K H .non .none
  | bl (b : Bool) : Td K H (.bl b) (.bool b)
  | int (i : Int) : Td K H (.int i) (.int i)
  | str (x : Str) : Td K H (.str x) (.str x)
  | tup {a : Addr} {xs : List V} {ds : List PyData} : SqT K H a xs → TdAll K H xs ds → Td K H (.ref a) (.tuple ds)
inductive TdAll (K : PySem.W.Frag) (H : Hp) : List V → List PyData → Prop
  | nil : TdAll K H [] []
  | cons {v : V} {vs : List V} {d : PyData} {ds : List PyData} : Td K H v d → TdAll K H vs ds → TdAll K H (v :: vs) (d :: ds)
end
/-- tuples stay -/
def Tups (K : PySem.W.Frag) (H H' : Hp) : Prop := ∀ a xs, SqT K H a xs → SqT K H' a xs
theorem Tups.of_same {K : PySem.W.Frag} {H H' : Hp} (s : Same H H') : Tups K H H' := fun a xs h => by
  rcases h with h | h
  · rcases h with h | ⟨o, h⟩
    · exact .inl (.inl (s _ _ h))
    · exact .inl (.inr ⟨o, s _ _ h⟩)
  · exact .inr h
theorem Tups.of_but {K : PySem.W.Frag} {H H' : Hp} {d : Addr} {l : List V} (s : But d H H') (e : H d = some (.lst l)) : Tups K H H' := fun a xs h => by
  rcases h with h | h
  · rcases h with h | ⟨o, h⟩
    · exact .inl (.inl (s _ _ h (ne_of h e (by intro z; cases z))))
    · exact .inl (.inr ⟨o, s _ _ h (ne_of h e (by intro z; cases z))⟩)
  · exact .inr h
theorem Tups.trans {K : PySem.W.Frag} {H H1 H2 : Hp} (a : Tups K H H1) (b : Tups K H1 H2) : Tups K H H2 := fun p xs h => b _ _ (a _ _ h)
mutual
theorem Td.mono {K : PySem.W.Frag} {H H' : Hp} (t : Tups K H H') : ∀ {v : V} {d : PyData}, Td K H v d → Td K H' v d
  | _, _, .non => .non
  | _, _, .bl b => .bl b
  | _, _, .int i => .int i
  | _, _, .str x => .str x
  | _, _, .tup h k => .tup (t _ _ h) (TdAll.mono t k)
theorem TdAll.mono {K : PySem.W.Frag} {H H' : Hp} (t : Tups K H H') : ∀ {vs : List V} {ds : List PyData}, TdAll K H vs ds → TdAll K H' vs ds
  | _, _, .nil => .nil
  | _, _, .cons h k => .cons (Td.mono t h) (TdAll.mono t k)
end
mutual
theorem Td.dp {K : PySem.W.Frag} {H : Hp} : ∀ {v : V} {d : PyData}, Td K H v d → Dp K H v d
  | _, _, .non => .non
  | _, _, .bl b => .bl b
  | _, _, .int i => .int i
  | _, _, .str x => .str x
  | _, _, .tup h k => .tup h (TdAll.dp k)
theorem TdAll.dp {K : PySem.W.Frag} {H : Hp} : ∀ {vs : List V} {ds : List PyData}, TdAll K H vs ds → DpAll K H vs ds
  | _, _, .nil => .nil
  | _, _, .cons h k => .cons (Td.dp h) (TdAll.dp k)
end
theorem TdAll.length {K : PySem.W.Frag} {H : Hp} : ∀ {vs : List V} {ds : List PyData}, TdAll K H vs ds → vs.length = ds.length
  | _, _, .nil => rfl
  | _, _, .cons _ k => congrArg (· + 1) (TdAll.length k)
theorem TdAll.append {K : PySem.W.Frag} {H : Hp} : ∀ {vs ws : List V} {ds es : List PyData}, TdAll K H vs ds → TdAll K H ws es → TdAll K H (vs ++ ws) (ds ++ es)
  | _, _, _, _, .nil, k => k
  | _, _, _, _, .cons h k, z => .cons h (TdAll.append k z)
theorem TdAll.get {K : PySem.W.Frag} {H : Hp} : ∀ {vs : List V} {ds : List PyData}, TdAll K H vs ds → ∀ {v : V}, v ∈ vs → ∃ d, d ∈ ds ∧ Td K H v d
  | _, _, .nil, _, h => nomatch h
  | _, _, .cons (d := d) h k, v, m => by
    rcases List.mem_cons.mp m with e | m
    · subst e
      exact ⟨d, List.mem_cons_self, h⟩
    · obtain ⟨d', hd, t⟩ := TdAll.get k m
      exact ⟨d', List.mem_cons_of_mem _ hd, t⟩
theorem inV_str (w : Str) : ∀ ws : List Str, inV (.str w) (ws.map V.str) = decide (w ∈ ws)
  | [] => rfl
  | x :: r => by
    have ih := inV_str w r
    unfold inV at ih ⊢
    rw [List.map_cons, List.any_cons, ih]
    by_cases e : x = w
    · subst e
      simp [eqV]
    · have e2 : ¬ w = x := fun z => e z.symm
      simp [eqV, e, e2]
theorem flat_strs : ∀ ws : List Str, (ws.map V.str).all flatV = true
  | [] => rfl
  | _ :: r => by
    rw [List.map_cons, List.all_cons, flat_strs r]
    rfl
/-- the kinds -/
def kinds : List Str := ["a", "b", "c", "d", "e", "f", "g", "h"]
/-- a tuple as a target, the table and the number as they are written -/
theorem pg_tupK {X : Cx} {K : PySem.W.Frag} {pos : Pos} {es : List Expr} {k : Nat} {t : TGs} {n : Nat} (hK : X.K = K) (hc : X.calm = true) (h : PGs X es t)
    (hn : (assignEach es X.env).length = n) (hst : (assignEach es X.env).findIdx? (·.1) = none := by rfl) : PG X (.Tuple es k pos) (gTup K n t) := by
  subst hK
  exact pg_tup hc h hn hst
theorem cut_tail (x : V) (ps : List V) : cutV (x :: ps) (some 1) none = ps := by
  unfold cutV
  rw [show (1 : Int) = ((1 : Nat) : Int) from rfl, HT.sIx_nat, HT.sIx_none, List.length_cons]
  have e : min 1 (ps.length + 1) = 1 := by omega
  rw [e, List.drop_succ_cons, List.drop_zero, Nat.add_sub_cancel, List.take_of_length_le (Nat.le_refl _)]
theorem u1 {k : Nat} {A : Around} (h : Room k A) : A.units + 1 < cLine := by
  have := h.units
  omega
theorem u0 {k : Nat} {A : Around} (h : Room k A) : A.units < cLine := by
  have := h.units
  omega
theorem u65 {k : Nat} {A : Around} (h : Room k A) : A.units + 65 < cLine := by
  have := h.un
  omega
theorem op_in_seqK {X : Cx} {K : PySem.W.Frag} (hK : X.K = K) : OpR X (compareOp .In) (rIn K false) := by
  subst hK
  exact op_in_seq
theorem op_notIn_seqK {X : Cx} {K : PySem.W.Frag} (hK : X.K = K) : OpR X (compareOp .NotIn) (rIn K true) := by
  subst hK
  exact op_notIn_seq

end My
namespace My
open PySem PySem.Spec PyProof.Rows L2
/-! ### sep.join(reversed(a list of texts)) -/
theorem not_of {b : Bool} (h : (!b) = true) : b = false := by
  cases b
  · rfl
  · cases h
theorem gives_tail {sep : Str} : ∀ {rs : List (Str × Tok)}, JoinOk sep (rs.map (·.1)) = true → Gives (joinTail sep (strValues rs)) (joinMade sep rs)
  | [], ok => gives_joinTail sep [] (not_of ok)
  | [p], ok => gives_joinTail sep [p] (not_of ok)
  | p :: q :: r, ok => gives_joinTail sep (p :: q :: r) (not_of ok)
theorem join_rev {prog : Program} {w : World} {A : Around} {E : Value → Shared → Prop} {s : Shared} {sep : Str} {t : Tok} {Q : Value → Shared → Prop} {it l : Addr} {us : List (Str × Tok)} (hh : A.handled = none) (hit : s.heap.IsRevIter it l (((strValues us).toArray.size : Int) - 1))
    (hl : s.heap.IsList l (strValues us).toArray) (hne : l ≠ it) (hn : (strValues us).toArray.size ≤ sizeLine) (hok : JoinOk sep (us.map (·.1)).reverse = true)
    (hq : ∀ (h' : Heap) (t' : Tok) (k : Nat), (∀ b o, b ≠ it → s.heap.get? b = some o → h'.get? b = some o) → Q (.str (Txt.join sep (us.map (·.1)).reverse) t') { s with heap := h', toks := k }) :
    wpAny (model prog w) A (call (.builtin "str.join") [.str sep t, .ref it]) Q E s := by
  refine wpAny_call (codeAny_call_builtin F.slot_str_join.plain F.entry_str_join (F.slot_str_join.check _ _ _ _ _ _ _ _ (typeIs_str _ _ _) (F.args_str_join_2 _ _) ?_))
  rw [join_tree_other]
  have ty : s.TypeIs (.ref it) "list_reverseiterator" := hit.typeIs
  refine wpAny_bind (wpAny_typeOf ty ?_)
  show wpAny _ A.in1 ((pyIter (.ref it)).tryCatch _ >>= fun i2 => collect i2 >>= fun zs => joinTail sep zs) _ _ s
  refine wpAny_bind (wpAny_tryCatch (wpAny_pyIter_revIter hit ?_))
  refine wpAny_bind (RT.collect_rev (A := A.in1) hh hit hl hne hn fun h' tk acc hk hacc => ?_)
  have eacc : acc.toList = strValues us.reverse := by
    have e1 : strValues us.reverse = (strValues us).reverse := by
      unfold strValues
      rw [List.map_reverse]
    rw [e1]
    refine List.ext_getElem? fun j => ?_
    have sz : acc.size = (strValues us).length := by
      rw [hacc.1, List.size_toArray]
    by_cases hj : j < (strValues us).length
    · rw [List.getElem?_reverse hj]
      have hja : j < acc.size := by omega
      have z := hacc.2 j _ (Array.getElem?_eq_getElem hja)
      rw [List.size_toArray, List.getElem?_toArray] at z
      rw [z, Array.getElem?_toList, Array.getElem?_eq_getElem hja]
    · rw [List.getElem?_eq_none (by rw [Array.length_toList]; omega), List.getElem?_eq_none (by rw [List.length_reverse]; omega)]
  rw [eacc]
  have ok2 : JoinOk sep (us.reverse.map (·.1)) = true := by
    rw [List.map_reverse]
    exact hok
  have g := gives_tail ok2
  refine g prog w A (wants Q E) _ (post_join us.reverse ⟨joinFit_length (not_of ok2), fun t' k => ?_⟩)
  rw [List.map_reverse]
  exact hq h' t' k hk
def tJoinRev (K : PySem.W.Frag) (to te : TE) : TE := fun σ H Q => to σ H fun v H1 => ∃ sep : Str, v = .str sep ∧ te σ H1 fun u H2 => ∃ (a : Addr) (ws : List Str), u = .ref a ∧ SqL K H2 a (ws.map V.str) ∧ JoinOk sep ws.reverse = true ∧ Q (.str (Txt.join sep ws.reverse)) H2
theorem strs_at : ∀ {ws : List Str} {us : List Value}, Vals (ws.map V.str) us → ∃ l : List (Str × Tok), strValues l = us ∧ l.map (·.1) = ws
  | [], _, .nil => ⟨[], rfl, rfl⟩
  | x :: ws, _ :: us, .cons r rs => by
    obtain ⟨t, rfl⟩ := r
    obtain ⟨l, e1, e2⟩ := strs_at rs
    exact ⟨(x, t) :: l, by rw [← e1]; rfl, by rw [← e2]; rfl⟩
theorem pe_joinRev {X : Cx} {o e : Expr} {to te : TE} {apos cpos p2 pos2 : Pos} (hc : X.calm = true) (ho : PE X o to) (hg2 : Gl X "reversed") (hm2 : X.mg "reversed" = none) (he : PE X e te)
    (hbase : attributeBase o "join" X.env (eval o X.env) = eval o X.env := by rfl)
    (hfew : ((backTo cpos (starEach [.Call (.Name "reversed" p2) [e] [] pos2] X.env)).all (fun x => !x.1) && (backToKw cpos (keywordEach [] X.env)).all (fun x => x.1.isSome)
      && decide (([.Call (.Name "reversed" p2) [e] [] pos2] : List Expr).length + ([] : List Keyword).length + (if ([] : List Keyword).isEmpty then 0 else 1) < 30)) = true := by rfl)
    (hline : (apos.endLine == cpos.line) = true := by rfl) (hs1 : starEach [e] X.env = (false, eval e X.env) :: starEach [] X.env := by rfl)
    (hs2 : starEach [.Call (.Name "reversed" p2) [e] [] pos2] X.env = (false, eval (.Call (.Name "reversed" p2) [e] [] pos2) X.env) :: starEach [] X.env := by rfl) (hpl : (backTo cpos (starEach [] X.env)).any (·.1) = false := by rfl) :
    PE X (.Call (.Attribute o "join" apos) [.Call (.Name "reversed" p2) [e] [] pos2] [] cpos) (tJoinRev X.K to te) := by
  constructor
  intro pins s σ H Q I h
  refine wpAny_Call_method_late hbase hfew hline rfl (thn (ho.run pins s σ H _ I h) fun v s1 z => ?_)
  obtain ⟨x', H1, I1, r1, sep, rfl, q1⟩ := z
  obtain ⟨tk, rfl⟩ := (show ∃ t, v = Value.str sep t from r1)
  refine ⟨"str", _, PySem.F.plainAttrs_str, PySem.F.slot_str_join, PySem.F.type_str_join, typeIs_str _ _ _, (fun _ z => nomatch z), ?_⟩
  rw [hs2]
  refine Calls.callWith_builtin (by show (false || (backTo cpos (starEach [] X.env)).any (·.1)) = false; rw [hpl]; rfl) (Calls.evalArgs_plain ?_)
  show wpAny _ _ (spliced ((false, eval (.Call (.Name "reversed" p2) [e] [] pos2) X.env) :: backTo cpos (starEach [] X.env))) _ _ s1
  refine Calls.spliced_cons (Call_ (ld_blt I1 hg2 hm2 PyProof.Rows.boot_reversed (PyProof.Rows.callWith_type1 (args_cons (thn (he.run pins s1 σ H1 _ I1 q1) fun u s2 z => args_nil ?_) hs1) hs1 rfl)))
  obtain ⟨y, H2, I2, r2, a, ws, rfl, sq, jok, q⟩ := z
  obtain rfl : u = Value.ref a := r2
  obtain ⟨its, rv, p', hz⟩ := I2.list sq
  obtain ⟨us, e1, e2⟩ := strs_at rv
  refine call_reversed_list p'.isList (Calls.spliced_nil ?_)
  obtain ⟨f0, f1, f2, f3, f4, f5⟩ := I2.fpOk (H' := H2) (b := s2.heap.objs.size) (Nat.le_refl _) (I2.hok.fresh (Nat.le_refl _))
  have hl := p'.isList
  obtain ⟨ol, hol, _⟩ := id hl
  have hne : a ≠ s2.heap.objs.size := Nat.ne_of_lt (Heap.lt_size hol)
  have hn : its.toArray.size ≤ sizeLine := by
    rw [List.size_toArray, ← rv.length]
    exact hz
  subst e1 e2
  have I3 : Inv X pins σ H2 { s2 with heap := s2.heap.push (revObj a (((strValues us).toArray.size : Int) - 1)) } := I2.kept (t' := s2.toks) fun b o e => Heap.get?_push_of_some _ e
  refine join_rev (s := { s2 with heap := s2.heap.push (revObj a (((strValues us).toArray.size : Int) - 1)) }) (I2.ok.hd hc) ⟨_, Heap.get?_push_size _ rfl, rfl, rfl⟩ (hl.push _) hne hn jok fun h' t' k hk => ?_
  have I4 : Inv X pins σ H2 { s2 with heap := h', toks := k } := I3.turned (t' := k) (fun b o hb e => hk b o hb e) f0 f1 f3 f4 f5
  exact ⟨.str _, H2, I4, ⟨t', rfl⟩, q⟩

end My
namespace My
open PySem L2
/-! ### ties, ways, what is joined -/
abbrev Ties := List (Int × Int)
/-- a and b are a tied pair, either way about -/
def Adj (ts : Ties) (a b : Int) : Prop := (a, b) ∈ ts ∨ (b, a) ∈ ts
theorem Adj.symm {ts : Ties} {a b : Int} (h : Adj ts a b) : Adj ts b a := h.elim .inr .inl
theorem Adj.mono {ts us : Ties} {a b : Int} (s : ∀ t ∈ ts, t ∈ us) (h : Adj ts a b) : Adj us a b := h.imp (s _) (s _)
inductive Rch (ts : Ties) (a : Int) : Int → Prop
  | refl : Rch ts a a
  | step {b c : Int} : Rch ts a b → Adj ts b c → Rch ts a c
theorem Rch.trans {ts : Ties} {a b c : Int} (h : Rch ts a b) (g : Rch ts b c) : Rch ts a c := by
  induction g with
  | refl => exact h
  | step _ e ih => exact .step ih e
theorem Rch.one {ts : Ties} {a b : Int} (h : Adj ts a b) : Rch ts a b := .step .refl h
theorem Rch.symm {ts : Ties} {a b : Int} (h : Rch ts a b) : Rch ts b a := by
  induction h with
  | refl => exact .refl
  | step _ e ih => exact (Rch.one e.symm).trans ih
theorem Rch.mono {ts us : Ties} {a b : Int} (s : ∀ t ∈ ts, t ∈ us) (h : Rch ts a b) : Rch us a b := by
  induction h with
  | refl => exact .refl
  | step _ e ih => exact .step ih (e.mono s)
/-- gone along ties -/
inductive Wlk (ts : Ties) : Int → Int → List Int → Prop
  | one (a : Int) : Wlk ts a a [a]
  | cons {a b c : Int} {l : List Int} : Adj ts a b → Wlk ts b c l → Wlk ts a c (a :: l)
theorem Wlk.mono {ts us : Ties} (s : ∀ t ∈ ts, t ∈ us) {a b : Int} {l : List Int} (h : Wlk ts a b l) : Wlk us a b l := by
  induction h with
  | one a => exact .one a
  | cons e _ ih => exact .cons (e.mono s) ih
theorem Wlk.rch {ts : Ties} {a b : Int} {l : List Int} (h : Wlk ts a b l) : Rch ts a b := by
  induction h with
  | one a => exact .refl
  | cons e _ ih => exact (Rch.one e).trans ih
theorem Wlk.ne_nil {ts : Ties} {a b : Int} {l : List Int} (h : Wlk ts a b l) : l ≠ [] := by
  cases h <;> exact List.cons_ne_nil _ _
theorem Wlk.head {ts : Ties} {a b : Int} {l : List Int} (h : Wlk ts a b l) : l.head? = some a := by
  cases h <;> rfl
theorem Wlk.mem_a {ts : Ties} {a b : Int} {l : List Int} (h : Wlk ts a b l) : a ∈ l := by
  cases h <;> exact List.mem_cons_self
theorem Wlk.mem_b {ts : Ties} {a b : Int} {l : List Int} (h : Wlk ts a b l) : b ∈ l := by
  induction h with
  | one a => exact List.mem_cons_self
  | cons _ _ ih => exact List.mem_cons_of_mem _ ih
theorem Wlk.snoc {ts : Ties} {a b c : Int} {l : List Int} (h : Wlk ts a b l) (e : Adj ts b c) : Wlk ts a c (l ++ [c]) := by
  induction h with
  | one a => exact .cons e (.one c)
  | cons e' _ ih => exact .cons e' (ih e)
theorem Wlk.rev {ts : Ties} {a b : Int} {l : List Int} (h : Wlk ts a b l) : Wlk ts b a l.reverse := by
  induction h with
  | one a => exact .one a
  | cons e _ ih =>
    rw [List.reverse_cons]
    exact ih.snoc e.symm
/-- every point of it is joined with the first -/
theorem Wlk.rch_of_mem {ts : Ties} {a b : Int} {l : List Int} (h : Wlk ts a b l) : ∀ x ∈ l, Rch ts a x := by
  induction h with
  | one a =>
    intro x m
    rw [List.mem_singleton.mp m]
    exact .refl
  | cons e _ ih =>
    intro x m
    rcases List.mem_cons.mp m with rfl | m
    · exact .refl
    · exact (Rch.one e).trans (ih x m)
/-- a way: gone along ties, none twice -/
structure Way (ts : Ties) (a b : Int) (l : List Int) : Prop where
  wk : Wlk ts a b l
  nd : l.Nodup
/-- no tie can be gone round -/
def Tree (ts : Ties) : Prop := ∀ t ∈ ts, ¬ Rch (ts.filter fun u => decide (u ≠ t)) t.1 t.2
/-- whoever goes along a walk that hasn't a, doesn't use a's ties -/
theorem Wlk.avoid {ts : Ties} {b c a : Int} {l : List Int} (h : Wlk ts b c l) (n : a ∉ l) (t : Int × Int) (ht : t.1 = a ∨ t.2 = a) : Wlk (ts.filter fun u => decide (u ≠ t)) b c l := by
  induction h with
  | one x => exact .one x
  | @cons x y z l e w ih =>
    have nx : a ≠ x := fun q => n (q ▸ List.mem_cons_self)
    have nl : a ∉ l := fun q => n (List.mem_cons_of_mem _ q)
    have ny : a ≠ y := fun q => nl (q ▸ w.mem_a)
    refine .cons ?_ (ih nl)
    rcases e with e | e
    · refine .inl (List.mem_filter.mpr ⟨e, decide_eq_true fun q => ?_⟩)
      subst q
      rcases ht with q | q
      · exact nx q.symm
      · exact ny q.symm
    · refine .inr (List.mem_filter.mpr ⟨e, decide_eq_true fun q => ?_⟩)
      subst q
      rcases ht with q | q
      · exact ny q.symm
      · exact nx q.symm
theorem Way.self {ts : Ties} {a : Int} {l : List Int} (h : Way ts a a l) : l = [a] := by
  obtain ⟨w, nd⟩ := h
  cases w with
  | one => rfl
  | cons e w => exact absurd w.mem_b (List.nodup_cons.mp nd).1
/-- there is one way -/
theorem way_unique {ts : Ties} (T : Tree ts) : ∀ {l m : List Int} {a b : Int}, Way ts a b l → Way ts a b m → l = m := by
  intro l
  induction l with
  | nil =>
    intro m a b h _
    exact absurd rfl h.wk.ne_nil
  | cons x l ih =>
    intro m a b h g
    obtain ⟨w, nd⟩ := h
    cases w with
    | one => exact (Way.self g).symm
    | @cons _ y _ _ e w =>
      have nl := (List.nodup_cons.mp nd).1
      obtain ⟨w2, nd2⟩ := g
      cases w2 with
      | one => exact absurd w.mem_b nl
      | @cons _ z _ m e2 w2 =>
        have nm := (List.nodup_cons.mp nd2).1
        by_cases q : y = z
        · subst q
          rw [ih ⟨w, (List.nodup_cons.mp nd).2⟩ ⟨w2, (List.nodup_cons.mp nd2).2⟩]
        · exfalso
          -- the tie of x and y is gone round
          have go : ∀ t : Int × Int, (t = (x, y) ∨ t = (y, x)) → t ∈ ts → False := by
            intro t ht mt
            have h1 : t.1 = x ∨ t.2 = x := by
              rcases ht with rfl | rfl
              · exact .inl rfl
              · exact .inr rfl
            have r1 : Rch (ts.filter fun u => decide (u ≠ t)) y b := (w.avoid nl t h1).rch
            have r2 : Rch (ts.filter fun u => decide (u ≠ t)) z b := (w2.avoid nm t h1).rch
            have nxy : x ≠ y := fun q => nl (q ▸ w.mem_a)
            have e3 : Adj (ts.filter fun u => decide (u ≠ t)) x z := by
              rcases e2 with e2 | e2
              · refine .inl (List.mem_filter.mpr ⟨e2, decide_eq_true fun k => ?_⟩)
                rcases ht with rfl | rfl
                · exact q (Prod.mk.inj k).2.symm
                · exact nxy (Prod.mk.inj k).1
              · refine .inr (List.mem_filter.mpr ⟨e2, decide_eq_true fun k => ?_⟩)
                rcases ht with rfl | rfl
                · exact nxy (Prod.mk.inj k).2
                · exact q (Prod.mk.inj k).1.symm
            have r3 : Rch (ts.filter fun u => decide (u ≠ t)) x y := ((Rch.one e3).trans r2).trans r1.symm
            rcases ht with rfl | rfl
            · exact T _ mt r3
            · exact T _ mt r3.symm
          rcases e with e | e
          · exact go _ (.inl rfl) e
          · exact go _ (.inr rfl) e
theorem Way.rev {ts : Ties} {a b : Int} {l : List Int} (h : Way ts a b l) : Way ts b a l.reverse := ⟨h.wk.rev, List.pairwise_reverse.mpr (h.nd.imp fun n e => n e.symm)⟩
theorem Way.snoc {ts : Ties} {a b c : Int} {l : List Int} (h : Way ts a b l) (e : Adj ts b c) (n : c ∉ l) : Way ts a c (l ++ [c]) :=
  ⟨h.wk.snoc e, List.nodup_append.mpr ⟨h.nd, List.nodup_cons.mpr ⟨List.not_mem_nil, List.nodup_nil⟩, fun x m y k z => by
    rw [List.mem_singleton.mp k] at z
    exact n (z ▸ m)⟩⟩
/-- a way up to a point of it -/
theorem Wlk.upto {ts : Ties} {a b : Int} {l : List Int} (h : Wlk ts a b l) : ∀ {x : Int}, x ∈ l → ∃ p s, l = p ++ s ∧ Wlk ts a x p ∧ ∃ s', Wlk ts x b (x :: s') ∧ s = s' := by
  induction h with
  | one a =>
    intro x m
    have e := List.mem_singleton.mp m
    subst e
    exact ⟨[x], [], rfl, .one x, [], .one x, rfl⟩
  | @cons a c b l e w ih =>
    intro x m
    rcases List.mem_cons.mp m with rfl | m
    · exact ⟨[x], l, rfl, .one x, l, .cons e w, rfl⟩
    · obtain ⟨p, s, h1, h2, s', h3, h4⟩ := ih m
      exact ⟨a :: p, s, by rw [h1]; rfl, .cons e h2, s', h3, h4⟩
/-- where two are joined there is a way -/
theorem rch_way {ts : Ties} {a b : Int} (h : Rch ts a b) : ∃ l, Way ts a b l := by
  induction h with
  | refl => exact ⟨[a], .one a, by simp⟩
  | @step b c _ e ih =>
    obtain ⟨l, w⟩ := ih
    by_cases m : c ∈ l
    · obtain ⟨p, s, h1, h2, _⟩ := w.wk.upto m
      refine ⟨p, h2, ?_⟩
      have nd := w.nd
      rw [h1] at nd
      exact (List.nodup_append.mp nd).1
    · exact ⟨_, w.snoc e m⟩
/-! ### a tie that leads to a new point -/
theorem rch_contract {ts : Ties} {u v p q : Int} {k : Ties} (hv : ∀ t ∈ ts, t.1 ≠ v ∧ t.2 ≠ v) (hk : ∀ t ∈ k, t ∈ ts ∨ t = (u, v) ∨ t = (v, u)) (nuv : u ≠ v) (us : Ties) (hus : ∀ t ∈ k, t ∈ ts → t ∈ us) (h : Rch k p q) :
    Rch us (if p = v then u else p) (if q = v then u else q) := by
  induction h with
  | refl => exact .refl
  | @step b c _ e ih =>
    refine ih.trans ?_
    have one : ∀ {x y : Int}, (x, y) ∈ k → Rch us (if x = v then u else x) (if y = v then u else y) := by
      intro x y m
      rcases hk _ m with z | z | z
      · have n := hv _ z
        rw [if_neg n.1, if_neg n.2]
        exact .one (.inl (hus _ m z))
      · obtain ⟨rfl, rfl⟩ := Prod.mk.inj z
        rw [if_neg nuv, if_pos rfl]
        exact .refl
      · obtain ⟨rfl, rfl⟩ := Prod.mk.inj z
        rw [if_neg nuv, if_pos rfl]
        exact .refl
    rcases e with e | e
    · exact one e
    · exact (one e).symm
theorem tree_nil : Tree [] := fun _ m => absurd m List.not_mem_nil
theorem rch_isolated {ts : Ties} {a v : Int} (hv : ∀ t ∈ ts, t.1 ≠ v ∧ t.2 ≠ v) (h : Rch ts a v) : a = v := by
  cases h with
  | refl => rfl
  | step _ e =>
    rcases e with e | e
    · exact absurd rfl (hv _ e).2
    · exact absurd rfl (hv _ e).1
theorem tree_snoc {ts : Ties} {u v : Int} {t : Int × Int} (T : Tree ts) (hv : ∀ t ∈ ts, t.1 ≠ v ∧ t.2 ≠ v) (nuv : u ≠ v) (ht : t = (u, v) ∨ t = (v, u)) : Tree (ts ++ [t]) := by
  intro e me h
  have tv : t.1 = v ∨ t.2 = v := by
    rcases ht with rfl | rfl
    · exact .inr rfl
    · exact .inl rfl
  rcases List.mem_append.mp me with m | m
  · have ne : e ≠ t := fun q => by
      have z := hv e m
      rw [q] at z
      rcases tv with y | y
      · exact z.1 y
      · exact z.2 y
    have n := hv e m
    have r := rch_contract (ts := ts) (u := u) (v := v) (us := ts.filter fun x => decide (x ≠ e)) hv (fun x hx => ?_) nuv (fun x hx hm => ?_) h
    · rw [if_neg n.1, if_neg n.2] at r
      exact T e m r
    · rcases List.mem_append.mp (List.mem_filter.mp hx).1 with z | z
      · exact .inl z
      · rw [List.mem_singleton.mp z]
        exact .inr ht
    · exact List.mem_filter.mpr ⟨hm, (List.mem_filter.mp hx).2⟩
  · have q := List.mem_singleton.mp m
    subst q
    have iso : ∀ x ∈ ((ts ++ [e]).filter fun x => decide (x ≠ e)), x.1 ≠ v ∧ x.2 ≠ v := fun x hx => by
      obtain ⟨h1, h2⟩ := List.mem_filter.mp hx
      rcases List.mem_append.mp h1 with z | z
      · exact hv x z
      · exact absurd (List.mem_singleton.mp z) (of_decide_eq_true h2)
    rcases ht with rfl | rfl
    · exact nuv (rch_isolated iso h)
    · exact nuv (rch_isolated iso h.symm)
theorem rch_perm {ts us : Ties} (p : ∀ t, t ∈ ts ↔ t ∈ us) {a b : Int} (h : Rch ts a b) : Rch us a b := h.mono fun t m => (p t).mp m
theorem tree_perm {ts us : Ties} (p : ∀ t, t ∈ ts ↔ t ∈ us) (T : Tree ts) : Tree us := fun t m h => T t ((p t).mpr m) (h.mono fun x hx => by
  obtain ⟨h1, h2⟩ := List.mem_filter.mp hx
  exact List.mem_filter.mpr ⟨(p x).mpr h1, h2⟩)
/-- with a tie cut its two are apart, and each is with one of them -/
theorem rch_cut {ts : Ties} {t : Int × Int} (mt : t ∈ ts) {a b : Int} (h : Rch ts a b) : Rch (ts.filter fun u => decide (u ≠ t)) a b ∨ (Rch (ts.filter fun u => decide (u ≠ t)) a t.1 ∧ Rch (ts.filter fun u => decide (u ≠ t)) t.2 b) ∨ (Rch (ts.filter fun u => decide (u ≠ t)) a t.2 ∧ Rch (ts.filter fun u => decide (u ≠ t)) t.1 b) := by
  induction h with
  | refl => exact .inl .refl
  | @step b c _ e ih =>
    have key : Adj (ts.filter fun u => decide (u ≠ t)) b c ∨ (b = t.1 ∧ c = t.2) ∨ (b = t.2 ∧ c = t.1) := by
      rcases e with e | e
      · by_cases q : (b, c) = t
        · exact .inr (.inl (by rw [← q]; exact ⟨rfl, rfl⟩))
        · exact .inl (.inl (List.mem_filter.mpr ⟨e, decide_eq_true q⟩))
      · by_cases q : (c, b) = t
        · exact .inr (.inr (by rw [← q]; exact ⟨rfl, rfl⟩))
        · exact .inl (.inr (List.mem_filter.mpr ⟨e, decide_eq_true q⟩))
    rcases key with k | ⟨rfl, rfl⟩ | ⟨rfl, rfl⟩
    · rcases ih with h | ⟨h1, h2⟩ | ⟨h1, h2⟩
      · exact .inl (.step h k)
      · exact .inr (.inl ⟨h1, .step h2 k⟩)
      · exact .inr (.inr ⟨h1, .step h2 k⟩)
    · rcases ih with h | ⟨h1, h2⟩ | ⟨h1, h2⟩
      · exact .inr (.inl ⟨h, .refl⟩)
      · exact .inr (.inl ⟨h1, .refl⟩)
      · exact .inl h1
    · rcases ih with h | ⟨h1, h2⟩ | ⟨h1, h2⟩
      · exact .inr (.inr ⟨h, .refl⟩)
      · exact .inl h1
      · exact .inr (.inr ⟨h1, .refl⟩)

end My
namespace My
open PySem L2

/-! ### the text by places -/
def topS (i : Nat) : Stmt := PySem.Challenge.pw_tiedcut_k79_forests_shown.main.body.getD i (.Pass ⟨0, 0, 0, 0⟩)
abbrev s_showwords : Stmt := topS 1
abbrev s_showword : Stmt := topS 2
abbrev s_shownumber : Stmt := topS 3
abbrev s_showforest : Stmt := topS 5
abbrev s_forestrows : Stmt := topS 6
abbrev s_Lbegin : Stmt := topS 8
abbrev s_Lnext : Stmt := topS 9
abbrev s_Lmany : Stmt := topS 10
abbrev s_Lworth : Stmt := topS 11
abbrev s_Lforest : Stmt := topS 12
abbrev s_Lrowsof : Stmt := topS 13
abbrev s_law : Stmt := topS 14
theorem sc_showwords : FnScope ["parts", "part"] ["parts"] (defScope s_showwords) := ⟨rfl, rfl, rfl, by decide +kernel, rfl, by decide +kernel, by decide +kernel⟩
theorem sc_showword : FnScope ["part"] ["part"] (defScope s_showword) := ⟨rfl, rfl, rfl, by decide +kernel, rfl, by decide +kernel, by decide +kernel⟩
theorem sc_shownumber : FnScope ["number", "pieces", "rest", "low"] ["number"] (defScope s_shownumber) := ⟨rfl, rfl, rfl, by decide +kernel, rfl, by decide +kernel, by decide +kernel⟩
theorem sc_showforest : FnScope ["forest"] ["forest"] (defScope s_showforest) := ⟨rfl, rfl, rfl, by decide +kernel, rfl, by decide +kernel, by decide +kernel⟩
theorem sc_forestrows : FnScope ["forest", "points", "ties", "point", "tie"] ["forest"] (defScope s_forestrows) := ⟨rfl, rfl, rfl, by decide +kernel, rfl, by decide +kernel, by decide +kernel⟩
theorem sc_Lbegin : FnScope ["_law_script"] ["_law_script"] (defScope s_Lbegin) := ⟨rfl, rfl, rfl, by decide +kernel, rfl, by decide +kernel, by decide +kernel⟩
theorem sc_Lnext : FnScope ["_law_draws", "_law_many_here", "_law_cell", "_law_digit"] ["_law_draws", "_law_many_here"] (defScope s_Lnext) := ⟨rfl, rfl, rfl, by decide +kernel, rfl, by decide +kernel, by decide +kernel⟩
theorem sc_Lmany : FnScope ["_law_draws", "_law_few", "_law_most"] ["_law_draws", "_law_few", "_law_most"] (defScope s_Lmany) := ⟨rfl, rfl, rfl, by decide +kernel, rfl, by decide +kernel, by decide +kernel⟩
theorem sc_Lworth : FnScope ["_law_draws", "_law_way"] ["_law_draws"] (defScope s_Lworth) := ⟨rfl, rfl, rfl, by decide +kernel, rfl, by decide +kernel, by decide +kernel⟩
theorem sc_Lforest : FnScope ["_law_draws", "_law_most", "_law_many_here", "_law_names", "_law_k", "_law_way", "_law_rare", "_law_ties", "_law_former", "_law_points"] ["_law_draws", "_law_most"] (defScope s_Lforest) := ⟨rfl, rfl, rfl, by decide +kernel, rfl, by decide +kernel, by decide +kernel⟩
theorem sc_Lrowsof : FnScope ["_law_forest_here", "_law_rows", "_law_worth_here", "_law_kind", "_law_one", "_law_other"] ["_law_forest_here"] (defScope s_Lrowsof) := ⟨rfl, rfl, rfl, by decide +kernel, rfl, by decide +kernel, by decide +kernel⟩
theorem sc_law : FnScope ["_law_script", "_law_draws", "_law_turn", "_law_forest_here", "_law_due", "_law_again", "_law_found"] ["_law_script"] (defScope s_law) := ⟨rfl, rfl, rfl, by decide +kernel, rfl, by decide +kernel, by decide +kernel⟩
/-- what the top has left -/
structure Top (K : PySem.W.Frag) (mg : Str → Option Value) where
  a_showwords : Addr
  d_showwords : FuncData
  F_showwords : Fun K "show_words" "show_words" s_showwords a_showwords d_showwords
  b_showwords : Binds K d_showwords ["parts"] []
  g_showwords : mg "show_words" = some (.ref a_showwords)
  a_showword : Addr
  d_showword : FuncData
  F_showword : Fun K "show_word" "show_word" s_showword a_showword d_showword
  b_showword : Binds K d_showword ["part"] []
  g_showword : mg "show_word" = some (.ref a_showword)
  a_shownumber : Addr
  d_shownumber : FuncData
  F_shownumber : Fun K "show_number" "show_number" s_shownumber a_shownumber d_shownumber
  b_shownumber : Binds K d_shownumber ["number"] []
  g_shownumber : mg "show_number" = some (.ref a_shownumber)
  a_showforest : Addr
  d_showforest : FuncData
  F_showforest : Fun K "show_forest" "show_forest" s_showforest a_showforest d_showforest
  b_showforest : Binds K d_showforest ["forest"] []
  g_showforest : mg "show_forest" = some (.ref a_showforest)
  a_forestrows : Addr
  d_forestrows : FuncData
  F_forestrows : Fun K "forest_rows" "forest_rows" s_forestrows a_forestrows d_forestrows
  b_forestrows : Binds K d_forestrows ["forest"] []
  g_forestrows : mg "forest_rows" = some (.ref a_forestrows)
  a_Lbegin : Addr
  d_Lbegin : FuncData
  F_Lbegin : Fun K "_law_begin" "_law_begin" s_Lbegin a_Lbegin d_Lbegin
  b_Lbegin : Binds K d_Lbegin ["_law_script"] []
  g_Lbegin : mg "_law_begin" = some (.ref a_Lbegin)
  a_Lnext : Addr
  d_Lnext : FuncData
  F_Lnext : Fun K "_law_next" "_law_next" s_Lnext a_Lnext d_Lnext
  b_Lnext : Binds K d_Lnext ["_law_draws", "_law_many_here"] []
  g_Lnext : mg "_law_next" = some (.ref a_Lnext)
  a_Lmany : Addr
  d_Lmany : FuncData
  F_Lmany : Fun K "_law_many" "_law_many" s_Lmany a_Lmany d_Lmany
  b_Lmany : Binds K d_Lmany ["_law_draws", "_law_few", "_law_most"] []
  g_Lmany : mg "_law_many" = some (.ref a_Lmany)
  a_Lworth : Addr
  d_Lworth : FuncData
  F_Lworth : Fun K "_law_worth" "_law_worth" s_Lworth a_Lworth d_Lworth
  b_Lworth : Binds K d_Lworth ["_law_draws"] []
  g_Lworth : mg "_law_worth" = some (.ref a_Lworth)
  a_Lforest : Addr
  d_Lforest : FuncData
  F_Lforest : Fun K "_law_forest" "_law_forest" s_Lforest a_Lforest d_Lforest
  b_Lforest : Binds K d_Lforest ["_law_draws", "_law_most"] []
  g_Lforest : mg "_law_forest" = some (.ref a_Lforest)
  a_Lrowsof : Addr
  d_Lrowsof : FuncData
  F_Lrowsof : Fun K "_law_rows_of" "_law_rows_of" s_Lrowsof a_Lrowsof d_Lrowsof
  b_Lrowsof : Binds K d_Lrowsof ["_law_forest_here"] []
  g_Lrowsof : mg "_law_rows_of" = some (.ref a_Lrowsof)
  a_law : Addr
  d_law : FuncData
  F_law : Fun K "law" "law" s_law a_law d_law
  b_law : Binds K d_law ["_law_script"] []
  g_law : mg "law" = some (.ref a_law)
  m_abs : mg "abs" = none
  m_int : mg "int" = none
  m_isinstance : mg "isinstance" = none
  m_len : mg "len" = none
  m_list : mg "list" = none
  m_max : mg "max" = none
  m_min : mg "min" = none
  m_range : mg "range" = none
  m_reversed : mg "reversed" = none
  m_sorted : mg "sorted" = none
  m_str : mg "str" = none
  m_tuple : mg "tuple" = none
end My
namespace My
open PySem L2
/-! ### the store of draws -/
def kv (c : Addr) (a l s : Int) : List (Key × V) := [(Sum.inr "cells", .ref c), (Sum.inr "at", .int a), (Sum.inr "left", .int l), (Sum.inr "seed", .int s)]
theorem m1 : ¬ (("cells" : Str) = "at") := by decide +kernel
theorem n1 : ¬ ((Sum.inr ("cells" : Str) : Key) = Sum.inr ("at" : Str)) := fun e => m1 (Sum.inr.inj e)
theorem m2 : ¬ (("cells" : Str) = "left") := by decide +kernel
theorem n2 : ¬ ((Sum.inr ("cells" : Str) : Key) = Sum.inr ("left" : Str)) := fun e => m2 (Sum.inr.inj e)
theorem m3 : ¬ (("cells" : Str) = "seed") := by decide +kernel
theorem n3 : ¬ ((Sum.inr ("cells" : Str) : Key) = Sum.inr ("seed" : Str)) := fun e => m3 (Sum.inr.inj e)
theorem m4 : ¬ (("at" : Str) = "left") := by decide +kernel
theorem n4 : ¬ ((Sum.inr ("at" : Str) : Key) = Sum.inr ("left" : Str)) := fun e => m4 (Sum.inr.inj e)
theorem m5 : ¬ (("at" : Str) = "seed") := by decide +kernel
theorem n5 : ¬ ((Sum.inr ("at" : Str) : Key) = Sum.inr ("seed" : Str)) := fun e => m5 (Sum.inr.inj e)
theorem m6 : ¬ (("left" : Str) = "seed") := by decide +kernel
theorem n6 : ¬ ((Sum.inr ("left" : Str) : Key) = Sum.inr ("seed" : Str)) := fun e => m6 (Sum.inr.inj e)
theorem m7 : ¬ (("seed" : Str) = "left") := by decide +kernel
theorem n7 : ¬ ((Sum.inr ("seed" : Str) : Key) = Sum.inr ("left" : Str)) := fun e => m7 (Sum.inr.inj e)
theorem m8 : ¬ (("seed" : Str) = "at") := by decide +kernel
theorem n8 : ¬ ((Sum.inr ("seed" : Str) : Key) = Sum.inr ("at" : Str)) := fun e => m8 (Sum.inr.inj e)
theorem m9 : ¬ (("left" : Str) = "at") := by decide +kernel
theorem n9 : ¬ ((Sum.inr ("left" : Str) : Key) = Sum.inr ("at" : Str)) := fun e => m9 (Sum.inr.inj e)
section
variable {H : Hp} {d c : Addr} {a l s : Int}
theorem g_cells (h : H d = some (.dK (kv c a l s))) : DGet H d (.str "cells") (some (.ref c)) := by
  have q := DGet.k (k := (Sum.inr "cells" : Key)) h
  unfold kv at q
  rw [valV_pos rfl] at q
  exact q
theorem g_at (h : H d = some (.dK (kv c a l s))) : DGet H d (.str "at") (some (.int a)) := by
  have q := DGet.k (k := (Sum.inr "at" : Key)) h
  unfold kv at q
  rw [valV_neg n1, valV_pos rfl] at q
  exact q
theorem g_left (h : H d = some (.dK (kv c a l s))) : DGet H d (.str "left") (some (.int l)) := by
  have q := DGet.k (k := (Sum.inr "left" : Key)) h
  unfold kv at q
  rw [valV_neg n2, valV_neg n4, valV_pos rfl] at q
  exact q
theorem g_seed (h : H d = some (.dK (kv c a l s))) : DGet H d (.str "seed") (some (.int s)) := by
  have q := DGet.k (k := (Sum.inr "seed" : Key)) h
  unfold kv at q
  rw [valV_neg n3, valV_neg n5, valV_neg n6, valV_pos rfl] at q
  exact q
theorem small4 : (kv c a l s).length < sizeLine := by
  show 4 < sizeLine
  decide
theorem p_at (h : H d = some (.dK (kv c a l s))) (x : Int) : DPut H d (.str "at") (.int x) (upd H d (.dK (kv c x l s))) := by
  have q := DPut.k (k := (Sum.inr "at" : Key)) (v := .int x) h small4
  have e : putK (kv c a l s) (Sum.inr "at" : Key) (.int x) = kv c x l s := by
    simp [putK, kv, m1, m9, m8]
  rw [e] at q
  exact q
theorem p_left (h : H d = some (.dK (kv c a l s))) (x : Int) : DPut H d (.str "left") (.int x) (upd H d (.dK (kv c a x s))) := by
  have q := DPut.k (k := (Sum.inr "left" : Key)) (v := .int x) h small4
  have e : putK (kv c a l s) (Sum.inr "left" : Key) (.int x) = kv c a x s := by
    simp [putK, kv, m2, m4, m7]
  rw [e] at q
  exact q
theorem p_seed (h : H d = some (.dK (kv c a l s))) (x : Int) : DPut H d (.str "seed") (.int x) (upd H d (.dK (kv c a l x))) := by
  have q := DPut.k (k := (Sum.inr "seed" : Key)) (v := .int x) h small4
  have e : putK (kv c a l s) (Sum.inr "seed" : Key) (.int x) = kv c a l x := by
    simp [putK, kv, m3, m5, m6]
  rw [e] at q
  exact q
end
structure Draw (H : Hp) (d c : Addr) (ns : List Int) : Prop where
  dc : ∃ a l s : Int, H d = some (.dK (kv c a l s)) ∧ 0 ≤ a ∧ 0 ≤ l ∧ 0 ≤ s ∧ s < 2305843009213693951
  cs : H c = some (.lst (ns.map V.int))
theorem Tups.of_butD {K : PySem.W.Frag} {H H' : Hp} {d : Addr} {l : List (Key × V)} (s : But d H H') (e : H d = some (.dK l)) : Tups K H H' := fun a xs h => by
  rcases h with h | h
  · rcases h with h | ⟨o, h⟩
    · exact .inl (.inl (s _ _ h (ne_of h e (by intro z; cases z))))
    · exact .inl (.inr ⟨o, s _ _ h (ne_of h e (by intro z; cases z))⟩)
  · exact .inr h
structure DrAt (H : Hp) (d c : Addr) : Prop where
  ex : ∃ ns : List Int, Draw H d c ns
theorem DrAt.dk {H : Hp} {d c : Addr} (B : DrAt H d c) : ∃ kvs, H d = some (.dK kvs) := by
  obtain ⟨ns, ⟨⟨a, l, s, h, _⟩, _⟩⟩ := B.ex
  exact ⟨_, h⟩
theorem DrAt.ls {H : Hp} {d c : Addr} (B : DrAt H d c) : ∃ xs, H c = some (.lst xs) := by
  obtain ⟨ns, ⟨_, h⟩⟩ := B.ex
  exact ⟨_, h⟩
theorem DrAt.same {H H' : Hp} {d c : Addr} (B : DrAt H d c) (s : Same H H') : DrAt H' d c := by
  obtain ⟨ns, ⟨⟨a, l, x, h, r⟩, k⟩⟩ := B.ex
  exact ⟨ns, ⟨a, l, x, s _ _ h, r⟩, s _ _ k⟩
theorem DrAt.new {H : Hp} {d c p : Addr} {o : HO} (B : DrAt H d c) (n : H p = none) : DrAt (upd H p o) d c := B.same (same_new n)
theorem DrAt.put {H : Hp} {d c p : Addr} {o : HO} (B : DrAt H d c) (n1 : p ≠ d) (n2 : p ≠ c) : DrAt (upd H p o) d c := by
  obtain ⟨ns, ⟨⟨a, l, x, h, r⟩, k⟩⟩ := B.ex
  refine ⟨ns, ⟨a, l, x, ?_, r⟩, ?_⟩
  · rw [upd_ne n1.symm]
    exact h
  · rw [upd_ne n2.symm]
    exact k
theorem DrAt.tups {K : PySem.W.Frag} {H H' : Hp} {d c : Addr} (B : DrAt H d c) (s : But d H H') : Tups K H H' := by
  obtain ⟨kvs, h⟩ := B.dk
  exact Tups.of_butD s h
theorem DrAt.ne {H : Hp} {d c p : Addr} (B : DrAt H d c) (n : H p = none) : p ≠ d := by
  obtain ⟨kvs, h⟩ := B.dk
  exact (ne_of_none h n).symm
theorem DrAt.neL {H : Hp} {d c p : Addr} (B : DrAt H d c) (n : H p = none) : p ≠ c := by
  obtain ⟨xs, h⟩ := B.ls
  exact (ne_of_none h n).symm
theorem DrAt.back {H H' : Hp} {d c p : Addr} (B : DrAt H' d c) (s : But d H H') (n : H' p = none) : H p = none := by
  cases e : H p with
  | none => rfl
  | some o =>
    have z := s _ _ e (B.ne n)
    rw [z] at n
    cases n
def spBegin (K : PySem.W.Frag) : Sp := fun vs H Q _ => ∃ (a : Addr) (ns : List Int), vs = [.ref a] ∧ SqL K H a (ns.map V.int) ∧ ∀ (d c : Addr) (ms : List Int) (H' : Hp), Same H H' → H d = none → Draw H' d c ms → Q (.ref d) H'
def spNext : Sp := fun vs H Q _ => ∃ (d c : Addr) (ns : List Int) (many : Int), vs = [.ref d, .int many] ∧ Draw H d c ns ∧ 0 < many ∧ many < 2 ^ 100 ∧
  ∀ (x : Int) (H' : Hp), 0 ≤ x → x < many → Draw H' d c ns → But d H H' → Q (.int x) H'
def spNextD : Sp := fun vs H Q _ => ∃ (d c : Addr) (many : Int), vs = [.ref d, .int many] ∧ DrAt H d c ∧ 0 < many ∧ many < 2 ^ 100 ∧
  ∀ (x : Int) (H' : Hp), 0 ≤ x → x < many → DrAt H' d c → But d H H' → Q (.int x) H'
def spManyD : Sp := fun vs H Q _ => ∃ (d c : Addr) (f m : Int), vs = [.ref d, .int f, .int m] ∧ DrAt H d c ∧ 0 ≤ f ∧ 0 ≤ m ∧ f < 1000 ∧ m < 1000 ∧ ∀ (x : Int) (H' : Hp), 0 ≤ x → (x ≤ f ∨ x ≤ m) → DrAt H' d c → But d H H' → Q (.int x) H'
theorem pow30 : (10 : Int) ^ (30 : Int).toNat = 1000000000000000000000000000000 := by decide +kernel
theorem pow18 : (10 : Int) ^ (18 : Int).toNat = 1000000000000000000 := by decide +kernel
section
variable {P : Program} {w : World} {K : PySem.W.Frag} {mg : Str → Option Value} {base : Heap}
theorem cut63 (ns : List Int) : ∃ ms : List Int, cutV (ns.map V.int) none (some 63) = ms.map V.int := by
  refine ⟨ns.take (HT.sIx ns.length ns.length (some 63)), ?_⟩
  unfold cutV
  rw [HT.sIx_none, List.drop_zero, Nat.sub_zero, List.length_map, List.map_take]
theorem ok_begin (T : Top K mg) : FnOk P w K mg base CX0 1 T.a_Lbegin T.d_Lbegin ["_law_script"] (spBegin K) := by
  refine T.F_Lbegin.ok sc_Lbegin (fun vs H Q E h => ?_) (fun cdv A outer s H vs Q E hr h => ?_)
  · obtain ⟨x, ns, rfl, _⟩ := h
    rfl
  · obtain ⟨a, ns, rfl, hS, q⟩ := h
    refine ⟨_, (pss_one (ps_ret (pe_disp (pps_cons pe_str (pe_callTy call_list_of (by rfl) T.m_list (by decide +kernel) (pa_cons (pe_slice sl_list (pv 0) po_none (po_some pe_int)) pa_nil)) (pps_cons pe_str pe_int (pps_cons pe_str pe_int (pps_cons pe_str pe_int pps_nil)))) (by rfl) (by rfl) (fun z => by cases z) (by decide)))), ?_⟩
    intro d nd
    have s1 : Same H (upd H d (.dK [])) := same_new nd
    obtain ⟨ms, em⟩ := cut63 ns
    refine ⟨_, rfl, 63, rfl, a, _, rfl, s1.seq hS, fun p np => ?_⟩
    have s2 := same_new (H := upd H d (.dK [])) (o := .lst (cutV (ns.map V.int) none (some 63))) np
    refine ⟨p, _, rfl, .inl (SqL.of upd_same), fun c nc => ?_⟩
    have s3 := same_new (H := upd (upd H d (.dK [])) p (.lst (cutV (ns.map V.int) none (some 63)))) (o := .lst (cutV (ns.map V.int) none (some 63))) nc
    have hd2 := s3 _ _ (s2 _ _ (upd_same (H := H) (a := d) (o := .dK [])))
    refine ⟨hd2, kv c 0 0 1000003, rfl, (by show 4 ≤ 15; decide), ?_⟩
    have em2 : mergeK [] (kv c 0 0 1000003) = kv c 0 0 1000003 := by
      simp [mergeK, kv, putK, m1, m2, m3, m4, m5, m6]
    rw [em2]
    have ncd : c ≠ d := fun e => by
      subst e
      rw [s2 _ _ (upd_same (H := H) (a := c) (o := .dK []))] at nc
      cases nc
    refine q d c ms _ ?_ nd ⟨⟨0, 0, 1000003, upd_same, by decide, by decide, by decide, by decide⟩, ?_⟩
    · intro b o e
      rw [upd_ne (ne_of_none e nd)]
      exact s3 _ _ (s2 _ _ (s1 _ _ e))
    · rw [upd_ne ncd, upd_same, em]
theorem ok_next (T : Top K mg) : FnOk P w K mg base CX0 1 T.a_Lnext T.d_Lnext ["_law_draws", "_law_many_here"] spNext := by
  refine T.F_Lnext.ok sc_Lnext (fun vs H Q E h => ?_) (fun cdv A outer s H vs Q E hr h => ?_)
  · obtain ⟨d, c, ns, many, rfl, _⟩ := h
    rfl
  · obtain ⟨d, c, ns, many, rfl, ⟨⟨a, l, sd, hd, ha, hl, hs0, hs1⟩, hc⟩, hm0, hm1, q⟩ := h
    have ndc : c ≠ d := ne_of hc hd (by intro z; cases z)
    refine ⟨_, (pss_cons (ps_mid (ps_if (PW.pt (pw_and (pt_cmpR op_eq (pe_dget (u1 hr) (pv 0) pe_str (fun _ _ => rfl)) pe_int (nomark _)) (pw_and1 (pt_cmpR op_lt (pe_dget (u1 hr) (pv 0) pe_str (fun _ _ => rfl)) (pe_callB call_len_seq (by rfl) T.m_len PySem.boot_len (pa_cons (pe_dget (u1 hr) (pv 0) pe_str (fun _ _ => rfl)) pa_nil)) (nomark _))))) (pss_cons (ps_set (i := 2) sc_Lnext.nd rfl (.inl rfl) (pe_ix ix_list (pe_dget (u1 hr) (pv 0) pe_str (fun _ _ => rfl)) (pe_dget (u1 hr) (pv 0) pe_str (fun _ _ => rfl)) (fun _ _ => rfl)))
      (pss_cons (ps_dput (u1 hr) (pv 0) pe_str (pe_op op_add (pe_dget (u1 hr) (pv 0) pe_str (fun _ _ => rfl)) pe_int) rfl)
      (pss_cons (ps_dput (u1 hr) (pv 0) pe_str (pe_op op_mod (pe_op op_add (pe_op op_add (pe_op op_mul (pe_dget (u1 hr) (pv 0) pe_str (fun _ _ => rfl)) pe_int) (pe_op op_mod (pv 2) (pe_op op_pow pe_int pe_int))) pe_int) pe_int) rfl)
      (pss_one (ps_dput (u1 hr) (pv 0) pe_str (pe_op op_mul (pv 2) (pe_callTy call_int1 (by rfl) T.m_int (by decide +kernel) (pa_cons (pe_cmpR op_ge (pv 2) (pe_op op_pow pe_int pe_int) (nomark _)) pa_nil))) rfl))))) pss_nil))
      (pss_cons (ps_if (pt_cmpR op_gt (pe_dget (u1 hr) (pv 0) pe_str (fun _ _ => rfl)) pe_int (nomark _)) (pss_cons (ps_set (i := 3) sc_Lnext.nd rfl (.inl rfl) (pe_op op_mod (pe_dget (u1 hr) (pv 0) pe_str (fun _ _ => rfl)) (pv 1)))
      (pss_cons (ps_dput (u1 hr) (pv 0) pe_str (pe_op op_fdivW (pe_dget (u1 hr) (pv 0) pe_str (fun _ _ => rfl)) (pv 1)) rfl)
      (pss_one (ps_ret (pv 3))))) pss_nil)
      (pss_cons (ps_dput (u1 hr) (pv 0) pe_str (pe_op op_mod (pe_op op_add (pe_op op_mul (pe_dget (u1 hr) (pv 0) pe_str (fun _ _ => rfl)) pe_int) pe_int) pe_int) rfl)
      (pss_one (ps_ret (pe_op op_mod (pe_op op_fdivW (pe_op op_mod (pe_op op_mul (pe_dget (u1 hr) (pv 0) pe_str (fun _ _ => rfl)) (pe_dget (u1 hr) (pv 0) pe_str (fun _ _ => rfl))) pe_int) pe_int) (pv 1))))))), ?_⟩
    refine ⟨fun σ1 H1 => ∃ (y2 : Option V) (a l sd : Int), σ1 = [some (.ref d), some (.int many), y2, none] ∧ H1 d = some (.dK (kv c a l sd)) ∧ 0 ≤ a ∧ 0 ≤ l ∧ 0 ≤ sd ∧ sd < 2305843009213693951 ∧ H1 c = some (.lst (ns.map V.int)) ∧ But d H H1, ?_, ?_⟩
    · have dflt : ∃ (y2 : Option V) (a l sd : Int), (start ["_law_draws", "_law_many_here", "_law_cell", "_law_digit"] [V.ref d, V.int many]) = [some (.ref d), some (.int many), y2, none] ∧ H d = some (.dK (kv c a l sd)) ∧ 0 ≤ a ∧ 0 ≤ l ∧ 0 ≤ sd ∧ sd < 2305843009213693951 ∧ H c = some (.lst (ns.map V.int)) ∧ But d H H :=
        ⟨none, a, l, sd, rfl, hd, ha, hl, hs0, hs1, hc, But.refl⟩
      refine ⟨_, rfl, d, _, rfl, g_left hd, rfl, _, rfl, ite2 (fun e1 => ?_) (fun e1 => iteF dflt)⟩
      refine ⟨_, rfl, d, _, rfl, g_at hd, _, rfl, d, _, rfl, g_cells hd, c, _, rfl, .inl (SqL.of hc), _, _, rfl, rfl, _, rfl, ?_⟩
      refine ite2 (fun e2 => ?_) (fun e2 => dflt)
      have e3 : a < ((ns.map V.int).length : Int) := of_decide_eq_true e2
      rw [List.length_map] at e3
      obtain ⟨v, hv, _⟩ := at_map ha e3
      refine ⟨_, rfl, d, _, rfl, g_cells hd, _, rfl, d, _, rfl, g_at hd, c, _, _, _, rfl, rfl, SqL.of hc, hv, ?_⟩
      refine ⟨_, rfl, d, _, rfl, g_at hd, _, _, rfl, rfl, _, rfl, d, _, rfl, p_at hd _, ?_⟩
      refine ⟨_, rfl, d, _, rfl, g_seed upd_same, _, _, rfl, rfl, .inr ⟨by decide, by decide⟩, _, rfl, _, _, rfl, rfl, ⟨by decide, by decide, by decide⟩, _, _, rfl, rfl, (by show (0 : Int) < 10 ^ (30 : Int).toNat; rw [pow30]; decide), _, _, rfl, rfl, _, _, rfl, rfl, _, _, rfl, rfl, (by show (0 : Int) < 2305843009213693951; decide), _, rfl, d, _, rfl, p_seed upd_same _, ?_⟩
      refine ⟨_, rfl, _, rfl, _, _, rfl, rfl, ⟨by decide, by decide, by decide⟩, _, _, rfl, rfl, .inr ⟨_, rfl, _, _, rfl, rfl, ?_, _, rfl, d, _, rfl, p_left upd_same _, ?_⟩⟩
      · right
        constructor <;> split <;> decide
      · refine ⟨some (.int v), _, _, _, rfl, upd_same, by omega, ?_, Int.emod_nonneg _ (by decide), Int.emod_lt_of_pos _ (by decide), ?_, ((But.refl.put).put).put⟩
        · rw [pow18]
          by_cases z : (1000000000000000000 : Int) ≤ v
          · rw [decide_eq_true z]
            simp
            omega
          · rw [decide_eq_false z]
            simp
        · rw [upd_ne ndc, upd_ne ndc, upd_ne ndc]
          exact hc
    · rintro σ1 H1 ⟨y2, a, l, sd, rfl, hd, ha, hl, hs0, hs1, hc, kp⟩
      refine ⟨_, rfl, d, _, rfl, g_left hd, _, _, rfl, rfl, _, rfl, ite2 (fun e1 => ?_) (fun e1 => ?_)⟩
      · refine ⟨_, rfl, d, _, rfl, g_left hd, _, rfl, _, _, rfl, rfl, hm0, ?_⟩
        refine ⟨_, rfl, d, _, rfl, g_left hd, _, rfl, _, _, rfl, rfl, wide_ok hm0 hm1, _, rfl, d, _, rfl, p_left hd _, _, rfl, ?_⟩
        exact q _ _ (Int.emod_nonneg _ (by omega)) (Int.emod_lt_of_pos _ hm0) ⟨⟨a, _, sd, upd_same, ha, Int.ediv_nonneg hl (by omega), hs0, hs1⟩, by rw [upd_ne ndc]; exact hc⟩ kp.put
      · refine ⟨_, rfl, d, _, rfl, g_seed hd, _, _, rfl, rfl, .inr ⟨by decide, by decide⟩, _, _, rfl, rfl, _, _, rfl, rfl, (by show (0 : Int) < 2305843009213693951; decide), _, rfl, d, _, rfl, p_seed hd _, ?_⟩
        refine ⟨_, rfl, d, _, rfl, g_seed upd_same, _, rfl, d, _, rfl, g_seed upd_same, _, _, rfl, rfl, .inl ?_, _, _, rfl, rfl, (by show (0 : Int) < 2305843009213693921; decide), _, _, rfl, rfl, ?_, _, rfl, _, _, rfl, rfl, hm0, ?_⟩
        · have z1 := Int.emod_nonneg (sd * 1181783497276652981 + 12345678910987) (show (2305843009213693951 : Int) ≠ 0 by decide)
          have z2 := Int.emod_lt_of_pos (sd * 1181783497276652981 + 12345678910987) (show (0 : Int) < 2305843009213693951 by decide)
          constructor <;> omega
        · exact wide_ok (by decide) (by decide)
        · exact q _ _ (Int.emod_nonneg _ (by omega)) (Int.emod_lt_of_pos _ hm0) ⟨⟨a, l, _, upd_same, ha, hl, Int.emod_nonneg _ (by decide), Int.emod_lt_of_pos _ (by decide)⟩, by rw [upd_ne ndc]; exact hc⟩ kp.put
theorem ok_nextD (T : Top K mg) : FnOk P w K mg base CX0 1 T.a_Lnext T.d_Lnext ["_law_draws", "_law_many_here"] spNextD := by
  refine (ok_next T).imp fun vs H Q E h => ?_
  obtain ⟨d, c, many, e, B, m0, m1, q⟩ := h
  obtain ⟨ns, D⟩ := B.ex
  exact ⟨d, c, ns, many, e, D, m0, m1, fun x H' x0 x1 D' k => q x H' x0 x1 ⟨ns, D'⟩ k⟩
theorem ok_manyD (T : Top K mg) : FnOk P w K mg base CX0 2 T.a_Lmany T.d_Lmany ["_law_draws", "_law_few", "_law_most"] spManyD := by
  have G_Lnext : FnOk P w K mg base CX0 1 _ _ _ _ := ok_nextD T
  refine T.F_Lmany.ok sc_Lmany (fun vs H Q E h => ?_) (fun cdv A outer s H vs Q E hr h => ?_)
  · obtain ⟨d, c, f, m, rfl, _⟩ := h
    rfl
  · obtain ⟨d, c, f, m, rfl, B, f0, m0, f1, m1, q⟩ := h
    refine ⟨_, (pss_cons (ps_if (pt_cmpR op_eq (pe_call G_Lnext hr (by rfl) T.g_Lnext T.F_Lnext.kp T.b_Lnext .nil pass0 (pa_cons (pv 0) (pa_cons pe_int pa_nil))) pe_int (nomark _)) (pss_one (ps_ret (pe_call G_Lnext hr (by rfl) T.g_Lnext T.F_Lnext.kp T.b_Lnext .nil pass0 (pa_cons (pv 0) (pa_cons (pe_op op_add (pv 2) pe_int) pa_nil))))) pss_nil)
      (pss_one (ps_ret (pe_call G_Lnext hr (by rfl) T.g_Lnext T.F_Lnext.kp T.b_Lnext .nil pass0 (pa_cons (pv 0) (pa_cons (pe_op op_add (pv 1) pe_int) pa_nil)))))), ?_⟩
    refine ⟨_, rfl, d, c, 8, rfl, B, by decide, by decide, fun x H1 x0 x1 B1 k1 => ?_⟩
    refine ⟨rfl, _, rfl, ite2 (fun _ => ?_) (fun _ => ?_)⟩
    · refine ⟨_, rfl, _, rfl, _, _, rfl, rfl, d, c, m + 1, rfl, B1, by omega, by omega, fun y H2 y0 y1 B2 k2 => ?_⟩
      exact q y H2 y0 (.inr (by omega)) B2 (k1.trans k2)
    · refine ⟨_, rfl, _, rfl, _, _, rfl, rfl, d, c, f + 1, rfl, B1, by omega, by omega, fun y H2 y0 y1 B2 k2 => ?_⟩
      exact q y H2 y0 (.inl (by omega)) B2 (k1.trans k2)
end

end My
namespace My
open PySem L2
/-! ### forests drawn from the store -/
def pdata (p : Int × Str) : PyData := .tuple [.int p.1, .str p.2]
def tdata (t : Int × Int) : PyData := .tuple [.int t.1, .int t.2]
def PtOk (p : Int × Str) : Prop := -(2 ^ 100) < p.1 ∧ p.1 < 2 ^ 100 ∧ p.2 ∈ kinds
def fdata (pts : List (Int × Str)) (ts : List (Int × Int)) : PyData := .tuple [.tuple (pts.map pdata), .tuple (ts.map tdata)]
structure FrOk (pts : List (Int × Str)) (ts : List (Int × Int)) : Prop where
  pos : 0 < pts.length
  few : pts.length ≤ 100
  pok : ∀ p ∈ pts, PtOk p
  tok : ∀ t ∈ ts, 0 ≤ t.1 ∧ 0 ≤ t.2 ∧ t.1 < (pts.length : Int) ∧ t.2 < (pts.length : Int)
  tl : ts.length ≤ pts.length
  tree : Tree ts
  nd : ts.Nodup
theorem Td.two {K : PySem.W.Frag} {H : Hp} {x y : Int} {t : Addr} (h : H t = some (.tup [.int x, .int y])) : Td K H (.ref t) (tdata (x, y)) := .tup (SqT.of h) (.cons (.int x) (.cons (.int y) .nil))
theorem Td.pt {K : PySem.W.Frag} {H : Hp} {x : Int} {y : Str} {t : Addr} (h : H t = some (.tup [.int x, .str y])) : Td K H (.ref t) (pdata (x, y)) := .tup (SqT.of h) (.cons (.int x) (.cons (.str y) .nil))
/-- tied pairs stand in H itself -/
inductive PAll (H : Hp) : List V → List (Int × Int) → Prop
  | nil : PAll H [] []
  | cons {t : Addr} {x y : Int} {vs : List V} {ts : List (Int × Int)} : H t = some (.tup [.int x, .int y]) → PAll H vs ts → PAll H (.ref t :: vs) ((x, y) :: ts)
theorem PAll.td {K : PySem.W.Frag} {H : Hp} : ∀ {vs : List V} {ts : List (Int × Int)}, PAll H vs ts → TdAll K H vs (ts.map tdata)
  | _, _, .nil => .nil
  | _, _, .cons h k => .cons (Td.two h) (PAll.td k)
theorem PAll.mono {H H' : Hp} (s : ∀ t x y, H t = some (.tup [.int x, .int y]) → H' t = some (.tup [.int x, .int y])) : ∀ {vs : List V} {ts : List (Int × Int)}, PAll H vs ts → PAll H' vs ts
  | _, _, .nil => .nil
  | _, _, .cons h k => .cons (s _ _ _ h) (PAll.mono s k)
theorem PAll.same {H H' : Hp} (s : Same H H') {vs : List V} {ts : List (Int × Int)} (h : PAll H vs ts) : PAll H' vs ts := h.mono fun _ _ _ e => s _ _ e
theorem PAll.put {H : Hp} {l : Addr} {xs ys : List V} (e : H l = some (.lst xs)) {vs : List V} {ts : List (Int × Int)} (h : PAll H vs ts) : PAll (upd H l (.lst ys)) vs ts := h.mono fun t _ _ z => by
  rw [upd_ne (ne_of z e (by intro z; cases z))]
  exact z
theorem PAll.but {H H' : Hp} {b L : Addr} (B : DrAt H b L) (s : But b H H') {vs : List V} {ts : List (Int × Int)} (h : PAll H vs ts) : PAll H' vs ts := h.mono fun t _ _ z => by
  obtain ⟨kvs, h1⟩ := B.dk
  exact s _ _ z (ne_of z h1 (by intro z; cases z))
theorem PAll.snoc {H : Hp} {t : Addr} {x y : Int} (e : H t = some (.tup [.int x, .int y])) : ∀ {vs : List V} {ts : List (Int × Int)}, PAll H vs ts → PAll H (vs ++ [.ref t]) (ts ++ [(x, y)])
  | _, _, .nil => .cons e .nil
  | _, _, .cons h k => .cons h (PAll.snoc e k)
theorem PAll.length {H : Hp} : ∀ {vs : List V} {ts : List (Int × Int)}, PAll H vs ts → vs.length = ts.length
  | _, _, .nil => rfl
  | _, _, .cons _ k => congrArg (· + 1) k.length
theorem PAll.pairs {H : Hp} : ∀ {vs : List V} {ts : List (Int × Int)}, PAll H vs ts → ∀ x ∈ vs, ∃ t i j, x = V.ref t ∧ H t = some (.tup [.int i, .int j])
  | _, _, .nil, _, m => nomatch m
  | _, _, .cons h k, x, m => by
    rcases List.mem_cons.mp m with e | m
    · subst e
      exact ⟨_, _, _, rfl, h⟩
    · exact k.pairs x m
theorem PAll.perm {H : Hp} {xs ys : List V} (p : ys.Perm xs) : ∀ {ts : List (Int × Int)}, PAll H xs ts → ∃ us : List (Int × Int), us.Perm ts ∧ PAll H ys us := by
  induction p with
  | nil =>
    intro ts h
    cases h
    exact ⟨[], .refl _, .nil⟩
  | cons x p ih =>
    intro ts h
    cases h with
    | cons h1 h2 =>
      obtain ⟨us, pu, hu⟩ := ih h2
      exact ⟨_ :: us, pu.cons _, .cons h1 hu⟩
  | swap x y l =>
    intro ts h
    cases h with
    | cons h1 h2 =>
      cases h2 with
      | cons h2 h3 => exact ⟨_, .swap .., .cons h2 (.cons h1 h3)⟩
  | trans p1 p2 ih1 ih2 =>
    intro ts h
    obtain ⟨us, pu, hu⟩ := ih2 h
    obtain ⟨vs, pv, hv⟩ := ih1 hu
    exact ⟨vs, pv.trans pu, hv⟩
/-- the list of names -/
def Names (n : Nat) (ns : List Int) : Prop := ns.length = n ∧ (∀ x ∈ ns, 0 ≤ x ∧ x < (n : Int)) ∧ ns.Nodup
theorem names_put {n : Nat} {ns : List Int} {k : Nat} (h : Names n ns) : Names (n + 1) (ns.take k ++ [(n : Int)] ++ ns.drop k) := by
  have hn : (n : Int) ∉ ns := fun m => by
    have := h.2.1 _ m
    omega
  refine ⟨?_, fun x m => ?_, ?_⟩
  · have z := List.take_append_drop k ns
    have z2 := congrArg List.length z
    rw [List.length_append] at z2
    rw [List.length_append, List.length_append]
    show (ns.take k).length + 1 + (ns.drop k).length = n + 1
    have := h.1
    omega
  · rcases List.mem_append.mp m with m | m
    · rcases List.mem_append.mp m with m | m
      · have := h.2.1 x (List.mem_of_mem_take m)
        omega
      · rcases List.mem_cons.mp m with e | m
        · omega
        · cases m
    · have := h.2.1 x (List.mem_of_mem_drop m)
      omega
  · have nd := h.2.2
    rw [← List.take_append_drop k ns] at nd
    obtain ⟨n1, n2, n3⟩ := List.nodup_append.mp nd
    refine List.nodup_append.mpr ⟨List.nodup_append.mpr ⟨n1, List.nodup_cons.mpr ⟨List.not_mem_nil, List.nodup_nil⟩, fun x m y k z => ?_⟩, n2, fun x m y k z => ?_⟩
    · rw [List.mem_singleton.mp k] at z
      exact hn (z ▸ List.mem_of_mem_take m)
    · rcases List.mem_append.mp m with m | m
      · exact n3 x m y k z
      · rw [List.mem_singleton.mp m] at z
        exact hn (z ▸ List.mem_of_mem_drop k)
/-- a tie to a name that has none yet -/
theorem tie_more {ns : List Int} {ts : List (Int × Int)} {i k : Nat} {v1 v2 : Int} {u : Nat} (nd : ns.Nodup) (hk : k = 1 + i) (h1 : ns[k]? = some v1) (h2 : ns[u]? = some v2) (hu : u < k) (tr : Tree ts) (tn : ts.Nodup) (hm : ∀ t ∈ ts, t.1 ∈ ns.take k ∧ t.2 ∈ ns.take k) :
    Tree (ts ++ [((if v2 < v1 then v2 else v1), (if v2 > v1 then v2 else v1))]) ∧ (ts ++ [((if v2 < v1 then v2 else v1), (if v2 > v1 then v2 else v1))]).Nodup ∧ ∀ t ∈ ts ++ [((if v2 < v1 then v2 else v1), (if v2 > v1 then v2 else v1))], t.1 ∈ ns.take (k + 1) ∧ t.2 ∈ ns.take (k + 1) := by
  have n1 : v1 ∉ ns.take k := fun m => by
    obtain ⟨j, hj⟩ := List.mem_iff_getElem?.mp m
    have jl := (List.getElem?_eq_some_iff.mp hj).1
    rw [List.length_take] at jl
    rw [List.getElem?_take_of_lt (by omega)] at hj
    have l1 := (List.getElem?_eq_some_iff.mp h1)
    obtain ⟨x1, y1⟩ := l1
    obtain ⟨x2, y2⟩ := List.getElem?_eq_some_iff.mp hj
    have z := List.pairwise_iff_getElem.mp nd j k x2 x1 (by omega)
    exact z (y2.trans y1.symm)
  have m2 : v2 ∈ ns.take k := List.mem_iff_getElem?.mpr ⟨u, by rw [List.getElem?_take_of_lt hu]; exact h2⟩
  have ne : v2 ≠ v1 := fun z => n1 (z ▸ m2)
  have hv : ∀ t ∈ ts, t.1 ≠ v1 ∧ t.2 ≠ v1 := fun t m => ⟨fun z => n1 (z ▸ (hm t m).1), fun z => n1 (z ▸ (hm t m).2)⟩
  have two : ((if v2 < v1 then v2 else v1), (if v2 > v1 then v2 else v1)) = (v2, v1) ∨ ((if v2 < v1 then v2 else v1), (if v2 > v1 then v2 else v1)) = (v1, v2) := by
    by_cases lt : v2 < v1
    · rw [if_pos lt, if_neg (by omega)]
      exact .inl rfl
    · rw [if_neg lt, if_pos (by omega)]
      exact .inr rfl
  have up : ∀ {x : Int}, x ∈ ns.take k → x ∈ ns.take (k + 1) := fun {x} m => by
    rw [List.take_succ]
    exact List.mem_append_left _ m
  have m1 : v1 ∈ ns.take (k + 1) := by
    rw [List.take_succ, h1]
    exact List.mem_append_right _ List.mem_cons_self
  refine ⟨tree_snoc tr hv ne two, List.nodup_append.mpr ⟨tn, List.nodup_cons.mpr ⟨List.not_mem_nil, List.nodup_nil⟩, fun x m y k z => ?_⟩, fun t m => ?_⟩
  · rw [List.mem_singleton.mp k] at z
    have w := hv x m
    rw [z] at w
    rcases two with e | e
    · rw [e] at w
      exact w.2 rfl
    · rw [e] at w
      exact w.1 rfl
  · rcases List.mem_append.mp m with m | m
    · exact ⟨up (hm t m).1, up (hm t m).2⟩
    · rw [List.mem_singleton.mp m]
      rcases two with e | e
      · rw [e]
        exact ⟨up m2, m1⟩
      · rw [e]
        exact ⟨m1, up m2⟩
def spWorthD : Sp := fun vs H Q _ => ∃ (d c : Addr), vs = [.ref d] ∧ DrAt H d c ∧ ∀ (x : Int) (H' : Hp), -(2 ^ 100) < x → x < 2 ^ 100 → DrAt H' d c → But d H H' → Q (.int x) H'
def spForest (K : PySem.W.Frag) : Sp := fun vs H Q _ => ∃ (b L : Addr) (m : Int), vs = [.ref b, .int m] ∧ DrAt H b L ∧ 9 ≤ m ∧ m ≤ 100 ∧
  ∀ (p : Addr) (pts : List (Int × Str)) (ts : List (Int × Int)) (H' : Hp), FrOk pts ts → (pts.length : Int) ≤ m → DrAt H' b L → But b H H' → Td K H' (.ref p) (fdata pts ts) → Q (.ref p) H'
theorem pow20 : (10 : Int) ^ (20 : Int).toNat = 100000000000000000000 := by decide +kernel
section
variable {P : Program} {w : World} {K : PySem.W.Frag} {mg : Str → Option Value} {base : Heap}
theorem ok_worthD (T : Top K mg) : FnOk P w K mg base CX0 2 T.a_Lworth T.d_Lworth ["_law_draws"] spWorthD := by
  have G_Lnext : FnOk P w K mg base CX0 1 _ _ _ _ := ok_nextD T
  refine T.F_Lworth.ok sc_Lworth (fun vs H Q E h => ?_) (fun cdv A outer s H vs Q E hr h => ?_)
  · obtain ⟨d, c, rfl, _⟩ := h
    rfl
  · obtain ⟨d, c, rfl, B, q⟩ := h
    refine ⟨_, (pss_cons (ps_set (i := 1) sc_Lworth.nd rfl (.inl rfl) (pe_call G_Lnext hr (by rfl) T.g_Lnext T.F_Lnext.kp T.b_Lnext .nil pass0 (pa_cons (pv 0) (pa_cons pe_int pa_nil))))
      (pss_cons (ps_if (pt_cmpR op_lt (pv 1) pe_int (nomark _)) (pss_one (ps_ret (pe_call G_Lnext hr (by rfl) T.g_Lnext T.F_Lnext.kp T.b_Lnext .nil pass0 (pa_cons (pv 0) (pa_cons pe_int pa_nil))))) pss_nil)
      (pss_cons (ps_if (pt_cmpR op_eq (pv 1) pe_int (nomark _)) (pss_one (ps_ret (pe_op op_sub (pe_un un_neg pe_int) (pe_call G_Lnext hr (by rfl) T.g_Lnext T.F_Lnext.kp T.b_Lnext .nil pass0 (pa_cons (pv 0) (pa_cons pe_int pa_nil)))))) pss_nil)
      (pss_one (ps_ret (pe_ix ix_list (pe_lst (pa_cons (pe_op op_sub (pe_op op_pow pe_int pe_int) pe_int) (pa_cons (pe_op op_sub pe_int (pe_op op_pow pe_int pe_int)) (pa_cons pe_int (pa_cons (pe_call G_Lnext hr (by rfl) T.g_Lnext T.F_Lnext.kp T.b_Lnext .nil pass0 (pa_cons (pv 0) (pa_cons (pe_op op_pow pe_int pe_int) pa_nil))) pa_nil))))) (pe_call G_Lnext hr (by rfl) T.g_Lnext T.F_Lnext.kp T.b_Lnext .nil pass0 (pa_cons (pv 0) (pa_cons pe_int pa_nil))) (fun _ _ => rfl))))))), ?_⟩
    refine ⟨_, rfl, d, c, 6, rfl, B, by decide, by decide, fun x H1 x0 x1 B1 k1 => ?_⟩
    refine ⟨_, rfl, _, _, rfl, rfl, _, rfl, ite2 (fun _ => ?_) (fun _ => ?_)⟩
    · exact ⟨_, rfl, d, c, 7, rfl, B1, by decide, by decide, fun y H2 y0 y1 B2 k2 => q y H2 (by omega) (by omega) B2 (k1.trans k2)⟩
    refine ⟨_, rfl, rfl, _, rfl, ite2 (fun _ => ?_) (fun _ => ?_)⟩
    · refine ⟨_, rfl, _, rfl, d, c, 9, rfl, B1, by decide, by decide, fun y H2 y0 y1 B2 k2 => ⟨_, _, rfl, rfl, q _ H2 (by omega) (by omega) B2 (k1.trans k2)⟩⟩
    refine ⟨_, _, rfl, rfl, ⟨by decide, by decide, by decide⟩, _, _, rfl, rfl, _, _, rfl, rfl, ⟨by decide, by decide, by decide⟩, _, _, rfl, rfl, _, rfl, _, _, rfl, rfl, ⟨by decide, by decide, by decide⟩, d, c, _, rfl, B1, (by show (0 : Int) < 10 ^ (20 : Int).toNat; rw [pow20]; decide), (by show (10 : Int) ^ (20 : Int).toNat < 2 ^ 100; rw [pow20]; decide), fun y H2 y0 y1 B2 k2 => ⟨(by show 4 ≤ sizeLine; decide), fun p np => ?_⟩⟩
    refine ⟨_, rfl, d, c, 4, rfl, B2.new np, by decide, by decide, fun z H3 z0 z1 B3 k3 => ?_⟩
    have hp := k3 _ _ upd_same ((B2.ne np))
    rw [pow20] at y1
    have pick : ∃ v : Int, atI [V.int (10 ^ (30 : Int).toNat - 1), V.int (1 - 10 ^ (30 : Int).toNat), V.int 0, V.int y] z = some (.int v) ∧ -(2 ^ 100) < v ∧ v < 2 ^ 100 := by
      rw [pow30]
      have hc : z = 0 ∨ z = 1 ∨ z = 2 ∨ z = 3 := by omega
      rcases hc with rfl | rfl | rfl | rfl
      all_goals exact ⟨_, rfl, by omega, by omega⟩
    obtain ⟨v, hv, v0, v1⟩ := pick
    refine ⟨p, _, _, _, rfl, rfl, SqL.of hp, hv, ?_⟩
    exact q v H3 v0 v1 B3 (((k1.trans k2).new np).trans k3)
end

end My
namespace My
open PySem L2
/-! ### forests drawn from the store -/
theorem kind_at {r : Int} (d0 : 0 ≤ r) (d1 : r < 8) : ∃ c : Nat, atI ("abcdefgh" : Str).cps.toList r = some c ∧ (⟨#[c]⟩ : Str) ∈ kinds := by
  have hc : r = 0 ∨ r = 1 ∨ r = 2 ∨ r = 3 ∨ r = 4 ∨ r = 5 ∨ r = 6 ∨ r = 7 := by omega
  rcases hc with h | h | h | h | h | h | h | h
  all_goals
    subst h
    exact ⟨_, rfl, by decide +kernel⟩
section
variable {P : Program} {w : World} {K : PySem.W.Frag} {mg : Str → Option Value} {base : Heap}
theorem ok_forest (T : Top K mg) : FnOk P w K mg base CX0 3 T.a_Lforest T.d_Lforest ["_law_draws", "_law_most"] (spForest K) := by
  have G_Lnext : FnOk P w K mg base CX0 1 _ _ _ _ := ok_nextD T
  have G_Lmany : FnOk P w K mg base CX0 2 _ _ _ _ := ok_manyD T
  have G_Lworth : FnOk P w K mg base CX0 2 _ _ _ _ := ok_worthD T
  refine T.F_Lforest.ok sc_Lforest (fun vs H Q E h => ?_) (fun cdv A outer s H vs Q E hr h => ?_)
  · obtain ⟨b, L, m, rfl, _⟩ := h
    rfl
  · obtain ⟨b, L, m, rfl, B, m0, m1, q⟩ := h
    refine ⟨_, (pss_cons (ps_set (i := 2) sc_Lforest.nd rfl (.inl rfl) (pe_op op_add pe_int (pe_call G_Lmany hr (by rfl) T.g_Lmany T.F_Lmany.kp T.b_Lmany .nil pass0 (pa_cons (pv 0) (pa_cons pe_int (pa_cons (pe_op op_sub (pv 1) pe_int) pa_nil))))))
      (pss_cons (ps_set (i := 3) sc_Lforest.nd rfl (.inl rfl) (pe_lst pa_nil))
      (pss_cons (ps_for PassesOwn.never rfl (pi_range1 (by rfl) T.m_range (pa_cons (pv 2) pa_nil)) (pg_name (i := 4) sc_Lforest.nd rfl (.inl rfl)) (pss_one (ps_expr (pe_bm PySem.F.plainAttrs_list PySem.F.slot_list_insert PySem.F.type_list_insert mt_insert (pv 3) (pa_cons (pe_call G_Lnext (hr.mono (by decide)) (by rfl) T.g_Lnext T.F_Lnext.kp T.b_Lnext .nil pass0 (pa_cons (pv 0) (pa_cons (pe_op op_add (pv 4) pe_int) pa_nil))) (pa_cons (pv 4) pa_nil))))))
      (pss_cons (ps_par (i := 5) (j := 6) (by rfl) sc_Lforest.nd rfl rfl (by decide) rfl rfl (pa_cons (pe_call G_Lnext (hr.mono (by decide)) (by rfl) T.g_Lnext T.F_Lnext.kp T.b_Lnext .nil pass0 (pa_cons (pv 0) (pa_cons pe_int pa_nil))) (pa_cons (pe_ix ix_list (pe_lst (pa_cons pe_int (pa_cons pe_int (pa_cons pe_int pa_nil)))) (pe_call G_Lnext (hr.mono (by decide)) (by rfl) T.g_Lnext T.F_Lnext.kp T.b_Lnext .nil pass0 (pa_cons (pv 0) (pa_cons pe_int pa_nil))) (fun _ _ => rfl)) pa_nil)) (by rfl))
      (pss_cons (ps_set (i := 7) sc_Lforest.nd rfl (.inl rfl) (pe_lst pa_nil))
      (pss_cons (ps_for PassesOwn.never rfl (pi_range2 (by rfl) T.m_range (pa_cons pe_int (pa_cons (pv 2) pa_nil))) (pg_name (i := 4) sc_Lforest.nd rfl (.inl rfl)) (pss_cons (ps_set (i := 8) sc_Lforest.nd rfl (.inl rfl) (pe_ix ix_list (pe_lst (pa_cons (pe_op op_sub (pv 4) pe_int) (pa_cons pe_int (pa_cons (pe_call G_Lnext (hr.mono (by decide)) (by rfl) T.g_Lnext T.F_Lnext.kp T.b_Lnext .nil pass0 (pa_cons (pv 0) (pa_cons (pv 4) pa_nil))) (pa_cons (pe_callB (call_max2 rfl) (by rfl) T.m_max (by decide +kernel) (pa_cons pe_int (pa_cons (pe_op op_sub (pe_op op_sub (pv 4) pe_int) (pe_call G_Lnext (hr.mono (by decide)) (by rfl) T.g_Lnext T.F_Lnext.kp T.b_Lnext .nil pass0 (pa_cons (pv 0) (pa_cons pe_int pa_nil)))) pa_nil))) (pa_cons (pe_op op_fdivW (pe_op op_sub (pv 4) pe_int) pe_int) pa_nil)))))) (pv 5) (fun _ _ => rfl)))
      (pss_one (ps_if (pt_mid (PW.pt (pw_or (pt_cmpR op_eq (pv 6) pe_int (nomark _)) (pw_or1 (pt_cmpR op_gt (pe_call G_Lnext (hr.mono (by decide)) (by rfl) T.g_Lnext T.F_Lnext.kp T.b_Lnext .nil pass0 (pa_cons (pv 0) (pa_cons (pv 6) pa_nil))) pe_int (nomark _)))))) (pss_one (ps_expr (pe_bm PySem.F.plainAttrs_list PySem.F.slot_list_append PySem.F.type_list_append mt_append (pv 7) (pa_cons (pe_tup (pa_cons (pe_callB (call_min2 rfl) (by rfl) T.m_min (by decide +kernel) (pa_cons (pe_ix ix_list (pv 3) (pv 8) (fun _ _ => rfl)) (pa_cons (pe_ix ix_list (pv 3) (pv 4) (fun _ _ => rfl)) pa_nil))) (pa_cons (pe_callB (call_max2 rfl) (by rfl) T.m_max (by decide +kernel) (pa_cons (pe_ix ix_list (pv 3) (pv 8) (fun _ _ => rfl)) (pa_cons (pe_ix ix_list (pv 3) (pv 4) (fun _ _ => rfl)) pa_nil))) pa_nil))) pa_nil)))) pss_nil))))
      (pss_cons (ps_set (i := 9) sc_Lforest.nd rfl (.inl rfl) (pe_callTy call_tuple_of (by rfl) T.m_tuple (by decide +kernel) (pa_cons (pe_lc (own := [("_law_k", 4)]) (g := gName 4) (tt := tYes) (by rfl) sc_Lforest.nd (pi_range1 (by rfl) T.m_range (pa_cons (pv 2) pa_nil)) (blkOk_by (own := [("_law_k", 4)]) (N := ["_law_draws", "_law_most", "_law_many_here", "_law_names", "_law_k", "_law_way", "_law_rare", "_law_ties", "_law_former", "_law_points"]) (sc := defScope s_Lforest) (by decide +kernel)) (fun _ _ _ _ _ => (pg_name (i := 4) sc_Lforest.nd rfl (.inl rfl))) (fun _ _ _ _ _ => pts_nil) (fun _ _ _ _ _ => (pe_tup (pa_cons (pe_call G_Lworth hr (by rfl) T.g_Lworth T.F_Lworth.kp T.b_Lworth .nil pass0 (pa_cons (pv 0) pa_nil)) (pa_cons (pe_ix ix_str pe_str (pe_call G_Lnext (hr.mono (by decide)) (by rfl) T.g_Lnext T.F_Lnext.kp T.b_Lnext .nil pass0 (pa_cons (pv 0) (pa_cons pe_int pa_nil))) (fun _ _ => rfl)) pa_nil))))) pa_nil)))
      (pss_one (ps_ret (pe_tup (pa_cons (pv 9) (pa_cons (pe_callTy call_tuple_of (by rfl) T.m_tuple (by decide +kernel) (pa_cons (pe_callB cr_sortedP (by rfl) T.m_sorted (by decide +kernel) (pa_cons (pv 7) pa_nil)) pa_nil)) pa_nil)))))))))))), ?_⟩
    refine ⟨_, rfl, _, rfl, _, _, rfl, rfl, b, L, 8, m - 1, rfl, B, by decide, by omega, by decide, by omega, fun x1 H1 a0 a1 B1 k1 => ⟨_, _, rfl, rfl, Nat.zero_le _, fun nm nnm => ?_⟩⟩
    have nnb : nm ≠ b := B1.ne nnm
    have nnL : nm ≠ L := B1.neL nnm
    have a2 : x1 ≤ m - 1 := by omega
    clear a1
    refine ⟨_, rfl, _, rfl, by omega, by omega, for_range (lo := 0) (n := (1 + x1).toNat) (fun i σ H3 => ∃ (ns : List Int) (y6 : Option V), σ = [some (.ref b), some (.int m), some (.int (1 + x1)), some (.ref nm), y6, none, none, none, none, none] ∧ DrAt H3 b L ∧ H3 nm = some (.lst (ns.map V.int)) ∧ Names i ns ∧ But b H1 H3)
      ⟨[], none, rfl, B1.new nnm, upd_same, ⟨rfl, (fun x z => nomatch z), List.nodup_nil⟩, But.refl.new nnm⟩ ?_ ?_⟩
    · rintro i σ H3 hi ⟨ns, y6, rfl, B3, hnm, hN, k3⟩
      have e0 : (0 : Int) + (i : Int) = (i : Int) := by omega
      refine ⟨_, rfl, .inl ⟨rfl, _, SqL.of hnm⟩, _, rfl, _, rfl, _, _, rfl, rfl, b, L, _, rfl, B3, (by show (0 : Int) < 0 + (i : Int) + 1; omega), (by show (0 : Int) + (i : Int) + 1 < 2 ^ 100; omega), fun x3 H4 z0 z1 B4 k4 => ⟨_, rfl, ?_⟩⟩
      have h4 := k4 _ _ hnm nnb
      refine ⟨nm, _, _, _, rfl, rfl, h4, szl (by rw [List.length_map, hN.1]; omega), z0, by omega, ?_⟩
      refine ⟨ns.take x3.toNat ++ [(i : Int)] ++ ns.drop x3.toNat, _, rfl, B4.put nnb nnL, ?_, names_put hN, fun a o e ne => ?_⟩
      · rw [upd_same, e0, List.map_append, List.map_append, List.map_take, List.map_drop]
        rfl
      · rw [upd_ne (ne_of_none e nnm)]
        exact k4 _ _ (k3 _ _ e ne) ne
    · rintro σ H3 ⟨ns, y6, rfl, B3, hnm, hN, k3⟩
      have nmy : (ns.length : Int) = 1 + x1 := by
        have := hN.1
        omega
      have pk : ∀ k : Int, 0 ≤ k → k < 1 + x1 → ∃ v : Int, atI (ns.map V.int) k = some (.int v) ∧ 0 ≤ v ∧ v < 1 + x1 ∧ ns[k.toNat]? = some v := fun k k0 k1 => by
        have hkl : k.toNat < ns.length := by omega
        have ek : k = ((k.toNat : Nat) : Int) := by omega
        have hg : ns[k.toNat]? = some ns[k.toNat] := List.getElem?_eq_getElem hkl
        have hv : atI (ns.map V.int) ((k.toNat : Nat) : Int) = some (.int ns[k.toNat]) := atI_nat (by rw [List.getElem?_map, hg]; rfl)
        rw [← ek] at hv
        have := hN.2.1 _ (List.mem_of_getElem? hg)
        have := hN.1
        exact ⟨_, hv, by omega, by omega, hg⟩
      refine ⟨_, rfl, b, L, 5, rfl, B3, by decide, by decide, fun sh H4 s0 s1 B4 k4 => ⟨(by show 3 ≤ sizeLine; decide), fun p np => ?_⟩⟩
      refine ⟨_, rfl, b, L, 3, rfl, B4.new np, by decide, by decide, fun rz H5 r0 r1 B5 k5 => ?_⟩
      have hp5 := k5 _ _ upd_same (B4.ne np)
      have pick : ∃ v : Int, atI [V.int 0, V.int 7, V.int 3] rz = some (.int v) ∧ 0 ≤ v ∧ v < 10 := by
        have hc : rz = 0 ∨ rz = 1 ∨ rz = 2 := by omega
        rcases hc with rfl | rfl | rfl
        all_goals exact ⟨_, rfl, by decide, by decide⟩
      obtain ⟨ra, hra, ra0, ra1⟩ := pick
      refine ⟨p, _, _, _, rfl, rfl, SqL.of hp5, hra, _, _, rfl, Nat.zero_le _, fun tl ntl => ?_⟩
      have k35 : But b H3 H5 := ((k4.new np).trans k5)
      have hnm5 := k35 _ _ hnm nnb
      have ntb : tl ≠ b := B5.ne ntl
      have ntL : tl ≠ L := B5.neL ntl
      have ntn : nm ≠ tl := ne_of_none hnm5 ntl
      have hnm' : (upd H5 tl (.lst [])) nm = some (.lst (ns.map V.int)) := by
        rw [upd_ne ntn]
        exact hnm5
      refine ⟨_, rfl, _, _, rfl, ⟨by decide, by decide, by omega, by omega⟩, for_range (lo := 1) (n := _) (fun i σ H6 => ∃ (xs : List V) (ts : List (Int × Int)) (y6 y9 : Option V), σ = [some (.ref b), some (.int m), some (.int (1 + x1)), some (.ref nm), y6, some (.int sh), some (.int ra), some (.ref tl), y9, none] ∧ DrAt H6 b L ∧ H6 nm = some (.lst (ns.map V.int)) ∧ H6 tl = some (.lst xs) ∧ PAll H6 xs ts ∧ ts.length ≤ i ∧ (∀ t ∈ ts, 0 ≤ t.1 ∧ 0 ≤ t.2 ∧ t.1 < 1 + x1 ∧ t.2 < 1 + x1) ∧ (Tree ts ∧ ts.Nodup ∧ ∀ t ∈ ts, t.1 ∈ ns.take (1 + i) ∧ t.2 ∈ ns.take (1 + i)) ∧ But b H5 H6)
        ⟨[], [], _, none, rfl, B5.new ntl, hnm', upd_same, .nil, Nat.zero_le _, (fun t z => nomatch z), ⟨tree_nil, List.nodup_nil, (fun t z => nomatch z)⟩, But.refl.new ntl⟩ ?_ ?_⟩
      · rintro i σ H5' hi ⟨xs, ts, y6, y9, rfl, B5', hnm5', htl5, pa5, hl5, ht5, ⟨tr5, tn5, tm5⟩, k5'⟩
        have hk0 : (1 : Int) ≤ 1 + (i : Int) := by omega
        have hk1 : (1 : Int) + (i : Int) < 1 + x1 := by omega
        generalize hk : (1 : Int) + (i : Int) = k at hk0 hk1
        refine ⟨_, rfl, _, _, rfl, rfl, _, rfl, _, rfl, b, L, k, rfl, B5', by omega, by omega, fun x5 H6 z0 z1 B6 k6 => ?_⟩
        refine ⟨_, rfl, _, _, rfl, rfl, _, rfl, b, L, 3, rfl, B6, by decide, by decide, fun x6 H7 w0 w1 B7 k7 => ⟨_, _, rfl, rfl, _, _, rfl, _, rfl, _, _, rfl, rfl, _, _, rfl, rfl, wide_ok (by decide) (by decide), (by show 5 ≤ sizeLine; decide), fun p np => ?_⟩⟩
        have pick : ∃ v : Int, atI [V.int (k - 1), V.int 0, V.int x5, V.int (if k - 1 - x6 > 0 then k - 1 - x6 else 0), V.int ((k - 1) / 2)] sh = some (.int v) ∧ 0 ≤ v ∧ v < k := by
          have hc : sh = 0 ∨ sh = 1 ∨ sh = 2 ∨ sh = 3 ∨ sh = 4 := by omega
          rcases hc with h | h | h | h | h
          all_goals subst h
          · exact ⟨_, rfl, by omega, by omega⟩
          · exact ⟨_, rfl, by omega, by omega⟩
          · exact ⟨_, rfl, by omega, by omega⟩
          · refine ⟨_, rfl, ?_, ?_⟩ <;> split <;> omega
          · exact ⟨_, rfl, by omega, by omega⟩
        obtain ⟨u, hu, u0, u1⟩ := pick
        refine ⟨_, rfl, p, _, _, _, rfl, rfl, SqL.of upd_same, hu, ?_⟩
        have B8 : DrAt (upd H7 p (.lst [V.int (k - 1), V.int 0, V.int x5, V.int (if k - 1 - x6 > 0 then k - 1 - x6 else 0), V.int ((k - 1) / 2)])) b L := B7.new np
        have k8 : But b H5' (upd H7 p (.lst [V.int (k - 1), V.int 0, V.int x5, V.int (if k - 1 - x6 > 0 then k - 1 - x6 else 0), V.int ((k - 1) / 2)])) := (k6.trans k7).new np
        generalize (upd H7 p (.lst [V.int (k - 1), V.int 0, V.int x5, V.int (if k - 1 - x6 > 0 then k - 1 - x6 else 0), V.int ((k - 1) / 2)])) = H8 at B8 k8
        have hnm8 := k8 _ _ hnm5' nnb
        have htl8 := k8 _ _ htl5 ntb
        have pa8 := pa5.but B5' k8
        refine ⟨fun _ H9 => DrAt H9 b L ∧ But b H8 H9, ?_, ?_⟩
        · refine ⟨_, rfl, rfl, _, rfl, ite2 (fun _ => ⟨B8, But.refl⟩) (fun e9 => ?_)⟩
          have ra2 : 0 < ra := by
            by_cases z : ra = 0
            · exfalso
              subst z
              exact absurd e9 (by decide)
            · omega
          exact ⟨_, rfl, _, rfl, b, L, ra, rfl, B8, ra2, by omega, fun x8 H9 _ _ B9 k9 => ⟨_, _, rfl, rfl, _, rfl, B9, k9⟩⟩
        · rintro bb H9 ⟨B9, k9⟩
          have hnm9 := k9 _ _ hnm8 nnb
          have htl9 := k9 _ _ htl8 ntb
          have pa9 := pa8.but B8 k9
          have k59 := (k5'.trans k8).trans k9
          refine ite2 (fun _ => ?_) (fun _ => ?_)
          · obtain ⟨v1, hv1, c1, b1, g1⟩ := pk k (by omega) hk1
            obtain ⟨v2, hv2, c2, b2, g2⟩ := pk u u0 (by omega)
            refine ⟨_, rfl, .inl ⟨rfl, _, SqL.of htl9⟩, _, rfl, _, rfl, nm, _, _, _, rfl, rfl, SqL.of hnm9, hv2, _, rfl, _, rfl, nm, _, _, _, rfl, rfl, SqL.of hnm9, hv1, _, _, rfl, _, rfl, _, rfl, nm, _, _, _, rfl, rfl, SqL.of hnm9, hv2, _, rfl, _, rfl, nm, _, _, _, rfl, rfl, SqL.of hnm9, hv1, _, _, rfl, (by show 2 ≤ sizeLine; decide), fun t nt => ?_⟩
            have e1 : (if v1 < v2 then v1 else v2) = (if v2 < v1 then v2 else v1) := by
              split <;> split <;> omega
            have e2 : (if v1 > v2 then v1 else v2) = (if v2 > v1 then v2 else v1) := by
              split <;> split <;> omega
            rw [e1, e2]
            have nt1 : tl ≠ t := ne_of_none htl9 nt
            have nt2 : nm ≠ t := ne_of_none hnm9 nt
            have htl10 : (upd H9 t (.tup [.int (if v2 < v1 then v2 else v1), .int (if v2 > v1 then v2 else v1)])) tl = some (.lst xs) := by
              rw [upd_ne nt1]
              exact htl9
            refine ⟨tl, _, _, rfl, rfl, htl10, szl ?_, ?_⟩
            · have := pa9.length
              omega
            · refine ⟨xs ++ [.ref t], ts ++ [((if v2 < v1 then v2 else v1), (if v2 > v1 then v2 else v1))], _, _, rfl, (B9.new nt).put ntb ntL, ?_, upd_same, ?_, ?_, ?_, ?_, ?_⟩
              · rw [upd_ne ntn, upd_ne nt2]
                exact hnm9
              · exact (PAll.snoc upd_same (pa9.same (same_new nt))).put htl10
              · rw [List.length_append]
                show ts.length + 1 ≤ i + 1
                omega
              · intro t' m'
                rcases List.mem_append.mp m' with m' | m'
                · exact ht5 t' m'
                · rcases List.mem_cons.mp m' with e | m'
                  · subst e
                    dsimp only
                    refine ⟨?_, ?_, ?_, ?_⟩ <;> split <;> omega
                  · cases m'
              · have ek : k.toNat = 1 + i := by omega
                have z := tie_more (i := i) (k := 1 + i) (u := u.toNat) hN.2.2 rfl (by rw [← ek]; exact g1) g2 (by omega) tr5 tn5 tm5
                exact z
              · intro a o e ne
                have z := k59 _ _ e ne
                rw [upd_ne (ne_of_none e ntl), upd_ne (ne_of_none z nt)]
                exact z
          · refine ⟨xs, ts, _, _, rfl, B9, hnm9, htl9, pa9, by omega, ht5, ⟨tr5, tn5, fun t m => ?_⟩, k59⟩
            have up : ∀ {x : Int}, x ∈ ns.take (1 + i) → x ∈ ns.take (1 + (i + 1)) := fun {x} m => by
              rw [show 1 + (i + 1) = (1 + i) + 1 from rfl, List.take_succ]
              exact List.mem_append_left _ m
            exact ⟨up (tm5 t m).1, up (tm5 t m).2⟩
      · rintro σ H5' ⟨xs, ts, y6, y9, rfl, B5', hnm5', htl5, pa5, hl5, ht5, ⟨tr5, tn5, tm5⟩, k5'⟩
        refine ⟨_, rfl, _, rfl, by omega, by omega, fun D nD => ?_⟩
        have nDb : D ≠ b := B5'.ne nD
        have nDL : D ≠ L := B5'.neL nD
        refine lc_range (lo := 0) (n := (1 + x1).toNat) (fun i H6 => DrAt H6 b L ∧ ∃ (pts : List (Int × Str)) (ys : List V), H6 D = some (.lst ys) ∧ TdAll K H6 ys (pts.map pdata) ∧ pts.length = i ∧ (∀ p ∈ pts, PtOk p) ∧ But b H5' H6) ⟨B5'.new nD, [], [], upd_same, .nil, rfl, (fun p z => nomatch z), But.refl.new nD⟩ ?_ ?_
        · rintro i H6 hi ⟨B6, pts, ys, hD6, hp6, hl6, ho6, k6⟩
          refine ⟨rfl, yes_ite ?_⟩
          refine ⟨_, rfl, b, L, rfl, B6, fun x H7 hx0 hx1 B7 k7 => ⟨_, rfl, b, L, 8, rfl, B7, by decide, by decide, fun kx H8 kx0 kx1 B8 k8 => ?_⟩⟩
          obtain ⟨c, hc, ck⟩ := kind_at kx0 kx1
          refine ⟨_, _, _, rfl, rfl, (by decide +kernel), hc, (by show 2 ≤ sizeLine; decide), fun p np => ?_⟩
          have s9 := same_new (o := .tup [.int x, .str ⟨#[c]⟩]) np
          have k69 : But b H6 (upd H8 p (.tup [.int x, .str ⟨#[c]⟩])) := (k7.trans k8).new np
          have B9 := B8.new (o := .tup [.int x, .str ⟨#[c]⟩]) np
          have hp9 : (upd H8 p (.tup [.int x, .str ⟨#[c]⟩])) p = some (.tup [.int x, .str ⟨#[c]⟩]) := upd_same
          generalize upd H8 p (.tup [.int x, .str ⟨#[c]⟩]) = H9 at s9 k69 B9 hp9
          have hD9 := k69 _ _ hD6 nDb
          have hl7 := hp6.length
          rw [List.length_map] at hl7
          refine ⟨ys, hD9, szl (by omega), B9.put nDb nDL, pts ++ [(x, ⟨#[c]⟩)], ys ++ [.ref p], upd_same, ?_, ?_, ?_, ?_⟩
          · have t7 : Tups K H9 (upd H9 D (.lst (ys ++ [V.ref p]))) := Tups.of_but (But.refl.put) hD9
            rw [List.map_append]
            exact TdAll.mono t7 ((hp6.mono (B6.tups k69)).append (.cons (Td.pt hp9) .nil))
          · rw [List.length_append, hl6]
            rfl
          · intro p' m'
            rcases List.mem_append.mp m' with m' | m'
            · exact ho6 p' m'
            · rcases List.mem_cons.mp m' with e | m'
              · subst e
                exact ⟨hx0, hx1, ck⟩
              · cases m'
          · intro a o e ne
            rw [upd_ne (ne_of_none e nD)]
            exact k69 _ _ (k6 _ _ e ne) ne
        · rintro H6 ⟨B6, pts, ys, hD6, hp6, hl6, ho6, k6⟩
          refine ⟨D, ys, rfl, .inl ⟨SqL.of hD6, fun a1 n1 => ?_⟩⟩
          have s7 := same_new (o := .tup ys) n1
          have htl7 := s7 _ _ (k6 _ _ htl5 ntb)
          have pa7 := (pa5.but B5' k6).same s7
          refine ⟨_, rfl, _, rfl, tl, xs, rfl, SqL.of htl7, pa7.pairs, fun zs p8 pm n8 => ?_⟩
          have s8 := same_new (o := .lst zs) n8
          refine ⟨p8, zs, rfl, .inl ⟨SqL.of upd_same, fun a2 n2 => ?_⟩⟩
          have s9 := same_new (o := .tup zs) n2
          refine ⟨(by show 2 ≤ sizeLine; decide), fun r nr => ?_⟩
          have s10 := same_new (o := .tup [.ref a1, .ref a2]) nr
          obtain ⟨us, pu, pau⟩ := pa7.perm pm
          have tail : Same H6 _ := (((s7.trans s8).trans s9).trans s10)
          have hd1 := s10 _ _ (s9 _ _ (s8 _ _ (upd_same (H := H6) (a := a1) (o := .tup ys))))
          have hd2 := s10 _ _ (upd_same (H := upd (upd H6 a1 (.tup ys)) p8 (.lst zs)) (a := a2) (o := .tup zs))
          refine q r pts us _ ⟨by omega, by omega, ho6, fun t m' => ?_, ?_, tree_perm (fun t => (pu.mem_iff (a := t)).symm) tr5, pu.nodup_iff.mpr tn5⟩ ?_ ((B6.same tail)) ((((k1.trans k3).trans k35).trans k5').trans k6 |>.same tail) ?_
          · have := ht5 t (pu.mem_iff.mp m')
            omega
          · have := pu.length_eq
            omega
          · omega
          · refine .tup (SqT.of upd_same) (.cons (.tup (SqT.of hd1) (hp6.mono (Tups.of_same tail))) (.cons (.tup (SqT.of hd2) ?_) .nil))
            exact (pau.same ((s8.trans s9).trans s10)).td
end

end My
namespace My
open PySem L2
/-! ### words and rows shown -/
def txt (n : Int) : Str := Str.ofString (toString n)
def wtx : V → Str
  | .int n => txt n
  | .str s => s
  | _ => ""
def WdOk (x : V) : Prop := (∃ n : Int, x = .int n ∧ -(2 ^ 100) < n ∧ n < 2 ^ 100) ∨ ∃ s : Str, x = .str s ∧ s.length ≤ 100
theorem txt_len {i : Int} (h1 : -(2 ^ 100) < i) (h2 : i < 2 ^ 100) : (txt i).length ≤ 41 := by
  show (Str.ofString (toString i)).length ≤ 41
  by_cases h : i < 0
  · rw [PyProof.Rows.len_text_neg h]
    have := PyProof.Rows.toString_length_le (v := 0 - i) (k := 40) (by omega) (by decide) (by omega)
    omega
  · have := PyProof.Rows.toString_length_le (v := i) (k := 40) (by omega) (by decide) (by omega)
    omega
theorem wtx_len {x : V} (h : WdOk x) : (wtx x).length ≤ 100 := by
  rcases h with ⟨n, rfl, h1, h2⟩ | ⟨s, rfl, h⟩
  · have := txt_len h1 h2
    show (txt n).length ≤ 100
    omega
  · exact h
theorem of_append (a b : String) : Str.ofString a ++ Str.ofString b = Str.ofString (a ++ b) := by
  rw [Str.ofString_eq_toList, Str.ofString_eq_toList, Str.ofString_eq_toList, String.toList_append, List.map_append, ← List.append_toArray]
  rfl
theorem txt_neg {n : Int} (h : n < 0) : ("-" : Str) ++ txt (-n) = txt n := by
  show ("-" : Str) ++ Str.ofString (toString (-n)) = Str.ofString (toString n)
  rw [PyProof.Rows.toString_neg h, Int.zero_sub]
  exact of_append _ _
theorem log_ok {i : Int} (h1 : -(2 ^ 100) < i) (h2 : i < 2 ^ 100) : i.natAbs.log2 < 1920 := by
  by_cases z : i.natAbs = 0
  · rw [z]
    decide
  · rw [Nat.log2_lt z]
    exact Nat.lt_of_lt_of_le (show i.natAbs < 2 ^ 100 by omega) (Nat.pow_le_pow_right (by decide) (by decide))
theorem join_one (sep x : Str) : Txt.join sep [x] = x := rfl
theorem empty_add (x : Str) : ("" : Str) ++ x = x := by
  show Str.mk (("" : Str).cps ++ x.cps) = x
  rw [show ("" : Str).cps = #[] from by decide +kernel, Array.empty_append]
theorem sum_len {m : Nat} : ∀ {ys : List Str}, (∀ y ∈ ys, y.length ≤ m) → (ys.map (fun x => x.length)).sum ≤ ys.length * m
  | [], _ => Nat.zero_le _
  | y :: ys, h => by
    have ih := sum_len (m := m) (ys := ys) fun z hz => h z (List.mem_cons_of_mem _ hz)
    have h1 := h y List.mem_cons_self
    rw [List.map_cons, List.sum_cons, List.length_cons, Nat.succ_mul]
    omega
theorem sqT {K : PySem.W.Frag} {H H' : Hp} {a : Addr} {xs : List V} (h : SqT K H a xs) (s : Same H H') : SqT K H' a xs := Tups.of_same s _ _ h
theorem pow60 : (10 : Int) ^ (60 : Int).toNat = 1000000000000000000000000000000000000000000000000000000000000 := by decide +kernel
def spNum : Sp := fun vs H Q _ => ∃ n : Int, vs = [.int n] ∧ -(2 ^ 100) < n ∧ n < 2 ^ 100 ∧ ∀ H' : Hp, Same H H' → Q (.str (txt n)) H'
def spWord : Sp := fun vs H Q _ => ∃ x : V, vs = [x] ∧ WdOk x ∧ ∀ H' : Hp, Same H H' → Q (.str (wtx x)) H'
def spWords (K : PySem.W.Frag) : Sp := fun vs H Q _ => ∃ (p : Addr) (xs : List V), vs = [.ref p] ∧ SqT K H p xs ∧ xs.length ≤ 10 ∧ (∀ x ∈ xs, WdOk x) ∧ ∀ H' : Hp, Same H H' → Q (.str (Txt.join " " (xs.map wtx))) H'
section
variable {P : Program} {w : World} {K : PySem.W.Frag} {mg : Str → Option Value} {base : Heap}
theorem ok_shownum (T : Top K mg) : FnOk P w K mg base CX0 1 T.a_shownumber T.d_shownumber ["number"] spNum := by
  refine T.F_shownumber.ok sc_shownumber (fun vs H Q E h => ?_) (fun cdv A outer s H vs Q E hr h => ?_)
  · obtain ⟨n, rfl, _⟩ := h
    rfl
  · obtain ⟨n, rfl, n0, n1, q⟩ := h
    refine ⟨_, (pss_cons (ps_set (i := 1) sc_shownumber.nd rfl (.inl rfl) (pe_lst pa_nil))
      (pss_cons (ps_set (i := 2) sc_shownumber.nd rfl (.inl rfl) (pe_callB call_abs (by rfl) T.m_abs (by decide +kernel) (pa_cons (pv 0) pa_nil)))
      (pss_cons (ps_while PassesOwn.never (pt_cmpR op_ge (pv 2) (pe_op op_pow pe_int pe_int) (nomark _)) (pss_cons ps_never
      (pss_one ps_never)))
      (pss_cons (ps_expr (pe_bm PySem.F.plainAttrs_list PySem.F.slot_list_append PySem.F.type_list_append mt_append (pv 1) (pa_cons (pe_callTy call_str_int (by rfl) T.m_str (by decide +kernel) (pa_cons (pv 2) pa_nil)) pa_nil)))
      (pss_one (ps_ret (pe_op op_add_str (pe_ifExp (pt_cmpR op_lt (pv 0) pe_int (nomark _)) pe_str pe_str) (pe_joinRev rfl pe_str (by rfl) T.m_reversed (pv 1))))))))), ?_⟩
    refine ⟨Nat.zero_le _, fun pl npl => ⟨_, rfl, _, rfl, ?_⟩⟩
    have hr1 : -(2 ^ 100) < (if n < 0 then -n else n) := by split <;> omega
    have hr2 : (if n < 0 then -n else n) < 2 ^ 100 := by split <;> omega
    refine ⟨fun m σ' H' => σ' = [some (.int n), some (.ref pl), some (.int (if n < 0 then -n else n)), none] ∧ H' = upd H pl (.lst []), ⟨0, rfl, rfl⟩, ?_⟩
    rintro m σ' H' ⟨rfl, rfl⟩
    refine ⟨_, rfl, _, _, rfl, rfl, ⟨by decide, by decide, by decide⟩, _, _, rfl, rfl, _, rfl, ite2 (fun e => ?_) (fun _ => ?_)⟩
    · exfalso
      have e' := of_decide_eq_true e
      rw [pow60] at e'
      omega
    · refine ⟨_, rfl, .inl ⟨rfl, _, SqL.of upd_same⟩, _, rfl, _, rfl, log_ok hr1 hr2, pl, _, _, rfl, rfl, upd_same, szl (by decide), ?_⟩
      have s1 : Same H (upd (upd H pl (.lst [])) pl (.lst ([] ++ [V.str (Str.ofString (toString (if n < 0 then -n else n)))]))) := fun a o e => by
        rw [upd_ne (ne_of_none e npl), upd_ne (ne_of_none e npl)]
        exact e
      have jo : JoinOk ("" : Str) [txt (if n < 0 then -n else n)].reverse = true := PyProof.Rows.joinOk_of (by
        have := txt_len hr1 hr2
        show (txt (if n < 0 then -n else n)).length + 0 + 1 * 0 ≤ 16777216
        omega)
      have hl := txt_len hr1 hr2
      refine ⟨_, rfl, _, _, rfl, rfl, _, rfl, ite2 (fun e => ?_) (fun e => ?_)⟩
      · have e' : n < 0 := of_decide_eq_true e
        refine ⟨_, rfl, _, rfl, pl, [txt (if n < 0 then -n else n)], rfl, SqL.of upd_same, jo, _, _, rfl, rfl, ?_, ?_⟩
        · show 1 + (txt (if n < 0 then -n else n)).length ≤ sizeLine
          exact sz (by omega)
        · show Q (.str (("-" : Str) ++ txt (if n < 0 then -n else n))) _
          rw [if_pos e', txt_neg e']
          rw [if_pos e'] at s1
          exact q _ s1
      · have e' : ¬ n < 0 := fun z => e (decide_eq_true z)
        refine ⟨_, rfl, _, rfl, pl, [txt (if n < 0 then -n else n)], rfl, SqL.of upd_same, jo, _, _, rfl, rfl, ?_, ?_⟩
        · show 0 + (txt (if n < 0 then -n else n)).length ≤ sizeLine
          exact sz (by omega)
        · show Q (.str (("" : Str) ++ txt (if n < 0 then -n else n))) _
          rw [if_neg e', empty_add]
          rw [if_neg e'] at s1
          exact q _ s1
theorem ok_showword (T : Top K mg) : FnOk P w K mg base CX0 2 T.a_showword T.d_showword ["part"] spWord := by
  have G_shownumber : FnOk P w K mg base CX0 1 _ _ _ _ := ok_shownum T
  refine T.F_showword.ok sc_showword (fun vs H Q E h => ?_) (fun cdv A outer s H vs Q E hr h => ?_)
  · obtain ⟨x, rfl, _⟩ := h
    rfl
  · obtain ⟨x, rfl, hx, q⟩ := h
    refine ⟨_, (pss_cons (ps_if (pt_cmpR op_isN (pv 0) pe_non (nomark _)) (pss_one (ps_ret pe_str)) pss_nil)
      (pss_one (ps_ret (pe_ifExp (pt_val (pe_callB call_isi (by rfl) T.m_isinstance (by decide +kernel) (pa_cons (pv 0) (pa_cons (pe_bltn (v := .ty "str") (by rfl) T.m_str (by decide +kernel) rfl) pa_nil)))) (pv 0) (pe_call G_shownumber hr (by rfl) T.g_shownumber T.F_shownumber.kp T.b_shownumber .nil pass0 (pa_cons (pv 0) pa_nil)))))), ?_⟩
    rcases hx with ⟨n, rfl, n0, n1⟩ | ⟨t, rfl, h⟩
    · refine ⟨_, rfl, rfl, _, rfl, iteF ?_⟩
      refine ⟨_, rfl, _, _, _, _, false, rfl, ClsV.ty _, .base (.int _), kit_ty (by decide +kernel), _, rfl, iteF ?_⟩
      exact ⟨_, rfl, n, rfl, n0, n1, fun H' s1 => q H' s1⟩
    · refine ⟨_, rfl, rfl, _, rfl, iteF ?_⟩
      refine ⟨_, rfl, _, _, _, _, true, rfl, ClsV.ty _, .base (.str _), kit_ty (by decide +kernel), _, rfl, iteT ?_⟩
      exact ⟨_, rfl, q H (Same.refl H)⟩
theorem ok_showwords (T : Top K mg) : FnOk P w K mg base CX0 3 T.a_showwords T.d_showwords ["parts"] (spWords K) := by
  have G_showword : FnOk P w K mg base CX0 2 _ _ _ _ := ok_showword T
  refine T.F_showwords.ok sc_showwords (fun vs H Q E h => ?_) (fun cdv A outer s H vs Q E hr h => ?_)
  · obtain ⟨p, xs, rfl, _⟩ := h
    rfl
  · obtain ⟨p, xs, rfl, hS, hl, hw, q⟩ := h
    refine ⟨_, (pss_one (ps_ret (pe_join pe_str (pe_lc (own := [("part", 1)]) (g := gName 1) (tt := tYes) (by rfl) sc_showwords.nd (pi_tup (pv 0)) (blkOk_by (own := [("part", 1)]) (N := ["parts", "part"]) (sc := defScope s_showwords) (by decide +kernel)) (fun _ _ _ _ _ => (pg_name (i := 1) sc_showwords.nd rfl (.inl rfl))) (fun _ _ _ _ _ => pts_nil) (fun _ _ _ _ _ => (pe_call G_showword hr (by rfl) T.g_showword T.F_showword.kp T.b_showword .nil pass0 (pa_cons (pv 1) pa_nil))))))), ?_⟩
    refine ⟨⟨_, rfl⟩, _, rfl, p, rfl, ⟨xs, hS⟩, fun D nD => ?_⟩
    refine lc_tup (xs := xs) (fun i H6 => H6 D = some (.lst ((xs.take i).map fun x => V.str (wtx x))) ∧ Same H H6) ⟨upd_same, same_new nD⟩ (fun i H6 _ z => sqT hS z.2) ?_ ?_
    · rintro i x H6 hx ⟨hD, s6⟩
      have hm := List.mem_of_getElem? hx
      have hi := (List.getElem?_eq_some_iff.mp hx).1
      refine ⟨rfl, yes_ite ?_⟩
      refine ⟨_, rfl, x, rfl, hw x hm, fun H7 s7 => ?_⟩
      refine ⟨_, s7 _ _ hD, szl ?_, ?_, ?_⟩
      · rw [List.length_map, List.length_take]
        omega
      · rw [upd_same, List.take_succ, hx, List.map_append]
        rfl
      · intro a o e
        rw [upd_ne (ne_of_none e nD)]
        exact s7 _ _ (s6 _ _ e)
    · rintro H6 ⟨hD, s6⟩
      rw [List.take_length] at hD
      have e : (xs.map fun x => V.str (wtx x)) = (xs.map wtx).map V.str := by
        rw [List.map_map]
        rfl
      rw [e] at hD
      refine ⟨_, _, _, rfl, rfl, .inl (SqL.of hD), ?_, ?_⟩
      · have z := sum_len (m := 100) (ys := xs.map wtx) fun y hy => by
          obtain ⟨x, hx, rfl⟩ := List.mem_map.mp hy
          exact wtx_len (hw x hx)
        rw [List.length_map] at z
        rw [List.length_map, show (" " : Str).length = 1 from rfl]
        omega
      · exact q H6 s6
end

end My
namespace My
open PySem L2
/-! ### what stands behind a forest -/
theorem TdAll.at {K : PySem.W.Frag} {H : Hp} : ∀ {vs : List V} {ds : List PyData} {i : Nat} {v : V}, TdAll K H vs ds → vs[i]? = some v → ∃ d, ds[i]? = some d ∧ Td K H v d
  | _, _, _, _, .nil, h => nomatch h
  | _, _, 0, v, .cons (d := d) h _, e => ⟨d, rfl, Option.some.inj e ▸ h⟩
  | _, _, i + 1, _, .cons _ k, e => TdAll.at (i := i) k e
theorem pdata_inv {K : PySem.W.Frag} {H : Hp} {v : V} {p : Int × Str} (h : Td K H v (pdata p)) : ∃ a, v = .ref a ∧ SqT K H a [.int p.1, .str p.2] := by
  cases h with
  | tup h k =>
    cases k with
    | cons k1 k =>
      cases k with
      | cons k2 k =>
        cases k
        cases k1
        cases k2
        exact ⟨_, rfl, h⟩
theorem Td.parts {K : PySem.W.Frag} {H : Hp} {f : V} {pts : List (Int × Str)} {ts : List (Int × Int)} (h : Td K H f (fdata pts ts)) : ∃ (a pa ta : Addr) (xs ys : List V), f = .ref a ∧ SqT K H a [.ref pa, .ref ta] ∧ SqT K H pa xs ∧ TdAll K H xs (pts.map pdata) ∧ SqT K H ta ys ∧ TdAll K H ys (ts.map tdata) := by
  unfold fdata at h
  cases h with
  | tup h k =>
    cases k with
    | cons k1 k2 =>
      cases k2 with
      | cons k2 k3 =>
        cases k3
        cases k1 with
        | tup h1 l1 =>
          cases k2 with
          | tup h2 l2 => exact ⟨_, _, _, _, _, rfl, h, h1, l1, h2, l2⟩
theorem tdata_inv {K : PySem.W.Frag} {H : Hp} {v : V} {t : Int × Int} (h : Td K H v (tdata t)) : ∃ a, v = .ref a ∧ SqT K H a [.int t.1, .int t.2] := by
  unfold tdata at h
  cases h with
  | tup h k =>
    cases k with
    | cons k1 k2 =>
      cases k2 with
      | cons k2 k3 =>
        cases k3
        cases k1
        cases k2
        exact ⟨_, rfl, h⟩
/-- a starred argument, the table as it is written -/
theorem pa_starK {X : Cx} {K : PySem.W.Frag} {e : Expr} {es : List Expr} {te : TE} {t : TA} {p : Pos} (hK : X.K = K) (he : PE X e te) (hr : PA X es t) (hs : starEach (.Starred e p :: es) X.env = (true, eval e X.env) :: starEach es X.env := by rfl) : PA X (.Starred e p :: es) (StX.tStar K te t) := by
  subst hK
  exact StX.pa_star he hr hs

/-! ### the rows of a forest -/
def prow (p : Int × Str) : Str := Txt.join " " ["point", txt p.1, p.2]
def trow (t : Int × Int) : Str := Txt.join " " ["tie", txt t.1, txt t.2]
def rowsOf (pts : List (Int × Str)) (ts : List (Int × Int)) : List Str := pts.map prow ++ ts.map trow
structure RwOk (pts : List (Int × Str)) (ts : List (Int × Int)) : Prop where
  few : pts.length ≤ 100
  tl : ts.length ≤ 100
  pok : ∀ p ∈ pts, PtOk p
  tok : ∀ t ∈ ts, 0 ≤ t.1 ∧ 0 ≤ t.2 ∧ t.1 < 100 ∧ t.2 < 100
theorem FrOk.rw {pts : List (Int × Str)} {ts : List (Int × Int)} (h : FrOk pts ts) : RwOk pts ts := ⟨h.few, Nat.le_trans h.tl h.few, h.pok, fun t m => by
  have := h.tok t m
  have := h.few
  omega⟩
theorem join3_len (a b c : Str) : (Txt.join " " [a, b, c]).length = a.length + 1 + b.length + 1 + c.length := by
  show (a.cps ++ (" " : Str).cps ++ b.cps ++ (" " : Str).cps ++ c.cps).size = _
  rw [Array.size_append, Array.size_append, Array.size_append, Array.size_append]
  rfl
theorem kind_len : ∀ k ∈ kinds, k.length ≤ 1 := by decide +kernel
theorem prow_len {p : Int × Str} (h : PtOk p) : (prow p).length ≤ 100 := by
  unfold prow
  rw [join3_len]
  have h1 := txt_len h.1 h.2.1
  have h2 := kind_len _ h.2.2
  have h3 : ("point" : Str).length = 5 := rfl
  omega
theorem trow_len {t : Int × Int} (h : 0 ≤ t.1 ∧ 0 ≤ t.2 ∧ t.1 < 100 ∧ t.2 < 100) : (trow t).length ≤ 100 := by
  unfold trow
  rw [join3_len]
  have h1 := txt_len (i := t.1) (by omega) (by omega)
  have h2 := txt_len (i := t.2) (by omega) (by omega)
  have h3 : ("tie" : Str).length = 3 := rfl
  omega
theorem rows_len {pts : List (Int × Str)} {ts : List (Int × Int)} (h : RwOk pts ts) : ((rowsOf pts ts).map (fun x => x.length)).sum + (rowsOf pts ts).length * ("\n" : Str).length ≤ 16777216 := by
  have z := sum_len (m := 100) (ys := rowsOf pts ts) fun y hy => by
    rcases List.mem_append.mp hy with m | m
    · obtain ⟨p, hp, rfl⟩ := List.mem_map.mp m
      exact prow_len (h.pok p hp)
    · obtain ⟨t, ht, rfl⟩ := List.mem_map.mp m
      exact trow_len (h.tok t ht)
  have l : (rowsOf pts ts).length = pts.length + ts.length := by
    unfold rowsOf
    rw [List.length_append, List.length_map, List.length_map]
  have l1 := h.few
  have l2 := h.tl
  rw [show ("\n" : Str).length = 1 from rfl]
  omega
def spRowsD (K : PySem.W.Frag) : Sp := fun vs H Q _ => ∃ (f : Addr) (pts : List (Int × Str)) (ts : List (Int × Int)), vs = [.ref f] ∧ Td K H (.ref f) (fdata pts ts) ∧ RwOk pts ts ∧
  ∀ (D : Addr) (H' : Hp), Same H H' → H' D = some (.lst ((rowsOf pts ts).map V.str)) → Q (.ref D) H'
def spShowF (K : PySem.W.Frag) : Sp := fun vs H Q _ => ∃ (f : Addr) (pts : List (Int × Str)) (ts : List (Int × Int)), vs = [.ref f] ∧ Td K H (.ref f) (fdata pts ts) ∧ RwOk pts ts ∧
  ∀ H' : Hp, Same H H' → Q (.str (Txt.join "\n" (rowsOf pts ts))) H'
theorem three_all {α : Type} (p : α → Prop) {a b c : α} (ha : p a) (hb : p b) (hc : p c) : ∀ x ∈ [a, b, c], p x := fun x m => by
  rcases List.mem_cons.mp m with rfl | m
  · exact ha
  rcases List.mem_cons.mp m with rfl | m
  · exact hb
  · rw [List.mem_singleton.mp m]
    exact hc
theorem at_map_inv {α : Type} {f : α → PyData} {xs : List α} {i : Nat} {d : PyData} (h : (xs.map f)[i]? = some d) : ∃ x, xs[i]? = some x ∧ d = f x := by
  rw [List.getElem?_map] at h
  cases e : xs[i]? with
  | none =>
    rw [e] at h
    cases h
  | some x =>
    rw [e] at h
    exact ⟨x, rfl, (Option.some.inj h).symm⟩
section
variable {P : Program} {w : World} {K : PySem.W.Frag} {mg : Str → Option Value} {base : Heap}
theorem ok_forestrows (T : Top K mg) : FnOk P w K mg base CX0 4 T.a_forestrows T.d_forestrows ["forest"] (spRowsD K) := by
  have G_showwords : FnOk P w K mg base CX0 3 _ _ _ _ := ok_showwords T
  refine T.F_forestrows.ok sc_forestrows (fun vs H Q E h => ?_) (fun cdv A outer s H vs Q E hr h => ?_)
  · obtain ⟨f, pts, ts, rfl, _⟩ := h
    rfl
  · obtain ⟨f, pts, ts, rfl, td, ok, q⟩ := h
    obtain ⟨f', pa, ta, xs, ys, e, hf, hpa, tpa, hta, tta⟩ := td.parts
    obtain rfl : f = f' := V.ref.inj e
    refine ⟨_, (pss_cons (ps_asg (pv 0) (pg_tup rfl (pgs_cons (pg_name (i := 1) sc_forestrows.nd rfl (.inl rfl)) (pgs_cons (pg_name (i := 2) sc_forestrows.nd rfl (.inl rfl)) pgs_nil))))
      (pss_one (ps_ret (pe_op op_cat (pe_lc (own := [("point", 3)]) (g := gName 3) (tt := tYes) (by rfl) sc_forestrows.nd (pi_tup (pv 1)) (blkOk_by (own := [("point", 3)]) (N := ["forest", "points", "ties", "point", "tie"]) (sc := defScope s_forestrows) (by decide +kernel)) (fun _ _ _ _ _ => (pg_name (i := 3) sc_forestrows.nd rfl (.inl rfl))) (fun _ _ _ _ _ => pts_nil) (fun _ _ _ _ _ => (pe_call G_showwords hr (by rfl) T.g_showwords T.F_showwords.kp T.b_showwords .nil pass0 (pa_cons (pe_tup (pa_cons pe_str (pa_starK (K := K) rfl (pv 3) pa_nil))) pa_nil)))) (pe_lc (own := [("tie", 4)]) (g := gName 4) (tt := tYes) (by rfl) sc_forestrows.nd (pi_tup (pv 2)) (blkOk_by (own := [("tie", 4)]) (N := ["forest", "points", "ties", "point", "tie"]) (sc := defScope s_forestrows) (by decide +kernel)) (fun _ _ _ _ _ => (pg_name (i := 4) sc_forestrows.nd rfl (.inl rfl))) (fun _ _ _ _ _ => pts_nil) (fun _ _ _ _ _ => (pe_call G_showwords hr (by rfl) T.g_showwords T.F_showwords.kp T.b_showwords .nil pass0 (pa_cons (pe_tup (pa_cons pe_str (pa_starK (K := K) rfl (pv 4) pa_nil))) pa_nil)))))))), ?_⟩
    refine ⟨_, rfl, f, _, rfl, hf, rfl, _, _, rfl, _, _, rfl, rfl, ?_⟩
    refine ⟨_, rfl, pa, rfl, ⟨xs, hpa⟩, fun D nD => ?_⟩
    have lx := tpa.length
    rw [List.length_map] at lx
    have ly := tta.length
    rw [List.length_map] at ly
    have ok1 := ok.few
    have ok2 := ok.tl
    refine lc_tup (xs := xs) (fun i H6 => H6 D = some (.lst ((pts.take i).map fun p => V.str (prow p))) ∧ Same H H6) ⟨upd_same, same_new nD⟩ (fun i H6 _ z => sqT hpa z.2) ?_ ?_
    · rintro i x H6 hx ⟨hD, s6⟩
      have hi := (List.getElem?_eq_some_iff.mp hx).1
      obtain ⟨d, hd, tx⟩ := tpa.at hx
      obtain ⟨p, hp, rfl⟩ := at_map_inv hd
      obtain ⟨pp, rfl, hpp⟩ := pdata_inv tx
      have pk := ok.pok p (List.mem_of_getElem? hp)
      refine ⟨rfl, yes_ite ?_⟩
      refine ⟨_, rfl, pp, _, rfl, .inl (sqT hpp s6), (by show 3 ≤ sizeLine; decide), fun t nt => ?_⟩
      refine ⟨t, [.str "point", .int p.1, .str p.2], rfl, SqT.of upd_same, (by show 3 ≤ 10; decide), three_all WdOk (.inr ⟨_, rfl, by decide +kernel⟩) (.inl ⟨_, rfl, pk.1, pk.2.1⟩) (.inr ⟨_, rfl, Nat.le_trans (kind_len _ pk.2.2) (by decide)⟩), fun H7 s7 => ?_⟩
      refine ⟨_, s7 _ _ (same_new nt _ _ hD), szl ?_, ?_, ?_⟩
      · rw [List.length_map, List.length_take]
        omega
      · rw [upd_same, List.take_succ, hp, List.map_append]
        rfl
      · intro a o e
        rw [upd_ne (ne_of_none e nD)]
        exact s7 _ _ (same_new nt _ _ (s6 _ _ e))
    · rintro H6 ⟨hD, s6⟩
      rw [lx, List.take_length] at hD
      refine ⟨_, rfl, ta, rfl, ⟨ys, sqT hta s6⟩, fun D2 nD2 => ?_⟩
      refine lc_tup (xs := ys) (fun i H7 => H7 D2 = some (.lst ((ts.take i).map fun p => V.str (trow p))) ∧ Same H6 H7) ⟨upd_same, same_new nD2⟩ (fun i H7 _ z => sqT (sqT hta s6) z.2) ?_ ?_
      · rintro i x H7 hx ⟨hD7, s7⟩
        have hi := (List.getElem?_eq_some_iff.mp hx).1
        obtain ⟨d, hd, tx⟩ := tta.at hx
        obtain ⟨p, hp, rfl⟩ := at_map_inv hd
        obtain ⟨pp, rfl, hpp⟩ := tdata_inv tx
        have pk := ok.tok p (List.mem_of_getElem? hp)
        refine ⟨rfl, yes_ite ?_⟩
        refine ⟨_, rfl, pp, _, rfl, .inl (sqT hpp (s6.trans s7)), (by show 3 ≤ sizeLine; decide), fun t nt => ?_⟩
        refine ⟨t, [.str "tie", .int p.1, .int p.2], rfl, SqT.of upd_same, (by show 3 ≤ 10; decide), three_all WdOk (.inr ⟨_, rfl, by decide +kernel⟩) (.inl ⟨_, rfl, by omega, by omega⟩) (.inl ⟨_, rfl, by omega, by omega⟩), fun H8 s8 => ?_⟩
        refine ⟨_, s8 _ _ (same_new nt _ _ hD7), szl ?_, ?_, ?_⟩
        · rw [List.length_map, List.length_take]
          omega
        · rw [upd_same, List.take_succ, hp, List.map_append]
          rfl
        · intro a o e
          rw [upd_ne (ne_of_none e nD2)]
          exact s8 _ _ (same_new nt _ _ (s7 _ _ e))
      · rintro H7 ⟨hD7, s7⟩
        rw [ly, List.take_length] at hD7
        refine ⟨D, D2, _, _, rfl, rfl, s7 _ _ hD, hD7, sz ?_, fun p np => ?_⟩
        · rw [List.length_map, List.length_map]
          omega
        · refine q p _ ((s6.trans s7).trans (same_new np)) ?_
          rw [upd_same]
          unfold rowsOf
          rw [List.map_append, List.map_map, List.map_map]
          rfl
theorem ok_showforest (T : Top K mg) : FnOk P w K mg base CX0 5 T.a_showforest T.d_showforest ["forest"] (spShowF K) := by
  have G_forestrows : FnOk P w K mg base CX0 4 _ _ _ _ := ok_forestrows T
  refine T.F_showforest.ok sc_showforest (fun vs H Q E h => ?_) (fun cdv A outer s H vs Q E hr h => ?_)
  · obtain ⟨f, pts, ts, rfl, _⟩ := h
    rfl
  · obtain ⟨f, pts, ts, rfl, td, ok, q⟩ := h
    refine ⟨_, (pss_one (ps_ret (pe_join pe_str (pe_call G_forestrows hr (by rfl) T.g_forestrows T.F_forestrows.kp T.b_forestrows .nil pass0 (pa_cons (pv 0) pa_nil))))), ?_⟩
    refine ⟨⟨_, rfl⟩, _, rfl, f, pts, ts, rfl, td, ok, fun D H1 s1 hD => ?_⟩
    exact ⟨_, D, _, rfl, rfl, .inl (SqL.of hD), rows_len ok, q H1 s1⟩
theorem ok_rowsof (T : Top K mg) : FnOk P w K mg base CX0 1 T.a_Lrowsof T.d_Lrowsof ["_law_forest_here"] (spRowsD K) := by
  refine T.F_Lrowsof.ok sc_Lrowsof (fun vs H Q E h => ?_) (fun cdv A outer s H vs Q E hr h => ?_)
  · obtain ⟨f, pts, ts, rfl, _⟩ := h
    rfl
  · obtain ⟨f, pts, ts, rfl, td, ok, q⟩ := h
    obtain ⟨f', pa, ta, xs, ys, e, hf, hpa, tpa, hta, tta⟩ := td.parts
    obtain rfl : f = f' := V.ref.inj e
    have lx := tpa.length
    rw [List.length_map] at lx
    have ly := tta.length
    rw [List.length_map] at ly
    have ok1 := ok.few
    have ok2 := ok.tl
    refine ⟨_, (pss_cons (ps_set (i := 1) sc_Lrowsof.nd rfl (.inl rfl) (pe_lst pa_nil))
      (pss_cons (ps_for PassesOwn.never rfl (pi_tup (pe_ix ix_tup (pv 0) pe_int (fun _ _ => rfl))) (pg_tup rfl (pgs_cons (pg_name (i := 2) sc_Lrowsof.nd rfl (.inl rfl)) (pgs_cons (pg_name (i := 3) sc_Lrowsof.nd rfl (.inl rfl)) pgs_nil))) (pss_one (ps_expr (pe_bm PySem.F.plainAttrs_list PySem.F.slot_list_append PySem.F.type_list_append mt_append (pv 1) (pa_cons (pe_join pe_str (pe_lst (pa_cons pe_str (pa_cons (pe_callTy call_str_int (by rfl) T.m_str (by decide +kernel) (pa_cons (pv 2) pa_nil)) (pa_cons (pv 3) pa_nil))))) pa_nil)))))
      (pss_cons (ps_for PassesOwn.never rfl (pi_tup (pe_ix ix_tup (pv 0) pe_int (fun _ _ => rfl))) (pg_tup rfl (pgs_cons (pg_name (i := 4) sc_Lrowsof.nd rfl (.inl rfl)) (pgs_cons (pg_name (i := 5) sc_Lrowsof.nd rfl (.inl rfl)) pgs_nil))) (pss_one (ps_expr (pe_bm PySem.F.plainAttrs_list PySem.F.slot_list_append PySem.F.type_list_append mt_append (pv 1) (pa_cons (pe_join pe_str (pe_lst (pa_cons pe_str (pa_cons (pe_callTy call_str_int (by rfl) T.m_str (by decide +kernel) (pa_cons (pv 4) pa_nil)) (pa_cons (pe_callTy call_str_int (by rfl) T.m_str (by decide +kernel) (pa_cons (pv 5) pa_nil)) pa_nil))))) pa_nil)))))
      (pss_one (ps_ret (pv 1)))))), ?_⟩
    refine ⟨Nat.zero_le _, fun D nD => ?_⟩
    have s1 : Same H (upd H D (.lst [])) := same_new nD
    refine ⟨_, rfl, f, _, _, _, rfl, rfl, sqT hf s1, atI_nat (j := 0) rfl, pa, rfl, ⟨xs, sqT hpa s1⟩, for_tup (xs := xs) (fun i σ H6 => ∃ (y2 y3 : Option V), σ = [some (.ref f), some (.ref D), y2, y3, none, none] ∧ H6 D = some (.lst ((pts.take i).map fun p => V.str (prow p))) ∧ Same H H6) ⟨none, none, rfl, upd_same, s1⟩ (fun i σ H6 _ z => by obtain ⟨_, _, _, _, z⟩ := z; exact sqT hpa z) ?_ ?_⟩
    · rintro i x σ H6 hx ⟨y2, y3, rfl, hD, s6⟩
      have hi := (List.getElem?_eq_some_iff.mp hx).1
      obtain ⟨d, hd, tx⟩ := tpa.at hx
      obtain ⟨p, hp, rfl⟩ := at_map_inv hd
      obtain ⟨pp, rfl, hpp⟩ := pdata_inv tx
      have pk := ok.pok p (List.mem_of_getElem? hp)
      refine ⟨pp, _, rfl, sqT hpp s6, rfl, _, _, rfl, _, _, rfl, rfl, ?_⟩
      refine ⟨_, rfl, .inl ⟨rfl, _, SqL.of hD⟩, ⟨_, rfl⟩, _, rfl, _, rfl, log_ok pk.1 pk.2.1, _, rfl, (by show 3 ≤ sizeLine; decide), fun l nl => ?_⟩
      refine ⟨_, l, ["point", txt p.1, p.2], rfl, rfl, .inl (SqL.of upd_same), ?_, ?_⟩
      · have h1 := txt_len pk.1 pk.2.1
        have h2 := kind_len _ pk.2.2
        show 5 + ((txt p.1).length + (p.2.length + 0)) + 3 * 1 ≤ 16777216
        omega
      · refine ⟨D, _, _, rfl, rfl, same_new nl _ _ hD, szl ?_, ?_⟩
        · rw [List.length_map, List.length_take]
          omega
        · refine ⟨_, _, rfl, ?_, ?_⟩
          · rw [upd_same, List.take_succ, hp, List.map_append]
            rfl
          · intro a o e
            rw [upd_ne (ne_of_none e nD)]
            exact same_new nl _ _ (s6 _ _ e)
    · rintro σ H6 ⟨y2, y3, rfl, hD, s6⟩
      rw [lx, List.take_length] at hD
      refine ⟨_, rfl, f, _, _, _, rfl, rfl, sqT hf s6, atI_nat (j := 1) rfl, ta, rfl, ⟨ys, sqT hta s6⟩, for_tup (xs := ys) (fun i σ H7 => ∃ (y4 y5 : Option V), σ = [some (.ref f), some (.ref D), y2, y3, y4, y5] ∧ H7 D = some (.lst ((pts.map fun p => V.str (prow p)) ++ (ts.take i).map fun p => V.str (trow p))) ∧ Same H H7) ⟨none, none, rfl, (by rw [hD]; simp), s6⟩ (fun i σ H7 _ z => by obtain ⟨_, _, _, _, z⟩ := z; exact sqT hta z) ?_ ?_⟩
      · rintro i x σ H7 hx ⟨y4, y5, rfl, hD7, s7⟩
        have hi := (List.getElem?_eq_some_iff.mp hx).1
        obtain ⟨d, hd, tx⟩ := tta.at hx
        obtain ⟨p, hp, rfl⟩ := at_map_inv hd
        obtain ⟨pp, rfl, hpp⟩ := tdata_inv tx
        have pk := ok.tok p (List.mem_of_getElem? hp)
        have b1 : -(2 ^ 100) < p.1 := by omega
        have b2 : p.1 < 2 ^ 100 := by omega
        have b3 : -(2 ^ 100) < p.2 := by omega
        have b4 : p.2 < 2 ^ 100 := by omega
        refine ⟨pp, _, rfl, sqT hpp s7, rfl, _, _, rfl, _, _, rfl, rfl, ?_⟩
        refine ⟨_, rfl, .inl ⟨rfl, _, SqL.of hD7⟩, ⟨_, rfl⟩, _, rfl, _, rfl, log_ok b1 b2, _, rfl, _, rfl, log_ok b3 b4, (by show 3 ≤ sizeLine; decide), fun l nl => ?_⟩
        refine ⟨_, l, ["tie", txt p.1, txt p.2], rfl, rfl, .inl (SqL.of upd_same), ?_, ?_⟩
        · have h1 := txt_len b1 b2
          have h2 := txt_len b3 b4
          show 3 + ((txt p.1).length + ((txt p.2).length + 0)) + 3 * 1 ≤ 16777216
          omega
        · refine ⟨D, _, _, rfl, rfl, same_new nl _ _ hD7, szl ?_, ?_⟩
          · rw [List.length_append, List.length_map, List.length_map, List.length_take]
            omega
          · refine ⟨_, _, rfl, ?_, ?_⟩
            · rw [upd_same, List.take_succ, hp, List.map_append, List.append_assoc]
              rfl
            · intro a o e
              rw [upd_ne (ne_of_none e nD)]
              exact same_new nl _ _ (s7 _ _ e)
      · rintro σ H7 ⟨y4, y5, rfl, hD7, s7⟩
        rw [ly, List.take_length] at hD7
        refine ⟨_, rfl, q D H7 s7 ?_⟩
        rw [hD7]
        unfold rowsOf
        rw [List.map_append, List.map_map, List.map_map]
        rfl
end

end My
namespace My
open PySem L2
/-! ### the law -/
section
variable {P : Program} {w : World} {K : PySem.W.Frag} {mg : Str → Option Value} {base : Heap}
theorem last_row : Txt.join "\n" (rowsOf [(-7, "h")] []) = "point -7 h" := by decide +kernel
theorem ok_law (T : Top K mg) : FnOk P w K mg base CX0 6 T.a_law T.d_law ["_law_script"] (spLaw K) := by
  have G_Lbegin : FnOk P w K mg base CX0 1 _ _ _ _ := ok_begin T
  have G_Lforest : FnOk P w K mg base CX0 3 _ _ _ _ := ok_forest T
  have G_Lrowsof : FnOk P w K mg base CX0 1 _ _ _ _ := ok_rowsof T
  have G_showforest : FnOk P w K mg base CX0 5 _ _ _ _ := ok_showforest T
  refine T.F_law.ok sc_law (fun vs H Q E h => ?_) (fun cdv A outer s H vs Q E hr h => ?_)
  · obtain ⟨a, ns, rfl, _⟩ := h
    rfl
  · obtain ⟨a, ns, rfl, hS, hlen, hbits, q⟩ := h
    refine ⟨_, (pss_cons (ps_set (i := 1) sc_law.nd rfl (.inl rfl) (pe_call G_Lbegin (hr.mono (by decide)) (by rfl) T.g_Lbegin T.F_Lbegin.kp T.b_Lbegin .nil pass0 (pa_cons (pv 0) pa_nil)))
      (pss_cons (ps_for PassesOwn.never rfl (pi_range1 (by rfl) T.m_range (pa_cons (pe_op op_add pe_int (pe_callB call_len_seq (by rfl) T.m_len PySem.boot_len (pa_cons (pe_slice sl_list (pv 0) po_none (po_some pe_int)) pa_nil))) pa_nil)) (pg_name (i := 2) sc_law.nd rfl (.inl rfl)) (pss_cons (ps_set (i := 3) sc_law.nd rfl (.inl rfl) (pe_call G_Lforest (hr.mono (by decide)) (by rfl) T.g_Lforest T.F_Lforest.kp T.b_Lforest .nil pass0 (pa_cons (pv 1) (pa_cons pe_int pa_nil))))
      (pss_cons (ps_set (i := 4) sc_law.nd rfl (.inl rfl) (pe_join pe_str (pe_call G_Lrowsof (hr.mono (by decide)) (by rfl) T.g_Lrowsof T.F_Lrowsof.kp T.b_Lrowsof .nil pass0 (pa_cons (pv 3) pa_nil))))
      (pss_one (ps_for PassesOwn.never rfl (pi_range1 (by rfl) T.m_range (pa_cons pe_int pa_nil)) (pg_name (i := 5) sc_law.nd rfl (.inl rfl)) (pss_cons (ps_set (i := 6) sc_law.nd rfl (.inl rfl) (pe_call G_showforest hr (by rfl) T.g_showforest T.F_showforest.kp T.b_showforest .nil pass0 (pa_cons (pv 3) pa_nil)))
      (pss_one (ps_if (PW.pt (pw_or (pt_not (pt_val (pe_callB call_isi (by rfl) T.m_isinstance (by decide +kernel) (pa_cons (pv 6) (pa_cons (pe_bltn (v := .ty "str") (by rfl) T.m_str (by decide +kernel) rfl) pa_nil))))) (pw_or1 (pt_cmpR op_ne (pv 6) (pv 4) (nomark _))))) (pss_one (ps_ret pe_bl)) pss_nil))))))))
      (pss_one (ps_ret (pe_cmpR op_eq (pe_call G_showforest hr (by rfl) T.g_showforest T.F_showforest.kp T.b_showforest .nil pass0 (pa_cons (pe_tup (pa_cons (pe_tup (pa_cons (pe_tup (pa_cons (pe_un un_neg pe_int) (pa_cons pe_str pa_nil))) pa_nil)) (pa_cons (pe_tup pa_nil) pa_nil))) pa_nil)) pe_str (nomark _)))))), ?_⟩
    refine ⟨_, rfl, a, ns, rfl, hS, fun d c ms H1 s1 nd D1 => ?_⟩
    refine ⟨_, rfl, 6, rfl, a, _, rfl, s1.seq hS, fun p np => ⟨p, _, rfl, .inl (SqL.of upd_same), _, _, rfl, rfl, _, rfl, by omega, ?_, ?_⟩⟩
    · have z := cutV_length (ns.map V.int) none (some 6)
      rw [List.length_map] at z
      omega
    · have B1 : DrAt H1 d c := ⟨ms, D1⟩
      refine for_range (lo := 0) (n := _) (fun i σ H2 => ∃ y2 y3 y4 y5 y6, σ = [some (.ref a), some (.ref d), y2, y3, y4, y5, y6] ∧ DrAt H2 d c) ⟨none, none, none, none, none, rfl, B1.new np⟩ ?_ ?_
      · rintro i σ H2 hi ⟨y2, y3, y4, y5, y6, rfl, B2⟩
        refine ⟨_, rfl, d, c, 100, rfl, B2, by decide, by decide, fun f pts ts H3 fok hm B3 k3 td => ?_⟩
        refine ⟨⟨_, rfl⟩, _, rfl, f, pts, ts, rfl, td, fok.rw, fun D H4 s4 hD => ⟨_, D, _, rfl, rfl, .inl (SqL.of hD), rows_len fok.rw, ?_⟩⟩
        have td4 := td.mono (Tups.of_same s4)
        refine ⟨2, rfl, by decide, by decide, for_range (lo := 0) (n := 2) (fun i σ H5 => ∃ z2 z5 z6, σ = [some (.ref a), some (.ref d), z2, some (.ref f), some (.str (Txt.join "\n" (rowsOf pts ts))), z5, z6] ∧ Same H4 H5) ⟨_, _, _, rfl, Same.refl H4⟩ ?_ ?_⟩
        · rintro i σ H5 hi ⟨z2, z5, z6, rfl, s5⟩
          refine ⟨_, rfl, f, pts, ts, rfl, td4.mono (Tups.of_same s5), fok.rw, fun H6 s6 => ?_⟩
          refine ⟨_, rfl, _, _, _, _, true, rfl, ClsV.ty _, .base (.str _), kit_ty (by decide +kernel), true, rfl, iteF ?_⟩
          refine ⟨_, rfl, _, rfl, rfl, _, rfl, iteNS rfl ?_⟩
          exact ⟨_, _, _, rfl, s5.trans s6⟩
        · rintro σ H5 ⟨z2, z5, z6, rfl, s5⟩
          exact ⟨_, _, _, _, _, rfl, (B3.same s4).same s5⟩
      · rintro σ H2 ⟨y2, y3, y4, y5, y6, rfl, B2⟩
        refine ⟨_, rfl, (by show 2 ≤ sizeLine; decide), fun t1 n1 => ⟨(by show 1 ≤ sizeLine; decide), fun t2 n2 => ⟨(by show 0 ≤ sizeLine; decide), fun t3 n3 => ⟨(by show 2 ≤ sizeLine; decide), fun t4 n4 => ?_⟩⟩⟩⟩
        have s2 := same_new (o := .tup [.ref t1]) n2
        have s3 := same_new (o := .tup []) n3
        have s4 := same_new (o := .tup [.ref t2, .ref t3]) n4
        refine ⟨t4, [(-7, "h")], [], rfl, ?_, ⟨by decide, by decide, ?_, fun t m => nomatch m⟩, fun H6 s6 => ?_⟩
        · refine .tup (SqT.of upd_same) (.cons (.tup (SqT.of (s4 _ _ (s3 _ _ upd_same))) (.cons (Td.pt (s4 _ _ (s3 _ _ (s2 _ _ upd_same)))) .nil)) (.cons (.tup (SqT.of (s4 _ _ upd_same)) .nil) .nil))
        · intro p m
          rw [List.mem_singleton.mp m]
          exact ⟨by decide, by decide, by decide +kernel⟩
        · refine ⟨rfl, ?_⟩
          rw [last_row]
          exact q _
end

end My
namespace My
open PySem L2
theorem all_mk {l : PySem.W.OpenLaw} {w : World} {K : PySem.W.Frag} {h : Heap} {mg : Str → Option Value} {fa f0 f1 f2 f3 f4 f5 f6 f7 f8 f9 f10 f11 : Addr} (X : K.In h) (G : h.Ns mainGlobals mg) (hfa : mg "law" = some (.ref fa))
    {od0 an0 od1 an1 od2 an2 od3 an3 od4 an4 od5 an5 od6 an6 od7 an7 od8 an8 od9 an9 od10 an10 od11 an11 : Option Addr} {sl0 sl1 sl2 sl3 sl4 sl5 sl6 sl7 sl8 sl9 sl10 sl11 : Array (Option Value)} {oc0 kV0 dc0 pm0 cd0 ct0 oc1 kV1 dc1 pm1 cd1 ct1 oc2 kV2 dc2 pm2 cd2 ct2 oc3 kV3 dc3 pm3 cd3 ct3 oc4 kV4 dc4 pm4 cd4 ct4 oc5 kV5 dc5 pm5 cd5 ct5 oc6 kV6 dc6 pm6 cd6 ct6 oc7 kV7 dc7 pm7 cd7 ct7 oc8 kV8 dc8 pm8 cd8 ct8 oc9 kV9 dc9 pm9 cd9 ct9 oc10 kV10 dc10 pm10 cd10 ct10 oc11 kV11 dc11 pm11 cd11 ct11 : Value}
    (a0 : PySem.W.nsIn K mainGlobals "show_words" = some (some (.ref f0))) (l0 : K.lookup f0 = some ⟨oc0, od0, .func (PySem.W.fnOf "show_words" "show_words" (defArgs s_showwords) (defBody s_showwords) (defScope s_showwords) .none kV0 dc0 pm0 an0 cd0 ct0), sl0⟩) (c0 : PySem.W.codeIn K cd0 "show_words" = true) (k0 : PySem.W.keepIn K (.ref f0) = true)
    (a1 : PySem.W.nsIn K mainGlobals "show_word" = some (some (.ref f1))) (l1 : K.lookup f1 = some ⟨oc1, od1, .func (PySem.W.fnOf "show_word" "show_word" (defArgs s_showword) (defBody s_showword) (defScope s_showword) .none kV1 dc1 pm1 an1 cd1 ct1), sl1⟩) (c1 : PySem.W.codeIn K cd1 "show_word" = true) (k1 : PySem.W.keepIn K (.ref f1) = true)
    (a2 : PySem.W.nsIn K mainGlobals "show_number" = some (some (.ref f2))) (l2 : K.lookup f2 = some ⟨oc2, od2, .func (PySem.W.fnOf "show_number" "show_number" (defArgs s_shownumber) (defBody s_shownumber) (defScope s_shownumber) .none kV2 dc2 pm2 an2 cd2 ct2), sl2⟩) (c2 : PySem.W.codeIn K cd2 "show_number" = true) (k2 : PySem.W.keepIn K (.ref f2) = true)
    (a3 : PySem.W.nsIn K mainGlobals "show_forest" = some (some (.ref f3))) (l3 : K.lookup f3 = some ⟨oc3, od3, .func (PySem.W.fnOf "show_forest" "show_forest" (defArgs s_showforest) (defBody s_showforest) (defScope s_showforest) .none kV3 dc3 pm3 an3 cd3 ct3), sl3⟩) (c3 : PySem.W.codeIn K cd3 "show_forest" = true) (k3 : PySem.W.keepIn K (.ref f3) = true)
    (a4 : PySem.W.nsIn K mainGlobals "forest_rows" = some (some (.ref f4))) (l4 : K.lookup f4 = some ⟨oc4, od4, .func (PySem.W.fnOf "forest_rows" "forest_rows" (defArgs s_forestrows) (defBody s_forestrows) (defScope s_forestrows) .none kV4 dc4 pm4 an4 cd4 ct4), sl4⟩) (c4 : PySem.W.codeIn K cd4 "forest_rows" = true) (k4 : PySem.W.keepIn K (.ref f4) = true)
    (a5 : PySem.W.nsIn K mainGlobals "_law_begin" = some (some (.ref f5))) (l5 : K.lookup f5 = some ⟨oc5, od5, .func (PySem.W.fnOf "_law_begin" "_law_begin" (defArgs s_Lbegin) (defBody s_Lbegin) (defScope s_Lbegin) .none kV5 dc5 pm5 an5 cd5 ct5), sl5⟩) (c5 : PySem.W.codeIn K cd5 "_law_begin" = true) (k5 : PySem.W.keepIn K (.ref f5) = true)
    (a6 : PySem.W.nsIn K mainGlobals "_law_next" = some (some (.ref f6))) (l6 : K.lookup f6 = some ⟨oc6, od6, .func (PySem.W.fnOf "_law_next" "_law_next" (defArgs s_Lnext) (defBody s_Lnext) (defScope s_Lnext) .none kV6 dc6 pm6 an6 cd6 ct6), sl6⟩) (c6 : PySem.W.codeIn K cd6 "_law_next" = true) (k6 : PySem.W.keepIn K (.ref f6) = true)
    (a7 : PySem.W.nsIn K mainGlobals "_law_many" = some (some (.ref f7))) (l7 : K.lookup f7 = some ⟨oc7, od7, .func (PySem.W.fnOf "_law_many" "_law_many" (defArgs s_Lmany) (defBody s_Lmany) (defScope s_Lmany) .none kV7 dc7 pm7 an7 cd7 ct7), sl7⟩) (c7 : PySem.W.codeIn K cd7 "_law_many" = true) (k7 : PySem.W.keepIn K (.ref f7) = true)
    (a8 : PySem.W.nsIn K mainGlobals "_law_worth" = some (some (.ref f8))) (l8 : K.lookup f8 = some ⟨oc8, od8, .func (PySem.W.fnOf "_law_worth" "_law_worth" (defArgs s_Lworth) (defBody s_Lworth) (defScope s_Lworth) .none kV8 dc8 pm8 an8 cd8 ct8), sl8⟩) (c8 : PySem.W.codeIn K cd8 "_law_worth" = true) (k8 : PySem.W.keepIn K (.ref f8) = true)
    (a9 : PySem.W.nsIn K mainGlobals "_law_forest" = some (some (.ref f9))) (l9 : K.lookup f9 = some ⟨oc9, od9, .func (PySem.W.fnOf "_law_forest" "_law_forest" (defArgs s_Lforest) (defBody s_Lforest) (defScope s_Lforest) .none kV9 dc9 pm9 an9 cd9 ct9), sl9⟩) (c9 : PySem.W.codeIn K cd9 "_law_forest" = true) (k9 : PySem.W.keepIn K (.ref f9) = true)
    (a10 : PySem.W.nsIn K mainGlobals "_law_rows_of" = some (some (.ref f10))) (l10 : K.lookup f10 = some ⟨oc10, od10, .func (PySem.W.fnOf "_law_rows_of" "_law_rows_of" (defArgs s_Lrowsof) (defBody s_Lrowsof) (defScope s_Lrowsof) .none kV10 dc10 pm10 an10 cd10 ct10), sl10⟩) (c10 : PySem.W.codeIn K cd10 "_law_rows_of" = true) (k10 : PySem.W.keepIn K (.ref f10) = true)
    (a11 : PySem.W.nsIn K mainGlobals "law" = some (some (.ref f11))) (l11 : K.lookup f11 = some ⟨oc11, od11, .func (PySem.W.fnOf "law" "law" (defArgs s_law) (defBody s_law) (defScope s_law) .none kV11 dc11 pm11 an11 cd11 ct11), sl11⟩) (c11 : PySem.W.codeIn K cd11 "law" = true) (k11 : PySem.W.keepIn K (.ref f11) = true)
    (z0 : PySem.W.nsIn K mainGlobals "abs" = some none)
    (z1 : PySem.W.nsIn K mainGlobals "int" = some none)
    (z2 : PySem.W.nsIn K mainGlobals "isinstance" = some none)
    (z3 : PySem.W.nsIn K mainGlobals "len" = some none)
    (z4 : PySem.W.nsIn K mainGlobals "list" = some none)
    (z5 : PySem.W.nsIn K mainGlobals "max" = some none)
    (z6 : PySem.W.nsIn K mainGlobals "min" = some none)
    (z7 : PySem.W.nsIn K mainGlobals "range" = some none)
    (z8 : PySem.W.nsIn K mainGlobals "reversed" = some none)
    (z9 : PySem.W.nsIn K mainGlobals "sorted" = some none)
    (z10 : PySem.W.nsIn K mainGlobals "str" = some none)
    (z11 : PySem.W.nsIn K mainGlobals "tuple" = some none)
    : ∃ fd : FuncData, (∀ (s : Shared) (v : Value), BindsTo s fd ⟨[v], []⟩ [("_law_script", v)]) ∧ ∀ base : Heap, K.In base → base.Ns mainGlobals mg → FnOk l.prog w K mg base CX0 6 fa fd ["_law_script"] (spLaw K) := by
  have e := hfa.symm.trans (PySem.W.mg_of X G a11)
  cases e
  have F0 := fun_mk (st := s_showwords) l0 c0 k0
  have b0 := F0.binds (ps := ["parts"]) fun _ _ _ _ _ _ us hl => match us, hl with | [_], _ => rfl
  have F1 := fun_mk (st := s_showword) l1 c1 k1
  have b1 := F1.binds (ps := ["part"]) fun _ _ _ _ _ _ us hl => match us, hl with | [_], _ => rfl
  have F2 := fun_mk (st := s_shownumber) l2 c2 k2
  have b2 := F2.binds (ps := ["number"]) fun _ _ _ _ _ _ us hl => match us, hl with | [_], _ => rfl
  have F3 := fun_mk (st := s_showforest) l3 c3 k3
  have b3 := F3.binds (ps := ["forest"]) fun _ _ _ _ _ _ us hl => match us, hl with | [_], _ => rfl
  have F4 := fun_mk (st := s_forestrows) l4 c4 k4
  have b4 := F4.binds (ps := ["forest"]) fun _ _ _ _ _ _ us hl => match us, hl with | [_], _ => rfl
  have F5 := fun_mk (st := s_Lbegin) l5 c5 k5
  have b5 := F5.binds (ps := ["_law_script"]) fun _ _ _ _ _ _ us hl => match us, hl with | [_], _ => rfl
  have F6 := fun_mk (st := s_Lnext) l6 c6 k6
  have b6 := F6.binds (ps := ["_law_draws", "_law_many_here"]) fun _ _ _ _ _ _ us hl => match us, hl with | [_, _], _ => rfl
  have F7 := fun_mk (st := s_Lmany) l7 c7 k7
  have b7 := F7.binds (ps := ["_law_draws", "_law_few", "_law_most"]) fun _ _ _ _ _ _ us hl => match us, hl with | [_, _, _], _ => rfl
  have F8 := fun_mk (st := s_Lworth) l8 c8 k8
  have b8 := F8.binds (ps := ["_law_draws"]) fun _ _ _ _ _ _ us hl => match us, hl with | [_], _ => rfl
  have F9 := fun_mk (st := s_Lforest) l9 c9 k9
  have b9 := F9.binds (ps := ["_law_draws", "_law_most"]) fun _ _ _ _ _ _ us hl => match us, hl with | [_, _], _ => rfl
  have F10 := fun_mk (st := s_Lrowsof) l10 c10 k10
  have b10 := F10.binds (ps := ["_law_forest_here"]) fun _ _ _ _ _ _ us hl => match us, hl with | [_], _ => rfl
  have F11 := fun_mk (st := s_law) l11 c11 k11
  have b11 := F11.binds (ps := ["_law_script"]) fun _ _ _ _ _ _ us hl => match us, hl with | [_], _ => rfl
  let T : Top K mg := ⟨_, _, F0, b0, PySem.W.mg_of X G a0, _, _, F1, b1, PySem.W.mg_of X G a1, _, _, F2, b2, PySem.W.mg_of X G a2, _, _, F3, b3, PySem.W.mg_of X G a3, _, _, F4, b4, PySem.W.mg_of X G a4, _, _, F5, b5, PySem.W.mg_of X G a5, _, _, F6, b6, PySem.W.mg_of X G a6, _, _, F7, b7, PySem.W.mg_of X G a7, _, _, F8, b8, PySem.W.mg_of X G a8, _, _, F9, b9, PySem.W.mg_of X G a9, _, _, F10, b10, PySem.W.mg_of X G a10, _, _, F11, b11, PySem.W.mg_of X G a11, PySem.W.mg_none_of X G z0, PySem.W.mg_none_of X G z1, PySem.W.mg_none_of X G z2, PySem.W.mg_none_of X G z3, PySem.W.mg_none_of X G z4, PySem.W.mg_none_of X G z5, PySem.W.mg_none_of X G z6, PySem.W.mg_none_of X G z7, PySem.W.mg_none_of X G z8, PySem.W.mg_none_of X G z9, PySem.W.mg_none_of X G z10, PySem.W.mg_none_of X G z11⟩
  exact ⟨_, fun s v => .of_eq rfl, fun base _ _ => ok_law (P := l.prog) (w := w) (base := base) T⟩
end My
open PySem PySem.W PyProof.Rows
set_option maxRecDepth 100000 in
set_option maxHeartbeats 0 in
theorem PySem.Challenge.cw_tiedcut_k79_forests_shown_holds : PySem.Challenge.rw_tiedcut_k79_forests_shown.Holds := by
  w_on; o_law; k_head; (case hw => w_witness2)
  k_fill
  refine L2.walk_ofB (l := PySem.Challenge.rw_tiedcut_k79_forests_shown) (n := 63) (k := 6) (x := "_law_script") (CX := fun _ => L2.CX0) (sp := fun w => My.spLaw _) rfl (by decide) rfl ⟨rfl, by decide, by decide⟩ (fun w h Y => by first | exact PySem.W.kIn_of Y | exact PySem.W.km_in_of Y) ?F (fun _ _ a ns hl hb _ hS => ⟨a, ns, rfl, hS, hl, hb, fun _ => rfl⟩) (fun _ _ _ _ _ h => h)
  case F =>
    intro w mg fa h KX G hmg
    refine' My.all_mk KX G hmg ?a0 ?l0 ?c0 ?k0 ?a1 ?l1 ?c1 ?k1 ?a2 ?l2 ?c2 ?k2 ?a3 ?l3 ?c3 ?k3 ?a4 ?l4 ?c4 ?k4 ?a5 ?l5 ?c5 ?k5 ?a6 ?l6 ?c6 ?k6 ?a7 ?l7 ?c7 ?k7 ?a8 ?l8 ?c8 ?k8 ?a9 ?l9 ?c9 ?k9 ?a10 ?l10 ?c10 ?k10 ?a11 ?l11 ?c11 ?k11 ?z0 ?z1 ?z2 ?z3 ?z4 ?z5 ?z6 ?z7 ?z8 ?z9 ?z10 ?z11
    (case a0 => k_is)
    (case l0 => k_is)
    (case c0 => k_is)
    (case k0 => k_is)
    (case a1 => k_is)
    (case l1 => k_is)
    (case c1 => k_is)
    (case k1 => k_is)
    (case a2 => k_is)
    (case l2 => k_is)
    (case c2 => k_is)
    (case k2 => k_is)
    (case a3 => k_is)
    (case l3 => k_is)
    (case c3 => k_is)
    (case k3 => k_is)
    (case a4 => k_is)
    (case l4 => k_is)
    (case c4 => k_is)
    (case k4 => k_is)
    (case a5 => k_is)
    (case l5 => k_is)
    (case c5 => k_is)
    (case k5 => k_is)
    (case a6 => k_is)
    (case l6 => k_is)
    (case c6 => k_is)
    (case k6 => k_is)
    (case a7 => k_is)
    (case l7 => k_is)
    (case c7 => k_is)
    (case k7 => k_is)
    (case a8 => k_is)
    (case l8 => k_is)
    (case c8 => k_is)
    (case k8 => k_is)
    (case a9 => k_is)
    (case l9 => k_is)
    (case c9 => k_is)
    (case k9 => k_is)
    (case a10 => k_is)
    (case l10 => k_is)
    (case c10 => k_is)
    (case k10 => k_is)
    (case a11 => k_is)
    (case l11 => k_is)
    (case c11 => k_is)
    (case k11 => k_is)
    (case z0 => k_is)
    (case z1 => k_is)
    (case z2 => k_is)
    (case z3 => k_is)
    (case z4 => k_is)
    (case z5 => k_is)
    (case z6 => k_is)
    (case z7 => k_is)
    (case z8 => k_is)
    (case z9 => k_is)
    (case z10 => k_is)
    (case z11 => k_is)
