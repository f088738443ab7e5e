import PyProof.Rows.All
import Wide.All
import OpenK.AllK
import Wide.FinOn
import HandS.ForMost
import HandS.More
import HandS.Sort
import HandS.Wide
import HandS.WideBits
import HandS.IsInst
import HandS.EndBits
import HandS.TupLe
import HandS.TupAny
import HandS.Star
import HandS.Style
import HandS.Text
import HandS.Walk
import HandS.Deep
import HandS.AnyAll
import HandS.GenOver
import HandS.Lambda
import HandS.RevTup
import HandS.Rev
import PyProof.JoinWalk
import KE.GoesMore
import PySem.Challenge.RW_tiedcut_k84_told_written
set_option Elab.async false
set_option linter.all false
set_option maxRecDepth 100000
set_option maxHeartbeats 4000000
namespace My
open PySem L2
/-! ### a mid-condition behind a statement, an expression, a test -/
def sMid (t : TS) : TS := fun D σ H => ∃ M : L2.St → Hp → Prop, t { D with nx := M } σ H ∧ ∀ σ' H', M σ' H' → D.nx σ' H'
theorem ps_mid {X : Cx} {st : Stmt} {t : TS} (h : PS X st t) : PS X st (sMid t) := by
  refine ⟨fun pins s σ H D I z => ?_⟩
  obtain ⟨M, q, k⟩ := z
  refine thn (h.run pins s σ H { D with nx := M } I q) fun f s1 y => ?_
  cases f with
  | next =>
    obtain ⟨σ', H', I', y⟩ := y
    exact ⟨σ', H', I', k _ _ y⟩
  | ret v => exact y
  | brk => exact y
  | cont => exact y
def tMid (t : TT) : TT := fun σ H Q => ∃ M : Bool → Hp → Prop, t σ H M ∧ ∀ b H', M b H' → Q b H'
theorem pt_mid {X : Cx} {e : Expr} {t : TT} (h : PT X e t) : PT X e (tMid t) := by
  refine ⟨fun pins s σ H Q I z => ?_⟩
  obtain ⟨M, q, k⟩ := z
  exact thn (h.run pins s σ H M I q) fun b s1 ⟨H', I', y⟩ => ⟨H', I', k _ _ y⟩
def eMid (t : TE) : TE := fun σ H Q => ∃ M : V → Hp → Prop, t σ H M ∧ ∀ v H', M v H' → Q v H'
theorem pe_mid {X : Cx} {e : Expr} {t : TE} (h : PE X e t) : PE X e (eMid t) := by
  refine ⟨fun pins s σ H Q I z => ?_⟩
  obtain ⟨M, q, k⟩ := z
  exact thn (h.run pins s σ H M I q) fun u s1 ⟨v, H', I', r, y⟩ => ⟨v, H', I', r, k _ _ y⟩
theorem yes_ite {σ : L2.St} {H : Hp} {A B : Hp → Prop} (h : A H) : tYes σ H (fun b H3 => if b = true then A H3 else B H3) := by
  unfold tYes
  exact (show (if true = true then A H else B H) from iteT h)
/-- xs[i] op= e, the read -/
theorem get_list {X : Cx} : PGet X (rIxL X.K) := by
  intro pins s σ H x y v u Q I rx ry h
  obtain ⟨p, xs, i, z, rfl, rfl, hq, he, q⟩ := h
  cases rx
  obtain ⟨t, rfl⟩ := ry
  obtain ⟨its, r, pl, hz⟩ := I.list hq
  obtain ⟨j, h1, h2, h3, h4, h5⟩ := atI_get he
  obtain ⟨w, ew, rw'⟩ := r.get h2
  have hl := r.length
  have hn := line63
  have fin : EP X pins σ Q w s := ⟨z, H, I, rw', q⟩
  by_cases h0 : 0 ≤ i
  · have hj : i.toNat = j := by
      rw [PySem.seqIndex_of h0 h5] at h1
      exact Option.some.inj h1
    exact PySem.wpAny_getItem_list pl.isList h0 (by omega) (by rw [hj]; simpa using ew) fin
  · have hj : (i + (its.toArray.size : Int)).toNat = j := by
      rw [PySem.seqIndex_neg (by omega) h4] at h1
      rw [List.size_toArray, ← hl]
      exact Option.some.inj h1
    exact PySem.wpAny_getItem_list_neg pl.isList (by omega) (by rw [List.size_toArray] <;> omega) (by omega) (by rw [hj]; simpa using ew) fin
theorem same_new {H : Hp} {p : Addr} {o : HO} (h : H p = none) : Same H (upd H p o) := fun b u q => by rw [upd_ne (ne_of_none q h)]; exact q
/-- all but d as it was -/
def But (d : Addr) (H H' : Hp) : Prop := ∀ b o, H b = some o → b ≠ d → H' b = some o
theorem But.refl {d : Addr} {H : Hp} : But d H H := fun _ _ e _ => e
theorem But.trans {d : Addr} {H H1 H2 : Hp} (x : But d H H1) (y : But d H1 H2) : But d H H2 := fun b o e n => y b o (x b o e n) n
theorem But.put {d : Addr} {H H1 : Hp} {o : HO} (x : But d H H1) : But d H (upd H1 d o) := fun b u e n => by
  rw [upd_ne n]
  exact x b u e n
theorem But.new {d p : Addr} {H H1 : Hp} {o : HO} (x : But d H H1) (n : H1 p = none) : But d H (upd H1 p o) := fun b u e nb => by
  have q := x b u e nb
  rw [upd_ne (ne_of_none q n)]
  exact q
theorem But.same {d : Addr} {H H1 H2 : Hp} (x : But d H H1) (s : Same H1 H2) : But d H H2 := fun b u e nb => s _ _ (x b u e nb)
theorem at_map {ns : List Int} {k : Int} (h0 : 0 ≤ k) (h : k < (ns.length : Int)) : ∃ v : Int, atI (ns.map V.int) k = some (.int v) ∧ v ∈ ns := by
  have hk : k.toNat < ns.length := by omega
  have ek : k = ((k.toNat : Nat) : Int) := by omega
  have q : atI (ns.map V.int) ((k.toNat : Nat) : Int) = some (.int ns[k.toNat]) := atI_nat (by rw [List.getElem?_map, List.getElem?_eq_getElem hk] <;> rfl)
  rw [← ek] at q
  exact ⟨_, q, List.getElem_mem _⟩
theorem at_any {α : Type} {xs : List α} {k : Int} (h0 : 0 ≤ k) (h : k < (xs.length : Int)) : ∃ v : α, atI xs k = some v ∧ v ∈ xs := by
  have hk : k.toNat < xs.length := by omega
  have ek : k = ((k.toNat : Nat) : Int) := by omega
  have q : atI xs ((k.toNat : Nat) : Int) = some xs[k.toNat] := atI_nat (List.getElem?_eq_getElem hk)
  rw [← ek] at q
  exact ⟨_, q, List.getElem_mem _⟩
theorem wide_ok {i j : Int} (h : 0 < j) (h2 : j < 2 ^ 100) : CDivW i j := wide_div (b := 100) h (by
  have e : ((j.natAbs : Nat) : Int) < ((2 ^ 100 : Nat) : Int) := by
    rw [Int.natCast_pow]
    show (j.natAbs : Int) < 2 ^ 100
    omega
  exact_mod_cast e) (by decide) (by decide)
theorem cut_map (ns : List Int) (hi : Option Int) : ∃ k : Nat, cutV (ns.map V.int) none hi = (ns.take k).map V.int := by
  refine ⟨HT.sIx ns.length ns.length hi, ?_⟩
  unfold cutV
  rw [HT.sIx_none, List.drop_zero, Nat.sub_zero, List.length_map, List.map_take]
theorem cut_nat {α : Type} (xs : List V) (k : Nat) : cutV xs none (some (k : Int)) = xs.take k := by
  unfold cutV
  rw [HT.sIx_none, List.drop_zero, Nat.sub_zero, HT.sIx_nat]
  by_cases h : k ≤ xs.length
  · rw [Nat.min_eq_left h]
  · rw [Nat.min_eq_right (by omega), List.take_of_length_le (Nat.le_refl _), List.take_of_length_le (by omega)]
theorem sz {n : Nat} (h : n ≤ 100000) : n ≤ sizeLine := Nat.le_trans h (by decide)
theorem szl {n : Nat} (h : n < 100000) : n < sizeLine := Nat.lt_of_lt_of_le h (by decide)
def spLaw (K : PySem.W.Frag) : Sp := fun vs H Q _ => ∃ (a : Addr) (ns : List Int), vs = [.ref a] ∧ SqL K H a (ns.map V.int) ∧ ns.length ≤ 63 ∧ (∀ z ∈ ns, Builtin.Int.intBits z ≤ 1048576) ∧ ∀ H', Q (.bl true) H'
/-! ### data of tuples -/
mutual
inductive Td (K : PySem.W.Frag) (H : Hp) : V → PyData → Prop
  | non : Td K H .non .none
  | bl (b : Bool) : Td K H (.bl b) (.bool b)
  | int (i : Int) : Td K H (.int i) (.int i)
  | str (x : Str) : Td K H (.str x) (.str x)
  | tup {a : Addr} {xs : List V} {ds : List PyData} : SqT K H a xs → TdAll K H xs ds → Td K H (.ref a) (.tuple ds)
inductive TdAll (K : PySem.W.Frag) (H : Hp) : List V → List PyData → Prop
  | nil : TdAll K H [] []
  | cons {v : V} {vs : List V} {d : PyData} {ds : List PyData} : Td K H v d → TdAll K H vs ds → TdAll K H (v :: vs) (d :: ds)
end
/-- tuples stay -/
def Tups (K : PySem.W.Frag) (H H' : Hp) : Prop := ∀ a xs, SqT K H a xs → SqT K H' a xs
theorem Tups.of_same {K : PySem.W.Frag} {H H' : Hp} (s : Same H H') : Tups K H H' := fun a xs h => by
  rcases h with h | h
  · rcases h with h | ⟨o, h⟩
    · exact .inl (.inl (s _ _ h))
    · exact .inl (.inr ⟨o, s _ _ h⟩)
  · exact .inr h
theorem Tups.of_but {K : PySem.W.Frag} {H H' : Hp} {d : Addr} {l : List V} (s : But d H H') (e : H d = some (.lst l)) : Tups K H H' := fun a xs h => by
  rcases h with h | h
  · rcases h with h | ⟨o, h⟩
    · exact .inl (.inl (s _ _ h (ne_of h e (by intro z; cases z))))
    · exact .inl (.inr ⟨o, s _ _ h (ne_of h e (by intro z; cases z))⟩)
  · exact .inr h
theorem Tups.trans {K : PySem.W.Frag} {H H1 H2 : Hp} (a : Tups K H H1) (b : Tups K H1 H2) : Tups K H H2 := fun p xs h => b _ _ (a _ _ h)
mutual
theorem Td.mono {K : PySem.W.Frag} {H H' : Hp} (t : Tups K H H') : ∀ {v : V} {d : PyData}, Td K H v d → Td K H' v d
  | _, _, .non => .non
  | _, _, .bl b => .bl b
  | _, _, .int i => .int i
  | _, _, .str x => .str x
  | _, _, .tup h k => .tup (t _ _ h) (TdAll.mono t k)
theorem TdAll.mono {K : PySem.W.Frag} {H H' : Hp} (t : Tups K H H') : ∀ {vs : List V} {ds : List PyData}, TdAll K H vs ds → TdAll K H' vs ds
  | _, _, .nil => .nil
  | _, _, .cons h k => .cons (Td.mono t h) (TdAll.mono t k)
end
mutual
theorem Td.dp {K : PySem.W.Frag} {H : Hp} : ∀ {v : V} {d : PyData}, Td K H v d → Dp K H v d
  | _, _, .non => .non
  | _, _, .bl b => .bl b
  | _, _, .int i => .int i
  | _, _, .str x => .str x
  | _, _, .tup h k => .tup h (TdAll.dp k)
theorem TdAll.dp {K : PySem.W.Frag} {H : Hp} : ∀ {vs : List V} {ds : List PyData}, TdAll K H vs ds → DpAll K H vs ds
  | _, _, .nil => .nil
  | _, _, .cons h k => .cons (Td.dp h) (TdAll.dp k)
end
theorem TdAll.length {K : PySem.W.Frag} {H : Hp} : ∀ {vs : List V} {ds : List PyData}, TdAll K H vs ds → vs.length = ds.length
  | _, _, .nil => rfl
  | _, _, .cons _ k => congrArg (· + 1) (TdAll.length k)
theorem TdAll.append {K : PySem.W.Frag} {H : Hp} : ∀ {vs ws : List V} {ds es : List PyData}, TdAll K H vs ds → TdAll K H ws es → TdAll K H (vs ++ ws) (ds ++ es)
  | _, _, _, _, .nil, k => k
  | _, _, _, _, .cons h k, z => .cons h (TdAll.append k z)
theorem TdAll.get {K : PySem.W.Frag} {H : Hp} : ∀ {vs : List V} {ds : List PyData}, TdAll K H vs ds → ∀ {v : V}, v ∈ vs → ∃ d, d ∈ ds ∧ Td K H v d
  | _, _, .nil, _, h => nomatch h
  | _, _, .cons (d := d) h k, v, m => by
    rcases List.mem_cons.mp m with e | m
    · subst e
      exact ⟨d, List.mem_cons_self, h⟩
    · obtain ⟨d', hd, t⟩ := TdAll.get k m
      exact ⟨d', List.mem_cons_of_mem _ hd, t⟩
theorem inV_str (w : Str) : ∀ ws : List Str, inV (.str w) (ws.map V.str) = decide (w ∈ ws)
  | [] => rfl
  | x :: r => by
    have ih := inV_str w r
    unfold inV at ih ⊢
    rw [List.map_cons, List.any_cons, ih]
    by_cases e : x = w
    · subst e
      simp [eqV]
    · have e2 : ¬ w = x := fun z => e z.symm
      simp [eqV, e, e2]
theorem flat_strs : ∀ ws : List Str, (ws.map V.str).all flatV = true
  | [] => rfl
  | _ :: r => by
    rw [List.map_cons, List.all_cons, flat_strs r]
    rfl
/-- the kinds -/
def kinds : List Str := ["a", "b", "c", "d", "e", "f", "g", "h"]
/-- a tuple as a target, the table and the number as they are written -/
theorem pg_tupK {X : Cx} {K : PySem.W.Frag} {pos : Pos} {es : List Expr} {k : Nat} {t : TGs} {n : Nat} (hK : X.K = K) (hc : X.calm = true) (h : PGs X es t)
    (hn : (assignEach es X.env).length = n) (hst : (assignEach es X.env).findIdx? (·.1) = none := by rfl) : PG X (.Tuple es k pos) (gTup K n t) := by
  subst hK
  exact pg_tup hc h hn hst
theorem cut_tail (x : V) (ps : List V) : cutV (x :: ps) (some 1) none = ps := by
  unfold cutV
  rw [show (1 : Int) = ((1 : Nat) : Int) from rfl, HT.sIx_nat, HT.sIx_none, List.length_cons]
  have e : min 1 (ps.length + 1) = 1 := by omega
  rw [e, List.drop_succ_cons, List.drop_zero, Nat.add_sub_cancel, List.take_of_length_le (Nat.le_refl _)]
theorem u1 {k : Nat} {A : Around} (h : Room k A) : A.units + 1 < cLine := by
  have := h.units
  omega
theorem u0 {k : Nat} {A : Around} (h : Room k A) : A.units < cLine := by
  have := h.units
  omega
theorem u65 {k : Nat} {A : Around} (h : Room k A) : A.units + 65 < cLine := by
  have := h.un
  omega
theorem op_in_seqK {X : Cx} {K : PySem.W.Frag} (hK : X.K = K) : OpR X (compareOp .In) (rIn K false) := by
  subst hK
  exact op_in_seq
theorem op_notIn_seqK {X : Cx} {K : PySem.W.Frag} (hK : X.K = K) : OpR X (compareOp .NotIn) (rIn K true) := by
  subst hK
  exact op_notIn_seq

end My
namespace My
open PySem PySem.Spec PyProof.Rows L2
/-! ### sep.join(reversed(a list of texts)) -/
theorem not_of {b : Bool} (h : (!b) = true) : b = false := by
  cases b
  · rfl
  · cases h
theorem gives_tail {sep : Str} : ∀ {rs : List (Str × Tok)}, JoinOk sep (rs.map (·.1)) = true → Gives (joinTail sep (strValues rs)) (joinMade sep rs)
  | [], ok => gives_joinTail sep [] (not_of ok)
  | [p], ok => gives_joinTail sep [p] (not_of ok)
  | p :: q :: r, ok => gives_joinTail sep (p :: q :: r) (not_of ok)
theorem join_rev {prog : Program} {w : World} {A : Around} {E : Value → Shared → Prop} {s : Shared} {sep : Str} {t : Tok} {Q : Value → Shared → Prop} {it l : Addr} {us : List (Str × Tok)} (hh : A.handled = none) (hit : s.heap.IsRevIter it l (((strValues us).toArray.size : Int) - 1))
    (hl : s.heap.IsList l (strValues us).toArray) (hne : l ≠ it) (hn : (strValues us).toArray.size ≤ sizeLine) (hok : JoinOk sep (us.map (·.1)).reverse = true)
    (hq : ∀ (h' : Heap) (t' : Tok) (k : Nat), (∀ b o, b ≠ it → s.heap.get? b = some o → h'.get? b = some o) → Q (.str (Txt.join sep (us.map (·.1)).reverse) t') { s with heap := h', toks := k }) :
    wpAny (model prog w) A (call (.builtin "str.join") [.str sep t, .ref it]) Q E s := by
  refine wpAny_call (codeAny_call_builtin F.slot_str_join.plain F.entry_str_join (F.slot_str_join.check _ _ _ _ _ _ _ _ (typeIs_str _ _ _) (F.args_str_join_2 _ _) ?_))
  rw [join_tree_other]
  have ty : s.TypeIs (.ref it) "list_reverseiterator" := hit.typeIs
  refine wpAny_bind (wpAny_typeOf ty ?_)
  show wpAny _ A.in1 ((pyIter (.ref it)).tryCatch _ >>= fun i2 => collect i2 >>= fun zs => joinTail sep zs) _ _ s
  refine wpAny_bind (wpAny_tryCatch (wpAny_pyIter_revIter hit ?_))
  refine wpAny_bind (RT.collect_rev (A := A.in1) hh hit hl hne hn fun h' tk acc hk hacc => ?_)
  have eacc : acc.toList = strValues us.reverse := by
    have e1 : strValues us.reverse = (strValues us).reverse := by
      unfold strValues
      rw [List.map_reverse]
    rw [e1]
    refine List.ext_getElem? fun j => ?_
    have sz : acc.size = (strValues us).length := by
      rw [hacc.1, List.size_toArray]
    by_cases hj : j < (strValues us).length
    · rw [List.getElem?_reverse hj]
      have hja : j < acc.size := by omega
      have z := hacc.2 j _ (Array.getElem?_eq_getElem hja)
      rw [List.size_toArray, List.getElem?_toArray] at z
      rw [z, Array.getElem?_toList, Array.getElem?_eq_getElem hja]
    · rw [List.getElem?_eq_none (by rw [Array.length_toList]; omega), List.getElem?_eq_none (by rw [List.length_reverse]; omega)]
  rw [eacc]
  have ok2 : JoinOk sep (us.reverse.map (·.1)) = true := by
    rw [List.map_reverse]
    exact hok
  have g := gives_tail ok2
  refine g prog w A (wants Q E) _ (post_join us.reverse ⟨joinFit_length (not_of ok2), fun t' k => ?_⟩)
  rw [List.map_reverse]
  exact hq h' t' k hk
def tJoinRev (K : PySem.W.Frag) (to te : TE) : TE := fun σ H Q => to σ H fun v H1 => ∃ sep : Str, v = .str sep ∧ te σ H1 fun u H2 => ∃ (a : Addr) (ws : List Str), u = .ref a ∧ SqL K H2 a (ws.map V.str) ∧ JoinOk sep ws.reverse = true ∧ Q (.str (Txt.join sep ws.reverse)) H2
theorem strs_at : ∀ {ws : List Str} {us : List Value}, Vals (ws.map V.str) us → ∃ l : List (Str × Tok), strValues l = us ∧ l.map (·.1) = ws
  | [], _, .nil => ⟨[], rfl, rfl⟩
  | x :: ws, _ :: us, .cons r rs => by
    obtain ⟨t, rfl⟩ := r
    obtain ⟨l, e1, e2⟩ := strs_at rs
    exact ⟨(x, t) :: l, by rw [← e1]; rfl, by rw [← e2]; rfl⟩
theorem pe_joinRev {X : Cx} {o e : Expr} {to te : TE} {apos cpos p2 pos2 : Pos} (hc : X.calm = true) (ho : PE X o to) (hg2 : Gl X "reversed") (hm2 : X.mg "reversed" = none) (he : PE X e te)
    (hbase : attributeBase o "join" X.env (eval o X.env) = eval o X.env := by rfl)
    (hfew : ((backTo cpos (starEach [.Call (.Name "reversed" p2) [e] [] pos2] X.env)).all (fun x => !x.1) && (backToKw cpos (keywordEach [] X.env)).all (fun x => x.1.isSome)
      && decide (([.Call (.Name "reversed" p2) [e] [] pos2] : List Expr).length + ([] : List Keyword).length + (if ([] : List Keyword).isEmpty then 0 else 1) < 30)) = true := by rfl)
    (hline : (apos.endLine == cpos.line) = true := by rfl) (hs1 : starEach [e] X.env = (false, eval e X.env) :: starEach [] X.env := by rfl)
    (hs2 : starEach [.Call (.Name "reversed" p2) [e] [] pos2] X.env = (false, eval (.Call (.Name "reversed" p2) [e] [] pos2) X.env) :: starEach [] X.env := by rfl) (hpl : (backTo cpos (starEach [] X.env)).any (·.1) = false := by rfl) :
    PE X (.Call (.Attribute o "join" apos) [.Call (.Name "reversed" p2) [e] [] pos2] [] cpos) (tJoinRev X.K to te) := by
  constructor
  intro pins s σ H Q I h
  refine wpAny_Call_method_late hbase hfew hline rfl (thn (ho.run pins s σ H _ I h) fun v s1 z => ?_)
  obtain ⟨x', H1, I1, r1, sep, rfl, q1⟩ := z
  obtain ⟨tk, rfl⟩ := (show ∃ t, v = Value.str sep t from r1)
  refine ⟨"str", _, PySem.F.plainAttrs_str, PySem.F.slot_str_join, PySem.F.type_str_join, typeIs_str _ _ _, (fun _ z => nomatch z), ?_⟩
  rw [hs2]
  refine Calls.callWith_builtin (by show (false || (backTo cpos (starEach [] X.env)).any (·.1)) = false; rw [hpl]; rfl) (Calls.evalArgs_plain ?_)
  show wpAny _ _ (spliced ((false, eval (.Call (.Name "reversed" p2) [e] [] pos2) X.env) :: backTo cpos (starEach [] X.env))) _ _ s1
  refine Calls.spliced_cons (Call_ (ld_blt I1 hg2 hm2 PyProof.Rows.boot_reversed (PyProof.Rows.callWith_type1 (args_cons (thn (he.run pins s1 σ H1 _ I1 q1) fun u s2 z => args_nil ?_) hs1) hs1 rfl)))
  obtain ⟨y, H2, I2, r2, a, ws, rfl, sq, jok, q⟩ := z
  obtain rfl : u = Value.ref a := r2
  obtain ⟨its, rv, p', hz⟩ := I2.list sq
  obtain ⟨us, e1, e2⟩ := strs_at rv
  refine call_reversed_list p'.isList (Calls.spliced_nil ?_)
  obtain ⟨f0, f1, f2, f3, f4, f5⟩ := I2.fpOk (H' := H2) (b := s2.heap.objs.size) (Nat.le_refl _) (I2.hok.fresh (Nat.le_refl _))
  have hl := p'.isList
  obtain ⟨ol, hol, _⟩ := id hl
  have hne : a ≠ s2.heap.objs.size := Nat.ne_of_lt (Heap.lt_size hol)
  have hn : its.toArray.size ≤ sizeLine := by
    rw [List.size_toArray, ← rv.length]
    exact hz
  subst e1 e2
  have I3 : Inv X pins σ H2 { s2 with heap := s2.heap.push (revObj a (((strValues us).toArray.size : Int) - 1)) } := I2.kept (t' := s2.toks) fun b o e => Heap.get?_push_of_some _ e
  refine join_rev (s := { s2 with heap := s2.heap.push (revObj a (((strValues us).toArray.size : Int) - 1)) }) (I2.ok.hd hc) ⟨_, Heap.get?_push_size _ rfl, rfl, rfl⟩ (hl.push _) hne hn jok fun h' t' k hk => ?_
  have I4 : Inv X pins σ H2 { s2 with heap := h', toks := k } := I3.turned (t' := k) (fun b o hb e => hk b o hb e) f0 f1 f3 f4 f5
  exact ⟨.str _, H2, I4, ⟨t', rfl⟩, q⟩

end My
namespace My
open PySem L2
/-! ### d.update(e) -/
def tDUpd (td ty : TE) : TE := fun σ H Q => td σ H fun x H1 => ∃ a, x = .ref a ∧ IsD H1 a ∧ ty σ H1 fun y H2 => ∃ b kvs more, y = .ref b ∧ H2 a = some (.dK kvs) ∧ H2 b = some (.dK more) ∧ a ≠ b ∧ kvs.length + more.length ≤ sizeLine ∧ Q .non (upd H2 a (.dK (mergeK kvs more)))
theorem pe_dupd {X : Cx} {o e : Expr} {apos cpos : Pos} {td ty : TE} (ho : PE X o td) (he : PE X e ty) (m : M1 X o "update" apos e cpos) : PE X (.Call (.Attribute o "update" apos) [e] [] cpos) (tDUpd td ty) := by
  refine ⟨fun pins s σ H Q I h => ?_⟩
  refine wpAny_Call_method m.base m.few m.line PySem.F.plainAttrs_dict PySem.F.slot_dict_update PySem.F.type_dict_update (thn (ho.run pins s σ H _ I h) fun u s1 ⟨x, H1, I1, rx, a, ex, d, q1⟩ => ?_)
  subst ex
  obtain rfl : u = Value.ref a := rx
  obtain ⟨t1, t2, _⟩ := isD_at I1 d
  refine ⟨t1, t2, ?_⟩
  rw [m.trees]
  refine Calls.callWith_builtin rfl (Calls.evalArgs_plain (Calls.spliced_cons (thn (he.run pins s1 σ H1 _ I1 q1) fun iv s2 ⟨y, H2, I2, ry, b, kvs, more, ey, ea, eb, ne, hz, q2⟩ => Calls.spliced_nil ?_)))
  subst ey
  obtain rfl : iv = Value.ref b := ry
  obtain ⟨za, hda, vs, ra, dda⟩ := dk_of I2.hok ea
  obtain ⟨zb, hdb, ws, rb, ddb⟩ := dk_of I2.hok eb
  refine call_meetsIn PySem.F.slot_dict_update dda.typeIs PySem.F.entry_dict_update (PySem.F.args_dict_update_2 _ _) (meets_dict_update (mixKind X.prog X.w) a b ne hdb) ⟨vs, ws, dda, ddb, (by rw [← ra.length, ← rb.length]; exact hz), fun h' hmm _ hs => ?_⟩
  have he' : ∃ q, h'.get? a = some q := let ⟨q, _, _, hq, _⟩ := hmm; ⟨q, hq⟩
  exact ⟨.non, _, d_write I2 (by rw [ea]; exact True.intro) hs he' (dk_new (Nat.le_trans (length_mergeK more kvs) hz) hda (rb.merge ra) hmm), rfl, q2⟩

/-! ### a tuple of words that is written -/
/-- a written tuple of texts -/
def strOf : Value → Option Str
  | .str x _ => some x
  | _ => none
def tupB (K : PySem.W.Frag) (a : Addr) (ws : List Str) : Bool := match K.lookup a with
  | some o => decide (o.cls = .type "tuple") && (match o.data with
    | .seq its _ => decide (its.size ≤ 1000) && decide (its.toList.map strOf = ws.map some)
    | _ => false)
  | none => false
theorem vals_str : ∀ {us : List Value} {ws : List Str}, us.map strOf = ws.map some → Vals (ws.map V.str) us
  | [], [], _ => .nil
  | [], _ :: _, h => nomatch h
  | _ :: _, [], h => nomatch h
  | u :: us, w :: ws, h => by
    rw [List.map_cons, List.map_cons] at h
    obtain ⟨h1, h2⟩ := List.cons.inj h
    refine .cons ?_ (vals_str h2)
    cases u with
    | str x t =>
      have e : x = w := Option.some.inj h1
      subst e
      exact ⟨t, rfl⟩
    | _ => exact nomatch h1
theorem tupB_ok {K : PySem.W.Frag} {a : Addr} {ws : List Str} (h : tupB K a ws = true) (H : Hp) : SqT K H a (ws.map V.str) := by
  unfold tupB at h
  split at h
  · rename_i o ho
    rw [Bool.and_eq_true] at h
    obtain ⟨h1, h2⟩ := h
    split at h2
    · rename_i its n hd
      rw [Bool.and_eq_true] at h2
      exact .inr ⟨o, its, n, ho, of_decide_eq_true h1, hd, sz (Nat.le_trans (of_decide_eq_true h2.1) (by decide)), vals_str (of_decide_eq_true h2.2)⟩
    · cases h2
  · cases h
def dws : List Str := ["new", "put", "paint", "tie", "cut", "add", "spread"]

end My
namespace My
open PySem L2

/-! ### the text by places -/
def topS (i : Nat) : Stmt := PySem.Challenge.pw_tiedcut_k84_told_written.main.body.getD i (.Pass ⟨0, 0, 0, 0⟩)
abbrev s_isdeed : Stmt := topS 2
abbrev s_showwords : Stmt := topS 4
abbrev s_showword : Stmt := topS 5
abbrev s_shownumber : Stmt := topS 6
abbrev s_showtold : Stmt := topS 8
abbrev s_showtruth : Stmt := topS 9
abbrev s_Lbegin : Stmt := topS 11
abbrev s_Lnext : Stmt := topS 12
abbrev s_Lmany : Stmt := topS 13
abbrev s_Lsigns : Stmt := topS 14
abbrev s_Lanyrow : Stmt := topS 15
abbrev s_Lpair : Stmt := topS 16
abbrev s_law : Stmt := topS 17
theorem sc_isdeed : FnScope ["row"] ["row"] (defScope s_isdeed) := ⟨rfl, rfl, rfl, by decide +kernel, rfl, by decide +kernel, by decide +kernel⟩
theorem sc_showwords : FnScope ["parts", "part"] ["parts"] (defScope s_showwords) := ⟨rfl, rfl, rfl, by decide +kernel, rfl, by decide +kernel, by decide +kernel⟩
theorem sc_showword : FnScope ["part"] ["part"] (defScope s_showword) := ⟨rfl, rfl, rfl, by decide +kernel, rfl, by decide +kernel, by decide +kernel⟩
theorem sc_shownumber : FnScope ["number", "pieces", "rest", "low"] ["number"] (defScope s_shownumber) := ⟨rfl, rfl, rfl, by decide +kernel, rfl, by decide +kernel, by decide +kernel⟩
theorem sc_showtold : FnScope ["row", "told"] ["row", "told"] (defScope s_showtold) := ⟨rfl, rfl, rfl, by decide +kernel, rfl, by decide +kernel, by decide +kernel⟩
theorem sc_showtruth : FnScope ["truth"] ["truth"] (defScope s_showtruth) := ⟨rfl, rfl, rfl, by decide +kernel, rfl, by decide +kernel, by decide +kernel⟩
theorem sc_Lbegin : FnScope ["_law_script"] ["_law_script"] (defScope s_Lbegin) := ⟨rfl, rfl, rfl, by decide +kernel, rfl, by decide +kernel, by decide +kernel⟩
theorem sc_Lnext : FnScope ["_law_draws", "_law_many_here", "_law_cell", "_law_digit"] ["_law_draws", "_law_many_here"] (defScope s_Lnext) := ⟨rfl, rfl, rfl, by decide +kernel, rfl, by decide +kernel, by decide +kernel⟩
theorem sc_Lmany : FnScope ["_law_draws", "_law_few", "_law_most"] ["_law_draws", "_law_few", "_law_most"] (defScope s_Lmany) := ⟨rfl, rfl, rfl, by decide +kernel, rfl, by decide +kernel, by decide +kernel⟩
theorem sc_Lsigns : FnScope ["_law_signs_here"] [] (defScope s_Lsigns) := ⟨rfl, rfl, rfl, by decide +kernel, rfl, by decide +kernel, by decide +kernel⟩
theorem sc_Lanyrow : FnScope ["_law_draws", "_law_signs_here", "_law_word", "_law_row", "_law_sign", "_law_worth"] ["_law_draws"] (defScope s_Lanyrow) := ⟨rfl, rfl, rfl, by decide +kernel, rfl, by decide +kernel, by decide +kernel⟩
theorem sc_Lpair : FnScope ["_law_draws", "_law_word", "_law_number", "_law_point", "_law_some", "_law_k", "_law_one"] ["_law_draws", "_law_word"] (defScope s_Lpair) := ⟨rfl, rfl, rfl, by decide +kernel, rfl, by decide +kernel, by decide +kernel⟩
theorem sc_law : FnScope ["_law_script", "_law_draws", "_law_turn", "_law_row", "_law_told", "_law_due", "_law_again", "_law_found"] ["_law_script"] (defScope s_law) := ⟨rfl, rfl, rfl, by decide +kernel, rfl, by decide +kernel, by decide +kernel⟩
/-- what the top has left -/
structure Top (K : PySem.W.Frag) (mg : Str → Option Value) where
  a_isdeed : Addr
  d_isdeed : FuncData
  F_isdeed : Fun K "is_deed" "is_deed" s_isdeed a_isdeed d_isdeed
  b_isdeed : Binds K d_isdeed ["row"] []
  g_isdeed : mg "is_deed" = some (.ref a_isdeed)
  a_showwords : Addr
  d_showwords : FuncData
  F_showwords : Fun K "show_words" "show_words" s_showwords a_showwords d_showwords
  b_showwords : Binds K d_showwords ["parts"] []
  g_showwords : mg "show_words" = some (.ref a_showwords)
  a_showword : Addr
  d_showword : FuncData
  F_showword : Fun K "show_word" "show_word" s_showword a_showword d_showword
  b_showword : Binds K d_showword ["part"] []
  g_showword : mg "show_word" = some (.ref a_showword)
  a_shownumber : Addr
  d_shownumber : FuncData
  F_shownumber : Fun K "show_number" "show_number" s_shownumber a_shownumber d_shownumber
  b_shownumber : Binds K d_shownumber ["number"] []
  g_shownumber : mg "show_number" = some (.ref a_shownumber)
  a_showtold : Addr
  d_showtold : FuncData
  F_showtold : Fun K "show_told" "show_told" s_showtold a_showtold d_showtold
  b_showtold : Binds K d_showtold ["row", "told"] []
  g_showtold : mg "show_told" = some (.ref a_showtold)
  a_showtruth : Addr
  d_showtruth : FuncData
  F_showtruth : Fun K "show_truth" "show_truth" s_showtruth a_showtruth d_showtruth
  b_showtruth : Binds K d_showtruth ["truth"] []
  g_showtruth : mg "show_truth" = some (.ref a_showtruth)
  a_Lbegin : Addr
  d_Lbegin : FuncData
  F_Lbegin : Fun K "_law_begin" "_law_begin" s_Lbegin a_Lbegin d_Lbegin
  b_Lbegin : Binds K d_Lbegin ["_law_script"] []
  g_Lbegin : mg "_law_begin" = some (.ref a_Lbegin)
  a_Lnext : Addr
  d_Lnext : FuncData
  F_Lnext : Fun K "_law_next" "_law_next" s_Lnext a_Lnext d_Lnext
  b_Lnext : Binds K d_Lnext ["_law_draws", "_law_many_here"] []
  g_Lnext : mg "_law_next" = some (.ref a_Lnext)
  a_Lmany : Addr
  d_Lmany : FuncData
  F_Lmany : Fun K "_law_many" "_law_many" s_Lmany a_Lmany d_Lmany
  b_Lmany : Binds K d_Lmany ["_law_draws", "_law_few", "_law_most"] []
  g_Lmany : mg "_law_many" = some (.ref a_Lmany)
  a_Lsigns : Addr
  d_Lsigns : FuncData
  F_Lsigns : Fun K "_law_signs" "_law_signs" s_Lsigns a_Lsigns d_Lsigns
  b_Lsigns : Binds K d_Lsigns [] []
  g_Lsigns : mg "_law_signs" = some (.ref a_Lsigns)
  a_Lanyrow : Addr
  d_Lanyrow : FuncData
  F_Lanyrow : Fun K "_law_any_row" "_law_any_row" s_Lanyrow a_Lanyrow d_Lanyrow
  b_Lanyrow : Binds K d_Lanyrow ["_law_draws"] []
  g_Lanyrow : mg "_law_any_row" = some (.ref a_Lanyrow)
  a_Lpair : Addr
  d_Lpair : FuncData
  F_Lpair : Fun K "_law_pair" "_law_pair" s_Lpair a_Lpair d_Lpair
  b_Lpair : Binds K d_Lpair ["_law_draws", "_law_word"] []
  g_Lpair : mg "_law_pair" = some (.ref a_Lpair)
  a_law : Addr
  d_law : FuncData
  F_law : Fun K "law" "law" s_law a_law d_law
  b_law : Binds K d_law ["_law_script"] []
  g_law : mg "law" = some (.ref a_law)
  m_abs : mg "abs" = none
  m_bool : mg "bool" = none
  m_int : mg "int" = none
  m_isinstance : mg "isinstance" = none
  m_len : mg "len" = none
  m_list : mg "list" = none
  m_range : mg "range" = none
  m_reversed : mg "reversed" = none
  m_sorted : mg "sorted" = none
  m_str : mg "str" = none
  m_tuple : mg "tuple" = none
  aW : Addr
  v_DEEDWORDS : mg "DEED_WORDS" = some (.ref aW)
  tW : tupB K aW dws = true
end My
namespace My
open PySem L2
/-! ### the store of draws -/
def kv (c : Addr) (a l s : Int) : List (Key × V) := [(Sum.inr "cells", .ref c), (Sum.inr "at", .int a), (Sum.inr "left", .int l), (Sum.inr "seed", .int s)]
theorem m1 : ¬ (("cells" : Str) = "at") := by decide +kernel
theorem n1 : ¬ ((Sum.inr ("cells" : Str) : Key) = Sum.inr ("at" : Str)) := fun e => m1 (Sum.inr.inj e)
theorem m2 : ¬ (("cells" : Str) = "left") := by decide +kernel
theorem n2 : ¬ ((Sum.inr ("cells" : Str) : Key) = Sum.inr ("left" : Str)) := fun e => m2 (Sum.inr.inj e)
theorem m3 : ¬ (("cells" : Str) = "seed") := by decide +kernel
theorem n3 : ¬ ((Sum.inr ("cells" : Str) : Key) = Sum.inr ("seed" : Str)) := fun e => m3 (Sum.inr.inj e)
theorem m4 : ¬ (("at" : Str) = "left") := by decide +kernel
theorem n4 : ¬ ((Sum.inr ("at" : Str) : Key) = Sum.inr ("left" : Str)) := fun e => m4 (Sum.inr.inj e)
theorem m5 : ¬ (("at" : Str) = "seed") := by decide +kernel
theorem n5 : ¬ ((Sum.inr ("at" : Str) : Key) = Sum.inr ("seed" : Str)) := fun e => m5 (Sum.inr.inj e)
theorem m6 : ¬ (("left" : Str) = "seed") := by decide +kernel
theorem n6 : ¬ ((Sum.inr ("left" : Str) : Key) = Sum.inr ("seed" : Str)) := fun e => m6 (Sum.inr.inj e)
theorem m7 : ¬ (("seed" : Str) = "left") := by decide +kernel
theorem n7 : ¬ ((Sum.inr ("seed" : Str) : Key) = Sum.inr ("left" : Str)) := fun e => m7 (Sum.inr.inj e)
theorem m8 : ¬ (("seed" : Str) = "at") := by decide +kernel
theorem n8 : ¬ ((Sum.inr ("seed" : Str) : Key) = Sum.inr ("at" : Str)) := fun e => m8 (Sum.inr.inj e)
theorem m9 : ¬ (("left" : Str) = "at") := by decide +kernel
theorem n9 : ¬ ((Sum.inr ("left" : Str) : Key) = Sum.inr ("at" : Str)) := fun e => m9 (Sum.inr.inj e)
section
variable {H : Hp} {d c : Addr} {a l s : Int}
theorem g_cells (h : H d = some (.dK (kv c a l s))) : DGet H d (.str "cells") (some (.ref c)) := by
  have q := DGet.k (k := (Sum.inr "cells" : Key)) h
  unfold kv at q
  rw [valV_pos rfl] at q
  exact q
theorem g_at (h : H d = some (.dK (kv c a l s))) : DGet H d (.str "at") (some (.int a)) := by
  have q := DGet.k (k := (Sum.inr "at" : Key)) h
  unfold kv at q
  rw [valV_neg n1, valV_pos rfl] at q
  exact q
theorem g_left (h : H d = some (.dK (kv c a l s))) : DGet H d (.str "left") (some (.int l)) := by
  have q := DGet.k (k := (Sum.inr "left" : Key)) h
  unfold kv at q
  rw [valV_neg n2, valV_neg n4, valV_pos rfl] at q
  exact q
theorem g_seed (h : H d = some (.dK (kv c a l s))) : DGet H d (.str "seed") (some (.int s)) := by
  have q := DGet.k (k := (Sum.inr "seed" : Key)) h
  unfold kv at q
  rw [valV_neg n3, valV_neg n5, valV_neg n6, valV_pos rfl] at q
  exact q
theorem small4 : (kv c a l s).length < sizeLine := by
  show 4 < sizeLine
  decide
theorem p_at (h : H d = some (.dK (kv c a l s))) (x : Int) : DPut H d (.str "at") (.int x) (upd H d (.dK (kv c x l s))) := by
  have q := DPut.k (k := (Sum.inr "at" : Key)) (v := .int x) h small4
  have e : putK (kv c a l s) (Sum.inr "at" : Key) (.int x) = kv c x l s := by
    simp [putK, kv, m1, m9, m8]
  rw [e] at q
  exact q
theorem p_left (h : H d = some (.dK (kv c a l s))) (x : Int) : DPut H d (.str "left") (.int x) (upd H d (.dK (kv c a x s))) := by
  have q := DPut.k (k := (Sum.inr "left" : Key)) (v := .int x) h small4
  have e : putK (kv c a l s) (Sum.inr "left" : Key) (.int x) = kv c a x s := by
    simp [putK, kv, m2, m4, m7]
  rw [e] at q
  exact q
theorem p_seed (h : H d = some (.dK (kv c a l s))) (x : Int) : DPut H d (.str "seed") (.int x) (upd H d (.dK (kv c a l x))) := by
  have q := DPut.k (k := (Sum.inr "seed" : Key)) (v := .int x) h small4
  have e : putK (kv c a l s) (Sum.inr "seed" : Key) (.int x) = kv c a l x := by
    simp [putK, kv, m3, m5, m6]
  rw [e] at q
  exact q
end
structure Draw (H : Hp) (d c : Addr) (ns : List Int) : Prop where
  dc : ∃ a l s : Int, H d = some (.dK (kv c a l s)) ∧ 0 ≤ a ∧ 0 ≤ l ∧ 0 ≤ s ∧ s < 2305843009213693951
  cs : H c = some (.lst (ns.map V.int))
theorem Tups.of_butD {K : PySem.W.Frag} {H H' : Hp} {d : Addr} {l : List (Key × V)} (s : But d H H') (e : H d = some (.dK l)) : Tups K H H' := fun a xs h => by
  rcases h with h | h
  · rcases h with h | ⟨o, h⟩
    · exact .inl (.inl (s _ _ h (ne_of h e (by intro z; cases z))))
    · exact .inl (.inr ⟨o, s _ _ h (ne_of h e (by intro z; cases z))⟩)
  · exact .inr h
structure DrAt (H : Hp) (d c : Addr) : Prop where
  ex : ∃ ns : List Int, Draw H d c ns
theorem DrAt.dk {H : Hp} {d c : Addr} (B : DrAt H d c) : ∃ kvs, H d = some (.dK kvs) := by
  obtain ⟨ns, ⟨⟨a, l, s, h, _⟩, _⟩⟩ := B.ex
  exact ⟨_, h⟩
theorem DrAt.ls {H : Hp} {d c : Addr} (B : DrAt H d c) : ∃ xs, H c = some (.lst xs) := by
  obtain ⟨ns, ⟨_, h⟩⟩ := B.ex
  exact ⟨_, h⟩
theorem DrAt.same {H H' : Hp} {d c : Addr} (B : DrAt H d c) (s : Same H H') : DrAt H' d c := by
  obtain ⟨ns, ⟨⟨a, l, x, h, r⟩, k⟩⟩ := B.ex
  exact ⟨ns, ⟨a, l, x, s _ _ h, r⟩, s _ _ k⟩
theorem DrAt.new {H : Hp} {d c p : Addr} {o : HO} (B : DrAt H d c) (n : H p = none) : DrAt (upd H p o) d c := B.same (same_new n)
theorem DrAt.put {H : Hp} {d c p : Addr} {o : HO} (B : DrAt H d c) (n1 : p ≠ d) (n2 : p ≠ c) : DrAt (upd H p o) d c := by
  obtain ⟨ns, ⟨⟨a, l, x, h, r⟩, k⟩⟩ := B.ex
  refine ⟨ns, ⟨a, l, x, ?_, r⟩, ?_⟩
  · rw [upd_ne n1.symm]
    exact h
  · rw [upd_ne n2.symm]
    exact k
theorem DrAt.tups {K : PySem.W.Frag} {H H' : Hp} {d c : Addr} (B : DrAt H d c) (s : But d H H') : Tups K H H' := by
  obtain ⟨kvs, h⟩ := B.dk
  exact Tups.of_butD s h
theorem DrAt.ne {H : Hp} {d c p : Addr} (B : DrAt H d c) (n : H p = none) : p ≠ d := by
  obtain ⟨kvs, h⟩ := B.dk
  exact (ne_of_none h n).symm
theorem DrAt.neL {H : Hp} {d c p : Addr} (B : DrAt H d c) (n : H p = none) : p ≠ c := by
  obtain ⟨xs, h⟩ := B.ls
  exact (ne_of_none h n).symm
theorem DrAt.back {H H' : Hp} {d c p : Addr} (B : DrAt H' d c) (s : But d H H') (n : H' p = none) : H p = none := by
  cases e : H p with
  | none => rfl
  | some o =>
    have z := s _ _ e (B.ne n)
    rw [z] at n
    cases n
def spBegin (K : PySem.W.Frag) : Sp := fun vs H Q _ => ∃ (a : Addr) (ns : List Int), vs = [.ref a] ∧ SqL K H a (ns.map V.int) ∧ ∀ (d c : Addr) (ms : List Int) (H' : Hp), Same H H' → H d = none → Draw H' d c ms → Q (.ref d) H'
def spNext : Sp := fun vs H Q _ => ∃ (d c : Addr) (ns : List Int) (many : Int), vs = [.ref d, .int many] ∧ Draw H d c ns ∧ 0 < many ∧ many < 2 ^ 100 ∧
  ∀ (x : Int) (H' : Hp), 0 ≤ x → x < many → Draw H' d c ns → But d H H' → Q (.int x) H'
def spNextD : Sp := fun vs H Q _ => ∃ (d c : Addr) (many : Int), vs = [.ref d, .int many] ∧ DrAt H d c ∧ 0 < many ∧ many < 2 ^ 100 ∧
  ∀ (x : Int) (H' : Hp), 0 ≤ x → x < many → DrAt H' d c → But d H H' → Q (.int x) H'
def spManyD : Sp := fun vs H Q _ => ∃ (d c : Addr) (f m : Int), vs = [.ref d, .int f, .int m] ∧ DrAt H d c ∧ 0 ≤ f ∧ 0 ≤ m ∧ f < 1000 ∧ m < 1000 ∧ ∀ (x : Int) (H' : Hp), 0 ≤ x → (x ≤ f ∨ x ≤ m) → DrAt H' d c → But d H H' → Q (.int x) H'
theorem pow30 : (10 : Int) ^ (30 : Int).toNat = 1000000000000000000000000000000 := by decide +kernel
theorem pow18 : (10 : Int) ^ (18 : Int).toNat = 1000000000000000000 := by decide +kernel
section
variable {P : Program} {w : World} {K : PySem.W.Frag} {mg : Str → Option Value} {base : Heap}
theorem cut63 (ns : List Int) : ∃ ms : List Int, cutV (ns.map V.int) none (some 63) = ms.map V.int := by
  refine ⟨ns.take (HT.sIx ns.length ns.length (some 63)), ?_⟩
  unfold cutV
  rw [HT.sIx_none, List.drop_zero, Nat.sub_zero, List.length_map, List.map_take]
theorem ok_begin (T : Top K mg) : FnOk P w K mg base CX0 1 T.a_Lbegin T.d_Lbegin ["_law_script"] (spBegin K) := by
  refine T.F_Lbegin.ok sc_Lbegin (fun vs H Q E h => ?_) (fun cdv A outer s H vs Q E hr h => ?_)
  · obtain ⟨x, ns, rfl, _⟩ := h
    rfl
  · obtain ⟨a, ns, rfl, hS, q⟩ := h
    refine ⟨_, (pss_one (ps_ret (pe_disp (pps_cons pe_str (pe_callTy call_list_of (by rfl) T.m_list (by decide +kernel) (pa_cons (pe_slice sl_list (pv 0) po_none (po_some pe_int)) pa_nil)) (pps_cons pe_str pe_int (pps_cons pe_str pe_int (pps_cons pe_str pe_int pps_nil)))) (by rfl) (by rfl) (fun z => by cases z) (by decide)))), ?_⟩
    intro d nd
    have s1 : Same H (upd H d (.dK [])) := same_new nd
    obtain ⟨ms, em⟩ := cut63 ns
    refine ⟨_, rfl, 63, rfl, a, _, rfl, s1.seq hS, fun p np => ?_⟩
    have s2 := same_new (H := upd H d (.dK [])) (o := .lst (cutV (ns.map V.int) none (some 63))) np
    refine ⟨p, _, rfl, .inl (SqL.of upd_same), fun c nc => ?_⟩
    have s3 := same_new (H := upd (upd H d (.dK [])) p (.lst (cutV (ns.map V.int) none (some 63)))) (o := .lst (cutV (ns.map V.int) none (some 63))) nc
    have hd2 := s3 _ _ (s2 _ _ (upd_same (H := H) (a := d) (o := .dK [])))
    refine ⟨hd2, kv c 0 0 1000003, rfl, (by show 4 ≤ 15; decide), ?_⟩
    have em2 : mergeK [] (kv c 0 0 1000003) = kv c 0 0 1000003 := by
      simp [mergeK, kv, putK, m1, m2, m3, m4, m5, m6]
    rw [em2]
    have ncd : c ≠ d := fun e => by
      subst e
      rw [s2 _ _ (upd_same (H := H) (a := c) (o := .dK []))] at nc
      cases nc
    refine q d c ms _ ?_ nd ⟨⟨0, 0, 1000003, upd_same, by decide, by decide, by decide, by decide⟩, ?_⟩
    · intro b o e
      rw [upd_ne (ne_of_none e nd)]
      exact s3 _ _ (s2 _ _ (s1 _ _ e))
    · rw [upd_ne ncd, upd_same, em]
theorem ok_next (T : Top K mg) : FnOk P w K mg base CX0 1 T.a_Lnext T.d_Lnext ["_law_draws", "_law_many_here"] spNext := by
  refine T.F_Lnext.ok sc_Lnext (fun vs H Q E h => ?_) (fun cdv A outer s H vs Q E hr h => ?_)
  · obtain ⟨d, c, ns, many, rfl, _⟩ := h
    rfl
  · obtain ⟨d, c, ns, many, rfl, ⟨⟨a, l, sd, hd, ha, hl, hs0, hs1⟩, hc⟩, hm0, hm1, q⟩ := h
    have ndc : c ≠ d := ne_of hc hd (by intro z; cases z)
    refine ⟨_, (pss_cons (ps_mid (ps_if (PW.pt (pw_and (pt_cmpR op_eq (pe_dget (u1 hr) (pv 0) pe_str (fun _ _ => rfl)) pe_int (nomark _)) (pw_and1 (pt_cmpR op_lt (pe_dget (u1 hr) (pv 0) pe_str (fun _ _ => rfl)) (pe_callB call_len_seq (by rfl) T.m_len PySem.boot_len (pa_cons (pe_dget (u1 hr) (pv 0) pe_str (fun _ _ => rfl)) pa_nil)) (nomark _))))) (pss_cons (ps_set (i := 2) sc_Lnext.nd rfl (.inl rfl) (pe_ix ix_list (pe_dget (u1 hr) (pv 0) pe_str (fun _ _ => rfl)) (pe_dget (u1 hr) (pv 0) pe_str (fun _ _ => rfl)) (fun _ _ => rfl)))
      (pss_cons (ps_dput (u1 hr) (pv 0) pe_str (pe_op op_add (pe_dget (u1 hr) (pv 0) pe_str (fun _ _ => rfl)) pe_int) rfl)
      (pss_cons (ps_dput (u1 hr) (pv 0) pe_str (pe_op op_mod (pe_op op_add (pe_op op_add (pe_op op_mul (pe_dget (u1 hr) (pv 0) pe_str (fun _ _ => rfl)) pe_int) (pe_op op_mod (pv 2) (pe_op op_pow pe_int pe_int))) pe_int) pe_int) rfl)
      (pss_one (ps_dput (u1 hr) (pv 0) pe_str (pe_op op_mul (pv 2) (pe_callTy call_int1 (by rfl) T.m_int (by decide +kernel) (pa_cons (pe_cmpR op_ge (pv 2) (pe_op op_pow pe_int pe_int) (nomark _)) pa_nil))) rfl))))) pss_nil))
      (pss_cons (ps_if (pt_cmpR op_gt (pe_dget (u1 hr) (pv 0) pe_str (fun _ _ => rfl)) pe_int (nomark _)) (pss_cons (ps_set (i := 3) sc_Lnext.nd rfl (.inl rfl) (pe_op op_mod (pe_dget (u1 hr) (pv 0) pe_str (fun _ _ => rfl)) (pv 1)))
      (pss_cons (ps_dput (u1 hr) (pv 0) pe_str (pe_op op_fdivW (pe_dget (u1 hr) (pv 0) pe_str (fun _ _ => rfl)) (pv 1)) rfl)
      (pss_one (ps_ret (pv 3))))) pss_nil)
      (pss_cons (ps_dput (u1 hr) (pv 0) pe_str (pe_op op_mod (pe_op op_add (pe_op op_mul (pe_dget (u1 hr) (pv 0) pe_str (fun _ _ => rfl)) pe_int) pe_int) pe_int) rfl)
      (pss_one (ps_ret (pe_op op_mod (pe_op op_fdivW (pe_op op_mod (pe_op op_mul (pe_dget (u1 hr) (pv 0) pe_str (fun _ _ => rfl)) (pe_dget (u1 hr) (pv 0) pe_str (fun _ _ => rfl))) pe_int) pe_int) (pv 1))))))), ?_⟩
    refine ⟨fun σ1 H1 => ∃ (y2 : Option V) (a l sd : Int), σ1 = [some (.ref d), some (.int many), y2, none] ∧ H1 d = some (.dK (kv c a l sd)) ∧ 0 ≤ a ∧ 0 ≤ l ∧ 0 ≤ sd ∧ sd < 2305843009213693951 ∧ H1 c = some (.lst (ns.map V.int)) ∧ But d H H1, ?_, ?_⟩
    · have dflt : ∃ (y2 : Option V) (a l sd : Int), (start ["_law_draws", "_law_many_here", "_law_cell", "_law_digit"] [V.ref d, V.int many]) = [some (.ref d), some (.int many), y2, none] ∧ H d = some (.dK (kv c a l sd)) ∧ 0 ≤ a ∧ 0 ≤ l ∧ 0 ≤ sd ∧ sd < 2305843009213693951 ∧ H c = some (.lst (ns.map V.int)) ∧ But d H H :=
        ⟨none, a, l, sd, rfl, hd, ha, hl, hs0, hs1, hc, But.refl⟩
      refine ⟨_, rfl, d, _, rfl, g_left hd, rfl, _, rfl, ite2 (fun e1 => ?_) (fun e1 => iteF dflt)⟩
      refine ⟨_, rfl, d, _, rfl, g_at hd, _, rfl, d, _, rfl, g_cells hd, c, _, rfl, .inl (SqL.of hc), _, _, rfl, rfl, _, rfl, ?_⟩
      refine ite2 (fun e2 => ?_) (fun e2 => dflt)
      have e3 : a < ((ns.map V.int).length : Int) := of_decide_eq_true e2
      rw [List.length_map] at e3
      obtain ⟨v, hv, _⟩ := at_map ha e3
      refine ⟨_, rfl, d, _, rfl, g_cells hd, _, rfl, d, _, rfl, g_at hd, c, _, _, _, rfl, rfl, SqL.of hc, hv, ?_⟩
      refine ⟨_, rfl, d, _, rfl, g_at hd, _, _, rfl, rfl, _, rfl, d, _, rfl, p_at hd _, ?_⟩
      refine ⟨_, rfl, d, _, rfl, g_seed upd_same, _, _, rfl, rfl, .inr ⟨by decide, by decide⟩, _, rfl, _, _, rfl, rfl, ⟨by decide, by decide, by decide⟩, _, _, rfl, rfl, (by show (0 : Int) < 10 ^ (30 : Int).toNat; rw [pow30]; decide), _, _, rfl, rfl, _, _, rfl, rfl, _, _, rfl, rfl, (by show (0 : Int) < 2305843009213693951; decide), _, rfl, d, _, rfl, p_seed upd_same _, ?_⟩
      refine ⟨_, rfl, _, rfl, _, _, rfl, rfl, ⟨by decide, by decide, by decide⟩, _, _, rfl, rfl, .inr ⟨_, rfl, _, _, rfl, rfl, ?_, _, rfl, d, _, rfl, p_left upd_same _, ?_⟩⟩
      · right
        constructor <;> split <;> decide
      · refine ⟨some (.int v), _, _, _, rfl, upd_same, by omega, ?_, Int.emod_nonneg _ (by decide), Int.emod_lt_of_pos _ (by decide), ?_, ((But.refl.put).put).put⟩
        · rw [pow18]
          by_cases z : (1000000000000000000 : Int) ≤ v
          · rw [decide_eq_true z]
            simp
            omega
          · rw [decide_eq_false z]
            simp
        · rw [upd_ne ndc, upd_ne ndc, upd_ne ndc]
          exact hc
    · rintro σ1 H1 ⟨y2, a, l, sd, rfl, hd, ha, hl, hs0, hs1, hc, kp⟩
      refine ⟨_, rfl, d, _, rfl, g_left hd, _, _, rfl, rfl, _, rfl, ite2 (fun e1 => ?_) (fun e1 => ?_)⟩
      · refine ⟨_, rfl, d, _, rfl, g_left hd, _, rfl, _, _, rfl, rfl, hm0, ?_⟩
        refine ⟨_, rfl, d, _, rfl, g_left hd, _, rfl, _, _, rfl, rfl, wide_ok hm0 hm1, _, rfl, d, _, rfl, p_left hd _, _, rfl, ?_⟩
        exact q _ _ (Int.emod_nonneg _ (by omega)) (Int.emod_lt_of_pos _ hm0) ⟨⟨a, _, sd, upd_same, ha, Int.ediv_nonneg hl (by omega), hs0, hs1⟩, by rw [upd_ne ndc]; exact hc⟩ kp.put
      · refine ⟨_, rfl, d, _, rfl, g_seed hd, _, _, rfl, rfl, .inr ⟨by decide, by decide⟩, _, _, rfl, rfl, _, _, rfl, rfl, (by show (0 : Int) < 2305843009213693951; decide), _, rfl, d, _, rfl, p_seed hd _, ?_⟩
        refine ⟨_, rfl, d, _, rfl, g_seed upd_same, _, rfl, d, _, rfl, g_seed upd_same, _, _, rfl, rfl, .inl ?_, _, _, rfl, rfl, (by show (0 : Int) < 2305843009213693921; decide), _, _, rfl, rfl, ?_, _, rfl, _, _, rfl, rfl, hm0, ?_⟩
        · have z1 := Int.emod_nonneg (sd * 1181783497276652981 + 12345678910987) (show (2305843009213693951 : Int) ≠ 0 by decide)
          have z2 := Int.emod_lt_of_pos (sd * 1181783497276652981 + 12345678910987) (show (0 : Int) < 2305843009213693951 by decide)
          constructor <;> omega
        · exact wide_ok (by decide) (by decide)
        · exact q _ _ (Int.emod_nonneg _ (by omega)) (Int.emod_lt_of_pos _ hm0) ⟨⟨a, l, _, upd_same, ha, hl, Int.emod_nonneg _ (by decide), Int.emod_lt_of_pos _ (by decide)⟩, by rw [upd_ne ndc]; exact hc⟩ kp.put
theorem ok_nextD (T : Top K mg) : FnOk P w K mg base CX0 1 T.a_Lnext T.d_Lnext ["_law_draws", "_law_many_here"] spNextD := by
  refine (ok_next T).imp fun vs H Q E h => ?_
  obtain ⟨d, c, many, e, B, m0, m1, q⟩ := h
  obtain ⟨ns, D⟩ := B.ex
  exact ⟨d, c, ns, many, e, D, m0, m1, fun x H' x0 x1 D' k => q x H' x0 x1 ⟨ns, D'⟩ k⟩
theorem ok_manyD (T : Top K mg) : FnOk P w K mg base CX0 2 T.a_Lmany T.d_Lmany ["_law_draws", "_law_few", "_law_most"] spManyD := by
  have G_Lnext : FnOk P w K mg base CX0 1 _ _ _ _ := ok_nextD T
  refine T.F_Lmany.ok sc_Lmany (fun vs H Q E h => ?_) (fun cdv A outer s H vs Q E hr h => ?_)
  · obtain ⟨d, c, f, m, rfl, _⟩ := h
    rfl
  · obtain ⟨d, c, f, m, rfl, B, f0, m0, f1, m1, q⟩ := h
    refine ⟨_, (pss_cons (ps_if (pt_cmpR op_eq (pe_call G_Lnext hr (by rfl) T.g_Lnext T.F_Lnext.kp T.b_Lnext .nil pass0 (pa_cons (pv 0) (pa_cons pe_int pa_nil))) pe_int (nomark _)) (pss_one (ps_ret (pe_call G_Lnext hr (by rfl) T.g_Lnext T.F_Lnext.kp T.b_Lnext .nil pass0 (pa_cons (pv 0) (pa_cons (pe_op op_add (pv 2) pe_int) pa_nil))))) pss_nil)
      (pss_one (ps_ret (pe_call G_Lnext hr (by rfl) T.g_Lnext T.F_Lnext.kp T.b_Lnext .nil pass0 (pa_cons (pv 0) (pa_cons (pe_op op_add (pv 1) pe_int) pa_nil)))))), ?_⟩
    refine ⟨_, rfl, d, c, 8, rfl, B, by decide, by decide, fun x H1 x0 x1 B1 k1 => ?_⟩
    refine ⟨rfl, _, rfl, ite2 (fun _ => ?_) (fun _ => ?_)⟩
    · refine ⟨_, rfl, _, rfl, _, _, rfl, rfl, d, c, m + 1, rfl, B1, by omega, by omega, fun y H2 y0 y1 B2 k2 => ?_⟩
      exact q y H2 y0 (.inr (by omega)) B2 (k1.trans k2)
    · refine ⟨_, rfl, _, rfl, _, _, rfl, rfl, d, c, f + 1, rfl, B1, by omega, by omega, fun y H2 y0 y1 B2 k2 => ?_⟩
      exact q y H2 y0 (.inl (by omega)) B2 (k1.trans k2)
end

end My
namespace My
open PySem L2
/-! ### words and rows shown -/
def txt (n : Int) : Str := Str.ofString (toString n)
def wtx : V → Str
  | .int n => txt n
  | .str s => s
  | _ => "-"
def WdOk (x : V) : Prop := (∃ n : Int, x = .int n ∧ -(2 ^ 100) < n ∧ n < 2 ^ 100) ∨ (∃ s : Str, x = .str s ∧ s.length ≤ 100) ∨ x = .non
theorem txt_len {i : Int} (h1 : -(2 ^ 100) < i) (h2 : i < 2 ^ 100) : (txt i).length ≤ 41 := by
  show (Str.ofString (toString i)).length ≤ 41
  by_cases h : i < 0
  · rw [PyProof.Rows.len_text_neg h]
    have := PyProof.Rows.toString_length_le (v := 0 - i) (k := 40) (by omega) (by decide) (by omega)
    omega
  · have := PyProof.Rows.toString_length_le (v := i) (k := 40) (by omega) (by decide) (by omega)
    omega
theorem wtx_len {x : V} (h : WdOk x) : (wtx x).length ≤ 100 := by
  rcases h with ⟨n, rfl, h1, h2⟩ | ⟨s, rfl, h⟩ | rfl
  · have := txt_len h1 h2
    show (txt n).length ≤ 100
    omega
  · exact h
  · decide
theorem of_append (a b : String) : Str.ofString a ++ Str.ofString b = Str.ofString (a ++ b) := by
  rw [Str.ofString_eq_toList, Str.ofString_eq_toList, Str.ofString_eq_toList, String.toList_append, List.map_append, ← List.append_toArray]
  rfl
theorem txt_neg {n : Int} (h : n < 0) : ("-" : Str) ++ txt (-n) = txt n := by
  show ("-" : Str) ++ Str.ofString (toString (-n)) = Str.ofString (toString n)
  rw [PyProof.Rows.toString_neg h, Int.zero_sub]
  exact of_append _ _
theorem log_ok {i : Int} (h1 : -(2 ^ 100) < i) (h2 : i < 2 ^ 100) : i.natAbs.log2 < 1920 := by
  by_cases z : i.natAbs = 0
  · rw [z]
    decide
  · rw [Nat.log2_lt z]
    exact Nat.lt_of_lt_of_le (show i.natAbs < 2 ^ 100 by omega) (Nat.pow_le_pow_right (by decide) (by decide))
theorem join_one (sep x : Str) : Txt.join sep [x] = x := rfl
theorem empty_add (x : Str) : ("" : Str) ++ x = x := by
  show Str.mk (("" : Str).cps ++ x.cps) = x
  rw [show ("" : Str).cps = #[] from by decide +kernel, Array.empty_append]
theorem sum_len {m : Nat} : ∀ {ys : List Str}, (∀ y ∈ ys, y.length ≤ m) → (ys.map (fun x => x.length)).sum ≤ ys.length * m
  | [], _ => Nat.zero_le _
  | y :: ys, h => by
    have ih := sum_len (m := m) (ys := ys) fun z hz => h z (List.mem_cons_of_mem _ hz)
    have h1 := h y List.mem_cons_self
    rw [List.map_cons, List.sum_cons, List.length_cons, Nat.succ_mul]
    omega
theorem sqT {K : PySem.W.Frag} {H H' : Hp} {a : Addr} {xs : List V} (h : SqT K H a xs) (s : Same H H') : SqT K H' a xs := Tups.of_same s _ _ h
theorem pow60 : (10 : Int) ^ (60 : Int).toNat = 1000000000000000000000000000000000000000000000000000000000000 := by decide +kernel
def spNum : Sp := fun vs H Q _ => ∃ n : Int, vs = [.int n] ∧ -(2 ^ 100) < n ∧ n < 2 ^ 100 ∧ ∀ H' : Hp, Same H H' → Q (.str (txt n)) H'
def spWord : Sp := fun vs H Q _ => ∃ x : V, vs = [x] ∧ WdOk x ∧ ∀ H' : Hp, Same H H' → Q (.str (wtx x)) H'
def spWords (K : PySem.W.Frag) : Sp := fun vs H Q _ => ∃ (p : Addr) (xs : List V), vs = [.ref p] ∧ SqT K H p xs ∧ xs.length ≤ 200 ∧ (∀ x ∈ xs, WdOk x) ∧ ∀ H' : Hp, Same H H' → Q (.str (Txt.join " " (xs.map wtx))) H'
section
variable {P : Program} {w : World} {K : PySem.W.Frag} {mg : Str → Option Value} {base : Heap}
theorem ok_shownum (T : Top K mg) : FnOk P w K mg base CX0 1 T.a_shownumber T.d_shownumber ["number"] spNum := by
  refine T.F_shownumber.ok sc_shownumber (fun vs H Q E h => ?_) (fun cdv A outer s H vs Q E hr h => ?_)
  · obtain ⟨n, rfl, _⟩ := h
    rfl
  · obtain ⟨n, rfl, n0, n1, q⟩ := h
    refine ⟨_, (pss_cons (ps_set (i := 1) sc_shownumber.nd rfl (.inl rfl) (pe_lst pa_nil))
      (pss_cons (ps_set (i := 2) sc_shownumber.nd rfl (.inl rfl) (pe_callB call_abs (by rfl) T.m_abs (by decide +kernel) (pa_cons (pv 0) pa_nil)))
      (pss_cons (ps_while PassesOwn.never (pt_cmpR op_ge (pv 2) (pe_op op_pow pe_int pe_int) (nomark _)) (pss_cons ps_never
      (pss_one ps_never)))
      (pss_cons (ps_expr (pe_bm PySem.F.plainAttrs_list PySem.F.slot_list_append PySem.F.type_list_append mt_append (pv 1) (pa_cons (pe_callTy call_str_int (by rfl) T.m_str (by decide +kernel) (pa_cons (pv 2) pa_nil)) pa_nil)))
      (pss_one (ps_ret (pe_op op_add_str (pe_ifExp (pt_cmpR op_lt (pv 0) pe_int (nomark _)) pe_str pe_str) (pe_joinRev rfl pe_str (by rfl) T.m_reversed (pv 1))))))))), ?_⟩
    refine ⟨Nat.zero_le _, fun pl npl => ⟨_, rfl, _, rfl, ?_⟩⟩
    have hr1 : -(2 ^ 100) < (if n < 0 then -n else n) := by split <;> omega
    have hr2 : (if n < 0 then -n else n) < 2 ^ 100 := by split <;> omega
    refine ⟨fun m σ' H' => σ' = [some (.int n), some (.ref pl), some (.int (if n < 0 then -n else n)), none] ∧ H' = upd H pl (.lst []), ⟨0, rfl, rfl⟩, ?_⟩
    rintro m σ' H' ⟨rfl, rfl⟩
    refine ⟨_, rfl, _, _, rfl, rfl, ⟨by decide, by decide, by decide⟩, _, _, rfl, rfl, _, rfl, ite2 (fun e => ?_) (fun _ => ?_)⟩
    · exfalso
      have e' := of_decide_eq_true e
      rw [pow60] at e'
      omega
    · refine ⟨_, rfl, .inl ⟨rfl, _, SqL.of upd_same⟩, _, rfl, _, rfl, log_ok hr1 hr2, pl, _, _, rfl, rfl, upd_same, szl (by decide), ?_⟩
      have s1 : Same H (upd (upd H pl (.lst [])) pl (.lst ([] ++ [V.str (Str.ofString (toString (if n < 0 then -n else n)))]))) := fun a o e => by
        rw [upd_ne (ne_of_none e npl), upd_ne (ne_of_none e npl)]
        exact e
      have jo : JoinOk ("" : Str) [txt (if n < 0 then -n else n)].reverse = true := PyProof.Rows.joinOk_of (by
        have := txt_len hr1 hr2
        show (txt (if n < 0 then -n else n)).length + 0 + 1 * 0 ≤ 16777216
        omega)
      have hl := txt_len hr1 hr2
      refine ⟨_, rfl, _, _, rfl, rfl, _, rfl, ite2 (fun e => ?_) (fun e => ?_)⟩
      · have e' : n < 0 := of_decide_eq_true e
        refine ⟨_, rfl, _, rfl, pl, [txt (if n < 0 then -n else n)], rfl, SqL.of upd_same, jo, _, _, rfl, rfl, ?_, ?_⟩
        · show 1 + (txt (if n < 0 then -n else n)).length ≤ sizeLine
          exact sz (by omega)
        · show Q (.str (("-" : Str) ++ txt (if n < 0 then -n else n))) _
          rw [if_pos e', txt_neg e']
          rw [if_pos e'] at s1
          exact q _ s1
      · have e' : ¬ n < 0 := fun z => e (decide_eq_true z)
        refine ⟨_, rfl, _, rfl, pl, [txt (if n < 0 then -n else n)], rfl, SqL.of upd_same, jo, _, _, rfl, rfl, ?_, ?_⟩
        · show 0 + (txt (if n < 0 then -n else n)).length ≤ sizeLine
          exact sz (by omega)
        · show Q (.str (("" : Str) ++ txt (if n < 0 then -n else n))) _
          rw [if_neg e', empty_add]
          rw [if_neg e'] at s1
          exact q _ s1
theorem ok_showword (T : Top K mg) : FnOk P w K mg base CX0 2 T.a_showword T.d_showword ["part"] spWord := by
  have G_shownumber : FnOk P w K mg base CX0 1 _ _ _ _ := ok_shownum T
  refine T.F_showword.ok sc_showword (fun vs H Q E h => ?_) (fun cdv A outer s H vs Q E hr h => ?_)
  · obtain ⟨x, rfl, _⟩ := h
    rfl
  · obtain ⟨x, rfl, hx, q⟩ := h
    refine ⟨_, (pss_cons (ps_if (pt_cmpR op_isN (pv 0) pe_non (nomark _)) (pss_one (ps_ret pe_str)) pss_nil)
      (pss_one (ps_ret (pe_ifExp (pt_val (pe_callB call_isi (by rfl) T.m_isinstance (by decide +kernel) (pa_cons (pv 0) (pa_cons (pe_bltn (v := .ty "str") (by rfl) T.m_str (by decide +kernel) rfl) pa_nil)))) (pv 0) (pe_call G_shownumber hr (by rfl) T.g_shownumber T.F_shownumber.kp T.b_shownumber .nil pass0 (pa_cons (pv 0) pa_nil)))))), ?_⟩
    rcases hx with ⟨n, rfl, n0, n1⟩ | ⟨t, rfl, h⟩ | rfl
    · refine ⟨_, rfl, rfl, _, rfl, iteF ?_⟩
      refine ⟨_, rfl, _, _, _, _, false, rfl, ClsV.ty _, .base (.int _), kit_ty (by decide +kernel), _, rfl, iteF ?_⟩
      exact ⟨_, rfl, n, rfl, n0, n1, fun H' s1 => q H' s1⟩
    · refine ⟨_, rfl, rfl, _, rfl, iteF ?_⟩
      refine ⟨_, rfl, _, _, _, _, true, rfl, ClsV.ty _, .base (.str _), kit_ty (by decide +kernel), _, rfl, iteT ?_⟩
      exact ⟨_, rfl, q H (Same.refl H)⟩
    · exact ⟨_, rfl, rfl, _, rfl, iteT (q H (Same.refl H))⟩
theorem ok_showwords (T : Top K mg) : FnOk P w K mg base CX0 3 T.a_showwords T.d_showwords ["parts"] (spWords K) := by
  have G_showword : FnOk P w K mg base CX0 2 _ _ _ _ := ok_showword T
  refine T.F_showwords.ok sc_showwords (fun vs H Q E h => ?_) (fun cdv A outer s H vs Q E hr h => ?_)
  · obtain ⟨p, xs, rfl, _⟩ := h
    rfl
  · obtain ⟨p, xs, rfl, hS, hl, hw, q⟩ := h
    refine ⟨_, (pss_one (ps_ret (pe_join pe_str (pe_lc (own := [("part", 1)]) (g := gName 1) (tt := tYes) (by rfl) sc_showwords.nd (pi_tup (pv 0)) (blkOk_by (own := [("part", 1)]) (N := ["parts", "part"]) (sc := defScope s_showwords) (by decide +kernel)) (fun _ _ _ _ _ => (pg_name (i := 1) sc_showwords.nd rfl (.inl rfl))) (fun _ _ _ _ _ => pts_nil) (fun _ _ _ _ _ => (pe_call G_showword hr (by rfl) T.g_showword T.F_showword.kp T.b_showword .nil pass0 (pa_cons (pv 1) pa_nil))))))), ?_⟩
    refine ⟨⟨_, rfl⟩, _, rfl, p, rfl, ⟨xs, hS⟩, fun D nD => ?_⟩
    refine lc_tup (xs := xs) (fun i H6 => H6 D = some (.lst ((xs.take i).map fun x => V.str (wtx x))) ∧ Same H H6) ⟨upd_same, same_new nD⟩ (fun i H6 _ z => sqT hS z.2) ?_ ?_
    · rintro i x H6 hx ⟨hD, s6⟩
      have hm := List.mem_of_getElem? hx
      have hi := (List.getElem?_eq_some_iff.mp hx).1
      refine ⟨rfl, yes_ite ?_⟩
      refine ⟨_, rfl, x, rfl, hw x hm, fun H7 s7 => ?_⟩
      refine ⟨_, s7 _ _ hD, szl ?_, ?_, ?_⟩
      · rw [List.length_map, List.length_take]
        omega
      · rw [upd_same, List.take_succ, hx, List.map_append]
        rfl
      · intro a o e
        rw [upd_ne (ne_of_none e nD)]
        exact s7 _ _ (s6 _ _ e)
    · rintro H6 ⟨hD, s6⟩
      rw [List.take_length] at hD
      have e : (xs.map fun x => V.str (wtx x)) = (xs.map wtx).map V.str := by
        rw [List.map_map]
        rfl
      rw [e] at hD
      refine ⟨_, _, _, rfl, rfl, .inl (SqL.of hD), ?_, ?_⟩
      · have z := sum_len (m := 100) (ys := xs.map wtx) fun y hy => by
          obtain ⟨x, hx, rfl⟩ := List.mem_map.mp hy
          exact wtx_len (hw x hx)
        rw [List.length_map] at z
        rw [List.length_map, show (" " : Str).length = 1 from rfl]
        omega
      · exact q H6 s6
end

end My
namespace My
open PySem L2
/-! ### what is told, written -/
theorem sqt_ty {K : PySem.W.Frag} {H : Hp} {a : Addr} {xs : List V} (h : SqT K H a xs) : TyX K H (.ref a) (.type "tuple") := by
  rcases h with h | ⟨o, its, n, h1, h2, _⟩
  · rcases h with h | ⟨o, h⟩
    · exact .base (.tup h)
    · exact .fTuple h
  · exact .kTuple h1 h2
def two : List Str := ["most", "top"]
def Small (n : Int) : Prop := -(2 ^ 100) < n ∧ n < 2 ^ 100
inductive Tell (K : PySem.W.Frag) (H : Hp) (z : Str) : V → Str → Prop
  | non : Tell K H z .non (if z ∈ dws then "done" else "none")
  | bl (b : Bool) : Tell K H z (.bl b) (if b = true then "yes" else "no")
  | pair {t : Addr} {n m : Int} : SqT K H t [.int n, .int m] → z ∈ two → Small n → Small m → Tell K H z (.ref t) (Txt.join " " [txt n, "at", txt m])
  | row {t : Addr} {ns : List Int} : SqT K H t (ns.map V.int) → ¬ z ∈ two → ns.length ≤ 200 → (∀ n ∈ ns, Small n) → Tell K H z (.ref t) (Txt.join " " (ns.map txt))
  | int {n : Int} : ¬ z ∈ two → Small n → Tell K H z (.int n) (txt n)
def spIsDeed (K : PySem.W.Frag) : Sp := fun vs H Q _ => ∃ (r : Addr) (z : Str) (ps : List V), vs = [.ref r] ∧ SqT K H r (.str z :: ps) ∧ Q (.bl (decide (z ∈ dws))) H
def spTruth : Sp := fun vs H Q _ => ∃ b : Bool, vs = [.bl b] ∧ Q (.str (if b = true then "yes" else "no")) H
def spTold (K : PySem.W.Frag) : Sp := fun vs H Q _ => ∃ (r : Addr) (z : Str) (ps : List V) (v : V) (due : Str), vs = [.ref r, v] ∧ SqT K H r (.str z :: ps) ∧ Tell K H z v due ∧ ∀ H' : Hp, Same H H' → Q (.str due) H'
theorem three_of {α : Type} (p : α → Prop) {a b c : α} (ha : p a) (hb : p b) (hc : p c) : ∀ x ∈ [a, b, c], p x := fun x m => by
  rcases List.mem_cons.mp m with rfl | m
  · exact ha
  rcases List.mem_cons.mp m with rfl | m
  · exact hb
  · rw [List.mem_singleton.mp m]
    exact hc
theorem wtx_ints : ∀ ns : List Int, (ns.map V.int).map wtx = ns.map txt
  | [] => rfl
  | n :: ns => congrArg (txt n :: ·) (wtx_ints ns)
section
variable {P : Program} {w : World} {K : PySem.W.Frag} {mg : Str → Option Value} {base : Heap}
theorem ok_isdeed (T : Top K mg) : FnOk P w K mg base CX0 1 T.a_isdeed T.d_isdeed ["row"] (spIsDeed K) := by
  refine T.F_isdeed.ok sc_isdeed (fun vs H Q E h => ?_) (fun cdv A outer s H vs Q E hr h => ?_)
  · obtain ⟨r, z, ps, rfl, _⟩ := h
    rfl
  · obtain ⟨r, z, ps, rfl, hr0, q⟩ := h
    refine ⟨_, (pss_one (ps_ret (pe_cmpR op_in_seq (pe_ix ix_tup (pv 0) pe_int (fun _ _ => rfl)) (pe_glob (v := .ref T.aW) (by rfl) T.v_DEEDWORDS rfl) (by rfl)))), ?_⟩
    refine ⟨_, rfl, r, _, _, _, rfl, rfl, hr0, atI_nat (j := 0) rfl, T.aW, _, rfl, .inr (tupB_ok T.tW H), rfl, flat_strs _, ?_⟩
    rw [inV_str]
    exact q
theorem ok_showtruth (T : Top K mg) : FnOk P w K mg base CX0 1 T.a_showtruth T.d_showtruth ["truth"] spTruth := by
  refine T.F_showtruth.ok sc_showtruth (fun vs H Q E h => ?_) (fun cdv A outer s H vs Q E hr h => ?_)
  · obtain ⟨b, rfl, _⟩ := h
    rfl
  · obtain ⟨b, rfl, q⟩ := h
    refine ⟨_, (pss_one (ps_ret (pe_ifExp (pt_val (pv 0)) pe_str pe_str))), ?_⟩
    refine ⟨_, rfl, _, rfl, ?_⟩
    cases b
    · exact iteF q
    · exact iteT q
theorem ok_showtold (T : Top K mg) : FnOk P w K mg base CX0 4 T.a_showtold T.d_showtold ["row", "told"] (spTold K) := by
  have G_isdeed : FnOk P w K mg base CX0 1 _ _ _ _ := ok_isdeed T
  have G_showtruth : FnOk P w K mg base CX0 1 _ _ _ _ := ok_showtruth T
  have G_showwords : FnOk P w K mg base CX0 3 _ _ _ _ := ok_showwords T
  refine T.F_showtold.ok sc_showtold (fun vs H Q E h => ?_) (fun cdv A outer s H vs Q E hr h => ?_)
  · obtain ⟨r, z, ps, v, due, rfl, _⟩ := h
    rfl
  · obtain ⟨r, z, ps, v, due, rfl, hr0, tl, q⟩ := h
    refine ⟨_, (pss_cons (ps_if (pt_cmpR op_isN (pv 1) pe_non (nomark _)) (pss_one (ps_ret (pe_ifExp (pt_val (pe_call G_isdeed (hr.mono (by decide)) (by rfl) T.g_isdeed T.F_isdeed.kp T.b_isdeed .nil pass0 (pa_cons (pv 0) pa_nil))) pe_str pe_str))) pss_nil)
      (pss_cons (ps_if (pt_val (pe_callB call_isi (by rfl) T.m_isinstance (by decide +kernel) (pa_cons (pv 1) (pa_cons (pe_bltn (v := .ty "bool") (by rfl) T.m_bool (by decide +kernel) rfl) pa_nil)))) (pss_one (ps_ret (pe_call G_showtruth (hr.mono (by decide)) (by rfl) T.g_showtruth T.F_showtruth.kp T.b_showtruth .nil pass0 (pa_cons (pv 1) pa_nil)))) pss_nil)
      (pss_cons (ps_if (pt_cmpR op_in_seq (pe_ix ix_tup (pv 0) pe_int (fun _ _ => rfl)) (pe_tup (pa_cons pe_str (pa_cons pe_str pa_nil))) (by rfl)) (pss_one (ps_ret (pe_call G_showwords hr (by rfl) T.g_showwords T.F_showwords.kp T.b_showwords .nil pass0 (pa_cons (pe_tup (pa_cons (pe_ix ix_tup (pv 1) pe_int (fun _ _ => rfl)) (pa_cons pe_str (pa_cons (pe_ix ix_tup (pv 1) pe_int (fun _ _ => rfl)) pa_nil)))) pa_nil)))) pss_nil)
      (pss_one (ps_ret (pe_call G_showwords hr (by rfl) T.g_showwords T.F_showwords.kp T.b_showwords .nil pass0 (pa_cons (pe_ifExp (pt_val (pe_callB call_isi (by rfl) T.m_isinstance (by decide +kernel) (pa_cons (pv 1) (pa_cons (pe_bltn (v := .ty "tuple") (by rfl) T.m_tuple (by decide +kernel) rfl) pa_nil)))) (pv 1) (pe_tup (pa_cons (pv 1) pa_nil))) pa_nil))))))), ?_⟩
    have eI : inV (.str z) [V.str "most", V.str "top"] = decide (z ∈ two) := inV_str z two
    cases tl with
    | non =>
      refine ⟨_, rfl, rfl, _, rfl, iteT ?_⟩
      refine ⟨_, rfl, r, z, ps, rfl, hr0, _, rfl, ?_⟩
      by_cases e : z ∈ dws
      · rw [if_pos e] at q
        exact (if_pos (decide_eq_true e)).symm ▸ q H (Same.refl H)
      · rw [if_neg e] at q
        exact (if_neg (fun z => e (of_decide_eq_true z))).symm ▸ q H (Same.refl H)
    | bl b =>
      refine ⟨_, rfl, rfl, _, rfl, iteF ?_⟩
      refine ⟨_, rfl, _, _, _, _, true, rfl, ClsV.ty _, .base (.bl _), kit_ty (by decide +kernel), _, rfl, iteT ?_⟩
      exact ⟨_, rfl, b, rfl, q H (Same.refl H)⟩
    | @pair t n m ht hz hn hm =>
      refine ⟨_, rfl, rfl, _, rfl, iteF ?_⟩
      refine ⟨_, rfl, _, _, _, _, false, rfl, ClsV.ty _, sqt_ty ht, kit_ty (by decide +kernel), _, rfl, iteF ?_⟩
      refine ⟨_, rfl, r, _, _, _, rfl, rfl, hr0, atI_nat (j := 0) rfl, (by show 2 ≤ sizeLine; decide), fun p np => ⟨p, _, rfl, .inr (SqT.of upd_same), rfl, flat_strs two, _, rfl, ?_⟩⟩
      have s1 := same_new (o := .tup [V.str "most", V.str "top"]) np
      have yes : inV (.str z) [V.str "most", V.str "top"] = true := eI.trans (decide_eq_true hz)
      refine ite2 (fun _ => ?_) (fun e => absurd yes e)
      refine ⟨_, rfl, t, _, _, _, rfl, rfl, sqT ht s1, atI_nat (j := 0) rfl, _, rfl, t, _, _, _, rfl, rfl, sqT ht s1, atI_nat (j := 1) rfl, (by show 3 ≤ sizeLine; decide), fun p2 n2 => ?_⟩
      have s2 := same_new (o := .tup [V.int n, V.str "at", V.int m]) n2
      exact ⟨p2, [.int n, .str "at", .int m], rfl, SqT.of upd_same, (by show 3 ≤ 200; decide), three_of WdOk (.inl ⟨_, rfl, hn.1, hn.2⟩) (.inr (.inl ⟨_, rfl, by decide +kernel⟩)) (.inl ⟨_, rfl, hm.1, hm.2⟩), fun H' s' => q H' ((s1.trans s2).trans s')⟩
    | @row t ns ht hz hl hn =>
      refine ⟨_, rfl, rfl, _, rfl, iteF ?_⟩
      refine ⟨_, rfl, _, _, _, _, false, rfl, ClsV.ty _, sqt_ty ht, kit_ty (by decide +kernel), _, rfl, iteF ?_⟩
      refine ⟨_, rfl, r, _, _, _, rfl, rfl, hr0, atI_nat (j := 0) rfl, (by show 2 ≤ sizeLine; decide), fun p np => ⟨p, _, rfl, .inr (SqT.of upd_same), rfl, flat_strs two, _, rfl, ?_⟩⟩
      have s1 := same_new (o := .tup [V.str "most", V.str "top"]) np
      refine ite2 (fun e => absurd (of_decide_eq_true (eI.symm.trans e)) hz) (fun _ => ?_)
      refine ⟨_, rfl, _, _, _, _, true, rfl, ClsV.ty _, sqt_ty (sqT ht s1), kit_ty (by decide +kernel), _, rfl, iteT ?_⟩
      refine ⟨_, rfl, t, ns.map V.int, rfl, sqT ht s1, (by rw [List.length_map]; exact hl), fun x hx => ?_, fun H' s' => ?_⟩
      · obtain ⟨n, h, rfl⟩ := List.mem_map.mp hx
        exact .inl ⟨n, rfl, hn n h⟩
      · rw [wtx_ints]
        exact q H' (s1.trans s')
    | @int n hz hn =>
      refine ⟨_, rfl, rfl, _, rfl, iteF ?_⟩
      refine ⟨_, rfl, _, _, _, _, false, rfl, ClsV.ty _, .base (.int _), kit_ty (by decide +kernel), _, rfl, iteF ?_⟩
      refine ⟨_, rfl, r, _, _, _, rfl, rfl, hr0, atI_nat (j := 0) rfl, (by show 2 ≤ sizeLine; decide), fun p np => ⟨p, _, rfl, .inr (SqT.of upd_same), rfl, flat_strs two, _, rfl, ?_⟩⟩
      have s1 := same_new (o := .tup [V.str "most", V.str "top"]) np
      refine ite2 (fun e => absurd (of_decide_eq_true (eI.symm.trans e)) hz) (fun _ => ?_)
      refine ⟨_, rfl, _, _, _, _, false, rfl, ClsV.ty _, .base (.int _), kit_ty (by decide +kernel), _, rfl, iteF ?_⟩
      refine ⟨_, rfl, (by show 1 ≤ sizeLine; decide), fun p2 n2 => ?_⟩
      exact ⟨p2, [.int n], rfl, SqT.of upd_same, (by show 1 ≤ 200; decide), fun x hx => .inl ⟨n, List.mem_singleton.mp hx, hn⟩, fun H' s' => q H' ((s1.trans (same_new n2)).trans s')⟩
end

end My
namespace My
open PySem L2
/-! ### the signs of the rows, and any row -/
def sg1 : List (Key × V) := [(.inr "new", .str "wk"), (.inr "put", .str "pw"), (.inr "paint", .str "pk"), (.inr "tie", .str "pp"), (.inr "cut", .str "pp"), (.inr "add", .str "ppw"), (.inr "spread", .str "pqw")]
def sg2 : List (Key × V) := [(.inr "joined", .str "pp"), (.inr "way", .str "pp"), (.inr "total", .str "pp"), (.inr "many", .str "pp"), (.inr "most", .str "pp"), (.inr "first", .str "ppk")]
def sg3 : List (Key × V) := [(.inr "reach", .str "ppw"), (.inr "kth", .str "ppn"), (.inr "meet", .str "ppp"), (.inr "sum", .str "pq"), (.inr "size", .str "pq"), (.inr "top", .str "pq"), (.inr "least", .str "pqk")]
def sgK : List (Key × V) := mergeK (mergeK (mergeK [] sg1) (mergeK [] sg2)) (mergeK [] sg3)
def evs : List Str := ["new", "put", "paint", "tie", "cut", "add", "spread", "joined", "way", "total", "many", "most", "first", "reach", "kth", "meet", "sum", "size", "top", "least"]
theorem sg_keys : sgK.map (·.1) = evs.map Sum.inr := by decide +kernel
def sgOf (z : Str) : Str := match valV sgK (.inr z) with
  | some (.str s) => s
  | _ => ""
theorem sg_val : ∀ z ∈ evs, valV sgK (.inr z) = some (.str (sgOf z)) ∧ (sgOf z).cps.size ≤ 3 := by decide +kernel
theorem same_at {H H1 : Hp} {d : Addr} {o : HO} (s : Same H H1) (n : H d = none) : Same H (upd H1 d o) := fun b u z => by
  rw [upd_ne (ne_of_none z n)]
  exact s b u z
theorem kind_at {r : Int} (d0 : 0 ≤ r) (d1 : r < 8) : ∃ c : Nat, atI ("abcdefgh" : Str).cps.toList r = some c := by
  have hc : r = 0 ∨ r = 1 ∨ r = 2 ∨ r = 3 ∨ r = 4 ∨ r = 5 ∨ r = 6 ∨ r = 7 := by omega
  rcases hc with h | h | h | h | h | h | h | h
  all_goals
    subst h
    exact ⟨_, rfl⟩
theorem pow12 : (10 : Int) ^ (12 : Int).toNat = 1000000000000 := by decide +kernel
def spSigns : Sp := fun vs H Q _ => vs = [] ∧ ∀ (d : Addr) (H' : Hp), Same H H' → H d = none → H' d = some (.dK sgK) → Q (.ref d) H'
def spAnyRow : Sp := fun vs H Q _ => ∃ (d c : Addr), vs = [.ref d] ∧ DrAt H d c ∧ ∀ (r : Addr) (z : Str) (xs : List V) (H' : Hp), z ∈ evs → H' r = some (.tup (.str z :: xs)) → DrAt H' d c → But d H H' → Q (.ref r) H'
section
variable {P : Program} {w : World} {K : PySem.W.Frag} {mg : Str → Option Value} {base : Heap}
theorem ok_signs (T : Top K mg) : FnOk P w K mg base CX0 1 T.a_Lsigns T.d_Lsigns [] spSigns := by
  refine T.F_Lsigns.ok sc_Lsigns (fun vs H Q E h => ?_) (fun cdv A outer s H vs Q E hr h => ?_)
  · obtain ⟨rfl, _⟩ := h
    rfl
  · obtain ⟨rfl, q⟩ := h
    refine ⟨_, (pss_cons (ps_set (i := 0) sc_Lsigns.nd rfl (.inl rfl) (pe_disp (pps_cons pe_str pe_str (pps_cons pe_str pe_str (pps_cons pe_str pe_str (pps_cons pe_str pe_str (pps_cons pe_str pe_str (pps_cons pe_str pe_str (pps_cons pe_str pe_str pps_nil))))))) (by rfl) (by rfl) (fun z => by cases z) (by decide)))
      (pss_cons (ps_expr (pe_dupd (pv 0) (pe_disp (pps_cons pe_str pe_str (pps_cons pe_str pe_str (pps_cons pe_str pe_str (pps_cons pe_str pe_str (pps_cons pe_str pe_str (pps_cons pe_str pe_str pps_nil)))))) (by rfl) (by rfl) (fun z => by cases z) (by decide)) ⟨by rfl, by rfl, by rfl, by rfl⟩))
      (pss_cons (ps_expr (pe_dupd (pv 0) (pe_disp (pps_cons pe_str pe_str (pps_cons pe_str pe_str (pps_cons pe_str pe_str (pps_cons pe_str pe_str (pps_cons pe_str pe_str (pps_cons pe_str pe_str (pps_cons pe_str pe_str pps_nil))))))) (by rfl) (by rfl) (fun z => by cases z) (by decide)) ⟨by rfl, by rfl, by rfl, by rfl⟩))
      (pss_one (ps_ret (pv 0)))))), ?_⟩
    refine fun d nd => ⟨upd_same, sg1, rfl, by decide, ?_⟩
    rw [upd_upd]
    have s1 : Same H (upd H d (.dK (mergeK [] sg1))) := same_new nd
    have h1 : upd H d (.dK (mergeK [] sg1)) d = some (.dK (mergeK [] sg1)) := upd_same
    generalize upd H d (.dK (mergeK [] sg1)) = H1 at s1 h1 ⊢
    refine ⟨_, rfl, d, rfl, .inl ⟨_, .inl h1⟩, fun e2 ne2 => ⟨upd_same, sg2, rfl, by decide, e2, mergeK [] sg1, mergeK [] sg2, rfl, ?_, upd_same, ne_of_none h1 ne2, (by decide +kernel), ?_⟩⟩
    · rw [upd_upd, upd_ne (ne_of_none h1 ne2)]
      exact h1
    rw [upd_upd]
    have s2 : Same H (upd (upd H1 e2 (.dK (mergeK [] sg2))) d (.dK (mergeK (mergeK [] sg1) (mergeK [] sg2)))) := same_at (s1.trans (same_new ne2)) nd
    have h2 : upd (upd H1 e2 (.dK (mergeK [] sg2))) d (.dK (mergeK (mergeK [] sg1) (mergeK [] sg2))) d = some (.dK (mergeK (mergeK [] sg1) (mergeK [] sg2))) := upd_same
    generalize upd (upd H1 e2 (.dK (mergeK [] sg2))) d (.dK (mergeK (mergeK [] sg1) (mergeK [] sg2))) = H2 at s2 h2 ⊢
    refine ⟨_, rfl, d, rfl, .inl ⟨_, .inl h2⟩, fun e3 ne3 => ⟨upd_same, sg3, rfl, by decide, e3, mergeK (mergeK [] sg1) (mergeK [] sg2), mergeK [] sg3, rfl, ?_, upd_same, ne_of_none h2 ne3, (by decide +kernel), ?_⟩⟩
    · rw [upd_upd, upd_ne (ne_of_none h2 ne3)]
      exact h2
    rw [upd_upd]
    exact ⟨_, rfl, q d _ (same_at (s2.trans (same_new ne3)) nd) nd upd_same⟩
theorem ok_anyrow (T : Top K mg) : FnOk P w K mg base CX0 2 T.a_Lanyrow T.d_Lanyrow ["_law_draws"] spAnyRow := by
  have G_Lnext : FnOk P w K mg base CX0 1 _ _ _ _ := ok_nextD T
  have G_Lsigns : FnOk P w K mg base CX0 1 _ _ _ _ := ok_signs T
  refine T.F_Lanyrow.ok sc_Lanyrow (fun vs H Q E h => ?_) (fun cdv A outer s H vs Q E hr h => ?_)
  · obtain ⟨d, c, rfl, _⟩ := h
    rfl
  · obtain ⟨d, c, rfl, B, q⟩ := h
    refine ⟨_, (pss_cons (ps_set (i := 1) sc_Lanyrow.nd rfl (.inl rfl) (pe_call0 G_Lsigns hr (by rfl) T.g_Lsigns T.F_Lsigns.kp T.b_Lsigns .nil pass0))
      (pss_cons (ps_set (i := 2) sc_Lanyrow.nd rfl (.inl rfl) (pe_ix ix_list (pe_callB (call_sortedD rfl) (by rfl) T.m_sorted (by decide +kernel) (pa_cons (pv 1) pa_nil)) (pe_call G_Lnext hr (by rfl) T.g_Lnext T.F_Lnext.kp T.b_Lnext .nil pass0 (pa_cons (pv 0) (pa_cons pe_int pa_nil))) (fun _ _ => rfl)))
      (pss_cons (ps_set (i := 3) sc_Lanyrow.nd rfl (.inl rfl) (pe_lst (pa_cons (pv 2) pa_nil)))
      (pss_cons (ps_for PassesOwn.never rfl (pi_str (pe_dget (u1 hr) (pv 1) (pv 2) (fun _ _ => rfl))) (pg_name (i := 4) sc_Lanyrow.nd rfl (.inl rfl)) (pss_cons (ps_set (i := 5) sc_Lanyrow.nd rfl (.inl rfl) (pe_ix ix_list (pe_lst (pa_cons (pe_op op_sub (pe_call G_Lnext hr (by rfl) T.g_Lnext T.F_Lnext.kp T.b_Lnext .nil pass0 (pa_cons (pv 0) (pa_cons pe_int pa_nil))) pe_int) (pa_cons (pe_op op_sub (pe_op op_pow pe_int pe_int) pe_int) (pa_cons (pe_op op_sub pe_int (pe_op op_pow pe_int pe_int)) (pa_cons (pe_call G_Lnext hr (by rfl) T.g_Lnext T.F_Lnext.kp T.b_Lnext .nil pass0 (pa_cons (pv 0) (pa_cons (pe_op op_pow pe_int pe_int) pa_nil))) pa_nil))))) (pe_call G_Lnext hr (by rfl) T.g_Lnext T.F_Lnext.kp T.b_Lnext .nil pass0 (pa_cons (pv 0) (pa_cons pe_int pa_nil))) (fun _ _ => rfl)))
      (pss_one (ps_if (pt_cmpR op_eq (pv 4) pe_str (nomark _)) (pss_one (ps_expr (pe_bm PySem.F.plainAttrs_list PySem.F.slot_list_append PySem.F.type_list_append mt_append (pv 3) (pa_cons (pe_ix ix_str pe_str (pe_call G_Lnext hr (by rfl) T.g_Lnext T.F_Lnext.kp T.b_Lnext .nil pass0 (pa_cons (pv 0) (pa_cons pe_int pa_nil))) (fun _ _ => rfl)) pa_nil)))) (pss_one (ps_if (pt_cmpR op_eq (pv 4) pe_str (nomark _)) (pss_one (ps_expr (pe_bm PySem.F.plainAttrs_list PySem.F.slot_list_append PySem.F.type_list_append mt_append (pv 3) (pa_cons (pe_callB call_abs (by rfl) T.m_abs (by decide +kernel) (pa_cons (pv 5) pa_nil)) pa_nil)))) (pss_one (ps_if (PW.pt (pw_and (pt_cmpR op_eq (pv 4) pe_str (nomark _)) (pw_and1 (pt_cmpR op_eq (pe_call G_Lnext hr (by rfl) T.g_Lnext T.F_Lnext.kp T.b_Lnext .nil pass0 (pa_cons (pv 0) (pa_cons pe_int pa_nil))) pe_int (nomark _))))) (pss_one (ps_expr (pe_bm PySem.F.plainAttrs_list PySem.F.slot_list_append PySem.F.type_list_append mt_append (pv 3) (pa_cons pe_non pa_nil)))) (pss_one (ps_expr (pe_bm PySem.F.plainAttrs_list PySem.F.slot_list_append PySem.F.type_list_append mt_append (pv 3) (pa_cons (pv 5) pa_nil))))))))))))
      (pss_one (ps_ret (pe_callTy call_tuple_of (by rfl) T.m_tuple (by decide +kernel) (pa_cons (pv 3) pa_nil)))))))), ?_⟩
    refine ⟨rfl, fun sd H1 s1 fsd hsd => ?_⟩
    have B1 := B.same s1
    refine ⟨_, rfl, sd, sgK, evs, rfl, .inl hsd, sg_keys, by decide, fun ys p pm hs np => ?_⟩
    have nsd : sd ≠ d := B.ne fsd
    refine ⟨_, rfl, d, c, 20, rfl, B1.new np, by decide, by decide, fun x H2 x0 x1 B2 k2 => ?_⟩
    have hp2 := k2 _ _ upd_same (B1.ne np)
    have k02 : But d H H2 := ((But.refl.same s1).new np).trans k2
    have hsd2 := k2 _ _ (same_new np _ _ hsd) nsd
    have yl : ys.length = 20 := pm.length_eq
    have pick : ∃ z : Str, atI (ys.map V.str) x = some (.str z) ∧ z ∈ evs := by
      have hx : x.toNat < ys.length := by omega
      have ex : x = ((x.toNat : Nat) : Int) := by omega
      have hv : atI (ys.map V.str) ((x.toNat : Nat) : Int) = some (.str ys[x.toNat]) := atI_nat (by rw [List.getElem?_map, List.getElem?_eq_getElem hx]; rfl)
      rw [← ex] at hv
      exact ⟨ys[x.toNat], hv, pm.mem_iff.mp (List.getElem_mem hx)⟩
    obtain ⟨z, hz, zm⟩ := pick
    obtain ⟨vz, lz⟩ := sg_val z zm
    refine ⟨p, _, _, _, rfl, rfl, SqL.of hp2, hz, _, rfl, (by show 1 ≤ sizeLine; decide), fun rl nrl => ?_⟩
    have nrd : rl ≠ d := B2.ne nrl
    have nrc : rl ≠ c := B2.neL nrl
    have nr0 : H rl = none := B2.back k02 nrl
    have hg : DGet (upd H2 rl (.lst [V.str z])) sd (.str z) (some (.str (sgOf z))) := by
      rw [← vz]
      exact DGet.k (k := .inr z) (same_new nrl _ _ hsd2)
    refine ⟨_, rfl, _, rfl, sd, _, rfl, hg, _, rfl, for_it walk_str (fun i σ H3 => ∃ (xs : List V) (y4 y5 : Option V), σ = [some (.ref d), some (.ref sd), some (.str z), some (.ref rl), y4, y5] ∧ H3 rl = some (.lst (.str z :: xs)) ∧ xs.length ≤ i ∧ DrAt H3 d c ∧ But d H H3) ⟨[], none, none, rfl, upd_same, Nat.le_refl _, B2.new nrl, k02.new nrl⟩ (fun _ _ _ _ _ => True.intro) ?_ ?_⟩
    · rintro i v σ H3' H3 hi ⟨xs, y4, y5, rfl, hrl, xl, B3, k3⟩ ⟨rfl, cc, hcc, rfl⟩
      refine ⟨_, rfl, d, c, 12, rfl, B3, by decide, by decide, fun x4 H4 a0 a1 B4 k4 => ⟨_, _, rfl, rfl, _, _, rfl, rfl, ⟨by decide, by decide, by decide⟩, _, _, rfl, rfl, _, _, rfl, rfl, ⟨by decide, by decide, by decide⟩, _, _, rfl, rfl, _, rfl, _, _, rfl, rfl, ⟨by decide, by decide, by decide⟩, d, c, _, rfl, B4, (by show (0 : Int) < 10 ^ (12 : Int).toNat; rw [pow12]; decide), (by show (10 : Int) ^ (12 : Int).toNat < 2 ^ 100; rw [pow12]; decide), fun x5 H5 b0 b1 B5 k5 => ⟨(by show 4 ≤ sizeLine; decide), fun p5 n5 => ?_⟩⟩⟩
      refine ⟨_, rfl, d, c, 4, rfl, B5.new n5, by decide, by decide, fun x6 H6 c0 c1 B6 k6 => ?_⟩
      have hp6 := k6 _ _ upd_same (B5.ne n5)
      have pick : ∃ v : Int, atI [V.int (x4 - 3), V.int (10 ^ (30 : Int).toNat - 1), V.int (1 - 10 ^ (30 : Int).toNat), V.int x5] x6 = some (.int v) := by
        have hc : x6 = 0 ∨ x6 = 1 ∨ x6 = 2 ∨ x6 = 3 := by omega
        rcases hc with rfl | rfl | rfl | rfl
        all_goals exact ⟨_, rfl⟩
      obtain ⟨v, hv⟩ := pick
      refine ⟨p5, _, _, _, rfl, rfl, SqL.of hp6, hv, ?_⟩
      have k36 : But d H3 H6 := ((k4.trans k5).new n5).trans k6
      have hrl6 := k36 _ _ hrl nrd
      have xl3 : xs.length ≤ 3 := by omega
      have fin : ∀ (u : V) (H7 : Hp), DrAt H7 d c → But d H6 H7 → H7 rl = some (.lst (.str z :: xs)) ∧ (V.str z :: xs).length < sizeLine ∧ ∃ (xs' : List V) (y4' y5' : Option V), [some (V.ref d), some (V.ref sd), some (V.str z), some (V.ref rl), some (V.str ⟨#[cc]⟩), some (V.int v)] = [some (V.ref d), some (V.ref sd), some (V.str z), some (V.ref rl), y4', y5'] ∧ (upd H7 rl (.lst (V.str z :: xs ++ [u]))) rl = some (.lst (.str z :: xs')) ∧ xs'.length ≤ i + 1 ∧ DrAt (upd H7 rl (.lst (V.str z :: xs ++ [u]))) d c ∧ But d H (upd H7 rl (.lst (V.str z :: xs ++ [u]))) := by
        intro u H7 B7 k7
        refine ⟨k7 _ _ hrl6 nrd, szl (by rw [List.length_cons]; omega), xs ++ [u], _, _, rfl, upd_same, ?_, B7.put nrd nrc, fun a o e ne => ?_⟩
        · rw [List.length_append]
          exact Nat.succ_le_succ xl
        · rw [upd_ne (ne_of_none e nr0)]
          exact k7 _ _ (k36 _ _ (k3 _ _ e ne) ne) ne
      refine ⟨_, rfl, rfl, _, rfl, ite2 (fun _ => ?_) (fun _ => ?_)⟩
      · refine ⟨_, rfl, .inl ⟨rfl, _, SqL.of hrl6⟩, _, rfl, d, c, 8, rfl, B6, by decide, by decide, fun kx H7 e0 e1 B7 k7 => ?_⟩
        obtain ⟨ch, hch⟩ := kind_at e0 e1
        exact ⟨_, _, _, rfl, rfl, (by decide +kernel), hch, rl, _, _, rfl, rfl, fin _ H7 B7 k7⟩
      refine ⟨_, rfl, rfl, _, rfl, ite2 (fun _ => ?_) (fun _ => ?_)⟩
      · exact ⟨_, rfl, .inl ⟨rfl, _, SqL.of hrl6⟩, _, rfl, _, rfl, rl, _, _, rfl, rfl, fin _ H6 B6 But.refl⟩
      refine ⟨_, rfl, rfl, _, rfl, ite2 (fun _ => ?_) (fun _ => ?_)⟩
      · refine ⟨_, rfl, d, c, 2, rfl, B6, by decide, by decide, fun x7 H7 _ _ B7 k7 => ⟨rfl, _, rfl, ite2 (fun _ => ?_) (fun _ => ?_)⟩⟩
        · exact ⟨_, rfl, .inl ⟨rfl, _, SqL.of (k7 _ _ hrl6 nrd)⟩, rl, _, _, rfl, rfl, fin _ H7 B7 k7⟩
        · exact ⟨_, rfl, .inl ⟨rfl, _, SqL.of (k7 _ _ hrl6 nrd)⟩, _, rfl, rl, _, _, rfl, rfl, fin _ H7 B7 k7⟩
      · exact iteF ⟨_, rfl, .inl ⟨rfl, _, SqL.of hrl6⟩, _, rfl, rl, _, _, rfl, rfl, fin _ H6 B6 But.refl⟩
    · rintro σ H3 ⟨xs, y4, y5, rfl, hrl, xl, B3, k3⟩
      exact ⟨_, rfl, rl, _, rfl, .inl ⟨SqL.of hrl, fun r nr => q r z xs _ zm upd_same (B3.new nr) (k3.new nr)⟩⟩
end

end My
namespace My
open PySem L2
/-! ### a told thing and its text -/
def six : List Str := ["put", "paint", "tie", "cut", "add", "spread"]
def three : List Str := ["first", "reach", "least"]
def eight : List Str := ["new", "many", "first", "reach", "kth", "meet", "size", "least"]
theorem six_dws : ∀ z ∈ six, z ∈ dws := by decide +kernel
theorem three_dws : ∀ z ∈ three, ¬ z ∈ dws := by decide +kernel
theorem eight_two : ∀ z ∈ eight, ¬ z ∈ two := by decide +kernel
theorem at_join (a b : Str) : a ++ (" at " : Str) ++ b = Txt.join " " [a, "at", b] := by
  show Str.mk (a.cps ++ (" at " : Str).cps ++ b.cps) = Str.mk (a.cps ++ (" " : Str).cps ++ ("at" : Str).cps ++ (" " : Str).cps ++ b.cps)
  have e : (" at " : Str).cps = (" " : Str).cps ++ ("at" : Str).cps ++ (" " : Str).cps := by decide +kernel
  rw [e, Array.append_assoc, Array.append_assoc, Array.append_assoc, Array.append_assoc, Array.append_assoc, Array.append_assoc]
theorem add_len (a b : Str) : (a ++ b).length = a.length + b.length := by
  show (a.cps ++ b.cps).size = _
  rw [Array.size_append]
  rfl
def spTPair (K : PySem.W.Frag) : Sp := fun vs H Q _ => ∃ (d c : Addr) (z : Str), vs = [.ref d, .str z] ∧ DrAt H d c ∧ ∀ (t : Addr) (v : V) (due : Str) (H' : Hp), H' t = some (.tup [v, .str due]) → Tell K H' z v due → DrAt H' d c → But d H H' → Q (.ref t) H'
theorem tell_str {K : PySem.W.Frag} {H : Hp} {z : Str} {v : V} {a b : Str} (h : Tell K H z v a) (e : a = b) : Tell K H z v b := e ▸ h
section
variable {P : Program} {w : World} {K : PySem.W.Frag} {mg : Str → Option Value} {base : Heap}
theorem ok_tpair (T : Top K mg) : FnOk P w K mg base CX0 3 T.a_Lpair T.d_Lpair ["_law_draws", "_law_word"] (spTPair K) := by
  have G_Lnext : FnOk P w K mg base CX0 1 _ _ _ _ := ok_nextD T
  have G_Lmany : FnOk P w K mg base CX0 2 _ _ _ _ := ok_manyD T
  refine T.F_Lpair.ok sc_Lpair (fun vs H Q E h => ?_) (fun cdv A outer s H vs Q E hr h => ?_)
  · obtain ⟨d, c, z, rfl, _⟩ := h
    rfl
  · obtain ⟨d, c, z, rfl, B, q⟩ := h
    refine ⟨_, (pss_cons (ps_set (i := 2) sc_Lpair.nd rfl (.inl rfl) (pe_ix ix_list (pe_lst (pa_cons (pe_call G_Lnext (hr.mono (by decide)) (by rfl) T.g_Lnext T.F_Lnext.kp T.b_Lnext .nil pass0 (pa_cons (pv 0) (pa_cons pe_int pa_nil))) (pa_cons (pe_op op_sub (pe_un un_neg pe_int) (pe_call G_Lnext (hr.mono (by decide)) (by rfl) T.g_Lnext T.F_Lnext.kp T.b_Lnext .nil pass0 (pa_cons (pv 0) (pa_cons pe_int pa_nil)))) (pa_cons (pe_op op_sub (pe_op op_pow pe_int pe_int) pe_int) (pa_cons pe_int (pa_cons pe_int pa_nil)))))) (pe_call G_Lnext (hr.mono (by decide)) (by rfl) T.g_Lnext T.F_Lnext.kp T.b_Lnext .nil pass0 (pa_cons (pv 0) (pa_cons pe_int pa_nil))) (fun _ _ => rfl)))
      (pss_cons (ps_set (i := 3) sc_Lpair.nd rfl (.inl rfl) (pe_call G_Lnext (hr.mono (by decide)) (by rfl) T.g_Lnext T.F_Lnext.kp T.b_Lnext .nil pass0 (pa_cons (pv 0) (pa_cons pe_int pa_nil))))
      (pss_cons (ps_if (pt_cmpR op_in_seq (pv 1) (pe_tup (pa_cons pe_str (pa_cons pe_str (pa_cons pe_str (pa_cons pe_str (pa_cons pe_str (pa_cons pe_str pa_nil))))))) (by rfl)) (pss_one (ps_ret (pe_tup (pa_cons pe_non (pa_cons pe_str pa_nil))))) pss_nil)
      (pss_cons (ps_if (pt_cmpR op_eq (pv 1) pe_str (nomark _)) (pss_one (ps_ret (pe_ix ix_list (pe_lst (pa_cons (pe_tup (pa_cons pe_bl (pa_cons pe_str pa_nil))) (pa_cons (pe_tup (pa_cons pe_bl (pa_cons pe_str pa_nil))) pa_nil))) (pe_op op_mod (pv 3) pe_int) (fun _ _ => rfl)))) pss_nil)
      (pss_cons (ps_if (pt_cmpR op_eq (pv 1) pe_str (nomark _)) (pss_cons (ps_setLc (i := 4) (own := [("_law_k", 5)]) (g := gName 5) (tt := tYes) (by rfl) sc_Lpair.nd rfl rfl (sw_true rfl rfl rfl (by decide +kernel)) (pi_range1 (by rfl) T.m_range (pa_cons (pe_op op_add pe_int (pe_call G_Lmany hr (by rfl) T.g_Lmany T.F_Lmany.kp T.b_Lmany .nil pass0 (pa_cons (pv 0) (pa_cons pe_int (pa_cons pe_int pa_nil))))) pa_nil)) (blkOk_by (own := [("_law_k", 5)]) (N := ["_law_draws", "_law_word", "_law_number", "_law_point", "_law_some", "_law_k", "_law_one"]) (sc := defScope s_Lpair) (by decide +kernel)) (fun _ _ _ _ _ => (pg_name (i := 5) sc_Lpair.nd rfl (.inl rfl))) (fun _ _ _ _ _ => pts_nil) (fun _ _ _ _ _ => (pe_call G_Lnext (hr.mono (by decide)) (by rfl) T.g_Lnext T.F_Lnext.kp T.b_Lnext .nil pass0 (pa_cons (pv 0) (pa_cons pe_int pa_nil)))))
      (pss_one (ps_ret (pe_tup (pa_cons (pe_callTy call_tuple_of (by rfl) T.m_tuple (by decide +kernel) (pa_cons (pv 4) pa_nil)) (pa_cons (pe_join pe_str (pe_lc (own := [("_law_one", 6)]) (g := gName 6) (tt := tYes) (by rfl) sc_Lpair.nd (pi_list (pv 4)) (blkOk_by (own := [("_law_one", 6)]) (N := ["_law_draws", "_law_word", "_law_number", "_law_point", "_law_some", "_law_k", "_law_one"]) (sc := defScope s_Lpair) (by decide +kernel)) (fun _ _ _ _ _ => (pg_name (i := 6) sc_Lpair.nd rfl (.inl rfl))) (fun _ _ _ _ _ => pts_nil) (fun _ _ _ _ _ => (pe_callTy call_str_int (by rfl) T.m_str (by decide +kernel) (pa_cons (pv 6) pa_nil))))) pa_nil)))))) pss_nil)
      (pss_cons (ps_if (pt_cmpR op_in_seq (pv 1) (pe_tup (pa_cons pe_str (pa_cons pe_str pa_nil))) (by rfl)) (pss_one (ps_ret (pe_tup (pa_cons (pe_tup (pa_cons (pv 2) (pa_cons (pv 3) pa_nil))) (pa_cons (pe_op op_add_str (pe_op op_add_str (pe_callTy call_str_int (by rfl) T.m_str (by decide +kernel) (pa_cons (pv 2) pa_nil)) pe_str) (pe_callTy call_str_int (by rfl) T.m_str (by decide +kernel) (pa_cons (pv 3) pa_nil))) pa_nil))))) pss_nil)
      (pss_cons (ps_if (pt_mid (PW.pt (pw_and (pt_cmpR op_in_seq (pv 1) (pe_tup (pa_cons pe_str (pa_cons pe_str (pa_cons pe_str pa_nil)))) (by rfl)) (pw_and1 (pt_cmpR op_eq (pe_call G_Lnext (hr.mono (by decide)) (by rfl) T.g_Lnext T.F_Lnext.kp T.b_Lnext .nil pass0 (pa_cons (pv 0) (pa_cons pe_int pa_nil))) pe_int (nomark _)))))) (pss_one (ps_ret (pe_tup (pa_cons pe_non (pa_cons pe_str pa_nil))))) pss_nil)
      (pss_cons (ps_if (pt_cmpR op_in_seq (pv 1) (pe_tup (pa_cons pe_str (pa_cons pe_str (pa_cons pe_str (pa_cons pe_str (pa_cons pe_str (pa_cons pe_str (pa_cons pe_str (pa_cons pe_str pa_nil))))))))) (by rfl)) (pss_one (ps_ret (pe_tup (pa_cons (pv 3) (pa_cons (pe_callTy call_str_int (by rfl) T.m_str (by decide +kernel) (pa_cons (pv 3) pa_nil)) pa_nil))))) pss_nil)
      (pss_one (ps_ret (pe_tup (pa_cons (pv 2) (pa_cons (pe_callTy call_str_int (by rfl) T.m_str (by decide +kernel) (pa_cons (pv 2) pa_nil)) pa_nil))))))))))))), ?_⟩
    refine ⟨_, rfl, d, c, 100, rfl, B, by decide, by decide, fun x1 H1 a0 a1 B1 k1 => ⟨_, rfl, _, rfl, d, c, 9, rfl, B1, by decide, by decide, fun x2 H2 b0 b1 B2 k2 => ⟨_, _, rfl, rfl, _, _, rfl, rfl, ⟨by decide, by decide, by decide⟩, _, _, rfl, rfl, (by show 5 ≤ sizeLine; decide), fun p np => ?_⟩⟩⟩
    refine ⟨_, rfl, d, c, 5, rfl, B2.new np, by decide, by decide, fun x3 H3 c0 c1 B3 k3 => ?_⟩
    have hp3 := k3 _ _ upd_same (B2.ne np)
    have pick : ∃ v : Int, atI [V.int x1, V.int (-1 - x2), V.int (10 ^ (30 : Int).toNat - 1), V.int 0, V.int 1] x3 = some (.int v) ∧ Small v := by
      rw [pow30]
      have hc : x3 = 0 ∨ x3 = 1 ∨ x3 = 2 ∨ x3 = 3 ∨ x3 = 4 := by omega
      rcases hc with rfl | rfl | rfl | rfl | rfl
      all_goals exact ⟨_, rfl, by omega, by omega⟩
    obtain ⟨v, hv, sv⟩ := pick
    refine ⟨p, _, _, _, rfl, rfl, SqL.of hp3, hv, ?_⟩
    refine ⟨_, rfl, d, c, 100, rfl, B3, by decide, by decide, fun pt H4 e0 e1 B4 k4 => ?_⟩
    have sp : Small pt := ⟨by omega, by omega⟩
    have k04 : But d H H4 := (((k1.trans k2).new np).trans k3).trans k4
    have eI6 : inV (.str z) [V.str "put", V.str "paint", V.str "tie", V.str "cut", V.str "add", V.str "spread"] = decide (z ∈ six) := inV_str z six
    have eI2 : inV (.str z) [V.str "most", V.str "top"] = decide (z ∈ two) := inV_str z two
    have eI3 : inV (.str z) [V.str "first", V.str "reach", V.str "least"] = decide (z ∈ three) := inV_str z three
    have eI8 : inV (.str z) [V.str "new", V.str "many", V.str "first", V.str "reach", V.str "kth", V.str "meet", V.str "size", V.str "least"] = decide (z ∈ eight) := inV_str z eight
    refine ⟨_, rfl, (by show 6 ≤ sizeLine; decide), fun p6 m6 => ⟨p6, _, rfl, .inr (SqT.of upd_same), rfl, flat_strs six, _, rfl, ite2 (fun e => ?_) (fun e => ?_)⟩⟩
    · have hm : z ∈ six := of_decide_eq_true (eI6.symm.trans e)
      refine ⟨(by show 2 ≤ sizeLine; decide), fun t nt => ?_⟩
      exact q t .non "done" _ upd_same (tell_str .non (if_pos (six_dws z hm))) ((B4.new m6).new nt) ((k04.new m6).new nt)
    have B5 := B4.new (o := .tup [V.str "put", V.str "paint", V.str "tie", V.str "cut", V.str "add", V.str "spread"]) m6
    have k05 := k04.new (o := .tup [V.str "put", V.str "paint", V.str "tie", V.str "cut", V.str "add", V.str "spread"]) m6
    generalize upd H4 p6 (.tup [V.str "put", V.str "paint", V.str "tie", V.str "cut", V.str "add", V.str "spread"]) = H5 at B5 k05 ⊢
    refine ⟨_, rfl, rfl, _, rfl, ite2 (fun e => ?_) (fun e => ?_)⟩
    · refine ⟨(by show 2 ≤ sizeLine; decide), fun t1 n1 => ⟨(by show 2 ≤ sizeLine; decide), fun t2 n2 => ⟨(by show 2 ≤ sizeLine; decide), fun l nl => ?_⟩⟩⟩
      have s1 := same_new (o := .tup [V.bl false, V.str "no"]) n1
      have s2 := same_new (o := .tup [V.bl true, V.str "yes"]) n2
      have s3 := same_new (o := .lst [V.ref t1, V.ref t2]) nl
      refine ⟨_, rfl, _, _, rfl, rfl, (by show (0 : Int) < 2; decide), ?_⟩
      have hc : pt % 2 = 0 ∨ pt % 2 = 1 := by omega
      rcases hc with h | h
      · refine ⟨l, _, _, _, rfl, rfl, SqL.of upd_same, (by rw [h]; rfl), ?_⟩
        exact q t1 (.bl false) "no" _ (s3 _ _ (s2 _ _ upd_same)) (.bl false) (((B5.new n1).new n2).new nl) (((k05.new n1).new n2).new nl)
      · refine ⟨l, _, _, _, rfl, rfl, SqL.of upd_same, (by rw [h]; rfl), ?_⟩
        exact q t2 (.bl true) "yes" _ (s3 _ _ upd_same) (.bl true) (((B5.new n1).new n2).new nl) (((k05.new n1).new n2).new nl)
    refine ⟨_, rfl, rfl, _, rfl, ite2 (fun e => ?_) (fun e => ?_)⟩
    · have ez : z = "way" := V.str.inj (of_decide_eq_true e)
      have hz : ¬ z ∈ two := by
        rw [ez]
        decide +kernel
      refine ⟨_, rfl, d, c, 4, 99, rfl, B5, by decide, by decide, by decide, by decide, fun x H6 x0 xh B6 k6 => ⟨_, _, rfl, rfl, _, rfl, by omega, by omega, fun D nD => ?_⟩⟩
      have nDd : D ≠ d := B6.ne nD
      have nDc : D ≠ c := B6.neL nD
      refine lc_range (lo := 0) (n := (1 + x).toNat) (fun i H7 => DrAt H7 d c ∧ ∃ ns : List Int, H7 D = some (.lst (ns.map V.int)) ∧ ns.length = i ∧ (∀ n ∈ ns, Small n) ∧ But d H6 H7) ⟨B6.new nD, [], upd_same, rfl, (fun n z => nomatch z), But.refl.new nD⟩ ?_ ?_
      · rintro i H7 hi ⟨B7, ns, hD, nl, sm, k7⟩
        refine ⟨rfl, yes_ite ⟨_, rfl, d, c, 100, rfl, B7, by decide, by decide, fun y H8 y0 y1 B8 k8 => ?_⟩⟩
        refine ⟨_, k8 _ _ hD nDd, szl (by rw [List.length_map]; omega), B8.put nDd nDc, ns ++ [y], ?_, ?_, ?_, ?_⟩
        · rw [upd_same, List.map_append]
          rfl
        · rw [List.length_append, nl]
          rfl
        · intro n m
          rcases List.mem_append.mp m with m | m
          · exact sm n m
          · rw [List.mem_singleton.mp m]
            exact ⟨by omega, by omega⟩
        · intro a o e ne
          rw [upd_ne (ne_of_none e nD)]
          exact k8 _ _ (k7 _ _ e ne) ne
      · rintro H7 ⟨B7, ns, hD, nl, sm, k7⟩
        have nl2 : ns.length ≤ 200 := by omega
        refine ⟨_, rfl, D, _, rfl, .inl ⟨SqL.of hD, fun a1 n1 => ?_⟩⟩
        have s1 := same_new (o := .tup (ns.map V.int)) n1
        refine ⟨⟨_, rfl⟩, _, rfl, D, rfl, ⟨_, SqL.of (s1 _ _ hD)⟩, fun D2 nD2 => ?_⟩
        refine lc_list (xs := ns.map V.int) (fun i H8 => H8 D2 = some (.lst ((ns.take i).map fun n => V.str (txt n))) ∧ Same (upd H7 a1 (.tup (ns.map V.int))) H8) ⟨upd_same, same_new nD2⟩ (fun i H8 _ y => SqL.of (y.2 _ _ (s1 _ _ hD))) ?_ ?_
        · rintro i x H8 hx ⟨hD8, s8⟩
          obtain ⟨n, hn, ex⟩ : ∃ n, ns[i]? = some n ∧ x = .int n := by
            rw [List.getElem?_map] at hx
            cases en : ns[i]? with
            | none =>
              rw [en] at hx
              cases hx
            | some n =>
              rw [en] at hx
              exact ⟨n, rfl, (Option.some.inj hx).symm⟩
          subst ex
          have hi := (List.getElem?_eq_some_iff.mp hn).1
          have sn := sm n (List.mem_of_getElem? hn)
          refine ⟨rfl, yes_ite ⟨_, rfl, _, rfl, log_ok sn.1 sn.2, _, hD8, szl ?_, ?_, ?_⟩⟩
          · rw [List.length_map, List.length_take]
            omega
          · rw [upd_same, List.take_succ, hn, List.map_append]
            rfl
          · intro a o e
            rw [upd_ne (ne_of_none e nD2)]
            exact s8 _ _ e
        · rintro H8 ⟨hD8, s8⟩
          rw [List.length_map, List.take_length] at hD8
          have em : (ns.map fun n => V.str (txt n)) = (ns.map txt).map V.str := by
            rw [List.map_map]
            rfl
          rw [em] at hD8
          refine ⟨_, D2, ns.map txt, rfl, rfl, .inl (SqL.of hD8), ?_, (by show 2 ≤ sizeLine; decide), fun t nt => ?_⟩
          · have y := sum_len (m := 41) (ys := ns.map txt) fun y hy => by
              obtain ⟨n, hn, rfl⟩ := List.mem_map.mp hy
              exact txt_len (sm n hn).1 (sm n hn).2
            rw [List.length_map] at y
            rw [List.length_map, show (" " : Str).length = 1 from rfl]
            omega
          · have s9 := same_new (o := .tup [.ref a1, .str (Txt.join " " (ns.map txt))]) nt
            refine q t (.ref a1) _ _ upd_same (.row (SqT.of (s9 _ _ (s8 _ _ upd_same))) hz nl2 sm) (B7.same ((s1.trans s8).trans s9)) (((k05.trans k6).trans k7).same ((s1.trans s8).trans s9))
    refine ⟨_, rfl, (by show 2 ≤ sizeLine; decide), fun p7 m7 => ⟨p7, _, rfl, .inr (SqT.of upd_same), rfl, flat_strs two, _, rfl, ite2 (fun e => ?_) (fun e => ?_)⟩⟩
    · have hm : z ∈ two := of_decide_eq_true (eI2.symm.trans e)
      have l1 := txt_len sv.1 sv.2
      have l2 := txt_len sp.1 sp.2
      refine ⟨_, rfl, _, rfl, (by show 2 ≤ sizeLine; decide), fun t1 n1 => ⟨_, rfl, _, rfl, log_ok sv.1 sv.2, _, _, rfl, rfl, ?_, _, rfl, _, rfl, log_ok sp.1 sp.2, _, _, rfl, rfl, ?_, (by show 2 ≤ sizeLine; decide), fun t nt => ?_⟩⟩
      · exact sz (by show (txt v).length + 4 ≤ _; omega)
      · refine sz ?_
        show (txt v ++ (" at " : Str)).length + (txt pt).length ≤ _
        rw [add_len, show (" at " : Str).length = 4 from rfl]
        omega
      · refine q t (.ref t1) _ _ upd_same (tell_str (.pair (n := v) (m := pt) (SqT.of (same_new nt _ _ upd_same)) hm sv sp) (at_join _ _).symm) (((B5.new m7).new n1).new nt) (((k05.new m7).new n1).new nt)
    have hz : ¬ z ∈ two := fun m => e (eI2.trans (decide_eq_true m))
    refine ⟨fun b H8 => DrAt H8 d c ∧ But d H H8 ∧ (b = true → z ∈ three), ?_, ?_⟩
    · refine ⟨_, rfl, (by show 3 ≤ sizeLine; decide), fun p8 m8 => ⟨p8, _, rfl, .inr (SqT.of upd_same), rfl, flat_strs three, _, rfl, ite2 (fun e => ?_) (fun e => ?_)⟩⟩
      · have hm : z ∈ three := of_decide_eq_true (eI3.symm.trans e)
        exact ⟨_, rfl, d, c, 3, rfl, (B5.new m7).new m8, by decide, by decide, fun y H8 _ _ B8 k8 => ⟨rfl, _, rfl, B8, ((k05.new m7).new m8).trans k8, fun _ => hm⟩⟩
      · exact ⟨(B5.new m7).new m8, (k05.new m7).new m8, fun y => nomatch y⟩
    · rintro b H8 ⟨B8, k8, hb⟩
      refine ite2 (fun e => ?_) (fun _ => ?_)
      · refine ⟨(by show 2 ≤ sizeLine; decide), fun t nt => ?_⟩
        exact q t .non "none" _ upd_same (tell_str .non (if_neg (three_dws z (hb e)))) (B8.new nt) (k8.new nt)
      refine ⟨_, rfl, (by show 8 ≤ sizeLine; decide), fun p9 m9 => ⟨p9, _, rfl, .inr (SqT.of upd_same), rfl, flat_strs eight, _, rfl, ite2 (fun e => ?_) (fun e => ?_)⟩⟩
      · have hm : z ∈ eight := of_decide_eq_true (eI8.symm.trans e)
        refine ⟨_, rfl, _, rfl, _, rfl, log_ok sp.1 sp.2, (by show 2 ≤ sizeLine; decide), fun t nt => ?_⟩
        exact q t (.int pt) _ _ upd_same (.int (eight_two z hm) sp) ((B8.new m9).new nt) ((k8.new m9).new nt)
      · refine ⟨_, rfl, _, rfl, _, rfl, log_ok sv.1 sv.2, (by show 2 ≤ sizeLine; decide), fun t nt => ?_⟩
        exact q t (.int v) _ _ upd_same (.int hz sv) ((B8.new m9).new nt) ((k8.new m9).new nt)
end

end My
namespace My
open PySem L2
/-! ### the law -/
theorem Tell.same {K : PySem.W.Frag} {H H' : Hp} {z : Str} {v : V} {due : Str} (h : Tell K H z v due) (s : Same H H') : Tell K H' z v due := by
  cases h with
  | non => exact .non
  | bl b => exact .bl b
  | pair h1 h2 h3 h4 => exact .pair (sqT h1 s) h2 h3 h4
  | row h1 h2 h3 h4 => exact .row (sqT h1 s) h2 h3 h4
  | int h1 h2 => exact .int h1 h2
section
variable {P : Program} {w : World} {K : PySem.W.Frag} {mg : Str → Option Value} {base : Heap}
theorem ok_law (T : Top K mg) : FnOk P w K mg base CX0 5 T.a_law T.d_law ["_law_script"] (spLaw K) := by
  have G_Lbegin : FnOk P w K mg base CX0 1 _ _ _ _ := ok_begin T
  have G_Lanyrow : FnOk P w K mg base CX0 2 _ _ _ _ := ok_anyrow T
  have G_Lpair : FnOk P w K mg base CX0 3 _ _ _ _ := ok_tpair T
  have G_showtold : FnOk P w K mg base CX0 4 _ _ _ _ := ok_showtold T
  refine T.F_law.ok sc_law (fun vs H Q E h => ?_) (fun cdv A outer s H vs Q E hr h => ?_)
  · obtain ⟨a, ns, rfl, _⟩ := h
    rfl
  · obtain ⟨a, ns, rfl, hS, hlen, hbits, q⟩ := h
    refine ⟨_, (pss_cons (ps_set (i := 1) sc_law.nd rfl (.inl rfl) (pe_call G_Lbegin (hr.mono (by decide)) (by rfl) T.g_Lbegin T.F_Lbegin.kp T.b_Lbegin .nil pass0 (pa_cons (pv 0) pa_nil)))
      (pss_cons (ps_for PassesOwn.never rfl (pi_range1 (by rfl) T.m_range (pa_cons (pe_op op_add pe_int (pe_op op_mul pe_int (pe_callB call_len_seq (by rfl) T.m_len PySem.boot_len (pa_cons (pe_slice sl_list (pv 0) po_none (po_some pe_int)) pa_nil)))) pa_nil)) (pg_name (i := 2) sc_law.nd rfl (.inl rfl)) (pss_cons (ps_set (i := 3) sc_law.nd rfl (.inl rfl) (pe_call G_Lanyrow (hr.mono (by decide)) (by rfl) T.g_Lanyrow T.F_Lanyrow.kp T.b_Lanyrow .nil pass0 (pa_cons (pv 1) pa_nil)))
      (pss_cons (ps_asg (pe_call G_Lpair (hr.mono (by decide)) (by rfl) T.g_Lpair T.F_Lpair.kp T.b_Lpair .nil pass0 (pa_cons (pv 1) (pa_cons (pe_ix ix_tup (pv 3) pe_int (fun _ _ => rfl)) pa_nil))) (pg_tup rfl (pgs_cons (pg_name (i := 4) sc_law.nd rfl (.inl rfl)) (pgs_cons (pg_name (i := 5) sc_law.nd rfl (.inl rfl)) pgs_nil))))
      (pss_one (ps_for PassesOwn.never rfl (pi_range1 (by rfl) T.m_range (pa_cons pe_int pa_nil)) (pg_name (i := 6) sc_law.nd rfl (.inl rfl)) (pss_cons (ps_set (i := 7) sc_law.nd rfl (.inl rfl) (pe_call G_showtold hr (by rfl) T.g_showtold T.F_showtold.kp T.b_showtold .nil pass0 (pa_cons (pv 3) (pa_cons (pv 4) pa_nil))))
      (pss_one (ps_if (PW.pt (pw_or (pt_not (pt_val (pe_callB call_isi (by rfl) T.m_isinstance (by decide +kernel) (pa_cons (pv 7) (pa_cons (pe_bltn (v := .ty "str") (by rfl) T.m_str (by decide +kernel) rfl) pa_nil))))) (pw_or1 (pt_cmpR op_ne (pv 7) (pv 5) (nomark _))))) (pss_one (ps_ret pe_bl)) pss_nil))))))))
      (pss_one (ps_ret (pe_and (pe_cmpR op_eq (pe_call G_showtold hr (by rfl) T.g_showtold T.F_showtold.kp T.b_showtold .nil pass0 (pa_cons (pe_tup (pa_cons pe_str (pa_cons pe_int (pa_cons pe_int pa_nil)))) (pa_cons (pe_tup (pa_cons pe_int pa_nil)) pa_nil))) pe_str (nomark _)) (pe_one (pe_cmpR op_eq (pe_call G_showtold hr (by rfl) T.g_showtold T.F_showtold.kp T.b_showtold .nil pass0 (pa_cons (pe_tup (pa_cons pe_str (pa_cons pe_int (pa_cons pe_int pa_nil)))) (pa_cons pe_int pa_nil))) pe_str (nomark _)))))))), ?_⟩
    refine ⟨_, rfl, a, ns, rfl, hS, fun d c ms H1 s1 nd D1 => ?_⟩
    refine ⟨_, rfl, 20, rfl, a, _, rfl, s1.seq hS, fun p np => ⟨p, _, rfl, .inl (SqL.of upd_same), _, _, rfl, rfl, .inl ⟨by decide, by decide⟩, _, _, rfl, rfl, _, rfl, by omega, ?_, ?_⟩⟩
    · have z := cutV_length (ns.map V.int) none (some 20)
      rw [List.length_map] at z
      omega
    · have B1 : DrAt H1 d c := ⟨ms, D1⟩
      refine for_range (lo := 0) (n := _) (fun i σ H2 => ∃ y2 y3 y4 y5 y6 y7, σ = [some (.ref a), some (.ref d), y2, y3, y4, y5, y6, y7] ∧ DrAt H2 d c) ⟨none, none, none, none, none, none, rfl, B1.new np⟩ ?_ ?_
      · rintro i σ H2 hi ⟨y2, y3, y4, y5, y6, y7, rfl, B2⟩
        refine ⟨_, rfl, d, c, rfl, B2, fun r z xs H3 hz hr3 B3 k3 => ?_⟩
        have nrd : r ≠ d := by
          obtain ⟨kvs, hd⟩ := B3.dk
          exact ne_of hr3 hd (by intro z; cases z)
        refine ⟨_, rfl, _, rfl, r, _, _, _, rfl, rfl, SqT.of hr3, atI_nat (j := 0) rfl, d, c, z, rfl, B3, fun t v due H4 ht tell B4 k4 => ?_⟩
        have hr4 := k4 _ _ hr3 nrd
        refine ⟨t, _, rfl, SqT.of ht, rfl, _, _, rfl, _, _, rfl, rfl, ?_⟩
        refine ⟨2, rfl, by decide, by decide, for_range (lo := 0) (n := 2) (fun i σ H5 => ∃ z2 z6 z7, σ = [some (.ref a), some (.ref d), z2, some (.ref r), some v, some (.str due), z6, z7] ∧ Same H4 H5) ⟨_, _, _, rfl, Same.refl H4⟩ ?_ ?_⟩
        · rintro i σ H5 hi ⟨z2, z6, z7, rfl, s5⟩
          refine ⟨_, rfl, _, rfl, r, z, xs, v, due, rfl, SqT.of (s5 _ _ hr4), tell.same s5, fun H6 s6 => ?_⟩
          refine ⟨_, rfl, _, _, _, _, true, rfl, ClsV.ty _, .base (.str _), kit_ty (by decide +kernel), true, rfl, iteF ?_⟩
          refine ⟨_, rfl, _, rfl, rfl, _, rfl, iteNS rfl ?_⟩
          exact ⟨_, _, _, rfl, s5.trans s6⟩
        · rintro σ H5 ⟨z2, z6, z7, rfl, s5⟩
          exact ⟨_, _, _, _, _, _, rfl, B4.same s5⟩
      · rintro σ H2 ⟨y2, y3, y4, y5, y6, y7, rfl, B2⟩
        refine ⟨(by show 3 ≤ sizeLine; decide), fun t1 n1 => ⟨(by show 1 ≤ sizeLine; decide), fun t2 n2 => ?_⟩⟩
        have s2 := same_new (o := .tup [.int 4]) n2
        refine ⟨t1, "way", [.int 4, .int 4], .ref t2, _, rfl, SqT.of (s2 _ _ upd_same), .row (ns := [4]) (SqT.of upd_same) (by decide +kernel) (by decide) (fun n m => by rw [List.mem_singleton.mp m]; exact ⟨by decide, by decide⟩), fun H6 s6 => ?_⟩
        have e1 : Txt.join " " ([(4 : Int)].map txt) = "4" := by decide +kernel
        have e2 : txt 1 = "1" := by decide +kernel
        rw [e1]
        refine ⟨rfl, _, rfl, iteT ?_⟩
        refine ⟨(by show 3 ≤ sizeLine; decide), fun t3 n3 => ?_⟩
        refine ⟨t3, "many", [.int 0, .int 0], .int 1, _, rfl, SqT.of upd_same, .int (by decide +kernel) ⟨by decide, by decide⟩, fun H7 s7 => ?_⟩
        rw [e2]
        exact ⟨rfl, q _⟩
end

end My
namespace My
open PySem L2
theorem all_mk {l : PySem.W.OpenLaw} {w : World} {K : PySem.W.Frag} {h : Heap} {mg : Str → Option Value} {fa f0 f1 f2 f3 f4 f5 f6 f7 f8 f9 f10 f11 f12 : Addr} {fD : Addr} (X : K.In h) (G : h.Ns mainGlobals mg) (hfa : mg "law" = some (.ref fa))
    {od0 an0 od1 an1 od2 an2 od3 an3 od4 an4 od5 an5 od6 an6 od7 an7 od8 an8 od9 an9 od10 an10 od11 an11 od12 an12 : Option Addr} {sl0 sl1 sl2 sl3 sl4 sl5 sl6 sl7 sl8 sl9 sl10 sl11 sl12 : Array (Option Value)} {oc0 kV0 dc0 pm0 cd0 ct0 oc1 kV1 dc1 pm1 cd1 ct1 oc2 kV2 dc2 pm2 cd2 ct2 oc3 kV3 dc3 pm3 cd3 ct3 oc4 kV4 dc4 pm4 cd4 ct4 oc5 kV5 dc5 pm5 cd5 ct5 oc6 kV6 dc6 pm6 cd6 ct6 oc7 kV7 dc7 pm7 cd7 ct7 oc8 kV8 dc8 pm8 cd8 ct8 oc9 kV9 dc9 pm9 cd9 ct9 oc10 kV10 dc10 pm10 cd10 ct10 oc11 kV11 dc11 pm11 cd11 ct11 oc12 kV12 dc12 pm12 cd12 ct12 : Value}
    (a0 : PySem.W.nsIn K mainGlobals "is_deed" = some (some (.ref f0))) (l0 : K.lookup f0 = some ⟨oc0, od0, .func (PySem.W.fnOf "is_deed" "is_deed" (defArgs s_isdeed) (defBody s_isdeed) (defScope s_isdeed) .none kV0 dc0 pm0 an0 cd0 ct0), sl0⟩) (c0 : PySem.W.codeIn K cd0 "is_deed" = true) (k0 : PySem.W.keepIn K (.ref f0) = true)
    (a1 : PySem.W.nsIn K mainGlobals "show_words" = some (some (.ref f1))) (l1 : K.lookup f1 = some ⟨oc1, od1, .func (PySem.W.fnOf "show_words" "show_words" (defArgs s_showwords) (defBody s_showwords) (defScope s_showwords) .none kV1 dc1 pm1 an1 cd1 ct1), sl1⟩) (c1 : PySem.W.codeIn K cd1 "show_words" = true) (k1 : PySem.W.keepIn K (.ref f1) = true)
    (a2 : PySem.W.nsIn K mainGlobals "show_word" = some (some (.ref f2))) (l2 : K.lookup f2 = some ⟨oc2, od2, .func (PySem.W.fnOf "show_word" "show_word" (defArgs s_showword) (defBody s_showword) (defScope s_showword) .none kV2 dc2 pm2 an2 cd2 ct2), sl2⟩) (c2 : PySem.W.codeIn K cd2 "show_word" = true) (k2 : PySem.W.keepIn K (.ref f2) = true)
    (a3 : PySem.W.nsIn K mainGlobals "show_number" = some (some (.ref f3))) (l3 : K.lookup f3 = some ⟨oc3, od3, .func (PySem.W.fnOf "show_number" "show_number" (defArgs s_shownumber) (defBody s_shownumber) (defScope s_shownumber) .none kV3 dc3 pm3 an3 cd3 ct3), sl3⟩) (c3 : PySem.W.codeIn K cd3 "show_number" = true) (k3 : PySem.W.keepIn K (.ref f3) = true)
    (a4 : PySem.W.nsIn K mainGlobals "show_told" = some (some (.ref f4))) (l4 : K.lookup f4 = some ⟨oc4, od4, .func (PySem.W.fnOf "show_told" "show_told" (defArgs s_showtold) (defBody s_showtold) (defScope s_showtold) .none kV4 dc4 pm4 an4 cd4 ct4), sl4⟩) (c4 : PySem.W.codeIn K cd4 "show_told" = true) (k4 : PySem.W.keepIn K (.ref f4) = true)
    (a5 : PySem.W.nsIn K mainGlobals "show_truth" = some (some (.ref f5))) (l5 : K.lookup f5 = some ⟨oc5, od5, .func (PySem.W.fnOf "show_truth" "show_truth" (defArgs s_showtruth) (defBody s_showtruth) (defScope s_showtruth) .none kV5 dc5 pm5 an5 cd5 ct5), sl5⟩) (c5 : PySem.W.codeIn K cd5 "show_truth" = true) (k5 : PySem.W.keepIn K (.ref f5) = true)
    (a6 : PySem.W.nsIn K mainGlobals "_law_begin" = some (some (.ref f6))) (l6 : K.lookup f6 = some ⟨oc6, od6, .func (PySem.W.fnOf "_law_begin" "_law_begin" (defArgs s_Lbegin) (defBody s_Lbegin) (defScope s_Lbegin) .none kV6 dc6 pm6 an6 cd6 ct6), sl6⟩) (c6 : PySem.W.codeIn K cd6 "_law_begin" = true) (k6 : PySem.W.keepIn K (.ref f6) = true)
    (a7 : PySem.W.nsIn K mainGlobals "_law_next" = some (some (.ref f7))) (l7 : K.lookup f7 = some ⟨oc7, od7, .func (PySem.W.fnOf "_law_next" "_law_next" (defArgs s_Lnext) (defBody s_Lnext) (defScope s_Lnext) .none kV7 dc7 pm7 an7 cd7 ct7), sl7⟩) (c7 : PySem.W.codeIn K cd7 "_law_next" = true) (k7 : PySem.W.keepIn K (.ref f7) = true)
    (a8 : PySem.W.nsIn K mainGlobals "_law_many" = some (some (.ref f8))) (l8 : K.lookup f8 = some ⟨oc8, od8, .func (PySem.W.fnOf "_law_many" "_law_many" (defArgs s_Lmany) (defBody s_Lmany) (defScope s_Lmany) .none kV8 dc8 pm8 an8 cd8 ct8), sl8⟩) (c8 : PySem.W.codeIn K cd8 "_law_many" = true) (k8 : PySem.W.keepIn K (.ref f8) = true)
    (a9 : PySem.W.nsIn K mainGlobals "_law_signs" = some (some (.ref f9))) (l9 : K.lookup f9 = some ⟨oc9, od9, .func (PySem.W.fnOf "_law_signs" "_law_signs" (defArgs s_Lsigns) (defBody s_Lsigns) (defScope s_Lsigns) .none kV9 dc9 pm9 an9 cd9 ct9), sl9⟩) (c9 : PySem.W.codeIn K cd9 "_law_signs" = true) (k9 : PySem.W.keepIn K (.ref f9) = true)
    (a10 : PySem.W.nsIn K mainGlobals "_law_any_row" = some (some (.ref f10))) (l10 : K.lookup f10 = some ⟨oc10, od10, .func (PySem.W.fnOf "_law_any_row" "_law_any_row" (defArgs s_Lanyrow) (defBody s_Lanyrow) (defScope s_Lanyrow) .none kV10 dc10 pm10 an10 cd10 ct10), sl10⟩) (c10 : PySem.W.codeIn K cd10 "_law_any_row" = true) (k10 : PySem.W.keepIn K (.ref f10) = true)
    (a11 : PySem.W.nsIn K mainGlobals "_law_pair" = some (some (.ref f11))) (l11 : K.lookup f11 = some ⟨oc11, od11, .func (PySem.W.fnOf "_law_pair" "_law_pair" (defArgs s_Lpair) (defBody s_Lpair) (defScope s_Lpair) .none kV11 dc11 pm11 an11 cd11 ct11), sl11⟩) (c11 : PySem.W.codeIn K cd11 "_law_pair" = true) (k11 : PySem.W.keepIn K (.ref f11) = true)
    (a12 : PySem.W.nsIn K mainGlobals "law" = some (some (.ref f12))) (l12 : K.lookup f12 = some ⟨oc12, od12, .func (PySem.W.fnOf "law" "law" (defArgs s_law) (defBody s_law) (defScope s_law) .none kV12 dc12 pm12 an12 cd12 ct12), sl12⟩) (c12 : PySem.W.codeIn K cd12 "law" = true) (k12 : PySem.W.keepIn K (.ref f12) = true)
    (z0 : PySem.W.nsIn K mainGlobals "abs" = some none)
    (z1 : PySem.W.nsIn K mainGlobals "bool" = some none)
    (z2 : PySem.W.nsIn K mainGlobals "int" = some none)
    (z3 : PySem.W.nsIn K mainGlobals "isinstance" = some none)
    (z4 : PySem.W.nsIn K mainGlobals "len" = some none)
    (z5 : PySem.W.nsIn K mainGlobals "list" = some none)
    (z6 : PySem.W.nsIn K mainGlobals "range" = some none)
    (z7 : PySem.W.nsIn K mainGlobals "reversed" = some none)
    (z8 : PySem.W.nsIn K mainGlobals "sorted" = some none)
    (z9 : PySem.W.nsIn K mainGlobals "str" = some none)
    (z10 : PySem.W.nsIn K mainGlobals "tuple" = some none)
    (qD : PySem.W.nsIn K mainGlobals "DEED_WORDS" = some (some (.ref fD)))
    (hD : tupB K fD dws = true)
    : ∃ fd : FuncData, (∀ (s : Shared) (v : Value), BindsTo s fd ⟨[v], []⟩ [("_law_script", v)]) ∧ ∀ base : Heap, K.In base → base.Ns mainGlobals mg → FnOk l.prog w K mg base CX0 5 fa fd ["_law_script"] (spLaw K) := by
  have e := hfa.symm.trans (PySem.W.mg_of X G a12)
  cases e
  have F0 := fun_mk (st := s_isdeed) l0 c0 k0
  have b0 := F0.binds (ps := ["row"]) fun _ _ _ _ _ _ us hl => match us, hl with | [_], _ => rfl
  have F1 := fun_mk (st := s_showwords) l1 c1 k1
  have b1 := F1.binds (ps := ["parts"]) fun _ _ _ _ _ _ us hl => match us, hl with | [_], _ => rfl
  have F2 := fun_mk (st := s_showword) l2 c2 k2
  have b2 := F2.binds (ps := ["part"]) fun _ _ _ _ _ _ us hl => match us, hl with | [_], _ => rfl
  have F3 := fun_mk (st := s_shownumber) l3 c3 k3
  have b3 := F3.binds (ps := ["number"]) fun _ _ _ _ _ _ us hl => match us, hl with | [_], _ => rfl
  have F4 := fun_mk (st := s_showtold) l4 c4 k4
  have b4 := F4.binds (ps := ["row", "told"]) fun _ _ _ _ _ _ us hl => match us, hl with | [_, _], _ => rfl
  have F5 := fun_mk (st := s_showtruth) l5 c5 k5
  have b5 := F5.binds (ps := ["truth"]) fun _ _ _ _ _ _ us hl => match us, hl with | [_], _ => rfl
  have F6 := fun_mk (st := s_Lbegin) l6 c6 k6
  have b6 := F6.binds (ps := ["_law_script"]) fun _ _ _ _ _ _ us hl => match us, hl with | [_], _ => rfl
  have F7 := fun_mk (st := s_Lnext) l7 c7 k7
  have b7 := F7.binds (ps := ["_law_draws", "_law_many_here"]) fun _ _ _ _ _ _ us hl => match us, hl with | [_, _], _ => rfl
  have F8 := fun_mk (st := s_Lmany) l8 c8 k8
  have b8 := F8.binds (ps := ["_law_draws", "_law_few", "_law_most"]) fun _ _ _ _ _ _ us hl => match us, hl with | [_, _, _], _ => rfl
  have F9 := fun_mk (st := s_Lsigns) l9 c9 k9
  have b9 := F9.binds (ps := []) fun _ _ _ _ _ _ us hl => match us, hl with | [], _ => rfl
  have F10 := fun_mk (st := s_Lanyrow) l10 c10 k10
  have b10 := F10.binds (ps := ["_law_draws"]) fun _ _ _ _ _ _ us hl => match us, hl with | [_], _ => rfl
  have F11 := fun_mk (st := s_Lpair) l11 c11 k11
  have b11 := F11.binds (ps := ["_law_draws", "_law_word"]) fun _ _ _ _ _ _ us hl => match us, hl with | [_, _], _ => rfl
  have F12 := fun_mk (st := s_law) l12 c12 k12
  have b12 := F12.binds (ps := ["_law_script"]) fun _ _ _ _ _ _ us hl => match us, hl with | [_], _ => rfl
  let T : Top K mg := ⟨_, _, F0, b0, PySem.W.mg_of X G a0, _, _, F1, b1, PySem.W.mg_of X G a1, _, _, F2, b2, PySem.W.mg_of X G a2, _, _, F3, b3, PySem.W.mg_of X G a3, _, _, F4, b4, PySem.W.mg_of X G a4, _, _, F5, b5, PySem.W.mg_of X G a5, _, _, F6, b6, PySem.W.mg_of X G a6, _, _, F7, b7, PySem.W.mg_of X G a7, _, _, F8, b8, PySem.W.mg_of X G a8, _, _, F9, b9, PySem.W.mg_of X G a9, _, _, F10, b10, PySem.W.mg_of X G a10, _, _, F11, b11, PySem.W.mg_of X G a11, _, _, F12, b12, PySem.W.mg_of X G a12, PySem.W.mg_none_of X G z0, PySem.W.mg_none_of X G z1, PySem.W.mg_none_of X G z2, PySem.W.mg_none_of X G z3, PySem.W.mg_none_of X G z4, PySem.W.mg_none_of X G z5, PySem.W.mg_none_of X G z6, PySem.W.mg_none_of X G z7, PySem.W.mg_none_of X G z8, PySem.W.mg_none_of X G z9, PySem.W.mg_none_of X G z10, _, PySem.W.mg_of X G qD, hD⟩
  exact ⟨_, fun s v => .of_eq rfl, fun base _ _ => ok_law (P := l.prog) (w := w) (base := base) T⟩
end My
open PySem PySem.W PyProof.Rows
set_option maxRecDepth 100000 in
set_option maxHeartbeats 0 in
theorem PySem.Challenge.cw_tiedcut_k84_told_written_holds : PySem.Challenge.rw_tiedcut_k84_told_written.Holds := by
  w_on; o_law; k_head; (case hw => w_witness2)
  k_fill
  refine L2.walk_ofB (l := PySem.Challenge.rw_tiedcut_k84_told_written) (n := 63) (k := 5) (x := "_law_script") (CX := fun _ => L2.CX0) (sp := fun w => My.spLaw _) rfl (by decide) rfl ⟨rfl, by decide, by decide⟩ (fun w h Y => by first | exact PySem.W.kIn_of Y | exact PySem.W.km_in_of Y) ?F (fun _ _ a ns hl hb _ hS => ⟨a, ns, rfl, hS, hl, hb, fun _ => rfl⟩) (fun _ _ _ _ _ h => h)
  case F =>
    intro w mg fa h KX G hmg
    refine' My.all_mk KX G hmg ?a0 ?l0 ?c0 ?k0 ?a1 ?l1 ?c1 ?k1 ?a2 ?l2 ?c2 ?k2 ?a3 ?l3 ?c3 ?k3 ?a4 ?l4 ?c4 ?k4 ?a5 ?l5 ?c5 ?k5 ?a6 ?l6 ?c6 ?k6 ?a7 ?l7 ?c7 ?k7 ?a8 ?l8 ?c8 ?k8 ?a9 ?l9 ?c9 ?k9 ?a10 ?l10 ?c10 ?k10 ?a11 ?l11 ?c11 ?k11 ?a12 ?l12 ?c12 ?k12 ?z0 ?z1 ?z2 ?z3 ?z4 ?z5 ?z6 ?z7 ?z8 ?z9 ?z10 ?qD ?hD
    (case a0 => k_is)
    (case l0 => k_is)
    (case c0 => k_is)
    (case k0 => k_is)
    (case a1 => k_is)
    (case l1 => k_is)
    (case c1 => k_is)
    (case k1 => k_is)
    (case a2 => k_is)
    (case l2 => k_is)
    (case c2 => k_is)
    (case k2 => k_is)
    (case a3 => k_is)
    (case l3 => k_is)
    (case c3 => k_is)
    (case k3 => k_is)
    (case a4 => k_is)
    (case l4 => k_is)
    (case c4 => k_is)
    (case k4 => k_is)
    (case a5 => k_is)
    (case l5 => k_is)
    (case c5 => k_is)
    (case k5 => k_is)
    (case a6 => k_is)
    (case l6 => k_is)
    (case c6 => k_is)
    (case k6 => k_is)
    (case a7 => k_is)
    (case l7 => k_is)
    (case c7 => k_is)
    (case k7 => k_is)
    (case a8 => k_is)
    (case l8 => k_is)
    (case c8 => k_is)
    (case k8 => k_is)
    (case a9 => k_is)
    (case l9 => k_is)
    (case c9 => k_is)
    (case k9 => k_is)
    (case a10 => k_is)
    (case l10 => k_is)
    (case c10 => k_is)
    (case k10 => k_is)
    (case a11 => k_is)
    (case l11 => k_is)
    (case c11 => k_is)
    (case k11 => k_is)
    (case a12 => k_is)
    (case l12 => k_is)
    (case c12 => k_is)
    (case k12 => k_is)
    (case z0 => k_is)
    (case z1 => k_is)
    (case z2 => k_is)
    (case z3 => k_is)
    (case z4 => k_is)
    (case z5 => k_is)
    (case z6 => k_is)
    (case z7 => k_is)
    (case z8 => k_is)
    (case z9 => k_is)
    (case z10 => k_is)
    (case qD => k_is)
    (case hD => kernel_rfl)
