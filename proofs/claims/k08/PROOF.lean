import PyProof.Rows.All
import Wide.All
import OpenK.AllK
import Wide.FinOn
import PyProof.DictRoadsH
import PyProof.DictMoreH
import PyProof.EqKinds
import PyProof.TupleKey
import PyProof.FactsAll.NoneType
import HandS.ForMost
import HandS.Evl
import HandS.Deep
import HandS.DeepEq
import HandS.DictComp
import HandS.FStr
import HandS.SetKeys
import HandS.IsInst
import HandS.DictTup
import HandS.RaiseMore
import HandS.Defaults
import HandS.Wide
import HandS.Flow
import HandS.Style
import HandS.Conv
import KE.KxField
import PyProof.Rows.SortShellAny
import HandS.Walk
import PyProof.Conv_bool
import KE.KFromBytes
import HandS.OwnIter
import HandS.IterNext
import HandS.IterVal
import PyProof.CollectIter
import HandS.ExcOwn
import OpenK.KOps
import HandS.Star
import HandS.MakeKwOnly
import KE.KExcSuper
import KE.KSuper
import KE.RegKSuper
import HandS.ExcSuper
import HandS.ExcInit
import HandS.Nested
import KE.KExcIs
import HandS.ExcField
import HandS.TryOnly
import HandS.TryMany
import HandS.ExcIs
import HandS.ExcCtx
import HandS.HotCalls
import HandS.WordsExc
import HandS.ExcInitHot
import HandS.Zip
import HandS.FStrTup
import PyProof.FitsInt
import HandS.MakeKw
import PySem.Challenge.RW_askshanded_k08_first_standings
import KE.KStateDown
import HandS.Head0
import HandS.Head1
import HandS.Head2
import HandS.HeadEnd
import HandS.HeadHook1
import HandS.HeadHook2
import PyProof.EqAt
import HandS.Iter
import HandS.TupAny
set_option Elab.async false
set_option linter.all false
set_option maxRecDepth 100000
/-! keys of dicts that are nested tuples of None, ints and texts -/
namespace PySem
open Sem (wp)
open SeqAt
inductive NK where
  | non | int (i : Int) | str (x : Str) | tup (ks : List NK)
mutual
def NK.decEq : (a b : NK) → Decidable (a = b)
  | .non, .non => Decidable.isTrue rfl
  | .non, .int _ => Decidable.isFalse (fun z => nomatch z)
  | .non, .str _ => Decidable.isFalse (fun z => nomatch z)
  | .non, .tup _ => Decidable.isFalse (fun z => nomatch z)
  | .int i, .int j => if h : i = j then Decidable.isTrue (by rw [h]) else Decidable.isFalse (fun z => h (NK.int.inj z))
  | .int _, .non => Decidable.isFalse (fun z => nomatch z)
  | .int _, .str _ => Decidable.isFalse (fun z => nomatch z)
  | .int _, .tup _ => Decidable.isFalse (fun z => nomatch z)
  | .str x, .str y => if h : x = y then Decidable.isTrue (by rw [h]) else Decidable.isFalse (fun z => h (NK.str.inj z))
  | .str _, .non => Decidable.isFalse (fun z => nomatch z)
  | .str _, .int _ => Decidable.isFalse (fun z => nomatch z)
  | .str _, .tup _ => Decidable.isFalse (fun z => nomatch z)
  | .tup xs, .tup ys => match NK.decEqs xs ys with
    | Decidable.isTrue h => Decidable.isTrue (by rw [h])
    | Decidable.isFalse h => Decidable.isFalse (fun z => h (NK.tup.inj z))
  | .tup _, .non => Decidable.isFalse (fun z => nomatch z)
  | .tup _, .int _ => Decidable.isFalse (fun z => nomatch z)
  | .tup _, .str _ => Decidable.isFalse (fun z => nomatch z)
def NK.decEqs : (a b : List NK) → Decidable (a = b)
  | [], [] => Decidable.isTrue rfl
  | [], _ :: _ => Decidable.isFalse (fun z => nomatch z)
  | _ :: _, [] => Decidable.isFalse (fun z => nomatch z)
  | x :: xs, y :: ys => match NK.decEq x y, NK.decEqs xs ys with
    | Decidable.isTrue h, Decidable.isTrue h' => Decidable.isTrue (by rw [h, h'])
    | Decidable.isFalse h, _ => Decidable.isFalse (fun z => h (List.cons.inj z).1)
    | _, Decidable.isFalse h => Decidable.isFalse (fun z => h (List.cons.inj z).2)
end
instance : DecidableEq NK := NK.decEq
mutual
def NK.depth : NK → Nat
  | .tup ks => NK.depths ks + 1
  | _ => 0
def NK.depths : List NK → Nat
  | [] => 0
  | k :: ks => max (NK.depth k) (NK.depths ks)
end
mutual
def NK.hash (w : World) : NK → Int
  | .non => 4238894112
  | .int i => hashInt i
  | .str x => hashStr w x
  | .tup ks => reduceHash (Builtin.Tuple.tupleHashOf (NK.hashes w ks))
def NK.hashes (w : World) : List NK → List Int
  | [] => []
  | k :: ks => NK.hash w k :: NK.hashes w ks
end
mutual
def NK.draws : NK → Nat
  | .tup ks => NK.drawss ks + 1
  | _ => 1
def NK.drawss : List NK → Nat
  | [] => 0
  | k :: ks => NK.draws k + NK.drawss ks
end
mutual
inductive IsNK (h : Heap) : NK → Value → Prop
  | non : IsNK h .non .none
  | int (i : Int) (t : Tok) : IsNK h (.int i) (.int i t)
  | str (x : Str) (t : Tok) : IsNK h (.str x) (.str x t)
  | tup {a : Addr} {vs : Array Value} {ks : List NK} : h.IsTuple a vs → IsNKs h ks vs.toList → IsNK h (.tup ks) (.ref a)
inductive IsNKs (h : Heap) : List NK → List Value → Prop
  | nil : IsNKs h [] []
  | cons {k : NK} {v : Value} {ks : List NK} {vs : List Value} : IsNK h k v → IsNKs h ks vs → IsNKs h (k :: ks) (v :: vs)
end
theorem IsNKs.len {h : Heap} : ∀ {ks : List NK} {vs : List Value}, IsNKs h ks vs → ks.length = vs.length
  | _, _, .nil => rfl
  | _, _, .cons _ t => by rw [List.length_cons, List.length_cons, t.len]
theorem istup_same {h : Heap} {a : Addr} {xs ys : Array Value} (x : h.IsTuple a xs) (y : h.IsTuple a ys) : xs = ys := by
  obtain ⟨o, ho, _, n, hd⟩ := x
  obtain ⟨o', ho', _, n', hd'⟩ := y
  obtain rfl : o = o' := Option.some.inj (ho.symm.trans ho')
  rw [hd] at hd'
  injection hd'
mutual
theorem IsNK.inj {h : Heap} : ∀ (x y : NK) (v : Value), IsNK h x v → IsNK h y v → x = y
  | .non, _, _, .non, r => by cases r; rfl
  | .int _, _, _, .int _ _, r => by cases r; rfl
  | .str _, _, _, .str _ _, r => by cases r; rfl
  | .tup ks, y, _, .tup ha hi, r => by
    cases r with
    | tup hb hj =>
      have e := istup_same ha hb
      subst e
      rw [IsNKs.inj ks _ _ hi hj]
theorem IsNKs.inj {h : Heap} : ∀ (xs ys : List NK) (vs : List Value), IsNKs h xs vs → IsNKs h ys vs → xs = ys
  | [], _, _, .nil, r => by cases r; rfl
  | x :: xs, _, _, .cons h1 h2, r => by
    cases r with
    | cons k1 k2 => rw [IsNK.inj x _ _ h1 k1, IsNKs.inj xs _ _ h2 k2]
end
theorem istup_keeps {h h' : Heap} {a d : Addr} {vs : Array Value} {o : Obj} {es ep} (x : h.IsTuple a vs) (ho : h.get? d = some o) (hd : o.data = .dict es ep) (hs : Heap.SameBut d h h') : h'.IsTuple a vs := by
  obtain ⟨o', ho', hc, n, hd'⟩ := x
  have hne : a ≠ d := by
    rintro rfl
    obtain rfl : o' = o := Option.some.inj (ho'.symm.trans ho)
    rw [hd] at hd'; exact nomatch hd'
  exact ⟨o', (hs.2 a hne).trans ho', hc, n, hd'⟩
mutual
theorem IsNK.keeps {h h' : Heap} {d : Addr} {o : Obj} {es ep} (ho : h.get? d = some o) (hd : o.data = .dict es ep) (hs : Heap.SameBut d h h') : ∀ (k : NK) (v : Value), IsNK h k v → IsNK h' k v
  | .non, _, .non => .non
  | .int _, _, .int i t => .int i t
  | .str _, _, .str x t => .str x t
  | .tup ks, _, .tup ha hi => .tup (istup_keeps ha ho hd hs) (IsNKs.keeps ho hd hs ks _ hi)
theorem IsNKs.keeps {h h' : Heap} {d : Addr} {o : Obj} {es ep} (ho : h.get? d = some o) (hd : o.data = .dict es ep) (hs : Heap.SameBut d h h') : ∀ (ks : List NK) (vs : List Value), IsNKs h ks vs → IsNKs h' ks vs
  | [], _, .nil => .nil
  | k :: ks, _, .cons a b => .cons (IsNK.keeps ho hd hs k _ a) (IsNKs.keeps ho hd hs ks _ b)
end
section
variable {prog : Program} {w : World}
/-! equality -/
def nkPair (xs ys : List NK) (j : Nat) : Bool := decide (xs.getD j .non = ys.getD j .non)
theorem nk_all : ∀ xs ys : List NK, ((List.range (min xs.length ys.length)).all (nkPair xs ys) && xs.length == ys.length) = decide (xs = ys)
  | [], [] => by simp
  | [], y :: ys => by simp
  | x :: xs, [] => by simp
  | x :: xs, y :: ys => by
    have ih := nk_all xs ys
    have e : (List.range (min (x :: xs).length (y :: ys).length)).all (nkPair (x :: xs) (y :: ys)) = (decide (x = y) && (List.range (min xs.length ys.length)).all (nkPair xs ys)) := by
      rw [show min (x :: xs).length (y :: ys).length = min xs.length ys.length + 1 by simp only [List.length_cons]; omega, List.range_succ_eq_map, List.all_cons, List.all_map]
      rfl
    rw [e]
    have e2 : ((x :: xs).length == (y :: ys).length) = (xs.length == ys.length) := by simp
    rw [e2, Bool.and_assoc, ih]
    by_cases h : x = y <;> by_cases h2 : xs = ys <;> simp [h, h2]
theorem nk_head {u x y : Nat} {xs ys : Nat} (hu : u + min (max x xs) (max y ys) < cLine) : u + min x y < cLine := by omega
theorem nk_tail {u x y : Nat} {xs ys : Nat} (hu : u + min (max x xs) (max y ys) < cLine) : u + min xs ys < cLine := by omega
mutual
theorem nk_eqAt : ∀ (x y : NK) (A : Around) (s : Shared) (a b : Value), IsNK s.heap x a → IsNK s.heap y b → A.units + min x.depth y.depth < cLine → EqAt A s a b (decide (x = y))
  | .non, y, A, s, _, _, ra, rb, hu => by
    cases ra
    cases rb with
    | non => rw [decide_eq_true rfl]; exact EqAt.same _
    | int i t => exact EqAt.none_int i t
    | str i t => exact EqAt.none_str i t
    | tup k1 k2 => exact EqAt.none_tuple k1 (by omega)
  | .int i, y, A, s, _, _, ra, rb, hu => by
    cases ra with
    | int _ t =>
      cases rb with
      | non => exact EqAt.int_none i t
      | int j u =>
        have e : decide ((NK.int i) = NK.int j) = (i == j) := by
          by_cases h : i = j
          · subst h; simp
          · rw [decide_eq_false (fun z => h (NK.int.inj z))]; exact (beq_eq_false_iff_ne.mpr h).symm
        rw [e]
        exact EqAt.int_int i t j u
      | str j u => exact EqAt.int_str i t j u
      | tup k1 k2 => exact EqAt.int_tuple i t k1 (by omega)
  | .str i, y, A, s, _, _, ra, rb, hu => by
    cases ra with
    | str _ t =>
      cases rb with
      | non => exact EqAt.str_none i t
      | int j u => exact EqAt.str_int i t j u
      | str j u =>
        have e : decide ((NK.str i) = NK.str j) = (i == j) := by
          by_cases h : i = j
          · subst h; simp
          · rw [decide_eq_false (fun z => h (NK.str.inj z))]; exact (beq_eq_false_iff_ne.mpr h).symm
        rw [e]
        exact EqAt.str_str i t j u
      | tup k1 k2 => exact EqAt.str_tuple i t k1 (by omega)
  | .tup xs, y, A, s, _, _, ra, rb, hu => by
    cases ra with
    | @tup l vs _ h1 h2 =>
      have hd : NK.depth (.tup xs) = NK.depths xs + 1 := by rw [NK.depth]
      cases rb with
      | non => exact EqAt.tuple_none h1 (by omega)
      | int j u => exact EqAt.tuple_int j u h1 (by omega)
      | str j u => exact EqAt.tuple_str j u h1 (by omega)
      | @tup l' vs' ys k1 k2 =>
        have hd' : NK.depth (.tup ys) = NK.depths ys + 1 := by rw [NK.depth]
        have n1 : vs.size = xs.length := by have := h2.len; simpa using this.symm
        have n2 : vs'.size = ys.length := by have := k2.len; simpa using this.symm
        by_cases hll : l = l'
        · subst hll
          have e : NK.tup xs = NK.tup ys := IsNK.inj _ _ _ (.tup h1 h2) (.tup k1 k2)
          rw [e, decide_eq_true rfl]
          exact EqAt.same _
        · have e : decide (NK.tup xs = NK.tup ys) = decide (xs = ys) := by
            by_cases h : xs = ys
            · subst h; simp
            · rw [decide_eq_false h, decide_eq_false (fun z => h (NK.tup.inj z))]
          rw [e, ← nk_all xs ys, ← n1, ← n2]
          refine EqAt.of_refs hll (RcAt.tuples h1 k1 (by omega) fun j j1 j2 => ?_)
          have := nk_eqAts xs ys A.in1 s vs.toList vs'.toList h2 k2 (by show A.units + 1 + _ < _; omega) j (by simpa using j1) (by simpa using j2)
          simpa using this
theorem nk_eqAts : ∀ (xs ys : List NK) (A : Around) (s : Shared) (vs ws : List Value), IsNKs s.heap xs vs → IsNKs s.heap ys ws → A.units + min (NK.depths xs) (NK.depths ys) < cLine →
    ∀ j (h1 : j < vs.length) (h2 : j < ws.length), EqAt A s vs[j] ws[j] (nkPair xs ys j)
  | [], _, _, _, _, _, ra, _, _, j, h1, _ => by cases ra; exact absurd h1 (Nat.not_lt_zero _)
  | _ :: _, [], _, _, _, _, _, rb, _, j, _, h2 => by cases rb; exact absurd h2 (Nat.not_lt_zero _)
  | x :: xs, y :: ys, A, s, _, _, ra, rb, hu, j, h1, h2 => by
    have d1 : NK.depths (x :: xs) = max x.depth (NK.depths xs) := by rw [NK.depths]
    have d2 : NK.depths (y :: ys) = max y.depth (NK.depths ys) := by rw [NK.depths]
    rw [d1, d2] at hu
    cases ra with
    | cons r rs =>
      cases rb with
      | cons r' rs' =>
        cases j with
        | zero => exact nk_eqAt x y A s _ _ r r' (nk_head hu)
        | succ j => exact nk_eqAts xs ys A s _ _ rs rs' (nk_tail hu) j (Nat.lt_of_succ_lt_succ h1) (Nat.lt_of_succ_lt_succ h2)
end

/-! the hash -/
theorem nk_depth_mem {k : NK} : ∀ {ks : List NK}, k ∈ ks → k.depth ≤ NK.depths ks
  | x :: xs, h => by
    rw [NK.depths]
    rcases List.mem_cons.mp h with rfl | h
    · omega
    · have := nk_depth_mem h
      omega
theorem nk_hashes_snoc (k : NK) : ∀ ks : List NK, NK.hashes w (ks ++ [k]) = NK.hashes w ks ++ [NK.hash w k]
  | [] => by simp [NK.hashes]
  | x :: xs => by rw [List.cons_append, NK.hashes, NK.hashes, nk_hashes_snoc k xs, List.cons_append]
theorem nk_drawss_snoc (k : NK) : ∀ ks : List NK, NK.drawss (ks ++ [k]) = NK.drawss ks + NK.draws k
  | [] => by simp [NK.drawss]
  | x :: xs => by rw [List.cons_append, NK.drawss, NK.drawss, nk_drawss_snoc k xs, Nat.add_assoc]
theorem nk_hash : ∀ (k : NK) (A : Around) (E : Value → Shared → Prop) (s : Shared) (v : Value) (Q : Int → Shared → Prop), IsNK s.heap k v → A.units + k.depth < cLine + 1 → Q (k.hash w) { s with toks := s.toks + k.draws } → wpAny (model prog w) A (pyHash v) Q E s
  | .non, A, E, s, _, Q, r, hu, h => by
    cases r
    have hT : s.TypeIs .none "NoneType" := rfl
    unfold pyHash
    have hv : [Value.none].any Value.onHeap = false := rfl
    refine wpAny_bind ?_
    rw [cRoomFor, if_neg (by rw [hv]; exact Bool.false_ne_true)]; refine wpAny_pure ?_
    refine wpAny_bind (wpAny_specialOf hT F.slot_NoneType_hash.lookup ?_)
    show wpAny _ _ (if (some (Value.builtin "NoneType.__hash__") == some Value.none) = true then _ else _) Q E s
    rw [if_neg (by rw [beq_builtin_none]; exact Bool.false_ne_true)]
    refine wpAny_bind (wpAny_specialOf hT F.slot_NoneType_hash.lookup ?_)
    show wpAny _ _ (callSpecialIfBoundUnlessNone? .none "__hash__" _ >>= _) Q E s
    refine wpAny_bind (wpAny_callSpecialIfBoundUnlessNone?_slot hT F.slot_NoneType_hash (wpAny_call_entry F.slot_NoneType_hash hT F.entry_NoneType_hash
      (show wpAny _ _ (do ret (← mkInt 4238894112)) _ _ s from wpAny_ret_mkInt ?_) (F.args_NoneType_hash_1 _)))
    show wpAny _ _ (if (decide (-(2 : Int) ^ 63 ≤ 4238894112) && decide ((4238894112 : Int) < 2 ^ 63)) = true then _ else _) Q E _
    rw [if_pos (by decide)]
    exact wpAny_pure (by simpa [NK.draws, NK.hash] using h)
  | .int i, A, E, s, _, Q, r, hu, h => by
    cases r
    exact wpAny_pyHash_int h
  | .str x, A, E, s, _, Q, r, hu, h => by
    cases r
    exact wpAny_pyHash_str h
  | .tup ks, A, E, s, _, Q, r, hu, h => by
    cases r with
    | @tup a vs _ hk hi =>
      have hT : s.TypeIs (.ref a) "tuple" := let ⟨o, ho, hc, _⟩ := hk; ⟨o, ho, hc⟩
      obtain ⟨o, ho, _, n, hd⟩ := hk
      unfold pyHash
      first | unfold pyHashByItsType | skip
      have hd1 : NK.depth (.tup ks) = NK.depths ks + 1 := by rw [NK.depth]
      refine wpAny_bind (wpAny_cRoomFor_or (.inr (by omega)) ?_)
      refine wpAny_bind (wpAny_specialOf hT F.slot_tuple_hash.lookup ?_)
      show wpAny _ _ (if (some (Value.builtin "tuple.__hash__") == some Value.none) = true then _ else _) Q E s
      rw [if_neg (by rw [beq_builtin_none]; exact Bool.false_ne_true)]
      refine wpAny_bind (wpAny_specialOf hT F.slot_tuple_hash.lookup ?_)
      show wpAny _ _ (callSpecialIfBoundUnlessNone? (.ref a) "__hash__" _ >>= _) Q E s
      refine wpAny_bind (wpAny_callSpecialIfBoundUnlessNone?_slot hT F.slot_tuple_hash (wpAny_call_entry F.slot_tuple_hash hT F.entry_tuple_hash ?_ (F.args_tuple_hash_1 _)))
      show wpAny _ _ (Builtin.Tuple.tupleItemsOf (.ref a) >>= _) _ _ s
      refine wpAny_bind (wpAny_tupleItemsOf ho hd ?_)
      refine wpAny_bind ?_
      rw [← Array.forIn_toList]
      refine wpAny_forIn_list _
        (fun rest (b : Array Int) s' => ∃ done left, ks = done ++ left ∧ IsNKs s.heap left rest ∧ b.toList = NK.hashes w done ∧ s' = { s with toks := s.toks + NK.drawss done })
        _ ?_ ?_ _ _ ⟨[], ks, rfl, hi, rfl, rfl⟩
      · rintro x rest b s' ⟨done, left, hks, hl, hb, rfl⟩
        cases hl with
        | @cons k _ ks' _ h1 hl' =>
          have hm : k ∈ ks := by rw [hks]; simp
          have hdk : k.depth ≤ NK.depths ks := nk_depth_mem hm
          refine wpAny_bind (nk_hash k A.in1 _ _ x _ h1 (by show A.units + 1 + _ < _; omega) ?_)
          first
            | exact wpAny_pure ⟨done ++ [k], ks', by rw [hks]; simp, hl', by simp [hb, nk_hashes_snoc], by simp [nk_drawss_snoc, Nat.add_assoc]⟩
            | exact wpAny_bind (wpAny_pure (wpAny_pure ⟨done ++ [k], ks', by rw [hks]; simp, hl', by simp [hb, nk_hashes_snoc], by simp [nk_drawss_snoc, Nat.add_assoc]⟩))
      · rintro b s' ⟨done, left, hks, hl, hb, rfl⟩
        cases hl
        rw [List.append_nil] at hks
        subst hks
        show wpAny _ _ (retInt (Builtin.Tuple.tupleHashOf b.toList)) _ _ _
        rw [hb]
        refine wpAny_ret_mkInt ?_
        show wpAny _ _ (if (decide (-(2 : Int) ^ 63 ≤ Builtin.Tuple.tupleHashOf (NK.hashes w ks)) && decide (Builtin.Tuple.tupleHashOf (NK.hashes w ks) < 2 ^ 63)) = true then _ else _) Q E _
        rw [NK.hash, NK.draws] at h
        unfold reduceHash at h
        by_cases hr : (decide (-(2 : Int) ^ 63 ≤ Builtin.Tuple.tupleHashOf (NK.hashes w ks)) && decide (Builtin.Tuple.tupleHashOf (NK.hashes w ks) < 2 ^ 63)) = true
        · rw [if_pos hr]
          rw [if_pos hr] at h
          exact wpAny_pure (by simpa [Nat.add_assoc] using h)
        · rw [if_neg hr]
          rw [if_neg hr] at h
          exact wpAny_bind (wpAny_rule (wpAny_pure (by simpa [Nat.add_assoc] using h)))
  termination_by k => sizeOf k
  decreasing_by
    have := List.sizeOf_lt_of_mem hm
    simp only [NK.tup.sizeOf_spec]
    omega
/-! no own == within -/
theorem nk_quiet : ∀ (n : Nat) (k : NK) (v : Value) {A : Around} {E : Value → Shared → Prop} {s : Shared} {Q : Bool → Shared → Prop}, IsNK s.heap k v → k.depth ≤ n → Q true s → wpAny (model prog w) A (eqIsQuiet n v) Q E s
  | n, .non, _, A, E, s, Q, .non, _, h => by rw [eqIsQuiet_byValue _ rfl]; exact wpAny_pure h
  | n, .int _, _, A, E, s, Q, .int _ _, _, h => by rw [eqIsQuiet_byValue _ rfl]; exact wpAny_pure h
  | n, .str _, _, A, E, s, Q, .str _ _, _, h => by rw [eqIsQuiet_byValue _ rfl]; exact wpAny_pure h
  | 0, .tup ks, _, A, E, s, Q, _, hd, h => by rw [NK.depth] at hd; omega
  | n + 1, .tup ks, _, A, E, s, Q, .tup hk hi, hd, h => by
    rw [NK.depth] at hd
    obtain ⟨o, ho, hc, m, hda⟩ := hk
    have hT : s.TypeIs (.ref _) "tuple" := ⟨o, ho, hc⟩
    unfold eqIsQuiet
    refine wpAny_bind (wpAny_specialOf hT F.slot_tuple_eq.lookup ?_)
    show wpAny _ _ (isInstance (.ref _) (.type "tuple") >>= _) _ _ s
    refine wpAny_bind (wpAny_isInstance hT isSubtype_tuple_tuple ?_)
    simp only [Bool.not_true, Bool.false_eq_true, if_false]
    refine wpAny_bind (wpAny_seqItems ho hda ?_)
    refine wpAny_bind ?_
    show wpAny _ _ (forIn _ _ _) _ _ s
    rw [← Array.forIn_toList]
    refine wpAny_forIn_list _ (fun rest r s' => r.1 = none ∧ s' = s ∧ ∃ left, IsNKs s.heap left rest ∧ NK.depths left ≤ n) _ ?_ ?_ _ _ ⟨rfl, rfl, ks, hi, by omega⟩
    · rintro v rest r s' ⟨hr, rfl, left, hl, hdl⟩
      cases hl with
      | @cons k _ ks' _ h1 hl' =>
        rw [NK.depths] at hdl
        refine wpAny_bind (nk_quiet n k v h1 (by omega) ?_)
        simp only [Bool.not_true, Bool.false_eq_true, if_false]
        exact wpAny_pure ⟨rfl, rfl, ks', hl', by omega⟩
    · rintro ⟨r1, r2⟩ s' ⟨hr, rfl, _⟩
      simp only at hr
      subst hr
      exact wpAny_pure h
/-- the kind of such keys -/
def nkKind (prog : Program) (w : World) : HeapKind prog w NK where
  is := fun h k a => k.depth ≤ 8 ∧ IsNK h k (.ref a)
  hash := NK.hash w
  draws := NK.draws
  room := fun A => A.units + 8 < cLine
  inj := fun hx hy => IsNK.inj _ _ _ hx.2 hy.2
  keeps := fun x ho hd hs => ⟨x.1, IsNK.keeps ho hd hs _ _ x.2⟩
  pyHash := fun hu hk h => nk_hash _ _ _ _ _ _ hk.2 (by have := hk.1; omega) h
  eqBool := fun hu hx hy h => nk_eqAt _ _ _ _ _ _ hx.2 hy.2 (by have := hx.1; omega) _ _ _ _ h
  quiet := fun hk h => nk_quiet 8 _ _ hk.2 hk.1 h
end
end PySem

set_option Elab.async false
set_option linter.all false
set_option maxRecDepth 100000
/-! dicts with nested tuples as keys, in the layer -/
namespace AE
open PySem PySem.Spec PyProof.Rows L2 Evl
mutual
/-- the value v is the key k, by tracked tuples -/
inductive NAt (H : Hp) : V → NK → Prop
  | non : NAt H .non .non
  | int (i : Int) : NAt H (.int i) (.int i)
  | str (x : Str) : NAt H (.str x) (.str x)
  | tup {a : Addr} {xs : List V} {ks : List NK} : H a = some (.tup xs) → NAts H xs ks → NAt H (.ref a) (.tup ks)
inductive NAts (H : Hp) : List V → List NK → Prop
  | nil : NAts H [] []
  | cons {v : V} {k : NK} {vs : List V} {ks : List NK} : NAt H v k → NAts H vs ks → NAts H (v :: vs) (k :: ks)
end
def TxN (H H' : Hp) : Prop := ∀ a xs, H a = some (.tup xs) → H' a = some (.tup xs)
mutual
theorem NAt.tx {H H' : Hp} (e : TxN H H') : ∀ {v : V} {k : NK}, NAt H v k → NAt H' v k
  | _, _, .non => .non
  | _, _, .int i => .int i
  | _, _, .str x => .str x
  | _, _, .tup h t => .tup (e _ _ h) (NAts.tx e t)
theorem NAts.tx {H H' : Hp} (e : TxN H H') : ∀ {vs : List V} {ks : List NK}, NAts H vs ks → NAts H' vs ks
  | _, _, .nil => .nil
  | _, _, .cons h t => .cons (NAt.tx e h) (NAts.tx e t)
end
/-- one dict: its entries in order: key, where the key stands, value -/
abbrev NE := NK × Addr × V
def valN (kvs : List NE) (k : NK) : Option V := (kvs.find? fun x => decide (x.1 = k)).map (·.2.2)
def putN (kvs : List NE) (k : NK) (a : Addr) (v : V) : List NE :=
  if (valN kvs k).isSome then kvs.map (fun x => if x.1 = k then (x.1, x.2.1, v) else x) else kvs ++ [(k, a, v)]
def dropN (kvs : List NE) (k : NK) : List NE := kvs.filter fun x => !decide (x.1 = k)
abbrev NR : List NE → List (NK × Addr × Value) → Prop := Paired fun p q => p.1 = q.1 ∧ p.2.1 = q.2.1 ∧ RelV p.2.2 q.2.2
def entryN (w : World) (x : NK × Addr × Value) : DictEntry := ⟨NK.hash w x.1, .ref x.2.1, x.2.2⟩
def DN (w : World) (a : Addr) (kvs : List NE) (h : Heap) : Prop :=
  kvs.length ≤ sizeLine ∧ (a == sysModules) = false ∧ ∃ xs : List (NK × Addr × Value), NR kvs xs ∧
    ∃ o es ep, h.get? a = some o ∧ o.ExactDict ∧ o.data = .dict es ep ∧ es.toList = xs.map (entryN w) ∧ (xs.map (·.1)).Nodup
def dN (w : World) (a : Addr) (kvs : List NE) : HO := .ext (DN w a kvs)
/-- the keys stand as they are said to -/
def KeyOk (H : Hp) (e : NE) : Prop := e.1.depth ≤ 8 ∧ NAt H (.ref e.2.1) e.1
def KeysOk (H : Hp) (kvs : List NE) : Prop := ∀ e ∈ kvs, KeyOk H e
theorem KeysOk.tx {H H' : Hp} {kvs : List NE} (e : TxN H H') (h : KeysOk H kvs) : KeysOk H' kvs := fun x hx => ⟨(h x hx).1, (h x hx).2.tx e⟩
theorem NR.val {kvs : List NE} {xs : List (NK × Addr × Value)} (r : NR kvs xs) (k : NK) : RelO (valN kvs k) ((atKey xs k).map (·.2)) := by
  unfold valN atKey
  induction r with
  | nil => exact True.intro
  | @cons p q ps qs h t ih =>
    rw [List.find?_cons, List.find?_cons, ← h.1]
    by_cases e : p.1 = k
    · rw [decide_eq_true e]
      exact h.2.2
    · rw [decide_eq_false e]
      exact ih
theorem NR.keys {kvs : List NE} {xs : List (NK × Addr × Value)} (r : NR kvs xs) : kvs.map (·.1) = xs.map (·.1) := by
  induction r with
  | nil => rfl
  | cons h t ih => rw [List.map_cons, List.map_cons, h.1, ih]
theorem NR.repl {v : V} {u : Value} (ry : RelV v u) (k : NK) : ∀ {kvs : List NE} {xs : List (NK × Addr × Value)}, NR kvs xs → NR (kvs.map fun x => if x.1 = k then (x.1, x.2.1, v) else x) (xs.map (putAt k u))
  | _, _, .nil => .nil
  | _, _, .cons (a := p) (b := q) h t => by
    rw [List.map_cons, List.map_cons]
    refine .cons ?_ (NR.repl ry k t)
    unfold putAt
    rw [← h.1]
    by_cases e : p.1 = k
    · rw [if_pos e, if_pos e]; exact ⟨rfl, h.2.1, ry⟩
    · rw [if_neg e, if_neg e]; exact h
theorem NR.put {kvs : List NE} {xs : List (NK × Addr × Value)} (r : NR kvs xs) (k : NK) (a : Addr) {v : V} {u : Value} (ry : RelV v u) : NR (putN kvs k a v) (storedH xs k a u) := by
  have e : (valN kvs k).isSome = (atKey xs k).isSome := by
    rw [(r.val k).isSome_eq, Option.isSome_map]
  unfold putN storedH
  rw [e]
  by_cases q : (atKey xs k).isSome = true
  · rw [if_pos q, if_pos q]; exact r.repl ry k
  · rw [if_neg q, if_neg q]; exact Paired.snoc r ⟨rfl, rfl, ry⟩
theorem length_putN (kvs : List NE) (k : NK) (a : Addr) (v : V) : (putN kvs k a v).length ≤ kvs.length + 1 := by
  unfold putN
  split
  · rw [List.length_map]; omega
  · rw [List.length_append]; exact Nat.le_refl _
section
variable {P : Program} {w : World} {H : Hp} {h : Heap} {a : Addr}
mutual
theorem nat_is (ok : HOk P w H h) : ∀ {v : V} {k : NK} {u : Value}, NAt H v k → RelV v u → IsNK h k u
  | _, _, _, .non, r => by cases r; exact .non
  | _, _, _, .int i, r => by obtain ⟨t, rfl⟩ := r; exact .int i t
  | _, _, _, .str x, r => by obtain ⟨t, rfl⟩ := r; exact .str x t
  | _, _, _, .tup (a := a) (xs := xs) (ks := ks) ha t, r => by
    cases r
    obtain ⟨_, its, rv, hT⟩ := (show ObjOk P w H h a (.tup xs) from ok a _ ha)
    exact .tup hT (by simpa using nats_is ok t rv)
theorem nats_is (ok : HOk P w H h) : ∀ {vs : List V} {ks : List NK} {us : List Value}, NAts H vs ks → Vals vs us → IsNKs h ks us
  | _, _, _, .nil, .nil => .nil
  | _, _, _, .cons hv ht, .cons r rs => .cons (nat_is ok hv r) (nats_is ok ht rs)
end
theorem key_is (ok : HOk P w H h) {e : NE} (k : KeyOk H e) : (nkKind P w).is h e.1 e.2.1 := ⟨k.1, nat_is ok k.2 rfl⟩
theorem dn_stable (w : World) (a : Addr) (kvs : List NE) : ∀ h1 h2 : Heap, DN w a kvs h1 → (∀ o, h1.get? a = some o → h2.get? a = some o) → DN w a kvs h2 := by
  rintro h1 h2 ⟨z, y, xs, r, o, es, ep, ho, rest⟩ st
  exact ⟨z, y, xs, r, o, es, ep, st _ ho, rest⟩
theorem dn_ok {kvs : List NE} (d : DN w a kvs h) : ObjOk P w H h a (dN w a kvs) := by
  refine ⟨d, ?_, dn_stable w a kvs⟩
  obtain ⟨_, _, _, _, o, _, _, ho, _⟩ := d
  exact ⟨o, ho⟩
theorem dn_rd {kvs : List NE} (ok : HOk P w H h) (e : Rd H a (dN w a kvs)) (hk : KeysOk H kvs) : kvs.length ≤ sizeLine ∧ (a == sysModules) = false ∧
    ∃ xs, NR kvs xs ∧ h.DictOfH (nkKind P w) a xs := by
  have q := e.ok ok
  obtain ⟨⟨z, y, xs, r, o, es, ep, ho, hx, hd, he, hn⟩, _⟩ := q
  refine ⟨z, y, xs, r, o, es, ep, ho, hx, hd, he, fun x hx => ?_, hn⟩
  have all : ∀ {l : List NE} {m : List (NK × Addr × Value)}, KeysOk H l → NR l m → ∀ x ∈ m, (nkKind P w).is h x.1 x.2.1 := by
    intro l m hk q
    induction q with
    | nil => intro x hx; exact nomatch hx
    | @cons p q ps qs hq t ih =>
      intro x hx
      rcases List.mem_cons.mp hx with e | hx
      · subst e
        have := key_is ok (hk p (List.mem_cons_self ..))
        rw [hq.1, hq.2.1] at this
        exact this
      · exact ih (fun e he => hk e (List.mem_cons_of_mem _ he)) x hx
  exact all hk r x hx
end
/-- a read of the dict at a by the key y -/
def NGet (w : World) (H : Hp) (a : Addr) (y : V) (o : Option V) : Prop := ∃ kvs k b, Rd H a (dN w a kvs) ∧ KeysOk H kvs ∧ y = .ref b ∧ k.depth ≤ 8 ∧ NAt H (.ref b) k ∧ o = valN kvs k
def NPut (w : World) (H : Hp) (a : Addr) (y v : V) (H' : Hp) : Prop := ∃ kvs k b, H a = some (dN w a kvs) ∧ KeysOk H kvs ∧ y = .ref b ∧ k.depth ≤ 8 ∧ NAt H (.ref b) k ∧ kvs.length < sizeLine ∧ H' = upd H a (dN w a (putN kvs k b v))
theorem nk_room {P : Program} {w : World} {A : Around} (hu : A.units + 64 < cLine) : (nkKind P w).room A.in1 := by
  show A.units + 1 + 8 < cLine
  omega
section
variable {X : Cx} {pins : List (Addr × Obj)} {σ : L2.St} {H : Hp} {s : Shared} {a : Addr} {y v d : V} {u r : Value} {o : Option V} {A : Around} {E : Value → Shared → Prop}
theorem n_getItem {Q : Value → Shared → Prop} (hu : A.units + 64 < cLine) (I : Inv X pins σ H s) (g : NGet X.w H a y (some v)) (ry : RelV y u) (h : ∀ w' s', Inv X pins σ H s' → RelV v w' → Q w' s') :
    wpAny (model X.prog X.w) A (getItem (.ref a) u) Q E s := by
  obtain ⟨kvs, k, b, e, hk, ey, dk, eb, l⟩ := g
  subst ey
  cases (show u = Value.ref b from ry)
  obtain ⟨z, hd, xs, rel, dd⟩ := dn_rd I.hok e hk
  obtain ⟨w', hw, rw'⟩ := RelO.some_of (v := v) (o := (atKey xs k).map (·.2)) (by rw [l]; exact rel.val k)
  obtain ⟨p, hp, hp2⟩ := Option.map_eq_some_iff.mp hw
  refine wpAny_getItem_heap (nk_room hu) ⟨dk, nat_is I.hok eb rfl⟩ dd hp ?_
  rw [hp2]
  exact h w' _ (I.tok _) rw'
theorem n_in {Q : Value → Shared → Prop} (hu : A.units + 64 < cLine) (I : Inv X pins σ H s) (g : NGet X.w H a y o) (ry : RelV y u) (h : ∀ s', Inv X pins σ H s' → Q (.bool o.isSome) s') :
    wpAny (model X.prog X.w) A (compareOp .In u (.ref a)) Q E s := by
  obtain ⟨kvs, k, b, e, hk, ey, dk, eb, l⟩ := g
  subst ey
  cases (show u = Value.ref b from ry)
  obtain ⟨z, hd, xs, rel, dd⟩ := dn_rd I.hok e hk
  refine wpAny_in_heap (nk_room hu) ⟨dk, nat_is I.hok eb rfl⟩ hd dd ?_
  have q := (rel.val k).isSome_eq
  rw [Option.isSome_map] at q
  rw [← q, ← l]
  exact h _ (I.tok _)
theorem n_notIn {Q : Value → Shared → Prop} (hu : A.units + 64 < cLine) (I : Inv X pins σ H s) (g : NGet X.w H a y o) (ry : RelV y u) (h : ∀ s', Inv X pins σ H s' → Q (.bool (!o.isSome)) s') :
    wpAny (model X.prog X.w) A (compareOp .NotIn u (.ref a)) Q E s := by
  obtain ⟨kvs, k, b, e, hk, ey, dk, eb, l⟩ := g
  subst ey
  cases (show u = Value.ref b from ry)
  obtain ⟨z, hd, xs, rel, dd⟩ := dn_rd I.hok e hk
  refine wpAny_notIn_heap (nk_room hu) ⟨dk, nat_is I.hok eb rfl⟩ hd dd ?_
  have q := (rel.val k).isSome_eq
  rw [Option.isSome_map] at q
  rw [← q, ← l]
  exact h _ (I.tok _)
theorem dn_after {X : Cx} {h' : Heap} {kvs : List NE} {xs : List (NK × Addr × Value)} {H' : Hp} (z : kvs.length ≤ sizeLine) (hd : (a == sysModules) = false) (r : NR kvs xs) (dd : h'.DictOfH (nkKind X.prog X.w) a xs) : ObjOk X.prog X.w H' h' a (dN X.w a kvs) := by
  obtain ⟨q, es, ep, hq, h2, h3, h4, _, h5⟩ := dd
  exact dn_ok ⟨z, hd, xs, r, q, es, ep, hq, h2, h3, h4, h5⟩
theorem n_setItem {H' : Hp} {Q : Unit → Shared → Prop} (hu : A.units + 64 < cLine) (I : Inv X pins σ H s) (g : NPut X.w H a y v H') (ry : RelV y u) (rv : RelV v r) (h : ∀ s', Inv X pins σ H' s' → Q () s') :
    wpAny (model X.prog X.w) A (setItem (.ref a) u r) Q E s := by
  obtain ⟨kvs, k, b, e, hk, ey, dk, eb, l, eH⟩ := g
  subst ey eH
  cases (show u = Value.ref b from ry)
  obtain ⟨z, hd, xs, rel, dd⟩ := dn_rd I.hok (.inl e) hk
  have hz : xs.length ≤ sizeLine := by rw [← Paired.length rel]; exact z
  have hl : (putN kvs k b v).length ≤ sizeLine := by have := length_putN kvs k b v; omega
  refine wpAny_setItem_heap (hsz := hz) (nk_room hu) ⟨dk, nat_is I.hok eb rfl⟩ dd fun h' dd' hs => h _ ?_
  have he : ∃ q, h'.get? a = some q := let ⟨q, _, _, hq, _⟩ := dd'; ⟨q, hq⟩
  exact d_write I (by rw [e]; exact True.intro) hs he (dn_after hl hd (rel.put k b rv) dd')
theorem n_get2 {Q : Value → Shared → Prop} (hu : A.units + 64 < cLine) (I : Inv X pins σ H s) (g : NGet X.w H a y o) (ry : RelV y u) (rd : RelV d r) (h : ∀ w' s', Inv X pins σ H s' → RelV (o.getD d) w' → Q w' s') :
    wpAny (model X.prog X.w) A (call (.builtin "dict.get") [.ref a, u, r]) Q E s := by
  obtain ⟨kvs, k, b, e, hk, ey, dk, eb, l⟩ := g
  subst ey
  cases (show u = Value.ref b from ry)
  obtain ⟨z, hd, xs, rel, dd⟩ := dn_rd I.hok e hk
  refine call_meetsIn PySem.F.slot_dict_get dd.typeIs PySem.F.entry_dict_get (PySem.F.args_dict_get_3 _ _ _) (meetsH_dict_get_default (nkKind X.prog X.w) a b hd r) ⟨nk_room hu, k, xs, ⟨dk, nat_is I.hok eb rfl⟩, dd, h _ _ (I.tok _) ?_⟩
  rw [l]
  exact (rel.val k).getD rd
theorem n_setd {kvs : List NE} {k : NK} {b : Addr} {Q : Value → Shared → Prop} (hu : A.units + 64 < cLine) (I : Inv X pins σ H s) (hD : H a = some (dN X.w a kvs)) (hk : KeysOk H kvs) (dk : k.depth ≤ 8) (eb : NAt H (.ref b) k) (hl : kvs.length < sizeLine)
    (rv : RelV v r) (h1 : ∀ x, valN kvs k = some x → ∀ w1 s1, Inv X pins σ H s1 → RelV x w1 → Q w1 s1) (h2 : valN kvs k = none → ∀ s1, Inv X pins σ (upd H a (dN X.w a (putN kvs k b v))) s1 → Q r s1) :
    wpAny (model X.prog X.w) A (call (.builtin "dict.setdefault") [.ref a, .ref b, r]) Q E s := by
  obtain ⟨_, hd, xs, rel, dd⟩ := dn_rd I.hok (.inl hD) hk
  have hx : xs.length ≤ sizeLine := by
    have e := Paired.length rel
    omega
  have hz : (putN kvs k b v).length ≤ sizeLine := Nat.le_trans (length_putN kvs k b v) (by omega)
  refine call_setdefault_heap (knd := nkKind X.prog X.w) (hsz := hx) (nk_room hu) ⟨dk, nat_is I.hok eb rfl⟩ hd dd (fun p hp => ?_) fun hn h' dd1 hs => ?_
  · have q := rel.val k
    rw [hp] at q
    cases q0 : valN kvs k with
    | none => rw [q0] at q; exact q.elim
    | some x => rw [q0] at q; exact h1 x q0 _ _ (I.tok _) q
  · have q := rel.val k
    rw [hn] at q
    cases q0 : valN kvs k with
    | some x => rw [q0] at q; exact q.elim
    | none =>
      refine h2 q0 _ ?_
      have he : ∃ q, h'.get? a = some q := let ⟨q, _, _, hq, _⟩ := dd1; ⟨q, hq⟩
      exact d_write I (by rw [hD]; trivial) hs he (dn_after hz hd (rel.put k b rv) dd1)
end
/-- a is a dict of this kind -/
def IsN (w : World) (H : Hp) (a : Addr) : Prop := ∃ kvs, Rd H a (dN w a kvs)
theorem isN_at {X : Cx} {pins : List (Addr × Obj)} {σ : L2.St} {H : Hp} {s : Shared} {a : Addr} (I : Inv X pins σ H s) (d : IsN X.w H a) :
    s.TypeIs (.ref a) "dict" ∧ (∀ b, Value.ref a = .ref b → ∃ ob, s.heap.get? b = some ob ∧ ob.dict = none) ∧ (a == sysModules) = false := by
  obtain ⟨kvs, e⟩ := d
  obtain ⟨⟨z, hd, xs, r, o, es, ep, ho, hx, _⟩, _⟩ := e.ok I.hok
  refine ⟨⟨o, ho, hx.1⟩, fun b q => ?_, hd⟩
  cases q
  exact ⟨o, ho, hx.2.1⟩
def tNNew (w : World) : TE := fun _ H Q => ∀ p, H p = none → Q (.ref p) (upd H p (dN w p []))
def tNGet (w : World) (td ty : TE) : TE := fun σ H Q => td σ H fun x H1 => ty σ H1 fun y H2 => ∃ a v, x = .ref a ∧ NGet w H2 a y (some v) ∧ Q v H2
def tNIn (w : World) (ty td : TE) : TE := fun σ H Q => ty σ H fun y H1 => td σ H1 fun x H2 => ∃ a o, x = .ref a ∧ NGet w H2 a y o ∧ Q (.bl o.isSome) H2
def tNNotIn (w : World) (ty td : TE) : TE := fun σ H Q => ty σ H fun y H1 => td σ H1 fun x H2 => ∃ a o, x = .ref a ∧ NGet w H2 a y o ∧ Q (.bl (!o.isSome)) H2
def sNPut (w : World) (td ty tv : TE) : TS := fun D σ H => tv σ H fun v H1 => td σ H1 fun x H2 => ty σ H2 fun y H3 => ∃ a H4, x = .ref a ∧ NPut w H3 a y v H4 ∧ D.nx σ H4
def tNGet2 (w : World) (td ty tx : TE) : TE := fun σ H Q => td σ H fun x H1 => ∃ a, x = .ref a ∧ IsN w H1 a ∧ ty σ H1 fun y H2 => tx σ H2 fun z H3 => ∃ o, NGet w H3 a y o ∧ Q (o.getD z) H3
def tSetdN (w : World) (td ty tx : TE) : TE := fun σ H Q => td σ H fun x Ha => ∃ a, x = .ref a ∧ IsN w Ha a ∧ ty σ Ha fun y Hb => tx σ Hb fun z Hc => ∃ (kvs : List NE) (k : NK) (b : Addr), Hc a = some (dN w a kvs) ∧ KeysOk Hc kvs ∧ y = .ref b ∧ k.depth ≤ 8 ∧ NAt Hc (.ref b) k ∧ kvs.length < sizeLine ∧
  (∀ v, valN kvs k = some v → Q v Hc) ∧ (valN kvs k = none → Q z (upd Hc a (dN w a (putN kvs k b z))))
section
variable {X : Cx} {o i e f value : Expr} {pos pos' tpos apos cpos : Pos} {td ty tv tx : TE}
theorem pe_nnew : PE X (.Dict [] [] pos) (tNNew X.w) := ⟨fun pins s σ H Q I h =>
  wpAny_Dict_empty ⟨.ref s.heap.objs.size, _, I.laid (a := s.heap.objs.size) (o := dN X.w s.heap.objs.size []) (t' := s.toks) (fun _ _ q => Heap.get?_push_of_some _ q) (Nat.le_refl _)
    (dn_ok ⟨Nat.zero_le _, beq_eq_false_iff_ne.mpr (Ne.symm (Nat.ne_of_lt I.big)), [], .nil, _, #[], 0, Heap.get?_push_size _ rfl, ⟨rfl, rfl, rfl⟩, rfl, rfl, List.nodup_nil⟩), rfl, h _ (I.hok.fresh (Nat.le_refl _))⟩⟩
theorem pe_nget (hu : X.A.units + 64 < cLine) (ho : PE X o td) (hi : PE X i ty) (hs : NoSl i) : PE X (.Subscript o i pos) (tNGet X.w td ty) := by
  refine ⟨fun pins s σ H Q I h => ?_⟩
  refine subD_of PySem.F.slot_dict_getitem.lookup hs (thn (ho.run pins s σ H _ I h) fun u s1 ⟨x, H1, I1, rx, q1⟩ => thn (hi.run pins s1 σ H1 _ I1 q1) fun iv s2 ⟨y, H2, I2, ry, a, v, ex, g, q2⟩ => ?_)
  subst ex
  obtain rfl : u = Value.ref a := rx
  have dd := isN_at I2 (let ⟨kvs, _, _, e, _⟩ := g; ⟨kvs, e⟩)
  exact ⟨dd.1, n_getItem hu I2 g ry fun w' s3 I3 rw' => ⟨v, H2, I3, rw', q2⟩⟩
theorem pc_nin (hu : X.A.units + 64 < cLine) (hi : PE X i ty) (ho : PE X o td) : PC X .In i o (tNIn X.w ty td) := by
  refine ⟨fun pins s σ H Q I h => ?_⟩
  refine thn (hi.run pins s σ H _ I h) fun iv s1 ⟨y, H1, I1, ry, q1⟩ => thn (ho.run pins s1 σ H1 _ I1 q1) fun u s2 ⟨x, H2, I2, rx, a, ov, ex, g, q2⟩ => ?_
  subst ex
  obtain rfl : u = Value.ref a := rx
  exact n_in hu I2 g ry fun s3 I3 => ⟨.bl ov.isSome, H2, I3, rfl, q2⟩
theorem pc_nnotin (hu : X.A.units + 64 < cLine) (hi : PE X i ty) (ho : PE X o td) : PC X .NotIn i o (tNNotIn X.w ty td) := by
  refine ⟨fun pins s σ H Q I h => ?_⟩
  refine thn (hi.run pins s σ H _ I h) fun iv s1 ⟨y, H1, I1, ry, q1⟩ => thn (ho.run pins s1 σ H1 _ I1 q1) fun u s2 ⟨x, H2, I2, rx, a, ov, ex, g, q2⟩ => ?_
  subst ex
  obtain rfl : u = Value.ref a := rx
  exact n_notIn hu I2 g ry fun s3 I3 => ⟨.bl (!ov.isSome), H2, I3, rfl, q2⟩
theorem ps_nput (hu : X.A.units + 64 < cLine) (ho : PE X o td) (hi : PE X i ty) (hv : PE X value tv) (hs : swapsWith value (some (.Subscript o i pos')) pos.line X.env = pure false) :
    PS X (.Assign [.Subscript o i pos'] value pos) (sNPut X.w td ty tv) := by
  refine ⟨fun pins s σ H D I h => ?_⟩
  refine wpAny_Assign_Subscript (thn (hv.run pins s σ H _ I h) fun r s1 ⟨v, H1, I1, rv, q1⟩ => thn (ho.run pins s1 σ H1 _ I1 q1) fun u s2 ⟨x, H2, I2, rx, q2⟩ => thn (hi.run pins s2 σ H2 _ I2 q2) fun iv s3 ⟨y, H3, I3, ry, a, H4, ex, g, q3⟩ => ?_) hs
  subst ex
  obtain rfl : u = Value.ref a := rx
  exact n_setItem hu I3 g ry rv fun s4 I4 => ⟨σ, H4, I4, q3⟩
theorem pe_nget2 (hu : X.A.units + 64 < cLine) (ho : PE X o td) (he : PE X e ty) (hf : PE X f tx) (m : M2 X o "get" apos e f cpos) : PE X (.Call (.Attribute o "get" apos) [e, f] [] cpos) (tNGet2 X.w td ty tx) := by
  refine ⟨fun pins s σ H Q I h => ?_⟩
  refine wpAny_Call_method m.base m.few m.line PySem.F.plainAttrs_dict PySem.F.slot_dict_get PySem.F.type_dict_get (thn (ho.run pins s σ H _ I h) fun u s1 ⟨x, H1, I1, rx, a, ex, d, q1⟩ => ?_)
  subst ex
  obtain rfl : u = Value.ref a := rx
  obtain ⟨t1, t2, _⟩ := isN_at I1 d
  refine ⟨t1, t2, ?_⟩
  rw [m.trees]
  refine Calls.callWith_builtin rfl (Calls.evalArgs_plain (Calls.spliced_cons (thn (he.run pins s1 σ H1 _ I1 q1) fun iv s2 ⟨y, H2, I2, ry, q2⟩ =>
    Calls.spliced_cons (thn (hf.run pins s2 σ H2 _ I2 q2) fun fv s3 ⟨z, H3, I3, rz, ov, g, q3⟩ => Calls.spliced_nil ?_))))
  exact n_get2 hu I3 g ry rz fun w' s4 I4 rw' => ⟨_, H3, I4, rw', q3⟩
theorem pe_setdN (hu : X.A.units + 64 < cLine) (ho : PE X o td) (he : PE X e ty) (hf : PE X f tx) (m : M2 X o "setdefault" apos e f cpos) : PE X (.Call (.Attribute o "setdefault" apos) [e, f] [] cpos) (tSetdN X.w td ty tx) := by
  refine ⟨fun pins s σ H Q I h => ?_⟩
  refine wpAny_Call_method m.base m.few m.line PySem.F.plainAttrs_dict PySem.F.slot_dict_setdefault PySem.F.type_dict_setdefault (thn (ho.run pins s σ H _ I h) fun u sa ⟨x, Ha, Ia, rx, a, ex, d, q1⟩ => ?_)
  subst ex
  cases rx
  obtain ⟨t1, t2, _⟩ := isN_at Ia d
  refine ⟨t1, t2, ?_⟩
  rw [m.trees]
  refine Calls.callWith_builtin rfl (Calls.evalArgs_plain (Calls.spliced_cons (thn (he.run pins sa σ Ha _ Ia q1) fun iv sb ⟨y, Hb, Ib, ry, q2⟩ => Calls.spliced_cons (thn (hf.run pins sb σ Hb _ Ib q2) fun fv sc hc => Calls.spliced_nil ?_))))
  obtain ⟨z, Hc, Ic, rz, kvs, k, b, ea, hk, ey, dk, eb, hl, q3, q4⟩ := hc
  subst ey
  cases ry
  exact n_setd hu Ic ea hk dk eb hl rz (fun v hv w1 s1 I1 r1 => ⟨v, _, I1, r1, q3 v hv⟩) fun hn s1 I1 => ⟨z, _, I1, rz, q4 hn⟩
end
end AE

set_option Elab.async false
set_option linter.all false
set_option maxRecDepth 100000
namespace AE
open PySem PySem.Spec PyProof.Rows L2 Evl

/-! ### heaps: what stays -/
def Tx (H H' : Hp) : Prop := ∀ a xs, H a = some (.tup xs) → H' a = some (.tup xs)
def Ch (l : Addr) (H H' : Hp) : Prop := ∀ a o, a ≠ l → H a = some o → H' a = some o
theorem Tx.refl (H : Hp) : Tx H H := fun _ _ h => h
theorem Tx.trans {H H1 H2 : Hp} (a : Tx H H1) (b : Tx H1 H2) : Tx H H2 := fun c o h => b c o (a c o h)
theorem tx_ex {H H' : Hp} (e : Ex H H') : Tx H H' := fun _ _ h => e _ _ h
theorem ch_upd {H : Hp} {l : Addr} {o : HO} : Ch l H (upd H l o) := fun a u ha h => by rw [upd_ne ha]; exact h
theorem tx_ch {H H' : Hp} {l : Addr} {xs : List V} (hl : H l = some (.lst xs)) (c : Ch l H H') : Tx H H' := fun a ys h =>
  c a _ (fun e => by subst e; rw [hl] at h; cases h) h
theorem ex_ch {H0 H H' : Hp} {l : Addr} (e : Ex H0 H) (hl : H0 l = none) (c : Ch l H H') : Ex H0 H' := fun a o h =>
  c a o (fun z => by subst z; rw [hl] at h; cases h) (e a o h)
theorem ex_upd {H0 H : Hp} {l : Addr} {o : HO} (e : Ex H0 H) (hl : H0 l = none) : Ex H0 (upd H l o) := ex_ch e hl ch_upd

/-! ### data -/
mutual
theorem dp_ex {K : PySem.W.Frag} {H H' : Hp} (e : Ex H H') : ∀ {v : V} {d : PyData}, Dp K H v d → Dp K H' v d
  | _, _, .non => .non
  | _, _, .bl b => .bl b
  | _, _, .int i => .int i
  | _, _, .str x => .str x
  | _, _, .lst h t => .lst (ex_l e h) (dpa_ex e t)
  | _, _, .tup h t => .tup (ex_t e h) (dpa_ex e t)
theorem dpa_ex {K : PySem.W.Frag} {H H' : Hp} (e : Ex H H') : ∀ {vs : List V} {ds : List PyData}, DpAll K H vs ds → DpAll K H' vs ds
  | _, _, .nil => .nil
  | _, _, .cons h t => .cons (dp_ex e h) (dpa_ex e t)
end
mutual
def flatD : PyData → Bool
  | .list _ => false
  | .dict _ => false
  | .tuple xs => flatDs xs
  | _ => true
def flatDs : List PyData → Bool
  | [] => true
  | x :: r => flatD x && flatDs r
end
theorem sqt_tx {K : PySem.W.Frag} {H H' : Hp} {a : Addr} {xs : List V} (e : Tx H H') (hf : ∀ o, H a ≠ some (.frz o (.tup xs))) (h : SqT K H a xs) : SqT K H' a xs := by
  rcases h with (h | ⟨o, h⟩) | h
  · exact .inl (.inl (e _ _ h))
  · exact absurd h (hf o)
  · exact .inr h
/-- a tuple of scalars, tracked -/
def TupAt (H : Hp) (v : V) (xs : List V) : Prop := ∃ a, v = .ref a ∧ H a = some (.tup xs)
theorem TupAt.tx {H H' : Hp} {v : V} {xs : List V} (e : Tx H H') (h : TupAt H v xs) : TupAt H' v xs := by
  obtain ⟨a, rfl, h⟩ := h
  exact ⟨a, rfl, e _ _ h⟩
/-- scalars as data -/
def scD : V → PyData
  | .int i => .int i
  | .str x => .str x
  | .bl b => .bool b
  | _ => .none
def isSc : V → Bool
  | .int _ => true
  | .str _ => true
  | .bl _ => true
  | .non => true
  | _ => false
theorem dp_sc {K : PySem.W.Frag} {H : Hp} : ∀ {v : V}, isSc v = true → Dp K H v (scD v)
  | .int i, _ => .int i
  | .str x, _ => .str x
  | .bl b, _ => .bl b
  | .non, _ => .non
theorem dpa_sc {K : PySem.W.Frag} {H : Hp} : ∀ {vs : List V}, vs.all isSc = true → DpAll K H vs (vs.map scD)
  | [], _ => .nil
  | v :: vs, h => by
    rw [List.all_cons, Bool.and_eq_true] at h
    exact .cons (dp_sc h.1) (dpa_sc h.2)
theorem TupAt.dp {K : PySem.W.Frag} {H : Hp} {v : V} {xs : List V} (h : TupAt H v xs) (s : xs.all isSc = true) : Dp K H v (.tuple (xs.map scD)) := by
  obtain ⟨a, rfl, h⟩ := h
  exact .tup (.inl (.inl h)) (dpa_sc s)
/-- a row of tuples of scalars -/
inductive Tups (H : Hp) : List V → List (List V) → Prop
  | nil : Tups H [] []
  | cons {v : V} {vs : List V} {x : List V} {xs : List (List V)} : TupAt H v x → Tups H vs xs → Tups H (v :: vs) (x :: xs)
theorem Tups.tx {H H' : Hp} (e : Tx H H') : ∀ {vs : List V} {xs : List (List V)}, Tups H vs xs → Tups H' vs xs
  | _, _, .nil => .nil
  | _, _, .cons h t => .cons (h.tx e) (t.tx e)
theorem Tups.len {H : Hp} : ∀ {vs : List V} {xs : List (List V)}, Tups H vs xs → vs.length = xs.length
  | _, _, .nil => rfl
  | _, _, .cons _ t => by rw [List.length_cons, List.length_cons, t.len]
theorem Tups.snoc {H : Hp} {v : V} {x : List V} (hv : TupAt H v x) : ∀ {vs : List V} {xs : List (List V)}, Tups H vs xs → Tups H (vs ++ [v]) (xs ++ [x])
  | _, _, .nil => .cons hv .nil
  | _, _, .cons h t => .cons h (t.snoc hv)
theorem Tups.app {H : Hp} : ∀ {vs ws : List V} {xs ys : List (List V)}, Tups H vs xs → Tups H ws ys → Tups H (vs ++ ws) (xs ++ ys)
  | _, _, _, _, .nil, t => t
  | _, _, _, _, .cons h r, t => .cons h (r.app t)
theorem Tups.get {H : Hp} : ∀ {vs : List V} {xs : List (List V)} {i : Nat} {v : V}, Tups H vs xs → vs[i]? = some v → ∃ x, xs[i]? = some x ∧ TupAt H v x
  | _, _, 0, _, .cons h _, e => by
    have e' := Option.some.inj e
    exact ⟨_, rfl, e' ▸ h⟩
  | _, _, i + 1, v, .cons _ t, e => by
    obtain ⟨x, h1, h2⟩ := Tups.get (i := i) (v := v) t (by simpa using e)
    exact ⟨x, by simpa using h1, h2⟩
theorem Tups.dp {K : PySem.W.Frag} {H : Hp} : ∀ {vs : List V} {xs : List (List V)}, Tups H vs xs → (∀ x ∈ xs, x.all isSc = true) → DpAll K H vs (xs.map fun x => .tuple (x.map scD))
  | _, _, .nil, _ => .nil
  | _, _, .cons h t, s => .cons (h.dp (s _ (List.mem_cons_self ..))) (t.dp fun x hx => s x (List.mem_cons_of_mem _ hx))

/-! ### readings, a step at a time -/
section
variable {K : PySem.W.Frag} {σ : L2.St} {H : Hp} {Q : VK} {D : Ends} {ta tb te tc : TE} {t u : TT} {x y v : V} {QB : Bool → Hp → Prop} {QA : List V → Hp → Prop} {ts tu tz : TS} {r r' : R2}
theorem r_var {i : Nat} (h : σ[i]? = some (some v)) (q : Q v H) : tVar i σ H Q := ⟨v, h, q⟩
theorem r_c (q : Q v H) : tC v σ H Q := q
theorem r_op (q : ta σ H fun x H1 => tb σ H1 fun y H2 => r x y H2 Q) : tOp r ta tb σ H Q := q
theorem r_un {f : V → Hp → VK → Prop} (q : ta σ H fun x H1 => f x H1 Q) : tUn f ta σ H Q := q
theorem r_I0 {g : Int → Int → V} {i j : Int} (q : Q (g i j) H) : rI0 g (.int i) (.int j) H Q := ⟨i, j, rfl, rfl, q⟩
theorem r_I {C : Int → Int → Prop} {g : Int → Int → V} {i j : Int} (c : C i j) (q : Q (g i j) H) : rI C g (.int i) (.int j) H Q := ⟨i, j, rfl, rfl, c, q⟩
theorem r_U {g : Int → V} {i : Int} (q : Q (g i) H) : rU g (.int i) H Q := ⟨i, rfl, q⟩
theorem r_eq (c : scal x y = true) (q : Q (.bl (decide (x = y))) H) : rEq x y H Q := ⟨c, q⟩
theorem r_ne (c : scal x y = true) (q : Q (.bl (!decide (x = y))) H) : rNe x y H Q := ⟨c, q⟩
theorem r_chain (q : ta σ H fun x H1 => tb σ H1 fun y H2 => r x y H2 fun z H3 => ∃ k, z = .bl k ∧ (if k = true then tc σ H3 fun w' H4 => r' y w' H4 Q else Q (.bl false) H3)) : tChain r r' ta tb tc σ H Q := q
theorem r_test (q : te σ H fun x H' => ∃ k, x = .bl k ∧ QB k H') : tTest te σ H QB := q
theorem r_tB (q : te σ H fun x H' => ∃ k, x = .bl k ∧ QB k H') : tB te σ H QB := q
theorem r_bl {b : Bool} {R : Bool → Prop} (q : R b) : ∃ k, V.bl b = .bl k ∧ R k := ⟨b, rfl, q⟩
theorem r_and (q : t σ H fun c H1 => if c = true then u σ H1 QB else QB false H1) : tAnd t u σ H QB := q
theorem r_or (q : t σ H fun c H1 => if c = true then QB true H1 else u σ H1 QB) : tOr t u σ H QB := q
theorem r_not (q : t σ H fun c H1 => QB (!c) H1) : tNot t σ H QB := q
theorem r_nil (q : QA [] H) : tNil σ H QA := q
theorem r_cons {tr : TA} (q : ta σ H fun x H1 => tr σ H1 fun xs H2 => QA (x :: xs) H2) : tCons ta tr σ H QA := q
theorem r_tup {tr : TA} (q : tr σ H fun xs H1 => xs.length ≤ sizeLine ∧ ∀ p, H1 p = none → Q (.ref p) (upd H1 p (.tup xs))) : tTup tr σ H Q := q
theorem r_lst {tr : TA} (q : tr σ H fun xs H1 => xs.length ≤ sizeLine ∧ ∀ p, H1 p = none → Q (.ref p) (upd H1 p (.lst xs))) : tLst tr σ H Q := q
theorem r_cb {f : List V → Hp → VK → Prop} {tr : TA} (q : tr σ H fun vs H1 => f vs H1 Q) : tCB f tr σ H Q := q
theorem r_call {sp : Sp} {dvs : List V} {E : XK} {tr : TA} (q : tr σ H fun vs H1 => sp (vs ++ dvs) H1 Q E) : tCall sp dvs E tr σ H Q := q
theorem r_seq (q : ts { D with nx := tz D } σ H) : tSeq ts tz D σ H := q
theorem r_set {i : Nat} (q : te σ H fun x H1 => D.nx (σ.set i (some x)) H1) : tAsg te (gName i) D σ H := q
theorem r_drop (q : te σ H fun _ H1 => D.nx σ H1) : tDrop te D σ H := q
theorem r_ret (q : te σ H D.rt) : tRet te D σ H := q
theorem r_next (q : D.nx σ H) : tNext D σ H := q
theorem r_if (q : t σ H fun b H1 => if b = true then ts D σ H1 else tu D σ H1) : tIfS t ts tu D σ H := q
theorem ite_t {b : Bool} {A B : Prop} (h : b = true) (q : A) : if b = true then A else B := by rw [if_pos h]; exact q
theorem ite_f {b : Bool} {A B : Prop} (h : b = false) (q : B) : if b = true then A else B := by rw [if_neg (by rw [h]; decide)]; exact q
theorem ite_b {b : Bool} {A B : Prop} (h1 : b = true → A) (h2 : b = false → B) : if b = true then A else B := by
  cases b with
  | true => rw [if_pos rfl]; exact h1 rfl
  | false => rw [if_neg (by decide)]; exact h2 rfl
end
end AE

set_option Elab.async false
set_option linter.all false
set_option maxRecDepth 100000
namespace AE
open PySem PySem.Spec PyProof.Rows L2 Evl
section
variable {X : Cx}
def rAddS0 : R2 := fun x y H Q => ∃ i j, x = .str i ∧ y = .str j ∧ i.length + j.length ≤ sizeLine ∧ Q (.str (i ++ j)) H
def rAddA (K : PySem.W.Frag) : R2 := fun x y H Q => rI0 (fun i j => .int (i + j)) x y H Q ∨ (rAddS0 x y H Q ∨ (rCat x y H Q ∨ rCatT K x y H Q))
theorem opAdd : OpR X (binaryOp .Add) (rAddA X.K) := OpR.or op_add (OpR.or op_add_str (OpR.or op_cat op_catT))
def cLen (K : PySem.W.Frag) : List V → Hp → VK → Prop := fun xs H Q => (∃ p ys, xs = [.ref p] ∧ (SqL K H p ys ∨ SqT K H p ys) ∧ Q (.int ys.length) H) ∨ (∃ z, xs = [.str z] ∧ z.length ≤ sizeLine ∧ Q (.int z.length) H)
theorem c_len : CallR X (.builtin "len") (cLen X.K) := CallR.or call_len_seq call_len_str
def cInt : List V → Hp → VK → Prop := fun xs H Q => (∃ i, xs = [.int i] ∧ Q (.int i) H) ∨ ∃ k, xs = [.bl k] ∧ Q (.int (if k then 1 else 0)) H
theorem c_int : CallR X (.type "int") cInt := call_int1
def cList (K : PySem.W.Frag) : List V → Hp → VK → Prop := fun xs H Q => ∃ p ys, xs = [.ref p] ∧ (SqL K H p ys ∨ SqT K H p ys) ∧ ∀ l, H l = none → Q (.ref l) (upd H l (.lst ys))
theorem c_list : CallR X (.type "list") (cList X.K) := call_list_of
def cTup (K : PySem.W.Frag) : List V → Hp → VK → Prop := fun xs H Q => ∃ p ys, xs = [.ref p] ∧ ((SqL K H p ys ∧ ∀ l, H l = none → Q (.ref l) (upd H l (.tup ys))) ∨ (SqT K H p ys ∧ Q (.ref p) H))
theorem c_tuple : CallR X (.type "tuple") (cTup X.K) := call_tuple_of
theorem c_isinstance : CallR X (.builtin "isinstance") (rIsi X.K) := call_isi
def rLe1 : R2 := rI0 fun i j => .bl (decide (i ≤ j))
end
section
variable {K : PySem.W.Frag} {σ : L2.St} {H : Hp} {Q : VK} {D : Ends} {ta tb te tc : TE} {t u : TT} {x y v : V} {ts tu tz : TS} {QB : Bool → Hp → Prop} {QA : List V → Hp → Prop}
theorem add_int {i j : Int} (q : Q (.int (i + j)) H) : rAddA K (.int i) (.int j) H Q := .inl ⟨i, j, rfl, rfl, q⟩
theorem add_str {i j : Str} (l : i.length + j.length ≤ sizeLine) (q : Q (.str (i ++ j)) H) : rAddA K (.str i) (.str j) H Q := .inr (.inl ⟨i, j, rfl, rfl, l, q⟩)
theorem add_lst {a b : Addr} {xs ys : List V} (ha : H a = some (.lst xs)) (hb : H b = some (.lst ys)) (l : xs.length + ys.length ≤ sizeLine) (q : ∀ p, H p = none → Q (.ref p) (upd H p (.lst (xs ++ ys)))) : rAddA K (.ref a) (.ref b) H Q :=
  .inr (.inr (.inl ⟨a, b, xs, ys, rfl, rfl, ha, hb, l, q⟩))
theorem len_l {p : Addr} {ys : List V} (h : SqL K H p ys) (q : Q (.int ys.length) H) : cLen K [.ref p] H Q := .inl ⟨p, ys, rfl, .inl h, q⟩
theorem len_t {p : Addr} {ys : List V} (h : SqT K H p ys) (q : Q (.int ys.length) H) : cLen K [.ref p] H Q := .inl ⟨p, ys, rfl, .inr h, q⟩
theorem len_s {z : Str} (h : z.length ≤ sizeLine) (q : Q (.int z.length) H) : cLen K [.str z] H Q := .inr ⟨z, rfl, h, q⟩
theorem int_i {i : Int} (q : Q (.int i) H) : cInt [.int i] H Q := .inl ⟨i, rfl, q⟩
theorem ix_l {p : Addr} {xs : List V} {i : Int} (h : SqL K H p xs) (e : atI xs i = some v) (q : Q v H) : rIx K (.ref p) (.int i) H Q := .inl ⟨p, xs, i, v, rfl, rfl, h, e, q⟩
theorem ix_t {p : Addr} {xs : List V} {i : Int} (h : SqT K H p xs) (e : atI xs i = some v) (q : Q v H) : rIx K (.ref p) (.int i) H Q := .inr (.inl ⟨p, xs, i, v, rfl, rfl, h, e, q⟩)
theorem ix_s {z : Str} {i : Int} {c : Nat} (l : z.length ≤ sizeLine) (e : atI z.cps.toList i = some c) (q : Q (.str ⟨#[c]⟩) H) : rIx K (.str z) (.int i) H Q := .inr (.inr ⟨z, i, c, rfl, rfl, l, e, q⟩)
theorem sl_l {p : Addr} {xs : List V} {lo hi : Option Int} (h : SqL K H p xs) (q : ∀ l, H l = none → Q (.ref l) (upd H l (.lst (cutV xs lo hi)))) : rSlL K (.ref p) lo hi H Q := ⟨p, xs, rfl, h, q⟩
theorem sl_s {z : Str} {lo hi : Option Int} (h : z.length ≤ sizeLine) (q : Q (.str (cutS z lo hi)) H) : rSlS (.str z) lo hi H Q := ⟨z, rfl, h, q⟩
theorem r_sl {r : V → Option Int → Option Int → Hp → VK → Prop} {tl th : TO} (q : te σ H fun x H1 => tl σ H1 fun l H2 => th σ H2 fun u H3 => r x l u H3 Q) : tSl r te tl th σ H Q := q
theorem r_nop {QO : Option Int → Hp → Prop} (q : QO none H) : tNoPart σ H QO := q
theorem r_prt {QO : Option Int → Hp → Prop} (q : te σ H fun x H1 => ∃ i, x = .int i ∧ QO (some i) H1) : tPart te σ H QO := q
theorem r_some {R : Int → Prop} {i : Int} (q : R i) : ∃ j, V.int i = .int j ∧ R j := ⟨i, rfl, q⟩
theorem r_app {i : Nat} {l : Addr} {xs : List V} (h0 : σ[i]? = some (some (.ref l))) (h : H l = some (.lst xs)) (q : te σ H fun y H2 => rAppend (.ref l) [y] H2 Q) : tBM K "list" rAppend (tVar i) (tCons te tNil) σ H Q :=
  ⟨_, h0, .inl ⟨rfl, _, .inl (.inl h)⟩, q⟩
theorem app_l {l : Addr} {xs : List V} (h : H l = some (.lst xs)) (z : xs.length < sizeLine) (q : Q .non (upd H l (.lst (xs ++ [y])))) : rAppend (.ref l) [y] H Q := ⟨l, xs, y, rfl, rfl, h, z, q⟩
/-! loops -/
def LR1 (i : Nat) (tb : TS) (D : Ends) (σ : L2.St) : List V → Hp → Prop := fun vs H1 => ∃ j : Int, vs = [.int j] ∧ -(2 ^ 62) ≤ j ∧ j < 2 ^ 62 ∧
  ∃ W : Nat → Nat → L2.St → Hp → Prop, (∃ m, W 0 m σ H1) ∧ ∀ i' m σ H, W i' m σ H → ((Itr 0 j.toNat).stop i' H ∧ D.nx σ H) ∨ ((Itr 0 j.toNat).go i' H ∧ ∃ N : L2.St → Hp → Prop, (∀ σ' H', N σ' H' → ∃ m', m' < m ∧ W (i' + 1) m' σ' H') ∧
    ∀ x H', (Itr 0 j.toNat).yld i' H x H' → gName i x σ H' fun σ2 H2 => tb { D with nx := N, ct := N, bk := D.nx } σ2 H2)
theorem r_forR1 {ta : TA} {i : Nat} (q : ta σ H (LR1 i tz D σ)) : tFor (iRng1 ta) (gName i) tz D σ H := q
theorem lr1_go {i : Nat} {n : Int} (Pv : Nat → L2.St → Hp → Prop) (h0 : Pv 0 σ H) (hn : 0 ≤ n ∧ n ≤ 100000000)
    (hs : ∀ (k : Nat) σ' H', (k : Int) < n → Pv k σ' H' → tz { D with nx := Pv (k + 1), ct := Pv (k + 1), bk := D.nx } (σ'.set i (some (.int (k : Int)))) H')
    (hd : ∀ σ' H', Pv n.toNat σ' H' → D.nx σ' H') : LR1 i tz D σ [.int n] H :=
  ⟨n, rfl, by omega, by omega, for_range (lo := 0) (n := n.toNat) Pv h0 (fun k σ' H' hk p => by
    have q := hs k σ' H' (by omega) p
    show gName i (.int (0 + (k : Int))) σ' H' _
    rw [Int.zero_add]
    exact q) hd⟩
def LL (K : PySem.W.Frag) (g : TG) (tb : TS) (D : Ends) (σ : L2.St) : V → Hp → Prop := fun x H1 => ∃ a, x = .ref a ∧ (∃ xs, SqL K H1 a xs) ∧
  ∃ W : Nat → Nat → L2.St → Hp → Prop, (∃ m, W 0 m σ H1) ∧ ∀ i m σ H, W i m σ H → ((Itl K a).stop i H ∧ D.nx σ H) ∨ ((Itl K a).go i H ∧ ∃ N : L2.St → Hp → Prop, (∀ σ' H', N σ' H' → ∃ m', m' < m ∧ W (i + 1) m' σ' H') ∧
    ∀ x H', (Itl K a).yld i H x H' → g x σ H' fun σ2 H2 => tb { D with nx := N, ct := N, bk := D.nx } σ2 H2)
theorem r_forL {g : TG} (q : te σ H (LL K g tz D σ)) : tFor (iList K te) g tz D σ H := q
theorem ll_go {g : TG} {a : Addr} {xs : List V} (hx : SqL K H a xs) (Pv : Nat → L2.St → Hp → Prop) (h0 : Pv 0 σ H) (hl : ∀ i σ' H', i ≤ xs.length → Pv i σ' H' → SqL K H' a xs)
    (hs : ∀ i x σ' H', xs[i]? = some x → Pv i σ' H' → g x σ' H' fun σ2 H2 => tz { D with nx := Pv (i + 1), ct := Pv (i + 1), bk := D.nx } σ2 H2)
    (hd : ∀ σ' H', Pv xs.length σ' H' → D.nx σ' H') : LL K g tz D σ (.ref a) H :=
  ⟨a, rfl, ⟨xs, hx⟩, for_list Pv h0 hl hs hd⟩
end
end AE

set_option Elab.async false
set_option linter.all false
set_option maxRecDepth 100000
namespace AE
open PySem PySem.Spec PyProof.Rows L2 Evl
open PySem.W
open Builtin
/-- a number below 1000 as three signs -/
def p3 (a : Int) : Str := ⟨#[48 + (a / 100).toNat, 48 + (a / 10 % 10).toNat, 48 + (a % 10).toNat]⟩
set_option maxHeartbeats 4000000 in
theorem run03 (n : Fin 200) {t : Tok} : ∀ u, Meets («int.__format__» ⟨[.int (n.val : Int) t, .str "03d" u], []⟩) (fun _ R s => ∀ t' k, R (.ok (.ret (.str (p3 (n.val : Int)) t'))) { s with toks := k }) := by
  intro u
  apply KPc.meets_of
  intro _ _ _ _ _ _ hq
  unfold Builtin.«int.__format__»
  refine wpAny_bind (wpAny_of_eq (a := (_, _)) rfl ?_)
  refine wpAny_bind (wpAny_of_eq (a := _) rfl ?_)
  kxf_if
  refine wpAny_bind (wpAny_typeNameOf (T := "str") (typeIs_str _ _ _) (by decide) fun _ => ?_)
  refine wpAny_bind (wpAny_of_eq (a := some _) rfl ?_)
  kxf_if
  kxf_if
  refine wpAny_bind (wpAny_typeNameOfCut_int ?_)
  (repeat kxf_if)
  have hd : ((n.val : Int)).natAbs.log2 < 1920 := by
    have h2 : (n.val : Int).natAbs < 2 ^ 1920 := Nat.lt_of_lt_of_le (show (n.val : Int).natAbs < 1024 by have := n.isLt; omega) (by decide +kernel)
    by_cases hz : (n.val : Int).natAbs = 0
    · rw [hz]; decide
    · exact (Nat.log2_lt hz).mpr h2
  refine wpAny_bind (wpAny_of_eq (PySem.overDigitLimit_small hd) ?_)
  (repeat kxf_if)
  refine KXf.ret_text (T := p3 (n.val : Int)) ?_ ?_ hq
  · clear hq hd
    revert n
    decide +kernel
  · clear hq hd
    revert n
    decide +kernel
theorem fmt03 {prog : Program} {w : World} {A : Around} {E : Value → Shared → Prop} {s : Shared} {a : Int} {t : Tok} {Q : Value → Shared → Prop} (h0 : 0 ≤ a) (h1 : a < 200) (h : ∀ t' k, Q (.str (p3 a) t') { s with toks := k }) :
    wpAny (model prog w) A (formatField (.int a t) "03d") Q E s := by
  have e : a = (((⟨a.toNat, by omega⟩ : Fin 200).val : Nat) : Int) := by show a = (a.toNat : Int); omega
  rw [e]
  rw [e] at h
  exact KXf.field_int rfl (by decide +kernel) (by decide +kernel) (run03 _) h
end AE

set_option Elab.async false
set_option linter.all false
set_option maxRecDepth 100000
namespace AE
open PySem PySem.Spec PyProof.Rows L2 Evl
open PySem.W
open Builtin
/-- a text filled up with blanks to eight signs -/
def pad8 (x : Str) : Str := ⟨x.cps ++ Array.replicate (8 - x.length) 32⟩
set_option maxHeartbeats 4000000 in
theorem runl8 (x : Str) {t : Tok} (hx : x.length ≤ 8) : ∀ u, Meets («str.__format__» ⟨[.str x t, .str "<8" u], []⟩) (fun _ R s => ∀ t' k, R (.ok (.ret (.str (pad8 x) t'))) { s with toks := k }) := by
  intro u
  apply KPc.meets_of
  intro _ _ _ _ _ _ hq
  unfold Builtin.«str.__format__»
  refine wpAny_bind (wpAny_of_eq (a := (_, _, _)) rfl ?_)
  refine wpAny_bind (wpAny_of_eq (a := some _) rfl ?_)
  kxf_if
  kxf_if
  refine wpAny_bind (KXf.cut_str ?_)
  have hp : Float.parseFormatSpec (PySem.Str.ofString "<8").cps.toList "str" 60 = .ok { fill := 32, align := 60, width := some 8 } := by with_unfolding_all rfl
  have hs : Str.strField x { fill := 32, align := 60, width := some 8 } "str" = .ok (if 8 ≤ x.length then none else some (Str.padded (Str.strSub x 0 x.length) 0 (8 - (Str.strSub x 0 x.length).length) 32)) := by
    unfold Str.strField
    by_cases h : 8 ≤ x.length
    · simp [h]
      rfl
    · simp [h]
      rfl
  rw [hp]
  have hb : (PySem.Str.ofString "<8").cps.back? = some 56 := by decide +kernel
  have ht : Str.tooLong 8 = false := by decide +kernel
  simp only [bind, Except.bind, pure, Except.pure, hb, Option.isNone_none, Option.getD_some, ht, hs]
  simp only [show (true && (some 56 == some (0 : Nat))) = false by decide, Bool.false_eq_true, if_false, Option.getD_some, ht, hs]
  have hxl : (Str.strSub x 0 x.length) = x := by
    show (⟨x.cps.extract 0 x.cps.size⟩ : Str) = x
    rw [Array.extract_size]
  by_cases h : 8 ≤ x.length
  · rw [if_pos h]
    have e : x = pad8 x := by
      show x = ⟨x.cps ++ Array.replicate (8 - x.length) 32⟩
      rw [Nat.sub_eq_zero_of_le h]
      show x = ⟨x.cps ++ #[]⟩
      rw [Array.append_empty]
    exact wpAny_bind (wpAny_rule (KXf.ret_same e hq))
  · rw [if_neg h, hxl]
    refine KXf.ret_text ?_ ?_ hq
    · show (⟨Array.replicate 0 32 ++ x.cps ++ Array.replicate (8 - x.length) 32⟩ : Str) = ⟨x.cps ++ Array.replicate (8 - x.length) 32⟩
      rw [show (Array.replicate 0 32 : Array Nat) = #[] from rfl, Array.empty_append]
    · show (Array.replicate 0 32 ++ x.cps ++ Array.replicate (8 - x.length) 32).size ≤ sizeLine
      rw [Array.size_append, Array.size_append, Array.size_replicate, Array.size_replicate]
      have h2 : x.cps.size ≤ 8 := hx
      exact sz_of (by omega)
theorem fmtl8 {prog : Program} {w : World} {A : Around} {E : Value → Shared → Prop} {s : Shared} {x : Str} {t : Tok} {Q : Value → Shared → Prop} (hx : x.length ≤ 8) (h : ∀ t' k, Q (.str (pad8 x) t') { s with toks := k }) :
    wpAny (model prog w) A (formatField (.str x t) "<8") Q E s :=
  KXf.field_str rfl rfl (by decide +kernel) (by decide +kernel) (runl8 x hx) h
/-! the f-string's parts -/
section
variable {X : Cx}
def tF03 (te : TE) : TE := fun σ H Q => te σ H fun x H1 => ∃ i : Int, x = .int i ∧ 0 ≤ i ∧ i < 200 ∧ Q (.str (p3 i)) H1
def tFl8 (te : TE) : TE := fun σ H Q => te σ H fun x H1 => ∃ y : Str, x = .str y ∧ y.length ≤ 8 ∧ Q (.str (pad8 y)) H1
theorem pe_fmtS_03d {e : Expr} {te : TE} {pos p2 p3' : Pos} {j : Nat} (he : PE X e te) : PE X (.FormattedValue e (-1) (some (.JoinedStr [.Constant (.str "03d") j p2] p3')) pos) (tF03 te) := by
  refine ⟨fun pins s σ H Q I h => wpAny_FormattedValue_spec (thn (he.run pins s σ H _ I h) fun v s1 hv => ?_)⟩
  obtain ⟨x, H1, I1, r1, i, rfl, h0, h1, q⟩ := hv
  obtain ⟨t, rfl⟩ := r1
  refine wpAny_JoinedStr_one (Calls.Constant_str ⟨_, _, rfl, fmt03 h0 h1 fun t' k => ⟨.str (p3 i), H1, I1.tok _, ⟨_, rfl⟩, q⟩⟩)
theorem pe_fmtS_l8 {e : Expr} {te : TE} {pos p2 p3' : Pos} {j : Nat} (he : PE X e te) : PE X (.FormattedValue e (-1) (some (.JoinedStr [.Constant (.str "<8") j p2] p3')) pos) (tFl8 te) := by
  refine ⟨fun pins s σ H Q I h => wpAny_FormattedValue_spec (thn (he.run pins s σ H _ I h) fun v s1 hv => ?_)⟩
  obtain ⟨x, H1, I1, r1, y, rfl, h0, q⟩ := hv
  obtain ⟨t, rfl⟩ := r1
  refine wpAny_JoinedStr_one (Calls.Constant_str ⟨_, _, rfl, fmtl8 h0 fun t' k => ⟨.str (pad8 y), H1, I1.tok _, ⟨_, rfl⟩, q⟩⟩)
end
end AE

set_option Elab.async false
set_option linter.all false
set_option maxRecDepth 100000
set_option maxHeartbeats 2000000
namespace AE
open PySem PySem.Spec PyProof.Rows L2 Evl
section
variable {X : Cx} {pins : List (Addr × Obj)} {σ : L2.St} {H : Hp} {s : Shared}
/-- a store into a dict with tuple keys, as a comprehension makes it -/
theorem put_t {D b : Addr} {kvs : List (List Key × V)} {ks : List Key} {v : V} {r : Value} {Q : Unit → Shared → Prop} {Er : Value → Shared → Prop} {A : Around} (hu : A.units < cLine) (I : Inv X pins σ H s) (hD : H D = some (.dT kvs)) (hb : H b = some (.tup (ks.map kV))) (hl : kvs.length < sizeLine)
    (rv : RelV v r) (h : ∀ s1, Inv X pins σ (upd H D (.dT (putK kvs ks v))) s1 → Q () s1) : wpAny (model X.prog X.w) A (dictSet D (.ref b) r) Q Er s := by
  obtain ⟨_, hd, xs, rel, dd⟩ := dt_of I.hok hD
  have hx : xs.length ≤ sizeLine := by
    have e := Paired.length rel
    omega
  have hz : (putK kvs ks v).length ≤ sizeLine := Nat.le_trans (length_putK kvs ks v) (by omega)
  refine wpAny_dictSet_heap (knd := tupleKind (mixKind X.prog X.w)) (hsz := hx) hu (key_of I.hok hb) dd fun h1 dd1 hs => h _ ?_
  obtain ⟨q, es, ep, hq, k2, k3, k4, _, k5⟩ := dd1
  exact d_write I (by rw [hD]; trivial) hs ⟨q, hq⟩ ⟨hz, hd, _, (rel.put ks hb rv).keeps fun c ys ec => by rw [upd_ne (ne_of ec hD (by intro z; cases z))]; exact ec, q, es, ep, hq, k2, k3, k4, k5⟩
/-- the stores of a comprehension whose keys are tuples -/
def sT (D : Addr) : V → V → Hp → (Hp → Prop) → Prop := fun y z H R => ∃ (kvs : List (List Key × V)) (ks : List Key) (b : Addr), y = .ref b ∧ H b = some (.tup (ks.map kV)) ∧ H D = some (.dT kvs) ∧ kvs.length < sizeLine ∧ R (upd H D (.dT (putK kvs ks z)))
def tDcT (wi : TI) (g : TG) (tt : TT) (tk tv : TE) (vs : List Nat) : TE := fun σ H Q => wi σ H fun J Ha => ∀ D, Ha D = none → ∃ W : Nat → Nat → Hp → Prop, (∃ m, W 0 m (upd Ha D (.dT []))) ∧ ∀ i m Hb, W i m Hb →
  (J.stop i Hb ∧ Q (.ref D) Hb) ∨ (J.go i Hb ∧ ∃ Nx : Hp → Prop, (∀ Hc, Nx Hc → ∃ m1, m1 < m ∧ W (i + 1) m1 Hc) ∧ ∀ x Hc, J.yld i Hb x Hc → g x (wipe σ vs) Hc fun σa Hd => wipe σa vs = wipe σ vs ∧ tt σa Hd fun b He =>
    if b = true then tk σa He fun y Hf => tv σa Hf fun z Hg => sT D y z Hg Nx else Nx He)
theorem pe_dcT {kx vx tg iter : Expr} {ifs : List Expr} {scope : Scope} {own : List (Str × Nat)} {pos : Pos} {wi : TI} {g : TG} {tt : TT} {tk tv : TE} (hu : X.A.units < cLine) (hc : X.calm = true) (hN : X.N.Nodup) (hi : PI X tg iter wi) (ok : BlkOk X.N X.env.scope scope own)
    (hg : ∀ s0 H0 C cl fp, PG (X.blk s0 H0 scope (compEnvC scope cl C X.env) fp) tg g) (ht : ∀ s0 H0 C cl fp, PTs (X.blk s0 H0 scope (compEnvC scope cl C X.env) fp) ifs tt)
    (hk : ∀ s0 H0 C cl fp, PE (X.blk s0 H0 scope (compEnvC scope cl C X.env) fp) kx tk) (he : ∀ s0 H0 C cl fp, PE (X.blk s0 H0 scope (compEnvC scope cl C X.env) fp) vx tv)
    (hs : ∀ x, foldedSetIterable iter X.env x = pure x := by intro _; rfl) : PE X (.DictComp kx vx [⟨tg, iter, ifs, 0⟩] scope pos) (tDcT wi g tt tk tv (own.map (·.2))) := by
  refine ⟨fun pins s σ H Q I h => ?_⟩
  rw [arm_eval_DictComp]
  have free : ∀ y ∈ scope.names, y.2 = .free → ∃ c, X.env.cells.lookup y.1 = some c := fun y hy e => by
    rcases ok.free y hy e with z | z
    · exact I.ok.has _ (.inl z)
    · exact I.ok.has _ (.inr z)
  refine wpAny_comprehension_free (use := none) rfl hs (closure_ok free) ok.kind (fun y hy e => by rw [ok.uniq y hy, e]) (thn (hi.run pins s σ H _ I h) fun xv sa hx => thn hx fun itv sb hb => ?_)
  obtain ⟨it, fp, tn, J, Hb, e, Ib, T, stb, fb, q⟩ := hb
  subst e
  refine wpAny_newObj_type (newEnv_comp ?_)
  generalize hDe : sb.heap.objs.size = D
  obtain ⟨W, ⟨m0, w0⟩, turn⟩ := q D (Ib.hok.fresh (Nat.le_of_eq hDe))
  generalize hsc : ({ sb with heap := sb.heap.push { cls := .type "dict", data := .dict #[] } } : Shared) = sc
  have hsc' : sc.heap = sb.heap.push { cls := .type "dict", data := .dict #[] } := by rw [← hsc]
  have Ic : Inv X pins σ (upd Hb D (.dT [])) sc := by
    rw [← hsc]
    refine Ib.laid (t' := sb.toks) (fun _ _ e => Heap.get?_push_of_some _ e) (Nat.le_of_eq hDe) ?_
    rw [← hDe]
    exact dt_empty sb.heap Ib.big
  have old : ∀ b ∈ fp, b < sb.heap.objs.size := fun b hb => by
    obtain ⟨_, z, _⟩ := T.obj _ _ stb b hb
    exact Heap.lt_size z
  have fc : ∀ b ∈ fp, FpOk X pins (upd Hb D (.dT [])) b ∧ b < sc.heap.objs.size := fun b hb => by
    have z := old b hb
    refine ⟨⟨by rw [upd_ne (by rw [← hDe]; exact Nat.ne_of_lt z)]; exact (fb b hb).1, (fb b hb).2⟩, ?_⟩
    rw [hsc', Heap.size_push]
    exact Nat.lt_succ_of_lt z
  have stc : tn 0 sc.heap := T.keep _ _ _ stb fun b _ o e => by rw [hsc']; exact Heap.get?_push_of_some _ e
  have Id := block_start Ic ok hN fc
  have pg := hg sc (upd Hb D (.dT [])) sc.heap.objs.size (cellsFrom (sc.heap.objs.size + 1) scope.names (cloFrom X.env.cells scope.names [])) fp
  have pt := ht sc (upd Hb D (.dT [])) sc.heap.objs.size (cellsFrom (sc.heap.objs.size + 1) scope.names (cloFrom X.env.cells scope.names [])) fp
  have pk := hk sc (upd Hb D (.dT [])) sc.heap.objs.size (cellsFrom (sc.heap.objs.size + 1) scope.names (cloFrom X.env.cells scope.names [])) fp
  have pv := he sc (upd Hb D (.dT [])) sc.heap.objs.size (cellsFrom (sc.heap.objs.size + 1) scope.names (cloFrom X.env.cells scope.names [])) fp
  show codeAny _ _ (.compStart (.DictComp kx vx [⟨tg, iter, ifs, 0⟩] scope pos) 0 (.ref it) (.ref D) (compEnvC scope (cellsFrom (sc.heap.objs.size + 1) scope.names (cloFrom X.env.cells scope.names [])) sc.heap.objs.size X.env)) _ { sc with heap := pushCells (sc.heap.push { cls := .type "dict", data := .dict #[] }) scope.names }
  have nfp : ∀ b ∈ fp, (upd Hb D (.dT [])) b = none := fun b hb => (fc b hb).1.1
  generalize hce : compEnvC scope (cellsFrom (sc.heap.objs.size + 1) scope.names (cloFrom X.env.cells scope.names [])) sc.heap.objs.size X.env = ce at Id pg pt pk pv ⊢
  have cL : ce.locals = sc.heap.objs.size := by subst hce; rfl
  generalize hHc : upd Hb D (.dT []) = Hc at Ic Id pg pt pk pv w0 nfp fc
  generalize hsd : ({ sc with heap := pushCells (sc.heap.push { cls := .type "dict", data := .dict #[] }) scope.names } : Shared) = sd at Id ⊢
  have std : tn 0 sd.heap := T.keep _ _ _ stc fun b _ o e => by rw [← hsd]; exact pushCells_keeps _ _ _ _ (Heap.get?_push_of_some _ e)
  have stat : ∀ {σ1 : L2.St} {H1 : Hp} {s1 : Shared}, Inv (X.blk sc Hc scope ce fp) [] σ1 H1 s1 → (∀ b ∈ fp, H1 b = none) → ∀ b ∈ fp, FpOk (X.blk sc Hc scope ce fp) [] H1 b := fun {σ1 H1 s1} J1 nn b hb =>
    ⟨nn b hb, (J1.ok.exf b hb).1, J1.ok.exfs b hb, .inl hb, fun x c e => (J1.ok.exf b hb).2 x c e, fun p hp => absurd (show p ∈ ([] : List (Addr × Obj)) ++ [] from hp) (by simp)⟩
  refine codeAny_compStart_dict ?_ (T.self X.A 0 _ _ _ std ?_)
  all_goals
    refine compLoop_anyD (fun n s1 => ∃ i H1, Inv (X.blk sc Hc scope ce fp) [] (wipe σ (own.map (·.2))) H1 s1 ∧ tn i s1.heap ∧ (∀ b ∈ fp, H1 b = none) ∧ W i n H1) ?_ m0 ⟨0, Hc, Id, std, nfp, w0⟩
    rintro n s5 ⟨i, H5, I5, st5, n5, w5⟩
    rcases turn i n H5 w5 with ⟨stop, fine⟩ | ⟨go, Nx, less, step⟩
    · refine thnF (T.done (X.blk sc Hc scope ce fp) rfl rfl rfl hc i [] s5 _ H5 (fun _ _ => False) I5 (stat I5 n5) st5 stop) fun r s6 ⟨hr, I6⟩ => ?_
      subst hr
      have I7 : Inv X pins σ H5 s6 := Ic.call' (ch := fp) I6.os I6.base I6.hok I6.bare fun b hb => ⟨(fc b hb).1.2.2.2.1, (fc b hb).1.2.1, (fc b hb).1.2.2.2.2.1, (fc b hb).1.2.2.2.2.2⟩
      have nC : H5 sc.heap.objs.size = none := by
        rw [← cL]
        exact I6.free
      obtain ⟨mm, hmm, _⟩ := I6.loc
      have hm2 : s6.heap.Ns ce.locals mm := hmm
      rw [cL] at hm2
      refine ⟨mm, hm2, fun h2 sb2 => ?_⟩
      obtain ⟨f0, f1, _, f3, f4, f5⟩ := Ic.fpOk (Nat.le_refl _) nC
      exact ⟨.ref D, H5, I7.turned (t' := s6.toks) (fun b o hb e => (sb2.2 b hb).trans e) f0 f1 f3 f4 f5, rfl, fine⟩
    · refine thnF (T.item (X.blk sc Hc scope ce fp) rfl rfl rfl hc i [] s5 _ H5 (fun _ _ => False) I5 (stat I5 n5) st5 go) fun r s6 ⟨u, hr, more⟩ => ?_
      subst hr
      refine thnF more fun _ s7 ⟨x, H7, I7, rx, yx, st7, n7⟩ => ?_
      refine thnF (pg.run _ s7 _ H7 x u _ (I7.pinned (stat I7 n7) (T.obj _ _ st7)) rx (step x H7 yx)) fun _ s8 ⟨σ8, H8, I8, hw, q8⟩ => ?_
      have back : ∀ {s1 : Shared} {H1 : Hp}, Inv (X.blk sc Hc scope ce fp) ([] ++ pinsAt fp s7.heap) σ8 H1 s1 → Nx H1 → ∃ m, m < n ∧ ∃ i H1, Inv (X.blk sc Hc scope ce fp) [] (wipe σ (own.map (·.2))) H1 s1 ∧ tn i s1.heap ∧ (∀ b ∈ fp, H1 b = none) ∧ W i m H1 := fun {s1 H1} J1 nx => by
        obtain ⟨m1, l1, w1⟩ := less H1 nx
        have keep : ∀ b ∈ fp, ∀ o, s7.heap.get? b = some o → s1.heap.get? b = some o ∧ H1 b = none := fun b hb o e => by
          have z := J1.pin (b, o) (List.mem_append_right _ (List.mem_append_right _ (mem_pinsAt hb e)))
          exact ⟨z.1, z.2.1⟩
        refine ⟨m1, l1, i + 1, H1, (J1.unpinned (pins := [])).weak (by rw [← hw, wipe_length]) (fun j v e => ?_), T.keep _ _ _ st7 fun b hb o e => (keep b hb o e).1, fun b hb => ?_, w1⟩
        · rw [← hw] at e
          exact (wipe_some e).1
        · obtain ⟨o, e, _⟩ := T.obj _ _ st7 b hb
          exact (keep b hb o e).2
      refine thnF (pt.run _ s8 σ8 H8 _ I8 q8) fun b s9 ⟨H9, I9, q9⟩ => ?_
      cases b
      · simp only [Bool.false_eq_true, if_false] at q9 ⊢
        exact back I9 q9
      · simp only [if_true] at q9 ⊢
        refine thnF (pk.run _ s9 σ8 H9 _ I9 q9) fun z s10 ⟨yk, H10, I10, rk, q10⟩ => ?_
        refine thnF (pv.run _ s10 σ8 H10 _ I10 q10) fun z2 s11 ⟨yv, H11, I11, rz, kvs, ks, kb, ek, eb, eD, l11, nx⟩ => ?_
        subst ek
        cases rk
        exact put_t (X := X.blk sc Hc scope ce fp) hu I11 eD eb l11 rz fun s12 I12 => back I12 nx
end
end AE

set_option Elab.async false
set_option linter.all false
set_option maxRecDepth 100000
set_option maxHeartbeats 2000000
namespace AE
open PySem PySem.Spec PyProof.Rows L2 Evl
section
variable {X : Cx} {pins : List (Addr × Obj)} {σ : L2.St} {H : Hp} {s : Shared}
theorem setd_t {D b : Addr} {kvs : List (List Key × V)} {ks : List Key} {v : V} {r : Value} {Q : Value → Shared → Prop} {Er : Value → Shared → Prop} {A : Around} (hu : A.units + 1 < cLine) (I : Inv X pins σ H s) (hD : H D = some (.dT kvs)) (hb : H b = some (.tup (ks.map kV))) (hl : kvs.length < sizeLine)
    (rv : RelV v r) (h1 : ∀ x, valV kvs ks = some x → ∀ w1 s1, Inv X pins σ H s1 → RelV x w1 → Q w1 s1) (h2 : valV kvs ks = none → ∀ s1, Inv X pins σ (upd H D (.dT (putK kvs ks v))) s1 → Q r s1) :
    wpAny (model X.prog X.w) A (call (.builtin "dict.setdefault") [.ref D, .ref b, r]) Q Er s := by
  obtain ⟨_, hd, xs, rel, dd⟩ := dt_of I.hok hD
  have hx : xs.length ≤ sizeLine := by
    have e := Paired.length rel
    omega
  have hz : (putK kvs ks v).length ≤ sizeLine := Nat.le_trans (length_putK kvs ks v) (by omega)
  refine call_setdefault_heap (knd := tupleKind (mixKind X.prog X.w)) (hsz := hx) (tupleKind_room_in1 hu) (key_of I.hok hb) hd dd (fun p hp => ?_) fun hn h' dd1 hs => ?_
  · have q := rel.val ks
    rw [hp] at q
    cases q0 : valV kvs ks with
    | none => rw [q0] at q; exact q.elim
    | some x => rw [q0] at q; exact h1 x q0 _ _ (I.tok _) q
  · have q := rel.val ks
    rw [hn] at q
    cases q0 : valV kvs ks with
    | some x => rw [q0] at q; exact q.elim
    | none =>
      refine h2 q0 _ ?_
      obtain ⟨q, es, ep, hq, k2, k3, k4, _, k5⟩ := dd1
      exact d_write I (by rw [hD]; trivial) hs ⟨q, hq⟩ ⟨hz, hd, _, (rel.put ks hb rv).keeps fun c ys ec => by rw [upd_ne (ne_of ec hD (by intro z; cases z))]; exact ec, q, es, ep, hq, k2, k3, k4, k5⟩
end
def tSetdT (td ty tx : TE) : TE := fun σ H Q => td σ H fun x Ha => ∃ a, x = .ref a ∧ IsD Ha a ∧ ty σ Ha fun y Hb => tx σ Hb fun z Hc => ∃ (kvs : List (List Key × V)) (k : List Key) (b : Addr), Hc a = some (.dT kvs) ∧ y = .ref b ∧ Hc b = some (.tup (k.map kV)) ∧ kvs.length < sizeLine ∧
  (∀ v, valV kvs k = some v → Q v Hc) ∧ (valV kvs k = none → Q z (upd Hc a (.dT (putK kvs k z))))
section
variable {X : Cx} {o e f : Expr} {td ty tx : TE} {apos cpos : Pos}
theorem pe_setdT (hu : X.A.units + 1 < cLine) (ho : PE X o td) (he : PE X e ty) (hf : PE X f tx) (m : M2 X o "setdefault" apos e f cpos) : PE X (.Call (.Attribute o "setdefault" apos) [e, f] [] cpos) (tSetdT td ty tx) := by
  refine ⟨fun pins s σ H Q I h => ?_⟩
  refine wpAny_Call_method m.base m.few m.line PySem.F.plainAttrs_dict PySem.F.slot_dict_setdefault PySem.F.type_dict_setdefault (thn (ho.run pins s σ H _ I h) fun u sa ⟨x, Ha, Ia, rx, a, ex, d, q1⟩ => ?_)
  subst ex
  cases rx
  obtain ⟨t1, t2, _⟩ := isD_at Ia d
  refine ⟨t1, t2, ?_⟩
  rw [m.trees]
  refine Calls.callWith_builtin rfl (Calls.evalArgs_plain (Calls.spliced_cons (thn (he.run pins sa σ Ha _ Ia q1) fun iv sb ⟨y, Hb, Ib, ry, q2⟩ => Calls.spliced_cons (thn (hf.run pins sb σ Hb _ Ib q2) fun fv sc hc => Calls.spliced_nil ?_))))
  obtain ⟨z, Hc, Ic, rz, kvs, k, b, ea, ey, eb, hl, q3, q4⟩ := hc
  subst ey
  cases ry
  exact setd_t hu Ic ea eb hl rz (fun v hv w1 s1 I1 r1 => ⟨v, _, I1, r1, q3 v hv⟩) fun hn s1 I1 => ⟨z, _, I1, rz, q4 hn⟩
end
/-! sorted texts of any number -/
section
variable {X : Cx}
def rSortA (K : PySem.W.Frag) : List V → Hp → VK → Prop := fun vs H Q => ∃ (a : Addr) (xs : List Str), vs = [V.ref a] ∧ SqL K H a (xs.map V.str) ∧ xs.length ≤ sizeLine ∧
  ∀ (ys : List Str) (p : Addr), ys.Perm xs → sortedS ys = true → H p = none → Q (.ref p) (upd H p (.lst (ys.map V.str)))
theorem c_sorted : CallR X (.builtin "sorted") (rSortA X.K) := by
  rintro pins s σ H vs us Q I r ⟨a, xs, rfl, hs, hz, q⟩
  obtain ⟨its, rv, hl, _⟩ := I.list hs
  rw [Vals.ref1 r]
  have n0 := rv.length
  rw [List.length_map] at n0
  refine sorted_strsAny hl.isList rv.strs (by omega) fun out ys g1 g2 g3 => ?_
  obtain ⟨ep, hat⟩ := PyProof.Rows.sortedAll_at s.heap its out
  have nz : (ys.map V.str).length ≤ sizeLine := by
    rw [List.length_map, g2.length_eq]
    exact hz
  refine ⟨.ref _, upd H (s.heap.objs.size + 1) (.lst (ys.map V.str)), ?_, rfl, q ys _ g2 g3 (I.hok.fresh (Nat.le_succ _))⟩
  exact I.laid (t' := s.toks) (fun _ _ => PyProof.Rows.sortedAll_old) (Nat.le_succ _) ⟨nz, out.toList, ep, vals_of_strs g1, hat⟩
def rStr : List V → Hp → VK → Prop := fun xs H Q => ∃ a, xs = [.str a] ∧ Q (.str a) H
theorem c_str : CallR X (.type "str") rStr := SkE.call_str_str
end
end AE

set_option Elab.async false
set_option linter.all false
set_option maxRecDepth 100000
namespace AE
open PySem PySem.Spec PyProof.Rows L2 Evl
/-! ### steps and their order -/
abbrev StepD := Int × Str × Int
def stepV (s : StepD) : List V := [.int s.1, .str s.2.1, .int s.2.2]
theorem stepV_sc (s : StepD) : (stepV s).all isSc = true := rfl
def ltS (a b : StepD) : Prop := a.1 < b.1 ∨ (a.1 = b.1 ∧ (a.2.1.cps.toList < b.2.1.cps.toList ∨ (a.2.1 = b.2.1 ∧ a.2.2 < b.2.2)))
structure OkS (n : Int) (s : StepD) : Prop where
  s0 : 0 ≤ s.1
  s1 : s.1 < n
  a0 : 1 ≤ s.2.1.length
  a1 : s.2.1.length ≤ 8
  al : ∀ c ∈ s.2.1.cps.toList, 97 ≤ c ∧ c ≤ 122
  e0 : 0 ≤ s.2.2
  e1 : s.2.2 < n
def keyS (s : StepD) : Str := ((Str.empty ++ p3 s.1) ++ pad8 s.2.1) ++ p3 s.2.2
theorem lex_app {a b x y : List Nat} (h : a < b) (l : a.length = b.length) : a ++ x < b ++ y := by
  induction a generalizing b with
  | nil =>
    cases b with
    | nil => exact absurd h (by simp)
    | cons _ _ => cases l
  | cons p r ih =>
    cases b with
    | nil => cases l
    | cons q t =>
      rw [List.cons_append, List.cons_append, List.cons_lt_cons_iff]
      rw [List.cons_lt_cons_iff] at h
      rcases h with h | ⟨h, k⟩
      · exact .inl h
      · exact .inr ⟨h, ih k (by simpa using l)⟩
theorem lex_pre {a x y : List Nat} (h : x < y) : a ++ x < a ++ y := by
  induction a with
  | nil => exact h
  | cons p r ih =>
    rw [List.cons_append, List.cons_append, List.cons_lt_cons_iff]
    exact .inr ⟨rfl, ih⟩
def d3 (a : Int) : List Nat := [48 + (a / 100).toNat, 48 + (a / 10 % 10).toNat, 48 + (a % 10).toNat]
def padL (x : Str) : List Nat := x.cps.toList ++ List.replicate (8 - x.length) 32
theorem key_list (s : StepD) : (keyS s).cps.toList = d3 s.1 ++ (padL s.2.1 ++ d3 s.2.2) := by
  unfold keyS
  rw [Str.cps_append, Str.cps_append, Str.cps_append]
  simp [Str.empty, p3, pad8, d3, padL]
theorem d3_lt {a b : Int} (h0 : 0 ≤ a) (h1 : b < 1000) (h : a < b) : d3 a < d3 b := by
  unfold d3
  rw [List.cons_lt_cons_iff, List.cons_lt_cons_iff, List.cons_lt_cons_iff]
  by_cases h2 : a / 100 < b / 100
  · exact .inl (by omega)
  · refine .inr ⟨by omega, ?_⟩
    by_cases h3 : a / 10 % 10 < b / 10 % 10
    · exact .inl (by omega)
    · exact .inr ⟨by omega, .inl (by omega)⟩
theorem pad_lt {x y : List Nat} (hx : ∀ c ∈ x, 97 ≤ c) (hy : ∀ c ∈ y, 97 ≤ c) (lx : x.length ≤ 8) (ly : y.length ≤ 8) (h : x < y) : x ++ List.replicate (8 - x.length) 32 < y ++ List.replicate (8 - y.length) 32 := by
  generalize 8 = m at lx ly
  induction x generalizing y m with
  | nil =>
    cases y with
    | nil => exact absurd h (by simp)
    | cons q t =>
      cases m with
      | zero => cases ly
      | succ m =>
        show List.replicate (m + 1) 32 < q :: (t ++ _)
        rw [List.replicate_succ, List.cons_lt_cons_iff]
        have := hy q (List.mem_cons_self ..)
        exact .inl (by omega)
  | cons p r ih =>
    cases y with
    | nil => exact absurd h (by simp)
    | cons q t =>
      rw [List.cons_lt_cons_iff] at h
      rw [List.cons_append, List.cons_append, List.cons_lt_cons_iff]
      rcases h with h | ⟨h, k⟩
      · exact .inl h
      · refine .inr ⟨h, ?_⟩
        cases m with
        | zero => cases ly
        | succ m =>
          have e := ih (y := t) (fun c hc => hx c (List.mem_cons_of_mem _ hc)) (fun c hc => hy c (List.mem_cons_of_mem _ hc)) k m (by simpa using lx) (by simpa using ly)
          rw [List.length_cons, List.length_cons, Nat.add_sub_add_right, Nat.add_sub_add_right]
          exact e
theorem key_lt {n : Int} (hn : n ≤ 200) {a b : StepD} (oa : OkS n a) (ob : OkS n b) (h : ltS a b) : (keyS a).cps.toList < (keyS b).cps.toList := by
  rw [key_list, key_list]
  have := oa.s1; have := ob.s1; have := oa.e1; have := ob.e1
  rcases h with h | ⟨e, h | ⟨e2, h⟩⟩
  · exact lex_app (d3_lt oa.s0 (by omega) h) rfl
  · rw [e]
    refine lex_pre (lex_app (pad_lt (fun c hc => (oa.al c hc).1) (fun c hc => (ob.al c hc).1) oa.a1 ob.a1 h) ?_)
    have la := oa.a1
    have lb := ob.a1
    have ea : a.2.1.cps.toList.length = a.2.1.length := rfl
    have eb : b.2.1.cps.toList.length = b.2.1.length := rfl
    unfold padL
    rw [List.length_append, List.length_append, List.length_replicate, List.length_replicate, ea, eb]
    omega
  · rw [e, e2]
    exact lex_pre (lex_pre (d3_lt oa.e0 (by omega) h))
theorem ltS_irrefl (a : StepD) : ¬ ltS a a := by
  rintro (h | ⟨_, h | ⟨_, h⟩⟩)
  · exact absurd h (by omega)
  · exact List.lt_irrefl _ h
  · exact absurd h (by omega)
theorem ltS_trans {a b c : StepD} (h : ltS a b) (k : ltS b c) : ltS a c := by
  rcases h with h | ⟨e, h | ⟨e2, h⟩⟩
  · rcases k with k | ⟨f, k⟩
    · exact .inl (by omega)
    · exact .inl (by omega)
  · rcases k with k | ⟨f, k | ⟨f2, k⟩⟩
    · exact .inl (by omega)
    · exact .inr ⟨by omega, .inl (List.lt_trans h k)⟩
    · exact .inr ⟨by omega, .inl (by rw [← f2]; exact h)⟩
  · rcases k with k | ⟨f, k | ⟨f2, k⟩⟩
    · exact .inl (by omega)
    · exact .inr ⟨by omega, .inl (by rw [e2]; exact k)⟩
    · exact .inr ⟨by omega, .inr ⟨e2.trans f2, by omega⟩⟩
theorem ltS_tri (a b : StepD) : ltS a b ∨ a = b ∨ ltS b a := by
  rcases Int.lt_trichotomy a.1 b.1 with h | h | h
  · exact .inl (.inl h)
  · by_cases h2 : a.2.1.cps.toList < b.2.1.cps.toList
    · exact .inl (.inr ⟨h, .inl h2⟩)
    · by_cases h3 : b.2.1.cps.toList < a.2.1.cps.toList
      · exact .inr (.inr (.inr ⟨h.symm, .inl h3⟩))
      · have e : a.2.1.cps.toList = b.2.1.cps.toList := List.le_antisymm (List.not_lt.mp h3) (List.not_lt.mp h2)
        have e2 : a.2.1 = b.2.1 := Str.ext' (Array.toList_inj.mp e)
        rcases Int.lt_trichotomy a.2.2 b.2.2 with h4 | h4 | h4
        · exact .inl (.inr ⟨h, .inr ⟨e2, h4⟩⟩)
        · exact .inr (.inl (by
            obtain ⟨x, y, z⟩ := a
            obtain ⟨x', y', z'⟩ := b
            simp only at h e2 h4
            rw [h, e2, h4]))
        · exact .inr (.inr (.inr ⟨h.symm, .inr ⟨e2.symm, h4⟩⟩))
  · exact .inr (.inr (.inl h))
theorem key_inj {n : Int} (hn : n ≤ 200) {a b : StepD} (oa : OkS n a) (ob : OkS n b) (h : keyS a = keyS b) : a = b := by
  rcases ltS_tri a b with k | k | k
  · exact absurd (key_lt hn oa ob k) (by rw [h]; exact List.lt_irrefl _)
  · exact k
  · exact absurd (key_lt hn ob oa k) (by rw [h]; exact List.lt_irrefl _)
/-- two rising rows of the same steps are one -/
theorem rows_eq : ∀ {xs ys : List StepD}, xs.Pairwise ltS → ys.Pairwise ltS → (∀ s, s ∈ xs ↔ s ∈ ys) → xs = ys
  | [], [], _, _, _ => rfl
  | [], y :: ys, _, _, h => absurd ((h y).mpr (List.mem_cons_self ..)) (by simp)
  | x :: xs, [], _, _, h => absurd ((h x).mp (List.mem_cons_self ..)) (by simp)
  | x :: xs, y :: ys, hx, hy, h => by
    rw [List.pairwise_cons] at hx hy
    have e : x = y := by
      rcases List.mem_cons.mp ((h x).mp (List.mem_cons_self ..)) with e | m
      · exact e
      · rcases List.mem_cons.mp ((h y).mpr (List.mem_cons_self ..)) with e | m2
        · exact e.symm
        · exact absurd (ltS_trans (hx.1 y m2) (hy.1 x m)) (ltS_irrefl _)
    subst e
    rw [rows_eq hx.2 hy.2 fun s => ⟨fun m => ?_, fun m => ?_⟩]
    · rcases List.mem_cons.mp ((h s).mp (List.mem_cons_of_mem _ m)) with e | m2
      · subst e
        exact absurd (hx.1 s m) (ltS_irrefl _)
      · exact m2
    · rcases List.mem_cons.mp ((h s).mpr (List.mem_cons_of_mem _ m)) with e | m2
      · subst e
        exact absurd (hy.1 s m) (ltS_irrefl _)
      · exact m2
end AE

set_option Elab.async false
set_option linter.all false
set_option maxRecDepth 100000
namespace AE
open PySem PySem.Spec PyProof.Rows L2 Evl
section
variable {X : Cx}
theorem pe_gi {x : Str} {i : Int} {t : Tok} {pos : Pos} (hg : Gl X x) (hm : X.mg x = some (.int i t)) (hd : (x == ("__debug__" : Str)) = false := by decide) : PE X (.Name x pos) (tC (.int i)) := pe_glob hg hm ⟨t, rfl⟩ hd
def SqA (K : PySem.W.Frag) (H : Hp) (a : Addr) (xs : List V) : Prop := SqL K H a xs ∨ SqT K H a xs
theorem SqA.ex {K : PySem.W.Frag} {H H' : Hp} {a : Addr} {xs : List V} (e : Ex H H') (h : SqA K H a xs) : SqA K H' a xs := h.imp (ex_l e) (ex_t e)
def iSeq (K : PySem.W.Frag) (te : TE) : TI := fun σ H R => iList K te σ H R ∨ iTup K te σ H R
theorem pi_seq {tg l : Expr} {tl : TE} (h : PE X l tl) : PI X tg l (iSeq X.K tl) := by
  refine ⟨fun pins s σ H R I q => ?_⟩
  rcases q with q | q
  · exact (pi_list h).run pins s σ H R I q
  · exact (pi_tup h).run pins s σ H R I q
end
section
variable {K : PySem.W.Frag} {σ : L2.St} {H : Hp} {Q : VK} {D : Ends} {te tk tv : TE} {t : TT} {tz : TS} {g : TG} {i : Nat} {a : Addr} {xs : List V}
/-- a for over the list or tuple in slot i -/
theorem for_seq (h0 : σ[i]? = some (some (.ref a))) (hx : SqA K H a xs) (Pv : Nat → L2.St → Hp → Prop) (hP : Pv 0 σ H) (hl : ∀ j σ' H', j ≤ xs.length → Pv j σ' H' → Ex H H')
    (hs : ∀ j x σ' H', xs[j]? = some x → Pv j σ' H' → g x σ' H' fun σ2 H2 => tz { D with nx := Pv (j + 1), ct := Pv (j + 1), bk := D.nx } σ2 H2)
    (hd : ∀ σ' H', Pv xs.length σ' H' → D.nx σ' H') : tFor (iSeq K (tVar i)) g tz D σ H := by
  rcases hx with hx | hx
  · exact .inl ⟨_, h0, a, rfl, ⟨xs, hx⟩, for_list Pv hP (fun j σ' H' hj p => ex_l (hl j σ' H' hj p) hx) hs hd⟩
  · exact .inr ⟨_, h0, a, rfl, ⟨xs, hx⟩, for_tup Pv hP (fun j σ' H' hj p => ex_t (hl j σ' H' hj p) hx) hs hd⟩
theorem for_t (h0 : σ[i]? = some (some (.ref a))) (hx : SqT K H a xs) (Pv : Nat → L2.St → Hp → Prop) (hP : Pv 0 σ H) (hl : ∀ j σ' H', j ≤ xs.length → Pv j σ' H' → SqT K H' a xs)
    (hs : ∀ j x σ' H', xs[j]? = some x → Pv j σ' H' → g x σ' H' fun σ2 H2 => tz { D with nx := Pv (j + 1), ct := Pv (j + 1), bk := D.nx } σ2 H2)
    (hd : ∀ σ' H', Pv xs.length σ' H' → D.nx σ' H') : tFor (iTup K (tVar i)) g tz D σ H :=
  ⟨_, h0, a, rfl, ⟨xs, hx⟩, for_tup Pv hP hl hs hd⟩
/-- the walk of a dict comprehension, keys ints or texts, over a list or tuple in slot i -/
theorem dc_seq {vs : List Nat} (h0 : σ[i]? = some (some (.ref a))) (hx : SqA K H a xs) (Pv : Addr → Nat → Hp → Prop) (hP : ∀ D, H D = none → Pv D 0 (upd H D (.dK []))) (hl : ∀ D j H', Pv D j H' → Ex H H')
    (hs : ∀ D j x H', xs[j]? = some x → Pv D j H' → g x (wipe σ vs) H' fun σ2 H2 => wipe σ2 vs = wipe σ vs ∧ t σ2 H2 fun b H3 =>
      if b = true then tk σ2 H3 fun y H4 => tv σ2 H4 fun z H5 => ∃ kvs k, y = kV k ∧ H5 D = some (.dK kvs) ∧ kvs.length < sizeLine ∧ Pv D (j + 1) (upd H5 D (.dK (putK kvs k z))) else Pv D (j + 1) H3)
    (hd : ∀ D H', Pv D xs.length H' → Q (.ref D) H') : tDc (iSeq K (tVar i)) g t tk tv vs σ H Q := by
  rcases hx with hx | hx
  · refine .inl ⟨_, h0, a, rfl, ⟨xs, hx⟩, fun D hD => ?_⟩
    refine ⟨fun j m H' => m = xs.length - j ∧ j ≤ xs.length ∧ Pv D j H', ⟨xs.length, by simp, Nat.zero_le _, hP D hD⟩, ?_⟩
    rintro j m H' ⟨rfl, hj, p⟩
    have q := ex_l (hl D j H' p) hx
    by_cases hlt : j < xs.length
    · refine .inr ⟨⟨xs, xs[j], q, by simp [hlt]⟩, Pv D (j + 1), fun H2 p2 => ⟨xs.length - (j + 1), by omega, rfl, hlt, p2⟩, fun x H2 y => ?_⟩
      obtain ⟨e, y⟩ := y
      subst e
      exact hs D j x _ (y xs q) p
    · have e : j = xs.length := by omega
      subst e
      exact .inl ⟨⟨xs, q, Nat.le_refl _⟩, hd D H' p⟩
  · exact .inr ⟨_, h0, a, rfl, ⟨xs, hx⟩, fun D hD => dc_tup (Pv D) (hP D hD) (fun j H' _ p => ex_t (hl D j H' p) hx) (hs D) (hd D)⟩
end
end AE

set_option Elab.async false
set_option linter.all false
set_option maxRecDepth 100000
namespace AE
open PySem PySem.Spec PyProof.Rows L2 Evl
section
variable {K : PySem.W.Frag} {σ : L2.St} {H : Hp} {Q : VK} {ta tb te : TE} {t : TT} {i j : Nat} {a : Addr} {xs : List V} {x y v : V} {J : It} {n : Nat} {G : Hp → Prop}
theorem r_andV (q : ta σ H fun x H1 => ∃ c, x = .bl c ∧ if c = true then tb σ H1 Q else Q (.bl false) H1) : tAndV ta tb σ H Q := q
theorem r_orV (q : ta σ H fun x H1 => ∃ c, x = .bl c ∧ if c = true then Q (.bl true) H1 else tb σ H1 Q) : tOrV ta tb σ H Q := q
theorem r_notV (q : ta σ H fun x H1 => ∃ c, x = .bl c ∧ Q (.bl (!c)) H1) : tNotV ta σ H Q := q
theorem r_ifE (q : t σ H fun c H1 => if c = true then ta σ H1 Q else tb σ H1 Q) : tIf t ta tb σ H Q := q
/-- a comprehension whose tests and items are values: what is made -/
theorem lcp {vs : List Nat} (w : Walk J n G (YAt xs)) (hn : n = xs.length) (hz : xs.length ≤ 1000000) {D : Addr} (hD : H D = none) (hG : ∀ H', Ex H H' → G H') (hw : ∀ x, wipe ((wipe σ vs).set j (some x)) vs = wipe σ vs) (p : V → Bool) (f : V → V)
    (ht : ∀ x ∈ xs, ∀ H1, Ex H H1 → ∀ R : Bool → Hp → Prop, (∀ H2, Ex H1 H2 → R (p x) H2) → t ((wipe σ vs).set j (some x)) H1 R)
    (he : ∀ x ∈ xs, p x = true → ∀ H1, Ex H H1 → ∀ R : VK, (∀ H2, Ex H1 H2 → R (f x) H2) → te ((wipe σ vs).set j (some x)) H1 R)
    {Qd : Hp → Prop} (k : ∀ H1, Ex H H1 → H1 D = some (.lst ((xs.filter p).map f)) → Qd H1) :
    ∃ W : Nat → Nat → Hp → Prop, (∃ m, W 0 m (upd H D (.lst []))) ∧ ∀ i m Ha, W i m Ha →
      (J.stop i Ha ∧ Qd Ha) ∨ (J.go i Ha ∧ ∃ Nx : Hp → Prop, (∀ Hb, Nx Hb → ∃ m', m' < m ∧ W (i + 1) m' Hb) ∧ ∀ x Hb, J.yld i Ha x Hb → gName j x (wipe σ vs) Hb fun σ2 Hc => wipe σ2 vs = wipe σ vs ∧ t σ2 Hc fun b Hd =>
        if b = true then te σ2 Hd fun y He => ∃ acc, He D = some (.lst acc) ∧ acc.length < sizeLine ∧ Nx (upd He D (.lst (acc ++ [y]))) else Nx Hd) := by
  have fl : ∀ m, ((xs.take m).filter p).length ≤ 1000000 := fun m => by
    have := List.length_filter_le p (xs.take m)
    have := List.length_take_le m xs
    have : (xs.take m).length ≤ xs.length := by rw [List.length_take]; omega
    omega
  refine lc_it w (fun m Ha => Ex H Ha ∧ Ha D = some (.lst (((xs.take m).filter p).map f))) ⟨Ex.new hD, upd_same⟩ (fun m Ha _ z => hG Ha z.1) ?_ fun Ha z => ?_
  · rintro m y Ha Hb hm ⟨e1, e2⟩ ⟨rfl, hy⟩
    have hin : y ∈ xs := List.mem_of_getElem? hy
    refine ⟨hw y, ht y hin Hb e1 _ fun Hc e3 => ?_⟩
    have tk : xs.take (m + 1) = xs.take m ++ [y] := by
      rw [List.take_add_one, hy]
      rfl
    cases hp : p y with
    | true =>
      refine ite_t rfl (he y hin hp Hc (e1.trans e3) _ fun Hd e4 => ?_)
      refine ⟨_, e4 _ _ (e3 _ _ e2), by rw [List.length_map]; exact sz_lt' (fl m), ex_upd ((e1.trans e3).trans e4) hD, ?_⟩
      rw [upd_same, tk, List.filter_append, List.filter_cons, if_pos hp, List.map_append]
      rfl
    | false =>
      refine ite_f rfl ⟨e1.trans e3, ?_⟩
      rw [e3 _ _ e2, tk, List.filter_append, List.filter_cons, if_neg (by rw [hp]; decide), List.filter_nil, List.append_nil]
  · refine k Ha z.1 ?_
    rw [z.2, hn, List.take_length]
where
  sz_lt' {n : Nat} (h : n ≤ 1000000) : n < sizeLine := Nat.lt_of_le_of_lt h (by decide)
/-- over a list that is read in slot i -/
theorem lc_l {vs : List Nat} (p : V → Bool) (f : V → V) (hv : ∀ R : VK, R (.ref a) H → ta σ H R) (hx : SqL K H a xs) (hz : xs.length ≤ 1000000) (hw : ∀ x, wipe ((wipe σ vs).set j (some x)) vs = wipe σ vs)
    (ht : ∀ x ∈ xs, ∀ H1, Ex H H1 → ∀ R : Bool → Hp → Prop, (∀ H2, Ex H1 H2 → R (p x) H2) → t ((wipe σ vs).set j (some x)) H1 R)
    (he : ∀ x ∈ xs, p x = true → ∀ H1, Ex H H1 → ∀ R : VK, (∀ H2, Ex H1 H2 → R (f x) H2) → te ((wipe σ vs).set j (some x)) H1 R)
    (k : ∀ D H1, H D = none → Ex H H1 → H1 D = some (.lst ((xs.filter p).map f)) → Q (.ref D) H1) : tLc (iList K ta) (gName j) t te vs σ H Q :=
  hv _ ⟨a, rfl, ⟨xs, hx⟩, fun D hD => lcp (walk_list (K := K) (a := a) (xs := xs)) rfl hz hD (fun _ e => ex_l e hx) hw p f ht he fun H1 e h => k D H1 hD e h⟩
theorem lc_t {vs : List Nat} (p : V → Bool) (f : V → V) (hv : ∀ R : VK, R (.ref a) H → ta σ H R) (hx : SqT K H a xs) (hz : xs.length ≤ 1000000) (hw : ∀ x, wipe ((wipe σ vs).set j (some x)) vs = wipe σ vs)
    (ht : ∀ x ∈ xs, ∀ H1, Ex H H1 → ∀ R : Bool → Hp → Prop, (∀ H2, Ex H1 H2 → R (p x) H2) → t ((wipe σ vs).set j (some x)) H1 R)
    (he : ∀ x ∈ xs, p x = true → ∀ H1, Ex H H1 → ∀ R : VK, (∀ H2, Ex H1 H2 → R (f x) H2) → te ((wipe σ vs).set j (some x)) H1 R)
    (k : ∀ D H1, H D = none → Ex H H1 → H1 D = some (.lst ((xs.filter p).map f)) → Q (.ref D) H1) : tLc (iTup K ta) (gName j) t te vs σ H Q :=
  hv _ ⟨a, rfl, ⟨xs, hx⟩, fun D hD => lcp (walk_tup (K := K) (a := a) (xs := xs)) rfl hz hD (fun _ e => ex_t e hx) hw p f ht he fun H1 e h => k D H1 hD e h⟩
def signsV (z : Str) : List V := z.cps.toList.map fun c => .str ⟨#[c]⟩
theorem lc_s {vs : List Nat} {z : Str} (p : V → Bool) (f : V → V) (hv : ∀ R : VK, R (.str z) H → ta σ H R) (hz : z.length ≤ 1000000) (hw : ∀ x, wipe ((wipe σ vs).set j (some x)) vs = wipe σ vs)
    (ht : ∀ x ∈ signsV z, ∀ H1, Ex H H1 → ∀ R : Bool → Hp → Prop, (∀ H2, Ex H1 H2 → R (p x) H2) → t ((wipe σ vs).set j (some x)) H1 R)
    (he : ∀ x ∈ signsV z, p x = true → ∀ H1, Ex H H1 → ∀ R : VK, (∀ H2, Ex H1 H2 → R (f x) H2) → te ((wipe σ vs).set j (some x)) H1 R)
    (k : ∀ D H1, H D = none → Ex H H1 → H1 D = some (.lst (((signsV z).filter p).map f)) → Q (.ref D) H1) : tLc (iStr ta) (gName j) t te vs σ H Q := by
  have ln : (signsV z).length = z.cps.size := by unfold signsV; rw [List.length_map, Array.length_toList]
  refine hv _ ⟨z, rfl, fun D hD => lcp (xs := signsV z) (walk_str.mono (G' := fun _ => True) (fun _ h => h) fun i Ha x Hb _ _ y => ?_) ln.symm (by rw [ln]; exact hz) hD (fun _ _ => trivial) hw p f ht he fun H1 e h => k D H1 hD e h⟩
  obtain ⟨e, c, hc, rfl⟩ := y
  refine ⟨e, ?_⟩
  unfold signsV
  rw [List.getElem?_map, Array.getElem?_toList, hc]
  rfl
def intsV (n : Nat) : List V := (List.range n).map fun (k : Nat) => V.int (k : Int)
theorem lc_r {vs : List Nat} {tn : TA} {n : Int} (p : V → Bool) (f : V → V) (hv : ∀ R : List V → Hp → Prop, R [.int n] H → tn σ H R) (hz : 0 ≤ n ∧ n ≤ 1000000) (hw : ∀ x, wipe ((wipe σ vs).set j (some x)) vs = wipe σ vs)
    (ht : ∀ x ∈ intsV n.toNat, ∀ H1, Ex H H1 → ∀ R : Bool → Hp → Prop, (∀ H2, Ex H1 H2 → R (p x) H2) → t ((wipe σ vs).set j (some x)) H1 R)
    (he : ∀ x ∈ intsV n.toNat, p x = true → ∀ H1, Ex H H1 → ∀ R : VK, (∀ H2, Ex H1 H2 → R (f x) H2) → te ((wipe σ vs).set j (some x)) H1 R)
    (k : ∀ D H1, H D = none → Ex H H1 → H1 D = some (.lst (((intsV n.toNat).filter p).map f)) → Q (.ref D) H1) : tLc (iRng1 tn) (gName j) t te vs σ H Q := by
  have ln : (intsV n.toNat).length = n.toNat := by unfold intsV; rw [List.length_map, List.length_range]
  refine hv _ ⟨n, rfl, by omega, by omega, fun D hD => lcp (xs := intsV n.toNat) ((walk_range (lo := 0) (n := n.toNat)).mono (G' := fun _ => True) (fun _ h => h) fun i Ha x Hb hi _ y => ?_) ln.symm (by rw [ln]; omega) hD (fun _ _ => trivial) hw p f ht he fun H1 e h => k D H1 hD e h⟩
  obtain ⟨e, rfl⟩ := y
  refine ⟨e, ?_⟩
  unfold intsV
  rw [List.getElem?_map, List.getElem?_range hi]
  show some (V.int (i : Int)) = some (V.int (0 + (i : Int)))
  rw [Int.zero_add]
theorem yes_t {xs : List V} {vs : List Nat} : ∀ x ∈ xs, ∀ H1, Ex H H1 → ∀ R : Bool → Hp → Prop, (∀ H2, Ex H1 H2 → R ((fun _ => true) x) H2) → tYes ((wipe σ vs).set j (some x)) H1 R := fun _ _ H1 _ _ k => k H1 (Ex.refl H1)
theorem filter_yes (l : List V) : l.filter (fun _ => true) = l := List.filter_eq_self.mpr fun _ _ => rfl
end
end AE

set_option Elab.async false
set_option linter.all false
set_option maxRecDepth 100000
namespace AE
open PySem PySem.Spec PyProof.Rows L2 Evl
section
variable {κ : Type} [DecidableEq κ]
theorem keys_put (kvs : List (κ × V)) (k : κ) (v : V) : (putK kvs k v).map (·.1) = if k ∈ kvs.map (·.1) then kvs.map (·.1) else kvs.map (·.1) ++ [k] := by
  unfold putK
  by_cases h : (kvs.any fun kv => decide (kv.1 = k)) = true
  · have m : k ∈ kvs.map (·.1) := by
      obtain ⟨p, hp, e⟩ := List.any_eq_true.mp h
      exact List.mem_map.mpr ⟨p, hp, of_decide_eq_true e⟩
    rw [if_pos h, if_pos m, List.map_map]
    refine List.map_congr_left fun p hp => ?_
    show (if p.1 = k then (p.1, v) else p).1 = p.1
    split <;> rfl
  · have m : ¬ k ∈ kvs.map (·.1) := fun m => by
      obtain ⟨p, hp, e⟩ := List.mem_map.mp m
      exact h (List.any_eq_true.mpr ⟨p, hp, decide_eq_true e⟩)
    rw [if_neg h, if_neg m, List.map_append]
    rfl
theorem nd_put {kvs : List (κ × V)} (k : κ) (v : V) (h : (kvs.map (·.1)).Nodup) : ((putK kvs k v).map (·.1)).Nodup := by
  rw [keys_put]
  split
  · exact h
  · rename_i m
    exact nd_snoc h m
theorem val_some {kvs : List (κ × V)} {k : κ} : (valV kvs k).isSome = true ↔ k ∈ kvs.map (·.1) := by
  rw [← valV_any]
  constructor
  · intro h
    obtain ⟨p, hp, e⟩ := List.any_eq_true.mp h
    exact List.mem_map.mpr ⟨p, hp, of_decide_eq_true e⟩
  · intro h
    obtain ⟨p, hp, e⟩ := List.mem_map.mp h
    exact List.any_eq_true.mpr ⟨p, hp, decide_eq_true e⟩
theorem len_put (kvs : List (κ × V)) (k : κ) (v : V) : (putK kvs k v).length ≤ kvs.length + 1 := length_putK kvs k v
end
theorem tx_dk {H : Hp} {D : Addr} {kvs : List (Key × V)} {o : HO} (h : H D = some (.dK kvs)) : Tx H (upd H D o) := fun a xs e => by
  rw [upd_ne (ne_of e h (by intro z; cases z))]
  exact e
theorem tx_dt {H : Hp} {D : Addr} {kvs : List (List Key × V)} {o : HO} (h : H D = some (.dT kvs)) : Tx H (upd H D o) := fun a xs e => by
  rw [upd_ne (ne_of e h (by intro z; cases z))]
  exact e
theorem tx_lst {H : Hp} {D : Addr} {ys : List V} {o : HO} (h : H D = some (.lst ys)) : Tx H (upd H D o) := fun a xs e => by
  rw [upd_ne (ne_of e h (by intro z; cases z))]
  exact e
section
variable {K : PySem.W.Frag} {σ : L2.St} {H : Hp} {Q : VK} {ta tb te : TE} {t : TT} {i j : Nat} {d : Addr} {kvs : List (Key × V)}
/-- back from under the lock -/
theorem ex_lock {H H1 : Hp} {d : Addr} {od : Obj} {u : HO} (h : H d = some u) (e : Ex (upd H d (.frz od u)) H1) : Ex H (upd H1 d u) := fun a o ha => by
  by_cases z : a = d
  · subst z
    rw [upd_same]
    rw [h] at ha
    exact ha
  · rw [upd_ne z]
    exact e a o (by rw [upd_ne z]; exact ha)
/-- [e for k in d], the items values -/
theorem lc_k {vs : List Nat} (f : V → V) (hv : ∀ H1, ∀ R : VK, R (.ref d) H1 → ta σ H1 R) (hd : H d = some (.dK kvs)) (hz : kvs.length ≤ 1000000) (hw : ∀ x, wipe ((wipe σ vs).set j (some x)) vs = wipe σ vs)
    (he : ∀ x ∈ kvs.map (fun kv => kV kv.1), ∀ H1, ∀ R : VK, R (f x) H1 → te ((wipe σ vs).set j (some x)) H1 R)
    (k : ∀ D H1, H D = none → Ex H H1 → H1 D = some (.lst ((kvs.map fun kv => kV kv.1).map f)) → Q (.ref D) H1) : tLockE (tLc (iKeys ta) (gName j) tYes te vs) σ H Q := by
  refine ⟨d, .dK kvs, hd, trivial, fun od => hv _ _ ⟨d, od, rfl, .inl ⟨kvs, upd_same, fun D hD => ?_⟩⟩⟩
  have hDd : D ≠ d := fun z => by subst z; rw [upd_same] at hD; cases hD
  have hD0 : H D = none := by rw [upd_ne hDd] at hD; exact hD
  refine lcp (H := upd H d (.frz od (.dK kvs))) (xs := kvs.map fun kv => kV kv.1) ((walk_keys (d := d) (o := od) (kvs := kvs)).mono (G' := fun Ha => Ha d = some (.frz od (.dK kvs))) (fun _ h => h) fun i Ha x Hb _ _ y => ?_) (List.length_map ..).symm (by rw [List.length_map]; exact hz) hD
    (fun Ha e => e d _ upd_same) hw (fun _ => true) f yes_t (fun x hx _ H1 e R k => he x hx H1 R (k H1 (Ex.refl H1))) fun H1 e h => ⟨e d _ upd_same, ?_⟩
  · obtain ⟨e, kk, v, hk, rfl⟩ := y
    refine ⟨e, ?_⟩
    rw [List.getElem?_map, hk]
    rfl
  · refine k D _ hD0 (ex_lock hd e) ?_
    rw [upd_ne hDd, h, filter_yes]
end
section
variable {K : PySem.W.Frag} {σ : L2.St} {H : Hp} {Q : VK} {ta tb te : TE} {t : TT} {i j : Nat} {a : Addr} {xs : List V}
theorem js_nil {acc : Str} {R : Str → Hp → Prop} (q : R acc H) : tJs [] acc σ H R := q
theorem yes_q {R : Bool → Hp → Prop} (q : R true H) : tYes σ H R := q
/-- what a comprehension over a list asks once the list is known -/
def LcL (K : PySem.W.Frag) (j : Nat) (t : TT) (te : TE) (vs : List Nat) (σ : L2.St) (Q : VK) : VK := fun x Ha => ∃ a, x = .ref a ∧ (∃ xs, SqL K Ha a xs) ∧ ∀ D, Ha D = none → ∃ W : Nat → Nat → Hp → Prop, (∃ m, W 0 m (upd Ha D (.lst []))) ∧ ∀ i m Hb, W i m Hb →
  ((Itl K a).stop i Hb ∧ Q (.ref D) Hb) ∨ ((Itl K a).go i Hb ∧ ∃ Nx : Hp → Prop, (∀ Hc, Nx Hc → ∃ m', m' < m ∧ W (i + 1) m' Hc) ∧ ∀ x Hc, (Itl K a).yld i Hb x Hc → gName j x (wipe σ vs) Hc fun σ2 Hd => wipe σ2 vs = wipe σ vs ∧ t σ2 Hd fun b He =>
    if b = true then te σ2 He fun y Hf => ∃ acc, Hf D = some (.lst acc) ∧ acc.length < sizeLine ∧ Nx (upd Hf D (.lst (acc ++ [y]))) else Nx He)
theorem r_lcL {vs : List Nat} (q : ta σ H (LcL K j t te vs σ Q)) : tLc (iList K ta) (gName j) t te vs σ H Q := q
theorem lcl_go {vs : List Nat} (p : V → Bool) (f : V → V) (hx : SqL K H a xs) (hz : xs.length ≤ 1000000) (hw : ∀ x, wipe ((wipe σ vs).set j (some x)) vs = wipe σ vs)
    (ht : ∀ x ∈ xs, ∀ H1, Ex H H1 → ∀ R : Bool → Hp → Prop, (∀ H2, Ex H1 H2 → R (p x) H2) → t ((wipe σ vs).set j (some x)) H1 R)
    (he : ∀ x ∈ xs, p x = true → ∀ H1, Ex H H1 → ∀ R : VK, (∀ H2, Ex H1 H2 → R (f x) H2) → te ((wipe σ vs).set j (some x)) H1 R)
    (k : ∀ D H1, H D = none → Ex H H1 → H1 D = some (.lst ((xs.filter p).map f)) → Q (.ref D) H1) : LcL K j t te vs σ Q (.ref a) H :=
  ⟨a, rfl, ⟨xs, hx⟩, fun D hD => lcp (walk_list (K := K) (a := a) (xs := xs)) rfl hz hD (fun _ e => ex_l e hx) hw p f ht he fun H1 e h => k D H1 hD e h⟩
end
/-! strings in order -/
theorem ltCps_eq : ∀ (a b : List Nat), ltCps a b = decide (a < b)
  | [], [] => by simp [ltCps]
  | [], b :: t => by simp [ltCps]
  | a :: r, [] => by simp [ltCps]
  | a :: r, b :: t => by
    unfold ltCps
    rw [ltCps_eq r t]
    by_cases h : a < b
    · simp [h, List.cons_lt_cons_iff]
    · by_cases h2 : a = b
      · subst h2
        simp [List.cons_lt_cons_iff]
      · simp [h, h2, List.cons_lt_cons_iff]
theorem sorted_pw : ∀ {ys : List Str}, sortedS ys = true → ys.Pairwise fun a b => ¬ b.cps.toList < a.cps.toList
  | [], _ => .nil
  | [y], _ => by simp
  | x :: y :: r, h => by
    have h1 : risingS x (y :: r) = true := h
    unfold risingS at h1
    rw [Bool.and_eq_true, ltCps_eq] at h1
    have ih := sorted_pw (ys := y :: r) h1.2
    have h2 : ¬ y.cps.toList < x.cps.toList := by simpa using h1.1
    rw [List.pairwise_cons]
    refine ⟨fun z hz => ?_, ih⟩
    rcases List.mem_cons.mp hz with rfl | hz
    · exact h2
    · rw [List.pairwise_cons] at ih
      exact fun q => List.not_lt.mpr (List.le_trans (List.not_lt.mp h2) (List.not_lt.mp (ih.1 z hz))) q
end AE

set_option Elab.async false
set_option linter.all false
set_option maxRecDepth 100000
namespace AE
open PySem PySem.Spec PyProof.Rows L2 Evl
section
variable {J : It} {n : Nat} {G : Hp → Prop} {Y : Nat → Hp → V → Hp → Prop} {g : TG} {t : TT} {tk tv te : TE} {vs : List Nat} {σ : L2.St} {H : Hp} {D : Addr} {Qd : Hp → Prop}
/-- a dict comprehension over any walk: keys tuples -/
theorem dcT_it (w : Walk J n G Y) (Pv : Nat → Hp → Prop) (h0 : Pv 0 (upd H D (.dT []))) (hG : ∀ i Ha, i ≤ n → Pv i Ha → G Ha)
    (hs : ∀ i x Ha Hb, i < n → Pv i Ha → Y i Ha x Hb → g x (wipe σ vs) Hb fun σ2 Hc => wipe σ2 vs = wipe σ vs ∧ t σ2 Hc fun b Hd =>
      if b = true then tk σ2 Hd fun y He => tv σ2 He fun z Hf => sT D y z Hf (Pv (i + 1)) else Pv (i + 1) Hd) (hd : ∀ Ha, Pv n Ha → Qd Ha) :
    ∃ W : Nat → Nat → Hp → Prop, (∃ m, W 0 m (upd H D (.dT []))) ∧ ∀ i m Ha, W i m Ha →
      (J.stop i Ha ∧ Qd Ha) ∨ (J.go i Ha ∧ ∃ Nx : Hp → Prop, (∀ Hb, Nx Hb → ∃ m1, m1 < m ∧ W (i + 1) m1 Hb) ∧ ∀ x Hb, J.yld i Ha x Hb → g x (wipe σ vs) Hb fun σ2 Hc => wipe σ2 vs = wipe σ vs ∧ t σ2 Hc fun b Hd =>
        if b = true then tk σ2 Hd fun y He => tv σ2 He fun z Hf => sT D y z Hf Nx else Nx Hd) := by
  refine ⟨fun i m Ha => m + i = n ∧ Pv i Ha, ⟨n, by omega, h0⟩, ?_⟩
  rintro i m Ha ⟨hm, p⟩
  have q := hG i Ha (by omega) p
  by_cases hlt : i < n
  · exact .inr ⟨w.goes i Ha hlt q, Pv (i + 1), fun Hb p1 => ⟨m - 1, by omega, by omega, p1⟩, fun x Hb y => hs i x Ha Hb hlt p (w.yields i Ha x Hb hlt q y)⟩
  · obtain rfl : i = n := by omega
    exact .inl ⟨w.stops Ha q, hd Ha p⟩
/-- .. keys ints or texts -/
theorem dcK_it (w : Walk J n G Y) (Pv : Nat → Hp → Prop) (h0 : Pv 0 (upd H D (.dK []))) (hG : ∀ i Ha, i ≤ n → Pv i Ha → G Ha)
    (hs : ∀ i x Ha Hb, i < n → Pv i Ha → Y i Ha x Hb → g x (wipe σ vs) Hb fun σ2 Hc => wipe σ2 vs = wipe σ vs ∧ t σ2 Hc fun b Hd =>
      if b = true then tk σ2 Hd fun y He => tv σ2 He fun z Hf => ∃ kvs k, y = kV k ∧ Hf D = some (.dK kvs) ∧ kvs.length < sizeLine ∧ Pv (i + 1) (upd Hf D (.dK (putK kvs k z))) else Pv (i + 1) Hd) (hd : ∀ Ha, Pv n Ha → Qd Ha) :
    ∃ W : Nat → Nat → Hp → Prop, (∃ m, W 0 m (upd H D (.dK []))) ∧ ∀ i m Ha, W i m Ha →
      (J.stop i Ha ∧ Qd Ha) ∨ (J.go i Ha ∧ ∃ Nx : Hp → Prop, (∀ Hb, Nx Hb → ∃ m1, m1 < m ∧ W (i + 1) m1 Hb) ∧ ∀ x Hb, J.yld i Ha x Hb → g x (wipe σ vs) Hb fun σ2 Hc => wipe σ2 vs = wipe σ vs ∧ t σ2 Hc fun b Hd =>
        if b = true then tk σ2 Hd fun y He => tv σ2 He fun z Hf => ∃ kvs k, y = kV k ∧ Hf D = some (.dK kvs) ∧ kvs.length < sizeLine ∧ Nx (upd Hf D (.dK (putK kvs k z))) else Nx Hd) := by
  refine ⟨fun i m Ha => m + i = n ∧ Pv i Ha, ⟨n, by omega, h0⟩, ?_⟩
  rintro i m Ha ⟨hm, p⟩
  have q := hG i Ha (by omega) p
  by_cases hlt : i < n
  · exact .inr ⟨w.goes i Ha hlt q, Pv (i + 1), fun Hb p1 => ⟨m - 1, by omega, by omega, p1⟩, fun x Hb y => hs i x Ha Hb hlt p (w.yields i Ha x Hb hlt q y)⟩
  · obtain rfl : i = n := by omega
    exact .inl ⟨w.stops Ha q, hd Ha p⟩
end
/-! ### rows grouped -/
/-- a dict of lists: at each key the list of the values that f gives of the row's members with that key -/
structure Grp {κ : Type} [DecidableEq κ] (H0 H : Hp) (kvs : List (κ × V)) (G : κ → List V) : Prop where
  nd : (kvs.map (·.1)).Nodup
  val : ∀ k v, valV kvs k = some v → ∃ l, v = .ref l ∧ H l = some (.lst (G k)) ∧ H0 l = none ∧ G k ≠ []
  has : ∀ k, G k ≠ [] → (valV kvs k).isSome = true
  inj : ∀ k k' l, valV kvs k = some (.ref l) → valV kvs k' = some (.ref l) → k = k'
section
variable {κ : Type} [DecidableEq κ] {H0 H H' : Hp} {kvs : List (κ × V)} {G : κ → List V}
theorem Grp.nil (h : ∀ k, G k = []) : Grp H0 H ([] : List (κ × V)) G := ⟨List.nodup_nil, fun _ _ h => (by cases h), fun k e => absurd (h k) e, fun _ _ _ h => (by cases h)⟩
theorem Grp.mono (g : Grp H0 H kvs G) (e : ∀ l xs, H l = some (.lst xs) → H' l = some (.lst xs)) : Grp H0 H' kvs G :=
  ⟨g.nd, fun k v h => by obtain ⟨l, a, b, c⟩ := g.val k v h; exact ⟨l, a, e l _ b, c⟩, g.has, g.inj⟩
/-- one more at a key that is there -/
theorem Grp.more {k : κ} {l : Addr} {x : V} (g : Grp H0 H kvs G) (h : valV kvs k = some (.ref l)) (e : ∀ a xs, a ≠ l → H a = some (.lst xs) → H' a = some (.lst xs)) (hl : H' l = some (.lst (G k ++ [x]))) : Grp H0 H' kvs fun k' => if k' = k then G k ++ [x] else G k' := by
  obtain ⟨l1, e1, _, h0, _⟩ := g.val k _ h
  cases e1
  refine ⟨g.nd, fun k' v hv => ?_, fun k' hk => ?_, g.inj⟩
  · obtain ⟨l2, rfl, h2, h3, h4⟩ := g.val k' v hv
    by_cases z : k' = k
    · subst z
      rw [h] at hv
      cases hv
      exact ⟨l, rfl, by rw [if_pos rfl]; exact hl, h3, by rw [if_pos rfl]; simp⟩
    · refine ⟨l2, rfl, ?_, h3, by rw [if_neg z]; exact h4⟩
      rw [if_neg z]
      exact e _ _ (fun q => z (g.inj k' k l (by rw [hv, q]) h)) h2
  · by_cases z : k' = k
    · subst z
      rw [h]
      rfl
    · rw [if_neg z] at hk
      exact g.has k' hk
/-- a new key -/
theorem Grp.new {k : κ} {l : Addr} {x : V} (g : Grp H0 H kvs G) (h : valV kvs k = none) (hn : H l = none) (hl0 : H0 l = none) (e : ∀ a xs, a ≠ l → H a = some (.lst xs) → H' a = some (.lst xs)) (hl : H' l = some (.lst [x])) : Grp H0 H' (putK kvs k (.ref l)) fun k' => if k' = k then G k ++ [x] else G k' := by
  have gk : G k = [] := by
    by_cases z : G k = []
    · exact z
    · have := g.has k z
      rw [h] at this
      cases this
  refine ⟨nd_put _ _ g.nd, fun k' v hv => ?_, fun k' hk => ?_, fun a b m ha hb => ?_⟩
  · rw [valV_put] at hv
    by_cases z : k' = k
    · subst z
      rw [if_pos rfl] at hv
      cases hv
      exact ⟨l, rfl, by rw [if_pos rfl, gk]; exact hl, hl0, by rw [if_pos rfl]; simp⟩
    · rw [if_neg z] at hv
      obtain ⟨l2, rfl, h2, h3, h4⟩ := g.val k' v hv
      exact ⟨l2, rfl, by rw [if_neg z]; exact e _ _ (fun q => by rw [q, hn] at h2; cases h2) h2, h3, by rw [if_neg z]; exact h4⟩
  · rw [valV_put]
    by_cases z : k' = k
    · rw [if_pos z]
      rfl
    · rw [if_neg z] at hk ⊢
      exact g.has k' hk
  · have old : ∀ c, valV kvs c = some (.ref m) → m ≠ l := fun c hc q => by
      obtain ⟨l2, e2, h2, _⟩ := g.val c _ hc
      cases e2
      rw [q, hn] at h2
      cases h2
    rw [valV_put] at ha hb
    by_cases za : a = k
    · by_cases zb : b = k
      · rw [za, zb]
      · rw [if_pos za] at ha
        rw [if_neg zb] at hb
        cases ha
        exact absurd rfl (old b hb)
    · rw [if_neg za] at ha
      by_cases zb : b = k
      · rw [if_pos zb] at hb
        cases hb
        exact absurd rfl (old a ha)
      · rw [if_neg zb] at hb
        exact g.inj a b m ha hb
/-- the same, each list a tuple: what a machine keeps -/
def GrpT (H : Hp) (kvs : List (κ × V)) (G : κ → List V) : Prop := ∀ k, (G k = [] → valV kvs k = none) ∧ (G k ≠ [] → ∃ p, valV kvs k = some (.ref p) ∧ H p = some (.tup (G k)))
theorem GrpT.tx {kvs : List (κ × V)} (e : Tx H H') (g : GrpT H kvs G) : GrpT H' kvs G := fun k => ⟨(g k).1, fun h => by obtain ⟨p, a, b⟩ := (g k).2 h; exact ⟨p, a, e _ _ b⟩⟩
end
def endsF (rows : List StepD) (k : List Key) : List V := (rows.filter fun s => decide ([.inl s.1, .inr s.2.1] = k)).map fun s => .int s.2.2
theorem endsF_snoc (rows : List StepD) (s : StepD) (k : List Key) : endsF (rows ++ [s]) k = if k = [.inl s.1, .inr s.2.1] then endsF rows [.inl s.1, .inr s.2.1] ++ [.int s.2.2] else endsF rows k := by
  unfold endsF
  rw [List.filter_append, List.map_append]
  by_cases h : k = [.inl s.1, .inr s.2.1]
  · rw [if_pos h, h, List.filter_cons, if_pos (decide_eq_true rfl)]
    rfl
  · rw [if_neg h, List.filter_cons, if_neg (by rw [decide_eq_false (fun q => h q.symm)]; decide)]
    simp
end AE

set_option Elab.async false
set_option linter.all false
set_option maxRecDepth 100000
namespace AE
open PySem PySem.Spec PyProof.Rows L2 Evl
/-! the rules that speak of the written part, told for a block -/
section
variable {X : Cx} {K : PySem.W.Frag}
theorem opAddK (h : X.K = K := by rfl) : OpR X (binaryOp .Add) (rAddA K) := by subst h; exact opAdd
theorem c_lenK (h : X.K = K := by rfl) : CallR X (.builtin "len") (cLen K) := by subst h; exact c_len
theorem c_listK (h : X.K = K := by rfl) : CallR X (.type "list") (cList K) := by subst h; exact c_list
theorem c_tupleK (h : X.K = K := by rfl) : CallR X (.type "tuple") (cTup K) := by subst h; exact c_tuple
theorem c_isinstanceK (h : X.K = K := by rfl) : CallR X (.builtin "isinstance") (rIsi K) := by subst h; exact c_isinstance
theorem ix_seqK (h : X.K = K := by rfl) : IxR X (rIx K) := by subst h; exact ix_seq
theorem sl_listK (h : X.K = K := by rfl) : SlR X (rSlL K) := by subst h; exact sl_list
theorem op_in_seqK (h : X.K = K := by rfl) : OpR X (compareOp .In) (rIn K false) := by subst h; exact op_in_seq
theorem op_notIn_seqK (h : X.K = K := by rfl) : OpR X (compareOp .NotIn) (rIn K true) := by subst h; exact op_notIn_seq
theorem op_inDK (hu : X.A.units + 65 < cLine) (h : X.K = K := by rfl) : OpR X (compareOp .In) (rInD K) := by subst h; exact op_inD hu
theorem op_eqDK (hu : X.A.units + 64 < cLine) (h : X.K = K := by rfl) : OpR X (compareOp .Eq) (rEqD K) := by subst h; exact op_eqD hu
theorem op_neDK (hu : X.A.units + 64 < cLine) (h : X.K = K := by rfl) : OpR X (compareOp .NotEq) (rNeD K) := by subst h; exact op_neD hu
theorem pe_fldK {e : Expr} {ta : TE} {f : Str} {pos : Pos} (he : PE X e ta) (hb : attributeBase e f X.env (eval e X.env) = eval e X.env) (h : X.K = K := by rfl) : PE X (.Attribute e f pos) (tFld K ta f) := by subst h; exact pe_fld he hb
end
end AE

set_option Elab.async false
set_option linter.all false
set_option maxRecDepth 100000
namespace AE
open PySem PySem.Spec PyProof.Rows L2 Evl
section
variable {K : PySem.W.Frag} {σ : L2.St} {H H0 : Hp} {Q : VK} {d : Addr} {i j : Nat} {vs : List Nat}
theorem grp_tupT {kvs : List (List Key × V)} {G : List Key → List V} (hi : σ[i]? = some (some (.ref d))) (hi2 : ∀ x, ((wipe σ vs).set j (some x))[i]? = some (some (.ref d))) (hj : ∀ x, ((wipe σ vs).set j (some x))[j]? = some (some x))
    (hw : ∀ x, wipe ((wipe σ vs).set j (some x)) vs = wipe σ vs) (hd : H d = some (.dT kvs)) (g : Grp H0 H kvs G) (kl : kvs.length ≤ 1000)
    (k : ∀ p H1, H p = none → Ex H H1 → (∃ k2, H1 p = some (.dT k2) ∧ GrpT H1 k2 G) → Q (.ref p) H1) :
    tLockE (tDcT (iKeys (tVar i)) (gName j) tYes (tVar j) (tCB (cTup K) (tCons (tDGet (tVar i) (tVar j)) tNil)) vs) σ H Q := by
  refine ⟨d, .dT kvs, hd, trivial, fun od => ⟨_, hi, d, od, rfl, .inr ⟨kvs, upd_same, fun D hD => ?_⟩⟩⟩
  have hDd : D ≠ d := fun z => by subst z; rw [upd_same] at hD; cases hD
  have hD0 : H D = none := by rw [upd_ne hDd] at hD; exact hD
  have old : ∀ {Ha : Hp} {a : Addr} {o : HO}, Ex (upd H d (.frz od (.dT kvs))) Ha → a ≠ d → H a = some o → Ha a = some o := fun e z h => e _ _ (by rw [upd_ne z]; exact h)
  refine dcT_it (walk_keysT (d := d) (o := od) (kvs := kvs)) (fun m Ha => Ex (upd H d (.frz od (.dT kvs))) Ha ∧ ∃ k2, Ha D = some (.dT k2) ∧ k2.length ≤ m ∧ (∀ k v, valV k2 k = some v → ∃ p, v = .ref p ∧ Ha p = some (.tup (G k)) ∧ G k ≠ []) ∧ ∀ kv ∈ kvs.take m, (valV k2 kv.1).isSome = true)
    ⟨Ex.new hD, [], upd_same, Nat.le_refl _, fun _ _ h => (by cases h), fun _ h => (by cases h)⟩ (fun m Ha _ p => p.1 d _ upd_same) ?_ ?_
  · rintro m x Ha Hb hm ⟨e, k2, hk2, kl2, val, has⟩ ⟨rfl, kk, v0, q, hkv, rfl, hq⟩
    have fz := e d _ upd_same
    refine ⟨hw _, yes_q (ite_t rfl ⟨_, hj _, ?_⟩)⟩
    obtain ⟨v, hv⟩ := Option.isSome_iff_exists.mp (val_some.mpr (List.mem_map.mpr ⟨(kk, v0), List.mem_of_getElem? hkv, rfl⟩))
    obtain ⟨l, rfl, hl, hl0, ne⟩ := g.val kk v hv
    have ld : l ≠ d := ne_of hl hd (by intro z; cases z)
    refine ⟨_, hi2 _, _, hj _, d, .ref l, rfl, .inr ⟨kvs, kk, q, .inr ⟨od, fz⟩, rfl, hq, hv.symm⟩, l, G kk, rfl, .inl ⟨.inl (.inl (old e ld hl)), fun p hp => ?_⟩⟩
    have hqp : q ≠ p := ne_of_none hq hp
    have hDp : D ≠ p := ne_of_none hk2 hp
    have hk3 : (upd Hb p (.tup (G kk))) D = some (.dT k2) := by rw [upd_ne hDp]; exact hk2
    refine ⟨k2, kk, q, rfl, by rw [upd_ne hqp]; exact hq, hk3, sz_lt (by omega), ex_upd (e.trans (Ex.new hp)) hD, _, upd_same, Nat.le_trans (len_put _ _ _) (by omega), fun k' v' h' => ?_, fun kv hkv' => ?_⟩
    · rw [valV_put] at h'
      by_cases z : k' = kk
      · rw [if_pos z] at h'
        cases h'
        exact ⟨p, rfl, by rw [upd_ne hDp.symm, upd_same, z], by rw [z]; exact ne⟩
      · rw [if_neg z] at h'
        obtain ⟨p', a1, a2, a3⟩ := val k' v' h'
        refine ⟨p', a1, tx_dt hk3 _ _ (Ex.new hp _ _ a2), a3⟩
    · rw [valV_put]
      by_cases z : kv.1 = kk
      · rw [if_pos z]
        rfl
      · rw [if_neg z]
        rw [List.take_add_one, hkv] at hkv'
        rcases List.mem_append.mp hkv' with h | h
        · exact has kv h
        · exact absurd (by rw [List.mem_singleton.mp h]) z
  · rintro Ha ⟨e, k2, hk2, kl2, val, has⟩
    rw [List.take_length] at has
    refine ⟨e d _ upd_same, k D _ hD0 (ex_lock hd e) ⟨k2, by rw [upd_ne hDd]; exact hk2, fun k' => ⟨fun z => ?_, fun z => ?_⟩⟩⟩
    · cases hh : valV k2 k' with
      | none => rfl
      | some v =>
        obtain ⟨_, _, _, n⟩ := val k' v hh
        exact absurd z n
    · obtain ⟨kv, hkv, rfl⟩ := List.mem_map.mp (val_some.mp (g.has k' z))
      obtain ⟨v, hv⟩ := Option.isSome_iff_exists.mp (has kv hkv)
      obtain ⟨p, rfl, hp, _⟩ := val _ v hv
      exact ⟨p, hv, by rw [upd_ne (fun z => by subst z; rw [e _ _ upd_same] at hp; cases hp)]; exact hp⟩
theorem grp_tupK {kvs : List (Key × V)} {G : Key → List V} (hu : True) (hi : σ[i]? = some (some (.ref d))) (hi2 : ∀ x, ((wipe σ vs).set j (some x))[i]? = some (some (.ref d))) (hj : ∀ x, ((wipe σ vs).set j (some x))[j]? = some (some x))
    (hw : ∀ x, wipe ((wipe σ vs).set j (some x)) vs = wipe σ vs) (hd : H d = some (.dK kvs)) (g : Grp H0 H kvs G) (kl : kvs.length ≤ 1000)
    (k : ∀ p H1, H p = none → Ex H H1 → (∃ k2, H1 p = some (.dK k2) ∧ GrpT H1 k2 G) → Q (.ref p) H1) :
    tLockE (tDc (iKeys (tVar i)) (gName j) tYes (tVar j) (tCB (cTup K) (tCons (tDGet (tVar i) (tVar j)) tNil)) vs) σ H Q := by
  refine ⟨d, .dK kvs, hd, trivial, fun od => ⟨_, hi, d, od, rfl, .inl ⟨kvs, upd_same, fun D hD => ?_⟩⟩⟩
  have hDd : D ≠ d := fun z => by subst z; rw [upd_same] at hD; cases hD
  have hD0 : H D = none := by rw [upd_ne hDd] at hD; exact hD
  have old : ∀ {Ha : Hp} {a : Addr} {o : HO}, Ex (upd H d (.frz od (.dK kvs))) Ha → a ≠ d → H a = some o → Ha a = some o := fun e z h => e _ _ (by rw [upd_ne z]; exact h)
  refine dcK_it (walk_keys (d := d) (o := od) (kvs := kvs)) (fun m Ha => Ex (upd H d (.frz od (.dK kvs))) Ha ∧ ∃ k2, Ha D = some (.dK k2) ∧ k2.length ≤ m ∧ (∀ k v, valV k2 k = some v → ∃ p, v = .ref p ∧ Ha p = some (.tup (G k)) ∧ G k ≠ []) ∧ ∀ kv ∈ kvs.take m, (valV k2 kv.1).isSome = true)
    ⟨Ex.new hD, [], upd_same, Nat.le_refl _, fun _ _ h => (by cases h), fun _ h => (by cases h)⟩ (fun m Ha _ p => p.1 d _ upd_same) ?_ ?_
  · rintro m x Ha Hb hm ⟨e, k2, hk2, kl2, val, has⟩ ⟨rfl, kk, v0, hkv, rfl⟩
    have fz := e d _ upd_same
    refine ⟨hw _, yes_q (ite_t rfl ⟨_, hj _, ?_⟩)⟩
    obtain ⟨v, hv⟩ := Option.isSome_iff_exists.mp (val_some.mpr (List.mem_map.mpr ⟨(kk, v0), List.mem_of_getElem? hkv, rfl⟩))
    obtain ⟨l, rfl, hl, hl0, ne⟩ := g.val kk v hv
    have ld : l ≠ d := ne_of hl hd (by intro z; cases z)
    refine ⟨_, hi2 _, _, hj _, d, .ref l, rfl, .inl ⟨kvs, kk, .inr ⟨od, fz⟩, rfl, hv.symm⟩, l, G kk, rfl, .inl ⟨.inl (.inl (old e ld hl)), fun p hp => ?_⟩⟩
    have hDp : D ≠ p := ne_of_none hk2 hp
    have hk3 : (upd Hb p (.tup (G kk))) D = some (.dK k2) := by rw [upd_ne hDp]; exact hk2
    refine ⟨k2, kk, rfl, hk3, sz_lt (by omega), ex_upd (e.trans (Ex.new hp)) hD, _, upd_same, Nat.le_trans (len_put _ _ _) (by omega), fun k' v' h' => ?_, fun kv hkv' => ?_⟩
    · rw [valV_put] at h'
      by_cases z : k' = kk
      · rw [if_pos z] at h'
        cases h'
        exact ⟨p, rfl, by rw [upd_ne hDp.symm, upd_same, z], by rw [z]; exact ne⟩
      · rw [if_neg z] at h'
        obtain ⟨p', a1, a2, a3⟩ := val k' v' h'
        exact ⟨p', a1, tx_dk hk3 _ _ (Ex.new hp _ _ a2), a3⟩
    · rw [valV_put]
      by_cases z : kv.1 = kk
      · rw [if_pos z]
        rfl
      · rw [if_neg z]
        rw [List.take_add_one, hkv] at hkv'
        rcases List.mem_append.mp hkv' with h | h
        · exact has kv h
        · exact absurd (by rw [List.mem_singleton.mp h]) z
  · rintro Ha ⟨e, k2, hk2, kl2, val, has⟩
    rw [List.take_length] at has
    refine ⟨e d _ upd_same, k D _ hD0 (ex_lock hd e) ⟨k2, by rw [upd_ne hDd]; exact hk2, fun k' => ⟨fun z => ?_, fun z => ?_⟩⟩⟩
    · cases hh : valV k2 k' with
      | none => rfl
      | some v =>
        obtain ⟨_, _, _, n⟩ := val k' v hh
        exact absurd z n
    · obtain ⟨kv, hkv, rfl⟩ := List.mem_map.mp (val_some.mp (g.has k' z))
      obtain ⟨v, hv⟩ := Option.isSome_iff_exists.mp (has kv hkv)
      obtain ⟨p, rfl, hp, _⟩ := val _ v hv
      exact ⟨p, hv, by rw [upd_ne (fun z => by subst z; rw [e _ _ upd_same] at hp; cases hp)]; exact hp⟩
end
/-- pairs of a state -/
def pairD (s : StepD) : List V := [.str s.2.1, .int s.2.2]
end AE

set_option Elab.async false
set_option linter.all false
set_option maxRecDepth 100000
namespace AE
open PySem PySem.Spec PyProof.Rows L2 Evl
section
variable {K : PySem.W.Frag} {σ : L2.St} {H : Hp} {Q : VK} {D : Ends} {ta tv : TE} {f : Str} {a C dx : Addr} {fs : List (Str × V)} {v : V} {i : Nat}
def StF (K : PySem.W.Frag) (f : Str) (x y : V) (H : Hp) (R : Hp → Prop) : Prop := ∃ a C dx fs, x = .ref a ∧ H a = some (.ins C dx fs) ∧ Cls K C ∧ NoAttr K C f ∧ fs.length < 1000 ∧ R (upd H a (.ins C dx (putF f y fs)))
theorem r_fld (q : tv σ H fun y H1 => ta σ H1 fun x H2 => StF K f x y H2 (D.nx σ)) : sFld K ta tv f D σ H := q
theorem stf_go {R : Hp → Prop} (h : H a = some (.ins C dx fs)) (c : Cls K C) (n : NoAttr K C f) (l : fs.length < 1000) (q : ∀ H1, Ch a H H1 → H1 a = some (.ins C dx (putF f v fs)) → R H1) : StF K f (.ref a) v H R :=
  ⟨a, C, dx, fs, rfl, h, c, n, l, q _ ch_upd upd_same⟩
def GtF (K : PySem.W.Frag) (f : Str) (x : V) (H : Hp) (Q : VK) : Prop := ∃ a C dx fs v, x = .ref a ∧ H a = some (.ins C dx fs) ∧ Cls K C ∧ NoAttr K C f ∧ fs.lookup f = some v ∧ Q v H
theorem r_get (q : ta σ H fun x H1 => GtF K f x H1 Q) : tFld K ta f σ H Q := q
theorem gtf_go (h : H a = some (.ins C dx fs)) (c : Cls K C) (n : NoAttr K C f) (e : fs.lookup f = some v) (q : Q v H) : GtF K f (.ref a) H Q := ⟨a, C, dx, fs, v, rfl, h, c, n, e, q⟩
theorem r_dget2 {td ty tx : TE} (q : td σ H fun x H1 => ∃ a, x = .ref a ∧ IsD H1 a ∧ ty σ H1 fun y H2 => tx σ H2 fun z H3 => ∃ o, DGet H3 a y o ∧ Q (o.getD z) H3) : tDGet2 td ty tx σ H Q := q
/-- k in d, by what stands there -/
theorem r_din {td ty : TE} (q : ty σ H fun y H1 => td σ H1 fun x H2 => ∃ a o, x = .ref a ∧ DGet H2 a y o ∧ Q (.bl o.isSome) H2) : tDIn ty td σ H Q := q
theorem tup_l {p : Addr} {xs : List V} (h : SqL K H p xs) (q : ∀ l H1, H l = none → Ex H H1 → H1 l = some (.tup xs) → Q (.ref l) H1) : cTup K [.ref p] H Q := ⟨p, xs, rfl, .inl ⟨h, fun l hl => q l _ hl (Ex.new hl) upd_same⟩⟩
theorem list_s {p : Addr} {xs : List V} (h : SqL K H p xs ∨ SqT K H p xs) (q : ∀ l H1, H l = none → Ex H H1 → H1 l = some (.lst xs) → Q (.ref l) H1) : cList K [.ref p] H Q := ⟨p, xs, rfl, h, fun l hl => q l _ hl (Ex.new hl) upd_same⟩
end
end AE

set_option Elab.async false
set_option linter.all false
set_option maxRecDepth 100000
set_option maxHeartbeats 2000000
namespace AE
open PySem PySem.Spec PyProof.Rows L2 Evl
/-! ### own operators -/
section
variable {prog : Program} {w : World} {A : Around} {E : Value → Shared → Prop} {s : Shared} {K : PySem.W.Frag} {x C f : Addr} {ox : Obj} {odd : Option Obj}
theorem truthy_at {M : Model} {Q : Bool → Shared → Prop} (X : K.In s.heap) (I : PySem.W.InstAt s.heap x ox C odd) (hs : PySem.W.findIn K (.ref C) "__bool__" = some (some (.ref f))) (hf : PySem.W.isFn K (.ref f) = true)
    (h : wpAny M A (call (.ref f) [.ref x]) (fun r s1 => ∃ b, r = Value.bool b ∧ Q b s1) E s) : wpAny M A (truthy (.ref x)) Q E s := by
  unfold truthy
  refine wpAny_bind (m := callSpecial? (.ref x) (Str.ofString "__bool__")) (PySem.W.special_fn X I hs (beq_iff_eq.mp hf) (wpAny_mono h (fun r s1 hr => ?_) fun _ _ y => y))
  obtain ⟨b, rfl, q⟩ := hr
  exact wpAny_pure q
/-- bool(x) by an own __bool__ -/
theorem bool_at {Q : Value → Shared → Prop} (X : K.In s.heap) (I : PySem.W.InstAt s.heap x ox C odd) (hs : PySem.W.findIn K (.ref C) "__bool__" = some (some (.ref f))) (hf : PySem.W.isFn K (.ref f) = true)
    (h : wpAny (model prog w) A.in1.in1 (call (.ref f) [.ref x]) (fun r s1 => ∃ b, r = Value.bool b ∧ Q (.bool b) s1) E s) : wpAny (model prog w) A (call (.type "bool") [.ref x]) Q E s := by
  refine callType_codes (T := "bool") (Bi := Builtin.«object.__init__») (Q₁ := fun r s1 => ∃ b, r = Value.bool b ∧ Q r s1) PySem.F.called_bool (PySem.F.typeCall_bool_1 _) PySem.F.entry_object_init ?_ ?_
  · refine codeAny_of_tree ?_
    show wpAny _ A.in1.in1 (do checkBuiltinCall "bool.__new__" ⟨[.type "bool", .ref x], []⟩; again (.builtin "bool.__new__" ⟨[.type "bool", .ref x], []⟩)) _ _ s
    refine wpAny_bind (wpAny_of_eq (PySem.F.newCall_bool_1 _) (wpAny_pure ⟨plainId_quiet (by decide +kernel) _, codeAny_builtin PySem.F.entry_bool_new ?_⟩))
    rw [Around.under_plainId (by decide +kernel) _]
    unfold Builtin.«bool.__new__»
    refine wpAny_bind (wpAny_of_eq (a := true) (by kernel_rfl) ?_)
    refine PySem.W.KFB.if_not rfl ?_
    refine wpAny_bind (wpAny_of_eq (a := true) (by rw [isSubtype_type]; kernel_rfl) ?_)
    refine PySem.W.KFB.if_not rfl ?_
    refine wpAny_bind (wpAny_of_eq (a := [Value.ref x]) (by rfl) ?_)
    refine wpAny_bind (truthy_at X I hs hf (wpAny_mono h (fun r s1 hr => ?_) fun _ _ y => y))
    obtain ⟨b, rfl, q⟩ := hr
    exact ⟨b, rfl, wpAny_pure ⟨b, rfl, q⟩⟩
  · rintro obj s1 ⟨b, rfl, q⟩
    exact ⟨rfl, PySem.F.args_object_init_2 _ _, object_init_meets PySem.F.called_bool.init.lookup PySem.F.called_bool.made (by decide) prog w A.in1 _ s1 ⟨rfl, rfl, q⟩⟩
end
section
variable {X : Cx} {pins : List (Addr × Obj)} {σ : L2.St} {H : Hp} {s : Shared} {f C : Addr} {fd : FuncData} {ps : List Str} {sp : Sp} {CX : CXT} {k : Nat} {Q : VK} {E : XK} {vs : List V} {us : List Value}
/-- a call of a def somewhat deeper -/
theorem run_deep {A : Around} (F : FnOk X.prog X.w X.K X.mg X.base CX k f fd ps sp) (hr : Room k A) (e0 : Env0 X.prog X.w X.K X.mg X.base A X.stack s H) (hb : Binds X.K fd ps []) (hx : Passes CX X E)
    (I : Inv X pins σ H s) (r : Vals vs us) (h : sp vs H Q E) : wpAny (model X.prog X.w) A (call (.ref f) us) (EP X pins σ Q) X.xe s := by
  have hl : (us ++ []).length = ps.length := by
    rw [List.append_nil, ← r.length]
    exact F.len _ _ _ _ h
  have bb := hb s us I.kIn hl
  rw [List.append_nil] at bb
  refine wpAny_call (codeAny_mono (F.run A X.stack s H ⟨us, []⟩ us vs Q E hr e0 bb r h) fun r s' hq => ?_)
  cases r with
  | error e => exact hx pins σ H s e s' I hq
  | ok fl =>
    cases fl with
    | ret u => exact I.after hq
    | next => exact False.elim hq
    | brk => exact False.elim hq
    | cont => exact False.elim hq
theorem inst_in {dx : Addr} {fs : List (Str × V)} {a : Addr} (I : Inv X pins σ H s) (h : H a = some (.ins C dx fs)) : ∃ od, PySem.W.InstAt s.heap a (PySem.W.instObj C dx) C (some od) := by
  obtain ⟨_, _, _, e, mA, hn, _⟩ := I.hok a _ h
  obtain ⟨o, _, _, e2, _⟩ := id hn
  exact ⟨o, e, rfl, rfl, e2⟩
/-- bool(o) -/
def rBoolO (C : Addr) (sp : Sp) (E : XK) : List V → Hp → VK → Prop := fun xs H Q => ∃ a dx fs, xs = [.ref a] ∧ H a = some (.ins C dx fs) ∧ sp [.ref a] H (fun v H1 => ∃ b, v = .bl b ∧ Q (.bl b) H1) E
theorem c_boolO (hs : Meth X.K C "__bool__" f) (F : FnOk X.prog X.w X.K X.mg X.base CX k f fd ps sp) (hr : Room (k + 2) X.A) (hb : Binds X.K fd ps []) (hx : Passes CX X E) : CallR X (.type "bool") (rBoolO C sp E) := by
  rintro pins s σ H xs us Q I r ⟨a, dx, fs, rfl, ha, q⟩
  cases r with
  | cons ra rt =>
    cases rt
    cases ra
    obtain ⟨od, J⟩ := inst_in I ha
    refine bool_at I.kIn J hs.at_ hs.fn (wpAny_mono (run_deep (vs := [.ref a]) F (show Room (k + 1) X.A.in1 from Room.in1 hr).in1 I.env0.in1.in1 hb hx I (.cons rfl .nil) q) (fun r s1 hr => ?_) fun _ _ y => y)
    obtain ⟨v, H1, I1, rv, b, rfl, q1⟩ := hr
    exact ⟨b, rv, .bl b, H1, I1, rfl, q1⟩
/-- o[i] -/
def tIxO (C : Addr) (sp : Sp) (E : XK) (ta tb : TE) : TE := fun σ H Q => ta σ H fun x H1 => tb σ H1 fun y H2 => ∃ a dx fs, x = .ref a ∧ H2 a = some (.ins C dx fs) ∧ sp [.ref a, y] H2 Q E
theorem pe_ixO {a b : Expr} {ta tb : TE} {pos : Pos} (hs : Meth X.K C "__getitem__" f) (hfn : PySem.W.fnIn X.K f = true) (F : FnOk X.prog X.w X.K X.mg X.base CX k f fd ps sp) (hr : Room (k + 1) X.A) (hb : Binds X.K fd ps []) (hx : Passes CX X E)
    (pa : PE X a ta) (pb : PE X b tb) (hsl : ∀ v u, subscripted b true v u = runValue (.builtin "lifetime.subscript" ⟨[v, u], []⟩) := by intro _ _; with_unfolding_all rfl) : PE X (.Subscript a b pos) (tIxO C sp E ta tb) := by
  refine ⟨fun pins s σ H Q I h => Subscript_ (binT pa pb I h fun v u s2 x y H2 I2 rx ry q => ?_)⟩
  obtain ⟨p, dx, fs, rfl, hp, q⟩ := q
  cases rx
  obtain ⟨od, J⟩ := inst_in I2 hp
  obtain ⟨m, hF⟩ := I2.fr
  exact PySem.W.sub_K hF I2.ok.mod.kin J hs.at_ hfn hs.fn (run_deep (vs := [.ref p, y]) F hr.in1 I2.env0.in1 hb hx I2 (.cons rfl (.cons ry .nil)) q) (hsl _ _)
end
end AE

set_option Elab.async false
set_option linter.all false
set_option maxRecDepth 100000
namespace AE
open PySem PySem.Spec PyProof.Rows L2 Evl
/-! slices from the front -/
theorem cutV_to (xs : List V) (k : Nat) : cutV xs none (some (k : Int)) = xs.take k := by
  unfold cutV
  rw [HT.sIx_none, HT.sIx_nat, List.drop_zero, Nat.sub_zero, List.take_eq_take_iff]
  omega
theorem cutV_from (xs : List V) (k : Nat) : cutV xs (some (k : Int)) none = xs.drop k := by
  unfold cutV
  rw [HT.sIx_none, HT.sIx_nat]
  by_cases h : k ≤ xs.length
  · rw [Nat.min_eq_left h]
    exact List.take_of_length_le (by rw [List.length_drop]; omega)
  · rw [Nat.min_eq_right (by omega), List.drop_length, List.drop_of_length_le (by omega), List.take_nil]
theorem cutV_mid (xs : List V) (a b : Nat) : cutV xs (some (a : Int)) (some (b : Int)) = (xs.take b).drop a := by
  unfold cutV
  rw [HT.sIx_nat, HT.sIx_nat, List.drop_take]
  by_cases h : a ≤ xs.length
  · rw [Nat.min_eq_left h, List.take_eq_take_iff, List.length_drop]
    omega
  · rw [List.drop_of_length_le (by omega), List.drop_of_length_le (by omega)]
    simp
theorem cutS_to (z : Str) (k : Nat) : cutS z none (some (k : Int)) = ⟨(z.cps.toList.take k).toArray⟩ := by
  unfold cutS
  have e : z.length = z.cps.toList.length := rfl
  rw [HT.sIx_none, HT.sIx_nat, List.drop_zero, Nat.sub_zero, e]
  congr 2
  rw [List.take_eq_take_iff]
  omega
theorem cutS_mid (z : Str) (a b : Nat) : cutS z (some (a : Int)) (some (b : Int)) = ⟨((z.cps.toList.take b).drop a).toArray⟩ := by
  unfold cutS
  have e : z.length = z.cps.toList.length := rfl
  rw [HT.sIx_nat, HT.sIx_nat, List.drop_take, e]
  congr 2
  by_cases h : a ≤ z.cps.toList.length
  · rw [Nat.min_eq_left h, List.take_eq_take_iff, List.length_drop]
    omega
  · rw [List.drop_of_length_le (by omega), List.drop_of_length_le (by omega)]
    simp
theorem join_signs : ∀ l : List Nat, Txt.join (Str.ofString "") (l.map fun c => ⟨#[c]⟩) = ⟨l.toArray⟩ := by
  have h : ∀ (l : List Nat), Str.join (Str.ofString "") (l.map fun c => (⟨#[c]⟩ : Str)) = ⟨l.toArray⟩ := by
    intro l
    induction l with
    | nil => rfl
    | cons c r ih =>
      cases r with
      | nil => rfl
      | cons d r =>
        have e : Str.join (Str.ofString "") ((c :: d :: r).map fun c => (⟨#[c]⟩ : Str)) = (⟨#[c]⟩ : Str) ++ Str.ofString "" ++ Str.join (Str.ofString "") ((d :: r).map fun c => (⟨#[c]⟩ : Str)) := rfl
        rw [e, ih]
        refine Str.ext' ?_
        rw [Str.cps_append, Str.cps_append]
        simp [Str.ofString]
        rfl
  intro l
  rw [← h l]
  show Builtin.Str.glued _ _ = _
  exact StrLaws.glued_eq_join _ _
end AE

set_option Elab.async false
set_option linter.all false
set_option maxRecDepth 100000
namespace AE
open PySem PySem.Spec PyProof.Rows L2 Evl
/-! ### xs[::2], xs[1::2] -/
def slIdx (lo : Option Int) (n : Nat) : List Nat := sliceRange (sliceBounds lo none (some 2) n).fst (sliceBounds lo none (some 2) n).snd.fst (sliceBounds lo none (some 2) n).snd.snd
def everyL {α : Type} (lo : Option Int) (xs : List α) : List α := (slIdx lo xs.length).filterMap fun i => xs[i]?
theorem every_map {α β : Type} (f : α → β) (lo : Option Int) (xs : List α) : everyL lo (xs.map f) = (everyL lo xs).map f := by
  unfold everyL
  rw [List.length_map, List.map_filterMap]
  congr 1
  funext i
  rw [List.getElem?_map]
theorem idx0 (n : Nat) : slIdx none n = (List.range ((n + 1) / 2)).map fun k => 2 * k := by
  unfold slIdx
  have e : sliceBounds none none (some 2) n = ((0 : Int), (n : Int), (2 : Int)) := rfl
  rw [e]
  unfold sliceRange
  by_cases h : (0 : Int) < n
  · simp only [show ((2 : Int) > 0) from by decide, if_true, h]
    rw [show (((n : Int) - 0 + 2 - 1) / 2).toNat = (n + 1) / 2 by omega]
    apply List.map_congr_left
    intro k hk
    omega
  · have z : n = 0 := by omega
    subst z
    rfl
theorem idx1 (n : Nat) : slIdx (some 1) n = (List.range (n / 2)).map fun k => 2 * k + 1 := by
  by_cases h : 1 ≤ n
  · have e : sliceBounds (some 1) none (some 2) n = ((1 : Int), (n : Int), (2 : Int)) := by
      show (max 0 (min (1 : Int) (n : Int)), ((n : Int), (2 : Int))) = _
      rw [show max 0 (min (1 : Int) (n : Int)) = 1 by omega]
    unfold slIdx
    rw [e]
    unfold sliceRange
    by_cases h2 : (1 : Int) < n
    · simp only [show ((2 : Int) > 0) from by decide, if_true, h2]
      rw [show (((n : Int) - 1 + 2 - 1) / 2).toNat = n / 2 by omega]
      apply List.map_congr_left
      intro k hk
      omega
    · have z : n = 1 := by omega
      subst z
      rfl
  · have z : n = 0 := by omega
    subst z
    rfl
theorem every_mem {α : Type} (xs : List α) (v : α) : v ∈ everyL none xs ++ everyL (some 1) xs ↔ v ∈ xs := by
  unfold everyL
  rw [idx0, idx1, List.mem_append, List.mem_filterMap, List.mem_filterMap]
  constructor
  · rintro (⟨i, _, h⟩ | ⟨i, _, h⟩)
    · exact List.mem_of_getElem? h
    · exact List.mem_of_getElem? h
  · intro h
    obtain ⟨i, hi, e⟩ := List.getElem_of_mem h
    have e' : xs[i]? = some v := by rw [List.getElem?_eq_getElem hi, e]
    by_cases z : i % 2 = 0
    · exact .inl ⟨i, List.mem_map.mpr ⟨i / 2, List.mem_range.mpr (by omega), by omega⟩, e'⟩
    · exact .inr ⟨i, List.mem_map.mpr ⟨i / 2, List.mem_range.mpr (by omega), by omega⟩, e'⟩
theorem every_len0 {α : Type} (xs : List α) : (everyL none xs).length ≤ (xs.length + 1) / 2 := by
  unfold everyL
  refine Nat.le_trans (List.length_filterMap_le _ _) ?_
  rw [idx0, List.length_map, List.length_range]
  exact Nat.le_refl _
theorem every_len1 {α : Type} (xs : List α) : (everyL (some 1) xs).length ≤ xs.length / 2 := by
  unfold everyL
  refine Nat.le_trans (List.length_filterMap_le _ _) ?_
  rw [idx1, List.length_map, List.length_range]
  exact Nat.le_refl _
theorem vals_pick {xs : List V} {its : List Value} (r : Vals xs its) : ∀ l : List Nat, Vals (l.filterMap fun i => xs[i]?) (l.filterMap fun i => its[i]?)
  | [] => .nil
  | i :: l => by
    have t := vals_pick r l
    cases e : xs[i]? with
    | none =>
      have e2 : its[i]? = none := by
        rw [List.getElem?_eq_none_iff] at e ⊢
        rw [← r.length]
        exact e
      rw [List.filterMap_cons_none e, List.filterMap_cons_none e2]
      exact t
    | some v =>
      obtain ⟨u, hu, rv⟩ := r.get e
      rw [List.filterMap_cons_some e, List.filterMap_cons_some hu]
      exact .cons rv t
theorem tups_pick {H : Hp} {us : List V} {xs : List (List V)} (t : Tups H us xs) : ∀ l : List Nat, Tups H (l.filterMap fun i => us[i]?) (l.filterMap fun i => xs[i]?)
  | [] => .nil
  | i :: l => by
    have r := tups_pick t l
    cases e : us[i]? with
    | none =>
      have e2 : xs[i]? = none := by
        rw [List.getElem?_eq_none_iff] at e ⊢
        rw [← t.len]
        exact e
      rw [List.filterMap_cons_none e, List.filterMap_cons_none e2]
      exact r
    | some v =>
      obtain ⟨u, hu, rv⟩ := t.get e
      rw [List.filterMap_cons_some e, List.filterMap_cons_some hu]
      exact .cons rv r
theorem tups_every {H : Hp} {us : List V} {xs : List (List V)} (lo : Option Int) (t : Tups H us xs) : Tups H (everyL lo us) (everyL lo xs) := by
  unfold everyL
  rw [t.len]
  exact tups_pick t _
theorem idx0_len (n : Nat) : (slIdx none n).length ≤ n := by
  rw [idx0, List.length_map, List.length_range]
  omega
theorem idx1_len (n : Nat) : (slIdx (some 1) n).length ≤ n := by
  rw [idx1, List.length_map, List.length_range]
  omega
def tStepL (K : PySem.W.Frag) (lo : Option Int) (te : TE) : TE := fun σ H Q => te σ H fun x H1 => ∃ a xs, x = .ref a ∧ SqL K H1 a xs ∧ ∀ p, H1 p = none → Q (.ref p) (upd H1 p (.lst (everyL lo xs)))
section
variable {X : Cx}
theorem pe_stepL {e : Expr} {te : TE} {k : Nat} {p1 p3 pos : Pos} {lo : Option Expr} {tl : TO} {l0 : Option Int} (he : PE X e te) (hl : PO X lo tl)
    (hl0 : ∀ σ H, tl σ H fun o H2 => o = l0 ∧ H2 = H) (hn : ∀ n, (slIdx l0 n).length ≤ n)
    (hw : ∀ v u : Value, subscripted (.Slice lo none (some (.Constant (.int 2) k p1)) p3) false v u = operate [v, u] (getItem v u) := by intro v u; with_unfolding_all rfl) :
    PE X (.Subscript e (.Slice lo none (some (.Constant (.int 2) k p1)) p3) pos) (tStepL X.K l0 te) := by
  refine ⟨fun pins s σ H Q I h => ?_⟩
  refine Subscript_ (thn (he.run pins s σ H _ I h) fun v s1 ⟨x, H1, I1, r1, q1⟩ => ?_)
  obtain ⟨a, xs, ex, hx, q⟩ := q1
  subst ex
  cases r1
  have hst : PO X (some (.Constant (.int 2) k p1)) (tPart (tC (.int 2))) := po_some pe_int
  refine wpAny_Slice (thn (hl.run pins s1 σ H1 (fun o H2 => o = l0 ∧ H2 = H1) I1 (hl0 σ H1)) fun vl s2 ⟨l, H2, I2, pl, el, e2⟩ => ?_)
  subst el e2
  refine thn (po_none.run pins s2 σ H2 (fun o H3 => o = none ∧ H3 = H2) I2 ⟨rfl, rfl⟩) fun vu s3 ⟨u, H3, I3, pu, eu, e3⟩ => ?_
  subst eu e3
  refine thn (hst.run pins s3 σ H3 (fun o H4 => o = some 2 ∧ H4 = H3) I3 ⟨2, rfl, rfl, rfl⟩) fun vs s4 ⟨o, H4, I4, ps, eo, e4⟩ => ?_
  subst eo e4
  have I5 : Inv X pins σ H4 { s4 with heap := s4.heap.push { cls := .type "slice", data := .fields #[vl, vu, vs] } } := I4.kept (t' := s4.toks) fun b ob q => Heap.get?_push_of_some _ q
  obtain ⟨its, r, ht, hz⟩ := I5.list hx
  have hlen := r.length
  show wpAny (model X.prog X.w) X.A (subscriptTail e (.Slice lo none (some (.Constant (.int 2) k p1)) p3) (.ref a) (.ref s4.heap.objs.size)) (EP X pins σ Q) X.xe { s4 with heap := s4.heap.push { cls := .type "slice", data := .fields #[vl, vu, vs] } }
  refine tail_any (ops := [.ref a, .ref s4.heap.objs.size]) ht.isList.typeIs (PySem.slot_list_getitem.lookup) ?_ (hw _ _)
  refine wpAny_getItem_list_slice ht.isList (Heap.IsSliceOf.new _ vl vu vs) pl pu ps (by decide) ?_ (by rw [List.size_toArray]; omega)
  have pk : slicePick its.toArray l none (some 2) = ((slIdx l xs.length).filterMap fun i => its[i]?).toArray := by
    unfold slicePick slIdx
    rw [List.size_toArray, ← hlen]
    congr 1
    congr 1
    funext i
    simp
  rw [pk]
  have hln : (everyL l xs).length ≤ sizeLine := Nat.le_trans (List.length_filterMap_le _ _) (Nat.le_trans (hn _) hz)
  refine ⟨.ref _, _, I5.laid (t' := s4.toks) (o := .lst (everyL l xs)) (fun b ob q => Heap.get?_push_of_some _ q) (Nat.le_refl _) ?_, rfl, q _ (I5.hok.fresh (Nat.le_refl _))⟩
  exact ⟨hln, _, 0, vals_pick r _, Heap.get?_push_size _ rfl⟩
end
end AE

set_option Elab.async false
set_option linter.all false
set_option maxRecDepth 100000
namespace AE
open PySem PySem.Spec PyProof.Rows L2 Evl
/-! ### a walk over an object whose __iter__ gives a tuple's iterator -/
def ttObj (b : Addr) : Obj := { cls := .type "tuple_iterator", data := .fields #[.ref b, .int 0 0] }
def TtO (b it : Addr) : HO := .ext fun h => h.get? it = some (ttObj b)
theorem ttO_ok {P : Program} {w : World} {H : Hp} {h : Heap} {b it : Addr} (e : h.get? it = some (ttObj b)) : ObjOk P w H h it (TtO b it) := ⟨e, ⟨_, e⟩, fun h1 h2 q k => k _ q⟩
def rIterT (K : PySem.W.Frag) : List V → Hp → VK → Prop := fun xs H Q => ∃ (b : Addr) (zs : List V), xs = [.ref b] ∧ SqT K H b zs ∧ ∀ it, H it = none → (∀ z o, H z = some o → z < it) → Q (.ref it) (upd H it (TtO b it))
section
variable {X : Cx}
theorem call_iterT : CallR X (.builtin "iter") (rIterT X.K) := by
  intro pins s σ H xs us Q I r h
  obtain ⟨l, zs, rfl, hq, q⟩ := h
  obtain rfl := Vals.ref1 r
  obtain ⟨its, rv, p, hz⟩ := I.tuple hq
  refine Calls.call_function_entry (by decide +kernel) (by decide +kernel) PySem.W.kdk_entry_iter (PySem.W.kdk_args_iter _) ?_
  unfold Builtin.«iter»
  refine wpAny_bind (m := someArgs "iter" 1 2 _) (wpAny_of_eq (a := [Value.ref l]) (by first | rfl | kernel_rfl!) ?_)
  show wpAny _ _ (pyIter (.ref l) >>= _) _ _ _
  refine wpAny_bind (wpAny_pyIter_tuple (show s.heap.IsTuple l its.toArray from p) ?_)
  refine wpAny_pure ⟨_, rfl, ?_⟩
  refine ⟨.ref s.heap.objs.size, _, I.laid (t' := s.toks) (o := TtO l s.heap.objs.size) (fun b u e => Heap.get?_push_of_some _ e) (Nat.le_refl _) (ttO_ok (Heap.get?_push_size _ rfl)), rfl, q _ (I.hok.fresh (Nat.le_refl _)) fun z o e => ?_⟩
  exact (I.hok z o e).lt
def cListN (K : PySem.W.Frag) (n : Nat) : List V → Hp → VK → Prop := fun xs H Q => ∃ a zs, xs = [.ref a] ∧ (SqL K H a zs ∨ SqT K H a zs) ∧ ∀ l, H l = none → n ≤ l → Q (.ref l) (upd H l (.lst zs))
/-- list(xs): a thing that is younger than the call -/
theorem c_listN : CallR X (.type "list") (cListN X.K X.s_0.heap.objs.size) := by
  intro pins s σ H xs us Q I r h
  obtain ⟨a, zs, rfl, hq, q⟩ := h
  obtain ⟨w1, rfl, rw1⟩ := vals1 r
  cases rw1
  have done : ∀ (its : List Value), Vals zs its → zs.length ≤ sizeLine → ∀ (h2 : Heap) (n2 : Nat), (∀ b ob, s.heap.get? b = some ob → h2.get? b = some ob) →
      h2.get? s.heap.objs.size = some { cls := .type "list", dict := none, data := .seq its.toArray n2, slots := #[] } → EP X pins σ Q (.ref s.heap.objs.size) { s with heap := h2 } := fun its rz sz h2 n2 keep at2 =>
    ⟨.ref s.heap.objs.size, _, I.laid (t' := s.toks) keep (Nat.le_refl _) (show ObjOk X.prog X.w _ h2 _ (.lst zs) from ⟨sz, its, n2, rz, at2⟩), rfl, q _ (I.hok.fresh (Nat.le_refl _)) I.sz⟩
  rcases hq with hq | hq
  · obtain ⟨its, rz, pl, sz⟩ := I.list hq
    have ln := rz.length
    obtain ⟨ob, h1, h2, m, h3⟩ := pl.isList
    exact call_list_seq a (.inl rfl) h1 h2 h3 (fun h' c' kp e => done its rz sz h' c' kp e) (by rw [List.size_toArray, ← ln]; exact sz)
  · obtain ⟨its, rz, pl, sz⟩ := I.tuple hq
    have ln := rz.length
    obtain ⟨ob, h1, h2, m, h3⟩ := pl
    exact call_list_seq a (.inr rfl) h1 h2 h3 (fun h' c' kp e => done its rz sz h' c' kp e) (by rw [List.size_toArray, ← ln]; exact sz)
structure ItM (K : PySem.W.Frag) (C f : Addr) : Prop where
  it : PySem.W.findIn K (.ref C) "__iter__" = some (some (.ref f))
  fn : PySem.W.isFn K (.ref f) = true
def iOwnT (K : PySem.W.Frag) (C : Addr) (sp : Sp) (E : XK) (n : Nat) (te : TE) : TI := fun σ H R => te σ H fun x H1 => ∃ a dx fs, x = .ref a ∧ H1 a = some (.ins C dx fs) ∧ (∃ z o, H1 z = some o ∧ n ≤ z) ∧
  sp [.ref a] H1 (fun v H2 => ∃ it b, v = .ref it ∧ H2 = upd H1 it (TtO b it) ∧ H1 it = none ∧ (∀ z o, H1 z = some o → z < it) ∧ (∃ xs, SqT K H1 b xs) ∧ R (Itt K b) H1) E
theorem look_tn : typeLookup (.type "tuple_iterator") "__next__" = pure (some (.builtin "tuple_iterator.__next__")) := by rw [typeLookup_type, builtinLookup_eq_fast]; kernel_rfl
theorem pi_ownT {CX : CXT} {k : Nat} {f C : Addr} {fd : FuncData} {ps : List Str} {sp : Sp} {E : XK} {tg e : Expr} {te : TE} (M : ItM X.K C f) (F : FnOk X.prog X.w X.K X.mg X.base CX k f fd ps sp) (hr : Room k X.A) (hb : Binds X.K fd ps []) (hx : Passes CX X E)
    (he : PE X e te) : PI X tg e (iOwnT X.K C sp E X.s_0.heap.objs.size te) := by
  refine ⟨fun pins s σ H R I h => ?_⟩
  refine thn (he.run pins s σ H _ I h) fun v s1 ⟨x, H1, I1, r1, q1⟩ => ?_
  obtain ⟨a, dx, fs, rfl, ha, ⟨z, o, hz, hn⟩, hsp⟩ := q1
  cases r1
  obtain ⟨od, J⟩ := inst_in I1 ha
  obtain ⟨m, hF⟩ := I1.fr
  refine PySem.W.owit_iter hF I1.ok.mod.kin J M.it M.fn ?_
  refine wpAny_mono (run_deep (vs := [.ref a]) F hr I1.env0 hb hx I1 (.cons rfl .nil) hsp) (fun u s2 hq => ?_) fun _ _ z => z
  obtain ⟨y, H2, I2, r2, it, b, rfl, rfl, h0, hlt, hxs, hR⟩ := hq
  cases r2
  have hget : s2.heap.get? it = some (ttObj b) := (I2.hok it _ upd_same).1
  have hT : s2.TypeIs (.ref it) "tuple_iterator" := ⟨_, hget, rfl⟩
  unfold PySem.W.OwitIt
  refine wpAny_specialOf (name := Str.ofString "__next__") hT look_tn ?_
  have hle : X.s_0.heap.objs.size ≤ it := Nat.le_of_lt (Nat.lt_of_le_of_lt hn (hlt z o hz))
  have I3 := ItX.inv_drop I2 upd_same
  have f3 := ItX.inv_fp I2 (u := TtO b it) upd_same hle
  rw [ItX.dropH_upd h0] at I3 f3
  refine ⟨it, [it], _, _, H1, rfl, I3, turn_tuple b it, ⟨_, hget, rfl, rfl⟩, fun c hc => ?_, hR⟩
  have e : c = it := by simpa using hc
  subst e
  exact f3
end
end AE

set_option Elab.async false
set_option linter.all false
set_option maxRecDepth 100000
namespace AE
open PySem PySem.Spec PyProof.Rows L2 Evl
/-! ### o[i] = v by an own __setitem__; what it may let out stands at the slots -/
section
variable {X : Cx} {pins : List (Addr × Obj)} {σ : L2.St} {H : Hp} {s : Shared} {f C : Addr} {fd : FuncData} {ps : List Str} {sp : Sp} {CX : CXT} {k : Nat} {Q : VK} {E : L2.St → XK} {vs : List V} {us : List Value}
theorem run_deepS {A : Around} (F : FnOk X.prog X.w X.K X.mg X.base CX k f fd ps sp) (hr : Room k A) (e0 : Env0 X.prog X.w X.K X.mg X.base A X.stack s H) (hb : Binds X.K fd ps []) (hx : PassesAt CX X σ (E σ))
    (I : Inv X pins σ H s) (r : Vals vs us) (h : sp vs H Q (E σ)) : wpAny (model X.prog X.w) A (call (.ref f) us) (EP X pins σ Q) X.xe s := by
  have hl : (us ++ []).length = ps.length := by
    rw [List.append_nil, ← r.length]
    exact F.len _ _ _ _ h
  have bb := hb s us I.kIn hl
  rw [List.append_nil] at bb
  refine wpAny_call (codeAny_mono (F.run A X.stack s H ⟨us, []⟩ us vs Q (E σ) hr e0 bb r h) fun r s' hq => ?_)
  cases r with
  | error e => exact hx pins H s e s' I hq
  | ok fl =>
    cases fl with
    | ret u => exact I.after hq
    | next => exact False.elim hq
    | brk => exact False.elim hq
    | cont => exact False.elim hq
def tSetO (C : Addr) (sp : Sp) (E : L2.St → XK) (tv to ti : TE) : TS := fun D σ H => tv σ H fun v H1 => to σ H1 fun x H2 => ti σ H2 fun y H3 => ∃ a dx fs, x = .ref a ∧ H3 a = some (.ins C dx fs) ∧ sp [.ref a, y, v] H3 (fun _ H4 => D.nx σ H4) (E σ)
theorem ps_setO {o i value : Expr} {tv to ti : TE} {pos' pos : Pos} (hs : Meth X.K C "__setitem__" f) (hq : PySem.W.noSeq X.K C = true) (F : FnOk X.prog X.w X.K X.mg X.base CX k f fd ps sp) (hr : Room k X.A) (hb : Binds X.K fd ps []) (hx : ∀ σ, PassesAt CX X σ (E σ))
    (hv : PE X value tv) (ho : PE X o to) (hi : PE X i ti) (hsw : swapsWith value (some (.Subscript o i pos')) pos.line X.env = pure false := by rfl) : PS X (.Assign [.Subscript o i pos'] value pos) (tSetO C sp E tv to ti) := by
  refine ⟨fun pins s σ H D I h => ?_⟩
  refine wpAny_Assign_Subscript (thn (hv.run pins s σ H _ I h) fun r s1 ⟨v, H1, I1, rv, q1⟩ => thn (ho.run pins s1 σ H1 _ I1 q1) fun u s2 ⟨x, H2, I2, rx, q2⟩ => thn (hi.run pins s2 σ H2 _ I2 q2) fun iv s3 ⟨y, H3, I3, ry, q3⟩ => ?_) hsw
  obtain ⟨a, dx, fs, rfl, ha, hsp⟩ := q3
  cases rx
  obtain ⟨od, J⟩ := inst_in I3 ha
  obtain ⟨m, hF⟩ := I3.fr
  refine PySem.W.ksp_setItem hF I3.ok.mod.kin J hq hs.at_ hs.fn ?_
  refine wpAny_mono (run_deepS (vs := [.ref a, y, v]) F hr I3.env0 hb (hx σ) I3 (.cons rfl (.cons ry (.cons rv .nil))) hsp) (fun u2 s4 hq4 => ?_) fun _ _ z => z
  obtain ⟨z, H4, I4, rz, q4⟩ := hq4
  exact ⟨σ, H4, I4, q4⟩
def rLenO (C : Addr) (sp : Sp) (E : XK) : List V → Hp → VK → Prop := fun xs H Q => ∃ a dx fs, xs = [.ref a] ∧ H a = some (.ins C dx fs) ∧ sp [.ref a] H (fun v H1 => ∃ n : Int, v = .int n ∧ 0 ≤ n ∧ n < 2 ^ 63 ∧ Q (.int n) H1) E
theorem c_lenO {E : XK} (hs : Meth X.K C "__len__" f) (F : FnOk X.prog X.w X.K X.mg X.base CX k f fd ps sp) (hr : Room (k + 1) X.A) (hb : Binds X.K fd ps []) (hx : Passes CX X E) : CallR X (.builtin "len") (rLenO C sp E) := by
  rintro pins s σ H xs us Q I r ⟨a, dx, fs, rfl, ha, q⟩
  cases r with
  | cons ra rt =>
    cases rt
    cases ra
    obtain ⟨od, J⟩ := inst_in I ha
    obtain ⟨m, hF⟩ := I.fr
    refine PySem.W.len_K hF I.ok.mod.kin J hs.at_ hs.fn (wpAny_mono (run_deep (vs := [.ref a]) F hr.in1 I.env0.in1 hb hx I (.cons rfl .nil) q) (fun r s1 hr => ?_) fun _ _ y => y)
    obtain ⟨v, H1, I1, rv, n, rfl, n0, n1, q1⟩ := hr
    obtain ⟨t, rfl⟩ := rv
    exact ⟨⟨n0, n1⟩, .int n, H1, I1.tok _, ⟨_, rfl⟩, q1⟩
/-- C() by a promise on rows -/
theorem pe_makeR0 {E : XK} {x : Str} {p pos : Pos} (M : Mk X.K C f) (F : FnR X.prog X.w X.K X.mg X.base CX k f sp) (hr : Room (k + 1) X.A) (hg : Gl X x) (hm : X.mg x = some (.ref C)) (hx : Passes CX X E) (hdb : (x == ("__debug__" : Str)) = false := by decide) :
    PE X (.Call (.Name x p) [] [] pos) (StX.tMakeR C sp E tNil) := by
  refine ⟨fun pins s σ H Q I h => ?_⟩
  refine wpAny_Call_Name_kw (ld_glob I hg hm ?_ hdb)
  exact PySem.W.callWith_K0 I.kIn M.kp (StX.run_makeR (us := []) M F hr hx I .nil h)
end
end AE

set_option Elab.async false
set_option linter.all false
set_option maxRecDepth 100000
/-! == of such values -/
namespace AE
open PySem PySem.Spec PyProof.Rows L2 Evl
theorem txn_ex {H H' : Hp} (e : Ex H H') : TxN H H' := fun a xs h => e _ _ h
mutual
def toD : NK → PyData
  | .non => .none
  | .int i => .int i
  | .str x => .str x
  | .tup ks => .tuple (toDs ks)
def toDs : List NK → List PyData
  | [] => []
  | k :: ks => toD k :: toDs ks
end
mutual
/-- its texts are of signs that stand -/
def okN : NK → Bool
  | .str x => PyData.strOk x
  | .tup ks => okNs ks
  | _ => true
def okNs : List NK → Bool
  | [] => true
  | k :: ks => okN k && okNs ks
end
theorem toDs_len : ∀ ks : List NK, (toDs ks).length = ks.length
  | [] => rfl
  | k :: ks => by rw [toDs, List.length_cons, List.length_cons, toDs_len ks]
theorem toDs_map : ∀ ks : List NK, toDs ks = ks.map toD
  | [] => rfl
  | k :: ks => by rw [toDs, List.map_cons, toDs_map ks]
theorem okNs_all : ∀ ks : List NK, okNs ks = ks.all okN
  | [] => rfl
  | k :: ks => by rw [okNs, List.all_cons, okNs_all ks]
mutual
theorem toD_lay : ∀ k : NK, okN k = true → (toD k).canLay0 = true
  | .non, _ => rfl
  | .int i, _ => rfl
  | .str x, h => by rw [okN] at h; rw [toD, PyData.canLay0]; exact h
  | .tup ks, h => by rw [okN] at h; rw [toD, PyData.canLay0]; exact toDs_lay ks h
theorem toDs_lay : ∀ ks : List NK, okNs ks = true → PyData.canLayAll0 (toDs ks) = true
  | [], _ => rfl
  | k :: ks, h => by
    rw [okNs, Bool.and_eq_true] at h
    rw [toDs, PyData.canLayAll0, toD_lay k h.1, toDs_lay ks h.2]
    rfl
end
mutual
theorem toD_depth : ∀ k : NK, (toD k).depth = k.depth
  | .non => by rw [toD, PyData.depth, NK.depth]; exact fun _ z => nomatch z
  | .int i => by rw [toD, PyData.depth, NK.depth]; exact fun _ z => nomatch z
  | .str x => by rw [toD, PyData.depth, NK.depth]; exact fun _ z => nomatch z
  | .tup ks => by rw [toD, PyData.depth, NK.depth, toDs_depth ks]
theorem toDs_depth : ∀ ks : List NK, PyData.depthAll (toDs ks) = NK.depths ks
  | [] => by rw [toDs, PyData.depthAll, NK.depths]
  | k :: ks => by rw [toDs, PyData.depthAll, NK.depths, toD_depth k, toDs_depth ks]
end
mutual
theorem toD_eqv : ∀ a b : NK, PyData.eqv (toD a) (toD b) = decide (a = b)
  | .non, .non => by simp [toD, PyData.eqv]
  | .non, .int _ => by simp [toD, PyData.eqv]
  | .non, .str _ => by simp [toD, PyData.eqv]
  | .non, .tup _ => by simp [toD, PyData.eqv]
  | .int i, .non => by simp [toD, PyData.eqv]
  | .int i, .int j => by
    simp only [toD, PyData.eqv, NK.int.injEq]
    by_cases h : i = j
    · subst h; simp
    · rw [decide_eq_false h]; exact beq_eq_false_iff_ne.mpr h
  | .int i, .str _ => by simp [toD, PyData.eqv]
  | .int i, .tup _ => by simp [toD, PyData.eqv]
  | .str i, .non => by simp [toD, PyData.eqv]
  | .str i, .int j => by simp [toD, PyData.eqv]
  | .str i, .str j => by
    simp only [toD, PyData.eqv, NK.str.injEq]
    by_cases h : i = j
    · subst h; simp
    · rw [decide_eq_false h]; exact beq_eq_false_iff_ne.mpr h
  | .str i, .tup _ => by simp [toD, PyData.eqv]
  | .tup ks, .non => by simp [toD, PyData.eqv]
  | .tup ks, .int j => by simp [toD, PyData.eqv]
  | .tup ks, .str j => by simp [toD, PyData.eqv]
  | .tup ks, .tup js => by
    simp only [toD, PyData.eqv, NK.tup.injEq]
    exact toDs_eqv ks js
theorem toDs_eqv : ∀ a b : List NK, PyData.eqvAll (toDs a) (toDs b) = decide (a = b)
  | [], [] => by simp [toDs, PyData.eqvAll]
  | [], _ :: _ => by simp [toDs, PyData.eqvAll]
  | _ :: _, [] => by simp [toDs, PyData.eqvAll]
  | x :: xs, y :: ys => by
    simp only [toDs, PyData.eqvAll, List.cons.injEq, Bool.decide_and, toD_eqv x y, toDs_eqv xs ys]
end
mutual
theorem nat_dp {K : PySem.W.Frag} {H : Hp} : ∀ {v : V} {k : NK}, NAt H v k → Dp K H v (toD k)
  | _, _, .non => by rw [toD]; exact .non
  | _, _, .int i => by rw [toD]; exact .int i
  | _, _, .str x => by rw [toD]; exact .str x
  | _, _, .tup h t => by rw [toD]; exact .tup (.inl (.inl h)) (nats_dp t)
theorem nats_dp {K : PySem.W.Frag} {H : Hp} : ∀ {vs : List V} {ks : List NK}, NAts H vs ks → DpAll K H vs (toDs ks)
  | _, _, .nil => by rw [toDs]; exact .nil
  | _, _, .cons h t => by rw [toDs]; exact .cons (nat_dp h) (nats_dp t)
end
theorem shp {k : NK} (o : okN k = true) (d : k.depth ≤ 64) : SeqAt.shaped (toD k) = true := by
  simp [SeqAt.shaped, toD_lay k o, toD_depth, d]
theorem shps {ks : List NK} (o : okNs ks = true) (d : NK.depths ks ≤ 63) : SeqAt.shaped (.list (toDs ks)) = true := by
  simp [SeqAt.shaped, PyData.canLay0, toDs_lay ks o, PyData.depth, toDs_depth, d]
theorem shpt {ks : List NK} (o : okNs ks = true) (d : NK.depths ks ≤ 63) : SeqAt.shaped (.tuple (toDs ks)) = true := by
  simp [SeqAt.shaped, PyData.canLay0, toDs_lay ks o, PyData.depth, toDs_depth, d]
section
variable {K : PySem.W.Frag} {H : Hp} {Q : VK} {x y : V} {a b : NK}
theorem r_eqN (hx : NAt H x a) (hy : NAt H y b) (o1 : okN a = true) (o2 : okN b = true) (d1 : a.depth ≤ 64) (d2 : b.depth ≤ 64) (q : Q (.bl (decide (a = b))) H) : rEqD K x y H Q :=
  ⟨_, _, nat_dp hx, nat_dp hy, shp o1 d1, shp o2 d2, by rw [toD_eqv]; exact q⟩
theorem r_neN (hx : NAt H x a) (hy : NAt H y b) (o1 : okN a = true) (o2 : okN b = true) (d1 : a.depth ≤ 64) (d2 : b.depth ≤ 64) (q : Q (.bl (!decide (a = b))) H) : rNeD K x y H Q :=
  ⟨_, _, nat_dp hx, nat_dp hy, shp o1 d1, shp o2 d2, by rw [toD_eqv]; exact q⟩
theorem r_eqL {p r : Addr} {xs ys : List V} {as bs : List NK} (hp : SqL K H p xs) (hr : SqL K H r ys) (hx : NAts H xs as) (hy : NAts H ys bs) (o1 : okNs as = true) (o2 : okNs bs = true) (d1 : NK.depths as ≤ 63) (d2 : NK.depths bs ≤ 63) (q : Q (.bl (decide (as = bs))) H) : rEqD K (.ref p) (.ref r) H Q :=
  ⟨_, _, .lst hp (nats_dp hx), .lst hr (nats_dp hy), shps o1 d1, shps o2 d2, by rw [show PyData.eqv (.list (toDs as)) (.list (toDs bs)) = PyData.eqvAll (toDs as) (toDs bs) by simp [PyData.eqv], toDs_eqv]; exact q⟩
theorem r_neL {p r : Addr} {xs ys : List V} {as bs : List NK} (hp : SqL K H p xs) (hr : SqL K H r ys) (hx : NAts H xs as) (hy : NAts H ys bs) (o1 : okNs as = true) (o2 : okNs bs = true) (d1 : NK.depths as ≤ 63) (d2 : NK.depths bs ≤ 63) (q : Q (.bl (!decide (as = bs))) H) : rNeD K (.ref p) (.ref r) H Q :=
  ⟨_, _, .lst hp (nats_dp hx), .lst hr (nats_dp hy), shps o1 d1, shps o2 d2, by rw [show PyData.eqv (.list (toDs as)) (.list (toDs bs)) = PyData.eqvAll (toDs as) (toDs bs) by simp [PyData.eqv], toDs_eqv]; exact q⟩
end
/-! rows of such values -/
theorem NAts.app {H : Hp} : ∀ {vs ws : List V} {ks ls : List NK}, NAts H vs ks → NAts H ws ls → NAts H (vs ++ ws) (ks ++ ls)
  | _, _, _, _, .nil, t => t
  | _, _, _, _, .cons h r, t => .cons h (r.app t)
theorem NAts.snoc {H : Hp} {v : V} {k : NK} {vs : List V} {ks : List NK} (t : NAts H vs ks) (h : NAt H v k) : NAts H (vs ++ [v]) (ks ++ [k]) := t.app (.cons h .nil)
theorem NAts.len {H : Hp} : ∀ {vs : List V} {ks : List NK}, NAts H vs ks → vs.length = ks.length
  | _, _, .nil => rfl
  | _, _, .cons _ t => by rw [List.length_cons, List.length_cons, t.len]
theorem NAts.get {H : Hp} : ∀ {vs : List V} {ks : List NK} {i : Nat} {v : V}, NAts H vs ks → vs[i]? = some v → ∃ k, ks[i]? = some k ∧ NAt H v k
  | _, _, 0, _, .cons h _, e => by
    have e' := Option.some.inj e
    exact ⟨_, rfl, e' ▸ h⟩
  | _, _, i + 1, v, .cons _ t, e => by
    obtain ⟨x, h1, h2⟩ := NAts.get (i := i) (v := v) t (by simpa using e)
    exact ⟨x, by simpa using h1, h2⟩
theorem NAts.rev {H : Hp} : ∀ {vs : List V} {ks : List NK}, NAts H vs ks → NAts H vs.reverse ks.reverse
  | _, _, .nil => .nil
  | _, _, .cons h t => by rw [List.reverse_cons, List.reverse_cons]; exact t.rev.snoc h
theorem NAt.new {H : Hp} {p : Addr} {xs : List V} {ks : List NK} (hp : H p = none) (t : NAts H xs ks) : NAt (upd H p (.tup xs)) (.ref p) (.tup ks) :=
  .tup upd_same (t.tx fun a ys h => by rw [upd_ne (ne_of_none h hp)]; exact h)
theorem NAt.tupOf {H : Hp} {v : V} {ks : List NK} (h : NAt H v (.tup ks)) : ∃ a xs, v = .ref a ∧ H a = some (.tup xs) ∧ NAts H xs ks := by
  cases h with
  | tup h t => exact ⟨_, _, rfl, h, t⟩
theorem NAts.cons_inv {H : Hp} {xs : List V} {k : NK} {ks : List NK} (h : NAts H xs (k :: ks)) : ∃ v vs, xs = v :: vs ∧ NAt H v k ∧ NAts H vs ks := by
  cases h with
  | cons h t => exact ⟨_, _, rfl, h, t⟩
theorem NAts.nil_inv {H : Hp} {xs : List V} (h : NAts H xs []) : xs = [] := by
  cases h
  rfl
theorem NAt.int_inv {H : Hp} {v : V} {i : Int} (h : NAt H v (.int i)) : v = .int i := by
  cases h
  rfl
theorem NAt.str_inv {H : Hp} {v : V} {i : Str} (h : NAt H v (.str i)) : v = .str i := by
  cases h
  rfl
theorem NAt.non_inv {H : Hp} {v : V} (h : NAt H v .non) : v = .non := by
  cases h
  rfl
theorem NAts.inv2 {H : Hp} {xs : List V} {a b : NK} (h : NAts H xs [a, b]) : ∃ u v, xs = [u, v] ∧ NAt H u a ∧ NAt H v b := by
  obtain ⟨u, r, rfl, h1, h⟩ := h.cons_inv
  obtain ⟨v, r, rfl, h2, h⟩ := h.cons_inv
  rw [h.nil_inv]
  exact ⟨_, _, rfl, h1, h2⟩
theorem NAts.inv3 {H : Hp} {xs : List V} {a b c : NK} (h : NAts H xs [a, b, c]) : ∃ u v z, xs = [u, v, z] ∧ NAt H u a ∧ NAt H v b ∧ NAt H z c := by
  obtain ⟨u, r, rfl, h1, h⟩ := h.cons_inv
  obtain ⟨v, z, rfl, h2, h3⟩ := h.inv2
  exact ⟨_, _, _, rfl, h1, h2, h3⟩
/-! a new tuple, a new list -/
def TupK (Q : VK) (xs : List V) (H : Hp) : Prop := xs.length ≤ sizeLine ∧ ∀ p, H p = none → Q (.ref p) (upd H p (.tup xs))
def LstK (Q : VK) (xs : List V) (H : Hp) : Prop := xs.length ≤ sizeLine ∧ ∀ p, H p = none → Q (.ref p) (upd H p (.lst xs))
section
variable {H : Hp} {Q : VK} {xs : List V} {ks : List NK} {σ : L2.St} {tr : TA}
theorem r_tupK (q : tr σ H fun xs H1 => TupK Q xs H1) : tTup tr σ H Q := q
theorem r_lstK (q : tr σ H fun xs H1 => LstK Q xs H1) : tLst tr σ H Q := q
theorem tup_go (hx : NAts H xs ks) (q : ∀ p H1, H p = none → Ex H H1 → NAt H1 (.ref p) (.tup ks) → H1 p = some (.tup xs) → Q (.ref p) H1) (n : xs.length ≤ 100000 := by first | exact Nat.le_of_ble_eq_true rfl | (simp only [List.length_map, List.length_cons, List.length_nil]; omega)) : TupK Q xs H :=
  ⟨sz_of n, fun p hp => q p _ hp (Ex.new hp) (NAt.new hp hx) upd_same⟩
theorem tup_go' (q : ∀ p H1, H p = none → Ex H H1 → H1 p = some (.tup xs) → Q (.ref p) H1) (n : xs.length ≤ 100000 := by first | exact Nat.le_of_ble_eq_true rfl | (simp only [List.length_map, List.length_cons, List.length_nil]; omega)) : TupK Q xs H :=
  ⟨sz_of n, fun p hp => q p _ hp (Ex.new hp) upd_same⟩
theorem lst_go (q : ∀ p H1, H p = none → Ex H H1 → H1 p = some (.lst xs) → Q (.ref p) H1) (n : xs.length ≤ 100000 := by first | exact Nat.le_of_ble_eq_true rfl | (simp only [List.length_map, List.length_cons, List.length_nil]; omega)) : LstK Q xs H :=
  ⟨sz_of n, fun p hp => q p _ hp (Ex.new hp) upd_same⟩
end
/-! xs[::-1]; an object made -/
section
variable {K : PySem.W.Frag} {H : Hp} {Q : VK} {σ : L2.St} {te : TE} {t tk : TA} {C : Addr} {sp : Sp} {E : XK} {dvs : List V} {n m : Nat} {gV : List V → List V → List V}
def RevK (K : PySem.W.Frag) (x : V) (H : Hp) (Q : VK) : Prop := ∃ a xs, x = .ref a ∧ SqL K H a xs ∧ ∀ p, H p = none → Q (.ref p) (upd H p (.lst xs.reverse))
theorem r_revL (q : te σ H fun x H1 => RevK K x H1 Q) : tRevL K te σ H Q := q
theorem rev_go {a : Addr} {xs : List V} (h : SqL K H a xs) (q : ∀ p H1, H p = none → Ex H H1 → H1 p = some (.lst xs.reverse) → Q (.ref p) H1) : RevK K (.ref a) H Q := ⟨a, xs, rfl, h, fun p hp => q p _ hp (Ex.new hp) upd_same⟩
def MkI (C : Addr) (f : Addr → List V) (sp : Sp) (E : XK) (H : Hp) (Q : VK) : Prop := ∀ x dx, H x = none → H dx = none → dx ≠ x → sp (f x) (upd (upd H dx (.own x)) x (.ins C dx [])) (fun v H3 => v = .non ∧ Q (.ref x) H3) E
theorem r_makeK (q : t σ H fun vs H1 => tk σ H1 fun zs H2 => vs.length = n ∧ zs.length = m ∧ MkI C (fun x => gV (.ref x :: vs) zs) sp E H2 Q) : tMakeK C n m sp gV E t tk σ H Q := q
theorem r_make (q : t σ H fun vs H1 => MkI C (fun x => .ref x :: (vs ++ dvs)) sp E H1 Q) : tMake C sp dvs E t σ H Q := q
theorem mki_go {f : Addr → List V} (q : ∀ x dx H1, H x = none → Ex H H1 → H1 x = some (.ins C dx []) → sp (f x) H1 (fun v H3 => v = .non ∧ Q (.ref x) H3) E) : MkI C f sp E H Q := fun x dx nx ndx ne => by
  have e1 : Ex H (upd H dx (.own x)) := Ex.new ndx
  have n2 : (upd H dx (.own x)) x = none := by rw [upd_ne (Ne.symm ne)]; exact nx
  exact q x dx _ nx (e1.trans (Ex.new n2)) upd_same
theorem ex_made {H1 H' : Hp} {x : Addr} (nx : H x = none) (e : Ex H H1) (c : Ch x H1 H') : Ex H H' := fun b o hb => c b o (ne_of_none hb nx) (e b o hb)
end
/-! two ways that meet again -/
theorem join_ite {b : Bool} {ts tu : TS} {D : Ends} {σ : L2.St} {H : Hp} (R : L2.St → Hp → Prop) (tail : ∀ σ' H', R σ' H' → D.nx σ' H') (body : ∀ D' : Ends, (∀ σ' H', R σ' H' → D'.nx σ' H') → if b = true then ts D' σ H else tu D' σ H) : if b = true then ts D σ H else tu D σ H := body D tail
/-! dicts of this kind, by steps -/
section
variable {w : World} {σ : L2.St} {H : Hp} {Q : VK} {D : Ends} {td ty tx tv : TE}
def SetdK (w : World) (a : Addr) (y z : V) (H : Hp) (Q : VK) : Prop := ∃ (kvs : List NE) (k : NK) (b : Addr), H a = some (dN w a kvs) ∧ KeysOk H kvs ∧ y = .ref b ∧ k.depth ≤ 8 ∧ NAt H (.ref b) k ∧ kvs.length < sizeLine ∧
  (∀ v, valN kvs k = some v → Q v H) ∧ (valN kvs k = none → Q z (upd H a (dN w a (putN kvs k b z))))
theorem r_setdN (q : td σ H fun x Ha => ∃ a, x = .ref a ∧ IsN w Ha a ∧ ty σ Ha fun y Hb => tx σ Hb fun z Hc => SetdK w a y z Hc Q) : tSetdN w td ty tx σ H Q := q
theorem setd_go {a b : Addr} {kvs : List NE} {k : NK} {z : V} (h : H a = some (dN w a kvs)) (hk : KeysOk H kvs) (hb : NAt H (.ref b) k) (d : k.depth ≤ 8) (l : kvs.length < 100000)
    (q1 : ∀ v, valN kvs k = some v → Q v H) (q2 : valN kvs k = none → ∀ H1, Ch a H H1 → H1 a = some (dN w a (kvs ++ [(k, b, z)])) → KeysOk H1 (kvs ++ [(k, b, z)]) → Q z H1) : SetdK w a (.ref b) z H Q :=
  ⟨kvs, k, b, h, hk, rfl, d, hb, by have := @sz_of 100000 (by decide); omega, q1, fun hn => by
    have e : putN kvs k b z = kvs ++ [(k, b, z)] := by unfold putN; rw [hn]; rfl
    rw [e]
    refine q2 hn _ ch_upd upd_same fun x hx => ?_
    have tx : TxN H (upd H a (dN w a (kvs ++ [(k, b, z)]))) := fun c ys ec => by rw [upd_ne (ne_of ec h (by intro z; cases z))]; exact ec
    rcases List.mem_append.mp hx with hx | hx
    · exact ⟨(hk x hx).1, (hk x hx).2.tx tx⟩
    · rw [List.mem_singleton.mp hx]
      exact ⟨d, hb.tx tx⟩⟩
def NGetK (w : World) (a : Addr) (y z : V) (H : Hp) (Q : VK) : Prop := ∃ o, NGet w H a y o ∧ Q (o.getD z) H
theorem r_nget2 (q : td σ H fun x H1 => ∃ a, x = .ref a ∧ IsN w H1 a ∧ ty σ H1 fun y H2 => tx σ H2 fun z H3 => NGetK w a y z H3 Q) : tNGet2 w td ty tx σ H Q := q
theorem nget_go {a b : Addr} {kvs : List NE} {k : NK} {z : V} (h : H a = some (dN w a kvs)) (hk : KeysOk H kvs) (hb : NAt H (.ref b) k) (d : k.depth ≤ 8) (q : Q ((valN kvs k).getD z) H) : NGetK w a (.ref b) z H Q :=
  ⟨_, ⟨kvs, k, b, .inl h, hk, rfl, d, hb, rfl⟩, q⟩
theorem isN_of {a : Addr} {kvs : List NE} (h : H a = some (dN w a kvs)) : IsN w H a := ⟨kvs, .inl h⟩
def NNewK (w : World) (H : Hp) (Q : VK) : Prop := ∀ p, H p = none → Q (.ref p) (upd H p (dN w p []))
theorem r_nnew (q : NNewK w H Q) : tNNew w σ H Q := q
theorem nnew_go (q : ∀ p H1, H p = none → Ex H H1 → H1 p = some (dN w p []) → Q (.ref p) H1) : NNewK w H Q := fun p hp => q p _ hp (Ex.new hp) upd_same
theorem valN_snoc (kvs : List NE) (k k' : NK) (b : Addr) (v : V) : valN (kvs ++ [(k, b, v)]) k' = (valN kvs k').or (if k = k' then some v else none) := by
  unfold valN
  rw [List.find?_append, List.find?_cons, List.find?_nil]
  by_cases h : k = k'
  · rw [if_pos h, decide_eq_true h]
    cases kvs.find? (fun x => decide (x.1 = k')) <;> rfl
  · rw [if_neg h, decide_eq_false h]
    cases kvs.find? (fun x => decide (x.1 = k')) <;> rfl
end
/-! heaps -/
theorem ex_txn {H H' : Hp} (e : Ex H H') : TxN H H' := fun _ _ h => e _ _ h
end AE

set_option Elab.async false
set_option linter.all false
set_option maxRecDepth 100000
set_option maxHeartbeats 2000000
/-! an own error's __init__: super().__init__(text), then fields -/
namespace AE
open PySem PySem.Spec PyProof.Rows L2 Evl
/-- the scope of a method that says super(): no cells, one name from outside, the class -/
structure SupScope (N ps : List Str) (sc : Scope) : Prop where
  kind : sc.kind = .function
  co : sc.isCoroutine = false
  gen : sc.isGenerator = false
  nd : N.Nodup
  pre : N.take ps.length = ps
  par : ∀ x ∈ ps, sc.names.lookup x = some .local
  nocell : ∀ y ∈ sc.names, y.2 ≠ .cell
  one : ∀ y ∈ sc.names, y.2 = .free → y.1 = ("__class__" : Str)
  hkc : sc.names.lookup ("__class__" : Str) = some .free
  hks : sc.names.lookup ("super" : Str) = some .globalImplicit
/-- its context -/
def cxS (P : Program) (w : World) (K : PySem.W.Frag) (mg : Str → Option Value) (base : Heap) (N : List Str) (qual : Str) (scope : Scope) (f : Addr) (cd : Value) (cc : Addr) (A : Around) (outer : List Env) (s : Shared) (H : Hp) : Cx :=
  { prog := P, w := w, K := K, mg := mg, base := base, A := A.deeper (PySem.W.ksEnv qual scope s.heap.objs.size f cd cc), N := N, s_0 := s, H_0 := H, env := PySem.W.ksEnv qual scope s.heap.objs.size f cd cc, outer := outer,
    stack := PySem.W.ksEnv qual scope s.heap.objs.size f cd cc :: outer, ex := [], calm := true, fn := fun _ => false, pn := [], xe := fun _ _ => False }
section
variable {P : Program} {w : World} {K : PySem.W.Frag} {mg : Str → Option Value} {base : Heap} {N ps : List Str} {qual : Str} {scope : Scope} {f : Addr} {cd : Value} {cc C : Addr} {A : Around} {outer : List Env} {s : Shared} {H : Hp} {us : List Value} {vs : List V}
theorem one_look {α : Type} {y x : Str} {c c' : α} (h : ([(x, c)] : List (Str × α)).lookup y = some c') : y = x ∧ c' = c := by
  by_cases e : y = x
  · subst e
    simp [List.lookup] at h
    exact ⟨rfl, h.symm⟩
  · have : (y == x) = false := by simpa using e
    simp [List.lookup, this] at h
theorem inv_startS {h1 : Heap} {tk : Nat} (S : SupScope N ps scope) (hd : A.handled = none) (e0 : Env0 P w K mg base A outer s H) (hl : vs.length = ps.length) (r : Vals vs us)
    (hcell : base.get? cc = some ({ cls := .type "cell", data := .cell (some (.ref C)) } : Obj) ∨ ∃ o : Obj, base.get? cc = some o ∧ o.data = .cell (some (.ref C)))
    (hns : h1.Ns s.heap.objs.size fun x => (ps.zip us).reverse.lookup x) (hk : ∀ b o, s.heap.get? b = some o → h1.get? b = some o) :
    Inv (cxS P w K mg base N qual scope f cd cc A outer s H) [] (L2.start N vs) H { s with heap := h1, toks := tk } := by
  have hpl : ps.length ≤ N.length := by
    have := congrArg List.length S.pre
    rw [List.length_take] at this
    omega
  obtain ⟨oc, hoc, hocd⟩ : ∃ o : Obj, base.get? cc = some o ∧ o.data = .cell (some (.ref C)) := by
    rcases hcell with h | h
    · exact ⟨_, h, rfl⟩
    · exact h
  have noA : ∀ b : Addr, b ∉ (cxS P w K mg base N qual scope f cd cc A outer s H).ex := fun b z => absurd (show b ∈ ([] : List Addr) from z) (by simp)
  have lk : ∀ {y : Str} {c : Addr}, (cxS P w K mg base N qual scope f cd cc A outer s H).env.cells.lookup y = some c → y = ("__class__" : Str) ∧ c = cc := fun h => one_look h
  have hH : H cc = none := (e0.bs _ _ hoc).2
  refine ⟨⟨e0.mod, S.kind, rfl, rfl, Nat.le_refl _, fun y z c h1 h2 => (lk h1).1.trans (lk h2).1.symm, fun y hy => ?_, fun y c h _ => Bool.noConfusion h, fun _ => hd, Around.frames_deeper e0.frames, .inr ⟨rfl, rfl⟩,
    fun b z => absurd z (noA b), e0.bs, e0.bsz, fun b _ _ => noA b, fun b z => absurd z (noA b), e0.funs, e0.frf⟩, rfl, e0.bare, Un.kept hk, ⟨_, hns, fun i y v h1 h2 h3 => ?_⟩,
    fun y c h => ⟨some (.ref C), ?_⟩, e0.hok.fresh (Nat.le_refl _), fun y c h => ?_, fun p hp => absurd (show p ∈ ([] : List (Addr × Obj)) from hp) (by simp), e0.hok.kept hk, ?_⟩
  · have hy : scope.names.lookup y = some .cell ∨ scope.names.lookup y = some .free := hy
    rcases hy with hy | hy
    · exact absurd rfl (S.nocell _ (PySem.mem_of_lookup hy))
    · have e := S.one _ (PySem.mem_of_lookup hy) rfl
      have e : y = ("__class__" : Str) := e
      subst e
      exact ⟨cc, rfl⟩
  · have hi : i < vs.length := by
      unfold L2.start at h2
      by_cases hi : i < vs.length
      · exact hi
      · rw [List.getElem?_append_right (by simpa using hi), List.getElem?_replicate] at h2
        split at h2 <;> cases h2
    have ha : vs[i]? = some v := by
      unfold L2.start at h2
      rw [List.getElem?_append_left (by simpa using hi), List.getElem?_map] at h2
      cases e : vs[i]? with
      | none => rw [e] at h2; cases h2
      | some a => rw [e] at h2; cases h2; rfl
    obtain ⟨u, hu, rv⟩ := r.get ha
    have hp : ps[i]? = some y := by
      rw [← S.pre, List.getElem?_take_of_lt (by omega)]
      exact h1
    have ndP : ps.Nodup := by
      rw [← S.pre]
      exact S.nd.sublist (List.take_sublist _ _)
    exact ⟨u, rv, .inl ⟨S.par y (List.mem_of_getElem? hp), NdefX.zip_look ndP hp hu⟩⟩
  · obtain ⟨_, rfl⟩ := lk h
    exact ⟨oc, hk _ _ (e0.bs _ _ hoc).1, hocd⟩
  · obtain ⟨_, rfl⟩ := lk h
    exact hH
  · unfold L2.start
    show _ = N.length
    rw [List.length_append, List.length_map, List.length_replicate]
    omega
end
/-! ### ValueError.__init__ through a method-wrapper -/
section
variable {X : Cx} {pins : List (Addr × Obj)} {σ : L2.St} {H : Hp} {s : Shared} {a C u : Addr} {E : Value → Shared → Prop} {A : Around}
theorem winit_ok {us : List Value} {Q : Value → Shared → Prop} (T : OexC X.K C) (I : Inv X pins σ H s) (e : H a = some (exo a C none)) (hu : s.heap.get? u = some (PySem.W.kxs_mw "ValueError.__init__" a)) (hl : us.length ≤ sizeLine) (h : ∀ s', Inv X pins σ H s' → Q .none s') :
    wpAny (model X.prog X.w) A (call (.ref u) us) Q E s := by
  obtain ⟨nm, q, N, bs, bm, sn, sub, ab, col, dd, k0, k1, k2, k3, k5, hC, hbm⟩ := T.cls
  obtain ⟨t1, ho⟩ := exo_at I.hok e
  have hCh := I.kIn _ _ hC
  obtain ⟨hp, g, d, t, os⟩ := s
  have fin : ∀ h' t2, (∀ b o, b ≠ a → hp.get? b = some o → h'.get? b = some o) → h'.get? a = some (PySem.HandSPX.excO C t2) → Q .none ⟨h', g, d, t, os⟩ := fun h' t2 k hx => by
    have J := I.write (t' := t) (x := a) (e := a) (o := exo a C none) (by rw [e]; exact True.intro) (.inl rfl) k ⟨_, hx⟩ (exo_ok hx)
    have eu : upd H a (exo a C none) = H := by
      funext b
      by_cases hb : b = a
      · rw [hb, upd_same, e]
      · rw [upd_ne hb]
    rw [eu] at J
    exact h _ J
  refine wpAny_call (codeAny_of_tree ?_)
  show wpAny _ A.in1 (callAny (.ref u) ⟨us, []⟩) _ _ _
  simp only [callAny]
  refine wpAny_bind (wpAny_load hu ?_)
  simp only [PySem.W.kxs_mw, show (Value.type "method-wrapper" == Value.type "method" || Value.type "method-wrapper" == Value.type "builtin_function_or_method" || Value.type "method-wrapper" == Value.type "method-wrapper") = true by decide, if_true]
  refine PySem.W.KFB.if_so (by decide) ?_
  refine wpAny_bind (PySem.ESX.check_bound F.excBase_ValueError hCh ho rfl ?_)
  refine wpAny_bind (wpAny_pure (wpAny_pure ?_))
  refine ⟨Code.quiet_builtin _ (by decide +kernel), codeAny_builtin F.excBase_ValueError.initEntry ?_⟩
  rw [Around.under_plainId F.excBase_ValueError.init.plain _]
  wp_walk
  refine fin _ hp.objs.size (fun b o hb hbo => ?_) ?_
  · rw [Heap.get?_update_other _ _ (Ne.symm hb)]
    exact Heap.get?_push_of_some _ hbo
  · rw [Heap.get?_update_self _ (Heap.get?_push_of_some _ ho) rfl]
    rfl
end
end AE

set_option Elab.async false
set_option linter.all false
set_option maxRecDepth 100000
set_option maxHeartbeats 4000000
namespace AE
open PySem PySem.Spec PyProof.Rows L2 Evl
/-- what the program's text tells of super() -/
structure SupOk (P : Program) (file : Str) : Prop where
  hfile : ((P.main.file : Str) == file) = true
  htop : (P.main.scope.names.lookup ("super" : Str)).isSome = false
/-- a method that says super(): its class C, the cell cc, its code at cda -/
structure SupFn (K : PySem.W.Frag) (name qual : Str) (st : Stmt) (C f cc cda : Addr) (file : Str) (fd : FuncData) : Prop where
  ex : ∃ (oc kV doc pm ct : Value) (od an : Option Addr) (osl : Array (Option Value)), fd = PySem.W.ksFn name qual (defArgs st) (defBody st) (defScope st) .none kV doc pm an (.ref cda) ct cc ∧ K.lookup f = some ⟨oc, od, .func fd, osl⟩
  code : PySem.W.codeIn K (.ref cda) qual = true
  cell : ∃ (o : Obj), K.lookup cc = some o ∧ o.data = .cell (some (.ref C))
  tab : ∃ (o : Obj) (vs : Array Value) (t : Tok), K.lookup cda = some o ∧ o.data = .fields vs ∧ vs[2]? = some (.str file t)
  kp : PySem.W.keepIn K (.ref f) = true
section
variable {P : Program} {w : World} {K : PySem.W.Frag} {mg : Str → Option Value} {base : Heap} {CX : CXT} {k : Nat} {name qual : Str} {st : Stmt} {C f cc cda : Addr} {file : Str} {fd : FuncData} {N ps : List Str} {sp : Sp}
/-- the rule for such an __init__ of an error over ValueError: super().__init__(e), then the rest -/
theorem SupFn.ok {p0 p1 ap pos pos2 jp : Pos} {parts : List Expr} {rest : List Stmt} {ar : Arg} (F : SupFn K name qual st C f cc cda file fd) (S : SupScope N ps (defScope st)) (O : SupOk P file) (T : OexC K C)
    (hbody : defBody st = .Expr (.Call (.Attribute (.Call (.Name "super" p0) [] [] p1) "__init__" ap) [.JoinedStr parts jp] [] pos) pos2 :: rest) (har : ((defArgs st).posonlyargs ++ (defArgs st).args).head? = some ar) (hps : ps.head? = some ar.arg)
    (hcall : ∀ L : Addr, ∃ pl : Sem Bool, eval (.Call (.Attribute (.Call (.Name "super" p0) [] [] p1) "__init__" ap) [.JoinedStr parts jp] [] pos) (PySem.W.ksEnv qual (defScope st) L f (.ref cda) cc) = (do
      let ov ← attributeBase (.Call (.Name "super" p0) [] [] p1) "__init__" (PySem.W.ksEnv qual (defScope st) L f (.ref cda) cc) (eval (.Call (.Name "super" p0) [] [] p1) (PySem.W.ksEnv qual (defScope st) L f (.ref cda) cc))
      standAt ap.atName
      let (g, first) ← holding [ov] (getMethod ov "__init__" pl)
      callWith pos g first (backTo pos (starEach [.JoinedStr parts jp] (PySem.W.ksEnv qual (defScope st) L f (.ref cda) cc))) []))
    (hsup : mg "super" = none) (hth : PySem.W.nsIn K PySem.cStatics "thirdparty.any" = some none) (hal : PySem.W.ks_superIn K C C "__init__" = some (some (.builtin "ValueError.__init__"))) (hVE : PySem.W.subIn K (.ref C) (.type "ValueError") = some true)
    (hmr : PySem.W.mroIn K C (.ref C) = some true)
    (len : ∀ vs H Q E, sp vs H Q E → vs.length = ps.length)
    (hb : ∀ (us : List Value), us.length = ps.length → bindArgs fd ⟨us, []⟩ = pure (ps.zip us))
    (hrun : ∀ (A : Around) (outer : List Env) (s : Shared) (H : Hp) (vs : List V) (Q : VK) (E : XK), Room k (A.deeper (PySem.W.ksEnv qual (defScope st) s.heap.objs.size f (.ref cda) cc)) → sp vs H Q E →
      ∃ (te : TE) (t : TS) (a : Addr) (r : List V), vs = .ref a :: r ∧ PE (cxS P w K mg base N qual (defScope st) f (.ref cda) cc A outer s H) (.JoinedStr parts jp) te ∧ PSs (cxS P w K mg base N qual (defScope st) f (.ref cda) cc A outer s H) rest t ∧ H a = some (exo a C none) ∧
        tCons te tNil (L2.start N vs) H fun ws H1 => ws.length ≤ 1000 ∧ H1 a = some (exo a C none) ∧ t { nx := fun _ H' => Q .non H', rt := Q } (L2.start N vs) H1) :
    FnOk P w K mg base CX (k + 1) f fd ps sp := by
  obtain ⟨oc, kV, doc, pm, ct, od, an, osl, rfl, lk⟩ := F.ex
  refine ⟨len, fun A outer s H args us vs Q E hr e0 hbt r hsp => ?_⟩
  have hl := len _ _ _ _ hsp
  have KX : K.In s.heap := e0.mod.kin.keeps fun b o e => (e0.bs b o e).1
  have lim : s.heap.NoLimit := e0.mod.nolimit.keeps fun b o e => (e0.bs b o e).1
  have hloc : ∀ y ∈ ps.zip us, (defScope st).names.lookup y.1 = some .local := fun ⟨n, v⟩ hy => S.par n (List.of_mem_zip hy).1
  obtain ⟨ocell, hcl, hcd⟩ := F.cell
  obtain ⟨otab, tvs, ttok, htab, htd, hfv⟩ := F.tab
  refine ks_codeAny_call_defAt (binds := ps.zip us) hr.depth (KX _ _ lk) rfl lim (PySem.W.codeRec_of KX F.code) rfl hbt S.nocell hloc (fun h1 hns hk1 => ?_) S.co S.gen S.kind
  obtain ⟨te, t, a, rr, rfl, he, ht, ha, hq⟩ := hrun A outer s H vs Q E (hr.deeper _) hsp
  have I : L2.Inv (cxS P w K mg base N qual (defScope st) f (.ref cda) cc A outer s H) [] (L2.start N (.ref a :: rr)) H { s with heap := h1, toks := s.toks + (ps.zip us).length } :=
    inv_startS (C := C) S hr.hd e0 hl r (.inr ⟨ocell, e0.mod.kin _ _ hcl, hcd⟩) hns hk1
  have fin : ∀ {pins : List (Addr × Obj)} {σ' : L2.St} {H' : Hp} {v : V} {u : Value} {s' : Shared}, L2.Inv (cxS P w K mg base N qual (defScope st) f (.ref cda) cc A outer s H) pins σ' H' s' → RelV v u → Q v H' → CE outer P w H s Q u s' :=
    fun {pins σ' H' v u s'} J rv q => ⟨v, H', J.os, J.bare, J.base, J.hok, rv, q⟩
  have hx : ∀ env, execs (defBody st) env = execs (.Expr (.Call (.Attribute (.Call (.Name "super" p0) [] [] p1) "__init__" ap) [.JoinedStr parts jp] [] pos) pos2 :: rest) env := fun env => by rw [hbody]
  change PySem.wpAt (model P w) (A.deeper (PySem.W.ksEnv qual (defScope st) s.heap.objs.size f (.ref cda) cc)) (.func (defBody st) (PySem.W.ksEnv qual (defScope st) s.heap.objs.size f (.ref cda) cc)) (execs (defBody st) (PySem.W.ksEnv qual (defScope st) s.heap.objs.size f (.ref cda) cc)) _ _ _
  rw [hx]
  have KX1 : K.In h1 := fun b o q => hk1 b o (KX b o q)
  obtain ⟨nm, q, N2, bs, bm, sn, sub, ab, col, dd, k0, k1, k2, k3, k5, hC, hbm⟩ := T.cls
  have hcls : PySem.W.clsIn K C = some { name := nm, bases := bs, mro := .ref C :: bm, ns := N2, qualname := q, hasDict := true, slotNames := sn, subclasses := sub, abstract := ab, collection := col, hasDel := false } := by unfold PySem.W.clsIn; rw [hC] <;> rfl
  obtain ⟨t1, hoa⟩ := exo_at I.hok ha
  have Ia : PySem.W.InstAt h1 a { cls := .ref C, dict := none, data := .fields #[.ref t1, .none, .none, .none, .bool false, .none] } C none := ⟨hoa, rfl, rfl, trivial⟩
  obtain ⟨u0, ur, rfl, ra, rr'⟩ : ∃ u0 ur, us = u0 :: ur ∧ RelV (.ref a) u0 ∧ Vals rr ur := by
    cases r with
    | cons h t => exact ⟨_, _, rfl, h, t⟩
  obtain rfl : u0 = Value.ref a := ra
  have hself : (ps.zip (Value.ref a :: ur)).reverse.lookup ar.arg = some (.ref a) := by
    have ndP : ps.Nodup := by
      rw [← S.pre]
      exact S.nd.sublist (List.take_sublist _ _)
    refine NdefX.zip_look (i := 0) ndP ?_ rfl
    rw [← List.head?_eq_getElem?]
    exact hps
  have hslo : (defScope st).names.lookup ar.arg = some .local := S.par _ (List.mem_of_mem_head? (by rw [hps]; exact Option.mem_some_self _))
  have hnoLim : True := trivial
  obtain ⟨mb, hmb, hmb2⟩ := e0.mod.blt
  have glb : h1.Ns mainGlobals mg := e0.mod.glob.keeps fun b o z => hk1 b o (e0.bs b o z).1
  have blb : h1.Ns builtinsNs mb := hmb.keeps fun b o z => hk1 b o (e0.bs b o z).1
  obtain ⟨pl, hpl⟩ := hcall s.heap.objs.size
  have hint : interactive (PySem.W.ksEnv qual (defScope st) s.heap.objs.size f (.ref cda) cc) = false := by
    unfold interactive
    rw [show (PySem.W.ksEnv qual (defScope st) s.heap.objs.size f (.ref cda) cc).scope.kind = .function from S.kind]
    rfl
  refine ks_wpAt_execs_cons (ks_wpAt_Expr_any (hi := hint) (ks_wpAt_MethodCall (he := hpl) ?_))
  refine ks_wpAt_super_base (env := PySem.W.ksEnv qual (defScope st) s.heap.objs.size f (.ref cda) cc) S.hks S.hkc (by decide) rfl (KX1 _ _ lk) rfl har rfl (KX1 _ _ htab) htd hfv O.hfile O.htop ?_
  refine PySem.W.ks_loadName_global S.kind S.hks (Calls.loadGlobal_builtin (env := PySem.W.ksEnv qual (defScope st) s.heap.objs.size f (.ref cda) cc) glb hsup blb ((hmb2 _ (by decide)).trans (by decide +kernel : bootBuiltins "super" = some (.type "super"))) ⟨rfl, ?_⟩)
  refine wpAny_loadName_free S.kind S.hkc rfl ⟨_, KX1 _ _ hcl, hcd⟩ ?_
  refine wpAny_loadName_local S.kind hslo hns hself ?_
  refine ks_wpAny_isType_cls (KX1 _ _ hC) rfl ⟨rfl, ?_⟩
  refine ks_wpAny_call_super (KX1 _ _ hC) rfl Ia.at_ Ia.cls (fun c e => nomatch e) (PySem.W.looks_mroIn KX1 hmr) (fun h2 e2 kk2 => ?_)
  have KX2 : K.In h2 := fun b o z => kk2 b o (KX1 b o z)
  have Ia2 : PySem.W.InstAt h2 a { cls := .ref C, dict := none, data := .fields #[.ref t1, .none, .none, .none, .bool false, .none] } C none := ⟨kk2 _ _ hoa, rfl, rfl, trivial⟩
  have hal' : PySem.W.alongIn K "__init__" (((Value.ref C :: bm).dropWhile (· != .ref C)).drop 1) = some (some (.builtin "ValueError.__init__")) := by
    unfold PySem.W.ks_superIn at hal
    rw [hcls] at hal
    exact hal
  have sz12 : h1.objs.size < h2.objs.size := Heap.lt_size e2
  have hlt : s.heap.objs.size < h1.objs.size := I.lt
  refine PySem.W.kxs_getMethod PySem.W.kxs_ValueError e2 (PySem.W.looks_opaque KX2 hth) (l₀ := .ref C :: bm) (fun A Q E s k q => wpAny_bind ((PySem.W.looks_clsIn KX2 hcls) A _ E s k (wpAny_pure q))) rfl KX2 hal'
    (Ia2.type.andThen (PySem.W.looks_subIn KX2 hVE)) (PySem.W.ks_ne KX2 Ia2 hcls) (by decide) ?_
  have k3 : ∀ b o, h1.get? b = some o → (h2.push (PySem.W.kxs_mw "ValueError.__init__" a)).get? b = some o := fun b o z => Heap.get?_push_of_some _ (kk2 b o z)
  have I3 := I.kept (t' := s.toks + (ps.zip (Value.ref a :: ur)).length + 1) k3
  have hu3 : (h2.push (PySem.W.kxs_mw "ValueError.__init__" a)).get? h2.objs.size = some (PySem.W.kxs_mw "ValueError.__init__" a) := Heap.get?_push_at rfl rfl
  have I4 := I3.pins_of (pins' := [(h2.objs.size, PySem.W.kxs_mw "ValueError.__init__" a)]) (fun p hp => by
    obtain rfl := List.mem_singleton.mp hp
    refine ⟨hu3, I.hok.fresh (Nat.le_of_lt sz12), ?_, I.nofs (Nat.le_of_lt sz12), fun v z => ?_⟩
    · intro z
      have z' : h2.objs.size = s.heap.objs.size := z
      omega
    · cases z)
  refine PySem.W.kxs_callWith (i := "ValueError.__init__") (x := a) rfl (Calls.evalArgs_plain ?_)
  refine wpAny_mono ((pa_cons he pa_nil).run pos _ _ _ _ _ I4 hq) (fun us2 s5 hs5 => ?_) (fun _ _ z => z.elim)
  obtain ⟨vs5, H5, I5, r5, l5, ha5, q5⟩ := hs5
  have hu5 : s5.heap.get? h2.objs.size = some (PySem.W.kxs_mw "ValueError.__init__" a) := (I5.pin (h2.objs.size, PySem.W.kxs_mw "ValueError.__init__" a) (List.mem_append_right _ (List.mem_singleton.mpr rfl))).1
  refine ⟨hu5, ?_⟩
  have hl5 : us2.length ≤ sizeLine := by
    rw [← Paired.length r5, sizeLine_eq]
    omega
  refine winit_ok T I5 ha5 hu5 hl5 fun s6 I6 => ?_
  refine wpAt_of_wpAny ?_
  refine wpAny_mono (ht.run _ s6 _ H5 _ I6 q5) (fun fl s' hs => ?_) (fun _ _ z => z.elim)
  cases fl with
  | ret u =>
    obtain ⟨v, σ', H', J, rv, q⟩ := hs
    exact fin J rv q
  | next =>
    obtain ⟨σ', H', J, q⟩ := hs
    exact fin (v := V.non) (u := Value.none) J rfl q
  | brk =>
    obtain ⟨_, _, _, q⟩ := hs
    exact False.elim q
  | cont =>
    obtain ⟨_, _, _, q⟩ := hs
    exact False.elim q
end
end AE

set_option Elab.async false
set_option linter.all false
set_option maxRecDepth 100000
set_option maxHeartbeats 2000000
/-! own errors with fields: made, raised, caught, asked -/
namespace AE
open PySem PySem.Spec PyProof.Rows L2 Evl
/-- what an __init__ of such an error leaves: names its fields in order, ok what it wants of the arguments -/
def sp_err (C : Addr) (names : List Str) (ok : List V → Hp → Prop) : Sp := fun vs H Q _ => ∃ (a : Addr) (ws : List V), vs = .ref a :: ws ∧ ws.length = names.length ∧ H a = some (exo a C none) ∧ ok ws H ∧
  ∀ d H', H d = none → (∀ b o, b ≠ a → H b = some o → H' b = some o) → H' a = some (exo a C (some d)) → H' d = some (exd d (names.zip ws).reverse) → Q .non H'
/-- C(e, ..) of such an error -/
def MkOK (C : Addr) (sp : Sp) (vs : List V) (H : Hp) (Q : XK) : Prop := vs.length ≤ 1000 ∧ ∀ a, H a = none → sp (.ref a :: (vs ++ [])) (upd H a (exo a C none))
  (fun v H2 => v = .non ∧ ∃ (d : Addr) (fs : List (Str × V)), H2 a = some (exo a C (some d)) ∧ H2 d = some (exd d fs) ∧ H d = none ∧ Q (.ref C) (some d) (upd (L2.del H2 a) d (.xd fs))) (fun _ _ _ => False)
section
variable {K : PySem.W.Frag} {C : Addr} {sp : Sp} {ta : TA} {σ : L2.St} {H : Hp} {Q : XK} {D : Ends} {names : List Str} {ok : List V → Hp → Prop} {vs : List V}
theorem r_mkO (q : ta σ H fun vs H1 => MkOK C sp vs H1 Q) : tMkO C sp [] ta σ H Q := q
theorem mko_go (hl : vs.length = names.length) (hz : names.length ≤ 1000) (hok : ∀ a H1, H a = none → Ex H H1 → ok vs H1) (q : ∀ d H', Ex H H' → H d = none → H' d = some (.xd (names.zip vs).reverse) → Q (.ref C) (some d) H') : MkOK C (sp_err C names ok) vs H Q := by
  refine ⟨by omega, fun a na => ?_⟩
  rw [List.append_nil]
  refine ⟨a, vs, rfl, hl, upd_same, hok a _ na (Ex.new na), fun d H' nd hk ha hd => ⟨rfl, d, _, ha, hd, ?_, ?_⟩⟩
  · have nda : d ≠ a := fun z => by rw [z, upd_same] at nd; cases nd
    rw [upd_ne nda] at nd
    exact nd
  · have nda : d ≠ a := fun z => by rw [z, upd_same] at nd; cases nd
    rw [upd_ne nda] at nd
    refine q d _ (fun b o hb => ?_) nd upd_same
    have ba : b ≠ a := ne_of_none hb na
    have bd : b ≠ d := ne_of_none hb nd
    rw [upd_ne bd, del_ne ba]
    exact hk b o ba (by rw [upd_ne ba]; exact hb)
end
/-! self.f = e on an error that is being made -/
section
variable {K : PySem.W.Frag} {C a : Addr} {σ : L2.St} {H : Hp} {D : Ends} {to te : TE} {f : Str} {y : V}
def OstK (K : PySem.W.Frag) (f : Str) (x y : V) (H : Hp) (R : Hp → Prop) : Prop := ∃ a C : Addr, x = .ref a ∧ OexC K C ∧ PySem.W.findIn K (.ref C) f = some none ∧
  ((H a = some (exo a C none) ∧ ∀ dx, H dx = none → dx ≠ a → R (upd (upd H dx (exd dx [(f, y)])) a (exo a C (some dx)))) ∨
    ∃ (dx : Addr) (fs : List (Str × V)), H a = some (exo a C (some dx)) ∧ H dx = some (exd dx fs) ∧ fs.length ≤ 900 ∧ R (upd H dx (exd dx ((f, y) :: fs))))
theorem r_ost (q : te σ H fun y H1 => to σ H1 fun x H2 => OstK K f x y H2 (D.nx σ)) : tOst K f to te D σ H := q
theorem ost_first {R : Hp → Prop} (h : H a = some (exo a C none)) (T : OexC K C) (n : PySem.W.findIn K (.ref C) f = some none)
    (q : ∀ dx H1, H dx = none → (∀ b o, b ≠ a → H b = some o → H1 b = some o) → H1 a = some (exo a C (some dx)) → H1 dx = some (exd dx [(f, y)]) → R H1) : OstK K f (.ref a) y H R :=
  ⟨a, C, rfl, T, n, .inl ⟨h, fun dx nd ne => q dx _ nd (fun b o hb hbo => by rw [upd_ne hb, upd_ne (ne_of_none hbo nd)]; exact hbo) upd_same (by rw [upd_ne ne, upd_same])⟩⟩
theorem ost_next {R : Hp → Prop} {dx : Addr} {fs : List (Str × V)} (h : H a = some (exo a C (some dx))) (hd : H dx = some (exd dx fs)) (l : fs.length ≤ 900) (T : OexC K C) (n : PySem.W.findIn K (.ref C) f = some none) (ne : a ≠ dx)
    (q : ∀ H1, Ch dx H H1 → H1 a = some (exo a C (some dx)) → H1 dx = some (exd dx ((f, y) :: fs)) → R H1) : OstK K f (.ref a) y H R :=
  ⟨a, C, rfl, T, n, .inr ⟨dx, fs, h, hd, l, q _ ch_upd (by rw [upd_ne ne]; exact h) upd_same⟩⟩
end
/-! isinstance(e, c), e an error with fields that the suite holds -/
def rIsD (K : PySem.W.Frag) (D a dd : Addr) : List V → Hp → VK → Prop := fun xs H Q => ∃ (c : V) (cv : Value) (b : Bool) (fs : List (Str × V)), xs = [.ref a, c] ∧ H dd = some (.xd fs) ∧ (∀ u, RelV c u → u = cv) ∧ PySem.W.kitOne K (.ref D) cv = some b ∧ Q (.bl b) H
theorem call_isD {X : Cx} {a D dd : Addr} {oe : Obj} {pn : List (Addr × Obj)} (C : ExcC X.K D) (hz : Zc (.ref D) (some dd) oe) (hf : ∃ vs, oe.data = .fields vs) : CallR (X.suite a ((a, oe) :: pn)) (.builtin "isinstance") (rIsD X.K D a dd) := by
  intro pins s σ H xs us Q I r h
  obtain ⟨c, cv, b, fs, rfl, hdd, hcv, e, q⟩ := h
  cases r with
  | cons rx rr =>
    cases rr with
    | cons rt rr =>
      cases rr
      cases rx
      have ec := hcv _ rt
      subst ec
      obtain ⟨hget, _⟩ := I.pin (a, oe) (List.mem_append.mpr (.inl List.mem_cons_self))
      obtain ⟨vs, hv⟩ := hf
      have hx : ObjOk X.prog X.w H s.heap dd (.xd fs) := I.hok dd _ hdd
      obtain ⟨mA, hns, _⟩ := hx
      obtain ⟨od, ho, _⟩ := lookIn_ns hns
      have J : PySem.W.InstAt s.heap a oe D (some od) := ⟨hget, hz.1, by unfold PySem.W.notCls; rw [hv] <;> rfl, by rw [hz.2]; exact ho⟩
      have hcl : (PySem.W.clsIn X.K D).isSome = true := by
        have q := C.hd
        unfold PySem.W.hasDictIn at q
        cases z : PySem.W.clsIn X.K D with
        | none => rw [z] at q; cases q
        | some _ => rfl
      exact PySem.W.kia_one (PySem.W.kitx_exc hcl C.hg C.hk C.hs C.ha C.hn C.ht C.hm) I.kIn J e (fun z => nomatch z) fun tk => ⟨.bl b, H, I.kept (t' := tk) fun _ _ z => z, rfl, q⟩
/-! the pieces of an f-string, with a bound on what stands -/
section
variable {σ : L2.St} {H : Hp} {Q : Str → Hp → Prop} {ts : List TE} {acc : Str} {n m : Nat}
theorem len_app (a b : Str) : (a ++ b).length = a.length + b.length := by
  show (a ++ b).cps.size = _
  rw [Str.cps_append, Array.size_append]
  rfl
theorem js_c {y : Str} (ha : acc.length ≤ n) (ly : y.length ≤ m) (hs : n + m ≤ 100000) (q : (acc ++ y).length ≤ n + m → tJs ts (acc ++ y) σ H Q) : tJs (tC (.str y) :: ts) acc σ H Q := by
  have l : (acc ++ y).length ≤ n + m := by rw [len_app]; omega
  exact ⟨y, rfl, Nat.le_trans l (sz_of hs), q l⟩
theorem js_s {i : Nat} {x : Str} (h : σ[i]? = some (some (.str x))) (ha : acc.length ≤ n) (lx : x.length ≤ m) (hs : n + m ≤ 100000) (q : (acc ++ x).length ≤ n + m → tJs ts (acc ++ x) σ H Q) : tJs (tFmt (tVar i) :: ts) acc σ H Q := by
  have l : (acc ++ x).length ≤ n + m := by rw [len_app]; omega
  exact ⟨_, h, .inl ⟨x, rfl, Nat.le_trans lx (sz_of (by omega)), x, rfl, Nat.le_trans l (sz_of hs), q l⟩⟩
theorem js_i {i : Nat} {e : Int} (h : σ[i]? = some (some (.int e))) (ha : acc.length ≤ n) (he : 0 ≤ e ∧ e < 10 ^ 9) (hs : n + 10 ≤ 100000) (q : ∀ y : Str, (acc ++ y).length ≤ n + 10 → tJs ts (acc ++ y) σ H Q) : tJs (tFmt (tVar i) :: ts) acc σ H Q := by
  have ll : e.natAbs.log2 < 1920 := by
    by_cases h0 : e.natAbs = 0
    · rw [h0]; decide
    · have := (Nat.log2_lt h0 (k := 40)).mpr (by omega)
      omega
  have lx : (Str.ofString (toString e)).length ≤ 10 := toString_length_le he.1 (by decide) (by omega)
  have l : (acc ++ Str.ofString (toString e)).length ≤ n + 10 := by rw [len_app]; omega
  exact ⟨_, h, .inr ⟨e, rfl, ll, Str.ofString (toString e), rfl, Nat.le_trans l (sz_of hs), q _ l⟩⟩
end
/-- an error of the class at S is what «except S» names -/
theorem exm_selfE {K : PySem.W.Frag} {S : Addr} (h1 : PySem.W.subIn K (.ref S) (.type "BaseException") = some true) (h2 : PySem.W.isClsIn K S = true) (h3 : PySem.W.typeIn K (.ref S) = some (.type "type")) (h4 : PySem.W.subIn K (.ref S) (.ref S) = some true) :
    PySem.W.exmOne K (.ref S) (.ref S) = some true := by
  have h2' : (PySem.W.clsIn K S).isSome = true := h2
  unfold PySem.W.exmOne PySem.W.kitCls
  simp only [h1, h2', h3, h4, beq_self_eq_true, Bool.and_self, if_true]
/-- all that is asked of an own error class over the errors' base: at C, its __init__ f -/
structure ErrT (K : PySem.W.Frag) (C : Addr) (qual : Str) (st : Stmt) (f : Addr) (fd : FuncData) (file : Str) (ps names : List Str) where
  oex : OexC K C
  cc : Addr
  cda : Addr
  fn : SupFn K "__init__" qual st C f cc cda file fd
  xf : XfC K C
  ex : ExcC K C
  no : ∀ n ∈ names, PySem.W.findIn K (.ref C) n = some none
  ini : PySem.W.findIn K (.ref C) "__init__" = some (some (.ref f))
  ti : PySem.W.typeIn K (.ref f) = some (.type "function")
  te : PySem.W.exmOne K (.ref C) (.ref C) = some true
  al : PySem.W.ks_superIn K C C "__init__" = some (some (.builtin "ValueError.__init__"))
  ve : PySem.W.subIn K (.ref C) (.type "ValueError") = some true
  mr : PySem.W.mroIn K C (.ref C) = some true
  bd : ∀ (us : List Value), us.length = ps.length → bindArgs fd ⟨us, []⟩ = pure (ps.zip us)
theorem ErrT.binds {K : PySem.W.Frag} {C : Addr} {qual : Str} {st : Stmt} {f : Addr} {fd : FuncData} {file : Str} {ps names : List Str} (T : ErrT K C qual st f fd file ps names) : Binds K fd ps [] := Binds.all T.bd
end AE

set_option Elab.async false
set_option linter.all false
set_option maxRecDepth 100000
set_option maxHeartbeats 4000000
/-! such an error, its context None: for suites that call -/
namespace AE
open PySem PySem.Spec PyProof.Rows L2 Evl
section
variable {X : Cx} {e : Expr} {es : List Expr} {ta : TA} {p pos : Pos}
theorem mk_endN {pins : List (Addr × Obj)} {σ : L2.St} {H1 H2 : Hp} {Q : XK} {hp hp2 h2 : Heap} {g1 g2 : Array GenState} {d1 d2 : Drawn} {t1 t2 : Nat} {os1 os2 : OsState} {a C d : Addr} {fs : List (Str × V)} (T : Raises X (.ref C)) (I1 : Inv X pins σ H1 ⟨hp, g1, d1, t1, os1⟩)
    (ha : hp.objs.size ≤ a) (k : ∀ b o, hp.get? b = some o → hp2.get? b = some o) (un : Un (frs X.stack) [] (upd H1 a (exo a C none)) H2 hp2 h2) (hok : HOk X.prog X.w H2 h2) (ho : os2 = os1) (hb : AllBare g2)
    (ea : H2 a = some (exo a C (some d))) (ed : H2 d = some (exd d fs)) (hd1 : H1 d = none) (q : Q (.ref C) (some d) (upd (L2.del H2 a) d (.xd fs))) : L2N.MkP X pins σ Q (.ref a) ⟨h2, g2, d2, t2, os2⟩ := by
  obtain ⟨t0, G, J, kG, ge, hoe, na⟩ := mk_end0 (d2 := d2) (t2 := t2) I1 ha k un hok ho hb ea ed hd1
  exact ⟨a, _, _, ⟨G, g2, d2, t2, os2⟩, _, .ref C, some d, rfl, J, kG, ge, hoe, ⟨rfl, rfl, fun vs e => by cases e; rfl⟩, rfl, rfl, na, rfl, hb, T, q⟩
theorem pmk_oexN {CX : CXT} {x : Str} {C fI : Addr} {k : Nat} {fd : FuncData} {ps : List Str} {sp : Sp} {ds : List Value} {dvs : List V} (T : OexC X.K C) (iC : PySem.W.findIn X.K (.ref C) "__init__" = some (some (.ref fI))) (tI : PySem.W.typeIn X.K (.ref fI) = some (.type "function"))
    (F1 : FnOk X.prog X.w X.K X.mg X.base CX k fI fd ps sp) (hr : Room (k + 1) X.A) (hb : Binds X.K fd ps ds) (hd : Vals dvs ds) (hx : Passes CX X (fun _ _ _ => False)) (hg : Gl X x) (hm : X.mg x = some (.ref C)) (ha : PA X (e :: es) ta)
    (hdb : (x == ("__debug__" : Str)) = false := by decide) (he : starEach (e :: es) X.env = (false, eval e X.env) :: starEach es X.env := by rfl) (hpl : (backTo pos (starEach es X.env)).any (·.1) = false := by rfl) :
    L2N.PMk X (.Call (.Name x p) (e :: es) [] pos) (tMkO C sp dvs ta) := by
  intro pins s σ H Q I h
  obtain ⟨nm, q, N, bs, bm, sn, sub, ab, col, dd, k0, k1, k2, k3, k5, hC, hbm⟩ := T.cls
  refine wpAny_Call_Name_kw (ld_glob I hg hm ?_ hdb)
  refine PySem.W.callWith_K (h₀ := X.base) I.ok.mod.kin T.kC (thn (ha.run pos pins s σ H _ I h) fun us s1 ⟨vs, H1, I1, r1, hz, q1⟩ => ⟨I1.kIn, ?_⟩) he hpl
  show wpAny _ _ (call (.ref C) us) _ _ _
  obtain ⟨hp, g, dr, tk, os⟩ := s1
  have hsz : hp.objs.size ≤ hp.objs.size + 1 := Nat.le_succ _
  have hn : H1 (hp.objs.size + 1) = none := I1.hok.fresh hsz
  have hq := q1 (hp.objs.size + 1) hn
  have kk : ∀ b o, hp.get? b = some o → ((hp.push (PySem.W.kdv_tup us)).push (PySem.HandSPX.excO C hp.objs.size)).get? b = some o := fun b o z => Heap.get?_push_of_some _ (Heap.get?_push_of_some _ z)
  have hget : ((hp.push (PySem.W.kdv_tup us)).push (PySem.HandSPX.excO C hp.objs.size)).get? (hp.objs.size + 1) = some (PySem.HandSPX.excO C hp.objs.size) := by heap_get
  have I2 : Inv X pins σ (upd H1 (hp.objs.size + 1) (exo (hp.objs.size + 1) C none)) ⟨(hp.push (PySem.W.kdv_tup us)).push (PySem.HandSPX.excO C hp.objs.size), g, dr, tk, os⟩ :=
    I1.laid (t' := tk) (a := hp.objs.size + 1) (o := exo (hp.objs.size + 1) C none) (h' := (hp.push (PySem.W.kdv_tup us)).push (PySem.HandSPX.excO C hp.objs.size)) kk hsz (exo_ok hget)
  have r2 : Vals (V.ref (hp.objs.size + 1) :: (vs ++ dvs)) (Value.ref (hp.objs.size + 1) :: (us ++ ds)) := .cons rfl (r1.append hd)
  have hl : (Value.ref (hp.objs.size + 1) :: us ++ ds).length = ps.length := by
    have z := r2.length
    rw [F1.len _ _ _ _ hq] at z
    exact z.symm
  have hus : us.length ≤ sizeLine := by
    rw [← Paired.length r1, sizeLine_eq]
    omega
  refine wpAny_call (PySem.HandSPX.call_own F.excBase_ValueError (fun Y => PySem.HandSPX.refsVE_contains Y bm hbm) (I1.kIn _ _ hC) (PySem.W.looks_findIn I1.kIn iC) (fun self => PySem.W.bind_fn I1.kIn self tI) hus
    (codeAny_mono (F1.run _ X.stack _ _ ⟨Value.ref (hp.objs.size + 1) :: us, []⟩ (Value.ref (hp.objs.size + 1) :: (us ++ ds)) _ _ (fun _ _ _ => False) (hr.make C us []) (I2.env0.make C us []) (hb _ (Value.ref (hp.objs.size + 1) :: us) I2.kIn hl) r2 hq) fun r s' hq' => ?_))
  cases r with
  | error er => exact hx pins σ _ _ er s' I2 hq'
  | ok fl =>
    cases fl with
    | ret u =>
      obtain ⟨v, H2, os2, bare2, un2, hok2, rv, ev, d, fs, ea, ed, hd1, q2⟩ := hq'
      subst ev
      obtain ⟨h2, g2, d2, t2, os'⟩ := s'
      exact ⟨rv, mk_endN (raises_own T.exC T.tyC) I1 hsz kk un2 hok2 os2 bare2 ea ed hd1 q2⟩
    | next => exact False.elim hq'
    | brk => exact False.elim hq'
    | cont => exact False.elim hq'
end
/-! a def that may let such errors out -/
theorem fok_N {P : Program} {w : World} {K : PySem.W.Frag} {mg : Str → Option Value} {base : Heap} {x qual : Str} {st : Stmt} {f : Addr} {fd : FuncData} {N ps : List Str} {k : Nat} {sp : Sp} (F : Fun K x qual st f fd) (S : FnScope N ps (defScope st)) (len : ∀ vs H Q E, sp vs H Q E → vs.length = ps.length)
    (hbody : ∀ (cdv : Value) (A : Around) (outer : List Env) (s : Shared) (H : Hp) (vs : List V) (Q : VK) (E : XK), Room k (A.deeper (envOfC qual (defScope st) s.heap.objs.size f cdv)) → sp vs H Q E →
      ∃ t, PSs (cxOf (L2N.CX P w) P w K mg base N qual (defScope st) f cdv A outer s H E) (defBody st) t ∧ t { nx := fun _ H' => Q .non H', rt := Q } (L2.start N vs) H) : FnOk P w K mg base (L2N.CX P w) (k + 1) f fd ps sp := by
  obtain ⟨oc, od, kV, doc, pm, an, cdv, ct, osl, rfl, lk, hcd⟩ := F.ex
  exact fn_of lk hcd S len fun A outer s H vs Q E hr hsp => hbody cdv A outer s H vs Q E hr hsp
/-! in a suite -/
theorem takesN0 {X : Cx} : L2N.Takes X (fun _ _ _ _ => False) := fun _ _ ⟨_, _, _, _, _, _, _, _, _, _, _, _, _, _, _, _, z⟩ => z.elim
theorem passH {X : Cx} (σ : L2.St) : PassesAt CX0 X σ E0 := fun _ _ _ _ _ _ z => z.elim
theorem hotc {X : Cx} {a : Addr} {oe : Obj} {cls : Value} {d : Option Addr} {pn : List (Addr × Obj)} (hz : L2N.Zn cls d oe) (hf : ∃ vs, oe.data = .fields vs) : L2H.HotC (X.suite a ((a, oe) :: pn)) := by
  obtain ⟨vs, hv⟩ := hf
  exact ⟨(a, oe), ⟨rfl, vs, hv, hz.2.2 vs hv⟩, List.mem_cons_self⟩
def rIsX (K : PySem.W.Frag) (D a : Addr) (cls : Value) (d : Option Addr) : List V → Hp → VK → Prop := fun xs H Q => cls = .ref D ∧ ∃ (dd : Addr) (c : V) (cv : Value) (b : Bool) (fs : List (Str × V)), d = some dd ∧ xs = [.ref a, c] ∧ H dd = some (.xd fs) ∧ (∀ u, RelV c u → u = cv) ∧ PySem.W.kitOne K (.ref D) cv = some b ∧ Q (.bl b) H
theorem call_isX {X : Cx} {a D : Addr} {cls : Value} {d : Option Addr} {oe : Obj} {pn : List (Addr × Obj)} (C : ExcC X.K D) (hz : Zc cls d oe) (hf : ∃ vs, oe.data = .fields vs) : CallR (X.suite a ((a, oe) :: pn)) (.builtin "isinstance") (rIsX X.K D a cls d) := by
  intro pins s σ H xs us Q I r h
  obtain ⟨rfl, dd, c, cv, b, fs, rfl, rfl, hdd, hcv, hk, q⟩ := h
  exact call_isD C hz hf pins s σ H _ us Q I r ⟨c, cv, b, fs, rfl, hdd, hcv, hk, q⟩
theorem isx_go {K : PySem.W.Frag} {D a dd : Addr} {c : V} {cv : Value} {b : Bool} {fs : List (Str × V)} {H : Hp} {Q : VK} (hdd : H dd = some (.xd fs)) (hcv : ∀ u, RelV c u → u = cv) (hk : PySem.W.kitOne K (.ref D) cv = some b) (q : Q (.bl b) H) : rIsX K D a (.ref D) (some dd) [.ref a, c] H Q :=
  ⟨rfl, dd, c, cv, b, fs, rfl, rfl, hdd, hcv, hk, q⟩
section
variable {a C dd : Addr} {f : Str} {te : TE} {σ : L2.St} {H : Hp} {Q : VK} {v : V} {fs : List (Str × V)} {i : Nat}
theorem xf_go (h : σ[i]? = some (some (.ref a))) (hd : H dd = some (.xd fs)) (l : fs.lookup f = some v) (q : Q v H) : tXf a (.ref C) (some dd) C f (tVar i) σ H Q := ⟨_, h, rfl, rfl, dd, fs, v, rfl, hd, l, q⟩
end
end AE

set_option Elab.async false
set_option linter.all false
set_option maxRecDepth 100000
/-! for i in range(a, b) -/
namespace AE
open PySem PySem.Spec PyProof.Rows L2 Evl
variable {K : PySem.W.Frag} {σ : L2.St} {H : Hp} {Q : VK} {D : Ends} {tz : TS}
def LR2 (i : Nat) (tb : TS) (D : Ends) (σ : L2.St) : List V → Hp → Prop := fun vs H1 => ∃ a b : Int, vs = [.int a, .int b] ∧ (-2 ^ 62 ≤ a ∧ a < 2 ^ 62 ∧ -2 ^ 62 ≤ b ∧ b < 2 ^ 62) ∧
  ∃ W : Nat → Nat → L2.St → Hp → Prop, (∃ m, W 0 m σ H1) ∧ ∀ i' m σ H, W i' m σ H → ((Itr a (b - a).toNat).stop i' H ∧ D.nx σ H) ∨ ((Itr a (b - a).toNat).go i' H ∧ ∃ N : L2.St → Hp → Prop, (∀ σ' H', N σ' H' → ∃ m', m' < m ∧ W (i' + 1) m' σ' H') ∧
    ∀ x H', (Itr a (b - a).toNat).yld i' H x H' → gName i x σ H' fun σ2 H2 => tb { D with nx := N, ct := N, bk := D.nx } σ2 H2)
theorem r_forR2 {ta : TA} {i : Nat} (q : ta σ H (LR2 i tz D σ)) : tFor (iRng2 ta) (gName i) tz D σ H := q
theorem lr2_go {i : Nat} {a b : Int} (Pv : Nat → L2.St → Hp → Prop) (h0 : Pv 0 σ H) (ha : 0 ≤ a ∧ a ≤ 100000000) (hb : 0 ≤ b ∧ b ≤ 100000000)
    (hs : ∀ (k : Nat) σ' H', a + (k : Int) < b → Pv k σ' H' → tz { D with nx := Pv (k + 1), ct := Pv (k + 1), bk := D.nx } (σ'.set i (some (.int (a + (k : Int))))) H')
    (hd : ∀ σ' H', Pv (b - a).toNat σ' H' → D.nx σ' H') : LR2 i tz D σ [.int a, .int b] H :=
  ⟨a, b, rfl, by omega, for_range (lo := a) (n := (b - a).toNat) Pv h0 (fun k σ' H' hk p => by
    have q := hs k σ' H' (by omega) p
    show gName i (.int (a + (k : Int))) σ' H' _
    exact q) hd⟩
theorem max2_i {i j : Int} (q : Q (.int (if j > i then j else i)) H) : rMax2 [.int i, .int j] H Q := ⟨i, j, rfl, q⟩
end AE

set_option Elab.async false
set_option linter.all false
set_option maxRecDepth 100000
set_option maxHeartbeats 1000000
/-! comprehensions whose items are made, over a tuple, a list, a range, two tuples in step -/
namespace AE
open PySem PySem.Spec PyProof.Rows L2 Evl
section
variable {K : PySem.W.Frag} {σ : L2.St} {H : Hp} {Q : VK} {ta tb te tl : TE} {tt : TT} {g : TG} {i j : Nat} {a b : Addr} {xs ys : List V} {J : It} {n : Nat} {G : Hp → Prop} {Y : Nat → Hp → V → Hp → Prop} {vs : List Nat}
theorem ch_l {D : Addr} {l : List V} {Ha Hb : Hp} {p : Addr} {xs : List V} (hD : Ha D = some (.lst l)) (c : Ch D Ha Hb) (h : Ha p = some (.tup xs)) : Hb p = some (.tup xs) := c _ _ (fun z => by subst z; rw [hD] at h; cases h) h
/-- what is made, item by item; P must outlive new things and what is written into a list -/
theorem lco (w : Walk J n G Y) (hz : n ≤ 1000000) {D : Addr} (hD : H D = none) (hG : ∀ H', Ex H H' → G H') (P : Nat → List V → Hp → Prop)
    (pex : ∀ i acc Ha Hb, Ex Ha Hb → P i acc Ha → P i acc Hb) (pch : ∀ i acc D l Ha Hb, Ha D = some (.lst l) → Ch D Ha Hb → P i acc Ha → P i acc Hb) (h0 : P 0 [] H)
    (step : ∀ i x acc Ha Hb, i < n → acc.length = i → Ex H Ha → P i acc Ha → Y i Ha x Hb → ∀ (R : VK) (R2 : Hp → Prop), (∀ y He, Ex Ha He → P (i + 1) (acc ++ [y]) He → R y He) →
      g x (wipe σ vs) Hb fun σ2 Hc => wipe σ2 vs = wipe σ vs ∧ tt σ2 Hc fun b Hd => if b = true then te σ2 Hd R else R2 Hd)
    {Qd : Hp → Prop} (k : ∀ acc H1, acc.length = n → Ex H H1 → H1 D = some (.lst acc) → P n acc H1 → Qd H1) :
    ∃ W : Nat → Nat → Hp → Prop, (∃ m, W 0 m (upd H D (.lst []))) ∧ ∀ i m Ha, W i m Ha →
      (J.stop i Ha ∧ Qd Ha) ∨ (J.go i Ha ∧ ∃ Nx : Hp → Prop, (∀ Hb, Nx Hb → ∃ m', m' < m ∧ W (i + 1) m' Hb) ∧ ∀ x Hb, J.yld i Ha x Hb → g x (wipe σ vs) Hb fun σ2 Hc => wipe σ2 vs = wipe σ vs ∧ tt σ2 Hc fun b Hd =>
        if b = true then te σ2 Hd fun y He => ∃ acc, He D = some (.lst acc) ∧ acc.length < sizeLine ∧ Nx (upd He D (.lst (acc ++ [y]))) else Nx Hd) := by
  refine lc_it w (fun m Ha => ∃ acc, acc.length = m ∧ Ex H Ha ∧ Ha D = some (.lst acc) ∧ P m acc Ha) ⟨[], rfl, Ex.new hD, upd_same, pex _ _ _ _ (Ex.new hD) h0⟩ (fun m Ha _ ⟨_, _, e, _⟩ => hG Ha e) ?_ fun Ha ⟨acc, ha, e, hd, hp⟩ => k acc Ha ha e hd hp
  rintro m x Ha Hb hm ⟨acc, ha, e1, hd, hp⟩ hy
  refine step m x acc Ha Hb hm ha e1 hp hy _ _ fun y He e2 p2 => ?_
  have hd2 := e2 _ _ hd
  exact ⟨acc, hd2, Nat.lt_of_le_of_lt (show acc.length ≤ 1000000 by omega) (by decide), acc ++ [y], by rw [List.length_append, ha]; rfl, ex_upd (e1.trans e2) hD, upd_same, pch _ _ _ _ _ _ hd2 ch_upd p2⟩
/-- P outlives -/
structure Stays (P : Nat → List V → Hp → Prop) : Prop where
  pex : ∀ i acc Ha Hb, Ex Ha Hb → P i acc Ha → P i acc Hb
  pch : ∀ i acc D l Ha Hb, Ha D = some (.lst l) → Ch D Ha Hb → P i acc Ha → P i acc Hb
/-- over a tuple -/
theorem lco_t (P : Nat → List V → Hp → Prop) (S : Stays P) (hv : ∀ R : VK, R (.ref a) H → tl σ H R) (hx : SqT K H a xs) (hz : xs.length ≤ 1000000) (h0 : P 0 [] H)
    (step : ∀ i x acc Ha, xs[i]? = some x → acc.length = i → Ex H Ha → P i acc Ha → ∀ (R : VK) (R2 : Hp → Prop), (∀ y He, Ex Ha He → P (i + 1) (acc ++ [y]) He → R y He) →
      g x (wipe σ vs) Ha fun σ2 Hc => wipe σ2 vs = wipe σ vs ∧ tt σ2 Hc fun b Hd => if b = true then te σ2 Hd R else R2 Hd)
    (k : ∀ D acc H1, H D = none → acc.length = xs.length → Ex H H1 → H1 D = some (.lst acc) → P xs.length acc H1 → Q (.ref D) H1) : tLc (iTup K tl) g tt te vs σ H Q :=
  hv _ ⟨a, rfl, ⟨xs, hx⟩, fun D hD => lco (walk_tup (K := K) (a := a) (xs := xs)) hz hD (fun _ e => ex_t e hx) P S.pex S.pch h0 (fun i x acc Ha Hb _ ha e1 hp hy => by
    obtain ⟨rfl, hy⟩ := hy
    exact step i x acc Hb hy ha e1 hp) fun acc H1 ha e h p => k D acc H1 hD ha e h p⟩
/-- over a list -/
theorem lco_l (P : Nat → List V → Hp → Prop) (S : Stays P) (hx : SqL K H a xs) (hz : xs.length ≤ 1000000) (h0 : P 0 [] H)
    (step : ∀ i x acc Ha, xs[i]? = some x → acc.length = i → Ex H Ha → P i acc Ha → ∀ (R : VK) (R2 : Hp → Prop), (∀ y He, Ex Ha He → P (i + 1) (acc ++ [y]) He → R y He) →
      gName j x (wipe σ vs) Ha fun σ2 Hc => wipe σ2 vs = wipe σ vs ∧ tt σ2 Hc fun b Hd => if b = true then te σ2 Hd R else R2 Hd)
    (k : ∀ D acc H1, H D = none → acc.length = xs.length → Ex H H1 → H1 D = some (.lst acc) → P xs.length acc H1 → Q (.ref D) H1) : LcL K j tt te vs σ Q (.ref a) H :=
  ⟨a, rfl, ⟨xs, hx⟩, fun D hD => lco (walk_list (K := K) (a := a) (xs := xs)) hz hD (fun _ e => ex_l e hx) P S.pex S.pch h0 (fun i x acc Ha Hb _ ha e1 hp hy => by
    obtain ⟨rfl, hy⟩ := hy
    exact step i x acc Hb hy ha e1 hp) fun acc H1 ha e h p => k D acc H1 hD ha e h p⟩
/-- over range(n) -/
theorem lco_r (P : Nat → List V → Hp → Prop) (S : Stays P) {tn : TA} {m : Int} (hv : ∀ R : List V → Hp → Prop, R [.int m] H → tn σ H R) (hz : 0 ≤ m ∧ m ≤ 1000000) (h0 : P 0 [] H)
    (step : ∀ (i : Nat) acc Ha, (i : Int) < m → acc.length = i → Ex H Ha → P i acc Ha → ∀ (R : VK) (R2 : Hp → Prop), (∀ y He, Ex Ha He → P (i + 1) (acc ++ [y]) He → R y He) →
      g (.int (i : Int)) (wipe σ vs) Ha fun σ2 Hc => wipe σ2 vs = wipe σ vs ∧ tt σ2 Hc fun b Hd => if b = true then te σ2 Hd R else R2 Hd)
    (k : ∀ D acc H1, H D = none → acc.length = m.toNat → Ex H H1 → H1 D = some (.lst acc) → P m.toNat acc H1 → Q (.ref D) H1) : tLc (iRng1 tn) g tt te vs σ H Q :=
  hv _ ⟨m, rfl, by omega, by omega, fun D hD => lco (walk_range (lo := 0) (n := m.toNat)) (by omega) hD (fun _ _ => trivial) P S.pex S.pch h0 (fun i x acc Ha Hb hi ha e1 hp hy => by
    obtain ⟨rfl, rfl⟩ := hy
    have st := step i acc Hb (by omega) ha e1 hp
    show ∀ (R : VK) (R2 : Hp → Prop), (∀ y He, Ex Hb He → P (i + 1) (acc ++ [y]) He → R y He) → g (.int (0 + (i : Int))) (wipe σ vs) Hb fun σ2 Hc => wipe σ2 vs = wipe σ vs ∧ tt σ2 Hc fun b Hd => if b = true then te σ2 Hd R else R2 Hd
    rw [Int.zero_add]
    exact st) fun acc H1 ha e h p => k D acc H1 hD ha e h p⟩
/-! two tuples in step -/
theorem walk_zipT {n : Nat} (hn : n = min xs.length ys.length) : Walk (RZ.ItzT K a b) n (fun H => SqT K H a xs ∧ SqT K H b ys) (YPair (fun i => xs[i]?) (fun i => ys[i]?)) := by
  subst hn
  refine ⟨fun i _ hi q => ?_, fun _ q => ⟨xs, ys, q.1, q.2, by omega⟩, fun i H v H' _ q y => ?_⟩
  · have h1 : i < xs.length := by omega
    have h2 : i < ys.length := by omega
    exact ⟨xs, ys, xs[i], ys[i], q.1, q.2, by simp [h1], by simp [h2]⟩
  · obtain ⟨T, x, z, h1, h2, h3, h4, h5⟩ := y
    exact ⟨T, x, z, h1, h2, h3, h4 xs q.1, h5 ys q.2⟩
theorem lco_z (P : Nat → List V → Hp → Prop) (S : Stays P) {tn : TA} (hv : ∀ R : List V → Hp → Prop, R [.ref a, .ref b] H → tn σ H R) (hx : SqT K H a xs) (hy : SqT K H b ys) (hl : xs.length = ys.length) (hz : xs.length ≤ 1000000) (h0 : P 0 [] H)
    (step : ∀ i x y T acc Ha, xs[i]? = some x → ys[i]? = some y → acc.length = i → Ex H Ha → P i acc Ha → Ha T = none → ∀ (R : VK) (R2 : Hp → Prop), (∀ z He, Ex Ha He → P (i + 1) (acc ++ [z]) He → R z He) →
      g (.ref T) (wipe σ vs) (upd Ha T (.tup [x, y])) fun σ2 Hc => wipe σ2 vs = wipe σ vs ∧ tt σ2 Hc fun b Hd => if b = true then te σ2 Hd R else R2 Hd)
    (k : ∀ D acc H1, H D = none → acc.length = xs.length → Ex H H1 → H1 D = some (.lst acc) → P xs.length acc H1 → Q (.ref D) H1) : tLc (RZ.iZipA K tn) g tt te vs σ H Q :=
  hv _ ⟨a, b, xs, ys, rfl, .inr ⟨hx, hy, fun D hD => lco (n := xs.length) (walk_zipT (K := K) (a := a) (b := b) (xs := xs) (ys := ys) (by omega)) hz hD (fun _ e => ⟨ex_t e hx, ex_t e hy⟩) P S.pex S.pch h0 (fun i x acc Ha Hb hi ha e1 hp hyy => by
    obtain ⟨T, u, v, rfl, h2, rfl, h4, h5⟩ := hyy
    exact step i u v T acc Ha h4 h5 ha e1 hp h2) fun acc H1 ha e h p => k D acc H1 hD ha e h p⟩⟩
theorem gtup2 {t : TGs} {T : Addr} {x y : V} {Q : L2.St → Hp → Prop} (h : H T = some (.tup [x, y])) (q : t [x, y] σ H Q) : gTup K 2 t (.ref T) σ H Q := ⟨T, _, rfl, .inl (.inl h), rfl, q⟩
theorem gnames2 {i j : Nat} {x y : V} {Q : L2.St → Hp → Prop} (q : Q ((σ.set i (some x)).set j (some y)) H) : gCons (gName i) (gCons (gName j) gNil) [x, y] σ H Q := ⟨x, [y], rfl, y, [], rfl, rfl, q⟩
theorem r_meth {C : Addr} {m : Str} {sp : Sp} {dvs : List V} {E : XK} {t : TA} (q : ta σ H fun x H1 => ∃ a dx fs, x = .ref a ∧ H1 a = some (.ins C dx fs) ∧ fs.lookup m = none ∧ t σ H1 fun vs H2 => sp (x :: (vs ++ dvs)) H2 Q E) : tMeth C m sp dvs E ta t σ H Q := q
theorem stays_take (L : List V) : Stays fun i acc _ => acc = L.take i := ⟨fun _ _ _ _ _ h => h, fun _ _ _ _ _ _ _ _ h => h⟩
end
end AE

set_option Elab.async false
set_option linter.all false
set_option maxRecDepth 100000
/-! a + b by an own __add__ (both of one class), a += b by an own __iadd__ -/
namespace AE
open PySem PySem.Spec PyProof.Rows L2 Evl
section
variable {X : Cx} {f C : Addr} {fd : FuncData} {ps : List Str} {sp : Sp} {CX : CXT} {k : Nat} {E : XK} {op : Operator}
theorem back_of {pins : List (Addr × Obj)} {σ : L2.St} {Q : VK} {r : Value} {s : Shared} (h : EP X pins σ Q r s) : PySem.W.CmpBack (EP X pins σ Q) r s := by
  cases r with
  | notImplemented =>
    obtain ⟨v, H1, I1, rv, _⟩ := h
    cases v <;> simp [L2.RelV] at rv
  | _ => exact h
def rBinO (C : Addr) (sp : Sp) (E : XK) : R2 := fun x y H Q => ∃ (a b dx dy : Addr) (fs gs : List (Str × V)), x = .ref a ∧ y = .ref b ∧ H a = some (.ins C dx fs) ∧ H b = some (.ins C dy gs) ∧ sp [.ref a, .ref b] H Q E
theorem op_addO (hs : PySem.W.findIn X.K (.ref C) (PySem.dunder op.info.2) = some (some (.ref f))) (hf : PySem.W.isFn X.K (.ref f) = true) (hc : PySem.W.selfFirst X.K C = true) (F : FnOk X.prog X.w X.K X.mg X.base CX k f fd ps sp) (hr : Room k X.A) (hb : Binds X.K fd ps []) (hx : Passes CX X E) :
    OpR X (binaryOp op) (rBinO C sp E) := by
  rintro pins s σ H x y v u Q I rx ry ⟨a, b, dx, dy, fs, gs, rfl, rfl, ha, hbb, q⟩
  cases rx
  cases ry
  obtain ⟨od, J⟩ := inst_in I ha
  obtain ⟨od2, J2⟩ := inst_in I hbb
  obtain ⟨m, hF⟩ := I.fr
  exact PySem.W.binop_K hF I.ok.mod.kin J J2.type hc hs hf (wpAny_mono (run_deep (vs := [.ref a, .ref b]) F hr I.env0 hb hx I (.cons rfl (.cons rfl .nil)) q) (fun r s1 hr => back_of hr) fun _ _ y => y)
def rInO (C : Addr) (sp : Sp) (E : XK) : R2 := fun x y H Q => ∃ (a dx : Addr) (fs : List (Str × V)), x = .ref a ∧ H a = some (.ins C dx fs) ∧ sp [.ref a, y] H Q E
theorem op_iaddO (hs : PySem.W.findIn X.K (.ref C) (PySem.dunderI op.info.2) = some (some (.ref f))) (hf : PySem.W.isFn X.K (.ref f) = true) (hc : PySem.W.selfFirst X.K C = true) (F : FnOk X.prog X.w X.K X.mg X.base CX k f fd ps sp) (hr : Room k X.A) (hb : Binds X.K fd ps []) (hx : Passes CX X E) :
    InOp X op (rInO C sp E) := by
  rintro pins s σ H x y v u Q I rx ry ⟨a, dx, fs, rfl, ha, q⟩
  cases rx
  obtain ⟨od, J⟩ := inst_in I ha
  obtain ⟨m, hF⟩ := I.fr
  exact PySem.W.ksp_inplace hF I.ok.mod.kin J hc hs hf (wpAny_mono (run_deep (vs := [.ref a, y]) F hr I.env0 hb hx I (.cons rfl (.cons ry .nil)) q) (fun r s1 hr => back_of hr) fun _ _ y => y)
end
section
open PySem.W
theorem fills_none {M : Model} {K : Frag} {D B : Addr} {h : Heap} {nm : String} {cd : ClassData} (X : K.In h) (hc : clsIn K D = some cd) (hm : cd.mro = [.ref D, .ref B, .type "object"]) (a1 : findIn K (.ref D) (PySem.dunder nm) = some none) (a2 : findIn K (.ref D) (dunderR nm) = some none)
    (b1 : findIn K (.ref B) (PySem.dunder nm) = some none) (b2 : findIn K (.ref B) (dunderR nm) = some none) (c1 : findIn K (.type "object") (PySem.dunder nm) = some none) (c2 : findIn K (.type "object") (dunderR nm) = some none) : Looks M h (fillsNumberSlot (.ref D) nm) false := by
  intro A Q E s k q
  have Lm : Looks M h (mroOf (.ref D)) cd.mro := (looks_clsIn X hc).andThen (f := fun cd => pure cd.mro) .now
  have Lm' := Lm.keeps k
  obtain ⟨hh, g, d, tt, os⟩ := s
  have X' : K.In hh := X.keeps k
  have L1 : Looks M hh (typeLookup (.ref D) (PySem.dunder nm)) none := looks_findIn X' a1
  have L2 : Looks M hh (typeLookup (.ref D) (dunderR nm)) none := looks_findIn X' a2
  have L3 : Looks M hh (typeLookup (.ref B) (PySem.dunder nm)) none := looks_findIn X' b1
  have L4 : Looks M hh (typeLookup (.ref B) (dunderR nm)) none := looks_findIn X' b2
  have L5 : Looks M hh (typeLookup (.type "object") (PySem.dunder nm)) none := looks_findIn X' c1
  have L6 : Looks M hh (typeLookup (.type "object") (dunderR nm)) none := looks_findIn X' c2
  unfold fillsNumberSlot
  refine wpAny_bind (Lm'.at ?_)
  rw [hm, List.anyM_cons]
  refine wpAny_bind ?_
  repeat lk
  exact q
/-- x + b by x's own method, where b's own class has neither the operator nor its reflection -/
theorem bin_D {prog : Program} {w : World} {A : Around} {E : Value → Shared → Prop} {s : Shared} {K : Frag} {x b C D B L f : Addr} {h₀ : Heap} {m : Str → Option Value} {ox ob : Obj} {od od2 : Option Obj} {op : Operator} {cd2 : ClassData} {Q : Value → Shared → Prop}
    (F : Fr h₀ L s.heap m) (X₀ : K.In h₀) (I : InstAt s.heap x ox C od) (J : InstAt s.heap b ob D od2) (hCD : C ≠ D) (hc : selfFirst K C = true) (hs : findIn K (.ref C) (PySem.dunder op.info.2) = some (some (.ref f))) (hf : isFn K (.ref f) = true)
    (hc2 : clsIn K D = some cd2) (hm2 : cd2.mro = [.ref D, .ref B, .type "object"]) (a1 : findIn K (.ref D) (PySem.dunder op.info.2) = some none) (a2 : findIn K (.ref D) (dunderR op.info.2) = some none)
    (b1 : findIn K (.ref B) (PySem.dunder op.info.2) = some none) (b2 : findIn K (.ref B) (dunderR op.info.2) = some none) (c1 : findIn K (.type "object") (PySem.dunder op.info.2) = some none) (c2 : findIn K (.type "object") (dunderR op.info.2) = some none)
    (h : wpAny (model prog w) A (call (.ref f) [.ref x, .ref b]) (PySem.W.CmpBack Q) E s) : wpAny (model prog w) A (binaryOp op (.ref x) (.ref b)) Q E s := by
  have X := X₀.keeps F.keep
  obtain ⟨cd, rest, hcd, hm⟩ := ksp_first hc
  rcases hi : op.info with ⟨sym, nm'⟩
  rw [hi] at hs a1 a2 b1 b2 c1 c2
  dsimp only at hs a1 a2 b1 b2 c1 c2
  have one := ksp_try X I hs hf h
  obtain ⟨hh, g, d, tt, os⟩ := s
  have L1 : Looks (model prog w) hh (typeOf (.ref x)) (.ref C) := I.type
  have L2 : Looks (model prog w) hh (typeOf (.ref b)) (.ref D) := J.type
  have L3 : Looks (model prog w) hh (fillsNumberSlot (.ref C) nm') true := fills_K X hcd hm hs
  have L4 : Looks (model prog w) hh (fillsNumberSlot (.ref D) nm') false := fills_none X hc2 hm2 a1 a2 b1 b2 c1 c2
  have hne : (Value.ref C == Value.ref D) = false := Bool.eq_false_iff.mpr fun q => by
    have := beq_iff_eq.mp q
    cases this
    exact hCD rfl
  simp only [binaryOp, hi]
  refine wpAny_holding (wpAny_bind ?_)
  unfold binaryOp1
  refine wpAny_bind (L1.at (wpAny_bind (L2.at (wpAny_bind (L3.at ?_)))))
  simp only [hne, Bool.false_eq_true, if_false]
  ksp_lk
  refine wpAny_mono one (fun r s' hr' => ?_) fun _ _ e => e
  obtain ⟨v, rfl, hq⟩ := hr'
  ksp_lk
  exact hq
end
section
variable {X : Cx} {f C D B : Addr} {fd : FuncData} {ps : List Str} {sp : Sp} {CX : CXT} {k : Nat} {E : XK} {op : Operator}
/-- the classes' facts of such an operator -/
structure BinD (K : PySem.W.Frag) (C D B : Addr) (nm : String) (f : Addr) : Prop where
  ne : C ≠ D
  sf : PySem.W.selfFirst K C = true
  at_ : PySem.W.findIn K (.ref C) (PySem.dunder nm) = some (some (.ref f))
  fn : PySem.W.isFn K (.ref f) = true
  cl : ∃ cd, PySem.W.clsIn K D = some cd ∧ cd.mro = [.ref D, .ref B, .type "object"]
  a1 : PySem.W.findIn K (.ref D) (PySem.dunder nm) = some none
  a2 : PySem.W.findIn K (.ref D) (dunderR nm) = some none
  b1 : PySem.W.findIn K (.ref B) (PySem.dunder nm) = some none
  b2 : PySem.W.findIn K (.ref B) (dunderR nm) = some none
  c1 : PySem.W.findIn K (.type "object") (PySem.dunder nm) = some none
  c2 : PySem.W.findIn K (.type "object") (dunderR nm) = some none
def rBinD (C D : Addr) (sp : Sp) (E : XK) : R2 := fun x y H Q => ∃ (a b dx dy : Addr) (fs gs : List (Str × V)), x = .ref a ∧ y = .ref b ∧ H a = some (.ins C dx fs) ∧ H b = some (.ins D dy gs) ∧ sp [.ref a, .ref b] H Q E
theorem op_addD (hd : BinD X.K C D B op.info.2 f) (F : FnOk X.prog X.w X.K X.mg X.base CX k f fd ps sp) (hr : Room k X.A) (hb : Binds X.K fd ps []) (hx : Passes CX X E) : OpR X (binaryOp op) (rBinD C D sp E) := by
  rintro pins s σ H x y v u Q I rx ry ⟨a, b, dx, dy, fs, gs, rfl, rfl, ha, hbb, q⟩
  cases rx
  cases ry
  obtain ⟨od, J⟩ := inst_in I ha
  obtain ⟨od2, J2⟩ := inst_in I hbb
  obtain ⟨m, hF⟩ := I.fr
  obtain ⟨cd, hc2, hm2⟩ := hd.cl
  exact bin_D hF I.ok.mod.kin J J2 hd.ne hd.sf hd.at_ hd.fn hc2 hm2 hd.a1 hd.a2 hd.b1 hd.b2 hd.c1 hd.c2 (wpAny_mono (run_deep (vs := [.ref a, .ref b]) F hr I.env0 hb hx I (.cons rfl (.cons rfl .nil)) q) (fun r s1 hr => back_of hr) fun _ _ y => y)
end
/-! C(*y) -/
def tMakeS (K : PySem.W.Frag) (C : Addr) (sp : Sp) (E : XK) (te : TE) : TE := fun σ H Q => te σ H fun y H1 => ∃ (a : Addr) (xs : List V), y = .ref a ∧ (SqT K H1 a xs ∨ SqL K H1 a xs) ∧ ∀ x dx : Addr, H1 x = none → H1 dx = none → dx ≠ x →
  sp (V.ref x :: xs) (upd (upd H1 dx (.own x)) x (.ins C dx [])) (fun v H2 => v = .non ∧ Q (.ref x) H2) E
section
variable {X : Cx} {f C : Addr} {sp : Sp} {CX : CXT} {k : Nat} {E : XK} {x : Str} {e : Expr} {te : TE} {p sp_ pos : Pos}
theorem r_makeS {K : PySem.W.Frag} {σ : L2.St} {H : Hp} {Q : VK} (q : te σ H fun y H1 => ∃ (a : Addr) (xs : List V), y = .ref a ∧ (SqT K H1 a xs ∨ SqL K H1 a xs) ∧ ∀ x dx : Addr, H1 x = none → H1 dx = none → dx ≠ x →
  sp (V.ref x :: xs) (upd (upd H1 dx (.own x)) x (.ins C dx [])) (fun v H2 => v = .non ∧ Q (.ref x) H2) E) : tMakeS K C sp E te σ H Q := q
theorem pe_makeS1 (M : Mk X.K C f) (F : FnR X.prog X.w X.K X.mg X.base CX k f sp) (hr : Room (k + 1) X.A) (hg : Gl X x) (hm : X.mg x = some (.ref C)) (hx : Passes CX X E) (he : PE X e te) (hd : (x == ("__debug__" : Str)) = false := by decide)
    (hst : starEach [.Starred e sp_] X.env = [(true, eval e X.env)] := by rfl) : PE X (.Call (.Name x p) [.Starred e sp_] [] pos) (tMakeS X.K C sp E te) := by
  refine ⟨fun pins s σ H Q I h => ?_⟩
  refine wpAny_Call_Name_kw (ld_glob I hg hm ?_ hd)
  refine PySem.W.callWith_S (h₀ := X.base) I.ok.mod.kin M.kp (thn (he.run pins s σ H _ I h) fun v s1 ⟨y, H1, I1, ry, a, xs, ey, hxs, q⟩ => ?_) hst
  subst ey
  obtain rfl : v = Value.ref a := ry
  exact StX.star_any I1 hxs fun us s2 I2 rv => ⟨I2.kIn, StX.run_makeR M F hr hx I2 rv q⟩
end
end AE

set_option Elab.async false
set_option linter.all false
set_option maxRecDepth 100000
set_option maxHeartbeats 2000000
/-! a def that is handed the exception which a suite handles -/
namespace AE
open PySem PySem.Spec PyProof.Rows L2 Evl
/-- its promise knows the exception's address, its class and its dict -/
structure FnP (P : Program) (w : World) (K : PySem.W.Frag) (mg : Str → Option Value) (base : Heap) (CX : CXT) (k : Nat) (f : Addr) (fd : FuncData) (ps : List Str) (sp : Addr → Value → Option Addr → Sp) : Prop where
  wid : ∀ a cls d vs H Q E, sp a cls d vs H Q E → vs.length = ps.length
  go : ∀ (A : Around) (fr : List Env) (s : Shared) (H : Hp) (us : List Value) (vs : List V) (Q : VK) (E : XK) (p : Addr × Obj) (cls : Value) (d : Option Addr), L2H.RoomH k A → L2H.Hot1 A p → L2H.PinOk fr H s p → Zc cls d p.2 → Env0 P w K mg base A fr s H →
    BindsTo s fd ⟨us, []⟩ (ps.zip us) → Vals vs us → sp p.1 cls d vs H Q E → codeAny (model P w) A (.call (.ref f) ⟨us, []⟩) (CR CX fr P w H s Q E) s
theorem fn_ofP {CX : CXT} {P : Program} {w : World} {K : PySem.W.Frag} {mg : Str → Option Value} {base : Heap} {k : Nat} {f : Addr} {fd : FuncData} {x qual : Str} {st : Stmt} {N ps : List Str} {sp : Addr → Value → Option Addr → Sp} (F : Fun K x qual st f fd) (S : FnScope N ps (defScope st))
    (wid : ∀ a cls d vs H Q E, sp a cls d vs H Q E → vs.length = ps.length)
    (body : ∀ (cdv : Value) (A : Around) (fr : List Env) (s : Shared) (H : Hp) (vs : List V) (Q : VK) (E : XK) (p : Addr × Obj) (cls : Value) (d : Option Addr), L2H.Hot1 A p → Zc cls d p.2 → L2H.RoomH k (A.deeper (envOfC qual (defScope st) s.heap.objs.size f cdv)) → sp p.1 cls d vs H Q E →
      ∃ t, PSs (L2H.cxH CX P w K mg base N qual (defScope st) f cdv A fr s H E p) (defBody st) t ∧ t { nx := fun _ H' => Q .non H', rt := Q } (L2.start N vs) H) : FnP P w K mg base CX (k + 1) f fd ps sp := by
  obtain ⟨oc, od, kV, doc, pm, an, cdv, ct, osl, efd, lk, hcd⟩ := F.ex
  subst efd
  refine ⟨wid, fun A fr s H us vs Q E p cls d room hot pin zc e0 bd rl want => ?_⟩
  have lvs := wid _ _ _ _ _ _ _ want
  have inK : K.In s.heap := e0.mod.kin.keeps fun b o e => (e0.bs b o e).1
  have noLim : s.heap.NoLimit := e0.mod.nolimit.keeps fun b o e => (e0.bs b o e).1
  have kinds : ∀ y ∈ ps.zip us, (defScope st).names.lookup y.1 = some .local ∨ ((defScope st).names.lookup y.1 = some .cell ∧ ((cellsFrom (s.heap.objs.size + 1) (defScope st).names []).lookup y.1).isSome = true) := fun ⟨n, v⟩ hy => (S.par n (List.of_mem_zip hy).1).imp id fun q => ⟨q, PySem.W.cellsFrom_some _ _ _ (.inl q)⟩
  refine codeAny_call_function room.depth (inK _ _ lk) rfl S.co S.gen rfl (PySem.W.codeRec_of inK hcd) (bd _ _ _ _ (wpAny_newFunctionEnv_cells S.kind kinds fun env he s1 x => ?_))
  subst he
  refine ⟨noLim.keeps x.toInCall.keep, codeAny_func ?_⟩
  obtain ⟨t, ht, hq⟩ := body cdv A fr s H vs Q E p cls d hot zc (room.deeper _) want
  refine wpAny_mono (ht.run [] s1 (L2.start N vs) H _ (L2H.inv_startH S pin e0 lvs rl x) hq) (fun fl s' hs => ?_) fun e s' hs => hs
  cases fl with
  | ret u =>
    obtain ⟨v, σ', H', J, rv, q⟩ := hs
    exact ⟨v, H', J.os, J.bare, J.base, J.hok, rv, q⟩
  | next =>
    obtain ⟨σ', H', J, q⟩ := hs
    exact ⟨V.non, H', J.os, J.bare, J.base, J.hok, rfl, q⟩
  | brk => exact hs.elim fun _ z => z.elim fun _ z => z.2.elim
  | cont => exact hs.elim fun _ z => z.elim fun _ z => z.2.elim
section
variable {X : Cx} {CX : CXT} {k : Nat} {f C a : Addr} {fd : FuncData} {ps : List Str} {sp : Addr → Value → Option Addr → Sp} {E : L2.St → XK} {x m : Str} {q pos apos : Pos} {e o : Expr} {es : List Expr} {ta : TE} {t : TA} {cls : Value} {d : Option Addr} {oe : Obj} {pn : List (Addr × Obj)}
theorem run_fnP {pins : List (Addr × Obj)} {σ : L2.St} {H : Hp} {s : Shared} {Q : VK} {us : List Value} {vs : List V} (F : FnP X.prog X.w X.K X.mg X.base CX k f fd ps sp) (room : L2H.RoomH k X.A) (hot : L2H.Hot1 X.A (a, oe)) (mem : (a, oe) ∈ X.pn) (zc : Zc cls d oe) (hb : Binds X.K fd ps []) (hx : PassesAt CX X σ (E σ))
    (I : Inv X pins σ H s) (rl : Vals vs us) (want : sp a cls d vs H Q (E σ)) : wpAny (model X.prog X.w) X.A (call (.ref f) us) (EP X pins σ Q) X.xe s := by
  have bb := hb s us I.kIn (by rw [List.append_nil, ← rl.length]; exact F.wid _ _ _ _ _ _ _ want)
  rw [List.append_nil] at bb
  have P1 := I.pin (a, oe) (List.mem_append_left _ mem)
  have pin : L2H.PinOk X.stack H s (a, oe) := ⟨P1.1, P1.2.1, fun hm => (List.mem_cons.mp (I.stkSub a hm)).elim P1.2.2.1 P1.2.2.2.1, P1.2.2.2.2⟩
  refine wpAny_call (codeAny_mono (F.go X.A X.stack s H us vs Q (E σ) (a, oe) cls d room hot pin zc I.env0 bb rl want) fun r s' hq => ?_)
  rcases r with er | fl
  · exact hx pins H s er s' I hq
  · cases fl with
    | ret u => exact I.after hq
    | next => exact hq.elim
    | brk => exact hq.elim
    | cont => exact hq.elim
theorem pe_callP (F : FnP X.prog X.w X.K X.mg X.base CX k f fd ps sp) (room : L2H.RoomH k (X.suite a ((a, oe) :: pn)).A) (hz : L2N.Zn cls d oe) (hf : ∃ vs, oe.data = .fields vs) (hg : Gl (X.suite a ((a, oe) :: pn)) x) (hm : X.mg x = some (.ref f)) (hk : PySem.W.keepIn X.K (.ref f) = true) (hb : Binds X.K fd ps []) (hx : ∀ σ, PassesAt CX (X.suite a ((a, oe) :: pn)) σ (E σ))
    (ha : PA (X.suite a ((a, oe) :: pn)) (e :: es) t) (hdb : (x == ("__debug__" : Str)) = false := by decide) (he : starEach (e :: es) X.env = (false, eval e X.env) :: starEach es X.env := by rfl) (hpl : (backTo pos (starEach es X.env)).any (·.1) = false := by rfl) :
    PE (X.suite a ((a, oe) :: pn)) (.Call (.Name x q) (e :: es) [] pos) (tCallS (sp a cls d) E t) := by
  refine ⟨fun pins s σ H Q I h => wpAny_Call_Name_kw (ld_glob (X := X.suite a ((a, oe) :: pn)) I hg hm ?_ hdb)⟩
  refine PySem.W.callWith_K (h₀ := X.base) I.ok.mod.kin hk (thn (ha.run pos pins s σ H _ I h) fun us s1 ⟨vs, H1, I1, r, q⟩ => ⟨I1.kIn, ?_⟩) he hpl
  obtain ⟨fv, hv⟩ := hf
  exact run_fnP (X := X.suite a ((a, oe) :: pn)) (oe := oe) F room ⟨rfl, fv, hv, hz.2.2 fv hv⟩ List.mem_cons_self hz.zc hb (hx σ) I1 r q
/-- isinstance(e, c) where e is held -/
theorem call_isP {D : Addr} (mem : (a, oe) ∈ X.pn) (C : ExcC X.K D) (hz : Zc cls d oe) (hf : ∃ vs, oe.data = .fields vs) : CallR X (.builtin "isinstance") (rIsX X.K D a cls d) := by
  rintro pins s σ H xs us Q I r ⟨rfl, dd, c, cv, b, fs, rfl, rfl, hdd, hcv, hk, q⟩
  match us, r with
  | [_, _], .cons rx (.cons rt .nil) =>
    cases rx
    cases hcv _ rt
    obtain ⟨there, _⟩ := I.pin (a, oe) (List.mem_append_left _ mem)
    obtain ⟨mA, hns, _⟩ := (show ObjOk X.prog X.w H s.heap dd (.xd fs) from I.hok dd _ hdd)
    obtain ⟨od, ho, _⟩ := lookIn_ns hns
    have J : PySem.W.InstAt s.heap a oe D (some od) := ⟨there, hz.1, hf.elim fun vs hv => by unfold PySem.W.notCls; rw [hv] <;> rfl, by rw [hz.2]; exact ho⟩
    have known : (PySem.W.clsIn X.K D).isSome = true := by
      have q := C.hd
      unfold PySem.W.hasDictIn at q
      cases z : PySem.W.clsIn X.K D with
      | some _ => rfl
      | none => rw [z] at q; cases q
    exact PySem.W.kia_one (PySem.W.kitx_exc known C.hg C.hk C.hs C.ha C.hn C.ht C.hm) I.kIn J hk (fun z => nomatch z) fun tk => ⟨.bl b, H, I.kept (t' := tk) fun _ _ z => z, rfl, q⟩
/-- e.f where e is held -/
theorem pe_xfP {n : Str} (mem : (a, oe) ∈ X.pn) (T : XfC X.K C) (own : PySem.W.findIn X.K (.ref C) n = some none) (hz : Zc cls d oe) (hf : ∃ vs, oe.data = .fields vs) (he : PE X e ta) (hb : attributeBase e n X.env (eval e X.env) = eval e X.env := by rfl) :
    PE X (.Attribute e n pos) (tXf a cls d C n ta) := by
  refine ⟨fun pins s σ H Q I h => attr_of hb (thn (he.run pins s σ H _ I h) fun u s1 hh => ?_)⟩
  obtain ⟨x, H1, I1, rx, rfl, rfl, dd, fs, v, rfl, ea, l, q⟩ := hh
  cases rx
  obtain ⟨there, _⟩ := I1.pin (a, oe) (List.mem_append_left _ mem)
  obtain ⟨mA, hns, hr⟩ := (show ObjOk X.prog X.w H1 s1.heap dd (.xd fs) from I1.hok dd _ ea)
  obtain ⟨od, ho, hl⟩ := lookIn_ns hns
  obtain ⟨u, hu, ru⟩ := RelO.some_of (v := v) (o := mA n) (by rw [← l]; exact hr n)
  have J : PySem.W.InstAt s1.heap a oe C (some od) := ⟨there, hz.1, hf.elim fun vs hv => by unfold PySem.W.notCls; rw [hv] <;> rfl, by rw [hz.2]; exact ho⟩
  exact HandSPX.exc_get I1.kIn J T.ga T.gg T.exC (PySem.W.findObj_own T.hdC own rfl (by rw [hl, hu])) (handed_of ru) ⟨v, H1, I1.tok _, ru, q⟩
end
/-- a def that may let such errors out, called where it lets none out -/
theorem passN0 {X : Cx} : Passes (L2N.CX X.prog X.w) X E0 := fun _ _ _ _ _ _ _ ⟨_, _, _, _, _, _, _, _, _, _, _, _, z⟩ => z.elim
/-- .. called where they go on outwards -/
theorem passN {X : Cx} {E : XK} (tk : L2N.Takes X (fun cls d _ H => E cls d H)) : Passes (L2N.CX X.prog X.w) X E := L2N.passes_call tk fun _ _ _ _ h => h
end AE
namespace AE
open PySem PySem.Spec PyProof.Rows L2 Evl
/-- a def with *args may let such errors out, too -/
theorem cxUpN {P : Program} {w : World} : StX.CXUp (L2N.CX P w) := fun outer s H s2 H2 E e s' un kp ho z => by
  obtain ⟨a, B, H', cls, d, ea, fly, hok, ub, na, os, ag, wish⟩ := z
  have laid : ∀ b o, s.heap.get? b = some o → H b = none → H2 b = none := fun b o q n => un.free b o q n (by simp)
  refine ⟨a, B, H', cls, d, ea, fly, hok, ?_, na, os.trans ho, ag, wish⟩
  exact { keep := fun b o q n hb => ub.keep b o (kp b o q) (laid b o q n) hb
          slot := fun b o q hb => ub.slot b o (kp b o q) hb
          free := fun b o q n => ub.free b o (kp b o q) (laid b o q n)
          there := fun b o q hb => ub.there b o (kp b o q) hb
          tups := fun b xs q => ub.tups b xs (un.tups b xs q)
          frzs := fun b o xs q => ub.frzs b o xs (un.frzs b o xs q)
          tbls := fun b ps q => (un.tbls b ps q).elim fun m1 e1 => (ub.tbls b _ e1).elim fun m2 e2 => ⟨m1 ++ m2, by rw [e2, Array.append_assoc]⟩ }
end AE
namespace AE
open PySem PySem.Spec PyProof.Rows L2 Evl
theorem passAtN0 {X : Cx} {σ : L2.St} : PassesAt (L2N.CX X.prog X.w) X σ E0 := fun _ _ _ _ _ _ ⟨_, _, _, _, _, _, _, _, _, _, _, _, z⟩ => z.elim
end AE

set_option Elab.async false
set_option linter.all false
set_option maxRecDepth 100000
set_option maxHeartbeats 2000000
/-! operators, items, methods and makings whose errors are told of the slots at hand -/
namespace AE
open PySem PySem.Spec PyProof.Rows L2 Evl
abbrev R2S := L2.St → R2
/-- an operator, told of slots -/
def OpS (X : Cx) (f : Value → Value → Sem Value) (r : R2S) : Prop :=
  ∀ (pins : List (Addr × Obj)) (s : Shared) (σ : L2.St) (H : Hp) (x y : V) (v u : Value) (Q : VK), Inv X pins σ H s → RelV x v → RelV y u → r σ x y H Q → wpAny (model X.prog X.w) X.A (f v u) (EP X pins σ Q) X.xe s
section
variable {X : Cx} {f C D B : Addr} {fd : FuncData} {ps : List Str} {sp : Sp} {CX : CXT} {k : Nat} {E : L2.St → XK} {op : Operator}
theorem op_addOS (hs : PySem.W.findIn X.K (.ref C) (PySem.dunder op.info.2) = some (some (.ref f))) (hf : PySem.W.isFn X.K (.ref f) = true) (hc : PySem.W.selfFirst X.K C = true) (F : FnOk X.prog X.w X.K X.mg X.base CX k f fd ps sp) (hr : Room k X.A) (hb : Binds X.K fd ps []) (hx : ∀ σ, PassesAt CX X σ (E σ)) :
    OpS X (binaryOp op) (fun σ => rBinO C sp (E σ)) := by
  rintro pins s σ H x y v u Q I rx ry ⟨a, b, dx, dy, fs, gs, rfl, rfl, ha, hbb, q⟩
  cases rx
  cases ry
  obtain ⟨od, J⟩ := inst_in I ha
  obtain ⟨od2, J2⟩ := inst_in I hbb
  obtain ⟨m, hF⟩ := I.fr
  exact PySem.W.binop_K hF I.ok.mod.kin J J2.type hc hs hf (wpAny_mono (run_deepS (vs := [.ref a, .ref b]) F hr I.env0 hb (hx σ) I (.cons rfl (.cons rfl .nil)) q) (fun r s1 hr => back_of hr) fun _ _ y => y)
theorem op_iaddOS (hs : PySem.W.findIn X.K (.ref C) (PySem.dunderI op.info.2) = some (some (.ref f))) (hf : PySem.W.isFn X.K (.ref f) = true) (hc : PySem.W.selfFirst X.K C = true) (F : FnOk X.prog X.w X.K X.mg X.base CX k f fd ps sp) (hr : Room k X.A) (hb : Binds X.K fd ps []) (hx : ∀ σ, PassesAt CX X σ (E σ)) :
    OpS X (inplaceOp op) (fun σ => rInO C sp (E σ)) := by
  rintro pins s σ H x y v u Q I rx ry ⟨a, dx, fs, rfl, ha, q⟩
  cases rx
  obtain ⟨od, J⟩ := inst_in I ha
  obtain ⟨m, hF⟩ := I.fr
  exact PySem.W.ksp_inplace hF I.ok.mod.kin J hc hs hf (wpAny_mono (run_deepS (vs := [.ref a, y]) F hr I.env0 hb (hx σ) I (.cons rfl (.cons ry .nil)) q) (fun r s1 hr => back_of hr) fun _ _ y => y)
theorem op_addDS (hd : BinD X.K C D B op.info.2 f) (F : FnOk X.prog X.w X.K X.mg X.base CX k f fd ps sp) (hr : Room k X.A) (hb : Binds X.K fd ps []) (hx : ∀ σ, PassesAt CX X σ (E σ)) : OpS X (binaryOp op) (fun σ => rBinD C D sp (E σ)) := by
  rintro pins s σ H x y v u Q I rx ry ⟨a, b, dx, dy, fs, gs, rfl, rfl, ha, hbb, q⟩
  cases rx
  cases ry
  obtain ⟨od, J⟩ := inst_in I ha
  obtain ⟨od2, J2⟩ := inst_in I hbb
  obtain ⟨m, hF⟩ := I.fr
  obtain ⟨cd, hc2, hm2⟩ := hd.cl
  exact bin_D hF I.ok.mod.kin J J2 hd.ne hd.sf hd.at_ hd.fn hc2 hm2 hd.a1 hd.a2 hd.b1 hd.b2 hd.c1 hd.c2 (wpAny_mono (run_deepS (vs := [.ref a, .ref b]) F hr I.env0 hb (hx σ) I (.cons rfl (.cons rfl .nil)) q) (fun r s1 hr => back_of hr) fun _ _ y => y)
end
section
variable {X : Cx} {a b : Expr} {ta tb te : TE} {op : Operator} {r : R2S} {pos pos' : Pos} {i : Nat} {x : Str} {e : Expr}
def tOpS (r : R2S) (ta tb : TE) : TE := fun σ H Q => ta σ H fun x H1 => tb σ H1 fun y H2 => r σ x y H2 Q
theorem r_opS {σ : L2.St} {H : Hp} {Q : VK} (q : ta σ H fun x H1 => tb σ H1 fun y H2 => r σ x y H2 Q) : tOpS r ta tb σ H Q := q
theorem pe_opS (ho : OpS X (binaryOp op) r) (ha : PE X a ta) (hb : PE X b tb) : PE X (.BinOp a op b pos) (tOpS r ta tb) :=
  ⟨fun pins s σ H Q I h => wpAny_BinOp (binT ha hb I h fun v u s2 x y H2 I2 rx ry q => ho pins s2 σ H2 x y v u Q I2 rx ry q)⟩
/-- name op= e, told of slots -/
def tAugO (i : Nat) (te : TE) (r : R2S) : TS := fun D σ H => ∃ x, σ[i]? = some (some x) ∧ te σ H fun y H1 => r σ x y H1 fun z H2 => D.nx (σ.set i (some z)) H2
theorem ps_augO (hN : X.N.Nodup) (hi : X.N[i]? = some x) (hx : Loc X.env.scope x) (he : PE X e te) (ho : OpS X (inplaceOp op) r) (hf : X.fn x = true ∨ X.env.scope.names.lookup x = some .local := by first | exact .inl rfl | exact .inr rfl | assumption) :
    PS X (.AugAssign (.Name x pos') op e pos) (tAugO i te r) := by
  refine ⟨fun pins s σ H D I ⟨v, e1, want⟩ => wpAny_AugAssign_Name ?_⟩
  obtain ⟨m, hn, hl⟩ := I.loc
  obtain ⟨u, ru, there⟩ := hl i x v hi e1 (hx.elim .inl fun k => .inr (.inl k))
  have run : wpAny (model X.prog X.w) X.A (eval e X.env) (fun w s₂ => wpAny (model X.prog X.w) X.A (inplaceOp op u w) (fun r s₃ => wpAny (model X.prog X.w) X.A (storeName X.env x r) (fun _ => SP X pins D .next) X.xe s₃) X.xe s₂) X.xe s :=
    thn (he.run pins s σ H _ I want) fun w s1 ⟨y, H1, I1, r1, q1⟩ => thn (ho pins s1 σ H1 v y u w _ I1 ru r1 q1) fun z s2 ⟨zv, H2, I2, r2, q2⟩ => store_ok I2 hN hi hx r2 (fun s3 I3 => ⟨_, H2, I3, q2⟩) hf
  rcases there with ⟨hk, hm⟩ | ⟨hk | hk, c, hc, hcell⟩
  · exact wpAny_loadName_local I.ok.kind hk hn hm run
  · exact wpAny_loadName_cell I.ok.kind hk hc hcell run
  · have free : X.env.scope.names.lookup x = some .free := hk
    exact hx.elim (fun k => by rw [k] at free; cases free) fun k => by rw [k] at free; cases free
end
/-! o[i] -/
section
variable {X : Cx} {f C : Addr} {fd : FuncData} {ps : List Str} {sp : Sp} {CX : CXT} {k : Nat} {E : L2.St → XK} {a b : Expr} {ta tb : TE} {pos : Pos}
def tIxOS (C : Addr) (sp : Sp) (E : L2.St → XK) (ta tb : TE) : TE := fun σ H Q => ta σ H fun x H1 => tb σ H1 fun y H2 => ∃ a dx fs, x = .ref a ∧ H2 a = some (.ins C dx fs) ∧ sp [.ref a, y] H2 Q (E σ)
theorem pe_ixOS (hs : Meth X.K C "__getitem__" f) (hfn : PySem.W.fnIn X.K f = true) (F : FnOk X.prog X.w X.K X.mg X.base CX k f fd ps sp) (hr : Room (k + 1) X.A) (hb : Binds X.K fd ps []) (hx : ∀ σ, PassesAt CX X σ (E σ))
    (pa : PE X a ta) (pb : PE X b tb) (hsl : ∀ v u, subscripted b true v u = runValue (.builtin "lifetime.subscript" ⟨[v, u], []⟩) := by intro _ _; with_unfolding_all rfl) : PE X (.Subscript a b pos) (tIxOS C sp E ta tb) := by
  refine ⟨fun pins s σ H Q I h => Subscript_ (binT pa pb I h fun v u s2 x y H2 I2 rx ry ⟨p, dx, fs, ex, hp, q⟩ => ?_)⟩
  subst ex
  cases rx
  obtain ⟨od, J⟩ := inst_in I2 hp
  obtain ⟨m, hF⟩ := I2.fr
  exact PySem.W.sub_K hF I2.ok.mod.kin J hs.at_ hfn hs.fn (run_deepS (vs := [.ref p, y]) F hr.in1 I2.env0.in1 hb (hx σ) I2 (.cons rfl (.cons ry .nil)) q) (hsl _ _)
end
/-! C(e, ..) by a promise on rows -/
section
variable {X : Cx} {CX : CXT} {k : Nat} {f C : Addr} {sp : Sp} {E : L2.St → XK} {x : Str} {e : Expr} {es : List Expr} {t : TA} {p pos : Pos}
def tMakeRS (C : Addr) (sp : Sp) (E : L2.St → XK) (t : TA) : TE := fun σ H Q => t σ H fun vs H1 => ∀ x dx, H1 x = none → H1 dx = none → dx ≠ x → sp (V.ref x :: vs) (upd (upd H1 dx (.own x)) x (.ins C dx [])) (fun v H2 => v = .non ∧ Q (.ref x) H2) (E σ)
theorem pe_makeRS (M : Mk X.K C f) (F : FnR X.prog X.w X.K X.mg X.base CX k f sp) (hr : Room (k + 1) X.A) (hg : Gl X x) (hm : X.mg x = some (.ref C)) (hx : ∀ σ, PassesAt CX X σ (E σ)) (ha : PA X (e :: es) t) (hdb : (x == ("__debug__" : Str)) = false := by decide)
    (he : starEach (e :: es) X.env = (false, eval e X.env) :: starEach es X.env := by rfl) (hpl : (backTo pos (starEach es X.env)).any (·.1) = false := by rfl) : PE X (.Call (.Name x p) (e :: es) [] pos) (tMakeRS C sp E t) := by
  refine ⟨fun pins s σ H Q I h => wpAny_Call_Name_kw (ld_glob I hg hm (PySem.W.callWith_K (h₀ := X.base) I.ok.mod.kin M.kp (thn (ha.run pos pins s σ H _ I h) fun us s1 ⟨vs, H1, I1, r, q⟩ => ⟨I1.kIn, ?_⟩) he hpl) hdb)⟩
  have I2 := Inv.made (C := C) I1
  have want := q (s1.heap.objs.size + 1) s1.heap.objs.size (I1.hok.fresh (Nat.le_succ _)) (I1.hok.fresh (Nat.le_refl _)) (Nat.ne_of_lt (Nat.lt_succ_self _))
  have rows : Vals (V.ref (s1.heap.objs.size + 1) :: vs) (Value.ref (s1.heap.objs.size + 1) :: us) := .cons rfl r
  refine wpAny_call (make_map (f := f) I1.kIn M.makes M.init (beq_iff_eq.mp M.fn) (codeAny_mono (F _ X.stack _ _ (Value.ref (s1.heap.objs.size + 1) :: us) _ _ (E σ) (hr.make C us []) (I2.env0.make C us []) rows want) fun r s' hq' => ?_))
  rcases r with er | fl
  · exact hx σ pins _ _ er s' I2 hq'
  · cases fl with
    | ret u =>
      obtain ⟨v, H', I3, rv, rfl, q3⟩ := I2.after hq'
      exact ⟨rv, V.ref (s1.heap.objs.size + 1), H', I3, rfl, q3⟩
    | next => exact hq'.elim
    | brk => exact hq'.elim
    | cont => exact hq'.elim
theorem r_makeRS {σ : L2.St} {H : Hp} {Q : VK} (q : t σ H fun vs H1 => ∀ x dx, H1 x = none → H1 dx = none → dx ≠ x → sp (V.ref x :: vs) (upd (upd H1 dx (.own x)) x (.ins C dx [])) (fun v H2 => v = .non ∧ Q (.ref x) H2) (E σ)) : tMakeRS C sp E t σ H Q := q
end
/-! o.m(e, ..) -/
section
variable {X : Cx} {CX : CXT} {k : Nat} {f C : Addr} {fd : FuncData} {ps : List Str} {sp : Sp} {E : L2.St → XK} {m : Str} {o e : Expr} {es : List Expr} {ta : TE} {t : TA} {apos pos : Pos}
theorem pe_methE {pl : Sem Bool} (he : PE X o ta) (c : Cls X.K C) (hm : Meth X.K C m f) (F : FnOk X.prog X.w X.K X.mg X.base CX k f fd ps sp) (hr : Room k X.A) (hb : Binds X.K fd ps []) (hx : ∀ σ, PassesAt CX X σ (E σ)) (ha : PA X (e :: es) t) (hst : starEach (e :: es) X.env = (false, eval e X.env) :: starEach es X.env := by rfl)
    (hpl : (backTo pos (starEach es X.env)).any (·.1) = false := by rfl) (ht : eval (.Call (.Attribute o m apos) (e :: es) [] pos) X.env = (do let ov ← eval o X.env; standAt apos.atName; let (g, first) ← holding [ov] (getMethod ov m pl); callWith pos g first (backTo pos (starEach (e :: es) X.env)) (backToKw pos (keywordEach [] X.env))) := by rfl) :
    PE X (.Call (.Attribute o m apos) (e :: es) [] pos) (L2H.tMethH C m sp E ta t) := by
  refine ⟨fun pins s σ H Q I h => PySem.W.methodCall_KW (pl := pl) (thn (he.run pins s σ H _ I h) fun u s1 ⟨x, H1, I1, rx, a, dx, fs, ex, ea, l, q⟩ => ?_) ht⟩
  subst ex
  cases rx
  refine getmeth_ok I1 ea c hm l (PySem.W.callWith_K (first := [.ref a]) (h₀ := X.base) I1.ok.mod.kin hm.kp (thn (ha.run pos pins s1 σ H1 _ I1 q) fun us s2 ⟨vs, H2, I2, r, q2⟩ => ⟨I2.kIn, ?_⟩) hst hpl)
  exact run_deepS (us := .ref a :: us) (vs := .ref a :: vs) F hr I2.env0 hb (hx σ) I2 (.cons rfl r) q2
theorem r_methH {σ : L2.St} {H : Hp} {Q : VK} (q : ta σ H fun x H1 => ∃ a dx fs, x = .ref a ∧ H1 a = some (.ins C dx fs) ∧ fs.lookup m = none ∧ t σ H1 fun vs H2 => sp (x :: vs) H2 Q (E σ)) : L2H.tMethH C m sp E ta t σ H Q := q
end
theorem r_callS {sp : Sp} {E : L2.St → XK} {t : TA} {σ : L2.St} {H : Hp} {Q : VK} (q : t σ H fun vs H1 => sp vs H1 Q (E σ)) : tCallS sp E t σ H Q := q
end AE

set_option Elab.async false
set_option linter.all false
set_option maxRecDepth 100000
set_option maxHeartbeats 2000000
/-! try with several «except C as e», all of one name e -/
namespace AE
open PySem PySem.Spec PyProof.Rows L2 Evl
abbrev Suites := List (Value × (Addr → Value → Option Addr → TS))
/-- what stands behind a suite: e is gone -/
def goneE (i : Nat) (D : Ends) : Ends := { nx := fun σ H => D.nx (σ.set i none) H, rt := D.rt, bk := fun σ H => D.bk (σ.set i none) H, ct := fun σ H => D.ct (σ.set i none) H }
def wManyA (K : PySem.W.Frag) (i : Nat) (Wout : WX) (D : Ends) : Suites → WX
  | [] => Wout
  | (c, ts) :: r => fun cls d σ H => ∃ b, PySem.W.exmOne K cls c = some b ∧ (b = true → ∀ a, H a = none → ts a cls d (goneE i D) (σ.set i (some (.ref a))) H) ∧ (b = false → wManyA K i Wout D r cls d σ H)
inductive HdsA (X : Cx) (n : Str) : List ExceptHandler → Suites → Prop
  | nil : HdsA X n [] []
  | cons {x : Str} {c : Value} {ts : Addr → Value → Option Addr → TS} {b₀ : Stmt} {rest : List Stmt} {np hp : Pos} {hds : List ExceptHandler} {l : Suites} (named : Names X x c)
      (suite : ∀ (a : Addr) (oe : Obj) (cls : Value) (d : Option Addr) (pn : List (Addr × Obj)), L2N.Zn cls d oe → (∃ vs, oe.data = .fields vs) → PSs (X.suite a ((a, oe) :: pn)) (b₀ :: rest) (ts a cls d)) (more : HdsA X n hds l) :
      HdsA X n (.ExceptHandler (some (.Name x np)) (some n) (b₀ :: rest) hp :: hds) ((c, ts) :: l)
section
variable {X : Cx} {n : Str} {i : Nat} {body : List Stmt} {hds : List ExceptHandler} {h₀ : ExceptHandler} {l : Suites} {pos : Pos} {tb : WX → TS} {Wout : WX}
theorem ps_try_manyA (stk : X.stack = X.env :: X.outer) (own : X.env.frame = some X.env.locals) (nd : X.N.Nodup) (at_ : X.N[i]? = some n) (loc : X.env.kindOf n = some .local) (tk : L2N.Takes X Wout)
    (hb : ∀ (W : WX) (pn : List (Addr × Obj)) (xe : Value → Shared → Prop), L2N.Takes (X.tr pn xe) W → PassesOwn (model X.prog X.w) X.A X.env xe → PSs (X.tr pn xe) body (tb W)) (hh : HdsA X n (h₀ :: hds) l) :
    PS X (.Try body (h₀ :: hds) [] [] pos) (fun D σ H => tb (wManyA X.K i Wout D l) D σ H) := by
  refine ⟨fun pins s σ H D I want => ?_⟩
  have okX := I.ok
  have frames : X.A.frames = some (X.env :: X.outer) := by rw [okX.frames, stk]
  have seen : Loc X.env.scope n := .inl loc
  refine wpAny_Try_except (wpAny_mono ((hb (wManyA X.K i Wout D l) (X.pn ++ pins) (fun e s₁ => wpAny (model X.prog X.w) X.A (noteFrame e X.env) (fun _ s₂ => wpAny (model X.prog X.w) X.A (setFlight e none) (fun _ s₃ => wpAny (model X.prog X.w) X.A (handleBy e X.env (h₀ :: hds)) (SP X pins D) X.xe s₃) X.xe s₂) X.xe s₁) (fun u s1 air => ?_) PassesOwn.looking).run [] s σ H D (I.toTry _) want) (fun f s1 done => ?_) fun e s1 he => he)
  · obtain ⟨a, B, sI, pins1, σ1, H1, cls, d, rfl, JT, nb, up, sky, na, os, ag, w⟩ := air
    have J : Inv X pins σ1 H1 sI := JT.ofTry okX
    rw [stk] at sky
    show wpAny (model X.prog X.w) X.A (noteFrame (.ref a) X.env) _ _ _
    refine L2N.Sky.land L2N.Zn.steady frames own sky fun h3 fl3 up3 => ?_
    have J3 : Inv X pins σ1 H1 { s1 with heap := h3 } := J.landed nb fl3.1 (up.trans up3) os ag
    obtain ⟨oe3, vs3, he3, hz3, hd3⟩ := fl3.there
    have apart : a ∉ frs (X.env :: X.outer) := fun hm => by
      obtain ⟨_, o2, e2, plain⟩ := fl3.2.2.1.mem hm
      rw [he3] at e2
      cases e2
      exact plain _ hd3
    have nL : a ≠ X.env.locals := fun z => apart (List.mem_filterMap.mpr ⟨X.env, List.mem_cons_self, by rw [own, z]⟩)
    have nF : a ∉ X.fs := fun hm => (List.mem_filterMap.mp hm).elim fun e ⟨he, q⟩ => apart (List.mem_filterMap.mpr ⟨e, List.mem_cons_of_mem _ he, q⟩)
    have S3 := J3.suite he3 hd3 na nL nF
    have walk : ∀ {hs1 : List ExceptHandler} {l1 : Suites}, HdsA X n hs1 l1 → wManyA X.K i Wout D l1 cls d σ1 H1 → wpAny (model X.prog X.w) X.A (handleBy (.ref a) X.env hs1) (SP X pins D) X.xe { s1 with heap := h3 } := by
      intro hs1 l1 hk
      induction hk with
      | nil =>
        intro w
        obtain ⟨_, _, _, oe, vs, T, oT, _, he, hz, hd, h1, _⟩ := id fl3
        refine wpAny_handleBy_nil ?_
        unfold PySem.passOn
        refine wpAny_bind (wpAny_field he hd h1 ?_)
        rw [if_neg (show ¬ ((Value.ref T == Value.none) = true) by simp)]
        have out : wpAny (model X.prog X.w) X.A (setFlight (.ref a) X.env.frame) (fun _ s4 => wpAny (model X.prog X.w) X.A (throw (.ref a) : Sem Flow) (SP X pins D) X.xe s4) X.xe { s1 with heap := h3 } := by
          rw [own]
          exact HandSPX.setFlight_upZ fl3 fun h4 held up4 => wpAny_throw (tk _ _ ⟨a, B, sI, pins, σ1, H1, cls, d, rfl, J, nb, (up.trans up3).trans up4, .inr (.inr (by rw [stk]; exact held)), na, os, ag, w⟩)
        first
          | exact wpAny_bind (wpAny_pure (wpAny_bind out))
          | exact wpAny_bind out
      | @cons x c ts b₀ rest np hp hds2 l2 named suite more ih =>
        rintro ⟨b, hb1, yes, no⟩
        refine wpAny_handleBy_cons (codeAny_handlers_test ?_) (by intro q; cases q)
        have kind : PySem.W.Looks (model X.prog X.w) h3 (typeOf (.ref a)) cls := fun A Q E s k q => wpAny_typeOf_ref (k _ _ he3) (by rw [hz3.1]; exact q)
        have fits := PySem.W.exm_one (M := model X.prog X.w) (J3.kIn) kind hb1
        have asked : ∀ {Q : Value → Shared → Prop} {E : Value → Shared → Prop}, Q c { s1 with heap := h3 } → wpAny (model X.prog X.w) (X.A.mark (some (.ref a))) (eval (.Name x np) X.env) Q E { s1 with heap := h3 } := fun {Q E} q => by
          obtain ⟨hg, hdb, hm | ⟨hm, hv, hn⟩⟩ := named
          · exact ld_glob (X := X.suite a ((a, oe3) :: (X.pn ++ pins))) S3 hg hm q hdb
          · exact ld_blt (X := X.suite a ((a, oe3) :: (X.pn ++ pins))) S3 hg hm hv q hn hdb
        refine asked (fits.here ?_)
        cases b with
        | false =>
          show wpAny _ X.A (handleBy (.ref a) X.env hds2) _ _ _
          exact ih (no rfl)
        | true =>
          refine codeAny_handlers_suite_as (HandSPX.lands_againZ fl3 fun h4 fl4 up4 => ?_)
          have J4 : Inv X pins σ1 H1 { s1 with heap := h4 } := J.landed nb fl4.1 ((up.trans up3).trans up4) os ag
          obtain ⟨oe4, vs4, he4, hz4, hd4⟩ := fl4.there
          refine store_ok (X := X.suite a ((a, oe4) :: (X.pn ++ pins))) (v := .ref a) (J4.suite he4 hd4 na nL nF) nd at_ seen rfl (fun s5 S5 => ?_) (.inr loc)
          refine wpAny_mono ((suite a oe4 cls d (X.pn ++ pins) hz4 ⟨_, hd4⟩).run [] s5 _ H1 _ S5 (yes rfl a na)) (fun f s6 done => ?_) fun _ _ z => z.elim
          have gone : ∀ {σ6 : L2.St} {H6 : Hp} {Q : Shared → Prop}, Inv (X.suite a ((a, oe4) :: (X.pn ++ pins))) [] σ6 H6 s6 → (∀ s7, Inv X pins (σ6.set i none) H6 s7 → Q s7) → wpAny (model X.prog X.w) X.A (do bindName X.env n .none; unbindBehindTheSuite X.env n hp) (fun _ s7 => Q s7) X.xe s6 :=
            fun {σ6 H6 Q} S6 hq => gone_ok (S6.unsuite okX) nd at_ loc hq
          cases f with
          | next => exact done.elim fun σ6 z => z.elim fun H6 ⟨S6, q6⟩ => gone S6 fun s7 J7 => ⟨_, _, J7, q6⟩
          | brk => exact done.elim fun σ6 z => z.elim fun H6 ⟨S6, q6⟩ => gone S6 fun s7 J7 => ⟨_, _, J7, q6⟩
          | cont => exact done.elim fun σ6 z => z.elim fun H6 ⟨S6, q6⟩ => gone S6 fun s7 J7 => ⟨_, _, J7, q6⟩
          | ret u => exact done.elim fun v6 z => z.elim fun σ6 z => z.elim fun H6 ⟨S6, r6, q6⟩ => gone S6 fun s7 J7 => ⟨_, _, _, J7, r6, q6⟩
    exact walk hh w
  · cases f with
    | next => exact done.elim fun σ1 z => z.elim fun H1 ⟨J, q⟩ => wpAny_execs_nil ⟨σ1, H1, J.ofTry okX, q⟩
    | brk => exact done.elim fun σ1 z => z.elim fun H1 ⟨J, q⟩ => ⟨σ1, H1, J.ofTry okX, q⟩
    | cont => exact done.elim fun σ1 z => z.elim fun H1 ⟨J, q⟩ => ⟨σ1, H1, J.ofTry okX, q⟩
    | ret u => exact done.elim fun v z => z.elim fun σ1 z => z.elim fun H1 ⟨J, r, q⟩ => ⟨v, σ1, H1, J.ofTry okX, r, q⟩
end
end AE
namespace AE
open PySem PySem.Spec PyProof.Rows L2 Evl
/-- a promise by rows, the defaults behind them -/
theorem fnR_of {P : Program} {w : World} {K : PySem.W.Frag} {mg : Str → Option Value} {base : Heap} {CX : CXT} {k : Nat} {f : Addr} {fd : FuncData} {ps : List Str} {sp : Sp} {ds : List Value} {dvs : List V} (F : FnOk P w K mg base CX k f fd ps sp) (hb : Binds K fd ps ds) (hd : Vals dvs ds) :
    FnR P w K mg base CX k f (fun vs H Q E => sp (vs ++ dvs) H Q E) := by
  intro A outer s H us vs Q E hr e0 r want
  have inK : K.In s.heap := e0.mod.kin.keeps fun b o e => (e0.bs b o e).1
  have all := r.append hd
  exact F.run A outer s H ⟨us, []⟩ (us ++ ds) (vs ++ dvs) Q E hr e0 (hb s us inK (by rw [← all.length]; exact F.len _ _ _ _ want)) all want
end AE
namespace AE
open PySem PySem.Spec PyProof.Rows L2 Evl
/-- an error of the class at S is not what «except D» names -/
theorem exm_otherE {K : PySem.W.Frag} {S D : Addr} (h1 : PySem.W.subIn K (.ref D) (.type "BaseException") = some true) (h2 : PySem.W.isClsIn K D = true) (h3 : PySem.W.typeIn K (.ref D) = some (.type "type")) (h4 : PySem.W.subIn K (.ref S) (.ref D) = some false) :
    PySem.W.exmOne K (.ref S) (.ref D) = some false := by
  have h2' : (PySem.W.clsIn K D).isSome = true := h2
  unfold PySem.W.exmOne PySem.W.kitCls
  simp only [h1, h2', h3, h4, beq_self_eq_true, Bool.and_self, if_true]
end AE

set_option Elab.async false
set_option linter.all false
set_option maxRecDepth 100000
set_option maxHeartbeats 1000000
/-! ints of either sign and tuples of ints in an f-string -/
namespace AE
open PySem PySem.Spec PyProof.Rows L2 Evl
theorem int_len {i : Int} (h : i.natAbs < 10 ^ 9) : (Str.ofString (toString i)).length ≤ 10 := by
  have := int_text_length_le10 (k := 9) (by decide) h
  rw [PySem.ofString_length]
  exact this
theorem int_log {i : Int} (h : i.natAbs < 10 ^ 9) : i.natAbs.log2 < 1920 := by
  by_cases h0 : i.natAbs = 0
  · rw [h0]
    decide
  · have := (Nat.log2_lt h0 (k := 40)).mpr (by omega)
    omega
section
variable {σ : L2.St} {H : Hp} {Q : Str → Hp → Prop} {ts : List TE} {acc : Str} {n m : Nat}
theorem js_z {i : Nat} {e : Int} (h : σ[i]? = some (some (.int e))) (ha : acc.length ≤ n) (he : e.natAbs < 10 ^ 9) (hs : n + 10 ≤ 100000) (q : ∀ y : Str, (acc ++ y).length ≤ n + 10 → tJs ts (acc ++ y) σ H Q) : tJs (tFmt (tVar i) :: ts) acc σ H Q := by
  have l : (acc ++ Str.ofString (toString e)).length ≤ n + 10 := by
    rw [len_app]
    have := int_len he
    omega
  exact ⟨_, h, .inr ⟨e, rfl, int_log he, Str.ofString (toString e), rfl, Nat.le_trans l (sz_of hs), q _ l⟩⟩
end
/-! {t}, t a tuple of ints -/
theorem reprs_int {prog : Program} {w : World} : ∀ {l : List Int} {its : List Value}, Vals (l.map V.int) its → (∀ y ∈ l, y.natAbs < 10 ^ 9) → ReprAll prog w its (l.map fun i : Int => Str.ofString (toString i))
  | [], _, r, _ => by
    cases r
    exact .nil
  | y :: l, _, r, h => by
    cases r with
    | cons r1 r2 =>
      obtain ⟨t, rfl⟩ := r1
      exact .cons (ReprIs.int t (int_log (h y List.mem_cons_self))) (reprs_int r2 fun z hz => h z (List.mem_cons_of_mem _ hz))
theorem piled_ints : ∀ l : List Int, (∀ y ∈ l, y.natAbs < 10 ^ 9) → piled (l.map fun i : Int => Str.ofString (toString i)) ≤ 12 * l.length
  | [], _ => Nat.zero_le _
  | y :: l, h => by
    have h1 := int_len (h y List.mem_cons_self)
    have h2 := piled_ints l fun z hz => h z (List.mem_cons_of_mem _ hz)
    rw [List.map_cons, piled_cons, List.length_cons]
    omega
section
variable {X : Cx}
/-- some text, of at most 12 signs an item and some -/
def tFmtI (K : PySem.W.Frag) (te : TE) : TE := fun σ H Q => te σ H fun x H1 => ∃ (a : Addr) (l : List Int), x = .ref a ∧ SqT K H1 a (l.map V.int) ∧ (∀ y ∈ l, y.natAbs < 10 ^ 9) ∧ l.length ≤ 100 ∧ ∀ m : Str, m.length ≤ 1207 → Q (.str m) H1
theorem pe_fmtI {e : Expr} {te : TE} {pos : Pos} {k : Nat} (hr : Room k X.A) (he : PE X e te) : PE X (.FormattedValue e (-1) none pos) (tFmtI X.K te) := by
  refine ⟨fun pins s σ H Q I h => wpAny_FormattedValue_plain (thn (he.run pins s σ H _ I h) fun v s1 ⟨x, H1, I1, r1, a, l, ex, ht, hc, hz, q⟩ => ?_)⟩
  subst ex
  cases r1
  obtain ⟨its, rv, ⟨o, ho, hcl, n, hd⟩, _⟩ := I1.tuple ht
  have hp := piled_ints l hc
  have htx := fmt_text (l.map fun i : Int => Str.ofString (toString i))
  have hu := hr.units
  have big : 1300 ≤ sizeLine := by decide
  exact fmt_tuple (ts := l.map fun i : Int => Str.ofString (toString i)) (by omega) ho hcl hd (reprs_int rv hc) (by omega) fun m u tk hm => ⟨.str m, H1, I1.tok _, ⟨u, rfl⟩, q m (by omega)⟩
theorem js_I {K : PySem.W.Frag} {σ : L2.St} {H : Hp} {Q : Str → Hp → Prop} {ts : List TE} {acc : Str} {n i : Nat} {a : Addr} {l : List Int} (h : σ[i]? = some (some (.ref a))) (ht : SqT K H a (l.map V.int)) (hc : ∀ y ∈ l, y.natAbs < 10 ^ 9) (hl : l.length ≤ 100) (ha : acc.length ≤ n) (hs : n + 1207 ≤ 100000)
    (q : ∀ y : Str, (acc ++ y).length ≤ n + 1207 → tJs ts (acc ++ y) σ H Q) : tJs (tFmtI K (tVar i) :: ts) acc σ H Q := by
  refine ⟨_, h, a, l, rfl, ht, hc, hl, fun m hm => ?_⟩
  have l : (acc ++ m).length ≤ n + 1207 := by
    rw [len_app]
    omega
  exact ⟨m, rfl, Nat.le_trans l (sz_of hs), q _ l⟩
end
end AE


set_option Elab.async false
set_option linter.all false
set_option maxRecDepth 100000
set_option maxHeartbeats 4000000
namespace K08
open PySem PySem.Spec PyProof.Rows L2 Evl AE
def topS (i : Nat) : Stmt := PySem.Challenge.pw_askshanded_k08_first_standings.main.body.getD i (.Pass ⟨0, 0, 0, 0⟩)
abbrev s__law_cell : Stmt := topS 55
abbrev N__law_cell : List Str := ["_law_script", "_law_k"]
theorem sc__law_cell : FnScope N__law_cell ["_law_script", "_law_k"] (defScope s__law_cell) := ⟨rfl, rfl, rfl, by decide +kernel, rfl, by decide +kernel, by decide +kernel⟩
abbrev s__law_draws : Stmt := topS 56
abbrev N__law_draws : List Str := ["_law_script", "_law_k", "_law_many", "_law_cell_here", "_law_row", "_law_rest", "_law_turn", "_law_seed"]
theorem sc__law_draws : FnScope N__law_draws ["_law_script", "_law_k", "_law_many"] (defScope s__law_draws) := ⟨rfl, rfl, rfl, by decide +kernel, rfl, by decide +kernel, by decide +kernel⟩
abbrev s__law_asks : Stmt := topS 57
abbrev N__law_asks : List Str := ["_law_row", "_law_many", "_law_letters", "_law_word", "_law_digit", "_law_asks_here", "_law_at", "_law_size_here", "_law_place", "_law_jump", "_law_letter"]
theorem sc__law_asks : FnScope N__law_asks ["_law_row", "_law_many"] (defScope s__law_asks) := ⟨rfl, rfl, rfl, by decide +kernel, rfl, by decide +kernel, by decide +kernel⟩
abbrev s__law_steps : Stmt := topS 58
abbrev N__law_steps : List Str := ["_law_row", "_law_size_here", "_law_asks_here", "_law_single", "_law_steps_here", "_law_state", "_law_at", "_law_digit", "_law_end"]
theorem sc__law_steps : FnScope N__law_steps ["_law_row", "_law_size_here", "_law_asks_here", "_law_single"] (defScope s__law_steps) := ⟨rfl, rfl, rfl, by decide +kernel, rfl, by decide +kernel, by decide +kernel⟩
abbrev s__law_marks : Stmt := topS 59
abbrev N__law_marks : List Str := ["_law_digit", "_law_size_here", "_law_state"]
theorem sc__law_marks : FnScope N__law_marks ["_law_digit", "_law_size_here"] (defScope s__law_marks) := ⟨rfl, rfl, rfl, by decide +kernel, rfl, by decide +kernel, by decide +kernel⟩
abbrev s__law_lot : Stmt := topS 60
abbrev N__law_lot : List Str := ["_law_script", "_law_asks_here", "_law_many", "_law_single", "_law_lot_here", "_law_who", "_law_row", "_law_size_here", "_law_steps_here"]
theorem sc__law_lot : FnScope N__law_lot ["_law_script", "_law_asks_here", "_law_many", "_law_single"] (defScope s__law_lot) := ⟨rfl, rfl, rfl, by decide +kernel, rfl, by decide +kernel, by decide +kernel⟩
abbrev s__law_random : Stmt := topS 61
abbrev N__law_random : List Str := ["_law_row", "_law_asks_here", "_law_size_here", "_law_steps_here", "_law_state", "_law_j", "_law_digit", "_law_way"]
theorem sc__law_random : FnScope N__law_random ["_law_row", "_law_asks_here"] (defScope s__law_random) := ⟨rfl, rfl, rfl, by decide +kernel, rfl, by decide +kernel, by decide +kernel⟩
abbrev s__law_pairs : Stmt := topS 62
abbrev N__law_pairs : List Str := ["_law_plain", "_law_asks_here", "_law_there", "_law_step", "_law_pairs_here", "_law_state", "_law_row", "_law_ask", "_law_way"]
theorem sc__law_pairs : FnScope N__law_pairs ["_law_plain", "_law_asks_here"] (defScope s__law_pairs) := ⟨rfl, rfl, rfl, by decide +kernel, rfl, by decide +kernel, by decide +kernel⟩
abbrev s__law_service : Stmt := topS 63
abbrev N__law_service : List Str := ["_law_plain"]
theorem sc__law_service : FnScope N__law_service ["_law_plain"] (defScope s__law_service) := ⟨rfl, rfl, rfl, by decide +kernel, rfl, by decide +kernel, by decide +kernel⟩
abbrev s__law_built : Stmt := topS 64
abbrev N__law_built : List Str := ["_law_lot_here", "_law_built_here", "_law_plain"]
theorem sc__law_built : FnScope N__law_built ["_law_lot_here"] (defScope s__law_built) := ⟨rfl, rfl, rfl, by decide +kernel, rfl, by decide +kernel, by decide +kernel⟩
abbrev s__law_client : Stmt := topS 65
abbrev N__law_client : List Str := ["_law_plain"]
theorem sc__law_client : FnScope N__law_client ["_law_plain"] (defScope s__law_client) := ⟨rfl, rfl, rfl, by decide +kernel, rfl, by decide +kernel, by decide +kernel⟩
abbrev s__law_whole : Stmt := topS 66
abbrev N__law_whole : List Str := ["_law_x"]
theorem sc__law_whole : FnScope N__law_whole ["_law_x"] (defScope s__law_whole) := ⟨rfl, rfl, rfl, by decide +kernel, rfl, by decide +kernel, by decide +kernel⟩
abbrev s__law_is_pair : Stmt := topS 67
abbrev N__law_is_pair : List Str := ["_law_x"]
theorem sc__law_is_pair : FnScope N__law_is_pair ["_law_x"] (defScope s__law_is_pair) := ⟨rfl, rfl, rfl, by decide +kernel, rfl, by decide +kernel, by decide +kernel⟩
abbrev s__law_is_standing : Stmt := topS 68
abbrev N__law_is_standing : List Str := ["_law_x", "_law_state", "_law_pair"]
theorem sc__law_is_standing : FnScope N__law_is_standing ["_law_x"] (defScope s__law_is_standing) := ⟨rfl, rfl, rfl, by decide +kernel, rfl, by decide +kernel, by decide +kernel⟩
abbrev s__law_longer : Stmt := topS 69
abbrev N__law_longer : List Str := ["_law_rows", "_law_pairs_here", "_law_here", "_law_longer_here", "_law_row", "_law_state", "_law_pair"]
theorem sc__law_longer : FnScope N__law_longer ["_law_rows", "_law_pairs_here", "_law_here"] (defScope s__law_longer) := ⟨rfl, rfl, rfl, by decide +kernel, rfl, by decide +kernel, by decide +kernel⟩
abbrev s__law_known : Stmt := topS 70
abbrev N__law_known : List Str := ["_law_pairs_here", "_law_here", "_law_peek", "_law_rows", "_law_turn"]
theorem sc__law_known : FnScope N__law_known ["_law_pairs_here", "_law_here", "_law_peek"] (defScope s__law_known) := ⟨rfl, rfl, rfl, by decide +kernel, rfl, by decide +kernel, by decide +kernel⟩
abbrev s__law_game : Stmt := topS 71
abbrev N__law_game : List Str := ["_law_pattern", "_law_lot_here", "_law_peek", "_law_drops"]
theorem sc__law_game : FnScope N__law_game ["_law_pattern", "_law_lot_here", "_law_peek", "_law_drops"] (defScope s__law_game) := ⟨rfl, rfl, rfl, by decide +kernel, rfl, by decide +kernel, by decide +kernel⟩
abbrev s__law_size_raised : Stmt := topS 72
abbrev N__law_size_raised : List Str := ["_law_pattern", "_law_lot_here", "_law_peek", "_law_drops", "e"]
theorem sc__law_size_raised : FnScope N__law_size_raised ["_law_pattern", "_law_lot_here", "_law_peek", "_law_drops"] (defScope s__law_size_raised) := ⟨rfl, rfl, rfl, by decide +kernel, rfl, by decide +kernel, by decide +kernel⟩
abbrev s__law_first_holds : Stmt := topS 73
abbrev N__law_first_holds : List Str := ["_law_game_here", "_law_size_here", "_law_due", "_law_standing"]
theorem sc__law_first_holds : FnScope N__law_first_holds ["_law_game_here", "_law_size_here", "_law_due"] (defScope s__law_first_holds) := ⟨rfl, rfl, rfl, by decide +kernel, rfl, by decide +kernel, by decide +kernel⟩
abbrev s__law_factor : Stmt := topS 74
abbrev N__law_factor : List Str := ["_law_pairs_here", "_law_peek", "_law_wide", "_law_row", "_law_factor_here", "_law_turns", "_law_turn"]
theorem sc__law_factor : FnScope N__law_factor ["_law_pairs_here", "_law_peek"] (defScope s__law_factor) := ⟨rfl, rfl, rfl, by decide +kernel, rfl, by decide +kernel, by decide +kernel⟩
abbrev s__law_size : Stmt := topS 75
abbrev N__law_size : List Str := ["_law_plain", "_law_plains", "_law_factor_here", "_law_drops", "_law_size_here", "_law_one"]
theorem sc__law_size : FnScope N__law_size ["_law_plain", "_law_plains", "_law_factor_here", "_law_drops"] (defScope s__law_size) := ⟨rfl, rfl, rfl, by decide +kernel, rfl, by decide +kernel, by decide +kernel⟩
abbrev s_law : Stmt := topS 76
abbrev N_law : List Str := ["_law_script", "_law_shape", "_law_names", "_law_asks_here", "_law_ask", "_law_plain", "_law_pairs_here", "_law_plains", "_law_states", "_law_one", "_law_pattern", "_law_lot_here", "_law_gone", "_law_drops", "_law_factor_here", "_law_peek", "_law_size_here", "_law_due", "_law_row", "_law_game_here"]
theorem sc_law : FnScope N_law ["_law_script"] (defScope s_law) := ⟨rfl, rfl, rfl, by decide +kernel, rfl, by decide +kernel, by decide +kernel⟩
abbrev s_check_size : Stmt := topS 24
abbrev N_check_size : List Str := ["size"]
theorem sc_check_size : FnScope N_check_size ["size"] (defScope s_check_size) := ⟨rfl, rfl, rfl, by decide +kernel, rfl, by decide +kernel, by decide +kernel⟩
abbrev s_check_marks : Stmt := topS 25
abbrev N_check_marks : List Str := ["size", "marks", "mark"]
theorem sc_check_marks : FnScope N_check_marks ["size", "marks"] (defScope s_check_marks) := ⟨rfl, rfl, rfl, by decide +kernel, rfl, by decide +kernel, by decide +kernel⟩
abbrev s_check_steps : Stmt := topS 26
abbrev N_check_steps : List Str := ["size", "steps", "state", "ask", "end"]
theorem sc_check_steps : FnScope N_check_steps ["size", "steps"] (defScope s_check_steps) := ⟨rfl, rfl, rfl, by decide +kernel, rfl, by decide +kernel, by decide +kernel⟩
abbrev s_is_ask : Stmt := topS 27
abbrev N_is_ask : List Str := ["ask", "letter"]
theorem sc_is_ask : FnScope N_is_ask ["ask"] (defScope s_is_ask) := ⟨rfl, rfl, rfl, by decide +kernel, rfl, by decide +kernel, by decide +kernel⟩
abbrev s_ascending : Stmt := topS 28
abbrev N_ascending : List Str := ["steps", "named", "state", "ask", "end", "name"]
theorem sc_ascending : FnScope N_ascending ["steps"] (defScope s_ascending) := ⟨rfl, rfl, rfl, by decide +kernel, rfl, by decide +kernel, by decide +kernel⟩
abbrev s_ends_by_ask : Stmt := topS 29
abbrev N_ends_by_ask : List Str := ["steps", "found", "state", "ask", "end", "place"]
theorem sc_ends_by_ask : FnScope N_ends_by_ask ["steps"] (defScope s_ends_by_ask) := ⟨rfl, rfl, rfl, by decide +kernel, rfl, by decide +kernel, by decide +kernel⟩
abbrev s_pairs_by_state : Stmt := topS 30
abbrev N_pairs_by_state : List Str := ["steps", "found", "state", "ask", "end"]
theorem sc_pairs_by_state : FnScope N_pairs_by_state ["steps"] (defScope s_pairs_by_state) := ⟨rfl, rfl, rfl, by decide +kernel, rfl, by decide +kernel, by decide +kernel⟩
abbrev s_Machine___init__ : Stmt := inClass (topS 19) 0
abbrev N_Machine___init__ : List Str := ["self", "size", "marks", "steps", "now", "rows", "marked", "mark", "state"]
theorem sc_Machine___init__ : FnScope N_Machine___init__ ["self", "size", "marks", "steps", "now"] (defScope s_Machine___init__) := ⟨rfl, rfl, rfl, by decide +kernel, rfl, by decide +kernel, by decide +kernel⟩
abbrev s_Machine___getitem__ : Stmt := inClass (topS 19) 2
abbrev N_Machine___getitem__ : List Str := ["self", "at"]
theorem sc_Machine___getitem__ : FnScope N_Machine___getitem__ ["self", "at"] (defScope s_Machine___getitem__) := ⟨rfl, rfl, rfl, by decide +kernel, rfl, by decide +kernel, by decide +kernel⟩
abbrev s_Machine___setitem__ : Stmt := inClass (topS 19) 3
abbrev N_Machine___setitem__ : List Str := ["self", "at", "worth"]
theorem sc_Machine___setitem__ : FnScope N_Machine___setitem__ ["self", "at", "worth"] (defScope s_Machine___setitem__) := ⟨rfl, rfl, rfl, by decide +kernel, rfl, by decide +kernel, by decide +kernel⟩
abbrev s_Machine_ends_at : Stmt := inClass (topS 19) 5
abbrev N_Machine_ends_at : List Str := ["self", "state", "ask"]
theorem sc_Machine_ends_at : FnScope N_Machine_ends_at ["self", "state", "ask"] (defScope s_Machine_ends_at) := ⟨rfl, rfl, rfl, by decide +kernel, rfl, by decide +kernel, by decide +kernel⟩
abbrev s_Machine_pairs_at : Stmt := inClass (topS 19) 6
abbrev N_Machine_pairs_at : List Str := ["self", "state"]
theorem sc_Machine_pairs_at : FnScope N_Machine_pairs_at ["self", "state"] (defScope s_Machine_pairs_at) := ⟨rfl, rfl, rfl, by decide +kernel, rfl, by decide +kernel, by decide +kernel⟩
abbrev s_Machine___bool__ : Stmt := inClass (topS 19) 4
abbrev N_Machine___bool__ : List Str := ["self"]
theorem sc_Machine___bool__ : FnScope N_Machine___bool__ ["self"] (defScope s_Machine___bool__) := ⟨rfl, rfl, rfl, by decide +kernel, rfl, by decide +kernel, by decide +kernel⟩
abbrev s_Service_twin : Stmt := inClass (topS 20) 0
abbrev N_Service_twin : List Str := ["self", "now"]
theorem sc_Service_twin : FnScope N_Service_twin ["self", "now"] (defScope s_Service_twin) := ⟨rfl, rfl, rfl, by decide +kernel, rfl, by decide +kernel, by decide +kernel⟩
abbrev s_Lot___init__ : Stmt := inClass (topS 34) 0
abbrev N_Lot___init__ : List Str := ["self", "services", "service"]
theorem sc_Lot___init__ : FnScope N_Lot___init__ ["self", "services"] (defScope s_Lot___init__) := ⟨rfl, rfl, rfl, by decide +kernel, rfl, by decide +kernel, by decide +kernel⟩
abbrev s_Lot___len__ : Stmt := inClass (topS 34) 1
abbrev N_Lot___len__ : List Str := ["self"]
theorem sc_Lot___len__ : FnScope N_Lot___len__ ["self"] (defScope s_Lot___len__) := ⟨rfl, rfl, rfl, by decide +kernel, rfl, by decide +kernel, by decide +kernel⟩
abbrev s_Lot___bool__ : Stmt := inClass (topS 34) 2
abbrev N_Lot___bool__ : List Str := ["self"]
theorem sc_Lot___bool__ : FnScope N_Lot___bool__ ["self"] (defScope s_Lot___bool__) := ⟨rfl, rfl, rfl, by decide +kernel, rfl, by decide +kernel, by decide +kernel⟩
abbrev s_Lot___getitem__ : Stmt := inClass (topS 34) 6
abbrev N_Lot___getitem__ : List Str := ["self", "at"]
theorem sc_Lot___getitem__ : FnScope N_Lot___getitem__ ["self", "at"] (defScope s_Lot___getitem__) := ⟨rfl, rfl, rfl, by decide +kernel, rfl, by decide +kernel, by decide +kernel⟩
abbrev s_Lot___add__ : Stmt := inClass (topS 34) 8
abbrev N_Lot___add__ : List Str := ["self", "other", "behind", "services", "lot"]
theorem sc_Lot___add__ : FnScope N_Lot___add__ ["self", "other"] (defScope s_Lot___add__) := ⟨rfl, rfl, rfl, by decide +kernel, rfl, by decide +kernel, by decide +kernel⟩
abbrev s_check_number : Stmt := topS 36
abbrev N_check_number : List Str := ["lot", "number"]
theorem sc_check_number : FnScope N_check_number ["lot", "number"] (defScope s_check_number) := ⟨rfl, rfl, rfl, by decide +kernel, rfl, by decide +kernel, by decide +kernel⟩
abbrev s_rests : Stmt := topS 39
abbrev N_rests : List Str := ["lot", "states", "service", "state"]
theorem sc_rests : FnScope N_rests ["lot", "states"] (defScope s_rests) := ⟨rfl, rfl, rfl, by decide +kernel, rfl, by decide +kernel, by decide +kernel⟩
abbrev s_check_count : Stmt := topS 23
abbrev N_check_count : List Str := ["count", "most"]
theorem sc_check_count : FnScope N_check_count ["count", "most"] (defScope s_check_count) := ⟨rfl, rfl, rfl, by decide +kernel, rfl, by decide +kernel, by decide +kernel⟩
abbrev s_game_size : Stmt := topS 53
abbrev N_game_size : List Str := ["pattern", "lot", "ahead", "falls", "size", "service", "most", "state", "_"]
theorem sc_game_size : FnScope N_game_size ["pattern", "lot", "ahead", "falls"] (defScope s_game_size) := ⟨rfl, rfl, rfl, by decide +kernel, rfl, by decide +kernel, by decide +kernel⟩
abbrev s_Game___init__ : Stmt := inClass (topS 52) 0
abbrev N_Game___init__ : List Str := ["self", "pattern", "lot", "ahead", "falls", "size", "rows", "known"]
theorem sc_Game___init__ : FnScope N_Game___init__ ["self", "pattern", "lot", "ahead", "falls"] (defScope s_Game___init__) := ⟨rfl, rfl, rfl, by decide +kernel, rfl, by decide +kernel, by decide +kernel⟩
abbrev s_Posts___init__ : Stmt := inClass (topS 46) 0
abbrev N_Posts___init__ : List Str := ["self", "pattern", "ahead", "state", "known", "number", "row"]
theorem sc_Posts___init__ : FnScope N_Posts___init__ ["self", "pattern", "ahead"] (defScope s_Posts___init__) := ⟨rfl, rfl, rfl, by decide +kernel, rfl, by decide +kernel, by decide +kernel⟩
abbrev s_known_rows : Stmt := topS 47
abbrev N_known_rows : List Str := ["pattern", "state", "ahead", "pairs", "pair", "rest"]
theorem sc_known_rows : FnScope N_known_rows ["pattern", "state", "ahead"] (defScope s_known_rows) := ⟨rfl, rfl, rfl, by decide +kernel, rfl, by decide +kernel, by decide +kernel⟩
abbrev s_Lineups___init__ : Stmt := inClass (topS 43) 0
abbrev N_Lineups___init__ : List Str := ["self", "lot", "falls", "service", "state", "states", "number", "missing"]
theorem sc_Lineups___init__ : FnScope N_Lineups___init__ ["self", "lot", "falls"] (defScope s_Lineups___init__) := ⟨rfl, rfl, rfl, by decide +kernel, rfl, by decide +kernel, by decide +kernel⟩
abbrev s_Lineups_tuple_at : Stmt := inClass (topS 43) 1
abbrev N_Lineups_tuple_at : List Str := ["self", "number", "states", "stride"]
theorem sc_Lineups_tuple_at : FnScope N_Lineups_tuple_at ["self", "number"] (defScope s_Lineups_tuple_at) := ⟨rfl, rfl, rfl, by decide +kernel, rfl, by decide +kernel, by decide +kernel⟩
abbrev s_state_choices : Stmt := topS 44
abbrev N_state_choices : List Str := ["service", "state", "falls"]
theorem sc_state_choices : FnScope N_state_choices ["service", "state", "falls"] (defScope s_state_choices) := ⟨rfl, rfl, rfl, by decide +kernel, rfl, by decide +kernel, by decide +kernel⟩
abbrev s_BadCount___init__ : Stmt := inClass (topS 9) 0
abbrev N_BadCount___init__ : List Str := ["self", "count"]
theorem sc_BadCount___init__ : SupScope N_BadCount___init__ ["self", "count"] (defScope s_BadCount___init__) := ⟨rfl, rfl, rfl, by decide +kernel, rfl, by decide +kernel, by decide +kernel, by decide +kernel, by decide +kernel, by decide +kernel⟩
abbrev s_TooLarge___init__ : Stmt := inClass (topS 5) 0
abbrev N_TooLarge___init__ : List Str := ["self", "size"]
theorem sc_TooLarge___init__ : SupScope N_TooLarge___init__ ["self", "size"] (defScope s_TooLarge___init__) := ⟨rfl, rfl, rfl, by decide +kernel, rfl, by decide +kernel, by decide +kernel, by decide +kernel, by decide +kernel, by decide +kernel⟩
abbrev s_Lot_set_states : Stmt := inClass (topS 34) 4
abbrev N_Lot_set_states : List Str := ["self", "states"]
theorem sc_Lot_set_states : FnScope N_Lot_set_states ["self", "states"] (defScope s_Lot_set_states) := ⟨rfl, rfl, rfl, by decide +kernel, rfl, by decide +kernel, by decide +kernel⟩
abbrev s_are_states : Stmt := topS 38
abbrev N_are_states : List Str := ["services", "states", "service", "state"]
theorem sc_are_states : FnScope N_are_states ["services", "states"] (defScope s_are_states) := ⟨rfl, rfl, rfl, by decide +kernel, rfl, by decide +kernel, by decide +kernel⟩
/-- a class of machines -/
structure MCls (K : PySem.W.Frag) (C : Addr) : Prop where
  cl : Cls K C
  n1 : NoAttr K C "size"
  n2 : NoAttr K C "marks"
  n3 : NoAttr K C "steps"
  n4 : NoAttr K C "now"
  n5 : NoAttr K C "_ends"
  n6 : NoAttr K C "_pairs"
/-- what isinstance asks of it -/
structure OCls (K : PySem.W.Frag) (C : Addr) : Prop where
  o1 : PySem.W.findIn K (.ref C) "__class__" = some (some (.builtin "object.__class__"))
  o2 : PySem.W.specialIn K (.builtin "object.__class__") "__get__" = some (some (.builtin "getset_descriptor.__get__"))
  o3 : PySem.W.takesIn K (.builtin "object.__class__") = some true
  o4 : PySem.W.mroIn K C (.type "object") = some true
/-- what the top leaves -/
structure Tp (K : PySem.W.Frag) (mg : Str → Option Value) where
  a_TooLarge___init__ : Addr
  d_TooLarge___init__ : FuncData
  a_BadCount___init__ : Addr
  d_BadCount___init__ : FuncData
  C_AsksError : Addr
  g_AsksError : mg "AsksError" = some (.ref C_AsksError)
  C_BadCount : Addr
  g_BadCount : mg "BadCount" = some (.ref C_BadCount)
  C_TooLarge : Addr
  g_TooLarge : mg "TooLarge" = some (.ref C_TooLarge)
  C_Machine : Addr
  g_Machine : mg "Machine" = some (.ref C_Machine)
  C_Service : Addr
  g_Service : mg "Service" = some (.ref C_Service)
  C_Pattern : Addr
  g_Pattern : mg "Pattern" = some (.ref C_Pattern)
  C_Lot : Addr
  g_Lot : mg "Lot" = some (.ref C_Lot)
  C_Game : Addr
  g_Game : mg "Game" = some (.ref C_Game)
  C_Posts : Addr
  g_Posts : mg "Posts" = some (.ref C_Posts)
  C_Lineups : Addr
  g_Lineups : mg "Lineups" = some (.ref C_Lineups)
  file : Str
  hth : PySem.W.nsIn K PySem.cStatics "thirdparty.any" = some none
  a__law_cell : Addr
  d__law_cell : FuncData
  f__law_cell : Fun K "_law_cell" "_law_cell" s__law_cell a__law_cell d__law_cell
  b__law_cell : Binds K d__law_cell ["_law_script", "_law_k"] []
  g__law_cell : mg "_law_cell" = some (.ref a__law_cell)
  a__law_draws : Addr
  d__law_draws : FuncData
  f__law_draws : Fun K "_law_draws" "_law_draws" s__law_draws a__law_draws d__law_draws
  b__law_draws : Binds K d__law_draws ["_law_script", "_law_k", "_law_many"] []
  g__law_draws : mg "_law_draws" = some (.ref a__law_draws)
  a__law_asks : Addr
  d__law_asks : FuncData
  f__law_asks : Fun K "_law_asks" "_law_asks" s__law_asks a__law_asks d__law_asks
  b__law_asks : Binds K d__law_asks ["_law_row", "_law_many"] []
  g__law_asks : mg "_law_asks" = some (.ref a__law_asks)
  a__law_steps : Addr
  d__law_steps : FuncData
  f__law_steps : Fun K "_law_steps" "_law_steps" s__law_steps a__law_steps d__law_steps
  b__law_steps : Binds K d__law_steps ["_law_row", "_law_size_here", "_law_asks_here", "_law_single"] []
  g__law_steps : mg "_law_steps" = some (.ref a__law_steps)
  a__law_marks : Addr
  d__law_marks : FuncData
  f__law_marks : Fun K "_law_marks" "_law_marks" s__law_marks a__law_marks d__law_marks
  b__law_marks : Binds K d__law_marks ["_law_digit", "_law_size_here"] []
  g__law_marks : mg "_law_marks" = some (.ref a__law_marks)
  a__law_lot : Addr
  d__law_lot : FuncData
  f__law_lot : Fun K "_law_lot" "_law_lot" s__law_lot a__law_lot d__law_lot
  b__law_lot : Binds K d__law_lot ["_law_script", "_law_asks_here", "_law_many", "_law_single"] []
  g__law_lot : mg "_law_lot" = some (.ref a__law_lot)
  a__law_random : Addr
  d__law_random : FuncData
  f__law_random : Fun K "_law_random" "_law_random" s__law_random a__law_random d__law_random
  b__law_random : Binds K d__law_random ["_law_row", "_law_asks_here"] []
  g__law_random : mg "_law_random" = some (.ref a__law_random)
  a__law_pairs : Addr
  d__law_pairs : FuncData
  f__law_pairs : Fun K "_law_pairs" "_law_pairs" s__law_pairs a__law_pairs d__law_pairs
  b__law_pairs : Binds K d__law_pairs ["_law_plain", "_law_asks_here"] []
  g__law_pairs : mg "_law_pairs" = some (.ref a__law_pairs)
  a__law_service : Addr
  d__law_service : FuncData
  f__law_service : Fun K "_law_service" "_law_service" s__law_service a__law_service d__law_service
  b__law_service : Binds K d__law_service ["_law_plain"] []
  g__law_service : mg "_law_service" = some (.ref a__law_service)
  a__law_built : Addr
  d__law_built : FuncData
  f__law_built : Fun K "_law_built" "_law_built" s__law_built a__law_built d__law_built
  b__law_built : Binds K d__law_built ["_law_lot_here"] []
  g__law_built : mg "_law_built" = some (.ref a__law_built)
  a__law_client : Addr
  d__law_client : FuncData
  f__law_client : Fun K "_law_client" "_law_client" s__law_client a__law_client d__law_client
  b__law_client : Binds K d__law_client ["_law_plain"] []
  g__law_client : mg "_law_client" = some (.ref a__law_client)
  a__law_whole : Addr
  d__law_whole : FuncData
  f__law_whole : Fun K "_law_whole" "_law_whole" s__law_whole a__law_whole d__law_whole
  b__law_whole : Binds K d__law_whole ["_law_x"] []
  g__law_whole : mg "_law_whole" = some (.ref a__law_whole)
  a__law_is_pair : Addr
  d__law_is_pair : FuncData
  f__law_is_pair : Fun K "_law_is_pair" "_law_is_pair" s__law_is_pair a__law_is_pair d__law_is_pair
  b__law_is_pair : Binds K d__law_is_pair ["_law_x"] []
  g__law_is_pair : mg "_law_is_pair" = some (.ref a__law_is_pair)
  a__law_is_standing : Addr
  d__law_is_standing : FuncData
  f__law_is_standing : Fun K "_law_is_standing" "_law_is_standing" s__law_is_standing a__law_is_standing d__law_is_standing
  b__law_is_standing : Binds K d__law_is_standing ["_law_x"] []
  g__law_is_standing : mg "_law_is_standing" = some (.ref a__law_is_standing)
  a__law_longer : Addr
  d__law_longer : FuncData
  f__law_longer : Fun K "_law_longer" "_law_longer" s__law_longer a__law_longer d__law_longer
  b__law_longer : Binds K d__law_longer ["_law_rows", "_law_pairs_here", "_law_here"] []
  g__law_longer : mg "_law_longer" = some (.ref a__law_longer)
  a__law_known : Addr
  d__law_known : FuncData
  f__law_known : Fun K "_law_known" "_law_known" s__law_known a__law_known d__law_known
  b__law_known : Binds K d__law_known ["_law_pairs_here", "_law_here", "_law_peek"] []
  g__law_known : mg "_law_known" = some (.ref a__law_known)
  a__law_game : Addr
  d__law_game : FuncData
  f__law_game : Fun K "_law_game" "_law_game" s__law_game a__law_game d__law_game
  b__law_game : Binds K d__law_game ["_law_pattern", "_law_lot_here", "_law_peek", "_law_drops"] []
  g__law_game : mg "_law_game" = some (.ref a__law_game)
  a__law_size_raised : Addr
  d__law_size_raised : FuncData
  f__law_size_raised : Fun K "_law_size_raised" "_law_size_raised" s__law_size_raised a__law_size_raised d__law_size_raised
  b__law_size_raised : Binds K d__law_size_raised ["_law_pattern", "_law_lot_here", "_law_peek", "_law_drops"] []
  g__law_size_raised : mg "_law_size_raised" = some (.ref a__law_size_raised)
  a__law_first_holds : Addr
  d__law_first_holds : FuncData
  f__law_first_holds : Fun K "_law_first_holds" "_law_first_holds" s__law_first_holds a__law_first_holds d__law_first_holds
  b__law_first_holds : Binds K d__law_first_holds ["_law_game_here", "_law_size_here", "_law_due"] []
  g__law_first_holds : mg "_law_first_holds" = some (.ref a__law_first_holds)
  a__law_factor : Addr
  d__law_factor : FuncData
  f__law_factor : Fun K "_law_factor" "_law_factor" s__law_factor a__law_factor d__law_factor
  b__law_factor : Binds K d__law_factor ["_law_pairs_here", "_law_peek"] []
  g__law_factor : mg "_law_factor" = some (.ref a__law_factor)
  a__law_size : Addr
  d__law_size : FuncData
  f__law_size : Fun K "_law_size" "_law_size" s__law_size a__law_size d__law_size
  b__law_size : Binds K d__law_size ["_law_plain", "_law_plains", "_law_factor_here", "_law_drops"] []
  g__law_size : mg "_law_size" = some (.ref a__law_size)
  a_law : Addr
  d_law : FuncData
  f_law : Fun K "law" "law" s_law a_law d_law
  b_law : Binds K d_law ["_law_script"] []
  g_law : mg "law" = some (.ref a_law)
  a_check_size : Addr
  d_check_size : FuncData
  f_check_size : Fun K "check_size" "check_size" s_check_size a_check_size d_check_size
  b_check_size : Binds K d_check_size ["size"] []
  g_check_size : mg "check_size" = some (.ref a_check_size)
  a_check_marks : Addr
  d_check_marks : FuncData
  f_check_marks : Fun K "check_marks" "check_marks" s_check_marks a_check_marks d_check_marks
  b_check_marks : Binds K d_check_marks ["size", "marks"] []
  g_check_marks : mg "check_marks" = some (.ref a_check_marks)
  a_check_steps : Addr
  d_check_steps : FuncData
  f_check_steps : Fun K "check_steps" "check_steps" s_check_steps a_check_steps d_check_steps
  b_check_steps : Binds K d_check_steps ["size", "steps"] []
  g_check_steps : mg "check_steps" = some (.ref a_check_steps)
  a_is_ask : Addr
  d_is_ask : FuncData
  f_is_ask : Fun K "is_ask" "is_ask" s_is_ask a_is_ask d_is_ask
  b_is_ask : Binds K d_is_ask ["ask"] []
  g_is_ask : mg "is_ask" = some (.ref a_is_ask)
  a_ascending : Addr
  d_ascending : FuncData
  f_ascending : Fun K "ascending" "ascending" s_ascending a_ascending d_ascending
  b_ascending : Binds K d_ascending ["steps"] []
  g_ascending : mg "ascending" = some (.ref a_ascending)
  a_ends_by_ask : Addr
  d_ends_by_ask : FuncData
  f_ends_by_ask : Fun K "ends_by_ask" "ends_by_ask" s_ends_by_ask a_ends_by_ask d_ends_by_ask
  b_ends_by_ask : Binds K d_ends_by_ask ["steps"] []
  g_ends_by_ask : mg "ends_by_ask" = some (.ref a_ends_by_ask)
  a_pairs_by_state : Addr
  d_pairs_by_state : FuncData
  f_pairs_by_state : Fun K "pairs_by_state" "pairs_by_state" s_pairs_by_state a_pairs_by_state d_pairs_by_state
  b_pairs_by_state : Binds K d_pairs_by_state ["steps"] []
  g_pairs_by_state : mg "pairs_by_state" = some (.ref a_pairs_by_state)
  a_Machine___init__ : Addr
  d_Machine___init__ : FuncData
  f_Machine___init__ : FunD K "__init__" "Machine.__init__" (defArgs s_Machine___init__) (defBody s_Machine___init__) (defScope s_Machine___init__) [.int 0] [] a_Machine___init__ d_Machine___init__
  a_Machine___getitem__ : Addr
  d_Machine___getitem__ : FuncData
  f_Machine___getitem__ : Fun K "__getitem__" "Machine.__getitem__" s_Machine___getitem__ a_Machine___getitem__ d_Machine___getitem__
  b_Machine___getitem__ : Binds K d_Machine___getitem__ ["self", "at"] []
  a_Machine___setitem__ : Addr
  d_Machine___setitem__ : FuncData
  f_Machine___setitem__ : Fun K "__setitem__" "Machine.__setitem__" s_Machine___setitem__ a_Machine___setitem__ d_Machine___setitem__
  b_Machine___setitem__ : Binds K d_Machine___setitem__ ["self", "at", "worth"] []
  a_Machine_ends_at : Addr
  d_Machine_ends_at : FuncData
  f_Machine_ends_at : Fun K "ends_at" "Machine.ends_at" s_Machine_ends_at a_Machine_ends_at d_Machine_ends_at
  b_Machine_ends_at : Binds K d_Machine_ends_at ["self", "state", "ask"] []
  a_Machine_pairs_at : Addr
  d_Machine_pairs_at : FuncData
  f_Machine_pairs_at : Fun K "pairs_at" "Machine.pairs_at" s_Machine_pairs_at a_Machine_pairs_at d_Machine_pairs_at
  b_Machine_pairs_at : Binds K d_Machine_pairs_at ["self", "state"] []
  a_Machine___bool__ : Addr
  d_Machine___bool__ : FuncData
  f_Machine___bool__ : Fun K "__bool__" "Machine.__bool__" s_Machine___bool__ a_Machine___bool__ d_Machine___bool__
  b_Machine___bool__ : Binds K d_Machine___bool__ ["self"] []
  a_Service_twin : Addr
  d_Service_twin : FuncData
  f_Service_twin : Fun K "twin" "Service.twin" s_Service_twin a_Service_twin d_Service_twin
  b_Service_twin : Binds K d_Service_twin ["self", "now"] []
  a_Lot___init__ : Addr
  d_Lot___init__ : FuncData
  f_Lot___init__ : Fun K "__init__" "Lot.__init__" s_Lot___init__ a_Lot___init__ d_Lot___init__
  a_Lot___len__ : Addr
  d_Lot___len__ : FuncData
  f_Lot___len__ : Fun K "__len__" "Lot.__len__" s_Lot___len__ a_Lot___len__ d_Lot___len__
  b_Lot___len__ : Binds K d_Lot___len__ ["self"] []
  a_Lot___bool__ : Addr
  d_Lot___bool__ : FuncData
  f_Lot___bool__ : Fun K "__bool__" "Lot.__bool__" s_Lot___bool__ a_Lot___bool__ d_Lot___bool__
  b_Lot___bool__ : Binds K d_Lot___bool__ ["self"] []
  a_Lot___getitem__ : Addr
  d_Lot___getitem__ : FuncData
  f_Lot___getitem__ : Fun K "__getitem__" "Lot.__getitem__" s_Lot___getitem__ a_Lot___getitem__ d_Lot___getitem__
  b_Lot___getitem__ : Binds K d_Lot___getitem__ ["self", "at"] []
  a_Lot___add__ : Addr
  d_Lot___add__ : FuncData
  f_Lot___add__ : Fun K "__add__" "Lot.__add__" s_Lot___add__ a_Lot___add__ d_Lot___add__
  b_Lot___add__ : Binds K d_Lot___add__ ["self", "other"] []
  a_check_number : Addr
  d_check_number : FuncData
  f_check_number : Fun K "check_number" "check_number" s_check_number a_check_number d_check_number
  b_check_number : Binds K d_check_number ["lot", "number"] []
  g_check_number : mg "check_number" = some (.ref a_check_number)
  a_rests : Addr
  d_rests : FuncData
  f_rests : Fun K "rests" "rests" s_rests a_rests d_rests
  b_rests : Binds K d_rests ["lot", "states"] []
  g_rests : mg "rests" = some (.ref a_rests)
  a_check_count : Addr
  d_check_count : FuncData
  f_check_count : Fun K "check_count" "check_count" s_check_count a_check_count d_check_count
  b_check_count : Binds K d_check_count ["count", "most"] []
  g_check_count : mg "check_count" = some (.ref a_check_count)
  a_game_size : Addr
  d_game_size : FuncData
  f_game_size : Fun K "game_size" "game_size" s_game_size a_game_size d_game_size
  b_game_size : Binds K d_game_size ["pattern", "lot", "ahead", "falls"] []
  g_game_size : mg "game_size" = some (.ref a_game_size)
  a_Game___init__ : Addr
  d_Game___init__ : FuncData
  f_Game___init__ : FunD K "__init__" "Game.__init__" (defArgs s_Game___init__) (defBody s_Game___init__) (defScope s_Game___init__) [] [("ahead", .int 0), ("falls", .int 0)] a_Game___init__ d_Game___init__
  a_Posts___init__ : Addr
  d_Posts___init__ : FuncData
  f_Posts___init__ : Fun K "__init__" "Posts.__init__" s_Posts___init__ a_Posts___init__ d_Posts___init__
  b_Posts___init__ : Binds K d_Posts___init__ ["self", "pattern", "ahead"] []
  a_known_rows : Addr
  d_known_rows : FuncData
  f_known_rows : Fun K "known_rows" "known_rows" s_known_rows a_known_rows d_known_rows
  b_known_rows : Binds K d_known_rows ["pattern", "state", "ahead"] []
  g_known_rows : mg "known_rows" = some (.ref a_known_rows)
  a_Lineups___init__ : Addr
  d_Lineups___init__ : FuncData
  f_Lineups___init__ : Fun K "__init__" "Lineups.__init__" s_Lineups___init__ a_Lineups___init__ d_Lineups___init__
  b_Lineups___init__ : Binds K d_Lineups___init__ ["self", "lot", "falls"] []
  a_Lineups_tuple_at : Addr
  d_Lineups_tuple_at : FuncData
  f_Lineups_tuple_at : Fun K "tuple_at" "Lineups.tuple_at" s_Lineups_tuple_at a_Lineups_tuple_at d_Lineups_tuple_at
  b_Lineups_tuple_at : Binds K d_Lineups_tuple_at ["self", "number"] []
  a_state_choices : Addr
  d_state_choices : FuncData
  f_state_choices : Fun K "state_choices" "state_choices" s_state_choices a_state_choices d_state_choices
  b_state_choices : Binds K d_state_choices ["service", "state", "falls"] []
  g_state_choices : mg "state_choices" = some (.ref a_state_choices)
  err_BadCount : ErrT K C_BadCount "BadCount.__init__" s_BadCount___init__ a_BadCount___init__ d_BadCount___init__ file ["self", "count"] ["count"]
  err_TooLarge : ErrT K C_TooLarge "TooLarge.__init__" s_TooLarge___init__ a_TooLarge___init__ d_TooLarge___init__ file ["self", "size"] ["size"]
  a_Lot_set_states : Addr
  d_Lot_set_states : FuncData
  f_Lot_set_states : Fun K "set_states" "Lot.set_states" s_Lot_set_states a_Lot_set_states d_Lot_set_states
  b_Lot_set_states : Binds K d_Lot_set_states ["self", "states"] []
  a_are_states : Addr
  d_are_states : FuncData
  f_are_states : Fun K "are_states" "are_states" s_are_states a_are_states d_are_states
  b_are_states : Binds K d_are_states ["services", "states"] []
  g_are_states : mg "are_states" = some (.ref a_are_states)
  t_MOST_STATES : Tok
  k_MOST_STATES : mg "MOST_STATES" = some (.int (200) t_MOST_STATES)
  t_MOST_STEPS : Tok
  k_MOST_STEPS : mg "MOST_STEPS" = some (.int (600) t_MOST_STEPS)
  t_LONGEST_ASK : Tok
  k_LONGEST_ASK : mg "LONGEST_ASK" = some (.int (8) t_LONGEST_ASK)
  t_MOST_SERVICES : Tok
  k_MOST_SERVICES : mg "MOST_SERVICES" = some (.int (5) t_MOST_SERVICES)
  t_AWAY : Tok
  k_AWAY : mg "AWAY" = some (.int (-1) t_AWAY)
  t_MOST_AHEAD : Tok
  k_MOST_AHEAD : mg "MOST_AHEAD" = some (.int (4) t_MOST_AHEAD)
  t_MOST_FALLS : Tok
  k_MOST_FALLS : mg "MOST_FALLS" = some (.int (5) t_MOST_FALLS)
  t_LARGEST_GAME : Tok
  k_LARGEST_GAME : mg "LARGEST_GAME" = some (.int (20000) t_LARGEST_GAME)
  n_len : mg "len" = none
  n_int : mg "int" = none
  n_range : mg "range" = none
  n_isinstance : mg "isinstance" = none
  n_bool : mg "bool" = none
  n_list : mg "list" = none
  n_tuple : mg "tuple" = none
  n_all : mg "all" = none
  n_sorted : mg "sorted" = none
  n_str : mg "str" = none
  n_zip : mg "zip" = none
  n_max : mg "max" = none
  n_min : mg "min" = none
  n_enumerate : mg "enumerate" = none
  n_super : mg "super" = none
  n_ValueError : mg "ValueError" = none
  cl_Service : Cls K C_Service
  na_Service_size : NoAttr K C_Service "size"
  na_Service_marks : NoAttr K C_Service "marks"
  na_Service_steps : NoAttr K C_Service "steps"
  na_Service_now : NoAttr K C_Service "now"
  na_Service__ends : NoAttr K C_Service "_ends"
  na_Service__pairs : NoAttr K C_Service "_pairs"
  mk_Service : Mk K C_Service a_Machine___init__
  me_Service___getitem__ : Meth K C_Service "__getitem__" a_Machine___getitem__
  me_Service___setitem__ : Meth K C_Service "__setitem__" a_Machine___setitem__
  me_Service___bool__ : Meth K C_Service "__bool__" a_Machine___bool__
  me_Service_ends_at : Meth K C_Service "ends_at" a_Machine_ends_at
  me_Service_twin : Meth K C_Service "twin" a_Service_twin
  is_Service_Machine : PySem.W.kitOne K (.ref C_Service) (.ref C_Machine) = some true
  is_Service_Service : PySem.W.kitOne K (.ref C_Service) (.ref C_Service) = some true
  cl_Pattern : Cls K C_Pattern
  na_Pattern_size : NoAttr K C_Pattern "size"
  na_Pattern_marks : NoAttr K C_Pattern "marks"
  na_Pattern_steps : NoAttr K C_Pattern "steps"
  na_Pattern_now : NoAttr K C_Pattern "now"
  na_Pattern__ends : NoAttr K C_Pattern "_ends"
  na_Pattern__pairs : NoAttr K C_Pattern "_pairs"
  mk_Pattern : Mk K C_Pattern a_Machine___init__
  me_Pattern___getitem__ : Meth K C_Pattern "__getitem__" a_Machine___getitem__
  me_Pattern___setitem__ : Meth K C_Pattern "__setitem__" a_Machine___setitem__
  me_Pattern___bool__ : Meth K C_Pattern "__bool__" a_Machine___bool__
  me_Pattern_ends_at : Meth K C_Pattern "ends_at" a_Machine_ends_at
  me_Pattern_pairs_at : Meth K C_Pattern "pairs_at" a_Machine_pairs_at
  is_Pattern_Machine : PySem.W.kitOne K (.ref C_Pattern) (.ref C_Machine) = some true
  cl_Lot : Cls K C_Lot
  na_Lot_services : NoAttr K C_Lot "services"
  na_Lot_states : NoAttr K C_Lot "states"
  mk_Lot : Mk K C_Lot a_Lot___init__
  me_Lot___len__ : Meth K C_Lot "__len__" a_Lot___len__
  me_Lot___bool__ : Meth K C_Lot "__bool__" a_Lot___bool__
  me_Lot___getitem__ : Meth K C_Lot "__getitem__" a_Lot___getitem__
  me_Lot___add__ : Meth K C_Lot "__add__" a_Lot___add__
  me_Lot_set_states : Meth K C_Lot "set_states" a_Lot_set_states
  is_Lot_Lot : PySem.W.kitOne K (.ref C_Lot) (.ref C_Lot) = some true
  cl_Game : Cls K C_Game
  na_Game_size : NoAttr K C_Game "size"
  na_Game_ahead : NoAttr K C_Game "ahead"
  na_Game_falls : NoAttr K C_Game "falls"
  na_Game_pattern : NoAttr K C_Game "pattern"
  na_Game_lot : NoAttr K C_Game "lot"
  na_Game_posts : NoAttr K C_Game "posts"
  na_Game_lineups : NoAttr K C_Game "lineups"
  na_Game_first : NoAttr K C_Game "first"
  na_Game__rounds : NoAttr K C_Game "_rounds"
  mk_Game : Mk K C_Game a_Game___init__
  cl_Posts : Cls K C_Posts
  na_Posts_pattern : NoAttr K C_Posts "pattern"
  na_Posts__ahead : NoAttr K C_Posts "_ahead"
  na_Posts_rows : NoAttr K C_Posts "rows"
  na_Posts_numbers : NoAttr K C_Posts "numbers"
  mk_Posts : Mk K C_Posts a_Posts___init__
  cl_Lineups : Cls K C_Lineups
  na_Lineups_lot : NoAttr K C_Lineups "lot"
  na_Lineups_choices : NoAttr K C_Lineups "choices"
  na_Lineups_strides : NoAttr K C_Lineups "strides"
  na_Lineups_total : NoAttr K C_Lineups "total"
  na_Lineups_tuples : NoAttr K C_Lineups "tuples"
  na_Lineups_numbers : NoAttr K C_Lineups "numbers"
  mk_Lineups : Mk K C_Lineups a_Lineups___init__
  me_Lineups_tuple_at : Meth K C_Lineups "tuple_at" a_Lineups_tuple_at
  b_Machine___init__ : Binds K d_Machine___init__ ["self", "size", "marks", "steps", "now"] []
  fn_gi : PySem.W.fnIn K a_Machine___getitem__ = true
  fn_gl : PySem.W.fnIn K a_Lot___getitem__ = true
  cf_Service : MCls K C_Service
  cc_Service : OCls K C_Service
  gi_Service : Meth K C_Service "__getitem__" a_Machine___getitem__
  bo_Service : Meth K C_Service "__bool__" a_Machine___bool__
  is_Service : PySem.W.kitOne K (.ref C_Service) (.ref C_Machine) = some true
  ea_Service : Meth K C_Service "ends_at" a_Machine_ends_at
  nq_Service : PySem.W.noSeq K C_Service = true
  cf_Pattern : MCls K C_Pattern
  cc_Pattern : OCls K C_Pattern
  gi_Pattern : Meth K C_Pattern "__getitem__" a_Machine___getitem__
  bo_Pattern : Meth K C_Pattern "__bool__" a_Machine___bool__
  is_Pattern : PySem.W.kitOne K (.ref C_Pattern) (.ref C_Machine) = some true
  ea_Pattern : Meth K C_Pattern "ends_at" a_Machine_ends_at
  nq_Pattern : PySem.W.noSeq K C_Pattern = true
  sf_Lot : PySem.W.selfFirst K C_Lot = true
  cc_Lot : OCls K C_Lot
  bd : BinD K C_Lot C_Service C_Machine "add" a_Lot___add__
  no_Lot : PySem.W.kitOne K (.ref C_Service) (.ref C_Lot) = some false
  e_ds : List Value
  e_vs : Vals [V.int 0] e_ds
  e_b : Binds K d_Machine___init__ ["self", "size", "marks", "steps", "now"] e_ds
  ik_BadCount_AsksError : PySem.W.kitOne K (.ref C_BadCount) (.ref C_AsksError) = some true
  ik_BadCount_BadCount : PySem.W.kitOne K (.ref C_BadCount) (.ref C_BadCount) = some true
  ik_BadCount_TooLarge : PySem.W.kitOne K (.ref C_BadCount) (.ref C_TooLarge) = some false
  ik_BadCount_V : PySem.W.kitOne K (.ref C_BadCount) (.type "ValueError") = some true
  ik_TooLarge_AsksError : PySem.W.kitOne K (.ref C_TooLarge) (.ref C_AsksError) = some true
  ik_TooLarge_BadCount : PySem.W.kitOne K (.ref C_TooLarge) (.ref C_BadCount) = some false
  ik_TooLarge_TooLarge : PySem.W.kitOne K (.ref C_TooLarge) (.ref C_TooLarge) = some true
  ik_TooLarge_V : PySem.W.kitOne K (.ref C_TooLarge) (.type "ValueError") = some true
  xm_TooLarge_BadCount : PySem.W.exmOne K (.ref C_TooLarge) (.ref C_BadCount) = some false
  e_kg : KBn K d_Game___init__ ["self", "pattern", "lot", "ahead", "falls"] 3 ["ahead", "falls"] (fun us ws => us ++ ws) (fun vs zs => vs ++ zs)
  e_gds : List Value
  e_gvs : Vals [V.int 0, V.int 0] e_gds
  e_gb : Binds K d_Game___init__ ["self", "pattern", "lot", "ahead", "falls"] e_gds
  e_mka : List Value
  e_mkf : List Value
  e_ka : KBn K d_Game___init__ ["self", "pattern", "lot", "ahead", "falls"] 3 ["ahead"] (fun us ws => us ++ ws ++ e_mka) (fun vs zs => vs ++ zs ++ [V.int 0])
  e_kf : KBn K d_Game___init__ ["self", "pattern", "lot", "ahead", "falls"] 3 ["falls"] (fun us ws => us ++ e_mkf ++ ws) (fun vs zs => vs ++ [V.int 0] ++ zs)
  e_kfa : KBn K d_Game___init__ ["self", "pattern", "lot", "ahead", "falls"] 3 ["falls", "ahead"] (fun us ws => us ++ ws.reverse) (fun vs zs => vs ++ zs.reverse)
end K08

set_option Elab.async false
set_option linter.all false
set_option maxRecDepth 100000
set_option maxHeartbeats 2000000
/-! the head's facts, all of them, by one run: defs by their looks, the rest as one list of Bools -/
namespace AE
open PySem PySem.Spec PyProof.Rows L2 He
abbrev FnZ : Type := Option (Str × Str × Arguments × FuncBody × Scope × Addr × List Str × Addr)
def fnZ (K : PySem.W.Frag) (f : Addr) : FnZ := match K.lookup f with
  | some ⟨_, _, .func fd, _⟩ => some (fd.name, fd.qualname, fd.params, fd.body, fd.scope, fd.globals, fd.closure.map (·.1), fd.builtins)
  | _ => none
def valZ (name qual : Str) (st : Stmt) (cl : List Str) : FnZ := some (name, qual, defArgs st, .stmts (defBody st), defScope st, mainGlobals, cl, builtinsNs)
structure DefZ where
  at_ : PySem.W.Frag → Addr
  val : FnZ
def partZ (n : Nat) (g : Addr → Option Obj) : PySem.W.Frag := frG g (PySem.cStatics :: asD g n)
abbrev AlZ : Type := Bool × List FnZ
def allB : List Bool → Bool
  | [] => true
  | b :: r => match b with
    | true => allB r
    | false => false
theorem allB_get : ∀ {l : List Bool} {i : Nat} {b : Bool}, allB l = true → l[i]? = some b → b = true
  | [], i, b, _, h => by cases i <;> cases h
  | c :: r, 0, b, h, e => by
    cases e
    cases c
    · cases h
    · rfl
  | c :: r, i + 1, b, h, e => by
    cases c
    · cases h
    · exact allB_get (l := r) (i := i) h e
def obsZ (n : Nat) (ex : PySem.W.Frag → List Bool) (fn : List DefZ) (g : Addr → Option Obj) : AlZ := (allB (ex (partZ n g)), fn.map fun d => fnZ (partZ n g) (d.at_ (partZ n g)))
def SaysZ (ex : PySem.W.Frag → List Bool) (fn : List DefZ) (K : PySem.W.Frag) : Prop := (allB (ex K), fn.map fun d => fnZ K (d.at_ K)) = (true, fn.map DefZ.val)
def hookZ (n : Nat) (ex : PySem.W.Frag → List Bool) (fn : List DefZ) : PySem.W.Hook where
  α := AlZ
  obs := fun s => obsZ n ex fn s.heap.get?
  val := fun _ => (true, fn.map DefZ.val)
  says := fun _ h => ∃ K : PySem.W.Frag, K.In h ∧ SaysZ ex fn K
  of := fun _ _ e => ⟨_, frG_in, e⟩
  keeps := fun _ _ _ ⟨K, hK, c⟩ k => ⟨K, PySem.W.Frag.In.keeps hK k, c⟩
theorem obsZ_eq {n : Nat} {ex : PySem.W.Frag → List Bool} {fn : List DefZ} {g : Addr → Option Obj} {s : Shared} (h : ∀ a, g a = s.heap.get? a) : obsZ n ex fn g = (hookZ n ex fn).obs s := by
  have e : g = s.heap.get? := funext h
  rw [e] <;> rfl
section
variable {ex : PySem.W.Frag → List Bool} {fn : List DefZ} {K : PySem.W.Frag}
theorem SaysZ.fact (c : SaysZ ex fn K) (i : Nat) {b : Bool} (h : (ex K)[i]? = some b := by rfl) : b = true := allB_get (show allB (ex K) = true from congrArg (fun z : AlZ => z.1) c) h
theorem SaysZ.def_ (c : SaysZ ex fn K) (i : Nat) {d : DefZ} (h : fn[i]? = some d := by rfl) : fnZ K (d.at_ K) = d.val := by
  have e : fn.map (fun d => fnZ K (d.at_ K)) = fn.map DefZ.val := congrArg (fun z : AlZ => z.2) c
  have e2 : (fn.map fun d => fnZ K (d.at_ K))[i]? = (fn.map DefZ.val)[i]? := by rw [e]
  rw [List.getElem?_map, List.getElem?_map, h] at e2
  exact Option.some.inj e2
end
def isNon : Value → Bool
  | .none => true
  | _ => false
theorem isNon_ok {v : Value} (h : isNon v = true) : v = .none := by cases v <;> first | rfl | cases h
/-- a plain def: kept, its code, no defaults -/
def plB (K : PySem.W.Frag) (f : Addr) (q : Str) : Bool := PySem.W.keepIn K (.ref f) && (match K.lookup f with
  | some ⟨_, _, .func fd, _⟩ => PySem.W.codeIn K fd.code q && isNon fd.defaults
  | _ => false)
theorem plain_z {K : PySem.W.Frag} {f : Addr} {x qual : Str} {st : Stmt} (e : fnZ K f = valZ x qual st []) (c : plB K f qual = true) : ∃ fd, Fun K x qual st f fd := by
  obtain ⟨kp, c2⟩ := ba c
  unfold fnZ at e
  cases q : K.lookup f with
  | none =>
    rw [q] at c2
    cases c2
  | some o =>
    obtain ⟨oc, od, dt, osl⟩ := o
    rw [q] at c2 e
    cases dt with
    | func fd =>
      obtain ⟨n1, n2, n3, n4, n5, n6, n7, n8, n9, n10, n11, n12, n13, n14, n15⟩ := fd
      have e2 : (some (n1, n2, n3, n4, n5, n6, n7.map (·.1), n15) : FnZ) = some (x, qual, defArgs st, .stmts (defBody st), defScope st, mainGlobals, [], builtinsNs) := e
      simp only [Option.some.injEq, Prod.mk.injEq] at e2
      obtain ⟨h1, h2, h3, h4, h5, h6, h7, h8⟩ := e2
      have h7' : n7 = [] := List.map_eq_nil_iff.mp h7
      subst h1 h2 h3 h4 h5 h6 h7' h8
      obtain ⟨k1, k2⟩ := ba (show (PySem.W.codeIn K n13 n2 && isNon n8) = true from c2)
      obtain rfl := isNon_ok k2
      exact ⟨_, ⟨oc, od, n9, n10, n11, n12, n13, n14, osl, rfl, q, k1⟩, kp⟩
    | _ => cases c2
/-- a def with defaults -/
def dfB (K : PySem.W.Frag) (f : Addr) (q : Str) (dvs : List V) (kws : List (Str × V)) : Bool := PySem.W.keepIn K (.ref f) && (match K.lookup f with
  | some ⟨_, _, .func fd, _⟩ => PySem.W.codeIn K fd.code q && (dflB K fd.defaults dvs && kwdB K fd.kwdefaults kws)
  | _ => false)
theorem dfl_z {K : PySem.W.Frag} {f : Addr} {x qual : Str} {st : Stmt} {dvs : List V} {kws : List (Str × V)} (e : fnZ K f = valZ x qual st []) (c : dfB K f qual dvs kws = true) : ∃ fd, FunD K x qual (defArgs st) (defBody st) (defScope st) dvs kws f fd := by
  obtain ⟨kp, c2⟩ := ba c
  unfold fnZ at e
  cases q : K.lookup f with
  | none =>
    rw [q] at c2
    cases c2
  | some o =>
    obtain ⟨oc, od, dt, osl⟩ := o
    rw [q] at c2 e
    cases dt with
    | func fd =>
      obtain ⟨n1, n2, n3, n4, n5, n6, n7, n8, n9, n10, n11, n12, n13, n14, n15⟩ := fd
      have e2 : (some (n1, n2, n3, n4, n5, n6, n7.map (·.1), n15) : FnZ) = some (x, qual, defArgs st, .stmts (defBody st), defScope st, mainGlobals, [], builtinsNs) := e
      simp only [Option.some.injEq, Prod.mk.injEq] at e2
      obtain ⟨h1, h2, h3, h4, h5, h6, h7, h8⟩ := e2
      have h7' : n7 = [] := List.map_eq_nil_iff.mp h7
      subst h1 h2 h3 h4 h5 h6 h7' h8
      obtain ⟨k1, k2⟩ := ba (show (PySem.W.codeIn K n13 n2 && (dflB K n8 dvs && kwdB K n9 kws)) = true from c2)
      obtain ⟨k3, k4⟩ := ba k2
      exact ⟨_, ⟨oc, od, n8, n9, n10, n11, n12, n13, n14, osl, rfl, q, k1, dflB_ok k3, kwdB_ok k4⟩, kp⟩
    | _ => cases c2
/-- an own error's class -/
def clsB (K : PySem.W.Frag) (C : Addr) : Bool := match K.lookup C with
  | some ⟨.type t, _, .cls cd, sl⟩ => decide (t = "type") && ((match cd.mro with
    | .ref C' :: bm => decide (C' = C) && PySem.HandSPX.refsVE bm
    | _ => false) && (cd.hasDict && (!cd.hasDel && (match sl.toList with
    | [_, _, _, _, some (.builtin n), _] => decide (n = "ValueError.__new__")
    | _ => false))))
  | _ => false
theorem clsB_ok {K : PySem.W.Frag} {C : Addr} (h : clsB K C = true) : ∃ nm q N bs bm sn sub ab col dd k0 k1 k2 k3 k5, K.lookup C = some (excClassObj nm q C N bs bm true sn sub ab col dd k0 k1 k2 k3 k5 "ValueError.__new__") ∧ PySem.HandSPX.refsVE bm = true := by
  unfold clsB at h
  split at h
  · rename_i t dd cd sl q
    obtain ⟨h1, h⟩ := ba h
    obtain ⟨h2, h⟩ := ba h
    obtain ⟨h3, h⟩ := ba h
    obtain ⟨h4, h5⟩ := ba h
    split at h2
    · rename_i C' bm hm
      obtain ⟨h6, h7⟩ := ba h2
      have e1 := of_decide_eq_true h1
      have e6 := of_decide_eq_true h6
      subst e1 e6
      split at h5
      · rename_i k0 k1 k2 k3 n k5 hs
        have e5 := of_decide_eq_true h5
        subst e5
        obtain ⟨nm, bs, mro, ns, qn, hd, sn, sub, ab, col, del⟩ := cd
        dsimp only at hm h3 h4
        subst hm h3
        have h4' : del = false := by
          cases del
          · rfl
          · cases h4
        subst h4'
        refine ⟨nm, qn, ns, bs, bm, sn, sub, ab, col, dd, k0, k1, k2, k3, k5, ?_, h7⟩
        rw [q]
        have es : sl = #[k0, k1, k2, k3, some (.builtin "ValueError.__new__"), k5] := Array.toList_inj.mp (by rw [hs])
        rw [es]
      · cases h5
    · cases h2
  · cases h
def isStrV (v : Option Value) (x : Str) : Bool := match v with
  | some (.str y _) => decide (y = x)
  | _ => false
theorem isStrV_ok {v : Option Value} {x : Str} (h : isStrV v x = true) : ∃ t, v = some (.str x t) := by
  unfold isStrV at h
  split at h
  · rename_i y t
    have e := of_decide_eq_true h
    subst e
    exact ⟨t, rfl⟩
  · cases h
/-- its __init__ -/
def supB (K : PySem.W.Frag) (C f : Addr) (q file : Str) : Bool := PySem.W.keepIn K (.ref f) && (match K.lookup f with
  | some ⟨_, _, .func fd, _⟩ => (PySem.W.codeIn K fd.code q && isNon fd.defaults) && ((match fd.closure with
    | [(_, cc)] => (match K.lookup cc with
      | some ⟨_, _, .cell (some (.ref c)), _⟩ => decide (c = C)
      | _ => false)
    | _ => false) && (match fd.code with
    | .ref cda => (match K.lookup cda with
      | some ⟨_, _, .fields vs, _⟩ => isStrV vs[2]? file
      | _ => false)
    | _ => false))
  | _ => false)
theorem sup_z {K : PySem.W.Frag} {C f : Addr} {x qual file : Str} {st : Stmt} (e : fnZ K f = valZ x qual st ["__class__"]) (c : supB K C f qual file = true) : ∃ cc cda fd, SupFn K x qual st C f cc cda file fd := by
  obtain ⟨kp, c2⟩ := ba c
  unfold fnZ at e
  cases q : K.lookup f with
  | none =>
    rw [q] at c2
    cases c2
  | some o =>
    obtain ⟨oc, od, dt, osl⟩ := o
    rw [q] at c2 e
    cases dt with
    | func fd =>
      obtain ⟨n1, n2, n3, n4, n5, n6, n7, n8, n9, n10, n11, n12, n13, n14, n15⟩ := fd
      have e2 : (some (n1, n2, n3, n4, n5, n6, n7.map (·.1), n15) : FnZ) = valZ x qual st ["__class__"] := e
      unfold valZ at e2
      simp only [Option.some.injEq, Prod.mk.injEq] at e2
      obtain ⟨h1, h2, h3, h4, h5, h6, h7, h8⟩ := e2
      subst h1 h2 h3 h4 h5 h6 h8
      obtain ⟨k1, k2⟩ := ba c2
      obtain ⟨k3, k4⟩ := ba k1
      obtain ⟨k5, k6⟩ := ba k2
      dsimp only at k3 k4 k5 k6
      split at k5
      · rename_i z cc
        have ez : z = "__class__" := by
          have := List.cons.inj h7
          exact this.1
        subst ez
        split at k5
        · rename_i a1 a2 c' a3 qc
          have ec := of_decide_eq_true k5
          subst ec
          split at k6
          · rename_i cda
            split at k6
            · rename_i b1 b2 vs b3 qd
              obtain ⟨t', ev⟩ := isStrV_ok k6
              obtain rfl := isNon_ok k4
              exact ⟨cc, cda, _, ⟨oc, n9, n10, n11, n14, od, n12, osl, rfl, q⟩, k3, ⟨_, qc, rfl⟩, ⟨_, vs, t', qd, rfl, ev⟩, kp⟩
            · cases k6
          · cases k6
        · cases k5
      · cases k5
    | _ => cases c2
/-- a number of the module -/
def intZ (K : PySem.W.Frag) (x : Str) (i : Int) : Bool := match PySem.W.nsIn K mainGlobals x with
  | some (some (.int j _)) => decide (j = i)
  | _ => false
theorem intZ_ok {K : PySem.W.Frag} {x : Str} {i : Int} (c : intZ K x i = true) : ∃ t, PySem.W.nsIn K mainGlobals x = some (some (.int i t)) := by
  unfold intZ at c
  split at c
  · rename_i j t q
    have e := of_decide_eq_true c
    subst e
    exact ⟨t, q⟩
  · cases c
end AE
namespace AE
open PySem PySem.Spec PyProof.Rows L2 He
def mroB (K : PySem.W.Frag) (C : Addr) (l : List Value) : Bool := match PySem.W.clsIn K C with
  | some cd => decide (cd.mro = l)
  | _ => false
theorem mroB_ok {K : PySem.W.Frag} {C : Addr} {l : List Value} (h : mroB K C l = true) : ∃ cd, PySem.W.clsIn K C = some cd ∧ cd.mro = l := by
  unfold mroB at h
  cases q : PySem.W.clsIn K C with
  | none => rw [q] at h; cases h
  | some cd => rw [q] at h; exact ⟨cd, rfl, of_decide_eq_true h⟩
end AE

set_option Elab.async false
set_option linter.all false
set_option maxRecDepth 100000
set_option maxHeartbeats 4000000
namespace K08
open PySem PySem.Spec PyProof.Rows L2 Evl AE
def ex0 (K : PySem.W.Frag) : List Bool := [decide (PySem.W.nsIn K mainGlobals "AsksError" = some (some (.ref (He.ga K "AsksError")))),
  decide (PySem.W.nsIn K mainGlobals "BadCount" = some (some (.ref (He.ga K "BadCount")))),
  decide (PySem.W.nsIn K mainGlobals "TooLarge" = some (some (.ref (He.ga K "TooLarge")))),
  decide (PySem.W.nsIn K mainGlobals "Machine" = some (some (.ref (He.ga K "Machine")))),
  decide (PySem.W.nsIn K mainGlobals "Service" = some (some (.ref (He.ga K "Service")))),
  decide (PySem.W.nsIn K mainGlobals "Pattern" = some (some (.ref (He.ga K "Pattern")))),
  decide (PySem.W.nsIn K mainGlobals "Lot" = some (some (.ref (He.ga K "Lot")))),
  decide (PySem.W.nsIn K mainGlobals "Game" = some (some (.ref (He.ga K "Game")))),
  decide (PySem.W.nsIn K mainGlobals "Posts" = some (some (.ref (He.ga K "Posts")))),
  decide (PySem.W.nsIn K mainGlobals "Lineups" = some (some (.ref (He.ga K "Lineups")))),
  decide (PySem.W.specialIn K (.builtin "object.__class__") "__get__" = some (some (.builtin "getset_descriptor.__get__"))),
  decide (PySem.W.takesIn K (.builtin "object.__class__") = some true),
  decide (PySem.W.nsIn K PySem.cStatics "thirdparty.any" = some none),
  decide (PySem.W.nsIn K mainGlobals "_law_cell" = some (some (.ref (He.ga K "_law_cell")))),
  decide (PySem.W.nsIn K mainGlobals "_law_draws" = some (some (.ref (He.ga K "_law_draws")))),
  decide (PySem.W.nsIn K mainGlobals "_law_asks" = some (some (.ref (He.ga K "_law_asks")))),
  decide (PySem.W.nsIn K mainGlobals "_law_steps" = some (some (.ref (He.ga K "_law_steps")))),
  decide (PySem.W.nsIn K mainGlobals "_law_marks" = some (some (.ref (He.ga K "_law_marks")))),
  decide (PySem.W.nsIn K mainGlobals "_law_lot" = some (some (.ref (He.ga K "_law_lot")))),
  decide (PySem.W.nsIn K mainGlobals "_law_random" = some (some (.ref (He.ga K "_law_random"))))]
def ex1 (K : PySem.W.Frag) : List Bool := [decide (PySem.W.nsIn K mainGlobals "_law_pairs" = some (some (.ref (He.ga K "_law_pairs")))),
  decide (PySem.W.nsIn K mainGlobals "_law_service" = some (some (.ref (He.ga K "_law_service")))),
  decide (PySem.W.nsIn K mainGlobals "_law_built" = some (some (.ref (He.ga K "_law_built")))),
  decide (PySem.W.nsIn K mainGlobals "_law_client" = some (some (.ref (He.ga K "_law_client")))),
  decide (PySem.W.nsIn K mainGlobals "_law_whole" = some (some (.ref (He.ga K "_law_whole")))),
  decide (PySem.W.nsIn K mainGlobals "_law_is_pair" = some (some (.ref (He.ga K "_law_is_pair")))),
  decide (PySem.W.nsIn K mainGlobals "_law_is_standing" = some (some (.ref (He.ga K "_law_is_standing")))),
  decide (PySem.W.nsIn K mainGlobals "_law_longer" = some (some (.ref (He.ga K "_law_longer")))),
  decide (PySem.W.nsIn K mainGlobals "_law_known" = some (some (.ref (He.ga K "_law_known")))),
  decide (PySem.W.nsIn K mainGlobals "_law_game" = some (some (.ref (He.ga K "_law_game")))),
  decide (PySem.W.nsIn K mainGlobals "_law_size_raised" = some (some (.ref (He.ga K "_law_size_raised")))),
  decide (PySem.W.nsIn K mainGlobals "_law_first_holds" = some (some (.ref (He.ga K "_law_first_holds")))),
  decide (PySem.W.nsIn K mainGlobals "_law_factor" = some (some (.ref (He.ga K "_law_factor")))),
  decide (PySem.W.nsIn K mainGlobals "_law_size" = some (some (.ref (He.ga K "_law_size")))),
  decide (PySem.W.nsIn K mainGlobals "law" = some (some (.ref (He.ga K "law")))),
  decide (PySem.W.nsIn K mainGlobals "check_size" = some (some (.ref (He.ga K "check_size")))),
  decide (PySem.W.nsIn K mainGlobals "check_marks" = some (some (.ref (He.ga K "check_marks")))),
  decide (PySem.W.nsIn K mainGlobals "check_steps" = some (some (.ref (He.ga K "check_steps")))),
  decide (PySem.W.nsIn K mainGlobals "is_ask" = some (some (.ref (He.ga K "is_ask")))),
  decide (PySem.W.nsIn K mainGlobals "ascending" = some (some (.ref (He.ga K "ascending"))))]
def ex2 (K : PySem.W.Frag) : List Bool := [decide (PySem.W.nsIn K mainGlobals "ends_by_ask" = some (some (.ref (He.ga K "ends_by_ask")))),
  decide (PySem.W.nsIn K mainGlobals "pairs_by_state" = some (some (.ref (He.ga K "pairs_by_state")))),
  decide (PySem.W.findIn K (.ref (He.ga K "Service")) "__init__" = some (some (.ref (He.ma K (He.ga K "Machine") "__init__")))),
  decide (PySem.W.findIn K (.ref (He.ga K "Pattern")) "__init__" = some (some (.ref (He.ma K (He.ga K "Machine") "__init__")))),
  PySem.W.isFn K (.ref (He.ma K (He.ga K "Machine") "__init__")),
  decide (PySem.W.findIn K (.ref (He.ga K "Service")) "__getitem__" = some (some (.ref (He.ma K (He.ga K "Machine") "__getitem__")))),
  decide (PySem.W.findIn K (.ref (He.ga K "Pattern")) "__getitem__" = some (some (.ref (He.ma K (He.ga K "Machine") "__getitem__")))),
  PySem.W.isFn K (.ref (He.ma K (He.ga K "Machine") "__getitem__")),
  decide (PySem.W.findIn K (.ref (He.ga K "Service")) "__setitem__" = some (some (.ref (He.ma K (He.ga K "Machine") "__setitem__")))),
  decide (PySem.W.findIn K (.ref (He.ga K "Pattern")) "__setitem__" = some (some (.ref (He.ma K (He.ga K "Machine") "__setitem__")))),
  PySem.W.isFn K (.ref (He.ma K (He.ga K "Machine") "__setitem__")),
  decide (PySem.W.findIn K (.ref (He.ga K "Service")) "ends_at" = some (some (.ref (He.ma K (He.ga K "Machine") "ends_at")))),
  decide (PySem.W.findIn K (.ref (He.ga K "Pattern")) "ends_at" = some (some (.ref (He.ma K (He.ga K "Machine") "ends_at")))),
  PySem.W.isFn K (.ref (He.ma K (He.ga K "Machine") "ends_at")),
  decide (PySem.W.findIn K (.ref (He.ga K "Pattern")) "pairs_at" = some (some (.ref (He.ma K (He.ga K "Machine") "pairs_at")))),
  PySem.W.isFn K (.ref (He.ma K (He.ga K "Machine") "pairs_at")),
  decide (PySem.W.findIn K (.ref (He.ga K "Service")) "__bool__" = some (some (.ref (He.ma K (He.ga K "Machine") "__bool__")))),
  decide (PySem.W.findIn K (.ref (He.ga K "Pattern")) "__bool__" = some (some (.ref (He.ma K (He.ga K "Machine") "__bool__")))),
  PySem.W.isFn K (.ref (He.ma K (He.ga K "Machine") "__bool__")),
  decide (PySem.W.findIn K (.ref (He.ga K "Service")) "twin" = some (some (.ref (He.ma K (He.ga K "Service") "twin"))))]
def ex3 (K : PySem.W.Frag) : List Bool := [PySem.W.isFn K (.ref (He.ma K (He.ga K "Service") "twin")),
  decide (PySem.W.findIn K (.ref (He.ga K "Lot")) "__init__" = some (some (.ref (He.ma K (He.ga K "Lot") "__init__")))),
  PySem.W.isFn K (.ref (He.ma K (He.ga K "Lot") "__init__")),
  decide (PySem.W.findIn K (.ref (He.ga K "Lot")) "__len__" = some (some (.ref (He.ma K (He.ga K "Lot") "__len__")))),
  PySem.W.isFn K (.ref (He.ma K (He.ga K "Lot") "__len__")),
  decide (PySem.W.findIn K (.ref (He.ga K "Lot")) "__bool__" = some (some (.ref (He.ma K (He.ga K "Lot") "__bool__")))),
  PySem.W.isFn K (.ref (He.ma K (He.ga K "Lot") "__bool__")),
  decide (PySem.W.findIn K (.ref (He.ga K "Lot")) "__getitem__" = some (some (.ref (He.ma K (He.ga K "Lot") "__getitem__")))),
  PySem.W.isFn K (.ref (He.ma K (He.ga K "Lot") "__getitem__")),
  decide (PySem.W.findIn K (.ref (He.ga K "Lot")) "__add__" = some (some (.ref (He.ma K (He.ga K "Lot") "__add__")))),
  PySem.W.isFn K (.ref (He.ma K (He.ga K "Lot") "__add__")),
  decide (PySem.W.nsIn K mainGlobals "check_number" = some (some (.ref (He.ga K "check_number")))),
  decide (PySem.W.nsIn K mainGlobals "rests" = some (some (.ref (He.ga K "rests")))),
  decide (PySem.W.nsIn K mainGlobals "check_count" = some (some (.ref (He.ga K "check_count")))),
  decide (PySem.W.nsIn K mainGlobals "game_size" = some (some (.ref (He.ga K "game_size")))),
  decide (PySem.W.findIn K (.ref (He.ga K "Game")) "__init__" = some (some (.ref (He.ma K (He.ga K "Game") "__init__")))),
  PySem.W.isFn K (.ref (He.ma K (He.ga K "Game") "__init__")),
  decide (PySem.W.findIn K (.ref (He.ga K "Posts")) "__init__" = some (some (.ref (He.ma K (He.ga K "Posts") "__init__")))),
  PySem.W.isFn K (.ref (He.ma K (He.ga K "Posts") "__init__")),
  decide (PySem.W.nsIn K mainGlobals "known_rows" = some (some (.ref (He.ga K "known_rows"))))]
def ex4 (K : PySem.W.Frag) : List Bool := [decide (PySem.W.findIn K (.ref (He.ga K "Lineups")) "__init__" = some (some (.ref (He.ma K (He.ga K "Lineups") "__init__")))),
  PySem.W.isFn K (.ref (He.ma K (He.ga K "Lineups") "__init__")),
  decide (PySem.W.findIn K (.ref (He.ga K "Lineups")) "tuple_at" = some (some (.ref (He.ma K (He.ga K "Lineups") "tuple_at")))),
  PySem.W.isFn K (.ref (He.ma K (He.ga K "Lineups") "tuple_at")),
  decide (PySem.W.nsIn K mainGlobals "state_choices" = some (some (.ref (He.ga K "state_choices")))),
  decide (PySem.W.findIn K (.ref (He.ga K "BadCount")) "__setattr__" = some (some (.builtin "object.__setattr__"))),
  decide (PySem.W.findIn K (.ref (He.ga K "BadCount")) "__getattribute__" = some (some (.builtin "BaseException.__getattribute__"))),
  decide (PySem.W.findIn K (.ref (He.ga K "BadCount")) "__class__" = some (some (.builtin "object.__class__"))),
  decide (PySem.W.findIn K (.ref (He.ga K "BadCount")) "__getattr__" = some none),
  decide (PySem.W.findIn K (.ref (He.ga K "BadCount")) "count" = some none),
  decide (PySem.W.findIn K (.ref (He.ga K "BadCount")) "__init__" = some (some (.ref (He.ma K (He.ga K "BadCount") "__init__")))),
  decide (PySem.W.typeIn K (.ref (He.ma K (He.ga K "BadCount") "__init__")) = some (.type "function")),
  PySem.W.keepIn K (.ref (He.ga K "BadCount")),
  decide (PySem.W.subIn K (.ref (He.ga K "BadCount")) (.type "BaseException") = some true),
  decide (PySem.W.subIn K (.ref (He.ga K "BadCount")) (.type "ValueError") = some true),
  decide (PySem.W.typeIn K (.ref (He.ga K "BadCount")) = some (.type "type")),
  PySem.W.hasDictIn K (He.ga K "BadCount"),
  PySem.W.isClsIn K (He.ga K "BadCount"),
  decide (PySem.W.subIn K (.ref (He.ga K "BadCount")) (.ref (He.ga K "BadCount")) = some true),
  decide (PySem.W.ks_superIn K (He.ga K "BadCount") (He.ga K "BadCount") "__init__" = some (some (.builtin "ValueError.__init__")))]
def ex5 (K : PySem.W.Frag) : List Bool := [decide (PySem.W.mroIn K (He.ga K "BadCount") (.ref (He.ga K "BadCount")) = some true),
  decide (PySem.W.mroIn K (He.ga K "BadCount") (.type "object") = some true),
  decide (PySem.W.findIn K (.ref (He.ga K "TooLarge")) "__setattr__" = some (some (.builtin "object.__setattr__"))),
  decide (PySem.W.findIn K (.ref (He.ga K "TooLarge")) "__getattribute__" = some (some (.builtin "BaseException.__getattribute__"))),
  decide (PySem.W.findIn K (.ref (He.ga K "TooLarge")) "__class__" = some (some (.builtin "object.__class__"))),
  decide (PySem.W.findIn K (.ref (He.ga K "TooLarge")) "__getattr__" = some none),
  decide (PySem.W.findIn K (.ref (He.ga K "TooLarge")) "size" = some none),
  decide (PySem.W.findIn K (.ref (He.ga K "TooLarge")) "__init__" = some (some (.ref (He.ma K (He.ga K "TooLarge") "__init__")))),
  decide (PySem.W.typeIn K (.ref (He.ma K (He.ga K "TooLarge") "__init__")) = some (.type "function")),
  PySem.W.keepIn K (.ref (He.ga K "TooLarge")),
  decide (PySem.W.subIn K (.ref (He.ga K "TooLarge")) (.type "BaseException") = some true),
  decide (PySem.W.subIn K (.ref (He.ga K "TooLarge")) (.type "ValueError") = some true),
  decide (PySem.W.typeIn K (.ref (He.ga K "TooLarge")) = some (.type "type")),
  PySem.W.hasDictIn K (He.ga K "TooLarge"),
  PySem.W.isClsIn K (He.ga K "TooLarge"),
  decide (PySem.W.subIn K (.ref (He.ga K "TooLarge")) (.ref (He.ga K "TooLarge")) = some true),
  decide (PySem.W.ks_superIn K (He.ga K "TooLarge") (He.ga K "TooLarge") "__init__" = some (some (.builtin "ValueError.__init__"))),
  decide (PySem.W.mroIn K (He.ga K "TooLarge") (.ref (He.ga K "TooLarge")) = some true),
  decide (PySem.W.mroIn K (He.ga K "TooLarge") (.type "object") = some true),
  decide (PySem.W.findIn K (.ref (He.ga K "Lot")) "set_states" = some (some (.ref (He.ma K (He.ga K "Lot") "set_states"))))]
def ex6 (K : PySem.W.Frag) : List Bool := [PySem.W.isFn K (.ref (He.ma K (He.ga K "Lot") "set_states")),
  decide (PySem.W.nsIn K mainGlobals "are_states" = some (some (.ref (He.ga K "are_states")))),
  decide (PySem.W.nsIn K mainGlobals "len" = some none),
  decide (PySem.W.nsIn K mainGlobals "int" = some none),
  decide (PySem.W.nsIn K mainGlobals "range" = some none),
  decide (PySem.W.nsIn K mainGlobals "isinstance" = some none),
  decide (PySem.W.nsIn K mainGlobals "bool" = some none),
  decide (PySem.W.nsIn K mainGlobals "list" = some none),
  decide (PySem.W.nsIn K mainGlobals "tuple" = some none),
  decide (PySem.W.nsIn K mainGlobals "all" = some none),
  decide (PySem.W.nsIn K mainGlobals "sorted" = some none),
  decide (PySem.W.nsIn K mainGlobals "str" = some none),
  decide (PySem.W.nsIn K mainGlobals "zip" = some none),
  decide (PySem.W.nsIn K mainGlobals "max" = some none),
  decide (PySem.W.nsIn K mainGlobals "min" = some none),
  decide (PySem.W.nsIn K mainGlobals "enumerate" = some none),
  decide (PySem.W.nsIn K mainGlobals "super" = some none),
  decide (PySem.W.nsIn K mainGlobals "ValueError" = some none),
  PySem.W.plainGet K (He.ga K "Service") Str.empty,
  PySem.W.hasDictIn K (He.ga K "Service")]
def ex7 (K : PySem.W.Frag) : List Bool := [PySem.W.plainOver K (He.ga K "Service"),
  decide (PySem.W.findIn K (.ref (He.ga K "Service")) "__setattr__" = some (some (.builtin "object.__setattr__"))),
  decide (PySem.W.findIn K (.ref (He.ga K "Service")) "size" = some none),
  decide (PySem.W.findIn K (.ref (He.ga K "Service")) "marks" = some none),
  decide (PySem.W.findIn K (.ref (He.ga K "Service")) "steps" = some none),
  decide (PySem.W.findIn K (.ref (He.ga K "Service")) "now" = some none),
  decide (PySem.W.findIn K (.ref (He.ga K "Service")) "_ends" = some none),
  decide (PySem.W.findIn K (.ref (He.ga K "Service")) "_pairs" = some none),
  PySem.W.makesIn K (He.ga K "Service"),
  PySem.W.keepIn K (.ref (He.ga K "Service")),
  decide (PySem.W.kitOne K (.ref (He.ga K "Service")) (.ref (He.ga K "Machine")) = some true),
  PySem.W.plainGet K (He.ga K "Pattern") Str.empty,
  PySem.W.hasDictIn K (He.ga K "Pattern"),
  PySem.W.plainOver K (He.ga K "Pattern"),
  decide (PySem.W.findIn K (.ref (He.ga K "Pattern")) "__setattr__" = some (some (.builtin "object.__setattr__"))),
  decide (PySem.W.findIn K (.ref (He.ga K "Pattern")) "size" = some none),
  decide (PySem.W.findIn K (.ref (He.ga K "Pattern")) "marks" = some none),
  decide (PySem.W.findIn K (.ref (He.ga K "Pattern")) "steps" = some none),
  decide (PySem.W.findIn K (.ref (He.ga K "Pattern")) "now" = some none),
  decide (PySem.W.findIn K (.ref (He.ga K "Pattern")) "_ends" = some none)]
def ex8 (K : PySem.W.Frag) : List Bool := [decide (PySem.W.findIn K (.ref (He.ga K "Pattern")) "_pairs" = some none),
  PySem.W.makesIn K (He.ga K "Pattern"),
  PySem.W.keepIn K (.ref (He.ga K "Pattern")),
  decide (PySem.W.kitOne K (.ref (He.ga K "Pattern")) (.ref (He.ga K "Machine")) = some true),
  PySem.W.plainGet K (He.ga K "Lot") Str.empty,
  PySem.W.hasDictIn K (He.ga K "Lot"),
  PySem.W.plainOver K (He.ga K "Lot"),
  decide (PySem.W.findIn K (.ref (He.ga K "Lot")) "__setattr__" = some (some (.builtin "object.__setattr__"))),
  decide (PySem.W.findIn K (.ref (He.ga K "Lot")) "services" = some none),
  decide (PySem.W.findIn K (.ref (He.ga K "Lot")) "states" = some none),
  PySem.W.makesIn K (He.ga K "Lot"),
  PySem.W.keepIn K (.ref (He.ga K "Lot")),
  PySem.W.plainGet K (He.ga K "Game") Str.empty,
  PySem.W.hasDictIn K (He.ga K "Game"),
  PySem.W.plainOver K (He.ga K "Game"),
  decide (PySem.W.findIn K (.ref (He.ga K "Game")) "__setattr__" = some (some (.builtin "object.__setattr__"))),
  decide (PySem.W.findIn K (.ref (He.ga K "Game")) "size" = some none),
  decide (PySem.W.findIn K (.ref (He.ga K "Game")) "ahead" = some none),
  decide (PySem.W.findIn K (.ref (He.ga K "Game")) "falls" = some none),
  decide (PySem.W.findIn K (.ref (He.ga K "Game")) "pattern" = some none)]
def ex9 (K : PySem.W.Frag) : List Bool := [decide (PySem.W.findIn K (.ref (He.ga K "Game")) "lot" = some none),
  decide (PySem.W.findIn K (.ref (He.ga K "Game")) "posts" = some none),
  decide (PySem.W.findIn K (.ref (He.ga K "Game")) "lineups" = some none),
  decide (PySem.W.findIn K (.ref (He.ga K "Game")) "first" = some none),
  decide (PySem.W.findIn K (.ref (He.ga K "Game")) "_rounds" = some none),
  PySem.W.makesIn K (He.ga K "Game"),
  PySem.W.keepIn K (.ref (He.ga K "Game")),
  PySem.W.plainGet K (He.ga K "Posts") Str.empty,
  PySem.W.hasDictIn K (He.ga K "Posts"),
  PySem.W.plainOver K (He.ga K "Posts"),
  decide (PySem.W.findIn K (.ref (He.ga K "Posts")) "__setattr__" = some (some (.builtin "object.__setattr__"))),
  decide (PySem.W.findIn K (.ref (He.ga K "Posts")) "pattern" = some none),
  decide (PySem.W.findIn K (.ref (He.ga K "Posts")) "_ahead" = some none),
  decide (PySem.W.findIn K (.ref (He.ga K "Posts")) "rows" = some none),
  decide (PySem.W.findIn K (.ref (He.ga K "Posts")) "numbers" = some none),
  PySem.W.makesIn K (He.ga K "Posts"),
  PySem.W.keepIn K (.ref (He.ga K "Posts")),
  PySem.W.plainGet K (He.ga K "Lineups") Str.empty,
  PySem.W.hasDictIn K (He.ga K "Lineups"),
  PySem.W.plainOver K (He.ga K "Lineups")]
def ex10 (K : PySem.W.Frag) : List Bool := [decide (PySem.W.findIn K (.ref (He.ga K "Lineups")) "__setattr__" = some (some (.builtin "object.__setattr__"))),
  decide (PySem.W.findIn K (.ref (He.ga K "Lineups")) "lot" = some none),
  decide (PySem.W.findIn K (.ref (He.ga K "Lineups")) "choices" = some none),
  decide (PySem.W.findIn K (.ref (He.ga K "Lineups")) "strides" = some none),
  decide (PySem.W.findIn K (.ref (He.ga K "Lineups")) "total" = some none),
  decide (PySem.W.findIn K (.ref (He.ga K "Lineups")) "tuples" = some none),
  decide (PySem.W.findIn K (.ref (He.ga K "Lineups")) "numbers" = some none),
  PySem.W.makesIn K (He.ga K "Lineups"),
  PySem.W.keepIn K (.ref (He.ga K "Lineups")),
  PySem.W.fnIn K (He.ma K (He.ga K "Machine") "__getitem__"),
  PySem.W.fnIn K (He.ma K (He.ga K "Lot") "__getitem__"),
  decide (PySem.W.findIn K (.ref (He.ga K "Service")) "__class__" = some (some (.builtin "object.__class__"))),
  decide (PySem.W.mroIn K (He.ga K "Service") (.type "object") = some true),
  PySem.W.noSeq K (He.ga K "Service"),
  decide (PySem.W.findIn K (.ref (He.ga K "Pattern")) "__class__" = some (some (.builtin "object.__class__"))),
  decide (PySem.W.mroIn K (He.ga K "Pattern") (.type "object") = some true),
  PySem.W.noSeq K (He.ga K "Pattern"),
  PySem.W.selfFirst K (He.ga K "Lot"),
  mroB K (He.ga K "Service") [.ref (He.ga K "Service"), .ref (He.ga K "Machine"), .type "object"],
  decide (PySem.W.findIn K (.ref (He.ga K "Lot")) "__class__" = some (some (.builtin "object.__class__")))]
def ex11 (K : PySem.W.Frag) : List Bool := [decide (PySem.W.mroIn K (He.ga K "Lot") (.type "object") = some true),
  decide (PySem.W.findIn K (.ref (He.ga K "Service")) "__add__" = some none),
  decide (PySem.W.findIn K (.ref (He.ga K "Service")) "__radd__" = some none),
  decide (PySem.W.findIn K (.ref (He.ga K "Machine")) "__add__" = some none),
  decide (PySem.W.findIn K (.ref (He.ga K "Machine")) "__radd__" = some none),
  decide (PySem.W.findIn K (.type "object") "__add__" = some none),
  decide (PySem.W.findIn K (.type "object") "__radd__" = some none),
  decide (PySem.W.kitOne K (.ref (He.ga K "Service")) (.ref (He.ga K "Lot")) = some false),
  decide (PySem.W.kitOne K (.ref (He.ga K "BadCount")) (.ref (He.ga K "AsksError")) = some true),
  decide (PySem.W.kitOne K (.ref (He.ga K "BadCount")) (.ref (He.ga K "TooLarge")) = some false),
  decide (PySem.W.kitOne K (.ref (He.ga K "BadCount")) (.type "ValueError") = some true),
  decide (PySem.W.kitOne K (.ref (He.ga K "TooLarge")) (.ref (He.ga K "AsksError")) = some true),
  decide (PySem.W.kitOne K (.ref (He.ga K "TooLarge")) (.ref (He.ga K "BadCount")) = some false),
  decide (PySem.W.kitOne K (.ref (He.ga K "TooLarge")) (.type "ValueError") = some true),
  decide (PySem.W.subIn K (.ref (He.ga K "TooLarge")) (.ref (He.ga K "BadCount")) = some false),
  plB K (He.ga K "_law_cell") "_law_cell",
  plB K (He.ga K "_law_draws") "_law_draws",
  plB K (He.ga K "_law_asks") "_law_asks",
  plB K (He.ga K "_law_steps") "_law_steps",
  plB K (He.ga K "_law_marks") "_law_marks"]
def ex12 (K : PySem.W.Frag) : List Bool := [plB K (He.ga K "_law_lot") "_law_lot",
  plB K (He.ga K "_law_random") "_law_random",
  plB K (He.ga K "_law_pairs") "_law_pairs",
  plB K (He.ga K "_law_service") "_law_service",
  plB K (He.ga K "_law_built") "_law_built",
  plB K (He.ga K "_law_client") "_law_client",
  plB K (He.ga K "_law_whole") "_law_whole",
  plB K (He.ga K "_law_is_pair") "_law_is_pair",
  plB K (He.ga K "_law_is_standing") "_law_is_standing",
  plB K (He.ga K "_law_longer") "_law_longer",
  plB K (He.ga K "_law_known") "_law_known",
  plB K (He.ga K "_law_game") "_law_game",
  plB K (He.ga K "_law_size_raised") "_law_size_raised",
  plB K (He.ga K "_law_first_holds") "_law_first_holds",
  plB K (He.ga K "_law_factor") "_law_factor",
  plB K (He.ga K "_law_size") "_law_size",
  plB K (He.ga K "law") "law",
  plB K (He.ga K "check_size") "check_size",
  plB K (He.ga K "check_marks") "check_marks",
  plB K (He.ga K "check_steps") "check_steps"]
def ex13 (K : PySem.W.Frag) : List Bool := [plB K (He.ga K "is_ask") "is_ask",
  plB K (He.ga K "ascending") "ascending",
  plB K (He.ga K "ends_by_ask") "ends_by_ask",
  plB K (He.ga K "pairs_by_state") "pairs_by_state",
  dfB K (He.ma K (He.ga K "Machine") "__init__") "Machine.__init__" [.int 0] [],
  plB K (He.ma K (He.ga K "Machine") "__getitem__") "Machine.__getitem__",
  plB K (He.ma K (He.ga K "Machine") "__setitem__") "Machine.__setitem__",
  plB K (He.ma K (He.ga K "Machine") "ends_at") "Machine.ends_at",
  plB K (He.ma K (He.ga K "Machine") "pairs_at") "Machine.pairs_at",
  plB K (He.ma K (He.ga K "Machine") "__bool__") "Machine.__bool__",
  plB K (He.ma K (He.ga K "Service") "twin") "Service.twin",
  plB K (He.ma K (He.ga K "Lot") "__init__") "Lot.__init__",
  plB K (He.ma K (He.ga K "Lot") "__len__") "Lot.__len__",
  plB K (He.ma K (He.ga K "Lot") "__bool__") "Lot.__bool__",
  plB K (He.ma K (He.ga K "Lot") "__getitem__") "Lot.__getitem__",
  plB K (He.ma K (He.ga K "Lot") "__add__") "Lot.__add__",
  plB K (He.ga K "check_number") "check_number",
  plB K (He.ga K "rests") "rests",
  plB K (He.ga K "check_count") "check_count",
  plB K (He.ga K "game_size") "game_size"]
def ex14 (K : PySem.W.Frag) : List Bool := [dfB K (He.ma K (He.ga K "Game") "__init__") "Game.__init__" [] [("ahead", .int 0), ("falls", .int 0)],
  plB K (He.ma K (He.ga K "Posts") "__init__") "Posts.__init__",
  plB K (He.ga K "known_rows") "known_rows",
  plB K (He.ma K (He.ga K "Lineups") "__init__") "Lineups.__init__",
  plB K (He.ma K (He.ga K "Lineups") "tuple_at") "Lineups.tuple_at",
  plB K (He.ga K "state_choices") "state_choices",
  clsB K (He.ga K "BadCount"),
  supB K (He.ga K "BadCount") (He.ma K (He.ga K "BadCount") "__init__") "BadCount.__init__" PySem.Challenge.pw_askshanded_k08_first_standings.main.file,
  clsB K (He.ga K "TooLarge"),
  supB K (He.ga K "TooLarge") (He.ma K (He.ga K "TooLarge") "__init__") "TooLarge.__init__" PySem.Challenge.pw_askshanded_k08_first_standings.main.file,
  plB K (He.ma K (He.ga K "Lot") "set_states") "Lot.set_states",
  plB K (He.ga K "are_states") "are_states",
  intZ K "MOST_STATES" (200),
  intZ K "MOST_STEPS" (600),
  intZ K "LONGEST_ASK" (8),
  intZ K "MOST_SERVICES" (5),
  intZ K "AWAY" (-1),
  intZ K "MOST_AHEAD" (4),
  intZ K "MOST_FALLS" (5),
  intZ K "LARGEST_GAME" (20000)]
def exz (K : PySem.W.Frag) : List Bool := [allB (ex0 K), allB (ex1 K), allB (ex2 K), allB (ex3 K), allB (ex4 K), allB (ex5 K), allB (ex6 K), allB (ex7 K), allB (ex8 K), allB (ex9 K), allB (ex10 K), allB (ex11 K), allB (ex12 K), allB (ex13 K), allB (ex14 K)]
def fnz : List DefZ := [⟨fun K => (He.ga K "_law_cell"), valZ "_law_cell" "_law_cell" s__law_cell []⟩,
  ⟨fun K => (He.ga K "_law_draws"), valZ "_law_draws" "_law_draws" s__law_draws []⟩,
  ⟨fun K => (He.ga K "_law_asks"), valZ "_law_asks" "_law_asks" s__law_asks []⟩,
  ⟨fun K => (He.ga K "_law_steps"), valZ "_law_steps" "_law_steps" s__law_steps []⟩,
  ⟨fun K => (He.ga K "_law_marks"), valZ "_law_marks" "_law_marks" s__law_marks []⟩,
  ⟨fun K => (He.ga K "_law_lot"), valZ "_law_lot" "_law_lot" s__law_lot []⟩,
  ⟨fun K => (He.ga K "_law_random"), valZ "_law_random" "_law_random" s__law_random []⟩,
  ⟨fun K => (He.ga K "_law_pairs"), valZ "_law_pairs" "_law_pairs" s__law_pairs []⟩,
  ⟨fun K => (He.ga K "_law_service"), valZ "_law_service" "_law_service" s__law_service []⟩,
  ⟨fun K => (He.ga K "_law_built"), valZ "_law_built" "_law_built" s__law_built []⟩,
  ⟨fun K => (He.ga K "_law_client"), valZ "_law_client" "_law_client" s__law_client []⟩,
  ⟨fun K => (He.ga K "_law_whole"), valZ "_law_whole" "_law_whole" s__law_whole []⟩,
  ⟨fun K => (He.ga K "_law_is_pair"), valZ "_law_is_pair" "_law_is_pair" s__law_is_pair []⟩,
  ⟨fun K => (He.ga K "_law_is_standing"), valZ "_law_is_standing" "_law_is_standing" s__law_is_standing []⟩,
  ⟨fun K => (He.ga K "_law_longer"), valZ "_law_longer" "_law_longer" s__law_longer []⟩,
  ⟨fun K => (He.ga K "_law_known"), valZ "_law_known" "_law_known" s__law_known []⟩,
  ⟨fun K => (He.ga K "_law_game"), valZ "_law_game" "_law_game" s__law_game []⟩,
  ⟨fun K => (He.ga K "_law_size_raised"), valZ "_law_size_raised" "_law_size_raised" s__law_size_raised []⟩,
  ⟨fun K => (He.ga K "_law_first_holds"), valZ "_law_first_holds" "_law_first_holds" s__law_first_holds []⟩,
  ⟨fun K => (He.ga K "_law_factor"), valZ "_law_factor" "_law_factor" s__law_factor []⟩,
  ⟨fun K => (He.ga K "_law_size"), valZ "_law_size" "_law_size" s__law_size []⟩,
  ⟨fun K => (He.ga K "law"), valZ "law" "law" s_law []⟩,
  ⟨fun K => (He.ga K "check_size"), valZ "check_size" "check_size" s_check_size []⟩,
  ⟨fun K => (He.ga K "check_marks"), valZ "check_marks" "check_marks" s_check_marks []⟩,
  ⟨fun K => (He.ga K "check_steps"), valZ "check_steps" "check_steps" s_check_steps []⟩,
  ⟨fun K => (He.ga K "is_ask"), valZ "is_ask" "is_ask" s_is_ask []⟩,
  ⟨fun K => (He.ga K "ascending"), valZ "ascending" "ascending" s_ascending []⟩,
  ⟨fun K => (He.ga K "ends_by_ask"), valZ "ends_by_ask" "ends_by_ask" s_ends_by_ask []⟩,
  ⟨fun K => (He.ga K "pairs_by_state"), valZ "pairs_by_state" "pairs_by_state" s_pairs_by_state []⟩,
  ⟨fun K => (He.ma K (He.ga K "Machine") "__init__"), valZ "__init__" "Machine.__init__" s_Machine___init__ []⟩,
  ⟨fun K => (He.ma K (He.ga K "Machine") "__getitem__"), valZ "__getitem__" "Machine.__getitem__" s_Machine___getitem__ []⟩,
  ⟨fun K => (He.ma K (He.ga K "Machine") "__setitem__"), valZ "__setitem__" "Machine.__setitem__" s_Machine___setitem__ []⟩,
  ⟨fun K => (He.ma K (He.ga K "Machine") "ends_at"), valZ "ends_at" "Machine.ends_at" s_Machine_ends_at []⟩,
  ⟨fun K => (He.ma K (He.ga K "Machine") "pairs_at"), valZ "pairs_at" "Machine.pairs_at" s_Machine_pairs_at []⟩,
  ⟨fun K => (He.ma K (He.ga K "Machine") "__bool__"), valZ "__bool__" "Machine.__bool__" s_Machine___bool__ []⟩,
  ⟨fun K => (He.ma K (He.ga K "Service") "twin"), valZ "twin" "Service.twin" s_Service_twin []⟩,
  ⟨fun K => (He.ma K (He.ga K "Lot") "__init__"), valZ "__init__" "Lot.__init__" s_Lot___init__ []⟩,
  ⟨fun K => (He.ma K (He.ga K "Lot") "__len__"), valZ "__len__" "Lot.__len__" s_Lot___len__ []⟩,
  ⟨fun K => (He.ma K (He.ga K "Lot") "__bool__"), valZ "__bool__" "Lot.__bool__" s_Lot___bool__ []⟩,
  ⟨fun K => (He.ma K (He.ga K "Lot") "__getitem__"), valZ "__getitem__" "Lot.__getitem__" s_Lot___getitem__ []⟩,
  ⟨fun K => (He.ma K (He.ga K "Lot") "__add__"), valZ "__add__" "Lot.__add__" s_Lot___add__ []⟩,
  ⟨fun K => (He.ga K "check_number"), valZ "check_number" "check_number" s_check_number []⟩,
  ⟨fun K => (He.ga K "rests"), valZ "rests" "rests" s_rests []⟩,
  ⟨fun K => (He.ga K "check_count"), valZ "check_count" "check_count" s_check_count []⟩,
  ⟨fun K => (He.ga K "game_size"), valZ "game_size" "game_size" s_game_size []⟩,
  ⟨fun K => (He.ma K (He.ga K "Game") "__init__"), valZ "__init__" "Game.__init__" s_Game___init__ []⟩,
  ⟨fun K => (He.ma K (He.ga K "Posts") "__init__"), valZ "__init__" "Posts.__init__" s_Posts___init__ []⟩,
  ⟨fun K => (He.ga K "known_rows"), valZ "known_rows" "known_rows" s_known_rows []⟩,
  ⟨fun K => (He.ma K (He.ga K "Lineups") "__init__"), valZ "__init__" "Lineups.__init__" s_Lineups___init__ []⟩,
  ⟨fun K => (He.ma K (He.ga K "Lineups") "tuple_at"), valZ "tuple_at" "Lineups.tuple_at" s_Lineups_tuple_at []⟩,
  ⟨fun K => (He.ga K "state_choices"), valZ "state_choices" "state_choices" s_state_choices []⟩,
  ⟨fun K => (He.ma K (He.ga K "BadCount") "__init__"), valZ "__init__" "BadCount.__init__" s_BadCount___init__ ["__class__"]⟩,
  ⟨fun K => (He.ma K (He.ga K "TooLarge") "__init__"), valZ "__init__" "TooLarge.__init__" s_TooLarge___init__ ["__class__"]⟩,
  ⟨fun K => (He.ma K (He.ga K "Lot") "set_states"), valZ "set_states" "Lot.set_states" s_Lot_set_states []⟩,
  ⟨fun K => (He.ga K "are_states"), valZ "are_states" "are_states" s_are_states []⟩]
def nm0 : List Str := [("_wall" : Str), ("AsksError" : Str), ("BadMachine" : Str), ("BadState" : Str), ("TooLarge" : Str), ("NoStep" : Str), ("BadNumber" : Str), ("SeveralEnds" : Str), ("BadCount" : Str), ("is_held" : Str), ("reached_tasks" : Str), ("beaten_places" : Str), ("option_uses" : Str), ("MOST_STATES" : Str), ("MOST_STEPS" : Str), ("LONGEST_ASK" : Str), ("Machine" : Str), ("Service" : Str), ("Pattern" : Str), ("PatternDuel" : Str)]
def nm1 : List Str := [("check_count" : Str), ("check_size" : Str), ("check_marks" : Str), ("check_steps" : Str), ("is_ask" : Str), ("ascending" : Str), ("ends_by_ask" : Str), ("pairs_by_state" : Str), ("MOST_SERVICES" : Str), ("AWAY" : Str), ("Lot" : Str), ("LotDuel" : Str), ("check_number" : Str), ("check_single_ends" : Str), ("are_states" : Str), ("rests" : Str), ("replaced" : Str), ("takings" : Str), ("Lineups" : Str), ("state_choices" : Str)]
def nm2 : List Str := [("Posts" : Str), ("known_rows" : Str), ("MOST_AHEAD" : Str), ("MOST_FALLS" : Str), ("LARGEST_GAME" : Str), ("Game" : Str), ("game_size" : Str), ("_law_cell" : Str), ("_law_draws" : Str), ("_law_asks" : Str), ("_law_steps" : Str), ("_law_marks" : Str), ("_law_lot" : Str), ("_law_random" : Str), ("_law_pairs" : Str), ("_law_service" : Str), ("_law_built" : Str), ("_law_client" : Str), ("_law_whole" : Str), ("_law_is_pair" : Str)]
def nm3 : List Str := [("_law_is_standing" : Str), ("_law_longer" : Str), ("_law_known" : Str), ("_law_game" : Str), ("_law_size_raised" : Str), ("_law_first_holds" : Str), ("_law_factor" : Str), ("_law_size" : Str)]
def names : List Str := nm0 ++ nm1 ++ nm2 ++ nm3
abbrev Rw : PySem.W.OpenRow := PySem.W.OpenLaw.row PySem.Challenge.rw_askshanded_k08_first_standings
abbrev hk : PySem.W.Hook := hookZ 4 exz fnz
def ob (s : PySem.W.SharedT) : AlZ := obsZ 4 exz fnz (HandSHeadRun.getT s)
theorem ob_eq (s : PySem.W.SharedT) : ob s = hk.obs s.abs := obsZ_eq (HandSHeadRun.getT_eq s)
set_option maxHeartbeats 0 in
theorem run (w : World) : HandSHeadRun.RunEq Rw (PySem.W.view Rw.prog [76]) hk ob 15000 names w := by
  intro os
  kernel_rfl
end K08

set_option Elab.async false
set_option linter.all false
set_option maxRecDepth 100000
namespace K08
open PySem PySem.Spec PyProof.Rows L2 Evl AE
local macro_rules | `(tactic| walk_at "c") => `(tactic| first | exact ⟨by decide, by decide⟩ | exact .inr ⟨by decide, by decide⟩ | exact .inl ⟨by decide, by decide⟩ | exact ⟨by decide, by decide, by decide⟩ | (show (0 : Int) < _; decide))
local macro_rules | `(tactic| walk_at "s") => `(tactic| first
  | (with_reducible refine r_var rfl ?_) | (with_reducible refine r_c ?_) | (with_reducible refine r_op ?_) | (with_reducible refine r_un ?_) | (with_reducible refine r_I0 ?_) | (with_reducible refine r_U ?_)
  | (with_reducible refine r_eq rfl ?_) | (with_reducible refine r_ne rfl ?_) | (with_reducible refine r_chain ?_) | (with_reducible refine r_test ?_) | (with_reducible refine r_tB ?_)
  | (with_reducible refine r_bl ?_) | (with_reducible refine r_and ?_) | (with_reducible refine r_or ?_) | (with_reducible refine r_not ?_) | (with_reducible refine r_nil ?_) | (with_reducible refine r_cons ?_)
  | (with_reducible refine r_tup ?_) | (with_reducible refine r_lst ?_) | (with_reducible refine r_cb ?_) | (with_reducible refine r_call ?_) | (with_reducible refine r_seq ?_) | (with_reducible refine r_set ?_)
  | (with_reducible refine r_drop ?_) | (with_reducible refine r_ret ?_) | (with_reducible refine r_next ?_) | (with_reducible refine r_if ?_) | (with_reducible refine r_sl ?_) | (with_reducible refine r_nop ?_) | (with_reducible refine r_prt ?_) | (with_reducible refine r_some ?_)
  | (with_reducible refine add_int ?_) | (with_reducible refine int_i ?_) | (with_reducible refine r_forR1 ?_) | (with_reducible refine r_forL ?_) | (with_reducible refine r_andV ?_) | (with_reducible refine r_orV ?_) | (with_reducible refine r_notV ?_) | (with_reducible refine r_ifE ?_) | ((with_reducible refine r_I ?_ ?_); (walk_at "c")))
local macro_rules | `(tactic| walk_at "g") => `(tactic| repeat walk_at "s")
section
variable {P : Program} {w : World} {K : PySem.W.Frag} {mg : Str → Option Value} {base : Heap}
/-! ### what a machine's parts are held against -/
def sp_size : Sp := fun vs H Q _ => ∃ n : Int, vs = [.int n] ∧ 1 ≤ n ∧ n ≤ 200 ∧ Q .non H
theorem ok_size (T : Tp K mg) : FnOk P w K mg base CX0 1 T.a_check_size T.d_check_size ["size"] sp_size := by
  refine T.f_check_size.ok sc_check_size (fun vs H Q E h => ?_) (fun cdv A outer s H vs Q E hr h => ?_)
  · obtain ⟨n, rfl, _⟩ := h
    rfl
  · obtain ⟨n, rfl, h1, h2, q⟩ := h
    refine ⟨_, (pss_cons (ps_if (pt_cmpR op_lt (pv 0) pe_int (nomark _)) (pss_one ps_never) pss_nil)
  (pss_one (ps_if (pt_cmpR op_gt (pv 0) (pe_gi rfl T.k_MOST_STATES) (nomark _)) (pss_one ps_never) pss_nil))), ?_⟩
    walk_at "g"
    refine ite_f (decide_eq_false (by omega)) ?_
    walk_at "g"
    refine ite_f (decide_eq_false (by omega)) ?_
    walk_at "g"
    exact q
def sp_marks (K : PySem.W.Frag) : Sp := fun vs H Q _ => ∃ (n : Int) (a : Addr) (ms : List Int), vs = [.int n, .ref a] ∧ SqA K H a (ms.map V.int) ∧ (∀ m ∈ ms, 0 ≤ m ∧ m < n) ∧ Q .non H
theorem ok_marks (T : Tp K mg) : FnOk P w K mg base CX0 1 T.a_check_marks T.d_check_marks ["size", "marks"] (sp_marks K) := by
  refine T.f_check_marks.ok sc_check_marks (fun vs H Q E h => ?_) (fun cdv A outer s H vs Q E hr h => ?_)
  · obtain ⟨n, a, ms, rfl, _⟩ := h
    rfl
  · obtain ⟨n, a, ms, rfl, hS, hm, q⟩ := h
    refine ⟨_, (pss_one (ps_for PassesOwn.never rfl (pi_seq (pv 1)) (pg_name (i := 2) sc_check_marks.nd rfl (.inl rfl))
  (pss_one (ps_if (pt_not (pt_chain op_le op_lt pe_int (pv 2) (pv 0))) (pss_one ps_never) pss_nil)))), ?_⟩
    refine for_seq rfl hS (fun i σ' H' => ∃ y, σ' = [some (.int n), some (.ref a), y] ∧ H' = H) ⟨_, rfl, rfl⟩ (fun j σ' H' _ ⟨_, _, e⟩ => by rw [e]; exact Ex.refl H) ?_ ?_
    · rintro j x σ' H' hx ⟨y, rfl, rfl⟩
      obtain ⟨m, hm1, rfl⟩ := List.mem_map.mp (List.mem_of_getElem? hx)
      obtain ⟨m0, m1⟩ := hm m hm1
      show tIfS _ _ _ _ _ _
      walk_at "g"
      refine ite_t (decide_eq_true (by omega)) ?_
      walk_at "g"
      refine ite_f (by rw [decide_eq_true m1]; rfl) ?_
      walk_at "g"
      exact ⟨_, rfl, rfl⟩
    · rintro σ' H' ⟨y, rfl, rfl⟩
      exact q
def sp_ask : Sp := fun vs H Q _ => ∃ x : Str, vs = [.str x] ∧ 1 ≤ x.length ∧ x.length ≤ 8 ∧ (∀ c ∈ x.cps.toList, 97 ≤ c ∧ c ≤ 122) ∧ ∀ H', Ex H H' → Q (.bl true) H'
theorem ok_ask (T : Tp K mg) : FnOk P w K mg base CX0 1 T.a_is_ask T.d_is_ask ["ask"] sp_ask := by
  refine T.f_is_ask.ok sc_is_ask (fun vs H Q E h => ?_) (fun cdv A outer s H vs Q E hr h => ?_)
  · obtain ⟨x, rfl, _⟩ := h
    rfl
  · obtain ⟨x, rfl, h1, h2, hl, q⟩ := h
    refine ⟨_, (pss_one (ps_ret (pe_and (pe_chain op_le op_le pe_int (pe_callB c_len (by rfl) T.n_len (by rfl) (pa_cons (pv 0) pa_nil)) (pe_gi rfl T.k_LONGEST_ASK)) (pe_one (pe_callB (cr_all rfl) (by rfl) T.n_all (by rfl) (pa_cons (pe_lc (own := [("letter", 1)]) (g := gName 1) (tt := tYes) rfl sc_is_ask.nd (pi_str (pv 0)) (blkOk_by (N := N_is_ask) (sc := defScope s_is_ask) (by decide +kernel)) (fun _ _ _ _ _ => (pg_name (i := 1) sc_is_ask.nd rfl (.inl rfl))) (fun _ _ _ _ _ => pts_nil) (fun _ _ _ _ _ => (pe_chain op_le_str op_le_str pe_str (pv 1) pe_str))) pa_nil)))))), ?_⟩
    walk_at "g"
    refine len_s (sz_of (by omega)) ?_
    walk_at "g"
    refine ite_t (decide_eq_true (by omega)) ?_
    walk_at "g"
    refine ite_t (decide_eq_true (by omega)) ?_
    walk_at "g"
    refine lc_s (z := x) (fun _ => true) (fun _ => .bl true) (fun R k => ⟨_, rfl, k⟩) (by omega) (fun _ => rfl) yes_t ?_ fun D H1 hD e1 hl1 => ?_
    · intro y hy _ H1 e1 R k
      obtain ⟨c, hc, rfl⟩ := List.mem_map.mp hy
      obtain ⟨c1, c2⟩ := hl c hc
      walk_at "g"
      refine ⟨_, _, rfl, rfl, _, rfl, ?_⟩
      refine ite_t ?_ ?_
      · show (!decide ([c] < [97])) = true
        rw [decide_eq_false (by rw [List.cons_lt_cons_iff]; simp; omega)]
        rfl
      · walk_at "g"
        refine ⟨_, _, rfl, rfl, ?_⟩
        have z : (!decide ([122] < [c])) = true := by
          rw [decide_eq_false (by rw [List.cons_lt_cons_iff]; simp; omega)]
          rfl
        have k2 := k H1 (Ex.refl H1)
        rw [← z] at k2
        exact k2
    · walk_at "g"
      refine ⟨D, ((signsV x).filter fun _ => true).map fun _ => true, rfl, .inl (.inl ?_), ?_⟩
      · rw [hl1, List.map_map]
        rfl
      · have z : (((signsV x).filter fun _ => true).map fun _ => true).all id = true := by simp
        rw [z]
        exact q H1 e1
def sp_steps (K : PySem.W.Frag) : Sp := fun vs H Q _ => ∃ (n : Int) (a : Addr) (us : List V) (ss : List StepD), vs = [.int n, .ref a] ∧ SqA K H a us ∧ Tups H us (ss.map stepV) ∧ (∀ s ∈ ss, OkS n s) ∧ ∀ H', Ex H H' → Q .non H'
theorem ok_steps (T : Tp K mg) : FnOk P w K mg base CX0 2 T.a_check_steps T.d_check_steps ["size", "steps"] (sp_steps K) := by
  have G_is_ask : FnOk P w K mg base CX0 1 T.a_is_ask T.d_is_ask ["ask"] sp_ask := ok_ask T
  refine T.f_check_steps.ok sc_check_steps (fun vs H Q E h => ?_) (fun cdv A outer s H vs Q E hr h => ?_)
  · obtain ⟨n, a, us, ss, rfl, _⟩ := h
    rfl
  · obtain ⟨n, a, us, ss, rfl, hS, hT, hok, q⟩ := h
    refine ⟨_, (pss_one (ps_for PassesOwn.never rfl (pi_seq (pv 1)) (pg_tup rfl (pgs_cons (pg_name (i := 2) sc_check_steps.nd rfl (.inl rfl)) (pgs_cons (pg_name (i := 3) sc_check_steps.nd rfl (.inl rfl)) (pgs_cons (pg_name (i := 4) sc_check_steps.nd rfl (.inl rfl)) pgs_nil))))
  (pss_one (ps_if (pt_not (PW.pt (pw_and (pt_chain op_le op_lt pe_int (pv 2) (pv 0)) (pw_and (pt_val (pe_call G_is_ask (hr.mono (by decide)) (by rfl) T.g_is_ask T.f_is_ask.kp T.b_is_ask .nil pass0 (pa_cons (pv 3) pa_nil))) (pw_and1 (pt_chain op_le op_lt pe_int (pv 4) (pv 0))))))) (pss_one ps_never) pss_nil)))), ?_⟩
    refine for_seq rfl hS (fun i σ' H' => ∃ y2 y3 y4, σ' = [some (.int n), some (.ref a), y2, y3, y4] ∧ Ex H H') ⟨_, _, _, rfl, Ex.refl H⟩ (fun j σ' H' _ ⟨_, _, _, _, e⟩ => e) ?_ ?_
    · rintro j x σ' H' hx ⟨y2, y3, y4, rfl, e1⟩
      obtain ⟨z, hz, p, rfl, hp⟩ := hT.get hx
      obtain ⟨st, hst, rfl⟩ := List.mem_map.mp (List.mem_of_getElem? hz)
      have o := hok st hst
      refine ⟨p, stepV st, rfl, .inl (.inl (e1 _ _ hp)), rfl, _, _, rfl, _, _, rfl, _, _, rfl, rfl, ?_⟩
      show tIfS _ _ _ _ _ _
      walk_at "g"
      refine ite_t (decide_eq_true o.s0) ?_
      walk_at "g"
      refine ite_t (decide_eq_true o.s1) ?_
      walk_at "g"
      refine ⟨_, rfl, o.a0, o.a1, o.al, fun H2 e2 => ?_⟩
      walk_at "g"
      refine ite_t rfl ?_
      walk_at "g"
      refine ite_t (decide_eq_true o.e0) ?_
      walk_at "g"
      refine ite_f (by rw [decide_eq_true o.e1]; rfl) ?_
      walk_at "g"
      exact ⟨_, _, _, rfl, e1.trans e2⟩
    · rintro σ' H' ⟨y2, y3, y4, rfl, e1⟩
      exact q H' e1
end
end K08

set_option Elab.async false
set_option linter.all false
set_option maxRecDepth 100000
namespace K08
open PySem PySem.Spec PyProof.Rows L2 Evl AE
local macro_rules | `(tactic| walk_at "c") => `(tactic| first | exact ⟨by decide, by decide⟩ | exact .inr ⟨by decide, by decide⟩ | exact .inl ⟨by decide, by decide⟩ | exact ⟨by decide, by decide, by decide⟩ | (show (0 : Int) < _; decide))
local macro_rules | `(tactic| walk_at "s") => `(tactic| first
  | (with_reducible refine r_var rfl ?_) | (with_reducible refine r_c ?_) | (with_reducible refine r_op ?_) | (with_reducible refine r_un ?_) | (with_reducible refine r_I0 ?_) | (with_reducible refine r_U ?_)
  | (with_reducible refine r_eq rfl ?_) | (with_reducible refine r_ne rfl ?_) | (with_reducible refine r_chain ?_) | (with_reducible refine r_test ?_) | (with_reducible refine r_tB ?_)
  | (with_reducible refine r_bl ?_) | (with_reducible refine r_and ?_) | (with_reducible refine r_or ?_) | (with_reducible refine r_not ?_) | (with_reducible refine r_nil ?_) | (with_reducible refine r_cons ?_)
  | (with_reducible refine r_tup ?_) | (with_reducible refine r_lst ?_) | (with_reducible refine r_cb ?_) | (with_reducible refine r_call ?_) | (with_reducible refine r_seq ?_) | (with_reducible refine r_set ?_)
  | (with_reducible refine r_drop ?_) | (with_reducible refine r_ret ?_) | (with_reducible refine r_next ?_) | (with_reducible refine r_if ?_) | (with_reducible refine r_sl ?_) | (with_reducible refine r_nop ?_) | (with_reducible refine r_prt ?_) | (with_reducible refine r_some ?_)
  | (with_reducible refine add_int ?_) | (with_reducible refine int_i ?_) | (with_reducible refine r_forR1 ?_) | (with_reducible refine r_forL ?_) | (with_reducible refine r_andV ?_) | (with_reducible refine r_orV ?_) | (with_reducible refine r_notV ?_) | (with_reducible refine r_ifE ?_) | (with_reducible refine r_lcL ?_) | ((with_reducible refine r_I ?_ ?_); (walk_at "c")))
local macro_rules | `(tactic| walk_at "g") => `(tactic| repeat walk_at "s")
section
variable {P : Program} {w : World} {K : PySem.W.Frag} {mg : Str → Option Value} {base : Heap}
/-! ### the steps in order -/
/-- the names' dict: each name has a step of the row -/
structure Named (H : Hp) (kvs : List (Key × V)) (ss : List StepD) : Prop where
  nd : (kvs.map (·.1)).Nodup
  len : kvs.length ≤ ss.length
  val : ∀ k v, valV kvs k = some v → ∃ s ∈ ss, k = .inr (keyS s) ∧ TupAt H v (stepV s)
  has : ∀ s ∈ ss, Sum.inr (keyS s) ∈ kvs.map (·.1)
theorem Named.nil (H : Hp) : Named H [] [] := ⟨List.nodup_nil, Nat.le_refl _, fun _ _ h => (by cases h), fun _ h => (by cases h)⟩
theorem Named.put {H H' : Hp} {kvs : List (Key × V)} {ss : List StepD} {s : StepD} {v : V} (N : Named H kvs ss) (e : Tx H H') (hv : TupAt H' v (stepV s)) : Named H' (putK kvs (.inr (keyS s)) v) (ss ++ [s]) := by
  refine ⟨nd_put _ _ N.nd, ?_, fun k x h => ?_, fun z hz => ?_⟩
  · rw [List.length_append]
    exact Nat.le_trans (len_put _ _ _) (Nat.succ_le_succ N.len)
  · rw [valV_put] at h
    by_cases hk : k = .inr (keyS s)
    · rw [if_pos hk] at h
      cases h
      exact ⟨s, List.mem_append_right _ (List.mem_singleton.mpr rfl), hk, hv⟩
    · rw [if_neg hk] at h
      obtain ⟨z, hz, ez, tz⟩ := N.val k x h
      exact ⟨z, List.mem_append_left _ hz, ez, tz.tx e⟩
  · rw [keys_put]
    rcases List.mem_append.mp hz with hz | hz
    · split
      · exact N.has z hz
      · exact List.mem_append_left _ (N.has z hz)
    · cases List.mem_singleton.mp hz
      split
      · assumption
      · exact List.mem_append_right _ (List.mem_singleton.mpr rfl)
def unS : V → Str
  | .str y => y
  | _ => Str.empty
/-- what the sorted names lead to -/
theorem rows_of {H : Hp} {kvs : List (Key × V)} {ss : List StepD} {n : Int} (hn : n ≤ 200) (N : Named H kvs ss) (ok : ∀ s ∈ ss, OkS n s) {ys : List Str} (hp : ys.Perm (kvs.map fun kv => unS (kV kv.1))) (hs : sortedS ys = true) :
    ∃ rows : List StepD, rows.Pairwise ltS ∧ (∀ s, s ∈ rows ↔ s ∈ ss) ∧ rows.length ≤ ss.length ∧ ys = rows.map keyS ∧ Tups H (ys.map fun y => (valV kvs (.inr y)).getD .non) (rows.map stepV) := by
  have ks : ∀ k ∈ kvs.map (·.1), ∃ s ∈ ss, k = .inr (keyS s) := fun k hk => by
    obtain ⟨v, hv⟩ := Option.isSome_iff_exists.mp (val_some.mpr hk)
    obtain ⟨s, hs, e, _⟩ := N.val k v hv
    exact ⟨s, hs, e⟩
  have my : ∀ y, y ∈ ys ↔ Sum.inr y ∈ kvs.map (·.1) := fun y => by
    rw [hp.mem_iff, List.mem_map]
    constructor
    · rintro ⟨p, hp, rfl⟩
      obtain ⟨s, _, e⟩ := ks p.1 (List.mem_map.mpr ⟨p, hp, rfl⟩)
      have : Sum.inr (unS (kV p.1)) = p.1 := by rw [e]; rfl
      rw [this]
      exact List.mem_map.mpr ⟨p, hp, rfl⟩
    · intro h
      obtain ⟨p, hp, e⟩ := List.mem_map.mp h
      exact ⟨p, hp, by rw [e]; rfl⟩
  have nd : ys.Nodup := by
    refine (hp.nodup_iff).mpr ?_
    have : (kvs.map fun kv => unS (kV kv.1)) = (kvs.map (·.1)).map fun k => unS (kV k) := by rw [List.map_map]; rfl
    rw [this]
    show List.Pairwise (fun a b => a ≠ b) _
    rw [List.pairwise_map]
    refine List.Pairwise.imp_of_mem (fun {a b} ha hb hne h => hne ?_) N.nd
    obtain ⟨s, _, rfl⟩ := ks a ha
    obtain ⟨s2, _, rfl⟩ := ks b hb
    have h' : keyS s = keyS s2 := h
    rw [h']
  have pw := sorted_pw hs
  have all : ∀ y ∈ ys, ∃ s, s ∈ ss ∧ y = keyS s ∧ TupAt H ((valV kvs (.inr y)).getD .non) (stepV s) := fun y hy => by
    obtain ⟨v, hv⟩ := Option.isSome_iff_exists.mp (val_some.mpr ((my y).mp hy))
    obtain ⟨s, hs, e, tt⟩ := N.val _ v hv
    refine ⟨s, hs, Sum.inr.inj e, ?_⟩
    rw [hv]
    exact tt
  have main : ∀ zs : List Str, zs.Nodup → zs.Pairwise (fun a b => ¬ b.cps.toList < a.cps.toList) → (∀ y ∈ zs, ∃ s, s ∈ ss ∧ y = keyS s ∧ TupAt H ((valV kvs (.inr y)).getD .non) (stepV s)) →
      ∃ rows : List StepD, rows.Pairwise ltS ∧ (∀ s ∈ rows, s ∈ ss ∧ keyS s ∈ zs) ∧ zs = rows.map keyS ∧ Tups H (zs.map fun y => (valV kvs (.inr y)).getD .non) (rows.map stepV) := by
    intro zs
    induction zs with
    | nil => exact fun _ _ _ => ⟨[], .nil, fun _ h => (by cases h), rfl, .nil⟩
    | cons y zs ih =>
      intro nd pw al
      obtain ⟨rows, r1, r2, r3, r4⟩ := ih (List.nodup_cons.mp nd).2 (List.pairwise_cons.mp pw).2 fun z hz => al z (List.mem_cons_of_mem _ hz)
      obtain ⟨s, hs, rfl, tt⟩ := al _ (List.mem_cons_self ..)
      refine ⟨s :: rows, ?_, fun z hz => ?_, by rw [List.map_cons, r3], .cons tt r4⟩
      · rw [List.pairwise_cons]
        refine ⟨fun z hz => ?_, r1⟩
        obtain ⟨z1, z2⟩ := r2 z hz
        rcases ltS_tri s z with h | h | h
        · exact h
        · subst h
          exact absurd z2 (List.nodup_cons.mp nd).1
        · exact absurd (key_lt hn (ok z z1) (ok s hs) h) ((List.pairwise_cons.mp pw).1 _ z2)
      · rcases List.mem_cons.mp hz with rfl | hz
        · exact ⟨hs, List.mem_cons_self ..⟩
        · exact ⟨(r2 z hz).1, List.mem_cons_of_mem _ (r2 z hz).2⟩
  obtain ⟨rows, r1, r2, r3, r4⟩ := main ys nd pw all
  refine ⟨rows, r1, fun s => ⟨fun h => (r2 s h).1, fun h => ?_⟩, ?_, r3, r4⟩
  · have : keyS s ∈ ys := (my _).mpr (N.has s h)
    rw [r3] at this
    obtain ⟨z, hz, e⟩ := List.mem_map.mp this
    have := key_inj hn (ok z (r2 z hz).1) (ok s h) e
    rw [← this]
    exact hz
  · have e1 : rows.length = ys.length := by rw [r3, List.length_map]
    rw [e1, hp.length_eq, List.length_map]
    exact N.len
def sp_asc (K : PySem.W.Frag) : Sp := fun vs H Q _ => ∃ (n : Int) (a : Addr) (us : List V) (ss : List StepD), vs = [.ref a] ∧ SqA K H a us ∧ Tups H us (ss.map stepV) ∧ n ≤ 200 ∧ (∀ s ∈ ss, OkS n s) ∧ ss.length ≤ 1000 ∧
  ∀ (rows : List StepD) (ws : List V) (p : Addr) H', rows.Pairwise ltS → (∀ s, s ∈ rows ↔ s ∈ ss) → rows.length ≤ ss.length → H p = none → Ex H H' → H' p = some (.tup ws) → Tups H' ws (rows.map stepV) → Q (.ref p) H'
theorem ok_asc (T : Tp K mg) : FnOk P w K mg base CX0 1 T.a_ascending T.d_ascending ["steps"] (sp_asc K) := by
  refine T.f_ascending.ok sc_ascending (fun vs H Q E h => ?_) (fun cdv A outer s H vs Q E hr h => ?_)
  · obtain ⟨n, a, us, ss, rfl, _⟩ := h
    rfl
  · obtain ⟨n, a, us, ss, rfl, hS, hT, hn, hok, hl, q⟩ := h
    have hu := hu_of hr
    refine ⟨_, (pss_cons (ps_set (i := 1) sc_ascending.nd rfl (.inr rfl) (pe_dc (own := [("state", 2), ("ask", 3), ("end", 4)]) (g := gTup K 3 (gCons (gName 2) (gCons (gName 3) (gCons (gName 4) gNil)))) (tt := tYes) rfl sc_ascending.nd (pi_seq (pv 0)) (blkOk_by (N := N_ascending) (sc := defScope s_ascending) (by decide +kernel)) (fun _ _ _ _ _ => (pg_tup (by rfl) (pgs_cons (pg_name (i := 2) sc_ascending.nd rfl (.inl rfl)) (pgs_cons (pg_name (i := 3) sc_ascending.nd rfl (.inl rfl)) (pgs_cons (pg_name (i := 4) sc_ascending.nd rfl (.inl rfl)) pgs_nil))))) (fun _ _ _ _ _ => pts_nil) (fun _ _ _ _ _ => (pe_joined (PJ.cons (pe_fmtS_03d (pv 2)) (PJ.cons (pe_fmtS_l8 (pv 3)) (PJ.cons (pe_fmtS_03d (pv 4)) PJ.nil))))) (fun _ _ _ _ _ => (pe_tup (pa_cons (pv 2) (pa_cons (pv 3) (pa_cons (pv 4) pa_nil)))))))
  (pss_one (ps_ret (pe_callTy c_tuple (by rfl) T.n_tuple (by rfl) (pa_cons (pe_lc (own := [("name", 5)]) (g := gName 5) (tt := tYes) rfl sc_ascending.nd (pi_list (pe_callB c_sorted (by rfl) T.n_sorted (by rfl) (pa_cons (pe_lock (pe_lc (own := [("name", 5)]) (g := gName 5) (tt := tYes) rfl sc_ascending.nd (pi_keys (pv 1)) (blkOk_by (N := N_ascending) (sc := defScope s_ascending) (by decide +kernel)) (fun _ _ _ _ _ => (pg_name (i := 5) sc_ascending.nd rfl (.inl rfl))) (fun _ _ _ _ _ => pts_nil) (fun _ _ _ _ _ => (pe_callTy c_str (by rfl) T.n_str (by rfl) (pa_cons (pv 5) pa_nil))))) pa_nil))) (blkOk_by (N := N_ascending) (sc := defScope s_ascending) (by decide +kernel)) (fun _ _ _ _ _ => (pg_name (i := 5) sc_ascending.nd rfl (.inl rfl))) (fun _ _ _ _ _ => pts_nil) (fun _ _ _ _ _ => (pe_dget hu (pv 1) (pv 5) (fun _ _ => rfl)))) pa_nil))))), ?_⟩
    walk_at "g"
    have p3l : ∀ i, (p3 i).length = 3 := fun _ => rfl
    have sl : (sizeLine : Nat) = 16777216 := sizeLine_eq
    refine dc_seq rfl hS (fun D j H' => Ex H H' ∧ H D = none ∧ ∃ kvs, H' D = some (.dK kvs) ∧ Named H' kvs (ss.take j)) (fun D hD => ⟨Ex.new hD, hD, [], upd_same, Named.nil _⟩) (fun D j H' p => p.1) ?_ ?_
    · rintro D j x H' hx ⟨e1, hD, kvs, hk, N⟩
      obtain ⟨z, hz, b, rfl, hb⟩ := hT.get hx
      rw [List.getElem?_map] at hz
      obtain ⟨st, hst, rfl⟩ := Option.map_eq_some_iff.mp hz
      have o := hok st (List.mem_of_getElem? hst)
      have os1 := o.s1; have oe1 := o.e1; have oa1 := o.a1
      have pl : (pad8 st.2.1).length ≤ 8 := by
        show (st.2.1.cps ++ Array.replicate (8 - st.2.1.length) 32).size ≤ 8
        rw [Array.size_append, Array.size_replicate]
        have : st.2.1.cps.size = st.2.1.length := rfl
        omega
      refine ⟨b, stepV st, rfl, .inl (.inl (e1 _ _ hb)), rfl, _, _, rfl, _, _, rfl, _, _, rfl, rfl, rfl, ?_⟩
      refine yes_q (ite_t rfl ?_)
      refine ⟨_, rfl, _, rfl, o.s0, by omega, _, rfl, ?_, _, rfl, _, rfl, oa1, _, rfl, ?_, _, rfl, _, rfl, o.e0, by omega, _, rfl, ?_, ?_⟩
      · rw [Str.length_append]
        show 0 + 3 ≤ sizeLine
        omega
      · rw [Str.length_append, Str.length_append]
        show 0 + 3 + (pad8 st.2.1).length ≤ sizeLine
        omega
      · rw [Str.length_append, Str.length_append, Str.length_append]
        show 0 + 3 + (pad8 st.2.1).length + 3 ≤ sizeLine
        omega
      · refine js_nil ?_
        walk_at "g"
        refine ⟨by show 3 ≤ sizeLine; omega, fun p hp => ?_⟩
        have hpD : D ≠ p := ne_of_none hk hp
        have hk2 : (upd H' p (.tup (stepV st))) D = some (.dK kvs) := by rw [upd_ne hpD]; exact hk
        have tv : TupAt (upd (upd H' p (.tup (stepV st))) D (.dK (putK kvs (.inr (keyS st)) (.ref p)))) (.ref p) (stepV st) := ⟨p, rfl, by rw [upd_ne hpD.symm, upd_same]⟩
        refine ⟨kvs, .inr (keyS st), rfl, hk2, ?_, ex_upd (e1.trans (Ex.new hp)) hD, hD, _, upd_same, ?_⟩
        · have := N.len
          rw [List.length_take] at this
          omega
        · have tk : ss.take (j + 1) = ss.take j ++ [st] := by
            rw [List.take_add_one, hst]
            rfl
          rw [tk]
          exact N.put ((tx_ex (Ex.new hp)).trans (tx_dk hk2)) tv
    · rintro D H' ⟨e1, hD, kvs, hk, N⟩
      have lu : us.length = ss.length := by rw [hT.len, List.length_map]
      rw [lu, List.take_length] at N
      have kl := N.len
      walk_at "g"
      refine lc_k (kvs := kvs) (fun x => x) (fun H1 R k => ⟨_, rfl, k⟩) hk (by omega) (fun _ => rfl) ?_ fun L1 H1 hL1 e2 hl1 => ?_
      · intro x hx H2 R k
        obtain ⟨kv, hkv, rfl⟩ := List.mem_map.mp hx
        obtain ⟨s0, _, e0⟩ : ∃ s ∈ ss, kv.1 = .inr (keyS s) := by
          obtain ⟨v, hv⟩ := Option.isSome_iff_exists.mp (val_some.mpr (List.mem_map.mpr ⟨kv, hkv, rfl⟩))
          obtain ⟨s, hs, e, _⟩ := N.val _ v hv
          exact ⟨s, hs, e⟩
        rw [e0] at k ⊢
        walk_at "g"
        exact ⟨_, rfl, k⟩
      · walk_at "g"
        have kstr : (kvs.map fun kv => kV kv.1).map (fun x => x) = (kvs.map fun kv => unS (kV kv.1)).map V.str := by
          rw [List.map_map, List.map_map]
          refine List.map_congr_left fun kv hkv => ?_
          obtain ⟨v, hv⟩ := Option.isSome_iff_exists.mp (val_some.mpr (List.mem_map.mpr ⟨kv, hkv, rfl⟩))
          obtain ⟨s, hs, e, _⟩ := N.val _ v hv
          show kV kv.1 = V.str (unS (kV kv.1))
          rw [e]
          rfl
        rw [kstr] at hl1
        refine ⟨L1, _, rfl, .inl (.inl hl1), by rw [List.length_map]; omega, fun ys L2 hp hs hL2 => ?_⟩
        obtain ⟨rows, r1, r2, r3, r4, r5⟩ := rows_of hn N hok hp hs
        have e3 := e2.trans (Ex.new (o := .lst (ys.map V.str)) hL2)
        have yl : ys.length = rows.length := by rw [r4, List.length_map]
        refine lcl_go (fun _ => true) (fun x => (valV kvs (.inr (unS x))).getD .non) (.inl (.inl upd_same)) (by rw [List.length_map]; omega) (fun _ => rfl) yes_t ?_ fun L3 H3 hL3 e4 hl3 => ?_
        · intro x hx _ H2 e4 R k
          obtain ⟨y, hy, rfl⟩ := List.mem_map.mp hx
          rw [r4] at hy
          obtain ⟨s, hs, rfl⟩ := List.mem_map.mp hy
          obtain ⟨v, hv⟩ := Option.isSome_iff_exists.mp (val_some.mpr (N.has s ((r2 s).mp hs)))
          have g : DGet H2 D (.str (keyS s)) (some v) := by
            have g := DGet.k (k := Sum.inr (keyS s)) (e4 _ _ (e3 _ _ hk))
            rw [hv] at g
            exact g
          have k2 := k H2 (Ex.refl H2)
          have ev : (valV kvs (.inr (unS (.str (keyS s))))).getD .non = v := by
            show (valV kvs (.inr (keyS s))).getD .non = v
            rw [hv]
            rfl
          rw [ev] at k2
          exact ⟨_, rfl, _, rfl, D, _, rfl, g, k2⟩
        · walk_at "g"
          refine ⟨L3, _, rfl, .inl ⟨.inl (.inl hl3), fun p hp => ?_⟩⟩
          rw [filter_yes, List.map_map]
          refine q rows _ p _ r1 r2 r3 (fresh_back (e1.trans (e3.trans e4)) hp) ((e1.trans (e3.trans e4)).trans (Ex.new hp)) upd_same ?_
          exact r5.tx (tx_ex ((e3.trans e4).trans (Ex.new hp)))
end
end K08

set_option Elab.async false
set_option linter.all false
set_option maxRecDepth 100000
namespace K08
open PySem PySem.Spec PyProof.Rows L2 Evl AE
local macro_rules | `(tactic| walk_at "c") => `(tactic| first | exact ⟨by decide, by decide⟩ | exact .inr ⟨by decide, by decide⟩ | exact .inl ⟨by decide, by decide⟩ | exact ⟨by decide, by decide, by decide⟩ | (show (0 : Int) < _; decide))
local macro_rules | `(tactic| walk_at "s") => `(tactic| first
  | (with_reducible refine r_var rfl ?_) | (with_reducible refine r_c ?_) | (with_reducible refine r_op ?_) | (with_reducible refine r_un ?_) | (with_reducible refine r_I0 ?_) | (with_reducible refine r_U ?_)
  | (with_reducible refine r_eq rfl ?_) | (with_reducible refine r_ne rfl ?_) | (with_reducible refine r_chain ?_) | (with_reducible refine r_test ?_) | (with_reducible refine r_tB ?_)
  | (with_reducible refine r_bl ?_) | (with_reducible refine r_and ?_) | (with_reducible refine r_or ?_) | (with_reducible refine r_not ?_) | (with_reducible refine r_nil ?_) | (with_reducible refine r_cons ?_)
  | (with_reducible refine r_tup ?_) | (with_reducible refine r_lst ?_) | (with_reducible refine r_cb ?_) | (with_reducible refine r_call ?_) | (with_reducible refine r_seq ?_) | (with_reducible refine r_set ?_)
  | (with_reducible refine r_drop ?_) | (with_reducible refine r_ret ?_) | (with_reducible refine r_next ?_) | (with_reducible refine r_if ?_) | (with_reducible refine r_sl ?_) | (with_reducible refine r_nop ?_) | (with_reducible refine r_prt ?_) | (with_reducible refine r_some ?_)
  | (with_reducible refine add_int ?_) | (with_reducible refine int_i ?_) | (with_reducible refine r_forR1 ?_) | (with_reducible refine r_forL ?_) | (with_reducible refine r_andV ?_) | (with_reducible refine r_orV ?_) | (with_reducible refine r_notV ?_) | (with_reducible refine r_ifE ?_) | (with_reducible refine r_lcL ?_) | (with_reducible refine r_fld ?_) | (with_reducible refine r_get ?_) | (with_reducible refine r_din ?_) | (with_reducible refine r_dget2 ?_) | ((with_reducible refine r_I ?_ ?_); (walk_at "c")))
local macro_rules | `(tactic| walk_at "g") => `(tactic| repeat walk_at "s")
section
variable {P : Program} {w : World} {K : PySem.W.Frag} {mg : Str → Option Value} {base : Heap}
def EndsAt (H : Hp) (d : Addr) (rows : List StepD) : Prop := ∃ kvs : List (List Key × V), H d = some (.dT kvs) ∧ GrpT H kvs (endsF rows)
def sp_ends (K : PySem.W.Frag) : Sp := fun vs H Q _ => ∃ (a : Addr) (us : List V) (rows : List StepD), vs = [.ref a] ∧ SqT K H a us ∧ Tups H us (rows.map stepV) ∧ rows.length ≤ 1000 ∧
  ∀ p H', H p = none → Ex H H' → EndsAt H' p rows → Q (.ref p) H'
theorem ok_ends (T : Tp K mg) : FnOk P w K mg base CX0 1 T.a_ends_by_ask T.d_ends_by_ask ["steps"] (sp_ends K) := by
  refine T.f_ends_by_ask.ok sc_ends_by_ask (fun vs H Q E h => ?_) (fun cdv A outer s H vs Q E hr h => ?_)
  · obtain ⟨a, us, rows, rfl, _⟩ := h
    rfl
  · obtain ⟨a, us, rows, rfl, hS, hT, hl, q⟩ := h
    have hu := hu_of hr
    refine ⟨_, (pss_cons (ps_set (i := 1) sc_ends_by_ask.nd rfl (.inr rfl) pe_dnewT)
  (pss_cons (ps_for PassesOwn.never rfl (pi_tup (pv 0)) (pg_tup (by rfl) (pgs_cons (pg_name (i := 2) sc_ends_by_ask.nd rfl (.inl rfl)) (pgs_cons (pg_name (i := 3) sc_ends_by_ask.nd rfl (.inl rfl)) (pgs_cons (pg_name (i := 4) sc_ends_by_ask.nd rfl (.inl rfl)) pgs_nil))))
  (pss_one (ps_expr (pe_bm PySem.F.plainAttrs_list PySem.F.slot_list_append PySem.F.type_list_append mt_append (pe_setdT hu (pv 1) (pe_tup (pa_cons (pv 2) (pa_cons (pv 3) pa_nil))) (pe_lst pa_nil) ⟨rfl, rfl, rfl, rfl⟩) (pa_cons (pv 4) pa_nil)))))
  (pss_one (ps_ret (pe_lock (pe_dcT (own := [("place", 5)]) (g := gName 5) (tt := tYes) (Nat.lt_of_succ_lt hu) rfl sc_ends_by_ask.nd (pi_keys (pv 1)) (blkOk_by (N := N_ends_by_ask) (sc := defScope s_ends_by_ask) (by decide +kernel)) (fun _ _ _ _ _ => (pg_name (i := 5) sc_ends_by_ask.nd rfl (.inl rfl))) (fun _ _ _ _ _ => pts_nil) (fun _ _ _ _ _ => (pv 5)) (fun _ _ _ _ _ => (pe_callTy (c_tupleK (K := K)) (by rfl) T.n_tuple (by rfl) (pa_cons (pe_dget hu (pv 1) (pv 5) (fun _ _ => rfl)) pa_nil))))))))), ?_⟩
    walk_at "g"
    intro d hd
    have e1 : Ex H (upd H d (.dT [])) := Ex.new hd
    have d1 : (upd H d (.dT [])) d = some (.dT []) := upd_same
    generalize (upd H d (.dT [])) = H1 at e1 d1
    walk_at "g"
    refine for_t rfl (ex_t e1 hS) (fun j σ' H' => ∃ y2 y3 y4 kvs, σ' = [some (.ref a), some (.ref d), y2, y3, y4, none] ∧ Ex H H' ∧ H' d = some (.dT kvs) ∧ kvs.length ≤ j ∧ Grp H H' kvs (endsF (rows.take j)))
      ⟨_, _, _, _, rfl, e1, d1, Nat.le_refl _, Grp.nil fun _ => rfl⟩ (fun j σ' H' _ ⟨_, _, _, _, _, e, _⟩ => ex_t e hS) ?_ ?_
    · rintro j x σ' H' hx ⟨y2, y3, y4, kvs, rfl, e2, d2, kl, g⟩
      obtain ⟨z, hz, p, rfl, hp⟩ := hT.get hx
      rw [List.getElem?_map] at hz
      obtain ⟨st, hst, rfl⟩ := Option.map_eq_some_iff.mp hz
      have hj : j < rows.length := (List.getElem?_eq_some_iff.mp hst).1
      have tk : rows.take (j + 1) = rows.take j ++ [st] := by
        rw [List.take_add_one, hst]
        rfl
      refine ⟨p, stepV st, rfl, .inl (.inl (e2 _ _ hp)), rfl, _, _, rfl, _, _, rfl, _, _, rfl, rfl, ?_⟩
      walk_at "g"
      refine ⟨_, rfl, d, rfl, .inr ⟨kvs, .inl d2⟩, ?_⟩
      walk_at "g"
      refine ⟨sz_of (by show 2 ≤ 100000; decide), fun kp hkp => ?_⟩
      walk_at "g"
      refine ⟨sz_of (by show 0 ≤ 100000; decide), fun lp hlp => ?_⟩
      have dk : d ≠ kp := ne_of_none d2 hkp
      have dl : d ≠ lp := ne_of_none (show (upd H' kp _) d = some _ by rw [upd_ne dk]; exact d2) hlp
      have kl' : kp ≠ lp := ne_of_none upd_same hlp
      have hlp' : H' lp = none := by rw [upd_ne kl'.symm] at hlp; exact hlp
      have e3 : Ex H' (upd (upd H' kp (.tup [.int st.1, .str st.2.1])) lp (.lst [])) := (Ex.new hkp).trans (Ex.new hlp)
      refine ⟨kvs, [.inl st.1, .inr st.2.1], kp, e3 _ _ d2, rfl, by rw [upd_ne kl', upd_same]; rfl, sz_lt (by omega), fun v hv => ?_, fun hn => ?_⟩
      · obtain ⟨l, rfl, h2, h3, h4⟩ := g.val _ _ hv
        have ld : l ≠ d := ne_of h2 d2 (by intro z; cases z)
        refine ⟨.inl ⟨rfl, _, .inl (.inl (e3 _ _ h2))⟩, ?_⟩
        walk_at "g"
        refine app_l (e3 _ _ h2) ?_ ?_
        · refine sz_lt ?_
          unfold endsF
          rw [List.length_map]
          have := List.length_filter_le (fun s : StepD => decide ([Sum.inl s.1, Sum.inr s.2.1] = ([.inl st.1, .inr st.2.1] : List Key))) (rows.take j)
          rw [List.length_take] at this
          omega
        · walk_at "g"
          refine ⟨_, _, _, kvs, rfl, ex_upd (e2.trans e3) h3, by rw [upd_ne ld.symm]; exact e3 _ _ d2, by omega, ?_⟩
          have gg := g.more (H' := upd (upd (upd H' kp (.tup [.int st.1, .str st.2.1])) lp (.lst [])) l (.lst (endsF (rows.take j) [.inl st.1, .inr st.2.1] ++ [.int st.2.2]))) hv (fun b xs hb h => by rw [upd_ne hb]; exact e3 _ _ h) upd_same
          have ee : endsF (rows.take (j + 1)) = fun k' => if k' = [.inl st.1, .inr st.2.1] then endsF (rows.take j) [.inl st.1, .inr st.2.1] ++ [.int st.2.2] else endsF (rows.take j) k' := by
            funext k'
            rw [tk, endsF_snoc]
          rw [ee]
          exact gg
      · have hl4 : (upd (upd (upd H' kp (.tup [.int st.1, .str st.2.1])) lp (.lst [])) d (.dT (putK kvs [.inl st.1, .inr st.2.1] (.ref lp)))) lp = some (.lst []) := by rw [upd_ne dl.symm, upd_same]
        refine ⟨.inl ⟨rfl, _, .inl (.inl hl4)⟩, ?_⟩
        walk_at "g"
        refine app_l hl4 (sz_lt (by decide)) ?_
        walk_at "g"
        have hlp0 : H lp = none := fresh_back e2 hlp'
        refine ⟨_, _, _, _, rfl, ex_upd (ex_upd (e2.trans e3) hd) hlp0, by rw [upd_ne dl, upd_same], Nat.le_trans (len_put _ _ _) (by omega), ?_⟩
        have ee : endsF (rows.take (j + 1)) = fun k' => if k' = [.inl st.1, .inr st.2.1] then endsF (rows.take j) [.inl st.1, .inr st.2.1] ++ [.int st.2.2] else endsF (rows.take j) k' := by
          funext k'
          rw [tk, endsF_snoc]
        rw [ee]
        refine g.new hn hlp' hlp0 (fun b xs hb h => ?_) upd_same
        rw [upd_ne hb, upd_ne (ne_of h d2 (by intro z; cases z))]
        exact e3 _ _ h
    · rintro σ' H' ⟨y2, y3, y4, kvs, rfl, e2, d2, kl, g⟩
      have lu : us.length = rows.length := by rw [hT.len, List.length_map]
      rw [lu, List.take_length] at g
      rw [lu] at kl
      walk_at "g"
      refine grp_tupT rfl (fun _ => rfl) (fun _ => rfl) (fun _ => rfl) d2 g (by omega) fun p H2 hp e3 k2 => ?_
      exact q p H2 (fresh_back e2 hp) (e2.trans e3) k2
/-- at each state: tuples of its pairs -/
def pairsF (rows : List StepD) (k : Key) : List StepD := rows.filter fun s => decide (Sum.inl s.1 = k)
def PairsAt (H : Hp) (d : Addr) (rows : List StepD) : Prop := ∃ (kvs : List (Key × V)) (G : Key → List V), H d = some (.dK kvs) ∧ GrpT H kvs G ∧ ∀ k, Tups H (G k) ((pairsF rows k).map pairD)
theorem pairsF_snoc (rows : List StepD) (s : StepD) (k : Key) : pairsF (rows ++ [s]) k = if k = .inl s.1 then pairsF rows (.inl s.1) ++ [s] else pairsF rows k := by
  unfold pairsF
  rw [List.filter_append]
  by_cases h : k = .inl s.1
  · rw [if_pos h, h, List.filter_cons, if_pos (decide_eq_true rfl)]
    rfl
  · rw [if_neg h, List.filter_cons, if_neg (by rw [decide_eq_false (fun q => h q.symm)]; decide)]
    simp
def sp_pairs (K : PySem.W.Frag) : Sp := fun vs H Q _ => ∃ (a : Addr) (us : List V) (rows : List StepD), vs = [.ref a] ∧ SqT K H a us ∧ Tups H us (rows.map stepV) ∧ rows.length ≤ 1000 ∧
  ∀ p H', H p = none → Ex H H' → PairsAt H' p rows → Q (.ref p) H'
theorem ok_pairs (T : Tp K mg) : FnOk P w K mg base CX0 1 T.a_pairs_by_state T.d_pairs_by_state ["steps"] (sp_pairs K) := by
  refine T.f_pairs_by_state.ok sc_pairs_by_state (fun vs H Q E h => ?_) (fun cdv A outer s H vs Q E hr h => ?_)
  · obtain ⟨a, us, rows, rfl, _⟩ := h
    rfl
  · obtain ⟨a, us, rows, rfl, hS, hT, hl, q⟩ := h
    have hu := hu_of hr
    refine ⟨_, (pss_cons (ps_set (i := 1) sc_pairs_by_state.nd rfl (.inr rfl) pe_dnewK)
  (pss_cons (ps_for PassesOwn.never rfl (pi_tup (pv 0)) (pg_tup (by rfl) (pgs_cons (pg_name (i := 2) sc_pairs_by_state.nd rfl (.inl rfl)) (pgs_cons (pg_name (i := 3) sc_pairs_by_state.nd rfl (.inl rfl)) (pgs_cons (pg_name (i := 4) sc_pairs_by_state.nd rfl (.inl rfl)) pgs_nil))))
  (pss_one (ps_expr (pe_bm PySem.F.plainAttrs_list PySem.F.slot_list_append PySem.F.type_list_append mt_append (pe_dsetd (pv 1) (pv 2) (pe_lst pa_nil) ⟨rfl, rfl, rfl, rfl⟩) (pa_cons (pe_tup (pa_cons (pv 3) (pa_cons (pv 4) pa_nil))) pa_nil)))))
  (pss_one (ps_ret (pe_lock (pe_dc (own := [("state", 2)]) (g := gName 2) (tt := tYes) rfl sc_pairs_by_state.nd (pi_keys (pv 1)) (blkOk_by (N := N_pairs_by_state) (sc := defScope s_pairs_by_state) (by decide +kernel)) (fun _ _ _ _ _ => (pg_name (i := 2) sc_pairs_by_state.nd rfl (.inl rfl))) (fun _ _ _ _ _ => pts_nil) (fun _ _ _ _ _ => (pv 2)) (fun _ _ _ _ _ => (pe_callTy (c_tupleK (K := K)) (by rfl) T.n_tuple (by rfl) (pa_cons (pe_dget hu (pv 1) (pv 2) (fun _ _ => rfl)) pa_nil))))))))), ?_⟩
    walk_at "g"
    intro d hd
    have e1 : Ex H (upd H d (.dK [])) := Ex.new hd
    have d1 : (upd H d (.dK [])) d = some (.dK []) := upd_same
    generalize (upd H d (.dK [])) = H1 at e1 d1
    walk_at "g"
    refine for_t rfl (ex_t e1 hS) (fun j σ' H' => ∃ y2 y3 y4 kvs G, σ' = [some (.ref a), some (.ref d), y2, y3, y4] ∧ Ex H H' ∧ H' d = some (.dK kvs) ∧ kvs.length ≤ j ∧ Grp H H' kvs G ∧ ∀ k, Tups H' (G k) ((pairsF (rows.take j) k).map pairD))
      ⟨_, _, _, _, fun _ => [], rfl, e1, d1, Nat.le_refl _, Grp.nil fun _ => rfl, fun _ => .nil⟩ (fun j σ' H' _ ⟨_, _, _, _, _, _, e, _⟩ => ex_t e hS) ?_ ?_
    · rintro j x σ' H' hx ⟨y2, y3, y4, kvs, G, rfl, e2, d2, kl, g, tps⟩
      obtain ⟨z, hz, p, rfl, hp⟩ := hT.get hx
      rw [List.getElem?_map] at hz
      obtain ⟨st, hst, rfl⟩ := Option.map_eq_some_iff.mp hz
      have hj : j < rows.length := (List.getElem?_eq_some_iff.mp hst).1
      have tk : rows.take (j + 1) = rows.take j ++ [st] := by
        rw [List.take_add_one, hst]
        rfl
      have glen : ∀ k, (G k).length ≤ 1000 := fun k => by
        rw [(tps k).len, List.length_map]
        unfold pairsF
        have := List.length_filter_le (fun s : StepD => decide (Sum.inl s.1 = k)) (rows.take j)
        rw [List.length_take] at this
        omega
      refine ⟨p, stepV st, rfl, .inl (.inl (e2 _ _ hp)), rfl, _, _, rfl, _, _, rfl, _, _, rfl, rfl, ?_⟩
      walk_at "g"
      refine ⟨_, rfl, d, rfl, .inl ⟨kvs, .inl d2⟩, ?_⟩
      walk_at "g"
      refine ⟨sz_of (by show 0 ≤ 100000; decide), fun lp hlp => ?_⟩
      have dl : d ≠ lp := ne_of_none d2 hlp
      have e3 : Ex H' (upd H' lp (.lst [])) := Ex.new hlp
      have new : ∀ {H5 : Hp} {G' : List V} {tp : Addr}, Tx H' H5 → H5 tp = some (.tup (pairD st)) → G' = G (.inl st.1) → ∀ k', Tups H5 (if k' = .inl st.1 then G' ++ [.ref tp] else G k') ((pairsF (rows.take (j + 1)) k').map pairD) := fun {H5 G' tp} t5 h5 eg k' => by
        rw [tk, pairsF_snoc]
        by_cases zz : k' = .inl st.1
        · rw [if_pos zz, if_pos zz, List.map_append, eg]
          exact ((tps _).tx t5).snoc ⟨tp, rfl, h5⟩
        · rw [if_neg zz, if_neg zz]
          exact (tps k').tx t5
      refine ⟨kvs, .inl st.1, e3 _ _ d2, rfl, sz_lt (by omega), fun v hv => ?_, fun hn => ?_⟩
      · obtain ⟨l, rfl, h2, h3, h4⟩ := g.val _ _ hv
        have ld : l ≠ d := ne_of h2 d2 (by intro z; cases z)
        refine ⟨.inl ⟨rfl, _, .inl (.inl (e3 _ _ h2))⟩, ?_⟩
        walk_at "g"
        refine ⟨sz_of (by show 2 ≤ 100000; decide), fun tp htp => ?_⟩
        have e4 : Ex H' (upd (upd H' lp (.lst [])) tp (.tup (pairD st))) := e3.trans (Ex.new htp)
        have ltp : l ≠ tp := ne_of_none (e3 _ _ h2) htp
        walk_at "g"
        refine app_l (e4 _ _ h2) (sz_lt (by have := glen (.inl st.1); omega)) ?_
        walk_at "g"
        refine ⟨_, _, _, kvs, _, rfl, ex_upd (e2.trans e4) h3, by rw [upd_ne ld.symm]; exact e4 _ _ d2, by omega, g.more (x := .ref tp) hv (fun b xs hb h => by rw [upd_ne hb]; exact e4 _ _ h) upd_same, ?_⟩
        exact new ((tx_ex e4).trans (tx_lst (e4 _ _ h2))) (by rw [upd_ne ltp.symm, upd_same]; rfl) rfl
      · have hl4 : (upd (upd H' lp (.lst [])) d (.dK (putK kvs (.inl st.1) (.ref lp)))) lp = some (.lst []) := by rw [upd_ne dl.symm, upd_same]
        have hd4 : (upd (upd H' lp (.lst [])) d (.dK (putK kvs (.inl st.1) (.ref lp)))) d = some (.dK (putK kvs (.inl st.1) (.ref lp))) := upd_same
        refine ⟨.inl ⟨rfl, _, .inl (.inl hl4)⟩, ?_⟩
        walk_at "g"
        refine ⟨sz_of (by show 2 ≤ 100000; decide), fun tp htp => ?_⟩
        have hlp0 : H lp = none := fresh_back e2 hlp
        have ltp : lp ≠ tp := ne_of_none hl4 htp
        have dtp : d ≠ tp := ne_of_none hd4 htp
        walk_at "g"
        refine app_l (Ex.new htp _ _ hl4) (sz_lt (by decide)) ?_
        walk_at "g"
        have gk : G (.inl st.1) = [] := by
          by_cases zz : G (.inl st.1) = []
          · exact zz
          · have := g.has _ zz
            rw [hn] at this
            cases this
        refine ⟨_, _, _, _, _, rfl, ex_upd ((ex_upd (e2.trans e3) hd).trans (Ex.new htp)) hlp0, by rw [upd_ne dl]; exact Ex.new htp _ _ hd4, Nat.le_trans (len_put _ _ _) (by omega), g.new (x := .ref tp) hn hlp hlp0 (fun b xs hb h => ?_) upd_same, ?_⟩
        · rw [upd_ne hb]
          refine Ex.new htp _ _ ?_
          rw [upd_ne (ne_of h d2 (by intro z; cases z))]
          exact e3 _ _ h
        · exact new (((tx_ex e3).trans (tx_dk (e3 _ _ d2))).trans ((tx_ex (Ex.new htp)).trans (tx_lst (Ex.new htp _ _ hl4)))) (by rw [upd_ne ltp.symm, upd_same]; rfl) rfl
    · rintro σ' H' ⟨y2, y3, y4, kvs, G, rfl, e2, d2, kl, g, tps⟩
      have lu : us.length = rows.length := by rw [hT.len, List.length_map]
      rw [lu, List.take_length] at tps
      rw [lu] at kl
      walk_at "g"
      refine grp_tupK trivial rfl (fun _ => rfl) (fun _ => rfl) (fun _ => rfl) d2 g (by omega) fun p H2 hp e3 ⟨k2, h2, h3⟩ => ?_
      exact q p H2 (fresh_back e2 hp) (e2.trans e3) ⟨k2, G, h2, h3, fun k => (tps k).tx (tx_ex e3)⟩
end
end K08

set_option Elab.async false
set_option linter.all false
set_option maxRecDepth 100000
namespace K08
open PySem PySem.Spec PyProof.Rows L2 Evl AE
local macro_rules | `(tactic| walk_at "c") => `(tactic| first | exact ⟨by decide, by decide⟩ | exact .inr ⟨by decide, by decide⟩ | exact .inl ⟨by decide, by decide⟩ | exact ⟨by decide, by decide, by decide⟩ | (show (0 : Int) < _; decide))
local macro_rules | `(tactic| walk_at "s") => `(tactic| first
  | (with_reducible refine r_var rfl ?_) | (with_reducible refine r_c ?_) | (with_reducible refine r_op ?_) | (with_reducible refine r_un ?_) | (with_reducible refine r_I0 ?_) | (with_reducible refine r_U ?_)
  | (with_reducible refine r_eq rfl ?_) | (with_reducible refine r_ne rfl ?_) | (with_reducible refine r_chain ?_) | (with_reducible refine r_test ?_) | (with_reducible refine r_tB ?_)
  | (with_reducible refine r_bl ?_) | (with_reducible refine r_and ?_) | (with_reducible refine r_or ?_) | (with_reducible refine r_not ?_) | (with_reducible refine r_nil ?_) | (with_reducible refine r_cons ?_)
  | (with_reducible refine r_tup ?_) | (with_reducible refine r_lst ?_) | (with_reducible refine r_cb ?_) | (with_reducible refine r_call ?_) | (with_reducible refine r_seq ?_) | (with_reducible refine r_set ?_)
  | (with_reducible refine r_drop ?_) | (with_reducible refine r_ret ?_) | (with_reducible refine r_next ?_) | (with_reducible refine r_if ?_) | (with_reducible refine r_sl ?_) | (with_reducible refine r_nop ?_) | (with_reducible refine r_prt ?_) | (with_reducible refine r_some ?_)
  | (with_reducible refine add_int ?_) | (with_reducible refine int_i ?_) | (with_reducible refine r_forR1 ?_) | (with_reducible refine r_forL ?_) | (with_reducible refine r_andV ?_) | (with_reducible refine r_orV ?_) | (with_reducible refine r_notV ?_) | (with_reducible refine r_ifE ?_) | (with_reducible refine r_lcL ?_) | (with_reducible refine r_fld ?_) | (with_reducible refine r_get ?_) | (with_reducible refine r_din ?_) | (with_reducible refine r_dget2 ?_) | ((with_reducible refine r_I ?_ ?_); (walk_at "c")))
local macro_rules | `(tactic| walk_at "g") => `(tactic| repeat walk_at "s")
section
variable {P : Program} {w : World} {K : PySem.W.Frag} {mg : Str → Option Value} {base : Heap}
theorem Ch.trans {x : Addr} {H H1 H2 : Hp} (a : Ch x H H1) (b : Ch x H1 H2) : Ch x H H2 := fun c o n h => b c o n (a c o n h)
theorem ch_ex {x : Addr} {H H1 : Hp} (e : Ex H H1) : Ch x H H1 := fun c o _ h => e c o h
theorem tx_ins {H H' : Hp} {x C dx : Addr} {fs : List (Str × V)} (hx : H x = some (.ins C dx fs)) (c : Ch x H H') : Tx H H' := fun a xs h => c a _ (fun z => by subst z; rw [hx] at h; cases h) h
structure Mach where
  size : Int
  marks : List Int
  rows : List StepD
  now : Int
def marksF (n : Int) (ms : List Int) : List Int := ((List.range n.toNat).map fun (k : Nat) => (k : Int)).filter fun k => decide (k ∈ ms)
def MachAt (H : Hp) (x C : Addr) (m : Mach) : Prop := ∃ (dx pm ps de dp : Addr) (us : List V), H x = some (.ins C dx [("size", .int m.size), ("marks", .ref pm), ("steps", .ref ps), ("now", .int m.now), ("_ends", .ref de), ("_pairs", .ref dp)]) ∧
    H pm = some (.tup (m.marks.map V.int)) ∧ H ps = some (.tup us) ∧ Tups H us (m.rows.map stepV) ∧ EndsAt H de m.rows ∧ PairsAt H dp m.rows
theorem EndsAt.ch {H H' : Hp} {x C dx d : Addr} {fs : List (Str × V)} {rows : List StepD} (hx : H x = some (.ins C dx fs)) (c : Ch x H H') (h : EndsAt H d rows) : EndsAt H' d rows := by
  obtain ⟨kvs, h1, h2⟩ := h
  exact ⟨kvs, c _ _ (ne_of h1 hx (by intro z; cases z)) h1, h2.tx (tx_ins hx c)⟩
theorem PairsAt.ch {H H' : Hp} {x C dx d : Addr} {fs : List (Str × V)} {rows : List StepD} (hx : H x = some (.ins C dx fs)) (c : Ch x H H') (h : PairsAt H d rows) : PairsAt H' d rows := by
  obtain ⟨kvs, G, h1, h2, h3⟩ := h
  exact ⟨kvs, G, c _ _ (ne_of h1 hx (by intro z; cases z)) h1, h2.tx (tx_ins hx c), fun k => (h3 k).tx (tx_ins hx c)⟩
theorem EndsAt.ex {H H' : Hp} {d : Addr} {rows : List StepD} (e : Ex H H') (h : EndsAt H d rows) : EndsAt H' d rows := by
  obtain ⟨kvs, h1, h2⟩ := h
  exact ⟨kvs, e _ _ h1, h2.tx (tx_ex e)⟩
theorem PairsAt.ex {H H' : Hp} {d : Addr} {rows : List StepD} (e : Ex H H') (h : PairsAt H d rows) : PairsAt H' d rows := by
  obtain ⟨kvs, G, h1, h2, h3⟩ := h
  exact ⟨kvs, G, e _ _ h1, h2.tx (tx_ex e), fun k => (h3 k).tx (tx_ex e)⟩
theorem MachAt.ex {H H' : Hp} {x C : Addr} {m : Mach} (e : Ex H H') (h : MachAt H x C m) : MachAt H' x C m := by
  obtain ⟨dx, pm, ps, de, dp, us, h1, h2, h3, h4, h5, h6⟩ := h
  exact ⟨dx, pm, ps, de, dp, us, e _ _ h1, e _ _ h2, e _ _ h3, h4.tx (tx_ex e), h5.ex e, h6.ex e⟩
/-- a machine as it is made from its parts -/
structure Made (n : Int) (ms : List Int) (ss : List StepD) (now : Int) (m : Mach) : Prop where
  size : m.size = n
  marks : m.marks = marksF n ms
  up : m.rows.Pairwise ltS
  mem : ∀ s, s ∈ m.rows ↔ s ∈ ss
  len : m.rows.length ≤ ss.length
  now : m.now = now
def sp_init (K : PySem.W.Frag) : Sp := fun vs H Q _ => ∃ (x C dx am as : Addr) (n now : Int) (ms : List Int) (us : List V) (ss : List StepD), vs = [.ref x, .int n, .ref am, .ref as, .int now] ∧ H x = some (.ins C dx []) ∧ MCls K C ∧ 1 ≤ n ∧ n ≤ 200 ∧
  SqA K H am (ms.map V.int) ∧ (∀ m ∈ ms, 0 ≤ m ∧ m < n) ∧ ms.length ≤ 1000 ∧ SqA K H as us ∧ Tups H us (ss.map stepV) ∧ (∀ s ∈ ss, OkS n s) ∧ ss.length ≤ 600 ∧ 0 ≤ now ∧ now < n ∧
  ∀ m H', Made n ms ss now m → MachAt H' x C m → Ch x H H' → Q .non H'
theorem ok_init (T : Tp K mg) : FnOk P w K mg base CX0 3 T.a_Machine___init__ T.d_Machine___init__ ["self", "size", "marks", "steps", "now"] (sp_init K) := by
  have G_check_size : FnOk P w K mg base CX0 1 T.a_check_size T.d_check_size ["size"] sp_size := ok_size T
  have G_check_marks : FnOk P w K mg base CX0 1 T.a_check_marks T.d_check_marks ["size", "marks"] (sp_marks K) := ok_marks T
  have G_check_steps : FnOk P w K mg base CX0 2 T.a_check_steps T.d_check_steps ["size", "steps"] (sp_steps K) := ok_steps T
  have G_ascending : FnOk P w K mg base CX0 1 T.a_ascending T.d_ascending ["steps"] (sp_asc K) := ok_asc T
  have G_ends_by_ask : FnOk P w K mg base CX0 1 T.a_ends_by_ask T.d_ends_by_ask ["steps"] (sp_ends K) := ok_ends T
  have G_pairs_by_state : FnOk P w K mg base CX0 1 T.a_pairs_by_state T.d_pairs_by_state ["steps"] (sp_pairs K) := ok_pairs T
  refine T.f_Machine___init__.ok sc_Machine___init__ (fun vs H Q E h => ?_) (fun cdv A outer s H vs Q E hr h => ?_)
  · obtain ⟨x, C, dx, am, as, n, now, ms, us, ss, rfl, _⟩ := h
    rfl
  · obtain ⟨x, C, dx, am, as, n, now, ms, us, ss, rfl, hx, mc, n1, n2, hM, hMok, hMl, hS, hT, hok, hSl, w0, w1, q⟩ := h
    have hu := hu_of hr
    refine ⟨_, (pss_cons (ps_expr (pe_call G_check_size (hr.mono (by decide)) (by rfl) T.g_check_size T.f_check_size.kp T.b_check_size .nil pass0 (pa_cons (pv 1) pa_nil)))
  (pss_cons (ps_expr (pe_call G_check_marks (hr.mono (by decide)) (by rfl) T.g_check_marks T.f_check_marks.kp T.b_check_marks .nil pass0 (pa_cons (pv 1) (pa_cons (pv 2) pa_nil))))
  (pss_cons (ps_expr (pe_call G_check_steps (hr.mono (by decide)) (by rfl) T.g_check_steps T.f_check_steps.kp T.b_check_steps .nil pass0 (pa_cons (pv 1) (pa_cons (pv 3) pa_nil))))
  (pss_cons (ps_set (i := 5) sc_Machine___init__.nd rfl (.inl rfl) (pe_call G_ascending (hr.mono (by decide)) (by rfl) T.g_ascending T.f_ascending.kp T.b_ascending .nil pass0 (pa_cons (pv 3) pa_nil)))
  (pss_cons (ps_if (pt_cmpR op_gt (pe_callB c_len (by rfl) T.n_len (by rfl) (pa_cons (pv 5) pa_nil)) (pe_gi rfl T.k_MOST_STEPS) (nomark _)) (pss_one ps_never) pss_nil)
  (pss_cons (ps_if (pt_not (pt_chain op_le op_lt pe_int (pv 4) (pv 1))) (pss_one ps_never) pss_nil)
  (pss_cons (ps_set (i := 6) sc_Machine___init__.nd rfl (.inr rfl) (pe_dc (own := [("mark", 7)]) (g := gName 7) (tt := tYes) rfl sc_Machine___init__.nd (pi_seq (pv 2)) (blkOk_by (N := N_Machine___init__) (sc := defScope s_Machine___init__) (by decide +kernel)) (fun _ _ _ _ _ => (pg_name (i := 7) sc_Machine___init__.nd rfl (.inl rfl))) (fun _ _ _ _ _ => pts_nil) (fun _ _ _ _ _ => (pv 7)) (fun _ _ _ _ _ => pe_bl)))
  (pss_cons (ps_fld (pv 0) (pv 1) rfl)
  (pss_cons (ps_fld (pv 0) (pe_callTy c_tuple (by rfl) T.n_tuple (by rfl) (pa_cons (pe_lc (own := [("state", 8)]) (g := gName 8) rfl sc_Machine___init__.nd (pi_range1 rfl T.n_range (pa_cons (pv 1) pa_nil)) (blkOk_by (N := N_Machine___init__) (sc := defScope s_Machine___init__) (by decide +kernel)) (fun _ _ _ _ _ => (pg_name (i := 8) sc_Machine___init__.nd rfl (.inl rfl))) (fun _ _ _ _ _ => (pts_one (pt_cmp (pc_din hu (pv 8) (pv 6))))) (fun _ _ _ _ _ => (pv 8))) pa_nil)) rfl)
  (pss_cons (ps_fld (pv 0) (pv 5) rfl)
  (pss_cons (ps_fld (pv 0) (pv 4) rfl)
  (pss_cons (ps_fld (pv 0) (pe_call G_ends_by_ask (hr.mono (by decide)) (by rfl) T.g_ends_by_ask T.f_ends_by_ask.kp T.b_ends_by_ask .nil pass0 (pa_cons (pv 5) pa_nil)) rfl)
  (pss_one (ps_fld (pv 0) (pe_call G_pairs_by_state (hr.mono (by decide)) (by rfl) T.g_pairs_by_state T.f_pairs_by_state.kp T.b_pairs_by_state .nil pass0 (pa_cons (pv 5) pa_nil)) rfl)))))))))))))), ?_⟩
    walk_at "g"
    refine ⟨n, rfl, n1, n2, ?_⟩
    walk_at "g"
    refine ⟨n, am, ms, rfl, hM, hMok, ?_⟩
    walk_at "g"
    refine ⟨n, as, us, ss, rfl, hS, hT, hok, fun H1 e1 => ?_⟩
    walk_at "g"
    refine ⟨n, as, us, ss, rfl, hS.ex e1, hT.tx (tx_ex e1), n2, hok, by omega, fun rows ws pr H2 r1 r2 r3 hpr e2 hr2 tr => ?_⟩
    walk_at "g"
    have wl : ws.length = rows.length := by rw [tr.len, List.length_map]
    have e12 := e1.trans e2
    refine len_t (.inl (.inl hr2)) ?_
    walk_at "g"
    refine ite_f (decide_eq_false (by rw [wl]; omega)) ?_
    walk_at "g"
    refine ite_t (decide_eq_true (by omega)) ?_
    walk_at "g"
    refine ite_f (by rw [decide_eq_true w1]; rfl) ?_
    walk_at "g"
    -- marked = {mark: True for mark in marks}
    refine dc_seq rfl (hM.ex e12) (fun D j H3 => Ex H2 H3 ∧ H2 D = none ∧ ∃ kvs, H3 D = some (.dK kvs) ∧ kvs.length ≤ j ∧ ∀ k, (valV kvs k).isSome = true ↔ k ∈ (ms.take j).map Sum.inl)
      (fun D hD => ⟨Ex.new hD, hD, [], upd_same, Nat.le_refl _, fun k => ⟨fun h => (by cases h), fun h => (by cases h)⟩⟩) (fun D j H3 p => p.1) ?_ ?_
    · rintro D j y H3 hy ⟨e3, hD, kvs, h3, kl, ks⟩
      rw [List.getElem?_map] at hy
      obtain ⟨m, hm, rfl⟩ := Option.map_eq_some_iff.mp hy
      have hj : j < ms.length := (List.getElem?_eq_some_iff.mp hm).1
      refine ⟨rfl, yes_q (ite_t rfl ?_)⟩
      walk_at "g"
      refine ⟨kvs, .inl m, rfl, h3, sz_lt (by omega), ex_upd e3 hD, hD, _, upd_same, Nat.le_trans (len_put _ _ _) (by omega), fun k => ?_⟩
      rw [valV_put, List.take_add_one, hm, List.map_append]
      by_cases z : k = .inl m
      · rw [if_pos z, z]
        exact ⟨fun _ => List.mem_append_right _ (List.mem_singleton.mpr rfl), fun _ => rfl⟩
      · rw [if_neg z, ks k]
        exact ⟨fun h => List.mem_append_left _ h, fun h => (List.mem_append.mp h).elim id fun h => absurd (List.mem_singleton.mp h) z⟩
    · rintro D H3 ⟨e3, hD, kvs, h3, kl, ks⟩
      rw [List.length_map, List.take_length] at ks
      have e13 := e12.trans e3
      walk_at "g"
      -- self.size
      refine stf_go (e13 _ _ hx) mc.cl mc.n1 (by show 0 < 1000; decide) fun H4 c4 (x4 : H4 x = some (.ins C dx [("size", .int n)])) => ?_
      have D4 : H4 D = some (.dK kvs) := c4 _ _ (ne_of h3 (e13 _ _ hx) (by intro z; cases z)) h3
      walk_at "g"
      -- self.marks
      refine lc_r (n := n) (fun y => match y with | .int k => decide (k ∈ ms) | _ => false) (fun y => y) (fun R k => ⟨_, rfl, k⟩) ⟨by omega, by omega⟩ (fun _ => rfl) ?_ ?_ fun L5 H5 hL5 e5 l5 => ?_
      · intro y hy H5 e5 R k
        unfold intsV at hy
        obtain ⟨i, hi, rfl⟩ := List.mem_map.mp hy
        walk_at "g"
        refine ⟨D, _, rfl, DGet.k (k := Sum.inl (i : Int)) (e5 _ _ D4), _, rfl, ?_⟩
        have ee : (valV kvs (Sum.inl (i : Int))).isSome = decide ((i : Int) ∈ ms) := by
          rw [Bool.eq_iff_iff, ks, decide_eq_true_iff]
          constructor
          · intro h
            obtain ⟨z, hz, e⟩ := List.mem_map.mp h
            cases e
            exact hz
          · intro h
            exact List.mem_map.mpr ⟨_, h, rfl⟩
        rw [ee]
        exact k H5 (Ex.refl _)
      · intro y hy _ H5 e5 R k
        walk_at "g"
        exact k H5 (Ex.refl _)
      · walk_at "g"
        refine tup_l (.inl (.inl l5)) fun pm H6 hpm e6 t6 => ?_
        have e46 := e5.trans e6
        walk_at "g"
        refine stf_go (e46 _ _ x4) mc.cl mc.n2 (by show 1 < 1000; decide) fun H7 c7 (x7 : H7 x = some (.ins C dx [("size", .int n), ("marks", .ref pm)])) => ?_
        walk_at "g"
        refine stf_go x7 mc.cl mc.n3 (by show 2 < 1000; decide) fun H8 c8 (x8 : H8 x = some (.ins C dx [("size", .int n), ("marks", .ref pm), ("steps", .ref pr)])) => ?_
        walk_at "g"
        refine stf_go x8 mc.cl mc.n4 (by show 3 < 1000; decide) fun H9 c9 (x9 : H9 x = some (.ins C dx [("size", .int n), ("marks", .ref pm), ("steps", .ref pr), ("now", .int now)])) => ?_
        walk_at "g"
        have nx : ∀ {H' : Hp} {a : Addr} {ys : List V} {fs : List (Str × V)}, H' x = some (.ins C dx fs) → H' a = some (.tup ys) → a ≠ x := fun h1 h2 => ne_of h2 h1 (by intro z; cases z)
        have c69 : Ch x H6 H9 := Ch.trans c7 (Ch.trans c8 c9)
        have c29 : Ch x H2 H9 := Ch.trans (ch_ex e3) (Ch.trans c4 (Ch.trans (ch_ex e46) c69))
        have pr9 : H9 pr = some (.tup ws) := c29 _ _ (nx (e12 _ _ hx) hr2) hr2
        have tr9 : Tups H9 ws (rows.map stepV) := tr.tx (tx_ins (e12 _ _ hx) c29)
        refine ⟨pr, ws, rows, rfl, .inl (.inl pr9), tr9, by omega, fun de H10 hde e10 E10 => ?_⟩
        walk_at "g"
        refine stf_go (e10 _ _ x9) mc.cl mc.n5 (by show 4 < 1000; decide) fun H11 c11 (x11 : H11 x = some (.ins C dx [("size", .int n), ("marks", .ref pm), ("steps", .ref pr), ("now", .int now), ("_ends", .ref de)])) => ?_
        walk_at "g"
        have c911 : Ch x H9 H11 := Ch.trans (ch_ex e10) c11
        have pr11 : H11 pr = some (.tup ws) := c911 _ _ (nx x9 pr9) pr9
        have tr11 : Tups H11 ws (rows.map stepV) := tr9.tx (tx_ins x9 c911)
        refine ⟨pr, ws, rows, rfl, .inl (.inl pr11), tr11, by omega, fun dp H12 hdp e12' E12 => ?_⟩
        walk_at "g"
        refine stf_go (e12' _ _ x11) mc.cl mc.n6 (by show 5 < 1000; decide) fun H13 c13 (x13 : H13 x = some (.ins C dx [("size", .int n), ("marks", .ref pm), ("steps", .ref pr), ("now", .int now), ("_ends", .ref de), ("_pairs", .ref dp)])) => ?_
        have c1113 : Ch x H11 H13 := Ch.trans (ch_ex e12') c13
        have c613 : Ch x H6 H13 := Ch.trans c69 (Ch.trans c911 c1113)
        have t6' : H6 pm = some (.tup ((marksF n ms).map V.int)) := by
          rw [t6, List.map_id']
          unfold intsV marksF
          rw [List.filter_map, List.filter_map, List.map_map]
          rfl
        refine q ⟨n, marksF n ms, rows, now⟩ H13 ⟨rfl, rfl, r1, r2, r3, rfl⟩ ⟨dx, pm, pr, de, dp, ws, x13, ?_, ?_, ?_, ?_, ?_⟩ ?_
        · exact c613 _ _ (nx (e46 _ _ x4) t6') t6'
        · exact c1113 _ _ (nx x11 pr11) pr11
        · exact tr11.tx (tx_ins x11 c1113)
        · exact (E10.ch (e10 _ _ x9) c11).ch x11 c1113
        · exact E12.ch (e12' _ _ x11) c13
        · exact Ch.trans (ch_ex e12) (Ch.trans c29 (Ch.trans c911 c1113))
end
end K08

set_option Elab.async false
set_option linter.all false
set_option maxRecDepth 100000
namespace K08
open PySem PySem.Spec PyProof.Rows L2 Evl AE
local macro_rules | `(tactic| walk_at "c") => `(tactic| first | exact ⟨by decide, by decide⟩ | exact .inr ⟨by decide, by decide⟩ | exact .inl ⟨by decide, by decide⟩ | exact ⟨by decide, by decide, by decide⟩ | (show (0 : Int) < _; decide))
local macro_rules | `(tactic| walk_at "s") => `(tactic| first
  | (with_reducible refine r_var rfl ?_) | (with_reducible refine r_c ?_) | (with_reducible refine r_op ?_) | (with_reducible refine r_un ?_) | (with_reducible refine r_I0 ?_) | (with_reducible refine r_U ?_)
  | (with_reducible refine r_eq rfl ?_) | (with_reducible refine r_ne rfl ?_) | (with_reducible refine r_chain ?_) | (with_reducible refine r_test ?_) | (with_reducible refine r_tB ?_)
  | (with_reducible refine r_bl ?_) | (with_reducible refine r_and ?_) | (with_reducible refine r_or ?_) | (with_reducible refine r_not ?_) | (with_reducible refine r_nil ?_) | (with_reducible refine r_cons ?_)
  | (with_reducible refine r_tup ?_) | (with_reducible refine r_lst ?_) | (with_reducible refine r_cb ?_) | (with_reducible refine r_call ?_) | (with_reducible refine r_seq ?_) | (with_reducible refine r_set ?_)
  | (with_reducible refine r_drop ?_) | (with_reducible refine r_ret ?_) | (with_reducible refine r_next ?_) | (with_reducible refine r_if ?_) | (with_reducible refine r_sl ?_) | (with_reducible refine r_nop ?_) | (with_reducible refine r_prt ?_) | (with_reducible refine r_some ?_)
  | (with_reducible refine add_int ?_) | (with_reducible refine int_i ?_) | (with_reducible refine r_forR1 ?_) | (with_reducible refine r_forL ?_) | (with_reducible refine r_andV ?_) | (with_reducible refine r_orV ?_) | (with_reducible refine r_notV ?_) | (with_reducible refine r_ifE ?_) | (with_reducible refine r_lcL ?_) | (with_reducible refine r_fld ?_) | (with_reducible refine r_get ?_) | (with_reducible refine r_din ?_) | (with_reducible refine r_dget2 ?_) | ((with_reducible refine r_I ?_ ?_); (walk_at "c")))
local macro_rules | `(tactic| walk_at "g") => `(tactic| repeat walk_at "s")
section
variable {P : Program} {w : World} {K : PySem.W.Frag} {mg : Str → Option Value} {base : Heap}
def KCls (T : Tp K mg) (C : Addr) : Prop := C = T.C_Service ∨ C = T.C_Pattern
theorem KCls.m {T : Tp K mg} {C : Addr} (h : KCls T C) : MCls K C := by
  rcases h with rfl | rfl
  · exact T.cf_Service
  · exact T.cf_Pattern
def sp_endsAt (K : PySem.W.Frag) : Sp := fun vs H Q _ => ∃ (x C : Addr) (m : Mach) (st : Int) (ask : Str), vs = [.ref x, .int st, .str ask] ∧ MCls K C ∧ MachAt H x C m ∧
  ∀ p H', Ex H H' → H' p = some (.tup (endsF m.rows [.inl st, .inr ask])) → Q (.ref p) H'
theorem ok_endsAt (T : Tp K mg) : FnOk P w K mg base CX0 1 T.a_Machine_ends_at T.d_Machine_ends_at ["self", "state", "ask"] (sp_endsAt K) := by
  refine T.f_Machine_ends_at.ok sc_Machine_ends_at (fun vs H Q E h => ?_) (fun cdv A outer s H vs Q E hr h => ?_)
  · obtain ⟨x, C, m, st, ask, rfl, _⟩ := h
    rfl
  · obtain ⟨x, C, m, st, ask, rfl, mc, hm, q⟩ := h
    have hu := hu_of hr
    refine ⟨_, (pss_one (ps_ret (pe_dget2 hu (pe_fld (pv 0) rfl) (pe_tup (pa_cons (pv 1) (pa_cons (pv 2) pa_nil))) (pe_tup pa_nil) ⟨rfl, rfl, rfl, rfl⟩))), ?_⟩
    obtain ⟨dx, pm, ps, de, dp, us, h1, h2, h3, h4, ⟨kvs, h5, g⟩, h6⟩ := hm
    walk_at "g"
    refine gtf_go h1 mc.cl mc.n5 (v := .ref de) rfl ?_
    refine ⟨de, rfl, .inr ⟨kvs, .inl h5⟩, ?_⟩
    walk_at "g"
    refine ⟨sz_of (by show 2 ≤ 100000; decide), fun kp hkp => ?_⟩
    walk_at "g"
    refine ⟨sz_of (by show 0 ≤ 100000; decide), fun ep hep => ?_⟩
    have e1 : Ex H (upd (upd H kp (.tup [.int st, .str ask])) ep (.tup [])) := (Ex.new hkp).trans (Ex.new hep)
    refine ⟨_, DGet.t (b := kp) (k := [.inl st, .inr ask]) (e1 _ _ h5) (Ex.new hep _ _ upd_same), ?_⟩
    by_cases z : endsF m.rows [.inl st, .inr ask] = []
    · rw [(g _).1 z]
      refine q ep _ e1 ?_
      rw [upd_same, z]
    · obtain ⟨p, a1, a2⟩ := (g _).2 z
      rw [a1]
      exact q p _ e1 (e1 _ _ a2)
def sp_getitem (T : Tp K mg) : Sp := fun vs H Q _ => ∃ (x C : Addr) (m : Mach) (ask : Str), vs = [.ref x, .str ask] ∧ KCls T C ∧ MachAt H x C m ∧
  ∀ p H', Ex H H' → H' p = some (.tup (endsF m.rows [.inl m.now, .inr ask])) → Q (.ref p) H'
theorem ok_getitem (T : Tp K mg) : FnOk P w K mg base CX0 2 T.a_Machine___getitem__ T.d_Machine___getitem__ ["self", "at"] (sp_getitem T) := by
  have G_ends_at : FnOk P w K mg base CX0 1 T.a_Machine_ends_at T.d_Machine_ends_at ["self", "state", "ask"] (sp_endsAt K) := ok_endsAt T
  refine T.f_Machine___getitem__.ok sc_Machine___getitem__ (fun vs H Q E h => ?_) (fun cdv A outer s H vs Q E hr h => ?_)
  · obtain ⟨x, C, m, ask, rfl, _⟩ := h
    rfl
  · obtain ⟨x, C, m, ask, rfl, kc, hm, q⟩ := h
    have hm' := hm
    obtain ⟨dx, pm, ps, de, dp, us, h1, h2, h3, h4, h5, h6⟩ := hm'
    have mc := kc.m
    rcases kc with rfl | rfl
    · refine ⟨_, (pss_one (ps_ret (pe_meth (pv 0) T.cf_Service.cl T.ea_Service G_ends_at (hr.mono (by decide)) T.b_Machine_ends_at .nil pass0 (pa_cons (pe_fld (pv 0) rfl) (pa_cons (pv 1) pa_nil))))), ?_⟩
      refine ⟨_, rfl, x, dx, _, rfl, h1, rfl, ?_⟩
      walk_at "g"
      refine gtf_go h1 mc.cl mc.n4 (v := .int m.now) rfl ?_
      walk_at "g"
      exact ⟨x, _, m, m.now, ask, rfl, mc, hm, q⟩
    · refine ⟨_, (pss_one (ps_ret (pe_meth (pv 0) T.cf_Pattern.cl T.ea_Pattern G_ends_at (hr.mono (by decide)) T.b_Machine_ends_at .nil pass0 (pa_cons (pe_fld (pv 0) rfl) (pa_cons (pv 1) pa_nil))))), ?_⟩
      refine ⟨_, rfl, x, dx, _, rfl, h1, rfl, ?_⟩
      walk_at "g"
      refine gtf_go h1 mc.cl mc.n4 (v := .int m.now) rfl ?_
      walk_at "g"
      exact ⟨x, _, m, m.now, ask, rfl, mc, hm, q⟩
theorem inV_int (k : Int) (ms : List Int) : inV (.int k) (ms.map V.int) = decide (k ∈ ms) := by
  unfold inV
  rw [List.any_map]
  rw [Bool.eq_iff_iff, List.any_eq_true, decide_eq_true_iff]
  constructor
  · rintro ⟨y, hy, e⟩
    have e' : (y == k) = true := e
    rw [← eq_of_beq e']
    exact hy
  · exact fun h => ⟨k, h, show (k == k) = true by simp⟩
theorem flat_ints (ms : List Int) : (ms.map V.int).all flatV = true := by
  rw [List.all_eq_true]
  intro y hy
  obtain ⟨k, _, rfl⟩ := List.mem_map.mp hy
  rfl
def sp_bool (K : PySem.W.Frag) : Sp := fun vs H Q _ => ∃ (x C : Addr) (m : Mach), vs = [.ref x] ∧ MCls K C ∧ MachAt H x C m ∧ Q (.bl (decide (m.now ∈ m.marks))) H
theorem ok_bool (T : Tp K mg) : FnOk P w K mg base CX0 1 T.a_Machine___bool__ T.d_Machine___bool__ ["self"] (sp_bool K) := by
  refine T.f_Machine___bool__.ok sc_Machine___bool__ (fun vs H Q E h => ?_) (fun cdv A outer s H vs Q E hr h => ?_)
  · obtain ⟨x, C, m, rfl, _⟩ := h
    rfl
  · obtain ⟨x, C, m, rfl, mc, hm, q⟩ := h
    refine ⟨_, (pss_one (ps_ret (pe_cmpR op_in_seq (pe_fld (pv 0) rfl) (pe_fld (pv 0) rfl) rfl))), ?_⟩
    obtain ⟨dx, pm, ps, de, dp, us, h1, h2, h3, h4, h5, h6⟩ := hm
    walk_at "g"
    refine gtf_go h1 mc.cl mc.n4 (v := .int m.now) rfl ?_
    walk_at "g"
    refine gtf_go h1 mc.cl mc.n2 (v := .ref pm) rfl ?_
    refine ⟨pm, m.marks.map V.int, rfl, .inr (.inl (.inl h2)), rfl, flat_ints _, ?_⟩
    rw [inV_int]
    exact q
end
end K08

set_option Elab.async false
set_option linter.all false
set_option maxRecDepth 100000
namespace K08
open PySem PySem.Spec PyProof.Rows L2 Evl AE
local macro_rules | `(tactic| walk_at "c") => `(tactic| first | exact ⟨by decide, by decide⟩ | exact .inr ⟨by decide, by decide⟩ | exact .inl ⟨by decide, by decide⟩ | exact ⟨by decide, by decide, by decide⟩ | (show (0 : Int) < _; decide))
local macro_rules | `(tactic| walk_at "s") => `(tactic| first
  | (with_reducible refine r_var rfl ?_) | (with_reducible refine r_c ?_) | (with_reducible refine r_op ?_) | (with_reducible refine r_un ?_) | (with_reducible refine r_I0 ?_) | (with_reducible refine r_U ?_)
  | (with_reducible refine r_eq rfl ?_) | (with_reducible refine r_ne rfl ?_) | (with_reducible refine r_chain ?_) | (with_reducible refine r_test ?_) | (with_reducible refine r_tB ?_)
  | (with_reducible refine r_bl ?_) | (with_reducible refine r_and ?_) | (with_reducible refine r_or ?_) | (with_reducible refine r_not ?_) | (with_reducible refine r_nil ?_) | (with_reducible refine r_cons ?_)
  | (with_reducible refine r_tup ?_) | (with_reducible refine r_lst ?_) | (with_reducible refine r_cb ?_) | (with_reducible refine r_call ?_) | (with_reducible refine r_seq ?_) | (with_reducible refine r_set ?_)
  | (with_reducible refine r_drop ?_) | (with_reducible refine r_ret ?_) | (with_reducible refine r_next ?_) | (with_reducible refine r_if ?_) | (with_reducible refine r_sl ?_) | (with_reducible refine r_nop ?_) | (with_reducible refine r_prt ?_) | (with_reducible refine r_some ?_)
  | (with_reducible refine add_int ?_) | (with_reducible refine int_i ?_) | (with_reducible refine r_forR1 ?_) | (with_reducible refine r_forL ?_) | (with_reducible refine r_andV ?_) | (with_reducible refine r_orV ?_) | (with_reducible refine r_notV ?_) | (with_reducible refine r_ifE ?_) | (with_reducible refine r_lcL ?_) | (with_reducible refine r_fld ?_) | (with_reducible refine r_get ?_) | (with_reducible refine r_din ?_) | (with_reducible refine r_dget2 ?_) | ((with_reducible refine r_I ?_ ?_); (walk_at "c")))
local macro_rules | `(tactic| walk_at "g") => `(tactic| repeat walk_at "s")
section
variable {P : Program} {w : World} {K : PySem.W.Frag} {mg : Str → Option Value} {base : Heap}
/-! ### asks -/
def letC (d : Int) : Nat := 97 + (d % 26).toNat
def wordL (row : List Int) : List Nat := (row.take 8).map letC
def ltrs : Str := "abcdefghijklmnopqrstuvwxyz"
theorem ltrs_at : ∀ i : Fin 26, ltrs.cps.toList[i.val]? = some (97 + i.val) := by decide +kernel
theorem ltrs_len : ltrs.length = 26 := by decide +kernel
theorem ltrs_ix (d : Int) : atI ltrs.cps.toList (d % 26) = some (letC d) := by
  have h1 : (d % 26).toNat < 26 := by omega
  have h0 : d % 26 = (((d % 26).toNat : Nat) : Int) := by omega
  rw [h0]
  exact atI_nat (ltrs_at ⟨_, h1⟩)
def letV : V → V
  | .int d => .str ⟨#[letC d]⟩
  | v => v
theorem let_map : ∀ l : List Int, ((l.map V.int).filter fun _ => true).map letV = ((l.map letC).map fun c => (⟨#[c]⟩ : Str)).map V.str := fun l => by
  rw [filter_yes, List.map_map, List.map_map, List.map_map]
  rfl
theorem sum_signs : ∀ l : List Nat, ((l.map fun c => (⟨#[c]⟩ : Str)).map fun x => x.length).sum = l.length
  | [] => rfl
  | c :: l => by
    rw [List.map_cons, List.map_cons, List.sum_cons, sum_signs l]
    show 1 + l.length = l.length + 1
    omega
/-- the i-th ask of a row -/
def askL (row : List Int) (i : Nat) : List Nat :=
  if row.getD 8 0 % 2 = 0 then (wordL row).take ((row.getD 9 0 + 3 * i) % 8 + 1).toNat
  else (wordL row).take (row.getD 10 0 % (row.getD 9 0 % 8 + 1)).toNat ++ [letC (row.getD 11 0 + (row.getD 12 0 % 6 * 2 + 1) * i)] ++
    ((wordL row).take (row.getD 9 0 % 8 + 1).toNat).drop ((row.getD 10 0 % (row.getD 9 0 % 8 + 1)).toNat + 1)
def asksF (row : List Int) (many : Nat) : List Str := (List.range many).map fun i => ⟨(askL row i).toArray⟩
def AskOk (x : Str) : Prop := 1 ≤ x.length ∧ x.length ≤ 8 ∧ ∀ c ∈ x.cps.toList, 97 ≤ c ∧ c ≤ 122
theorem letC_ok (d : Int) : 97 ≤ letC d ∧ letC d ≤ 122 := by unfold letC; omega
theorem word_ok (row : List Int) : ∀ c ∈ wordL row, 97 ≤ c ∧ c ≤ 122 := fun c hc => by
  obtain ⟨d, _, rfl⟩ := List.mem_map.mp hc
  exact letC_ok d
theorem word_len {row : List Int} (h : 13 ≤ row.length) : (wordL row).length = 8 := by
  unfold wordL
  rw [List.length_map, List.length_take]
  omega
theorem ask_ok {row : List Int} (h : 13 ≤ row.length) (i : Nat) : 1 ≤ (askL row i).length ∧ (askL row i).length ≤ 8 ∧ ∀ c ∈ askL row i, 97 ≤ c ∧ c ≤ 122 := by
  have wl := word_len h
  unfold askL
  by_cases z : row.getD 8 0 % 2 = 0
  · rw [if_pos z]
    refine ⟨by rw [List.length_take]; omega, by rw [List.length_take]; omega, fun c hc => word_ok row c (List.mem_of_mem_take hc)⟩
  · rw [if_neg z]
    have p0 : 0 ≤ row.getD 10 0 % (row.getD 9 0 % 8 + 1) := by
      have : row.getD 9 0 % 8 + 1 ≠ 0 := by omega
      exact Int.emod_nonneg _ this
    have p1 : row.getD 10 0 % (row.getD 9 0 % 8 + 1) < row.getD 9 0 % 8 + 1 := Int.emod_lt_of_pos _ (by omega)
    generalize row.getD 10 0 % (row.getD 9 0 % 8 + 1) = p at p0 p1
    refine ⟨by simp only [List.length_append, List.length_take, List.length_drop, List.length_cons, List.length_nil]; omega, by simp only [List.length_append, List.length_take, List.length_drop, List.length_cons, List.length_nil]; omega, fun c hc => ?_⟩
    rcases List.mem_append.mp hc with hc | hc
    · rcases List.mem_append.mp hc with hc | hc
      · exact word_ok row c (List.mem_of_mem_take hc)
      · rw [List.mem_singleton.mp hc]
        exact letC_ok _
    · exact word_ok row c (List.mem_of_mem_take (List.mem_of_mem_drop hc))
theorem asks_ok {row : List Int} (h : 13 ≤ row.length) (many : Nat) : ∀ x ∈ asksF row many, AskOk x := fun x hx => by
  obtain ⟨i, _, rfl⟩ := List.mem_map.mp hx
  obtain ⟨a, b, c⟩ := ask_ok h i
  exact ⟨by show 1 ≤ (askL row i).toArray.size; rw [List.size_toArray]; exact a, by show (askL row i).toArray.size ≤ 8; rw [List.size_toArray]; exact b, fun d hd => c d (by simpa using hd)⟩
theorem asks_len (row : List Int) (many : Nat) : (asksF row many).length = many := by
  unfold asksF
  rw [List.length_map, List.length_range]
theorem asks_snoc (row : List Int) (n : Nat) : (asksF row (n + 1)).map V.str = (asksF row n).map V.str ++ [.str ⟨(askL row n).toArray⟩] := by
  unfold asksF
  rw [List.range_succ, List.map_append, List.map_append]
  rfl
theorem cutS_toI (z : List Nat) {n : Int} (h : 0 ≤ n) : cutS ⟨z.toArray⟩ none (some n) = ⟨(z.take n.toNat).toArray⟩ := by
  have e : n = (n.toNat : Int) := by omega
  conv => lhs; rw [e]
  exact cutS_to _ _
theorem cutS_midI (z : List Nat) {a b : Int} (h : 0 ≤ a) (h2 : 0 ≤ b) : cutS ⟨z.toArray⟩ (some a) (some b) = ⟨((z.take b.toNat).drop a.toNat).toArray⟩ := by
  have e : a = (a.toNat : Int) := by omega
  have e2 : b = (b.toNat : Int) := by omega
  conv => lhs; rw [e, e2]
  exact cutS_mid _ _ _
theorem app_codes (a b : List Nat) : (⟨a.toArray⟩ : Str) ++ (⟨b.toArray⟩ : Str) = ⟨(a ++ b).toArray⟩ := by
  refine Str.ext' ?_
  rw [Str.cps_append]
  simp
def sp_asks (K : PySem.W.Frag) : Sp := fun vs H Q _ => ∃ (a : Addr) (row : List Int) (many : Int), vs = [.ref a, .int many] ∧ SqL K H a (row.map V.int) ∧ row.length = 13 ∧ (∀ x ∈ row, 0 ≤ x ∧ x < 64) ∧ 0 ≤ many ∧ many ≤ 8 ∧
  ∀ p H', H p = none → Ex H H' → H' p = some (.lst ((asksF row many.toNat).map V.str)) → Q (.ref p) H'
theorem row_at {row : List Int} {j : Nat} (h : j < row.length) : atI (row.map V.int) (j : Int) = some (.int (row.getD j 0)) := by
  refine atI_nat ?_
  rw [List.getElem?_map, List.getElem?_eq_getElem h, List.getD_eq_getElem?_getD, List.getElem?_eq_getElem h]
  rfl
theorem ok_asks (T : Tp K mg) : FnOk P w K mg base CX0 1 T.a__law_asks T.d__law_asks ["_law_row", "_law_many"] (sp_asks K) := by
  refine T.f__law_asks.ok sc__law_asks (fun vs H Q E h => ?_) (fun cdv A outer s H vs Q E hr h => ?_)
  · obtain ⟨a, row, many, rfl, _⟩ := h
    rfl
  · obtain ⟨a, row, many, rfl, hS, hlen, hb, h0, h1, q⟩ := h
    refine ⟨_, (pss_cons (ps_set (i := 2) sc__law_asks.nd rfl (.inr rfl) pe_str)
  (pss_cons (ps_set (i := 3) sc__law_asks.nd rfl (.inl rfl) (pe_join pe_str (pe_lc (own := [("_law_digit", 4)]) (g := gName 4) (tt := tYes) rfl sc__law_asks.nd (pi_list (pe_slice sl_list (pv 0) po_none (po_some pe_int))) (blkOk_by (N := N__law_asks) (sc := defScope s__law_asks) (by decide +kernel)) (fun _ _ _ _ _ => (pg_name (i := 4) sc__law_asks.nd rfl (.inl rfl))) (fun _ _ _ _ _ => pts_nil) (fun _ _ _ _ _ => (pe_ix (ix_seqK (K := K)) (pv 2) (pe_op op_mod (pe_callTy c_int (by rfl) T.n_int (by rfl) (pa_cons (pv 4) pa_nil)) pe_int) (fun _ _ => rfl))))))
  (pss_cons (ps_set (i := 5) sc__law_asks.nd rfl (.inl rfl) (pe_lst pa_nil))
  (pss_cons (ps_for PassesOwn.never rfl (pi_range1 rfl T.n_range (pa_cons (pv 1) pa_nil)) (pg_name (i := 6) sc__law_asks.nd rfl (.inl rfl))
  (pss_cons (ps_set (i := 7) sc__law_asks.nd rfl (.inl rfl) (pe_op opAdd (pe_op op_mod (pe_callTy c_int (by rfl) T.n_int (by rfl) (pa_cons (pe_op opAdd (pe_ix ix_seq (pv 0) pe_int (fun _ _ => rfl)) (pe_op op_mul pe_int (pv 6))) pa_nil)) pe_int) pe_int))
  (pss_one (ps_if (pt_cmpR op_eq (pe_op op_mod (pe_callTy c_int (by rfl) T.n_int (by rfl) (pa_cons (pe_ix ix_seq (pv 0) pe_int (fun _ _ => rfl)) pa_nil)) pe_int) pe_int (nomark _)) (pss_one (ps_expr (pe_bm PySem.F.plainAttrs_list PySem.F.slot_list_append PySem.F.type_list_append mt_append (pv 5) (pa_cons (pe_slice sl_str (pv 3) po_none (po_some (pv 7))) pa_nil)))) (pss_cons (ps_set (i := 7) sc__law_asks.nd rfl (.inl rfl) (pe_op opAdd (pe_op op_mod (pe_callTy c_int (by rfl) T.n_int (by rfl) (pa_cons (pe_ix ix_seq (pv 0) pe_int (fun _ _ => rfl)) pa_nil)) pe_int) pe_int))
  (pss_cons (ps_set (i := 8) sc__law_asks.nd rfl (.inl rfl) (pe_op op_mod (pe_callTy c_int (by rfl) T.n_int (by rfl) (pa_cons (pe_ix ix_seq (pv 0) pe_int (fun _ _ => rfl)) pa_nil)) (pv 7)))
  (pss_cons (ps_set (i := 9) sc__law_asks.nd rfl (.inl rfl) (pe_op opAdd (pe_op op_mul (pe_op op_mod (pe_callTy c_int (by rfl) T.n_int (by rfl) (pa_cons (pe_ix ix_seq (pv 0) pe_int (fun _ _ => rfl)) pa_nil)) pe_int) pe_int) pe_int))
  (pss_cons (ps_set (i := 10) sc__law_asks.nd rfl (.inl rfl) (pe_ix ix_seq (pv 2) (pe_op op_mod (pe_callTy c_int (by rfl) T.n_int (by rfl) (pa_cons (pe_op opAdd (pe_ix ix_seq (pv 0) pe_int (fun _ _ => rfl)) (pe_op op_mul (pv 9) (pv 6))) pa_nil)) pe_int) (fun _ _ => rfl)))
  (pss_one (ps_expr (pe_bm PySem.F.plainAttrs_list PySem.F.slot_list_append PySem.F.type_list_append mt_append (pv 5) (pa_cons (pe_op opAdd (pe_op opAdd (pe_slice sl_str (pv 3) po_none (po_some (pv 8))) (pv 10)) (pe_slice sl_str (pv 3) (po_some (pe_op opAdd (pv 8) pe_int)) (po_some (pv 7)))) pa_nil))))))))))))
  (pss_one (ps_ret (pv 5))))))), ?_⟩
    walk_at "g"
    refine ⟨⟨_, rfl⟩, ?_⟩
    walk_at "g"
    refine sl_l hS fun l8 hl8 => ?_
    rw [show ((8 : Int)) = ((8 : Nat) : Int) from rfl, cutV_to, ← List.map_take]
    refine lcl_go (xs := (row.take 8).map V.int) (fun _ => true) letV (.inl (.inl upd_same)) ?_ (fun _ => rfl) ?_ ?_ ?_
    · rw [List.length_map, List.length_take]; omega
    · exact yes_t
    · intro x hx _ H1 e1 R k
      obtain ⟨d, _, rfl⟩ := List.mem_map.mp hx
      walk_at "g"
      exact ix_s (c := letC d) (by decide) (ltrs_ix d) (k H1 (Ex.refl _))
    · intro D H1 hD e1 hl1
      rw [let_map] at hl1
      refine ⟨_, D, (wordL row).map fun c => ⟨#[c]⟩, rfl, rfl, .inl (.inl (.inl hl1)), ?_, ?_⟩
      · rw [sum_signs, List.length_map, word_len (by omega)]
        decide
      rw [join_signs]
      have e2 : Ex H H1 := (Ex.new hl8).trans e1
      walk_at "g"
      refine ⟨sz_of (by show 0 ≤ 100000; decide), fun l hl => ?_⟩
      have e3 : Ex H (upd H1 l (.lst [])) := e2.trans (Ex.new hl)
      have l3 : (upd H1 l (.lst [])) l = some (.lst []) := upd_same
      have hl0 : H l = none := fresh_back e2 hl
      generalize (upd H1 l (.lst [])) = H3 at e3 l3
      walk_at "g"
      refine lr1_go (fun i σ' H' => ∃ y6 y7 y8 y9 y10, σ' = [some (.ref a), some (.int many), some (.str (Str.ofString "abcdefghijklmnopqrstuvwxyz")), some (.str ⟨(wordL row).toArray⟩), none, some (.ref l), y6, y7, y8, y9, y10] ∧ Ex H H' ∧ H' l = some (.lst ((asksF row i).map V.str)))
        ⟨_, _, _, _, _, rfl, e3, l3⟩ ⟨h0, by omega⟩ ?_ ?_
      · rintro i σ' H' hi ⟨y6, y7, y8, y9, y10, rfl, e4, l4⟩
        walk_at "g"
        refine ix_l (ex_l e4 hS) (row_at (j := 9) (by omega)) ?_
        walk_at "g"
        refine ix_l (ex_l e4 hS) (row_at (j := 8) (by omega)) ?_
        walk_at "g"
        have ln := asks_len row i
        have lz : ((asksF row i).map V.str).length < sizeLine := by rw [List.length_map, ln]; exact sz_lt (by omega)
        have wz : (⟨(wordL row).toArray⟩ : Str).length ≤ sizeLine := by
          show (wordL row).toArray.size ≤ _
          rw [List.size_toArray, word_len (by omega)]
          decide
        refine ite_b (fun hc => ?_) (fun hc => ?_)
        · have z : row.getD 8 0 % 2 = 0 := V.int.inj (of_decide_eq_true hc)
          have ea : askL row i = (wordL row).take ((row.getD 9 0 + 3 * i) % 8 + 1).toNat := by unfold askL; rw [if_pos z]
          refine r_drop (r_app rfl l4 ?_)
          walk_at "g"
          refine sl_s wz ?_
          rw [show ((8 : Nat) : Int) = 8 from rfl, cutS_toI _ (by omega), ← ea]
          refine app_l l4 lz ?_
          walk_at "g"
          exact ⟨_, _, _, _, _, rfl, ex_upd e4 hl0, by rw [upd_same, asks_snoc]⟩
        · have z : ¬ row.getD 8 0 % 2 = 0 := fun q0 => of_decide_eq_false hc (congrArg V.int q0)
          walk_at "g"
          refine ix_l (ex_l e4 hS) (row_at (j := 9) (by omega)) ?_
          walk_at "g"
          refine ix_l (ex_l e4 hS) (row_at (j := 10) (by omega)) ?_
          walk_at "g"
          refine ⟨_, _, rfl, rfl, show (0 : Int) < _ by omega, ?_⟩
          walk_at "g"
          refine ix_l (ex_l e4 hS) (row_at (j := 12) (by omega)) ?_
          walk_at "g"
          refine ix_l (ex_l e4 hS) (row_at (j := 11) (by omega)) ?_
          walk_at "g"
          refine r_I (.inr ⟨by omega, by omega⟩) ?_
          walk_at "g"
          refine ix_s (c := letC (row.getD 11 0 + (row.getD 12 0 % 6 * 2 + 1) * i)) (by decide) (ltrs_ix _) ?_
          walk_at "g"
          refine r_drop (r_app rfl l4 ?_)
          walk_at "g"
          refine sl_s wz ?_
          have p0 : 0 ≤ row.getD 10 0 % (row.getD 9 0 % 8 + 1) := by
            have : row.getD 9 0 % 8 + 1 ≠ 0 := by omega
            exact Int.emod_nonneg _ this
          have p1 : row.getD 10 0 % (row.getD 9 0 % 8 + 1) < row.getD 9 0 % 8 + 1 := Int.emod_lt_of_pos _ (by omega)
          rw [show ((8 : Nat) : Int) = 8 from rfl]
          show tVar 10 _ _ _
          rw [cutS_toI _ p0]
          walk_at "g"
          refine add_str ?_ ?_
          · show (List.toArray _).size + 1 ≤ _
            rw [List.size_toArray, List.length_take, word_len (by omega)]
            have := @sz_of 100 (by decide)
            omega
          walk_at "g"
          refine sl_s wz ?_
          rw [cutS_midI _ (by omega) (by omega), show (⟨#[letC (row.getD 11 0 + (row.getD 12 0 % 6 * 2 + 1) * ↑i)]⟩ : Str) = ⟨[letC (row.getD 11 0 + (row.getD 12 0 % 6 * 2 + 1) * ↑i)].toArray⟩ from rfl, app_codes]
          refine add_str ?_ ?_
          · show (List.toArray _).size + (List.toArray _).size ≤ _
            rw [List.size_toArray, List.size_toArray]
            simp only [List.length_append, List.length_take, List.length_drop, List.length_cons, List.length_nil]
            have := @sz_of 100 (by decide)
            have := word_len (row := row) (by omega)
            omega
          rw [app_codes]
          walk_at "g"
          refine app_l l4 lz ?_
          walk_at "g"
          refine ⟨_, _, _, _, _, rfl, ex_upd e4 hl0, ?_⟩
          rw [upd_same, asks_snoc]
          have ea : askL row i = (wordL row).take (row.getD 10 0 % (row.getD 9 0 % 8 + 1)).toNat ++ [letC (row.getD 11 0 + (row.getD 12 0 % 6 * 2 + 1) * i)] ++
              ((wordL row).take (row.getD 9 0 % 8 + 1).toNat).drop ((row.getD 10 0 % (row.getD 9 0 % 8 + 1)).toNat + 1) := by unfold askL; rw [if_neg z]
          rw [ea, show (row.getD 10 0 % (row.getD 9 0 % 8 + 1) + 1).toNat = (row.getD 10 0 % (row.getD 9 0 % 8 + 1)).toNat + 1 by omega]
      · rintro σ' H' ⟨y6, y7, y8, y9, y10, rfl, e4, l4⟩
        walk_at "g"
        exact q l H' hl0 e4 l4
end
end K08

set_option Elab.async false
set_option linter.all false
set_option maxRecDepth 100000
namespace K08
open PySem PySem.Spec PyProof.Rows L2 Evl AE
/-! ### data of rows -/
def stD (s : StepD) : PyData := .tuple ((stepV s).map scD)
theorem ints_dsc (l : List Int) : (l.map V.int).map scD = l.map PyData.int := by rw [List.map_map]; rfl
theorem ints_lay : ∀ l : List Int, PyData.canLayAll0 (l.map PyData.int) = true
  | [] => rfl
  | _ :: r => by simp [PyData.canLayAll0, PyData.canLay0, ints_lay r]
theorem ints_dep : ∀ l : List Int, PyData.depthAll (l.map PyData.int) = 0
  | [] => rfl
  | _ :: r => by simp [PyData.depthAll, PyData.depth, ints_dep r]
theorem ints_shaped (l : List Int) : SeqAt.shaped (.list (l.map PyData.int)) = true := by
  simp [SeqAt.shaped, PyData.canLay0, PyData.depth, ints_lay, ints_dep]
theorem ints_eqv : ∀ l m : List Int, PyData.eqvAll (l.map PyData.int) (m.map PyData.int) = decide (l = m)
  | [], [] => by simp [PyData.eqvAll]
  | [], _ :: _ => by simp [PyData.eqvAll]
  | _ :: _, [] => by simp [PyData.eqvAll]
  | a :: r, b :: t => by
    simp only [List.map_cons, PyData.eqvAll, PyData.eqv, ints_eqv r t]
    by_cases h : a = b <;> by_cases h' : r = t <;> simp [h, h']
theorem stD_lay {s : StepD} (h : PyData.strOk s.2.1 = true) : (stD s).canLay0 = true := by
  simp [stD, stepV, scD, PyData.canLay0, PyData.canLayAll0, h]
theorem stD_dep (s : StepD) : (stD s).depth = 1 := by
  simp [stD, stepV, scD, PyData.depth, PyData.depthAll]
theorem stDs_lay : ∀ l : List StepD, (∀ s ∈ l, PyData.strOk s.2.1 = true) → PyData.canLayAll0 (l.map stD) = true
  | [], _ => rfl
  | s :: r, h => by simp [PyData.canLayAll0, stD_lay (h s (List.mem_cons_self ..)), stDs_lay r fun x hx => h x (List.mem_cons_of_mem _ hx)]
theorem stDs_dep : ∀ l : List StepD, PyData.depthAll (l.map stD) ≤ 1
  | [] => by simp [PyData.depthAll]
  | s :: r => by
    have := stDs_dep r
    simp only [List.map_cons, PyData.depthAll, stD_dep s]
    omega
theorem stD_shaped {s : StepD} (h : PyData.strOk s.2.1 = true) : SeqAt.shaped (stD s) = true := by
  simp [SeqAt.shaped, stD_lay h, stD_dep]
theorem stDs_shaped {l : List StepD} (h : ∀ s ∈ l, PyData.strOk s.2.1 = true) : SeqAt.shaped (.list (l.map stD)) = true := by
  have h1 := stDs_dep l
  have h2 : PyData.depth (.list (l.map stD)) ≤ 64 := by
    simp only [PyData.depth]
    omega
  show (PyData.canLay0 (.list (l.map stD)) && decide (PyData.depth (.list (l.map stD)) ≤ 64)) = true
  rw [Bool.and_eq_true]
  exact ⟨by simp only [PyData.canLay0]; exact stDs_lay l h, decide_eq_true h2⟩
theorem stD_eqv (a b : StepD) : PyData.eqv (stD a) (stD b) = decide (a = b) := by
  obtain ⟨a1, a2, a3⟩ := a
  obtain ⟨b1, b2, b3⟩ := b
  simp only [stD, stepV, scD, List.map_cons, List.map_nil, PyData.eqv, PyData.eqvAll, Prod.mk.injEq]
  by_cases h : a1 = b1 <;> by_cases h2 : a2 = b2 <;> by_cases h3 : a3 = b3 <;> simp [h, h2, h3]
theorem stD_any (l : List StepD) (a : StepD) : ((l.map stD).any fun z => z.eqv (stD a)) = decide (a ∈ l) := by
  rw [List.any_map, Bool.eq_iff_iff, List.any_eq_true, decide_eq_true_iff]
  constructor
  · rintro ⟨y, hy, e⟩
    have e' : PyData.eqv (stD y) (stD a) = true := e
    rw [stD_eqv, decide_eq_true_iff] at e'
    exact e' ▸ hy
  · intro h
    refine ⟨a, h, ?_⟩
    show PyData.eqv (stD a) (stD a) = true
    rw [stD_eqv, decide_eq_true rfl]
theorem rows_dp {K : PySem.W.Frag} {H : Hp} {a : Addr} {us : List V} {rows : List StepD} (h : SqL K H a us) (t : Tups H us (rows.map stepV)) : Dp K H (.ref a) (.list (rows.map stD)) := by
  have d := t.dp (K := K) (fun x hx => by obtain ⟨s, _, rfl⟩ := List.mem_map.mp hx; rfl)
  rw [List.map_map] at d
  exact .lst h d
theorem ints_dp {K : PySem.W.Frag} {H : Hp} {a : Addr} {l : List Int} (h : SqL K H a (l.map V.int)) : Dp K H (.ref a) (.list (l.map PyData.int)) := by
  have d : DpAll K H (l.map V.int) ((l.map V.int).map scD) := dpa_sc (by rw [List.all_map, List.all_eq_true]; exact fun _ _ => rfl)
  rw [ints_dsc] at d
  exact .lst h d
end K08

set_option Elab.async false
set_option linter.all false
set_option maxRecDepth 100000
namespace K08
open PySem PySem.Spec PyProof.Rows L2 Evl AE
local macro_rules | `(tactic| walk_at "c") => `(tactic| first | exact ⟨by decide, by decide⟩ | exact .inr ⟨by decide, by decide⟩ | exact .inl ⟨by decide, by decide⟩ | exact ⟨by decide, by decide, by decide⟩ | (show (0 : Int) < _; decide))
local macro_rules | `(tactic| walk_at "s") => `(tactic| first
  | (with_reducible refine r_var rfl ?_) | (with_reducible refine r_c ?_) | (with_reducible refine r_op ?_) | (with_reducible refine r_un ?_) | (with_reducible refine r_I0 ?_) | (with_reducible refine r_U ?_)
  | (with_reducible refine r_eq rfl ?_) | (with_reducible refine r_ne rfl ?_) | (with_reducible refine r_chain ?_) | (with_reducible refine r_test ?_) | (with_reducible refine r_tB ?_)
  | (with_reducible refine r_bl ?_) | (with_reducible refine r_and ?_) | (with_reducible refine r_or ?_) | (with_reducible refine r_not ?_) | (with_reducible refine r_nil ?_) | (with_reducible refine r_cons ?_)
  | (with_reducible refine r_tup ?_) | (with_reducible refine r_lst ?_) | (with_reducible refine r_cb ?_) | (with_reducible refine r_call ?_) | (with_reducible refine r_seq ?_) | (with_reducible refine r_set ?_)
  | (with_reducible refine r_drop ?_) | (with_reducible refine r_ret ?_) | (with_reducible refine r_next ?_) | (with_reducible refine r_if ?_) | (with_reducible refine r_sl ?_) | (with_reducible refine r_nop ?_) | (with_reducible refine r_prt ?_) | (with_reducible refine r_some ?_)
  | (with_reducible refine add_int ?_) | (with_reducible refine int_i ?_) | (with_reducible refine r_forR1 ?_) | (with_reducible refine r_forL ?_) | (with_reducible refine r_andV ?_) | (with_reducible refine r_orV ?_) | (with_reducible refine r_notV ?_) | (with_reducible refine r_ifE ?_) | (with_reducible refine r_lcL ?_) | (with_reducible refine r_fld ?_) | (with_reducible refine r_get ?_) | (with_reducible refine r_din ?_) | (with_reducible refine r_dget2 ?_) | ((with_reducible refine r_I ?_ ?_); (walk_at "c")))
local macro_rules | `(tactic| walk_at "g") => `(tactic| repeat walk_at "s")
section
variable {P : Program} {w : World} {K : PySem.W.Frag} {mg : Str → Option Value} {base : Heap}
/-! ### steps of the law -/
def pow4 : List Int := [1, 2, 4, 8]
def hitF (single : Bool) (n d : Int) (e : Nat) : Bool := if single then decide (d % (n + 1) = e + 1) else decide (d / pow4.getD e 0 % 2 = 1)
def innF (st : Int) (x : Str) (single : Bool) (n d : Int) (k : Nat) : List StepD := ((List.range k).filter (hitF single n d)).map fun (e : Nat) => (st, x, (e : Int))
def digF (row : List Int) (many : Nat) (i j : Nat) : Int := row.getD ((i * many + j) % row.length) 0
def midF (row : List Int) (asks : List Str) (single : Bool) (n : Int) (i : Nat) (j : Nat) : List StepD := (List.range j).flatMap fun t => innF i (asks.getD t Str.empty) single n (digF row asks.length i t) n.toNat
def outF (row : List Int) (asks : List Str) (single : Bool) (n : Int) (i : Nat) : List StepD := (List.range i).flatMap fun t => midF row asks single n t asks.length
def stepsF (row : List Int) (asks : List Str) (single : Bool) (n : Int) : List StepD := outF row asks single n n.toNat
theorem inn_snoc (st : Int) (x : Str) (single : Bool) (n d : Int) (k : Nat) : innF st x single n d (k + 1) = innF st x single n d k ++ if hitF single n d k then [(st, x, (k : Int))] else [] := by
  unfold innF
  rw [List.range_succ, List.filter_append, List.map_append]
  congr 1
  by_cases h : hitF single n d k = true
  · rw [if_pos h, List.filter_cons_of_pos h]
    rfl
  · rw [if_neg h, List.filter_cons_of_neg h]
    rfl
theorem mid_snoc (row : List Int) (asks : List Str) (single : Bool) (n : Int) (i j : Nat) : midF row asks single n i (j + 1) = midF row asks single n i j ++ innF i (asks.getD j Str.empty) single n (digF row asks.length i j) n.toNat := by
  unfold midF
  rw [List.range_succ, List.flatMap_append]
  simp
theorem out_snoc (row : List Int) (asks : List Str) (single : Bool) (n : Int) (i : Nat) : outF row asks single n (i + 1) = outF row asks single n i ++ midF row asks single n i asks.length := by
  unfold outF
  rw [List.range_succ, List.flatMap_append]
  simp
theorem pow_at {k : Nat} (h : k < 4) : atI (pow4.map V.int) (k : Int) = some (.int (pow4.getD k 0)) := row_at (row := pow4) h
theorem strs_at {xs : List Str} {j : Nat} (h : j < xs.length) : atI (xs.map V.str) (j : Int) = some (.str (xs.getD j Str.empty)) := by
  refine atI_nat ?_
  rw [List.getElem?_map, List.getElem?_eq_getElem h, List.getD_eq_getElem?_getD, List.getElem?_eq_getElem h]
  rfl
theorem pow_ne {k : Nat} (h : k < 4) : 0 < pow4.getD k 0 ∧ pow4.getD k 0 ≤ 8 := by
  match k, h with
  | 0, _ => decide
  | 1, _ => decide
  | 2, _ => decide
  | 3, _ => decide
def sp_lsteps (K : PySem.W.Frag) : Sp := fun vs H Q _ => ∃ (a b : Addr) (row : List Int) (asks : List Str) (single : Bool) (n : Int), vs = [.ref a, .int n, .ref b, .bl single] ∧ SqL K H a (row.map V.int) ∧ row.length = 16 ∧
  (∀ x ∈ row, 0 ≤ x ∧ x < 64) ∧ 1 ≤ n ∧ n ≤ 4 ∧ SqL K H b (asks.map V.str) ∧ asks.length ≤ 4 ∧
  ∀ p us H', H p = none → Ex H H' → H' p = some (.lst us) → Tups H' us ((stepsF row asks single n).map stepV) → Q (.ref p) H'
theorem ok_lsteps (T : Tp K mg) : FnOk P w K mg base CX0 1 T.a__law_steps T.d__law_steps ["_law_row", "_law_size_here", "_law_asks_here", "_law_single"] (sp_lsteps K) := by
  refine T.f__law_steps.ok sc__law_steps (fun vs H Q E h => ?_) (fun cdv A outer s H vs Q E hr h => ?_)
  · obtain ⟨a, b, row, asks, single, n, rfl, _⟩ := h
    rfl
  · obtain ⟨a, b, row, asks, single, n, rfl, hS, hlen, hb, n1, n4, hA, al, q⟩ := h
    refine ⟨_, (pss_cons (ps_set (i := 4) sc__law_steps.nd rfl (.inl rfl) (pe_lst pa_nil))
  (pss_cons (ps_for PassesOwn.never rfl (pi_range1 rfl T.n_range (pa_cons (pv 1) pa_nil)) (pg_name (i := 5) sc__law_steps.nd rfl (.inl rfl))
  (pss_one (ps_for PassesOwn.never rfl (pi_range1 rfl T.n_range (pa_cons (pe_callB c_len (by rfl) T.n_len (by rfl) (pa_cons (pv 2) pa_nil)) pa_nil)) (pg_name (i := 6) sc__law_steps.nd rfl (.inl rfl))
  (pss_cons (ps_set (i := 7) sc__law_steps.nd rfl (.inl rfl) (pe_ix ix_seq (pv 0) (pe_op op_mod (pe_callTy c_int (by rfl) T.n_int (by rfl) (pa_cons (pe_op opAdd (pe_op op_mul (pv 5) (pe_callB c_len (by rfl) T.n_len (by rfl) (pa_cons (pv 2) pa_nil))) (pv 6)) pa_nil)) (pe_callB c_len (by rfl) T.n_len (by rfl) (pa_cons (pv 0) pa_nil))) (fun _ _ => rfl)))
  (pss_one (ps_for PassesOwn.never rfl (pi_range1 rfl T.n_range (pa_cons (pv 1) pa_nil)) (pg_name (i := 8) sc__law_steps.nd rfl (.inl rfl))
  (pss_cons (ps_if (PW.pt (pw_and (pt_val (pv 3)) (pw_and1 (pt_cmpR op_eq (pe_op op_mod (pe_callTy c_int (by rfl) T.n_int (by rfl) (pa_cons (pv 7) pa_nil)) (pe_op opAdd (pv 1) pe_int)) (pe_op opAdd (pv 8) pe_int) (nomark _))))) (pss_one (ps_expr (pe_bm PySem.F.plainAttrs_list PySem.F.slot_list_append PySem.F.type_list_append mt_append (pv 4) (pa_cons (pe_tup (pa_cons (pv 5) (pa_cons (pe_ix ix_seq (pv 2) (pv 6) (fun _ _ => rfl)) (pa_cons (pv 8) pa_nil)))) pa_nil)))) pss_nil)
  (pss_one (ps_if (PW.pt (pw_and (pt_not (pt_val (pv 3))) (pw_and1 (pt_cmpR op_eq (pe_op op_mod (pe_callTy c_int (by rfl) T.n_int (by rfl) (pa_cons (pe_op op_fdiv (pv 7) (pe_ix ix_seq (pe_lst (pa_cons pe_int (pa_cons pe_int (pa_cons pe_int (pa_cons pe_int pa_nil))))) (pv 8) (fun _ _ => rfl))) pa_nil)) pe_int) pe_int (nomark _))))) (pss_one (ps_expr (pe_bm PySem.F.plainAttrs_list PySem.F.slot_list_append PySem.F.type_list_append mt_append (pv 4) (pa_cons (pe_tup (pa_cons (pv 5) (pa_cons (pe_ix ix_seq (pv 2) (pv 6) (fun _ _ => rfl)) (pa_cons (pv 8) pa_nil)))) pa_nil)))) pss_nil)))))))))
  (pss_one (ps_ret (pv 4))))), ?_⟩
    walk_at "g"
    refine ⟨sz_of (by show 0 ≤ 100000; decide), fun l hl => ?_⟩
    have e1 : Ex H (upd H l (.lst [])) := Ex.new hl
    have l1 : (upd H l (.lst [])) l = some (.lst []) := upd_same
    generalize (upd H l (.lst [])) = H1 at e1 l1
    walk_at "g"
    refine lr1_go (fun i σ' H' => ∃ y5 y6 y7 y8 us, σ' = [some (.ref a), some (.int n), some (.ref b), some (.bl single), some (.ref l), y5, y6, y7, y8] ∧ Ex H H' ∧ H' l = some (.lst us) ∧ us.length ≤ 16 * i ∧ Tups H' us ((outF row asks single n i).map stepV))
      ⟨_, _, _, _, _, rfl, e1, l1, Nat.zero_le _, .nil⟩ ⟨by omega, by omega⟩ ?_ ?_
    · rintro i σ' H' hi ⟨y5, y6, y7, y8, us, rfl, e2, l2, z2, t2⟩
      walk_at "g"
      refine len_l (ex_l e2 hA) ?_
      walk_at "g"
      refine lr1_go (fun j σ' H' => ∃ y6 y7 y8 us, σ' = [some (.ref a), some (.int n), some (.ref b), some (.bl single), some (.ref l), some (.int i), y6, y7, y8] ∧ Ex H H' ∧ H' l = some (.lst us) ∧ us.length ≤ 16 * i + 4 * j ∧ Tups H' us ((outF row asks single n i ++ midF row asks single n i j).map stepV))
        ⟨_, _, _, _, rfl, e2, l2, z2, by unfold midF; rw [List.range_zero, List.flatMap_nil, List.append_nil]; exact t2⟩ ⟨by omega, by rw [List.length_map]; omega⟩ ?_ ?_
      · rintro j σ' H' hj ⟨y6, y7, y8, us, rfl, e3, l3, z3, t3⟩
        rw [List.length_map] at hj
        walk_at "g"
        refine len_l (ex_l e3 hA) ?_
        refine r_I (.inl ⟨by omega, by omega⟩) ?_
        walk_at "g"
        refine len_l (ex_l e3 hS) ?_
        refine ⟨_, _, rfl, rfl, show (0 : Int) < _ by rw [List.length_map, hlen]; decide, ?_⟩
        have ed : ((i : Int) * ((asks.map V.str).length : Nat) + (j : Int)) % ((row.map V.int).length : Nat) = (((i * asks.length + j) % row.length : Nat) : Int) := by
          rw [List.length_map, List.length_map]
          push_cast
          rfl
        show rIx _ _ (V.int (((i : Int) * ((asks.map V.str).length : Nat) + (j : Int)) % ((row.map V.int).length : Nat))) _ _
        rw [ed]
        have hd : (i * asks.length + j) % row.length < row.length := Nat.mod_lt _ (by omega)
        refine ix_l (ex_l e3 hS) (row_at hd) ?_
        rw [show row.getD ((i * asks.length + j) % row.length) 0 = digF row asks.length i j from rfl]
        generalize hdd : digF row asks.length i j = d
        walk_at "g"
        refine lr1_go (fun k σ' H' => ∃ y8 us, σ' = [some (.ref a), some (.int n), some (.ref b), some (.bl single), some (.ref l), some (.int i), some (.int j), some (.int d), y8] ∧ Ex H H' ∧ H' l = some (.lst us) ∧ us.length ≤ 16 * i + 4 * j + k ∧ Tups H' us ((outF row asks single n i ++ midF row asks single n i j ++ innF i (asks.getD j Str.empty) single n d k).map stepV))
          ⟨_, us, rfl, e3, l3, z3, by unfold innF; rw [List.range_zero, List.filter_nil, List.map_nil, List.append_nil]; exact t3⟩ ⟨by omega, by omega⟩ ?_ ?_
        · rintro k σ' H' hk ⟨y8, us, rfl, e4, l4, z4, t4⟩
          have lz : us.length < sizeLine := sz_lt (by omega)
          have hk4 : k < 4 := by omega
          have AP : ∀ (H5 : Hp), Ex H' H5 → hitF single n d k = true → (∀ p, H5 p = none → ∀ H6, H6 = upd (upd H5 p (.tup [.int i, .str (asks.getD j Str.empty), .int k])) l (.lst (us ++ [.ref p])) → Ex H H6 ∧ H6 l = some (.lst (us ++ [.ref p])) ∧ (us ++ [V.ref p]).length ≤ 16 * i + 4 * j + (k + 1) ∧ Tups H6 (us ++ [.ref p]) ((outF row asks single n i ++ midF row asks single n i j ++ innF i (asks.getD j Str.empty) single n d (k + 1)).map stepV)) := by
            intro H5 e5 hh p hp H6 h6
            have l5 := e5 _ _ l4
            have e6 : Ex H H6 := by
              rw [h6]
              exact ex_upd (e4.trans (e5.trans (Ex.new hp))) hl
            have pl : p ≠ l := fun z => by rw [z, l5] at hp; cases hp
            have t6 : Tx H' H6 := by
              rw [h6]
              exact (tx_ex (e5.trans (Ex.new hp))).trans (tx_lst ((Ex.new hp) _ _ l5))
            refine ⟨e6, by rw [h6, upd_same], by rw [List.length_append]; show us.length + 1 ≤ _; omega, ?_⟩
            rw [inn_snoc, if_pos hh, ← List.append_assoc, List.map_append]
            refine Tups.snoc ?_ (Tups.tx t6 t4)
            refine ⟨p, rfl, ?_⟩
            rw [h6, upd_ne pl, upd_same]
            rfl
          walk_at "g"
          cases single
          · refine ite_f rfl ?_
            walk_at "g"
            refine ite_f rfl ?_
            walk_at "g"
            refine ite_t rfl ?_
            walk_at "g"
            refine ⟨sz_of (by show 4 ≤ 100000; decide), fun p4 hp4 => ?_⟩
            have e5 : Ex H' (upd H' p4 (.lst [.int 1, .int 2, .int 4, .int 8])) := Ex.new hp4
            have l5 : (upd H' p4 (.lst [.int 1, .int 2, .int 4, .int 8])) p4 = some (.lst (pow4.map V.int)) := upd_same
            generalize (upd H' p4 (.lst [.int 1, .int 2, .int 4, .int 8])) = H5 at e5 l5
            walk_at "g"
            refine ix_l (.inl (.inl l5)) (pow_at hk4) ?_
            refine r_I (C := CDiv) (⟨by have := pow_ne hk4; omega, by have := pow_ne hk4; omega⟩) ?_
            walk_at "g"
            refine ite_b (fun hc => ?_) (fun hc => ?_)
            · have z : d / pow4.getD k 0 % 2 = 1 := V.int.inj (of_decide_eq_true hc)
              refine r_drop (r_app rfl (e5 _ _ l4) ?_)
              walk_at "g"
              refine ix_l (ex_l (e4.trans e5) hA) (strs_at (by omega)) ?_
              walk_at "g"
              refine ⟨sz_of (by show 3 ≤ 100000; decide), fun p hp => ?_⟩
              obtain ⟨g1, g2, g3, g4⟩ := AP H5 e5 (by unfold hitF; rw [if_neg (by decide)]; exact decide_eq_true z) p hp _ rfl
              refine app_l ((Ex.new hp) _ _ (e5 _ _ l4)) lz ?_
              walk_at "g"
              exact ⟨_, _, rfl, g1, g2, g3, g4⟩
            · have z : ¬ d / pow4.getD k 0 % 2 = 1 := fun q0 => of_decide_eq_false hc (congrArg V.int q0)
              walk_at "g"
              refine ⟨_, us, rfl, e4.trans e5, e5 _ _ l4, by omega, ?_⟩
              rw [inn_snoc, if_neg (by unfold hitF; rw [if_neg (by decide), decide_eq_false z]; decide), List.append_nil]
              exact t4.tx (tx_ex e5)
          · refine ite_t rfl ?_
            walk_at "g"
            refine ⟨_, _, rfl, rfl, show (0 : Int) < _ by omega, ?_⟩
            walk_at "g"
            refine ite_b (fun hc => ?_) (fun hc => ?_)
            · have z : d % (n + 1) = k + 1 := V.int.inj (of_decide_eq_true hc)
              refine r_drop (r_app rfl l4 ?_)
              walk_at "g"
              refine ix_l (ex_l e4 hA) (strs_at (by omega)) ?_
              walk_at "g"
              refine ⟨sz_of (by show 3 ≤ 100000; decide), fun p hp => ?_⟩
              obtain ⟨g1, g2, g3, g4⟩ := AP H' (Ex.refl _) (by unfold hitF; rw [if_pos rfl]; exact decide_eq_true z) p hp _ rfl
              refine app_l ((Ex.new hp) _ _ l4) lz ?_
              walk_at "g"
              refine ite_f rfl ?_
              walk_at "g"
              exact ⟨_, _, rfl, g1, g2, g3, g4⟩
            · have z : ¬ d % (n + 1) = k + 1 := fun q0 => of_decide_eq_false hc (congrArg V.int q0)
              walk_at "g"
              refine ite_f rfl ?_
              walk_at "g"
              refine ⟨_, us, rfl, e4, l4, by omega, ?_⟩
              rw [inn_snoc, if_neg (by unfold hitF; rw [if_pos rfl, decide_eq_false z]; decide), List.append_nil]
              exact t4
        · rintro σ' H' ⟨y8, us, rfl, e4, l4, z4, t4⟩
          walk_at "g"
          refine ⟨_, _, _, us, rfl, e4, l4, by omega, ?_⟩
          rw [mid_snoc, hdd, ← List.append_assoc]
          exact t4
      · rintro σ' H' ⟨y6, y7, y8, us, rfl, e3, l3, z3, t3⟩
        walk_at "g"
        refine ⟨_, _, _, _, us, rfl, e3, l3, ?_, ?_⟩
        · rw [List.length_map] at z3
          omega
        · rw [out_snoc]
          rw [show ((List.map V.str asks).length : Int).toNat = asks.length by rw [List.length_map]; omega] at t3
          exact t3
    · rintro σ' H' ⟨y5, y6, y7, y8, us, rfl, e2, l2, z2, t2⟩
      walk_at "g"
      exact q l us H' hl e2 l2 t2
/-! ### marks of the law -/
def mkB (d : Int) (k : Nat) : Bool := decide (48 ≤ d) || decide (d / pow4.getD k 0 % 2 = 1)
def mkV (d : Int) : V → Bool
  | .int k => mkB d k.toNat
  | _ => false
def lmarksF (d n : Int) : List Int := ((List.range n.toNat).filter (mkB d)).map fun (k : Nat) => (k : Int)
theorem marks_ints (d : Int) (n : Nat) : ((intsV n).filter (mkV d)).map (fun v => v) = (((List.range n).filter (mkB d)).map fun (k : Nat) => (k : Int)).map V.int := by
  rw [List.map_id']
  unfold intsV
  rw [List.filter_map, List.map_map]
  rfl
def sp_lmarks (K : PySem.W.Frag) : Sp := fun vs H Q _ => ∃ (d n : Int), vs = [.int d, .int n] ∧ 1 ≤ n ∧ n ≤ 4 ∧
  ∀ p H', H p = none → Ex H H' → H' p = some (.lst ((lmarksF d n).map V.int)) → Q (.ref p) H'
theorem ok_lmarks (T : Tp K mg) : FnOk P w K mg base CX0 1 T.a__law_marks T.d__law_marks ["_law_digit", "_law_size_here"] (sp_lmarks K) := by
  refine T.f__law_marks.ok sc__law_marks (fun vs H Q E h => ?_) (fun cdv A outer s H vs Q E hr h => ?_)
  · obtain ⟨d, n, rfl, _⟩ := h
    rfl
  · obtain ⟨d, n, rfl, n1, n4, q⟩ := h
    refine ⟨_, (pss_one (ps_ret (pe_lc (own := [("_law_state", 2)]) (g := gName 2) rfl sc__law_marks.nd (pi_range1 rfl T.n_range (pa_cons (pv 1) pa_nil)) (blkOk_by (N := N__law_marks) (sc := defScope s__law_marks) (by decide +kernel)) (fun _ _ _ _ _ => (pg_name (i := 2) sc__law_marks.nd rfl (.inl rfl))) (fun _ _ _ _ _ => (pts_one (PW.pt (pw_or (pt_cmpR op_ge (pv 0) pe_int (nomark _)) (pw_or1 (pt_cmpR op_eq (pe_op op_mod (pe_callTy c_int (by rfl) T.n_int (by rfl) (pa_cons (pe_op op_fdiv (pv 0) (pe_ix (ix_seqK (K := K)) (pe_lst (pa_cons pe_int (pa_cons pe_int (pa_cons pe_int (pa_cons pe_int pa_nil))))) (pv 2) (fun _ _ => rfl))) pa_nil)) pe_int) pe_int (nomark _))))))) (fun _ _ _ _ _ => (pv 2))))), ?_⟩
    walk_at "g"
    refine lc_r (n := n) (mkV d) (fun v => v) ?_ ⟨by omega, by omega⟩ (fun _ => rfl) ?_ ?_ ?_
    · intro R r
      walk_at "g"
      exact r
    · intro x hx H1 e1 R r
      unfold intsV at hx
      obtain ⟨k, hk, rfl⟩ := List.mem_map.mp hx
      have hk4 : k < 4 := by have := List.mem_range.mp hk; omega
      have r' : ∀ H2, Ex H1 H2 → R (mkB d k) H2 := r
      walk_at "g"
      refine ite_b (fun hc => ?_) (fun hc => ?_)
      · have e : mkB d k = true := by unfold mkB; rw [hc, Bool.true_or]
        rw [e] at r'
        exact r' H1 (Ex.refl _)
      walk_at "g"
      refine ⟨sz_of (by show 4 ≤ 100000; decide), fun p4 hp4 => ?_⟩
      have e5 : Ex H1 (upd H1 p4 (.lst [.int 1, .int 2, .int 4, .int 8])) := Ex.new hp4
      have l5 : (upd H1 p4 (.lst [.int 1, .int 2, .int 4, .int 8])) p4 = some (.lst (pow4.map V.int)) := upd_same
      generalize (upd H1 p4 (.lst [.int 1, .int 2, .int 4, .int 8])) = H5 at e5 l5
      walk_at "g"
      refine ix_l (.inl (.inl l5)) (pow_at hk4) ?_
      refine r_I (C := CDiv) ⟨by have := pow_ne hk4; omega, by have := pow_ne hk4; omega⟩ ?_
      walk_at "g"
      have e : mkB d k = decide (V.int (d / pow4.getD k 0 % 2) = V.int 1) := by
        unfold mkB
        rw [hc, Bool.false_or]
        congr 1
        exact propext ⟨congrArg V.int, V.int.inj⟩
      have r2 := r' _ e5
      rw [e] at r2
      exact r2
    · intro x hx _ H1 e1 R r
      walk_at "g"
      exact r H1 (Ex.refl _)
    · intro D H1 hD e1 h1
      rw [marks_ints] at h1
      exact q D H1 hD e1 h1
/-! ### an item -/
def sp_whole : Sp := fun vs H Q _ => ∃ k : Int, vs = [.int k] ∧ Q (.bl true) H
theorem ok_whole (T : Tp K mg) : FnOk P w K mg base CX0 1 T.a__law_whole T.d__law_whole ["_law_x"] sp_whole := by
  refine T.f__law_whole.ok sc__law_whole (fun vs H Q E h => ?_) (fun cdv A outer s H vs Q E hr h => ?_)
  · obtain ⟨k, rfl, _⟩ := h
    rfl
  · obtain ⟨k, rfl, q⟩ := h
    refine ⟨_, (pss_one (ps_ret (pe_and (pe_callB c_isinstance (by rfl) T.n_isinstance (by rfl) (pa_cons (pv 0) (pa_cons (pe_bltn (by rfl) T.n_int (by rfl) (show RelV (.ty "int") (.type "int") from rfl)) pa_nil))) (pe_one (pe_not (pe_callB c_isinstance (by rfl) T.n_isinstance (by rfl) (pa_cons (pv 0) (pa_cons (pe_bltn (by rfl) T.n_bool (by rfl) (show RelV (.ty "bool") (.type "bool") from rfl)) pa_nil)))))))), ?_⟩
    walk_at "g"
    refine ⟨_, _, _, _, true, rfl, .ty _, .base (.int k), rfl, ?_⟩
    walk_at "g"
    refine ite_t rfl ?_
    walk_at "g"
    refine ⟨_, _, _, _, false, rfl, .ty _, .base (.int k), rfl, ?_⟩
    walk_at "g"
    exact q
theorem hu64_of {A : Around} {k : Nat} (hr : Room k A) : A.units + 64 < cLine := by
  have := hr.un
  omega
theorem hu65_of {A : Around} {k : Nat} (hr : Room k A) : A.units + 65 < cLine := by
  have := hr.un
  omega
end
end K08

set_option Elab.async false
set_option linter.all false
set_option maxRecDepth 100000
namespace K08
open PySem PySem.Spec PyProof.Rows L2 Evl AE
local macro_rules | `(tactic| walk_at "c") => `(tactic| first | exact ⟨by decide, by decide⟩ | exact .inr ⟨by decide, by decide⟩ | exact .inl ⟨by decide, by decide⟩ | exact ⟨by decide, by decide, by decide⟩ | (show (0 : Int) < _; decide))
local macro_rules | `(tactic| walk_at "s") => `(tactic| first
  | (with_reducible refine r_var rfl ?_) | (with_reducible refine r_c ?_) | (with_reducible refine r_op ?_) | (with_reducible refine r_un ?_) | (with_reducible refine r_I0 ?_) | (with_reducible refine r_U ?_)
  | (with_reducible refine r_eq rfl ?_) | (with_reducible refine r_ne rfl ?_) | (with_reducible refine r_chain ?_) | (with_reducible refine r_test ?_) | (with_reducible refine r_tB ?_)
  | (with_reducible refine r_bl ?_) | (with_reducible refine r_and ?_) | (with_reducible refine r_or ?_) | (with_reducible refine r_not ?_) | (with_reducible refine r_nil ?_) | (with_reducible refine r_cons ?_)
  | (with_reducible refine r_tup ?_) | (with_reducible refine r_lst ?_) | (with_reducible refine r_cb ?_) | (with_reducible refine r_call ?_) | (with_reducible refine r_seq ?_) | (with_reducible refine r_set ?_)
  | (with_reducible refine r_drop ?_) | (with_reducible refine r_ret ?_) | (with_reducible refine r_next ?_) | (with_reducible refine r_if ?_) | (with_reducible refine r_sl ?_) | (with_reducible refine r_nop ?_) | (with_reducible refine r_prt ?_) | (with_reducible refine r_some ?_)
  | (with_reducible refine add_int ?_) | (with_reducible refine int_i ?_) | (with_reducible refine r_forR1 ?_) | (with_reducible refine r_forL ?_) | ((with_reducible refine r_I ?_ ?_); (walk_at "c")))
local macro_rules | `(tactic| walk_at "g") => `(tactic| repeat walk_at "s")
section
variable {P : Program} {w : World} {K : PySem.W.Frag} {mg : Str → Option Value} {base : Heap}
def cellF (ns : List Int) (k : Int) : Int := ns.getD k.toNat 0
def sp_cell (K : PySem.W.Frag) : Sp := fun vs H Q _ => ∃ (a : Addr) (ns : List Int) (k : Int), vs = [.ref a, .int k] ∧ SqL K H a (ns.map V.int) ∧ 0 ≤ k ∧ Q (.int (cellF ns k)) H
theorem ok_cell (T : Tp K mg) : FnOk P w K mg base CX0 1 T.a__law_cell T.d__law_cell ["_law_script", "_law_k"] (sp_cell K) := by
  refine T.f__law_cell.ok sc__law_cell (fun vs H Q E h => ?_) (fun cdv A outer s H vs Q E hr h => ?_)
  · obtain ⟨a, ns, k, rfl, _⟩ := h
    rfl
  · obtain ⟨a, ns, k, rfl, hS, hk, q⟩ := h
    refine ⟨_, (pss_cons (ps_if (pt_cmpR op_lt (pv 1) (pe_callB c_len (by rfl) T.n_len (by rfl) (pa_cons (pv 0) pa_nil)) (nomark _)) (pss_one (ps_ret (pe_ix ix_seq (pv 0) (pv 1) (fun _ _ => rfl)))) pss_nil)
      (pss_one (ps_ret pe_int))), ?_⟩
    walk_at "g"
    refine len_l hS ?_
    walk_at "g"
    refine ite_b (fun hb => ?_) (fun hb => ?_)
    · walk_at "g"
      have hb' := of_decide_eq_true hb
      rw [List.length_map] at hb'
      have hk2 : k.toNat < ns.length := by omega
      refine ix_l (v := .int (cellF ns k)) hS ?_ q
      refine at_of (j := k.toNat) (by omega) ?_
      rw [List.getElem?_map, List.getElem?_eq_getElem hk2]
      unfold cellF
      rw [List.getD_eq_getElem?_getD, List.getElem?_eq_getElem hk2]
      rfl
    · walk_at "g"
      have hb' := of_decide_eq_false hb
      rw [List.length_map] at hb'
      have e : cellF ns k = 0 := by
        unfold cellF
        rw [List.getD_eq_getElem?_getD, List.getElem?_eq_none (by omega)]
        rfl
      rw [e] at q
      exact q
def restF : Nat → Int → List Int
  | 0, _ => []
  | n + 1, r => r % 64 :: restF n (r / 64)
def seedF : Nat → Int → Int → List Int
  | 0, _, _ => []
  | n + 1, t, s => (s * 48271 + t + 11) % 2147483647 / 65536 % 64 :: seedF n (t + 1) ((s * 48271 + t + 11) % 2147483647)
def drawsF (ns : List Int) (k many : Int) : List Int :=
  if 10 ^ 18 ≤ cellF ns k then restF many.toNat (cellF ns k - 10 ^ 18)
  else seedF many.toNat 0 ((cellF ns k * 7919 + k * 104729 + 12345) % 2147483647)
theorem restF_len : ∀ n r, (restF n r).length = n
  | 0, _ => rfl
  | n + 1, r => by show (restF n (r / 64)).length + 1 = n + 1; rw [restF_len n]
theorem seedF_len : ∀ n t s, (seedF n t s).length = n
  | 0, _, _ => rfl
  | n + 1, t, s => by show (seedF n _ _).length + 1 = n + 1; rw [seedF_len n]
theorem restF_bd : ∀ n r, ∀ x ∈ restF n r, 0 ≤ x ∧ x < 64
  | 0, _, x, h => by cases h
  | n + 1, r, x, h => by
    rcases List.mem_cons.mp h with rfl | h
    · omega
    · exact restF_bd n _ x h
theorem seedF_bd : ∀ n t s, ∀ x ∈ seedF n t s, 0 ≤ x ∧ x < 64
  | 0, _, _, x, h => by cases h
  | n + 1, t, s, x, h => by
    rcases List.mem_cons.mp h with rfl | h
    · omega
    · exact seedF_bd n _ _ x h
/-- the row after i turns, and the rest of it -/
def restN : Nat → Int → Int
  | 0, r => r
  | n + 1, r => restN n (r / 64)
theorem restF_snoc : ∀ n r, restF (n + 1) r = restF n r ++ [restN n r % 64]
  | 0, _ => rfl
  | n + 1, r => by
    show r % 64 :: restF (n + 1) (r / 64) = r % 64 :: (restF n (r / 64) ++ [restN n (r / 64) % 64])
    rw [restF_snoc n]
theorem restN_snoc : ∀ n r, restN (n + 1) r = restN n r / 64
  | 0, _ => rfl
  | n + 1, r => restN_snoc n (r / 64)
def seedN : Nat → Int → Int → Int
  | 0, _, s => s
  | n + 1, t, s => seedN n (t + 1) ((s * 48271 + t + 11) % 2147483647)
theorem seedN_snoc : ∀ (n : Nat) t s, seedN (n + 1) t s = (seedN n t s * 48271 + (t + n) + 11) % 2147483647
  | 0, t, s => by show (s * 48271 + t + 11) % 2147483647 = (s * 48271 + (t + (0 : Nat)) + 11) % 2147483647; congr 1; omega
  | n + 1, t, s => by
    show seedN (n + 1) (t + 1) _ = (seedN n (t + 1) _ * 48271 + (t + ((n + 1 : Nat) : Int)) + 11) % 2147483647
    rw [seedN_snoc n]
    congr 1
    omega
theorem seedF_snoc : ∀ (n : Nat) t s, seedF (n + 1) t s = seedF n t s ++ [(seedN n t s * 48271 + (t + n) + 11) % 2147483647 / 65536 % 64]
  | 0, t, s => by show [(s * 48271 + t + 11) % 2147483647 / 65536 % 64] = [(s * 48271 + (t + (0 : Nat)) + 11) % 2147483647 / 65536 % 64]; rw [show t + ((0 : Nat) : Int) = t by omega]
  | n + 1, t, s => by
    show _ :: seedF (n + 1) (t + 1) _ = _ :: (seedF n (t + 1) _ ++ [(seedN n (t + 1) _ * 48271 + (t + ((n + 1 : Nat) : Int)) + 11) % 2147483647 / 65536 % 64])
    rw [seedF_snoc n]
    congr 6
    omega
theorem draws_len (ns : List Int) (k many : Int) : (drawsF ns k many).length = many.toNat := by
  unfold drawsF
  split
  · exact restF_len _ _
  · exact seedF_len _ _ _
theorem draws_bd (ns : List Int) (k many : Int) : ∀ x ∈ drawsF ns k many, 0 ≤ x ∧ x < 64 := by
  unfold drawsF
  split
  · exact restF_bd _ _
  · exact seedF_bd _ _ _
def sp_draws (K : PySem.W.Frag) : Sp := fun vs H Q _ => ∃ (a : Addr) (ns : List Int) (k many : Int), vs = [.ref a, .int k, .int many] ∧ SqL K H a (ns.map V.int) ∧ 0 ≤ k ∧ 0 ≤ many ∧ many ≤ 1000 ∧
  ∀ p H', H p = none → Ex H H' → H' p = some (.lst ((drawsF ns k many).map V.int)) → Q (.ref p) H'
theorem ok_draws (T : Tp K mg) : FnOk P w K mg base CX0 2 T.a__law_draws T.d__law_draws ["_law_script", "_law_k", "_law_many"] (sp_draws K) := by
  have G__law_cell : FnOk P w K mg base CX0 1 T.a__law_cell T.d__law_cell ["_law_script", "_law_k"] (sp_cell K) := ok_cell T
  refine T.f__law_draws.ok sc__law_draws (fun vs H Q E h => ?_) (fun cdv A outer s H vs Q E hr h => ?_)
  · obtain ⟨a, ns, k, many, rfl, _⟩ := h
    rfl
  · obtain ⟨a, ns, k, many, rfl, hS, hk, hm, hm2, q⟩ := h
    refine ⟨_, (pss_cons (ps_set (i := 3) sc__law_draws.nd rfl (.inl rfl) (pe_call G__law_cell (hr.mono (by decide)) (by rfl) T.g__law_cell T.f__law_cell.kp T.b__law_cell .nil pass0 (pa_cons (pv 0) (pa_cons (pv 1) pa_nil))))
  (pss_cons (ps_set (i := 4) sc__law_draws.nd rfl (.inl rfl) (pe_lst pa_nil))
  (pss_cons (ps_if (pt_cmpR op_ge (pv 3) (pe_op op_pow pe_int pe_int) (nomark _)) (pss_cons (ps_set (i := 5) sc__law_draws.nd rfl (.inl rfl) (pe_op op_sub (pv 3) (pe_op op_pow pe_int pe_int)))
  (pss_cons (ps_for PassesOwn.never rfl (pi_range1 rfl T.n_range (pa_cons (pv 2) pa_nil)) (pg_name (i := 6) sc__law_draws.nd rfl (.inl rfl))
  (pss_cons (ps_expr (pe_bm PySem.F.plainAttrs_list PySem.F.slot_list_append PySem.F.type_list_append mt_append (pv 4) (pa_cons (pe_op op_mod (pe_callTy c_int (by rfl) T.n_int (by rfl) (pa_cons (pv 5) pa_nil)) pe_int) pa_nil)))
  (pss_one (ps_set (i := 5) sc__law_draws.nd rfl (.inl rfl) (pe_op op_fdiv (pv 5) pe_int)))))
  (pss_one (ps_ret (pv 4))))) pss_nil)
  (pss_cons (ps_set (i := 7) sc__law_draws.nd rfl (.inl rfl) (pe_op op_mod (pe_callTy c_int (by rfl) T.n_int (by rfl) (pa_cons (pe_op opAdd (pe_op opAdd (pe_op op_mul (pv 3) pe_int) (pe_op op_mul (pv 1) pe_int)) pe_int) pa_nil)) pe_int))
  (pss_cons (ps_for PassesOwn.never rfl (pi_range1 rfl T.n_range (pa_cons (pv 2) pa_nil)) (pg_name (i := 6) sc__law_draws.nd rfl (.inl rfl))
  (pss_cons (ps_set (i := 7) sc__law_draws.nd rfl (.inl rfl) (pe_op op_mod (pe_callTy c_int (by rfl) T.n_int (by rfl) (pa_cons (pe_op opAdd (pe_op opAdd (pe_op op_mul (pv 7) pe_int) (pv 6)) pe_int) pa_nil)) pe_int))
  (pss_one (ps_expr (pe_bm PySem.F.plainAttrs_list PySem.F.slot_list_append PySem.F.type_list_append mt_append (pv 4) (pa_cons (pe_op op_mod (pe_callTy c_int (by rfl) T.n_int (by rfl) (pa_cons (pe_op op_fdiv (pv 7) pe_int) pa_nil)) pe_int) pa_nil))))))
  (pss_one (ps_ret (pv 4)))))))), ?_⟩
    walk_at "g"
    refine ⟨a, ns, k, rfl, hS, hk, ?_⟩
    walk_at "g"
    refine ⟨by decide, fun l hl => ?_⟩
    have e1 : Ex H (upd H l (.lst [])) := Ex.new hl
    have l1 : (upd H l (.lst [])) l = some (.lst []) := upd_same
    generalize (upd H l (.lst [])) = H1 at e1 l1
    walk_at "g"
    refine ite_b (fun hb => ?_) (fun hb => ?_)
    · have hb' := of_decide_eq_true hb
      walk_at "g"
      refine lr1_go (fun i σ' H' => ∃ y, σ' = [some (.ref a), some (.int k), some (.int many), some (.int (cellF ns k)), some (.ref l), some (.int (restN i (cellF ns k - 10 ^ 18))), y, none] ∧ Ex H H' ∧ H' l = some (.lst ((restF i (cellF ns k - 10 ^ 18)).map V.int)))
        ⟨none, rfl, e1, l1⟩ ⟨hm, by omega⟩ ?_ ?_
      · rintro i σ' H' hi ⟨y, rfl, e2, l2⟩
        walk_at "g"
        refine r_app rfl l2 ?_
        walk_at "g"
        refine app_l l2 (by rw [List.length_map, restF_len]; exact sz_lt (by omega)) ?_
        walk_at "g"
        refine ⟨some (.int i), ?_, ex_upd e2 hl, ?_⟩
        · rw [restN_snoc]
          rfl
        · rw [upd_same, restF_snoc, List.map_append]
          rfl
      · rintro σ' H' ⟨y, rfl, e2, l2⟩
        walk_at "g"
        refine q l H' hl e2 ?_
        rw [l2]
        unfold drawsF
        rw [if_pos (show (10 : Int) ^ 18 ≤ cellF ns k from hb')]
    · have hb' := of_decide_eq_false hb
      walk_at "g"
      refine lr1_go (fun i σ' H' => ∃ y, σ' = [some (.ref a), some (.int k), some (.int many), some (.int (cellF ns k)), some (.ref l), none, y, some (.int (seedN i 0 ((cellF ns k * 7919 + k * 104729 + 12345) % 2147483647)))] ∧ Ex H H' ∧
        H' l = some (.lst ((seedF i 0 ((cellF ns k * 7919 + k * 104729 + 12345) % 2147483647)).map V.int)))
        ⟨none, rfl, e1, l1⟩ ⟨hm, by omega⟩ ?_ ?_
      · rintro i σ' H' hi ⟨y, rfl, e2, l2⟩
        walk_at "g"
        refine r_app rfl l2 ?_
        walk_at "g"
        refine app_l l2 (by rw [List.length_map, seedF_len]; exact sz_lt (by omega)) ?_
        walk_at "g"
        refine ⟨some (.int i), ?_, ex_upd e2 hl, ?_⟩
        · rw [seedN_snoc, Int.zero_add]
          rfl
        · rw [upd_same, seedF_snoc, List.map_append, Int.zero_add]
          rfl
      · rintro σ' H' ⟨y, rfl, e2, l2⟩
        walk_at "g"
        refine q l H' hl e2 ?_
        rw [l2]
        unfold drawsF
        rw [if_neg (show ¬ (10 : Int) ^ 18 ≤ cellF ns k from hb')]
end
end K08

set_option Elab.async false
set_option linter.all false
set_option maxRecDepth 100000
namespace K08
open PySem PySem.Spec PyProof.Rows L2 Evl AE
local macro_rules | `(tactic| walk_at "c") => `(tactic| first | exact ⟨by decide, by decide⟩ | exact .inr ⟨by decide, by decide⟩ | exact .inl ⟨by decide, by decide⟩ | exact ⟨by decide, by decide, by decide⟩ | (show (0 : Int) < _; decide))
local macro_rules | `(tactic| walk_at "s") => `(tactic| first
  | (with_reducible refine r_var rfl ?_) | (with_reducible refine r_c ?_) | (with_reducible refine r_op ?_) | (with_reducible refine r_un ?_) | (with_reducible refine r_I0 ?_) | (with_reducible refine r_U ?_)
  | (with_reducible refine r_eq rfl ?_) | (with_reducible refine r_ne rfl ?_) | (with_reducible refine r_chain ?_) | (with_reducible refine r_test ?_) | (with_reducible refine r_tB ?_)
  | (with_reducible refine r_bl ?_) | (with_reducible refine r_and ?_) | (with_reducible refine r_or ?_) | (with_reducible refine r_not ?_) | (with_reducible refine r_nil ?_) | (with_reducible refine r_cons ?_)
  | (with_reducible refine r_tup ?_) | (with_reducible refine r_lst ?_) | (with_reducible refine r_cb ?_) | (with_reducible refine r_call ?_) | (with_reducible refine r_seq ?_) | (with_reducible refine r_set ?_)
  | (with_reducible refine r_drop ?_) | (with_reducible refine r_ret ?_) | (with_reducible refine r_next ?_) | (with_reducible refine r_if ?_) | (with_reducible refine r_sl ?_) | (with_reducible refine r_nop ?_) | (with_reducible refine r_prt ?_) | (with_reducible refine r_some ?_)
  | (with_reducible refine add_int ?_) | (with_reducible refine int_i ?_) | (with_reducible refine r_forR1 ?_) | (with_reducible refine r_forL ?_) | (with_reducible refine r_andV ?_) | (with_reducible refine r_orV ?_) | (with_reducible refine r_notV ?_) | (with_reducible refine r_ifE ?_) | (with_reducible refine r_lcL ?_) | (with_reducible refine r_fld ?_) | (with_reducible refine r_get ?_) | (with_reducible refine r_din ?_) | (with_reducible refine r_dget2 ?_) | ((with_reducible refine r_I ?_ ?_); (walk_at "c")))
local macro_rules | `(tactic| walk_at "g") => `(tactic| repeat walk_at "s")
section
variable {P : Program} {w : World} {K : PySem.W.Frag} {mg : Str → Option Value} {base : Heap}
theorem tups_rev {H : Hp} : ∀ {vs : List V} {xs : List (List V)}, Tups H vs xs → Tups H vs.reverse xs.reverse
  | _, _, .nil => .nil
  | _, _, .cons h t => by
    rw [List.reverse_cons, List.reverse_cons]
    exact (tups_rev t).snoc h
/-- a machine of the law -/
theorem law_makes {C : Addr} (mc : MCls K C) {σ : L2.St} {H : Hp} {Q : VK} {n i : Int} {pS pm : Addr} {us : List V} {ss : List StepD} {ms : List Int}
    (v2 : σ[2]? = some (some (.int n))) (v5 : σ[5]? = some (some (.ref pS))) (v6 : σ[6]? = some (some (.ref pm))) (v7 : σ[7]? = some (some (.int i)))
    (h5 : H pS = some (.lst us)) (t5 : Tups H us (ss.map stepV)) (h6 : H pm = some (.lst (ms.map V.int))) (n1 : 1 ≤ n) (n2 : n ≤ 4) (mok : ∀ m ∈ ms, 0 ≤ m ∧ m < n) (ml : ms.length ≤ 4)
    (sok : ∀ s ∈ ss, OkS n s) (sl : ss.length ≤ 600) (i0 : 0 ≤ i) (i1 : i < n)
    (q : ∀ x m H', Ex H H' → Made n ms ss.reverse i m → MachAt H' x C m → Q (.ref x) H') :
    tMake C (sp_init K) [] E0 (tCons (tVar 2) (tCons (tCB (cList K) (tCons (tVar 6) tNil)) (tCons (tRevL K (tVar 5)) (tCons (tVar 7) tNil)))) σ H Q := by
  refine r_cons ?_
  refine r_var v2 ?_
  refine r_cons ?_
  refine r_cb ?_
  refine r_cons ?_
  refine r_var v6 ?_
  refine r_nil ?_
  refine list_s (.inl (.inl (.inl h6))) fun l H1 hl e1 t1 => ?_
  refine r_cons ?_
  refine ⟨_, v5, pS, us, rfl, .inl (.inl (e1 _ _ h5)), fun p hp => ?_⟩
  have e2 : Ex H1 (upd H1 p (.lst us.reverse)) := Ex.new hp
  have t2 : (upd H1 p (.lst us.reverse)) p = some (.lst us.reverse) := upd_same
  generalize (upd H1 p (.lst us.reverse)) = H2 at e2 t2
  refine r_cons ?_
  refine r_var v7 ?_
  refine r_nil ?_
  intro x dx hx hdx ne
  have e3 : Ex H2 (upd (upd H2 dx (.own x)) x (.ins C dx [])) := (Ex.new hdx).trans (Ex.new (by rw [upd_ne (fun z => ne z.symm)]; exact hx))
  have t3 : (upd (upd H2 dx (.own x)) x (.ins C dx [])) x = some (.ins C dx []) := upd_same
  generalize (upd (upd H2 dx (.own x)) x (.ins C dx [])) = H3 at e3 t3
  have tr := tups_rev (t5.tx (tx_ex (e1.trans (e2.trans e3))))
  rw [← List.map_reverse] at tr
  refine ⟨x, C, dx, l, p, n, i, ms, us.reverse, ss.reverse, rfl, t3, mc, n1, by omega, .inl (.inl (.inl ((e2.trans e3) _ _ t1))), mok, by omega, .inl (.inl (.inl (e3 _ _ t2))), tr, fun s hs => sok s (List.mem_reverse.mp hs), by rw [List.length_reverse]; exact sl, i0, i1, fun m H' md ma c => ⟨rfl, ?_⟩⟩
  exact q x m H' ((e1.trans e2).trans (ex_ch e3 hx c)) md ma
/-! the ends that are due -/
def dueF (ss : List StepD) (n : Int) (here : Int) (ask : Str) : List Int := ((List.range n.toNat).filter fun (e : Nat) => decide ((here, ask, (e : Int)) ∈ ss)).map fun (e : Nat) => (e : Int)
theorem range_up : ∀ k : Nat, (List.range k).Pairwise (· < ·)
  | 0 => by rw [List.range_zero]; exact .nil
  | k + 1 => by
    rw [List.range_succ, List.pairwise_append]
    exact ⟨range_up k, List.pairwise_singleton _ _, fun a ha b hb => by rw [List.mem_singleton.mp hb]; exact List.mem_range.mp ha⟩
theorem ends_due {n : Int} {ms : List Int} {ss : List StepD} {i : Int} {m : Mach} {ask : Str} (md : Made n ms ss.reverse i m) (sok : ∀ s ∈ ss, OkS n s) :
    endsF m.rows [.inl m.now, .inr ask] = (dueF ss n i ask).map V.int := by
  have key : (m.rows.filter fun s => decide ([Sum.inl s.1, Sum.inr s.2.1] = ([.inl m.now, .inr ask] : List Key))) = ((List.range n.toNat).filter fun (e : Nat) => decide ((i, ask, (e : Int)) ∈ ss)).map fun (e : Nat) => (i, ask, (e : Int)) := by
    refine rows_eq (md.up.filter _) ?_ fun s => ?_
    · rw [List.pairwise_map]
      refine ((range_up _).filter _).imp fun {a b} h => ?_
      exact .inr ⟨rfl, .inr ⟨rfl, by show (a : Int) < b; omega⟩⟩
    · obtain ⟨s1, s2, s3⟩ := s
      rw [List.mem_filter, md.mem, List.mem_reverse, List.mem_map, md.now, decide_eq_true_iff]
      constructor
      · rintro ⟨h1, h2⟩
        have z1 : s1 = i := Sum.inl.inj (List.cons.inj h2).1
        have z2 : s2 = ask := Sum.inr.inj (List.cons.inj (List.cons.inj h2).2).1
        subst z1 z2
        have o := sok _ h1
        have p0 : 0 ≤ s3 := o.e0
        have p1 : s3 < n := o.e1
        refine ⟨s3.toNat, ?_, ?_⟩
        · rw [List.mem_filter, List.mem_range, decide_eq_true_iff, show ((s3.toNat : Nat) : Int) = s3 by omega]
          exact ⟨by omega, h1⟩
        · rw [show ((s3.toNat : Nat) : Int) = s3 by omega]
      · rintro ⟨e, h1, h2⟩
        rw [List.mem_filter, decide_eq_true_iff] at h1
        rw [← h2]
        exact ⟨h1.2, rfl⟩
  unfold endsF dueF
  rw [key, List.map_map, List.map_map]
  rfl
theorem inn_mem {st : Int} {x : Str} {single : Bool} {n d : Int} {k : Nat} {s : StepD} (h : s ∈ innF st x single n d k) : s.1 = st ∧ s.2.1 = x ∧ 0 ≤ s.2.2 ∧ s.2.2 < k := by
  unfold innF at h
  obtain ⟨e, he, rfl⟩ := List.mem_map.mp h
  have h2 := List.mem_range.mp (List.mem_filter.mp he).1
  exact ⟨rfl, rfl, by show 0 ≤ ((e : Nat) : Int); omega, by show ((e : Nat) : Int) < k; omega⟩
theorem steps_ok {row : List Int} {asks : List Str} {single : Bool} {n : Int} (n1 : 1 ≤ n) (ak : ∀ x ∈ asks, AskOk x) : ∀ s ∈ stepsF row asks single n, OkS n s := fun s hs => by
  unfold stepsF outF at hs
  obtain ⟨i, hi, hs⟩ := List.mem_flatMap.mp hs
  unfold midF at hs
  obtain ⟨j, hj, hs⟩ := List.mem_flatMap.mp hs
  have hi' := List.mem_range.mp hi
  have hj' := List.mem_range.mp hj
  obtain ⟨z1, z2, z3, z4⟩ := inn_mem hs
  have ax : AskOk (asks.getD j Str.empty) := by
    rw [List.getD_eq_getElem?_getD, List.getElem?_eq_getElem hj']
    exact ak _ (List.getElem_mem hj')
  rw [← z2] at ax
  exact ⟨by omega, by omega, ax.1, ax.2.1, ax.2.2, z3, by omega⟩
theorem inn_len (st : Int) (x : Str) (single : Bool) (n d : Int) (k : Nat) : (innF st x single n d k).length ≤ k := by
  unfold innF
  rw [List.length_map]
  exact Nat.le_trans (List.length_filter_le _ _) (by rw [List.length_range]; exact Nat.le_refl _)
theorem mid_len (row : List Int) (asks : List Str) (single : Bool) (n : Int) (i : Nat) : ∀ j, (midF row asks single n i j).length ≤ j * n.toNat
  | 0 => by unfold midF; simp
  | j + 1 => by
    rw [mid_snoc, List.length_append, Nat.add_mul, Nat.one_mul]
    exact Nat.add_le_add (mid_len row asks single n i j) (inn_len _ _ _ _ _ _)
theorem out_len (row : List Int) (asks : List Str) (single : Bool) (n : Int) : ∀ i, (outF row asks single n i).length ≤ i * (asks.length * n.toNat)
  | 0 => by unfold outF; simp
  | i + 1 => by
    rw [out_snoc, List.length_append, Nat.add_mul, Nat.one_mul]
    exact Nat.add_le_add (out_len row asks single n i) (mid_len _ _ _ _ _ _)
theorem steps_len {row : List Int} {asks : List Str} {single : Bool} {n : Int} (n4 : n ≤ 4) (al : asks.length ≤ 4) : (stepsF row asks single n).length ≤ 600 := by
  have h := out_len row asks single n n.toNat
  have h1 : asks.length * n.toNat ≤ 4 * 4 := Nat.mul_le_mul al (by omega)
  have h2 : n.toNat * (asks.length * n.toNat) ≤ 4 * (4 * 4) := Nat.mul_le_mul (by omega) h1
  unfold stepsF
  omega
theorem lmarks_ok {d n : Int} : ∀ m ∈ lmarksF d n, 0 ≤ m ∧ m < n := fun m hm => by
  unfold lmarksF at hm
  obtain ⟨e, he, rfl⟩ := List.mem_map.mp hm
  have h2 := List.mem_range.mp (List.mem_filter.mp he).1
  omega
theorem lmarks_len {d n : Int} (n4 : n ≤ 4) : (lmarksF d n).length ≤ 4 := by
  unfold lmarksF
  rw [List.length_map]
  have := List.length_filter_le (mkB d) (List.range n.toNat)
  rw [List.length_range] at this
  omega
theorem marks_now {n i : Int} {ms : List Int} {ss : List StepD} {m : Mach} (md : Made n ms ss i m) (i0 : 0 ≤ i) (i1 : i < n) : decide (m.now ∈ m.marks) = decide (i ∈ ms) := by
  rw [md.now, md.marks]
  refine decide_eq_decide.mpr ?_
  unfold marksF
  rw [List.mem_filter, decide_eq_true_iff]
  refine ⟨fun h => h.2, fun h => ⟨List.mem_map.mpr ⟨i.toNat, List.mem_range.mpr (by omega), by omega⟩, h⟩⟩
theorem due_len (ss : List StepD) {n : Int} (n4 : n ≤ 4) (here : Int) (ask : Str) : (dueF ss n here ask).length ≤ 4 := by
  unfold dueF
  rw [List.length_map]
  have := List.length_filter_le (fun (e : Nat) => decide ((here, ask, (e : Int)) ∈ ss)) (List.range n.toNat)
  rw [List.length_range] at this
  omega
def dueV (ss : List StepD) (here : Int) (ask : Str) : V → Bool
  | .int e => decide ((here, ask, e) ∈ ss)
  | _ => false
theorem due_ints (ss : List StepD) (n here : Int) (ask : Str) : ((intsV n.toNat).filter (dueV ss here ask)).map (fun v => v) = (dueF ss n here ask).map V.int := by
  rw [List.map_id']
  unfold intsV dueF
  rw [List.filter_map, List.map_map]
  rfl
theorem ask_strOk {x : Str} (h : ∀ c ∈ x.cps.toList, 97 ≤ c ∧ c ≤ 122) : PyData.strOk x = true := by
  show x.cps.all (fun c => decide (c < 1114112)) = true
  rw [← Array.all_toList, List.all_eq_true]
  intro c hc
  have := h c hc
  exact decide_eq_true (by omega)
end
end K08

set_option Elab.async false
set_option linter.all false
set_option maxRecDepth 100000
set_option maxHeartbeats 2000000
/-! t.count(i) of a tuple of ints -/
namespace AE
open PySem PySem.Spec PyProof.Rows L2 Evl
def isInt (k : Int) : Value → Bool
  | .int j _ => j == k
  | _ => false
def rCountT (K : PySem.W.Frag) : V → List V → Hp → VK → Prop := fun x vs H Q => ∃ (a : Addr) (ms : List Int) (k : Int), x = .ref a ∧ vs = [.int k] ∧ SqT K H a (ms.map V.int) ∧ Q (.int ((ms.countP fun j => j == k : Nat) : Int)) H
theorem count_vals {k : Int} : ∀ {ms : List Int} {us : List Value}, Vals (ms.map V.int) us → us.countP (isInt k) = ms.countP fun j => j == k
  | [], _, .nil => rfl
  | m :: ms, _, .cons r t => by
    obtain ⟨tk, rfl⟩ := r
    rw [List.countP_cons, List.countP_cons, count_vals t]
    rfl
theorem mem_vals : ∀ {ms : List Int} {us : List Value}, Vals (ms.map V.int) us → ∀ u ∈ us, ∃ j t, u = .int j t
  | [], _, .nil, _, h => nomatch h
  | m :: ms, _, .cons r t, u, h => by
    rcases List.mem_cons.mp h with rfl | h
    · obtain ⟨tk, rfl⟩ := r
      exact ⟨_, _, rfl⟩
    · exact mem_vals t u h
section
variable {X : Cx}
theorem mt_countT : MtR X "tuple.count" (rCountT X.K) := by
  rintro pins s σ H x xs v us Q I rx rxs ⟨a, ms, k, rfl, rfl, hs, q⟩
  cases rx
  obtain ⟨its, rv, ⟨⟨cls, dd, data, sl⟩, ho, hc, n, hd⟩, hlen⟩ := I.tuple hs
  obtain ⟨u, rfl, tk, rfl⟩ := vals1 rxs
  simp only at hc hd
  subst hc hd
  refine call_meets PySem.F.slot_tuple_count ⟨_, ho, rfl⟩ PySem.F.entry_tuple_count (PySem.F.args_tuple_count_2 _ _) (SeqAt.tuple_countAt a its.toArray n dd sl (.int k tk) (isInt k)) ⟨ho, fun u hu => ?_, ?_⟩
  · obtain ⟨j, t, rfl⟩ := mem_vals rv u (by simpa using hu)
    exact SeqAt.EqAt.int_int j t k tk
  · rw [show its.toArray.toList = its from rfl, count_vals rv]
    exact ⟨.int _, H, I.tok _, ⟨_, rfl⟩, q⟩
end
end AE
namespace AE
open PySem PySem.Spec PyProof.Rows L2 Evl
/-- a tuple whose object is known to bear no dict: its methods may be called -/
def TupF (H : Hp) (a : Addr) (xs : List V) : Prop := ∃ o : Obj, o.cls = .type "tuple" ∧ o.dict = none ∧ H a = some (.frz o (.tup xs))
theorem TupF.sq {K : PySem.W.Frag} {H : Hp} {a : Addr} {xs : List V} (h : TupF H a xs) : SqT K H a xs := h.elim fun o z => .inl (.inr ⟨o, z.2.2⟩)
theorem TupF.ex {H H' : Hp} {a : Addr} {xs : List V} (e : Ex H H') (h : TupF H a xs) : TupF H' a xs := h.elim fun o z => ⟨o, z.1, z.2.1, e _ _ z.2.2⟩
theorem TupF.ch {H H' : Hp} {x C dx a : Addr} {fs : List (Str × V)} {xs : List V} (hx : H x = some (.ins C dx fs)) (c : Ch x H H') (h : TupF H a xs) : TupF H' a xs := h.elim fun o z => ⟨o, z.1, z.2.1, c _ _ (ne_of z.2.2 hx (by intro w; cases w)) z.2.2⟩
theorem TupF.tup {H : Hp} {a D : Addr} {xs : List V} {o : HO} (hD : H D = some o) (h : TupF H a xs) (ne : ∀ ob u, o ≠ .frz ob u) {o2 : HO} : TupF (upd H D o2) a xs := h.elim fun ob z => ⟨ob, z.1, z.2.1, by rw [upd_ne (ne_of z.2.2 hD (Ne.symm (ne _ _)))]; exact z.2.2⟩
def NewF (H : Hp) (xs : List V) (Q : VK) : Prop := ∀ q o, H q = none → o.cls = .type "tuple" → o.dict = none → Q (.ref q) (upd H q (.frz o (.tup xs)))
theorem newf_go {H : Hp} {xs : List V} {Q : VK} (k : ∀ q H1, H q = none → Ex H H1 → TupF H1 q xs → Q (.ref q) H1) : NewF H xs Q := fun q o nq hc hd => k q _ nq (Ex.new nq) ⟨o, hc, hd, upd_same⟩
section
variable {X : Cx} {K : PySem.W.Frag} {pos apos cpos : Pos} {es : List Expr} {t : TA} {x1 : Nat} {o e : Expr} {to : TE}
def tTupF (t : TA) : TE := fun σ H Q => t σ H fun xs H1 => xs.length ≤ sizeLine ∧ NewF H1 xs Q
theorem laidF {pins : List (Addr × Obj)} {σ : L2.St} {H : Hp} {s : Shared} {xs : List V} {us : List Value} {Q : VK} {t' : Nat} (I : Inv X pins σ H s) (r : Vals xs us) (z : xs.length ≤ sizeLine) (q : NewF H xs Q) :
    EP X pins σ Q (.ref s.heap.objs.size) { s with heap := s.heap.push { cls := .type "tuple", data := .seq us.toArray }, toks := t' } :=
  ⟨.ref s.heap.objs.size, _, I.laid (a := s.heap.objs.size) (o := .frz { cls := .type "tuple", data := .seq us.toArray } (.tup xs)) (fun _ _ e => Heap.get?_push_of_some _ e) (Nat.le_refl _) ⟨Heap.get?_push_size _ rfl, z, us, r, IsTup.new _ _⟩, rfl, q _ _ (I.hok.fresh (Nat.le_refl _)) rfl rfl⟩
/-- (e, ..) -/
theorem pe_tupF (h : PA X es t) : PE X (.Tuple es x1 pos) (tTupF t) := ⟨fun pins s σ H Q I hq =>
  wpAny_Tuple_spliced (thn (h.run pos pins s σ H _ I hq) fun us s1 ⟨xs, H1, I1, r, z, q⟩ => ⟨by rw [← r.length]; exact z, laidF (t' := s1.toks) I1 r z q⟩)⟩
/-- tuple(l) of a list -/
def cTupF (K : PySem.W.Frag) : List V → Hp → VK → Prop := fun vs H Q => ∃ p xs, vs = [.ref p] ∧ SqL K H p xs ∧ NewF H xs Q
theorem c_tupleF : CallR X (.type "tuple") (cTupF X.K) := by
  rintro pins s σ H vs us Q I r ⟨p, xs, rfl, hs, q⟩
  rw [Vals.ref1 r]
  obtain ⟨its, rv, pl, hz⟩ := I.list hs
  refine call_tuple_list pl.isList (fun h' hk => ?_) (by rw [List.size_toArray, ← rv.length]; exact hz)
  exact laidF (s := { s with heap := h' }) (t' := s.toks) (I.kept (t' := s.toks) hk) rv hz q
/-- t.count(i) -/
def tCountF (K : PySem.W.Frag) (to : TE) (t : TA) : TE := fun σ H Q => to σ H fun x H1 => (∃ a xs, x = .ref a ∧ TupF H1 a xs) ∧ t σ H1 fun ys H2 => rCountT K x ys H2 Q
theorem pe_countF (ho : PE X o to) (ha : PA X [e] t) (h : X.K = K := by rfl) (hbase : attributeBase o ("count" : Str) X.env (eval o X.env) = eval o X.env := by rfl)
    (hfew : ((backTo cpos (starEach [e] X.env)).all (fun x => !x.1) && (backToKw cpos (keywordEach [] X.env)).all (fun x => x.1.isSome) && decide (([e] : List Expr).length + ([] : List Keyword).length + (if ([] : List Keyword).isEmpty then 0 else 1) < 30)) = true := by rfl)
    (hline : (apos.endLine == cpos.line) = true := by rfl) (hs : starEach [e] X.env = (false, eval e X.env) :: starEach [] X.env := by rfl) (hplain : (backTo cpos (starEach [] X.env)).any (·.1) = false := by rfl) :
    PE X (.Call (.Attribute o ("count" : Str) apos) [e] [] cpos) (tCountF K to t) := by
  subst h
  refine ⟨fun pins s σ H Q I h => wpAny_Call_method_late hbase hfew hline rfl (thn (ho.run pins s σ H _ I h) fun v s1 ⟨x, H1, I1, r1, ⟨a, xs, ex, tf⟩, q1⟩ => ?_)⟩
  subst ex
  cases r1
  obtain ⟨ob, hc, hd, h1⟩ := tf
  have go : s1.heap.get? a = some ob := (show s1.heap.get? a = some ob ∧ _ from I1.hok a _ h1).1
  refine ⟨"tuple", "tuple.count", PySem.F.plainAttrs_tuple, PySem.F.slot_tuple_count, PySem.F.type_tuple_count, ⟨ob, go, hc⟩, (fun b e => by cases e; exact ⟨ob, go, hd⟩), ?_⟩
  have hA := ha.run cpos pins s1 σ H1 _ I1 q1
  rw [hs] at hA ⊢
  refine Calls.callWith_builtin (by show (false || (backTo cpos (starEach [] X.env)).any (·.1)) = false; rw [hplain] <;> rfl) (Calls.evalArgs_plain ?_)
  exact thn hA fun us s2 ⟨vs, H2, I2, r2, q2⟩ => mt_countT pins s2 σ H2 (.ref a) vs (.ref a) us Q I2 rfl r2 q2
end
theorem countF_go {K : PySem.W.Frag} {σ : L2.St} {H : Hp} {a : Addr} {ms : List Int} {k : Int} {to : TE} {t : TA} {Q : VK} (hv : ∀ R : VK, R (.ref a) H → to σ H R) (h : TupF H a (ms.map V.int)) (ht : ∀ R : List V → Hp → Prop, R [.int k] H → t σ H R) (q : Q (.int ((ms.countP fun j => j == k : Nat) : Int)) H) : tCountF K to t σ H Q :=
  hv _ ⟨⟨a, _, rfl, h⟩, ht _ ⟨a, ms, k, rfl, rfl, h.sq, q⟩⟩
end AE
namespace AE
open PySem PySem.Spec PyProof.Rows L2 Evl
theorem r_tupF {t : TA} {σ : L2.St} {H : Hp} {Q : VK} (q : t σ H fun xs H1 => xs.length ≤ sizeLine ∧ NewF H1 xs Q) : tTupF t σ H Q := q
end AE

set_option Elab.async false
set_option linter.all false
set_option maxRecDepth 100000
set_option maxHeartbeats 2000000
namespace K08
open PySem PySem.Spec PyProof.Rows L2 Evl AE
local macro_rules | `(tactic| walk_at "c") => `(tactic| first | exact ⟨by decide, by decide⟩ | exact .inr ⟨by decide, by decide⟩ | exact .inl ⟨by decide, by decide⟩ | exact ⟨by decide, by decide, by decide⟩ | (show (0 : Int) < _; decide))
local macro_rules | `(tactic| walk_at "s") => `(tactic| first
  | (with_reducible refine r_var rfl ?_) | (with_reducible refine r_c ?_) | (with_reducible refine r_op ?_) | (with_reducible refine r_un ?_) | (with_reducible refine r_I0 ?_) | (with_reducible refine r_U ?_)
  | (with_reducible refine r_eq rfl ?_) | (with_reducible refine r_ne rfl ?_) | (with_reducible refine r_chain ?_) | (with_reducible refine r_test ?_) | (with_reducible refine r_tB ?_)
  | (with_reducible refine r_bl ?_) | (with_reducible refine r_and ?_) | (with_reducible refine r_or ?_) | (with_reducible refine r_not ?_) | (with_reducible refine r_nil ?_) | (with_reducible refine r_cons ?_)
  | (with_reducible refine r_tupK ?_) | (with_reducible refine r_lstK ?_) | (with_reducible refine r_cb ?_) | (with_reducible refine r_revL ?_) | (with_reducible refine r_ost ?_) | (with_reducible refine r_mkO ?_) | (with_reducible refine r_makeK ?_) | (with_reducible refine r_make ?_) | (with_reducible refine r_setdN ?_) | (with_reducible refine r_nget2 ?_) | (with_reducible refine r_nnew ?_) | (with_reducible refine r_call ?_) | (with_reducible refine r_seq ?_) | (with_reducible refine r_set ?_)
  | (with_reducible refine r_drop ?_) | (with_reducible refine r_ret ?_) | (with_reducible refine r_next ?_) | (with_reducible refine r_if ?_) | (with_reducible refine r_sl ?_) | (with_reducible refine r_nop ?_) | (with_reducible refine r_prt ?_) | (with_reducible refine r_some ?_)
  | (with_reducible refine add_int ?_) | (with_reducible refine int_i ?_) | (with_reducible refine r_forR1 ?_) | (with_reducible refine r_forR2 ?_) | (with_reducible refine r_meth ?_) | (with_reducible refine r_makeS ?_) | (with_reducible refine r_opS ?_) | (with_reducible refine r_makeRS ?_) | (with_reducible refine r_methH ?_) | (with_reducible refine r_callS ?_) | (with_reducible refine r_forL ?_) | (with_reducible refine r_andV ?_) | (with_reducible refine r_orV ?_) | (with_reducible refine r_notV ?_) | (with_reducible refine r_ifE ?_) | (with_reducible refine r_lcL ?_) | (with_reducible refine r_fld ?_) | (with_reducible refine r_get ?_) | (with_reducible refine r_din ?_) | (with_reducible refine r_dget2 ?_) | ((with_reducible refine r_I ?_ ?_); (walk_at "c")))
local macro_rules | `(tactic| walk_at "g") => `(tactic| repeat walk_at "s")
section
variable {P : Program} {w : World} {K : PySem.W.Frag} {mg : Str → Option Value} {base : Heap}
theorem marksF_idem (n : Int) (ms : List Int) : marksF n (marksF n ms) = marksF n ms := by
  unfold marksF
  refine List.filter_congr fun k hk => ?_
  exact decide_eq_decide.mpr (by rw [List.mem_filter, decide_eq_true_iff]; exact ⟨And.right, fun z => ⟨hk, z⟩⟩)
/-- a machine as a twin wants it -/
structure ValidM (m : Mach) : Prop where
  n1 : 1 ≤ m.size
  n2 : m.size ≤ 200
  mo : ∀ k ∈ m.marks, 0 ≤ k ∧ k < m.size
  ml : m.marks.length ≤ 1000
  mf : marksF m.size m.marks = m.marks
  up : m.rows.Pairwise ltS
  ok : ∀ s ∈ m.rows, OkS m.size s
  rl : m.rows.length ≤ 600
  w0 : 0 ≤ m.now
  w1 : m.now < m.size
def nowM (m : Mach) (now : Int) : Mach := { m with now := now }
theorem made_twin {m m' : Mach} {now : Int} (v : ValidM m) (md : Made m.size m.marks m.rows now m') : m' = nowM m now := by
  have h1 := md.size
  have h2 := md.marks
  have h3 : m'.rows = m.rows := rows_eq md.up v.up md.mem
  have h4 := md.now
  rw [v.mf] at h2
  cases m'
  cases m
  simp only [nowM] at *
  subst h1 h2 h3 h4
  rfl
def sp_twin (T : Tp K mg) : Sp := fun vs H Q _ => ∃ (x : Addr) (m : Mach) (now : Int), vs = [.ref x, .int now] ∧ MachAt H x T.C_Service m ∧ ValidM m ∧ 0 ≤ now ∧ now < m.size ∧
  ∀ y H', H y = none → Ex H H' → MachAt H' y T.C_Service (nowM m now) → Q (.ref y) H'
theorem ok_twin (T : Tp K mg) : FnOk P w K mg base CX0 5 T.a_Service_twin T.d_Service_twin ["self", "now"] (sp_twin T) := by
  have G_init : FnOk P w K mg base CX0 3 T.a_Machine___init__ T.d_Machine___init__ ["self", "size", "marks", "steps", "now"] (sp_init K) := ok_init T
  refine T.f_Service_twin.ok sc_Service_twin (fun vs H Q E h => ?_) (fun cdv A outer s H vs Q E hr h => ?_)
  · obtain ⟨x, m, now, rfl, _⟩ := h
    rfl
  · obtain ⟨x, m, now, rfl, hm, v, w0, w1, q⟩ := h
    obtain ⟨dx, pm, ps, de, dp, us, h1, h2, h3, h4, h5, h6⟩ := id hm
    refine ⟨_, (pss_one (ps_ret (pe_make T.mk_Service G_init (hr.mono (by decide)) (by rfl) T.g_Service T.b_Machine___init__ .nil pass0 (pa_cons (pe_fld (pv 0) rfl) (pa_cons (pe_fld (pv 0) rfl) (pa_cons (pe_fld (pv 0) rfl) (pa_cons (pv 1) pa_nil))))))), ?_⟩
    walk_at "g"
    refine gtf_go h1 T.cf_Service.cl T.cf_Service.n1 (v := .int m.size) rfl ?_
    walk_at "g"
    refine gtf_go h1 T.cf_Service.cl T.cf_Service.n2 (v := .ref pm) rfl ?_
    walk_at "g"
    refine gtf_go h1 T.cf_Service.cl T.cf_Service.n3 (v := .ref ps) rfl ?_
    walk_at "g"
    intro y dy hy hdy ne
    have e3 : Ex H (upd (upd H dy (.own y)) y (.ins T.C_Service dy [])) := (Ex.new hdy).trans (Ex.new (by rw [upd_ne (fun z => ne z.symm)]; exact hy))
    have t3 : (upd (upd H dy (.own y)) y (.ins T.C_Service dy [])) y = some (.ins T.C_Service dy []) := upd_same
    generalize (upd (upd H dy (.own y)) y (.ins T.C_Service dy [])) = H3 at e3 t3
    refine ⟨y, _, dy, pm, ps, m.size, now, m.marks, us, m.rows, rfl, t3, T.cf_Service, v.n1, v.n2, .inr (.inl (.inl (e3 _ _ h2))), v.mo, v.ml, .inr (.inl (.inl (e3 _ _ h3))), h4.tx (tx_ex e3), v.ok, v.rl, w0, w1, fun m' H' md ma c => ⟨rfl, ?_⟩⟩
    rw [made_twin v md] at ma
    exact q y H' hy (ex_ch e3 hy c) ma
/-! ### lots -/
def MachsAt (H : Hp) (C : Addr) (us : List V) (ms : List Mach) : Prop := us.length = ms.length ∧ ∀ (i : Nat) (m : Mach), ms[i]? = some m → ∃ y : Addr, us[i]? = some (V.ref y) ∧ MachAt H y C m
theorem MachsAt.ex {H H' : Hp} {C : Addr} {us : List V} {ms : List Mach} (e : Ex H H') (h : MachsAt H C us ms) : MachsAt H' C us ms :=
  ⟨h.1, fun i m hi => by obtain ⟨y, a, b⟩ := h.2 i m hi; exact ⟨y, a, b.ex e⟩⟩
theorem MachAt.chl {H H' : Hp} {D y C : Addr} {l : List V} {m : Mach} (hD : H D = some (.lst l)) (c : Ch D H H') (h : MachAt H y C m) : MachAt H' y C m := by
  obtain ⟨dy, pm, ps, de, dp, us, h1, h2, h3, h4, ⟨kvs, h5, g5⟩, ⟨kvp, G, h6, g6, p6⟩⟩ := h
  have nd : ∀ (b : Addr) (o : HO), H b = some o → (∀ xs, o ≠ .lst xs) → H' b = some o := fun b o hb ho => c _ _ (fun z => by subst z; rw [hD] at hb; cases hb; exact ho l rfl) hb
  exact ⟨dy, pm, ps, de, dp, us, nd _ _ h1 (by intro _ z; cases z), ch_l hD c h2, ch_l hD c h3, h4.tx (tx_ch hD c), ⟨kvs, nd _ _ h5 (by intro _ z; cases z), g5.tx (tx_ch hD c)⟩, ⟨kvp, G, nd _ _ h6 (by intro _ z; cases z), g6.tx (tx_ch hD c), fun k => (p6 k).tx (tx_ch hD c)⟩⟩
theorem MachsAt.chl {H H' : Hp} {D C : Addr} {l : List V} {us : List V} {ms : List Mach} (hD : H D = some (.lst l)) (c : Ch D H H') (h : MachsAt H C us ms) : MachsAt H' C us ms :=
  ⟨h.1, fun i m hi => by obtain ⟨y, a, b⟩ := h.2 i m hi; exact ⟨y, a, b.chl hD c⟩⟩
theorem MachAt.ch {H H' : Hp} {x C dx y D : Addr} {fs : List (Str × V)} {m : Mach} (hx : H x = some (.ins C dx fs)) (ne : y ≠ x) (c : Ch x H H') (h : MachAt H y D m) : MachAt H' y D m := by
  obtain ⟨dy, pm, ps, de, dp, us, h1, h2, h3, h4, h5, h6⟩ := h
  exact ⟨dy, pm, ps, de, dp, us, c _ _ ne h1, c _ _ (fun z => by subst z; rw [hx] at h2; cases h2) h2, c _ _ (fun z => by subst z; rw [hx] at h3; cases h3) h3, h4.tx (tx_ins hx c), h5.ch hx c, h6.ch hx c⟩
theorem MachAt.ne {H : Hp} {x C dx y D : Addr} {fs : List (Str × V)} {m : Mach} (h : MachAt H y D m) (hx : H x = some (.ins C dx fs)) (l : fs.length ≠ 6) : y ≠ x := fun z => by
  obtain ⟨dy, pm, ps, de, dp, us, h1, _⟩ := h
  rw [z, hx] at h1
  cases h1
  exact l rfl
theorem MachsAt.ch {H H' : Hp} {x C dx D : Addr} {fs : List (Str × V)} {us : List V} {ms : List Mach} (hx : H x = some (.ins C dx fs)) (l : fs.length ≠ 6) (c : Ch x H H') (h : MachsAt H D us ms) : MachsAt H' D us ms :=
  ⟨h.1, fun i m hi => by obtain ⟨y, a, b⟩ := h.2 i m hi; exact ⟨y, a, b.ch hx (b.ne hx l) c⟩⟩
theorem MachsAt.at_ {H : Hp} {C : Addr} {us : List V} {ms : List Mach} {i : Nat} {x : V} (h : MachsAt H C us ms) (hx : us[i]? = some x) : ∃ m y, ms[i]? = some m ∧ x = .ref y ∧ MachAt H y C m := by
  have l := h.1
  obtain ⟨m, hm⟩ : ∃ m, ms[i]? = some m := ⟨ms[i]'(by have := (List.getElem?_eq_some_iff.mp hx).1; omega), List.getElem?_eq_getElem _⟩
  obtain ⟨y, hy, hm0⟩ := h.2 i m hm
  rw [hx] at hy
  cases hy
  exact ⟨m, y, hm, rfl, hm0⟩
/-- the machines made so far, all new since H0 -/
def PM (C : Addr) (ms : List Mach) (H0 : Hp) : Nat → List V → Hp → Prop := fun i acc Ha => ∀ (j : Nat) (m : Mach), j < i → ms[j]? = some m → ∃ y : Addr, acc[j]? = some (V.ref y) ∧ MachAt Ha y C m ∧ H0 y = none
theorem pm_stays (C : Addr) (ms : List Mach) (H0 : Hp) : Stays (PM C ms H0) :=
  ⟨fun _ _ _ _ e h j m a b => by obtain ⟨y, p, q, n⟩ := h j m a b; exact ⟨y, p, q.ex e, n⟩, fun _ _ _ _ _ _ hD c h j m a b => by obtain ⟨y, p, q, n⟩ := h j m a b; exact ⟨y, p, q.chl hD c, n⟩⟩
theorem none_ex {H H' : Hp} {y : Addr} (e : Ex H H') (h : H' y = none) : H y = none := by
  cases z : H y with
  | none => rfl
  | some o => rw [e _ _ z] at h; cases h
theorem PM.snoc {C : Addr} {ms : List Mach} {H0 : Hp} {i : Nat} {acc : List V} {Ha He : Hp} {m : Mach} {y : Addr} (h : PM C ms H0 i acc Ha) (ha : acc.length = i) (e : Ex Ha He) (hm : ms[i]? = some m) (ma : MachAt He y C m) (hn : H0 y = none) : PM C ms H0 (i + 1) (acc ++ [.ref y]) He := fun j m' hj hm' => by
  by_cases z : j < i
  · obtain ⟨y', a, b, n⟩ := h j m' z hm'
    exact ⟨y', by rw [List.getElem?_append_left (by omega)]; exact a, b.ex e, n⟩
  · have zj : j = i := by omega
    subst zj
    rw [hm] at hm'
    cases hm'
    exact ⟨y, by rw [List.getElem?_append_right (by omega), ha, Nat.sub_self]; rfl, ma, hn⟩
theorem PM.all {C : Addr} {ms : List Mach} {H0 : Hp} {acc : List V} {Ha : Hp} (h : PM C ms H0 ms.length acc Ha) (ha : acc.length = ms.length) : MachsAt Ha C acc ms :=
  ⟨ha, fun i m hi => by obtain ⟨y, a, b, _⟩ := h i m (List.getElem?_eq_some_iff.mp hi).1 hi; exact ⟨y, a, b⟩⟩
theorem PM.new {C : Addr} {ms : List Mach} {H0 : Hp} {acc : List V} {Ha : Hp} (h : PM C ms H0 ms.length acc Ha) (ha : acc.length = ms.length) (y : Addr) (hy : V.ref y ∈ acc) : H0 y = none := by
  obtain ⟨i, hi⟩ := List.getElem?_of_mem hy
  have l := (List.getElem?_eq_some_iff.mp hi).1
  obtain ⟨y', a, _, n⟩ := h i ms[i] (by omega) (List.getElem?_eq_getElem (by omega))
  rw [hi] at a
  cases a
  exact n
theorem nowM_self (m : Mach) : nowM m m.now = m := rfl
theorem gname1 {i : Nat} {x : V} {σ : L2.St} {H : Hp} {Q : L2.St → Hp → Prop} (q : Q (σ.set i (some x)) H) : gName i x σ H Q := q
structure LotD where
  ms : List Mach
  sts : List Int
def LotAtU (T : Tp K mg) (H : Hp) (x : Addr) (l : LotD) (us : List V) : Prop := ∃ (dx av au : Addr), H x = some (.ins T.C_Lot dx [("services", .ref av), ("states", .ref au)]) ∧ H av = some (.tup us) ∧ TupF H au (l.sts.map V.int) ∧ MachsAt H T.C_Service us l.ms
def LotAt (T : Tp K mg) (H : Hp) (x : Addr) (l : LotD) : Prop := ∃ (dx av au : Addr) (us : List V), H x = some (.ins T.C_Lot dx [("services", .ref av), ("states", .ref au)]) ∧ H av = some (.tup us) ∧ TupF H au (l.sts.map V.int) ∧ MachsAt H T.C_Service us l.ms
theorem LotAtU.at_ {T : Tp K mg} {H : Hp} {x : Addr} {l : LotD} {us : List V} (h : LotAtU T H x l us) : LotAt T H x l := by
  obtain ⟨dx, av, au, h⟩ := h
  exact ⟨dx, av, au, us, h⟩
theorem LotAtU.ex {T : Tp K mg} {H H' : Hp} {x : Addr} {l : LotD} {us : List V} (e : Ex H H') (h : LotAtU T H x l us) : LotAtU T H' x l us := by
  obtain ⟨dx, av, au, h1, h2, h3, h4⟩ := h
  exact ⟨dx, av, au, e _ _ h1, e _ _ h2, h3.ex e, h4.ex e⟩
/-- a machine apart is moved -/
theorem LotAtU.ch {T : Tp K mg} {H H' : Hp} {x z C dz : Addr} {l : LotD} {us : List V} {fs : List (Str × V)} (hz : H z = some (.ins C dz fs)) (nx : x ≠ z) (nu : ∀ y : Addr, V.ref y ∈ us → y ≠ z) (c : Ch z H H') (h : LotAtU T H x l us) : LotAtU T H' x l us := by
  obtain ⟨dx, av, au, h1, h2, h3, h4⟩ := h
  exact ⟨dx, av, au, c _ _ nx h1, c _ _ (fun w => by subst w; rw [hz] at h2; cases h2) h2, h3.ch hz c,
    h4.1, fun i m hi => by obtain ⟨y, a, b⟩ := h4.2 i m hi; exact ⟨y, a, b.ch hz (nu y (List.mem_of_getElem? a)) c⟩⟩
theorem LotAt.ex {T : Tp K mg} {H H' : Hp} {x : Addr} {l : LotD} (e : Ex H H') (h : LotAt T H x l) : LotAt T H' x l := by
  obtain ⟨dx, av, au, us, h1, h2, h3, h4⟩ := h
  exact ⟨dx, av, au, us, e _ _ h1, e _ _ h2, h3.ex e, h4.ex e⟩
def sp_lot (T : Tp K mg) : Sp := fun vs H Q _ => ∃ (x dx p : Addr) (us : List V) (ms : List Mach), vs = [.ref x, .ref p] ∧ H x = some (.ins T.C_Lot dx []) ∧ H p = some (.tup us) ∧ MachsAt H T.C_Service us ms ∧ (∀ m ∈ ms, ValidM m) ∧ ms.length ≤ 5 ∧
  ∀ H' us', LotAtU T H' x ⟨ms, ms.map (·.now)⟩ us' → (∀ y : Addr, V.ref y ∈ us' → H y = none) → Ch x H H' → Q .non H'
theorem okR_lot (T : Tp K mg) : FnR P w K mg base CX0 6 T.a_Lot___init__ (fun vs H Q E => ∃ ws rest, vs = ws ++ rest ∧ ws.length = ["self"].length ∧ rest.length ≤ sizeLine ∧ ∀ p : Addr, H p = none → sp_lot T (ws ++ [V.ref p]) (upd H p (.tup rest)) Q E) := by
  have G_twin : FnOk P w K mg base CX0 5 T.a_Service_twin T.d_Service_twin ["self", "now"] (sp_twin T) := ok_twin T
  obtain ⟨oc, od, kV, doc, pm, an, cdv, ct, osl, hfd, lk, hcd⟩ := T.f_Lot___init__.ex
  rw [hfd] at lk
  refine StX.fn_star (ps := ["self"]) (pv := "services") (sp := sp_lot T) lk hcd sc_Lot___init__ StX.cxUp_none (fun us rest hl => match us, rest, hl with | [a], [], _ => rfl | [a], r :: rs, _ => rfl) fun A outer s H vs Q E hr h => ?_
  obtain ⟨x, dx, p, us, ms, rfl, hx, hp, hM, hV, hl, q⟩ := h
  have hul := hM.1
  refine ⟨_, (pss_cons (ps_if (pt_cmpR op_gt (pe_callB c_len (by rfl) T.n_len (by rfl) (pa_cons (pv 1) pa_nil)) (pe_gi rfl T.k_MOST_SERVICES) (nomark _)) (pss_one ps_never) pss_nil)
  (pss_cons (ps_fld (pv 0) (pe_callTy c_tuple (by rfl) T.n_tuple (by rfl) (pa_cons (pe_lc (own := [("service", 2)]) (g := gName 2) (tt := tYes) rfl sc_Lot___init__.nd (pi_tup (pv 1)) (blkOk_by (N := N_Lot___init__) (sc := defScope s_Lot___init__) (by decide +kernel)) (fun _ _ _ _ _ => (pg_name (i := 2) sc_Lot___init__.nd rfl (.inl rfl))) (fun _ _ _ _ _ => pts_nil) (fun _ _ _ _ _ => (pe_meth (pv 2) T.cf_Service.cl T.me_Service_twin G_twin (hr.mono (by decide)) T.b_Service_twin .nil pass0 (pa_cons (pe_fldK (K := K) (pv 2) rfl) pa_nil)))) pa_nil)) rfl)
  (pss_one (ps_fld (pv 0) (pe_callTy c_tupleF (by rfl) T.n_tuple (by rfl) (pa_cons (pe_lc (own := [("service", 2)]) (g := gName 2) (tt := tYes) rfl sc_Lot___init__.nd (pi_tup (pv 1)) (blkOk_by (N := N_Lot___init__) (sc := defScope s_Lot___init__) (by decide +kernel)) (fun _ _ _ _ _ => (pg_name (i := 2) sc_Lot___init__.nd rfl (.inl rfl))) (fun _ _ _ _ _ => pts_nil) (fun _ _ _ _ _ => (pe_fldK (K := K) (pv 2) rfl))) pa_nil)) rfl)))), ?_⟩
  walk_at "g"
  refine len_t (.inl (.inl hp)) ?_
  walk_at "g"
  refine ite_f (decide_eq_false (by omega)) ?_
  walk_at "g"
  refine lco_t (PM T.C_Service ms H) (pm_stays _ _ _) (a := p) (xs := us) ?_ (.inl (.inl hp)) (by omega) (fun j m hj _ => absurd hj (by omega)) ?_ ?_
  · intro R r
    walk_at "g"
    exact r
  · intro i v acc Ha hv ha e1 hpp R R2 r
    obtain ⟨m, y0, hm, rfl, hm0⟩ := hM.at_ hv
    have hm1 := hm0.ex e1
    obtain ⟨dy, pm', ps, de, dp, ws, g1, g2, _⟩ := id hm1
    refine gname1 ⟨rfl, yes_q (ite_t rfl ?_)⟩
    walk_at "g"
    refine ⟨y0, dy, _, rfl, g1, rfl, ?_⟩
    walk_at "g"
    refine gtf_go g1 T.cf_Service.cl T.cf_Service.n4 (v := .int m.now) rfl ?_
    walk_at "g"
    have vm := hV m (List.mem_of_getElem? hm)
    refine ⟨y0, m, m.now, rfl, hm1, vm, vm.w0, vm.w1, fun y He hy ee ma => r _ He ee ?_⟩
    exact hpp.snoc ha ee hm ma (none_ex e1 hy)
  intro D acc H1 hD hal e1 l1 hpp
  rw [hul] at hpp hal
  have hA := hpp.all hal
  have hN := hpp.new hal
  walk_at "g"
  refine tup_l (.inl (.inl l1)) fun tp H2 htp e2 t2 => ?_
  walk_at "g"
  have hx2 := (e1.trans e2) _ _ hx
  refine stf_go hx2 T.cl_Lot T.na_Lot_services (by show 0 < 1000; decide) fun H3 c3 (x3 : H3 x = some (.ins T.C_Lot dx [("services", .ref tp)])) => ?_
  have hA3 := (hA.ex e2).ch hx2 (by decide) c3
  have hM3 := (hM.ex (e1.trans e2)).ch hx2 (by decide) c3
  have t3 : H3 tp = some (.tup acc) := c3 _ _ (fun z => by subst z; rw [hx2] at t2; cases t2) t2
  have p3 : H3 p = some (.tup us) := c3 _ _ (fun z => by subst z; rw [hx] at hp; cases hp) ((e1.trans e2) _ _ hp)
  walk_at "g"
  refine lco_t (fun i acc _ => acc = (ms.map fun m => V.int m.now).take i) (stays_take _) (a := p) (xs := us) ?_ (.inl (.inl p3)) (by omega) rfl ?_ ?_
  · intro R r
    walk_at "g"
    exact r
  · intro i v acc2 Ha hv ha e4 hpp R R2 r
    obtain ⟨m, y0, hm, rfl, hm0⟩ := hM3.at_ hv
    have hm1 := hm0.ex e4
    obtain ⟨dy, pm', ps, de, dp, ws, g1, g2, _⟩ := id hm1
    have hi : (ms.map fun m => V.int m.now)[i]? = some (.int m.now) := by
      rw [List.getElem?_map, hm]
      rfl
    refine gname1 ⟨rfl, yes_q (ite_t rfl ?_)⟩
    walk_at "g"
    refine gtf_go g1 T.cf_Service.cl T.cf_Service.n4 (v := .int m.now) rfl ?_
    exact r _ Ha (Ex.refl _) (by rw [hpp, List.take_add_one, hi]; rfl)
  intro D2 acc2 H4 hD2 hal2 e4 l4 hp4
  rw [List.take_of_length_le (by rw [List.length_map]; omega)] at hp4
  subst hp4
  walk_at "g"
  refine ⟨D2, _, rfl, .inl (.inl l4), newf_go fun tq H5 htq e5 t5 => ?_⟩
  walk_at "g"
  have hx5 := (e4.trans e5) _ _ x3
  refine stf_go hx5 T.cl_Lot T.na_Lot_states (by show 1 < 1000; decide) fun H6 c6 (x6 : H6 x = some (.ins T.C_Lot dx [("services", .ref tp), ("states", .ref tq)])) => ?_
  refine q H6 acc ⟨dx, tp, tq, x6, c6 _ _ (fun z => by subst z; rw [x3] at t3; cases t3) ((e4.trans e5) _ _ t3), ?_, (hA3.ex (e4.trans e5)).ch hx5 (show (1 : Nat) ≠ 6 by decide) c6⟩ hN (Ch.trans (ch_ex (e1.trans e2)) (Ch.trans c3 (Ch.trans (ch_ex (e4.trans e5)) c6)))
  rw [List.map_map]
  exact t5.ch hx5 c6
end

end K08

set_option Elab.async false
set_option linter.all false
set_option maxRecDepth 100000
set_option maxHeartbeats 2000000
namespace K08
open PySem PySem.Spec PyProof.Rows L2 Evl AE
local macro_rules | `(tactic| walk_at "c") => `(tactic| first | exact ⟨by decide, by decide⟩ | exact .inr ⟨by decide, by decide⟩ | exact .inl ⟨by decide, by decide⟩ | exact ⟨by decide, by decide, by decide⟩ | (show (0 : Int) < _; decide))
local macro_rules | `(tactic| walk_at "s") => `(tactic| first
  | (with_reducible refine r_var rfl ?_) | (with_reducible refine r_c ?_) | (with_reducible refine r_op ?_) | (with_reducible refine r_un ?_) | (with_reducible refine r_I0 ?_) | (with_reducible refine r_U ?_)
  | (with_reducible refine r_eq rfl ?_) | (with_reducible refine r_ne rfl ?_) | (with_reducible refine r_chain ?_) | (with_reducible refine r_test ?_) | (with_reducible refine r_tB ?_)
  | (with_reducible refine r_bl ?_) | (with_reducible refine r_and ?_) | (with_reducible refine r_or ?_) | (with_reducible refine r_not ?_) | (with_reducible refine r_nil ?_) | (with_reducible refine r_cons ?_)
  | (with_reducible refine r_tupK ?_) | (with_reducible refine r_lstK ?_) | (with_reducible refine r_cb ?_) | (with_reducible refine r_revL ?_) | (with_reducible refine r_ost ?_) | (with_reducible refine r_mkO ?_) | (with_reducible refine r_makeK ?_) | (with_reducible refine r_make ?_) | (with_reducible refine r_setdN ?_) | (with_reducible refine r_nget2 ?_) | (with_reducible refine r_nnew ?_) | (with_reducible refine r_call ?_) | (with_reducible refine r_seq ?_) | (with_reducible refine r_set ?_)
  | (with_reducible refine r_drop ?_) | (with_reducible refine r_ret ?_) | (with_reducible refine r_next ?_) | (with_reducible refine r_if ?_) | (with_reducible refine r_sl ?_) | (with_reducible refine r_nop ?_) | (with_reducible refine r_prt ?_) | (with_reducible refine r_some ?_)
  | (with_reducible refine add_int ?_) | (with_reducible refine int_i ?_) | (with_reducible refine r_forR1 ?_) | (with_reducible refine r_forR2 ?_) | (with_reducible refine r_meth ?_) | (with_reducible refine r_makeS ?_) | (with_reducible refine r_opS ?_) | (with_reducible refine r_makeRS ?_) | (with_reducible refine r_methH ?_) | (with_reducible refine r_callS ?_) | (with_reducible refine r_forL ?_) | (with_reducible refine r_andV ?_) | (with_reducible refine r_orV ?_) | (with_reducible refine r_notV ?_) | (with_reducible refine r_ifE ?_) | (with_reducible refine r_lcL ?_) | (with_reducible refine r_fld ?_) | (with_reducible refine r_get ?_) | (with_reducible refine r_din ?_) | (with_reducible refine r_dget2 ?_) | ((with_reducible refine r_I ?_ ?_); (walk_at "c")))
local macro_rules | `(tactic| walk_at "g") => `(tactic| repeat walk_at "s")
section
variable {P : Program} {w : World} {K : PySem.W.Frag} {mg : Str → Option Value} {base : Heap}
/-! ### plain parts -/
structure PlainD where
  n : Int
  now : Int
  ms : List Int
  ss : List StepD
structure OkP (p : PlainD) : Prop where
  n1 : 1 ≤ p.n
  n4 : p.n ≤ 4
  mo : ∀ k ∈ p.ms, 0 ≤ k ∧ k < p.n
  ml : p.ms.length ≤ 4
  mf : marksF p.n p.ms = p.ms
  so : ∀ s ∈ p.ss, OkS p.n s
  sl : p.ss.length ≤ 600
  up : p.ss.Pairwise ltS
  w0 : 0 ≤ p.now
  w1 : p.now < p.n
def machP (p : PlainD) : Mach := ⟨p.n, p.ms, p.ss, p.now⟩
theorem OkP.valid {p : PlainD} (h : OkP p) : ValidM (machP p) := ⟨h.n1, by have := h.n4; show p.n ≤ 200; omega, h.mo, by have := h.ml; show p.ms.length ≤ 1000; omega, h.mf, h.up, h.so, h.sl, h.w0, h.w1⟩
theorem made_plain {p : PlainD} {m : Mach} (h : OkP p) (md : Made p.n p.ms p.ss p.now m) : m = machP p := by
  have h1 := md.size
  have h2 := md.marks
  have h3 : m.rows = p.ss := rows_eq md.up h.up md.mem
  have h4 := md.now
  rw [h.mf] at h2
  cases m
  unfold machP
  simp only at *
  subst h1 h2 h3 h4
  rfl
def PlainAt (H : Hp) (b : Addr) (p : PlainD) (am as_ : Addr) (us : List V) : Prop := H b = some (.tup [.int p.n, .ref am, .ref as_, .int p.now]) ∧ H am = some (.lst (p.ms.map V.int)) ∧ H as_ = some (.lst us) ∧ Tups H us (p.ss.map stepV)
theorem PlainAt.ex {H H' : Hp} {b am as_ : Addr} {p : PlainD} {us : List V} (e : Ex H H') (h : PlainAt H b p am as_ us) : PlainAt H' b p am as_ us := ⟨e _ _ h.1, e _ _ h.2.1, e _ _ h.2.2.1, h.2.2.2.tx (tx_ex e)⟩
theorem PlainAt.chl {H H' : Hp} {b am as_ D : Addr} {p : PlainD} {us l : List V} (hD : H D = some (.lst l)) (c : Ch D H H') (n1 : am ≠ D) (n2 : as_ ≠ D) (h : PlainAt H b p am as_ us) : PlainAt H' b p am as_ us :=
  ⟨ch_l hD c h.1, c _ _ n1 h.2.1, c _ _ n2 h.2.2.1, h.2.2.2.tx (tx_ch hD c)⟩
theorem PlainAt.chx {H H' : Hp} {b am as_ x C dx : Addr} {p : PlainD} {us : List V} {fs : List (Str × V)} (hx : H x = some (.ins C dx fs)) (c : Ch x H H') (h : PlainAt H b p am as_ us) : PlainAt H' b p am as_ us :=
  ⟨c _ _ (fun z => by subst z; have := h.1; rw [hx] at this; cases this) h.1, c _ _ (fun z => by subst z; have := h.2.1; rw [hx] at this; cases this) h.2.1, c _ _ (fun z => by subst z; have := h.2.2.1; rw [hx] at this; cases this) h.2.2.1, h.2.2.2.tx (tx_ins hx c)⟩
/-! ### a service of plain parts -/
def sp_service (T : Tp K mg) : Sp := fun vs H Q _ => ∃ (b am as_ : Addr) (p : PlainD) (us : List V), vs = [.ref b] ∧ PlainAt H b p am as_ us ∧ OkP p ∧ ∀ y H', H y = none → Ex H H' → MachAt H' y T.C_Service (machP p) → Q (.ref y) H'
theorem ok_service (T : Tp K mg) : FnOk P w K mg base CX0 5 T.a__law_service T.d__law_service ["_law_plain"] (sp_service T) := by
  have G_init : FnOk P w K mg base CX0 3 T.a_Machine___init__ T.d_Machine___init__ ["self", "size", "marks", "steps", "now"] (sp_init K) := ok_init T
  refine T.f__law_service.ok sc__law_service (fun vs H Q E h => ?_) (fun cdv A outer s H vs Q E hr h => ?_)
  · obtain ⟨b, am, as_, p, us, rfl, _⟩ := h
    rfl
  · obtain ⟨b, am, as_, p, us, rfl, ⟨h1, h2, h3, h4⟩, ok, q⟩ := h
    refine ⟨_, (pss_one (ps_ret (pe_make T.mk_Service G_init (hr.mono (by decide)) (by rfl) T.g_Service T.b_Machine___init__ .nil pass0 (pa_cons (pe_ix ix_seq (pv 0) pe_int (fun _ _ => rfl)) (pa_cons (pe_callTy c_list (by rfl) T.n_list (by rfl) (pa_cons (pe_ix ix_seq (pv 0) pe_int (fun _ _ => rfl)) pa_nil)) (pa_cons (pe_callTy c_list (by rfl) T.n_list (by rfl) (pa_cons (pe_ix ix_seq (pv 0) pe_int (fun _ _ => rfl)) pa_nil)) (pa_cons (pe_ix ix_seq (pv 0) pe_int (fun _ _ => rfl)) pa_nil))))))), ?_⟩
    walk_at "g"
    refine ix_t (.inl (.inl h1)) (show atI _ 0 = some (.int p.n) from rfl) ?_
    walk_at "g"
    refine ix_t (.inl (.inl h1)) (show atI _ 1 = some (.ref am) from rfl) ?_
    walk_at "g"
    refine list_s (.inl (.inl (.inl h2))) fun l1 H1 hl1 e1 t1 => ?_
    walk_at "g"
    refine ix_t (.inl (.inl (e1 _ _ h1))) (show atI _ 2 = some (.ref as_) from rfl) ?_
    walk_at "g"
    refine list_s (.inl (.inl (.inl (e1 _ _ h3)))) fun l2 H2 hl2 e2 t2 => ?_
    walk_at "g"
    refine ix_t (.inl (.inl ((e1.trans e2) _ _ h1))) (show atI _ 3 = some (.int p.now) from rfl) ?_
    walk_at "g"
    intro y dy hy hdy ne
    have e3 : Ex H2 (upd (upd H2 dy (.own y)) y (.ins T.C_Service dy [])) := (Ex.new hdy).trans (Ex.new (by rw [upd_ne (fun z => ne z.symm)]; exact hy))
    have t3 : (upd (upd H2 dy (.own y)) y (.ins T.C_Service dy [])) y = some (.ins T.C_Service dy []) := upd_same
    generalize (upd (upd H2 dy (.own y)) y (.ins T.C_Service dy [])) = H3 at e3 t3
    have n4 := ok.n4
    have ml := ok.ml
    refine ⟨y, _, dy, l1, l2, p.n, p.now, p.ms, us, p.ss, rfl, t3, T.cf_Service, ok.n1, by omega, .inl (.inl (.inl ((e2.trans e3) _ _ t1))), ok.mo, by omega, .inl (.inl (.inl (e3 _ _ t2))), h4.tx (tx_ex (e1.trans (e2.trans e3))), ok.so, ok.sl, ok.w0, ok.w1, fun m H' md ma c => ⟨rfl, ?_⟩⟩
    rw [made_plain ok md] at ma
    exact q y H' (none_ex (e1.trans e2) hy) ((e1.trans e2).trans (ex_ch e3 hy c)) ma
/-! ### a machine and its parts -/
theorem stDs_refl : ∀ l : List StepD, PyData.eqvAll (l.map stD) (l.map stD) = true
  | [] => by simp [PyData.eqvAll]
  | a :: r => by
    simp only [List.map_cons, PyData.eqvAll, stD_eqv, stDs_refl r]
    simp
end

end K08

set_option Elab.async false
set_option linter.all false
set_option maxRecDepth 100000
set_option maxHeartbeats 2000000
namespace K08
open PySem PySem.Spec PyProof.Rows L2 Evl AE
local macro_rules | `(tactic| walk_at "c") => `(tactic| first | exact ⟨by decide, by decide⟩ | exact .inr ⟨by decide, by decide⟩ | exact .inl ⟨by decide, by decide⟩ | exact ⟨by decide, by decide, by decide⟩ | (show (0 : Int) < _; decide))
local macro_rules | `(tactic| walk_at "s") => `(tactic| first
  | (with_reducible refine r_var rfl ?_) | (with_reducible refine r_c ?_) | (with_reducible refine r_op ?_) | (with_reducible refine r_un ?_) | (with_reducible refine r_I0 ?_) | (with_reducible refine r_U ?_)
  | (with_reducible refine r_eq rfl ?_) | (with_reducible refine r_ne rfl ?_) | (with_reducible refine r_chain ?_) | (with_reducible refine r_test ?_) | (with_reducible refine r_tB ?_)
  | (with_reducible refine r_bl ?_) | (with_reducible refine r_and ?_) | (with_reducible refine r_or ?_) | (with_reducible refine r_not ?_) | (with_reducible refine r_nil ?_) | (with_reducible refine r_cons ?_)
  | (with_reducible refine r_tupK ?_) | (with_reducible refine r_lstK ?_) | (with_reducible refine r_cb ?_) | (with_reducible refine r_revL ?_) | (with_reducible refine r_ost ?_) | (with_reducible refine r_mkO ?_) | (with_reducible refine r_makeK ?_) | (with_reducible refine r_make ?_) | (with_reducible refine r_setdN ?_) | (with_reducible refine r_nget2 ?_) | (with_reducible refine r_nnew ?_) | (with_reducible refine r_call ?_) | (with_reducible refine r_seq ?_) | (with_reducible refine r_set ?_)
  | (with_reducible refine r_drop ?_) | (with_reducible refine r_ret ?_) | (with_reducible refine r_next ?_) | (with_reducible refine r_if ?_) | (with_reducible refine r_sl ?_) | (with_reducible refine r_nop ?_) | (with_reducible refine r_prt ?_) | (with_reducible refine r_some ?_)
  | (with_reducible refine add_int ?_) | (with_reducible refine int_i ?_) | (with_reducible refine r_forR1 ?_) | (with_reducible refine r_forR2 ?_) | (with_reducible refine r_meth ?_) | (with_reducible refine r_makeS ?_) | (with_reducible refine r_opS ?_) | (with_reducible refine r_makeRS ?_) | (with_reducible refine r_methH ?_) | (with_reducible refine r_callS ?_) | (with_reducible refine r_forL ?_) | (with_reducible refine r_andV ?_) | (with_reducible refine r_orV ?_) | (with_reducible refine r_notV ?_) | (with_reducible refine r_ifE ?_) | (with_reducible refine r_lcL ?_) | (with_reducible refine r_fld ?_) | (with_reducible refine r_get ?_) | (with_reducible refine r_din ?_) | (with_reducible refine r_dget2 ?_) | ((with_reducible refine r_I ?_ ?_); (walk_at "c")))
local macro_rules | `(tactic| walk_at "g") => `(tactic| repeat walk_at "s")
section
variable {P : Program} {w : World} {K : PySem.W.Frag} {mg : Str → Option Value} {base : Heap}
theorem ite_int {b : Bool} {i j : Int} {σ : L2.St} {H : Hp} {Q : VK} (q : Q (.int (if b = true then i else j)) H) : if b = true then tC (.int i) σ H Q else tC (.int j) σ H Q := by
  cases b
  · exact q
  · exact q
theorem or_go {c d : Bool} {te : TE} {σ : L2.St} {H : Hp} {Q : VK} (h : ∀ R : VK, R (.bl d) H → te σ H R) (q : Q (.bl (c || d)) H) : if c = true then Q (.bl true) H else te σ H Q := by
  cases c
  · exact h _ q
  · exact q
def PlainsAt (H : Hp) (us : List V) (ps : List PlainD) : Prop := us.length = ps.length ∧ ∀ (i : Nat) (p : PlainD), ps[i]? = some p → ∃ (b am as_ : Addr) (ws : List V), us[i]? = some (V.ref b) ∧ PlainAt H b p am as_ ws
def PlainsL (l : Addr) (H : Hp) (us : List V) (ps : List PlainD) : Prop := us.length = ps.length ∧ ∀ (i : Nat) (p : PlainD), ps[i]? = some p → ∃ (b am as_ : Addr) (ws : List V), us[i]? = some (V.ref b) ∧ PlainAt H b p am as_ ws ∧ am ≠ l ∧ as_ ≠ l
theorem PlainsL.at_ {l : Addr} {H : Hp} {us : List V} {ps : List PlainD} (h : PlainsL l H us ps) : PlainsAt H us ps := ⟨h.1, fun i p hi => by obtain ⟨b, am, as_, ws, a, c, _, _⟩ := h.2 i p hi; exact ⟨b, am, as_, ws, a, c⟩⟩
theorem PlainsAt.ex {H H' : Hp} {us : List V} {ps : List PlainD} (e : Ex H H') (h : PlainsAt H us ps) : PlainsAt H' us ps := ⟨h.1, fun i p hi => by obtain ⟨b, am, as_, ws, a, c⟩ := h.2 i p hi; exact ⟨b, am, as_, ws, a, c.ex e⟩⟩
theorem PlainsAt.chx {H H' : Hp} {x C dx : Addr} {fs : List (Str × V)} {us : List V} {ps : List PlainD} (hx : H x = some (.ins C dx fs)) (c : Ch x H H') (h : PlainsAt H us ps) : PlainsAt H' us ps := ⟨h.1, fun i p hi => by obtain ⟨b, am, as_, ws, a, d⟩ := h.2 i p hi; exact ⟨b, am, as_, ws, a, d.chx hx c⟩⟩
theorem PlainsL.ex {l : Addr} {H H' : Hp} {us : List V} {ps : List PlainD} (e : Ex H H') (h : PlainsL l H us ps) : PlainsL l H' us ps := ⟨h.1, fun i p hi => by obtain ⟨b, am, as_, ws, a, c, n⟩ := h.2 i p hi; exact ⟨b, am, as_, ws, a, c.ex e, n⟩⟩
theorem PlainsL.chl {l : Addr} {H H' : Hp} {us ys : List V} {ps : List PlainD} (hl : H l = some (.lst ys)) (c : Ch l H H') (h : PlainsL l H us ps) : PlainsL l H' us ps := ⟨h.1, fun i p hi => by obtain ⟨b, am, as_, ws, a, d, n1, n2⟩ := h.2 i p hi; exact ⟨b, am, as_, ws, a, d.chl hl c n1 n2, n1, n2⟩⟩
theorem PlainsL.snoc {l b am as_ : Addr} {H : Hp} {us ws : List V} {ps : List PlainD} {p : PlainD} (h : PlainsL l H us ps) (d : PlainAt H b p am as_ ws) (n1 : am ≠ l) (n2 : as_ ≠ l) : PlainsL l H (us ++ [.ref b]) (ps ++ [p]) := by
  refine ⟨by rw [List.length_append, List.length_append, h.1]; rfl, fun i q hi => ?_⟩
  by_cases z : i < ps.length
  · rw [List.getElem?_append_left z] at hi
    obtain ⟨b', am', as', ws', a, c⟩ := h.2 i q hi
    exact ⟨b', am', as', ws', by rw [List.getElem?_append_left (by rw [h.1]; exact z)]; exact a, c⟩
  · have zl := (List.getElem?_eq_some_iff.mp hi).1
    rw [List.length_append] at zl
    have zi : i = ps.length := by
      have : [p].length = 1 := rfl
      omega
    subst zi
    rw [List.getElem?_append_right (Nat.le_refl _), Nat.sub_self] at hi
    cases hi
    exact ⟨b, am, as_, ws, by rw [← h.1, List.getElem?_append_right (Nat.le_refl _), Nat.sub_self]; rfl, d, n1, n2⟩
def rowF (ns : List Int) (k : Nat) : List Int := drawsF ns (3 + (k : Int)) 20
def plainF (ns : List Int) (asks : List Str) (many : Int) (single : Bool) (k : Nat) : PlainD :=
  ⟨1 + (rowF ns k).getD 0 0 % (if decide (many ≤ 2) = true then 3 else 2), (rowF ns k).getD 3 0 % (1 + (rowF ns k).getD 0 0 % (if decide (many ≤ 2) = true then 3 else 2)),
    lmarksF ((rowF ns k).getD 2 0) (1 + (rowF ns k).getD 0 0 % (if decide (many ≤ 2) = true then 3 else 2)),
    stepsF ((rowF ns k).drop 4) asks (single || decide ((rowF ns k).getD 1 0 % 3 = 0)) (1 + (rowF ns k).getD 0 0 % (if decide (many ≤ 2) = true then 3 else 2))⟩
def plainsF (ns : List Int) (asks : List Str) (many : Int) (single : Bool) (k : Nat) : List PlainD := (List.range k).map (plainF ns asks many single)
def sp_plains (K : PySem.W.Frag) : Sp := fun vs H Q _ => ∃ (a ak : Addr) (ns : List Int) (asks : List Str) (many : Int) (single : Bool), vs = [.ref a, .ref ak, .int many, .bl single] ∧ SqL K H a (ns.map V.int) ∧ SqL K H ak (asks.map V.str) ∧ asks.length ≤ 4 ∧ 0 ≤ many ∧ many ≤ 5 ∧
  ∀ p us H', H p = none → Ex H H' → H' p = some (.lst us) → PlainsAt H' us (plainsF ns asks many single many.toNat) → Q (.ref p) H'
theorem ok_plains (T : Tp K mg) : FnOk P w K mg base CX0 3 T.a__law_lot T.d__law_lot ["_law_script", "_law_asks_here", "_law_many", "_law_single"] (sp_plains K) := by
  have G__law_draws : FnOk P w K mg base CX0 2 T.a__law_draws T.d__law_draws ["_law_script", "_law_k", "_law_many"] (sp_draws K) := ok_draws T
  have G__law_steps : FnOk P w K mg base CX0 1 T.a__law_steps T.d__law_steps ["_law_row", "_law_size_here", "_law_asks_here", "_law_single"] (sp_lsteps K) := ok_lsteps T
  have G__law_marks : FnOk P w K mg base CX0 1 T.a__law_marks T.d__law_marks ["_law_digit", "_law_size_here"] (sp_lmarks K) := ok_lmarks T
  refine T.f__law_lot.ok sc__law_lot (fun vs H Q E h => ?_) (fun cdv A outer s H vs Q E hr h => ?_)
  · obtain ⟨a, ak, ns, asks, many, single, rfl, _⟩ := h
    rfl
  · obtain ⟨a, ak, ns, asks, many, single, rfl, hS, hA, al, m0, m1, q⟩ := h
    refine ⟨_, (pss_cons (ps_set (i := 4) sc__law_lot.nd rfl (.inl rfl) (pe_lst pa_nil))
  (pss_cons (ps_for PassesOwn.never rfl (pi_range1 rfl T.n_range (pa_cons (pv 2) pa_nil)) (pg_name (i := 5) sc__law_lot.nd rfl (.inl rfl))
  (pss_cons (ps_set (i := 6) sc__law_lot.nd rfl (.inl rfl) (pe_call G__law_draws (hr.mono (by decide)) (by rfl) T.g__law_draws T.f__law_draws.kp T.b__law_draws .nil pass0 (pa_cons (pv 0) (pa_cons (pe_op opAdd pe_int (pv 5)) (pa_cons pe_int pa_nil)))))
  (pss_cons (ps_set (i := 7) sc__law_lot.nd rfl (.inl rfl) (pe_op opAdd pe_int (pe_op op_mod (pe_callTy c_int (by rfl) T.n_int (by rfl) (pa_cons (pe_ix ix_seq (pv 6) pe_int (fun _ _ => rfl)) pa_nil)) (pe_ifExp (pt_cmpR op_le (pv 2) pe_int (nomark _)) pe_int pe_int))))
  (pss_cons (ps_set (i := 8) sc__law_lot.nd rfl (.inl rfl) (pe_call G__law_steps (hr.mono (by decide)) (by rfl) T.g__law_steps T.f__law_steps.kp T.b__law_steps .nil pass0 (pa_cons (pe_slice sl_list (pv 6) (po_some pe_int) po_none) (pa_cons (pv 7) (pa_cons (pv 1) (pa_cons (pe_or (pv 3) (pe_one (pe_cmpR op_eq (pe_op op_mod (pe_callTy c_int (by rfl) T.n_int (by rfl) (pa_cons (pe_ix ix_seq (pv 6) pe_int (fun _ _ => rfl)) pa_nil)) pe_int) pe_int (nomark _)))) pa_nil))))))
  (pss_one (ps_expr (pe_bm PySem.F.plainAttrs_list PySem.F.slot_list_append PySem.F.type_list_append mt_append (pv 4) (pa_cons (pe_tup (pa_cons (pv 7) (pa_cons (pe_call G__law_marks (hr.mono (by decide)) (by rfl) T.g__law_marks T.f__law_marks.kp T.b__law_marks .nil pass0 (pa_cons (pe_ix ix_seq (pv 6) pe_int (fun _ _ => rfl)) (pa_cons (pv 7) pa_nil))) (pa_cons (pv 8) (pa_cons (pe_op op_mod (pe_callTy c_int (by rfl) T.n_int (by rfl) (pa_cons (pe_ix ix_seq (pv 6) pe_int (fun _ _ => rfl)) pa_nil)) (pv 7)) pa_nil))))) pa_nil))))))))
  (pss_one (ps_ret (pv 4))))), ?_⟩
    walk_at "g"
    refine ⟨sz_of (by show 0 ≤ 100000; decide), fun l hl => ?_⟩
    walk_at "g"
    refine lr1_go (n := many) (fun k σ' H' => ∃ acc y5 y6 y7 y8, σ' = [some (.ref a), some (.ref ak), some (.int many), some (.bl single), some (.ref l), y5, y6, y7, y8] ∧ Ex H H' ∧ H' l = some (.lst acc) ∧ PlainsL l H' acc (plainsF ns asks many single k))
      ⟨[], _, _, _, _, rfl, Ex.new hl, upd_same, rfl, fun i p hi => nomatch hi⟩ ⟨m0, by omega⟩ ?_ ?_
    · rintro k σ' H1 hk ⟨acc, y5, y6, y7, y8, rfl, e1, l1, pl⟩
      have hrow : (rowF ns k).length = 20 := draws_len ns _ 20
      have hbd : ∀ x ∈ rowF ns k, 0 ≤ x ∧ x < 64 := draws_bd ns _ 20
      walk_at "g"
      refine ⟨a, ns, 3 + (k : Int), 20, rfl, ex_l e1 hS, by omega, by decide, by decide, fun pd H2 fd e2 t2 => ?_⟩
      rw [show drawsF ns (3 + (k : Int)) 20 = rowF ns k from rfl] at t2
      walk_at "g"
      refine ix_l (.inl (.inl t2)) (row_at (j := 0) (by omega)) ?_
      walk_at "g"
      refine ite_int ?_
      have hd : (0 : Int) < (if decide (many ≤ 2) = true then 3 else 2) := by split <;> decide
      have hd3 : (if decide (many ≤ 2) = true then 3 else 2 : Int) ≤ 3 := by split <;> decide
      refine r_I hd ?_
      walk_at "g"
      have r0 := Int.emod_nonneg ((rowF ns k).getD 0 0) (show (if decide (many ≤ 2) = true then 3 else 2 : Int) ≠ 0 by omega)
      have r1 := Int.emod_lt_of_pos ((rowF ns k).getD 0 0) hd
      have hn : ∃ n, n = 1 + (rowF ns k).getD 0 0 % (if decide (many ≤ 2) = true then 3 else 2) := ⟨_, rfl⟩
      obtain ⟨n, hn⟩ := hn
      rw [← hn]
      have n1 : 1 ≤ n := by omega
      have n4 : n ≤ 4 := by omega
      refine sl_l (.inl (.inl t2)) fun ps hps => ?_
      rw [show ((4 : Int)) = ((4 : Nat) : Int) from rfl, cutV_from, ← List.map_drop]
      have e3 : Ex H2 (upd H2 ps (.lst (((rowF ns k).drop 4).map V.int))) := Ex.new hps
      have t3 : (upd H2 ps (.lst (((rowF ns k).drop 4).map V.int))) ps = some (.lst (((rowF ns k).drop 4).map V.int)) := upd_same
      generalize (upd H2 ps (.lst (((rowF ns k).drop 4).map V.int))) = H3 at e3 t3
      walk_at "g"
      refine or_go (d := decide ((rowF ns k).getD 1 0 % 3 = 0)) ?_ ?_
      · intro R r
        walk_at "g"
        refine ix_l (.inl (.inl (e3 _ _ t2))) (row_at (j := 1) (by omega)) ?_
        walk_at "g"
        rw [show decide (V.int ((rowF ns k).getD 1 0 % 3) = V.int 0) = decide ((rowF ns k).getD 1 0 % 3 = 0) from decide_eq_decide.mpr ⟨V.int.inj, congrArg V.int⟩]
        exact r
      walk_at "g"
      refine ⟨ps, ak, (rowF ns k).drop 4, asks, _, n, rfl, .inl (.inl t3), by rw [List.length_drop]; omega, fun x hx => hbd x (List.mem_of_mem_drop hx), n1, n4, ex_l (e1.trans (e2.trans e3)) hA, al, fun pS us H6 fS e6 t6 tS => ?_⟩
      have l6 := (e2.trans (e3.trans e6)) _ _ l1
      have nS : pS ≠ l := fun z => by rw [z, (e2.trans e3) _ _ l1] at fS; cases fS
      walk_at "g"
      refine r_app rfl l6 ?_
      walk_at "g"
      refine ix_l (.inl (.inl ((e3.trans e6) _ _ t2))) (row_at (j := 2) (by omega)) ?_
      walk_at "g"
      refine ⟨(rowF ns k).getD 2 0, n, rfl, n1, n4, fun pm H7 fm e7 t7 => ?_⟩
      have l7 := e7 _ _ l6
      have nM : pm ≠ l := fun z => by rw [z, l6] at fm; cases fm
      walk_at "g"
      refine ix_l (.inl (.inl ((e3.trans (e6.trans e7)) _ _ t2))) (row_at (j := 3) (by omega)) ?_
      walk_at "g"
      refine r_I (show 0 < n by omega) ?_
      walk_at "g"
      refine ⟨sz_of (by show 4 ≤ 100000; decide), fun b hb => ?_⟩
      have e8 : Ex H7 (upd H7 b (.tup [.int n, .ref pm, .ref pS, .int ((rowF ns k).getD 3 0 % n)])) := Ex.new hb
      have t8 : (upd H7 b (.tup [.int n, .ref pm, .ref pS, .int ((rowF ns k).getD 3 0 % n)])) b = some (.tup [.int n, .ref pm, .ref pS, .int ((rowF ns k).getD 3 0 % n)]) := upd_same
      generalize (upd H7 b (.tup [.int n, .ref pm, .ref pS, .int ((rowF ns k).getD 3 0 % n)])) = H8 at e8 t8
      walk_at "g"
      have l8 := e8 _ _ l7
      have la : acc.length = k := by
        have := pl.1
        unfold plainsF at this
        rw [List.length_map, List.length_range] at this
        exact this
      have e18 : Ex H1 H8 := e2.trans (e3.trans (e6.trans (e7.trans e8)))
      have pd8 : PlainAt H8 b (plainF ns asks many single k) pm pS us := by
        unfold plainF
        rw [← hn]
        exact ⟨t8, (e8 _ _ t7), (e7.trans e8) _ _ t6, tS.tx (tx_ex (e7.trans e8))⟩
      refine app_l l8 (Nat.lt_of_le_of_lt (show acc.length ≤ 5 by omega) (by decide)) ?_
      have c9 : Ch l H8 (upd H8 l (.lst (acc ++ [.ref b]))) := ch_upd
      have t9 : (upd H8 l (.lst (acc ++ [.ref b]))) l = some (.lst (acc ++ [.ref b])) := upd_same
      have e9 : Ex H (upd H8 l (.lst (acc ++ [.ref b]))) := ex_upd (e1.trans e18) hl
      generalize (upd H8 l (.lst (acc ++ [.ref b]))) = H9 at c9 t9 e9
      walk_at "g"
      refine ⟨acc ++ [.ref b], _, _, _, _, rfl, e9, t9, ?_⟩
      rw [show plainsF ns asks many single (k + 1) = plainsF ns asks many single k ++ [plainF ns asks many single k] by unfold plainsF; rw [List.range_succ, List.map_append]; rfl]
      exact ((pl.ex e18).snoc pd8 nM nS).chl l8 c9
    · rintro σ' H1 ⟨acc, y5, y6, y7, y8, rfl, e1, l1, pl⟩
      walk_at "g"
      exact q l acc H1 hl e1 l1 pl.at_
end

end K08

set_option Elab.async false
set_option linter.all false
set_option maxRecDepth 100000
set_option maxHeartbeats 2000000
namespace K08
open PySem PySem.Spec PyProof.Rows L2 Evl AE
local macro_rules | `(tactic| walk_at "c") => `(tactic| first | exact ⟨by decide, by decide⟩ | exact .inr ⟨by decide, by decide⟩ | exact .inl ⟨by decide, by decide⟩ | exact ⟨by decide, by decide, by decide⟩ | (show (0 : Int) < _; decide))
local macro_rules | `(tactic| walk_at "s") => `(tactic| first
  | (with_reducible refine r_var rfl ?_) | (with_reducible refine r_c ?_) | (with_reducible refine r_op ?_) | (with_reducible refine r_un ?_) | (with_reducible refine r_I0 ?_) | (with_reducible refine r_U ?_)
  | (with_reducible refine r_eq rfl ?_) | (with_reducible refine r_ne rfl ?_) | (with_reducible refine r_chain ?_) | (with_reducible refine r_test ?_) | (with_reducible refine r_tB ?_)
  | (with_reducible refine r_bl ?_) | (with_reducible refine r_and ?_) | (with_reducible refine r_or ?_) | (with_reducible refine r_not ?_) | (with_reducible refine r_nil ?_) | (with_reducible refine r_cons ?_)
  | (with_reducible refine r_tupK ?_) | (with_reducible refine r_lstK ?_) | (with_reducible refine r_cb ?_) | (with_reducible refine r_revL ?_) | (with_reducible refine r_ost ?_) | (with_reducible refine r_mkO ?_) | (with_reducible refine r_makeK ?_) | (with_reducible refine r_make ?_) | (with_reducible refine r_setdN ?_) | (with_reducible refine r_nget2 ?_) | (with_reducible refine r_nnew ?_) | (with_reducible refine r_call ?_) | (with_reducible refine r_seq ?_) | (with_reducible refine r_set ?_)
  | (with_reducible refine r_drop ?_) | (with_reducible refine r_ret ?_) | (with_reducible refine r_next ?_) | (with_reducible refine r_if ?_) | (with_reducible refine r_sl ?_) | (with_reducible refine r_nop ?_) | (with_reducible refine r_prt ?_) | (with_reducible refine r_some ?_)
  | (with_reducible refine add_int ?_) | (with_reducible refine int_i ?_) | (with_reducible refine r_forR1 ?_) | (with_reducible refine r_forR2 ?_) | (with_reducible refine r_meth ?_) | (with_reducible refine r_makeS ?_) | (with_reducible refine r_opS ?_) | (with_reducible refine r_makeRS ?_) | (with_reducible refine r_methH ?_) | (with_reducible refine r_callS ?_) | (with_reducible refine r_forL ?_) | (with_reducible refine r_andV ?_) | (with_reducible refine r_orV ?_) | (with_reducible refine r_notV ?_) | (with_reducible refine r_ifE ?_) | (with_reducible refine r_lcL ?_) | (with_reducible refine r_fld ?_) | (with_reducible refine r_get ?_) | (with_reducible refine r_din ?_) | (with_reducible refine r_dget2 ?_) | ((with_reducible refine r_I ?_ ?_); (walk_at "c")))
local macro_rules | `(tactic| walk_at "g") => `(tactic| repeat walk_at "s")
section
variable {P : Program} {w : World} {K : PySem.W.Frag} {mg : Str → Option Value} {base : Heap}
theorem getD_lt {α : Type} {R : α → α → Prop} {l : List α} {z : α} (h : l.Pairwise R) {i j : Nat} (hij : i < j) (hj : j < l.length) : R (l.getD i z) (l.getD j z) := by
  rw [List.getD_eq_getElem?_getD, List.getD_eq_getElem?_getD, List.getElem?_eq_getElem hj, List.getElem?_eq_getElem (by omega)]
  exact List.pairwise_iff_getElem.mp h i j (by omega) hj hij
theorem getD_mem {α : Type} {l : List α} {z : α} {i : Nat} (hi : i < l.length) : l.getD i z ∈ l := by
  rw [List.getD_eq_getElem?_getD, List.getElem?_eq_getElem hi]
  exact List.getElem_mem hi
def AskLt (a b : Str) : Prop := a.cps.toList < b.cps.toList
theorem letC_inj {k i j : Nat} {r : Int} (hk : k < 6) (hi : i < 6) (hj : j < 6) (h : letC (r + ((k : Int) * 2 + 1) * i) = letC (r + ((k : Int) * 2 + 1) * j)) : i = j := by
  unfold letC at h
  have e : (r + ((k : Int) * 2 + 1) * i) % 26 = (r + ((k : Int) * 2 + 1) * j) % 26 := by omega
  clear h
  have ki : k = 0 ∨ k = 1 ∨ k = 2 ∨ k = 3 ∨ k = 4 ∨ k = 5 := by omega
  rcases ki with rfl | rfl | rfl | rfl | rfl | rfl <;> omega
theorem askL_inj {row : List Int} (hl : 13 ≤ row.length) (hb : ∀ x ∈ row, 0 ≤ x ∧ x < 64) {i j : Nat} (hi : i < 6) (hj : j < 6) (h : askL row i = askL row j) : i = j := by
  have wl := word_len hl
  unfold askL at h
  by_cases z : row.getD 8 0 % 2 = 0
  · rw [if_pos z, if_pos z] at h
    have e := congrArg List.length h
    rw [List.length_take, List.length_take] at e
    omega
  · rw [if_neg z, if_neg z] at h
    have p0 : 0 ≤ row.getD 10 0 % (row.getD 9 0 % 8 + 1) := by
      have : row.getD 9 0 % 8 + 1 ≠ 0 := by omega
      exact Int.emod_nonneg _ this
    have p1 : row.getD 10 0 % (row.getD 9 0 % 8 + 1) < row.getD 9 0 % 8 + 1 := Int.emod_lt_of_pos _ (by omega)
    generalize row.getD 10 0 % (row.getD 9 0 % 8 + 1) = p at p0 p1 h
    rw [List.append_assoc, List.append_assoc] at h
    have e := (List.cons.inj (List.append_cancel_left h)).1
    refine letC_inj (k := (row.getD 12 0 % 6).toNat) (r := row.getD 11 0) (by omega) hi hj ?_
    rw [show (((row.getD 12 0 % 6).toNat : Nat) : Int) = row.getD 12 0 % 6 by omega]
    exact e
theorem asks_nodup {row : List Int} (hl : 13 ≤ row.length) (hb : ∀ x ∈ row, 0 ≤ x ∧ x < 64) {many : Nat} (hm : many ≤ 6) : (asksF row many).Pairwise (· ≠ ·) := by
  unfold asksF
  rw [List.pairwise_map]
  refine (range_up _).imp_of_mem fun {a b} ha hb2 hab e => ?_
  have e1 : askL row a = askL row b := by
    have e2 := congrArg (fun (z : Str) => z.cps.toList) e
    simpa using e2
  have := askL_inj hl hb (by have := List.mem_range.mp ha; omega) (by have := List.mem_range.mp hb2; omega) e1
  omega
theorem sorted_up {xs ys : List Str} (hp : ys.Perm xs) (hs : sortedS ys = true) (nd : xs.Pairwise (· ≠ ·)) : ys.Pairwise AskLt := by
  have pw := sorted_pw hs
  have nd2 : ys.Pairwise (· ≠ ·) := (hp.pairwise_iff (fun h => Ne.symm h)).mpr nd
  refine List.Pairwise.imp₂ (fun a b h1 h2 => ?_) pw nd2
  by_cases h3 : a.cps.toList < b.cps.toList
  · exact h3
  · exact absurd (Str.ext' (Array.toList_inj.mp (List.le_antisymm (List.not_lt.mp h1) (List.not_lt.mp h3)))) h2
theorem ints_eq : ∀ {xs ys : List Int}, xs.Pairwise (· < ·) → ys.Pairwise (· < ·) → (∀ s, s ∈ xs ↔ s ∈ ys) → xs = ys
  | [], [], _, _, _ => rfl
  | [], y :: ys, _, _, h => absurd ((h y).mpr (List.mem_cons_self ..)) (by simp)
  | x :: xs, [], _, _, h => absurd ((h x).mp (List.mem_cons_self ..)) (by simp)
  | x :: xs, y :: ys, hx, hy, h => by
    rw [List.pairwise_cons] at hx hy
    have e : x = y := by
      rcases List.mem_cons.mp ((h x).mp (List.mem_cons_self ..)) with e | m
      · exact e
      · rcases List.mem_cons.mp ((h y).mpr (List.mem_cons_self ..)) with e | m2
        · exact e.symm
        · have a := hy.1 x m
          have b := hx.1 y m2
          omega
    subst e
    have t : xs = ys := ints_eq hx.2 hy.2 fun s => by
      constructor
      · intro m
        rcases List.mem_cons.mp ((h s).mp (List.mem_cons_of_mem _ m)) with e | m2
        · have := hx.1 s m
          omega
        · exact m2
      · intro m
        rcases List.mem_cons.mp ((h s).mpr (List.mem_cons_of_mem _ m)) with e | m2
        · have := hy.1 s m
          omega
        · exact m2
    rw [t]

theorem inn_up (st : Int) (x : Str) (single : Bool) (n d : Int) (k : Nat) : (innF st x single n d k).Pairwise ltS := by
  unfold innF
  rw [List.pairwise_map]
  exact ((range_up _).filter _).imp fun {a b} h => .inr ⟨rfl, .inr ⟨rfl, by show (a : Int) < b; omega⟩⟩
theorem mid_mem {row : List Int} {asks : List Str} {single : Bool} {n : Int} {i j : Nat} {s : StepD} (h : s ∈ midF row asks single n i j) : s.1 = i := by
  unfold midF at h
  obtain ⟨t, _, h⟩ := List.mem_flatMap.mp h
  exact (inn_mem h).1
theorem mid_up {row : List Int} {asks : List Str} {single : Bool} {n : Int} {i : Nat} (up : asks.Pairwise AskLt) : (midF row asks single n i asks.length).Pairwise ltS := by
  unfold midF
  rw [List.pairwise_flatMap]
  refine ⟨fun j _ => inn_up _ _ _ _ _ _, (range_up _).imp_of_mem fun {a b} ha hb hab x hx y hy => ?_⟩
  obtain ⟨x1, x2, _⟩ := inn_mem hx
  obtain ⟨y1, y2, _⟩ := inn_mem hy
  refine .inr ⟨by rw [x1, y1], .inl ?_⟩
  rw [x2, y2]
  exact getD_lt up hab (List.mem_range.mp hb)
theorem steps_up {row : List Int} {asks : List Str} {single : Bool} {n : Int} (up : asks.Pairwise AskLt) : (stepsF row asks single n).Pairwise ltS := by
  unfold stepsF outF
  rw [List.pairwise_flatMap]
  refine ⟨fun j _ => mid_up up, (range_up _).imp_of_mem fun {a b} ha hb hab x hx y hy => ?_⟩
  refine .inl ?_
  rw [mid_mem hx, mid_mem hy]
  omega
theorem lmarks_idem (d n : Int) : marksF n (lmarksF d n) = lmarksF d n := by
  unfold marksF
  refine ints_eq (List.Pairwise.filter _ ?_) ?_ fun s => ?_
  · rw [List.pairwise_map]
    exact (range_up _).imp fun {a b} h => by omega
  · unfold lmarksF
    rw [List.pairwise_map]
    exact ((range_up _).filter _).imp fun {a b} h => by omega
  · rw [List.mem_filter, decide_eq_true_iff, List.mem_map]
    constructor
    · exact fun q => q.2
    · intro q
      have := lmarks_ok s q
      exact ⟨⟨s.toNat, List.mem_range.mpr (by omega), by omega⟩, q⟩
theorem plain_ok {ns : List Int} {asks : List Str} {many : Int} {single : Bool} {k : Nat} (ak : ∀ x ∈ asks, AskOk x) (al : asks.length ≤ 4) (up : asks.Pairwise AskLt) : OkP (plainF ns asks many single k) := by
  have hd : (0 : Int) < (if decide (many ≤ 2) = true then 3 else 2) := by split <;> decide
  have hd3 : (if decide (many ≤ 2) = true then 3 else 2 : Int) ≤ 3 := by split <;> decide
  have r0 := Int.emod_nonneg ((rowF ns k).getD 0 0) (show (if decide (many ≤ 2) = true then 3 else 2 : Int) ≠ 0 by omega)
  have r1 := Int.emod_lt_of_pos ((rowF ns k).getD 0 0) hd
  unfold plainF
  have n1 : 1 ≤ 1 + (rowF ns k).getD 0 0 % (if decide (many ≤ 2) = true then 3 else 2) := by omega
  have n4 : 1 + (rowF ns k).getD 0 0 % (if decide (many ≤ 2) = true then 3 else 2) ≤ 4 := by omega
  generalize 1 + (rowF ns k).getD 0 0 % (if decide (many ≤ 2) = true then 3 else 2) = n at n1 n4
  exact ⟨n1, n4, lmarks_ok, lmarks_len n4, lmarks_idem _ _, steps_ok n1 ak, steps_len n4 al, steps_up up, Int.emod_nonneg _ (by show n ≠ 0; omega), Int.emod_lt_of_pos _ (by omega)⟩
theorem plains_ok {ns : List Int} {asks : List Str} {many : Int} {single : Bool} {k : Nat} (ak : ∀ x ∈ asks, AskOk x) (al : asks.length ≤ 4) (up : asks.Pairwise AskLt) : ∀ p ∈ plainsF ns asks many single k, OkP p := fun p hp => by
  unfold plainsF at hp
  obtain ⟨i, _, rfl⟩ := List.mem_map.mp hp
  exact plain_ok ak al up
/-- the machines made so far, all apart -/
def PS (C : Addr) (ms : List Mach) (H0 : Hp) : Nat → List V → Hp → Prop := fun i acc Ha => PM C ms H0 i acc Ha ∧ acc.Pairwise (· ≠ ·)
theorem ps_stays (C : Addr) (ms : List Mach) (H0 : Hp) : Stays (PS C ms H0) :=
  ⟨fun _ _ _ _ e h => ⟨(pm_stays C ms H0).pex _ _ _ _ e h.1, h.2⟩, fun _ _ _ _ _ _ hD c h => ⟨(pm_stays C ms H0).pch _ _ _ _ _ _ hD c h.1, h.2⟩⟩
theorem mach_some {H : Hp} {y C : Addr} {m : Mach} (h : MachAt H y C m) (n : H y = none) : False := by
  obtain ⟨_, _, _, _, _, _, h1, _⟩ := h
  rw [n] at h1
  cases h1
theorem PS.snoc {C : Addr} {ms : List Mach} {H0 : Hp} {i : Nat} {acc : List V} {Ha He : Hp} {m : Mach} {y : Addr} (h : PS C ms H0 i acc Ha) (ha : acc.length = i) (e : Ex Ha He) (hm : ms[i]? = some m) (ma : MachAt He y C m) (hn : H0 y = none) (hy : Ha y = none) : PS C ms H0 (i + 1) (acc ++ [.ref y]) He := by
  refine ⟨h.1.snoc ha e hm ma hn, ?_⟩
  rw [List.pairwise_append]
  refine ⟨h.2, List.pairwise_singleton _ _, fun a hA b hb => ?_⟩
  rw [List.mem_singleton.mp hb]
  obtain ⟨j, hj⟩ := List.getElem?_of_mem hA
  have jl := (List.getElem?_eq_some_iff.mp hj).1
  have il := (List.getElem?_eq_some_iff.mp hm).1
  obtain ⟨z, hz, mz, _⟩ := h.1 j ms[j] (by omega) (List.getElem?_eq_getElem (by omega))
  rw [hj] at hz
  cases hz
  intro q
  cases q
  exact mach_some mz hy
end

end K08

set_option Elab.async false
set_option linter.all false
set_option maxRecDepth 100000
set_option maxHeartbeats 2000000
namespace K08
open PySem PySem.Spec PyProof.Rows L2 Evl AE
local macro_rules | `(tactic| walk_at "c") => `(tactic| first | exact ⟨by decide, by decide⟩ | exact .inr ⟨by decide, by decide⟩ | exact .inl ⟨by decide, by decide⟩ | exact ⟨by decide, by decide, by decide⟩ | (show (0 : Int) < _; decide))
local macro_rules | `(tactic| walk_at "s") => `(tactic| first
  | (with_reducible refine r_var rfl ?_) | (with_reducible refine r_c ?_) | (with_reducible refine r_op ?_) | (with_reducible refine r_un ?_) | (with_reducible refine r_I0 ?_) | (with_reducible refine r_U ?_)
  | (with_reducible refine r_eq rfl ?_) | (with_reducible refine r_ne rfl ?_) | (with_reducible refine r_chain ?_) | (with_reducible refine r_test ?_) | (with_reducible refine r_tB ?_)
  | (with_reducible refine r_bl ?_) | (with_reducible refine r_and ?_) | (with_reducible refine r_or ?_) | (with_reducible refine r_not ?_) | (with_reducible refine r_nil ?_) | (with_reducible refine r_cons ?_)
  | (with_reducible refine r_tupK ?_) | (with_reducible refine r_lstK ?_) | (with_reducible refine r_cb ?_) | (with_reducible refine r_revL ?_) | (with_reducible refine r_ost ?_) | (with_reducible refine r_mkO ?_) | (with_reducible refine r_makeK ?_) | (with_reducible refine r_make ?_) | (with_reducible refine r_setdN ?_) | (with_reducible refine r_nget2 ?_) | (with_reducible refine r_nnew ?_) | (with_reducible refine r_call ?_) | (with_reducible refine r_seq ?_) | (with_reducible refine r_set ?_)
  | (with_reducible refine r_drop ?_) | (with_reducible refine r_ret ?_) | (with_reducible refine r_next ?_) | (with_reducible refine r_if ?_) | (with_reducible refine r_sl ?_) | (with_reducible refine r_nop ?_) | (with_reducible refine r_prt ?_) | (with_reducible refine r_some ?_)
  | (with_reducible refine add_int ?_) | (with_reducible refine int_i ?_) | (with_reducible refine r_forR1 ?_) | (with_reducible refine r_forR2 ?_) | (with_reducible refine r_meth ?_) | (with_reducible refine r_makeS ?_) | (with_reducible refine r_opS ?_) | (with_reducible refine r_makeRS ?_) | (with_reducible refine r_methH ?_) | (with_reducible refine r_callS ?_) | (with_reducible refine r_forL ?_) | (with_reducible refine r_andV ?_) | (with_reducible refine r_orV ?_) | (with_reducible refine r_notV ?_) | (with_reducible refine r_ifE ?_) | (with_reducible refine r_lcL ?_) | (with_reducible refine r_fld ?_) | (with_reducible refine r_get ?_) | (with_reducible refine r_din ?_) | (with_reducible refine r_dget2 ?_) | ((with_reducible refine r_I ?_ ?_); (walk_at "c")))
local macro_rules | `(tactic| walk_at "g") => `(tactic| repeat walk_at "s")
section
variable {P : Program} {w : World} {K : PySem.W.Frag} {mg : Str → Option Value} {base : Heap}
theorem MachsAt.app {H : Hp} {C : Addr} {us vs : List V} {ms ns : List Mach} (h : MachsAt H C us ms) (g : MachsAt H C vs ns) : MachsAt H C (us ++ vs) (ms ++ ns) := by
  refine ⟨by rw [List.length_append, List.length_append, h.1, g.1], fun i m hi => ?_⟩
  by_cases z : i < ms.length
  · rw [List.getElem?_append_left z] at hi
    obtain ⟨y, a, b⟩ := h.2 i m hi
    exact ⟨y, by rw [List.getElem?_append_left (by rw [h.1]; exact z)]; exact a, b⟩
  · rw [List.getElem?_append_right (by omega)] at hi
    obtain ⟨y, a, b⟩ := g.2 _ m hi
    exact ⟨y, by rw [List.getElem?_append_right (by rw [h.1]; omega), h.1]; exact a, b⟩
theorem put_go {T : Tp K mg} {H : Hp} {R : Addr → Hp → Prop} {us : List V} {ms : List Mach} (hM : MachsAt H T.C_Service us ms) (hV : ∀ m ∈ ms, ValidM m) (hl : ms.length ≤ 5)
    (q : ∀ x H' us', H x = none → Ex H H' → LotAtU T H' x ⟨ms, ms.map (·.now)⟩ us' → (∀ y : Addr, V.ref y ∈ us' → H y = none) → R x H') (x dx : Addr) (hx : H x = none) (hdx : H dx = none) (ne : dx ≠ x) :
    ∃ ws rest, V.ref x :: us = ws ++ rest ∧ ws.length = ["self"].length ∧ rest.length ≤ sizeLine ∧ ∀ p : Addr, (upd (upd H dx (.own x)) x (.ins T.C_Lot dx [])) p = none → sp_lot T (ws ++ [V.ref p]) (upd (upd (upd H dx (.own x)) x (.ins T.C_Lot dx [])) p (.tup rest)) (fun v H2 => v = V.non ∧ R x H2) E0 := by
  refine ⟨[.ref x], us, rfl, rfl, Nat.le_trans (show us.length ≤ 5 by have := hM.1; omega) (by decide), fun p hp => ?_⟩
  have e1 : Ex H (upd (upd H dx (.own x)) x (.ins T.C_Lot dx [])) := (Ex.new hdx).trans (Ex.new (by rw [upd_ne (fun z => ne z.symm)]; exact hx))
  have t1 : (upd (upd H dx (.own x)) x (.ins T.C_Lot dx [])) x = some (.ins T.C_Lot dx []) := upd_same
  generalize (upd (upd H dx (.own x)) x (.ins T.C_Lot dx [])) = H1 at e1 t1 hp
  have e2 : Ex H1 (upd H1 p (.tup us)) := Ex.new hp
  have t2 : (upd H1 p (.tup us)) p = some (.tup us) := upd_same
  generalize (upd H1 p (.tup us)) = H2 at e2 t2
  refine ⟨x, dx, p, us, ms, rfl, e2 _ _ t1, t2, hM.ex (e1.trans e2), hV, hl, fun H' us' la nw c => ⟨rfl, ?_⟩⟩
  exact q x H' us' hx (ex_ch (e1.trans e2) hx c) la fun y hy => none_ex (e1.trans e2) (nw y hy)
theorem r_star {K : PySem.W.Frag} {te : TE} {t : TA} {σ : L2.St} {H : Hp} {Q : List V → Hp → Prop} (q : te σ H fun x H1 => ∃ (p : Addr) (xs : List V), x = V.ref p ∧ (SqT K H1 p xs ∨ SqL K H1 p xs) ∧ t σ H1 fun ys H2 => Q (xs ++ ys) H2) : StX.tStar K te t σ H Q := q
theorem r_makeR {C : Addr} {sp : Sp} {E : XK} {t : TA} {σ : L2.St} {H : Hp} {Q : VK} (q : t σ H fun vs H1 => ∀ x dx : Addr, H1 x = none → H1 dx = none → dx ≠ x → sp (.ref x :: vs) (upd (upd H1 dx (.own x)) x (.ins C dx [])) (fun v H2 => v = .non ∧ Q (.ref x) H2) E) : StX.tMakeR C sp E t σ H Q := q
/-- lot + lot -/
def sp_addL (T : Tp K mg) : Sp := fun vs H Q _ => ∃ (x y : Addr) (l1 l2 : LotD), vs = [.ref x, .ref y] ∧ LotAt T H x l1 ∧ LotAt T H y l2 ∧ (∀ m ∈ l1.ms ++ l2.ms, ValidM m) ∧ (l1.ms ++ l2.ms).length ≤ 5 ∧ (l1.sts ++ l2.sts).length ≤ 1000 ∧
  ∀ z H' us', H z = none → Ex H H' → LotAtU T H' z ⟨l1.ms ++ l2.ms, l1.sts ++ l2.sts⟩ us' → (∀ u : Addr, V.ref u ∈ us' → H u = none) → Q (.ref z) H'
theorem ok_addL (T : Tp K mg) : FnOk P w K mg base CX0 8 T.a_Lot___add__ T.d_Lot___add__ ["self", "other"] (sp_addL T) := by
  have GR_lot := okR_lot (P := P) (w := w) (base := base) T
  refine T.f_Lot___add__.ok sc_Lot___add__ (fun vs H Q E h => ?_) (fun cdv A outer s H vs Q E hr h => ?_)
  · obtain ⟨x, y, l1, l2, rfl, _⟩ := h
    rfl
  · obtain ⟨x, y, l1, l2, rfl, hx, hy, hV, hl, hsl, q⟩ := h
    obtain ⟨dx, av, au, us, h1, h2, h3, h4⟩ := id hx
    obtain ⟨dy, bv, bu, ws, g1, g2, g3, g4⟩ := id hy
    have hM := h4.app g4
    refine ⟨_, (pss_cons (ps_set (i := 2) sc_Lot___add__.nd rfl (.inl rfl) (pe_ifExp (pt_val (pe_callB c_isinstance (by rfl) T.n_isinstance (by rfl) (pa_cons (pv 1) (pa_cons (pe_glob rfl T.g_Lot (show RelV (.ref T.C_Lot) (.ref T.C_Lot) from rfl)) pa_nil)))) (pv 1) (StX.pe_makeR T.mk_Lot GR_lot (hr.mono (by decide)) (by rfl) T.g_Lot pass0 (pa_cons (pv 1) pa_nil))))
  (pss_cons (ps_set (i := 3) sc_Lot___add__.nd rfl (.inl rfl) (pe_tup (StX.pa_star (pe_fld (pv 0) rfl) (StX.pa_star (pe_fld (pv 2) rfl) pa_nil))))
  (pss_cons (ps_set (i := 4) sc_Lot___add__.nd rfl (.inl rfl) (pe_makeS1 T.mk_Lot GR_lot (hr.mono (by decide)) (by rfl) T.g_Lot pass0 (pv 3)))
  (pss_cons (ps_fld (pv 4) (pe_tupF (StX.pa_star (pe_fld (pv 0) rfl) (StX.pa_star (pe_fld (pv 2) rfl) pa_nil))) rfl)
  (pss_one (ps_ret (pv 4))))))), ?_⟩
    walk_at "g"
    refine ⟨_, _, _, _, true, rfl, .own _, .base (.ins g1 T.cl_Lot (T.cc_Lot).o1 (T.cc_Lot).o2 (T.cc_Lot).o3 (T.cc_Lot).o4), T.is_Lot_Lot, ?_⟩
    refine ⟨_, rfl, ite_t rfl ?_⟩
    walk_at "g"
    refine r_star ?_
    walk_at "g"
    refine gtf_go h1 T.cl_Lot T.na_Lot_services (v := .ref av) rfl ?_
    refine ⟨av, us, rfl, .inl (.inl (.inl h2)), r_star ?_⟩
    walk_at "g"
    refine gtf_go g1 T.cl_Lot T.na_Lot_services (v := .ref bv) rfl ?_
    refine ⟨bv, ws, rfl, .inl (.inl (.inl g2)), ?_⟩
    walk_at "g"
    rw [List.append_nil]
    have hlen : (us ++ ws).length ≤ 5 := by rw [hM.1]; exact hl
    refine ⟨sz_of (by omega), fun p hp => ?_⟩
    have e1 : Ex H (upd H p (.tup (us ++ ws))) := Ex.new hp
    have t1 : (upd H p (.tup (us ++ ws))) p = some (.tup (us ++ ws)) := upd_same
    generalize (upd H p (.tup (us ++ ws))) = H1 at e1 t1
    walk_at "g"
    refine ⟨p, us ++ ws, rfl, .inl (.inl (.inl t1)), put_go (hM.ex e1) hV hl fun z H2 us' hz e2 la fr => ?_⟩
    obtain ⟨dz, cv, cu, k1, k2, k3, k4⟩ := id la
    have e12 := e1.trans e2
    walk_at "g"
    refine r_tupF (r_star ?_)
    walk_at "g"
    refine gtf_go (e12 _ _ h1) T.cl_Lot T.na_Lot_states (v := .ref au) rfl ?_
    refine ⟨au, _, rfl, .inl ((h3.ex e12).sq), r_star ?_⟩
    walk_at "g"
    refine gtf_go (e12 _ _ g1) T.cl_Lot T.na_Lot_states (v := .ref bu) rfl ?_
    refine ⟨bu, _, rfl, .inl ((g3.ex e12).sq), ?_⟩
    walk_at "g"
    rw [List.append_nil, ← List.map_append]
    refine ⟨sz_of (by rw [List.length_map]; omega), newf_go fun r H3 hr2 e3 t3 => ?_⟩
    walk_at "g"
    refine stf_go (e3 _ _ k1) T.cl_Lot T.na_Lot_states (by show 2 < 1000; decide) fun H4 c4 (x4 : H4 z = some (.ins T.C_Lot dz [("services", .ref cv), ("states", .ref r)])) => ?_
    walk_at "g"
    have hk1 := e3 _ _ k1
    refine q z H4 us' (none_ex e1 hz) (ex_ch (e12.trans e3) (none_ex e1 hz) c4) ⟨dz, cv, r, x4, c4 _ _ (fun w => by subst w; rw [k1] at k2; cases k2) (e3 _ _ k2), t3.ch hk1 c4, (k4.ex e3).ch hk1 (show (2 : Nat) ≠ 6 by decide) c4⟩ fun u hu => none_ex e1 (fr u hu)
/-- lot + service -/
def sp_addS (T : Tp K mg) : Sp := fun vs H Q _ => ∃ (x y : Addr) (l1 : LotD) (m : Mach), vs = [.ref x, .ref y] ∧ LotAt T H x l1 ∧ MachAt H y T.C_Service m ∧ (∀ k ∈ l1.ms ++ [m], ValidM k) ∧ (l1.ms ++ [m]).length ≤ 5 ∧ (l1.sts ++ [m.now]).length ≤ 1000 ∧
  ∀ z H' us', H z = none → Ex H H' → LotAtU T H' z ⟨l1.ms ++ [m], l1.sts ++ [m.now]⟩ us' → (∀ u : Addr, V.ref u ∈ us' → H u = none) → Q (.ref z) H'
theorem ok_addS (T : Tp K mg) (hn : PySem.W.kitOne K (.ref T.C_Service) (.ref T.C_Lot) = some false) : FnOk P w K mg base CX0 8 T.a_Lot___add__ T.d_Lot___add__ ["self", "other"] (sp_addS T) := by
  have GR_lot := okR_lot (P := P) (w := w) (base := base) T
  refine T.f_Lot___add__.ok sc_Lot___add__ (fun vs H Q E h => ?_) (fun cdv A outer s H vs Q E hr h => ?_)
  · obtain ⟨x, y, l1, m, rfl, _⟩ := h
    rfl
  · obtain ⟨x, y, l1, m, rfl, hx, hm, hV, hl, hsl, q⟩ := h
    obtain ⟨dy0, y1, y2, y3, y4, y5, yy, _⟩ := id hm
    have hM1 : MachsAt H T.C_Service [V.ref y] [m] := ⟨rfl, fun i k hi => by
      have il := (List.getElem?_eq_some_iff.mp hi).1
      have i0 : i = 0 := by simp only [List.length_cons, List.length_nil] at il; omega
      subst i0
      cases hi
      exact ⟨y, rfl, hm⟩⟩
    obtain ⟨dx, av, au, us, h1, h2, h3, h4⟩ := id hx
    refine ⟨_, (pss_cons (ps_set (i := 2) sc_Lot___add__.nd rfl (.inl rfl) (pe_ifExp (pt_val (pe_callB c_isinstance (by rfl) T.n_isinstance (by rfl) (pa_cons (pv 1) (pa_cons (pe_glob rfl T.g_Lot (show RelV (.ref T.C_Lot) (.ref T.C_Lot) from rfl)) pa_nil)))) (pv 1) (StX.pe_makeR T.mk_Lot GR_lot (hr.mono (by decide)) (by rfl) T.g_Lot pass0 (pa_cons (pv 1) pa_nil))))
  (pss_cons (ps_set (i := 3) sc_Lot___add__.nd rfl (.inl rfl) (pe_tup (StX.pa_star (pe_fld (pv 0) rfl) (StX.pa_star (pe_fld (pv 2) rfl) pa_nil))))
  (pss_cons (ps_set (i := 4) sc_Lot___add__.nd rfl (.inl rfl) (pe_makeS1 T.mk_Lot GR_lot (hr.mono (by decide)) (by rfl) T.g_Lot pass0 (pv 3)))
  (pss_cons (ps_fld (pv 4) (pe_tupF (StX.pa_star (pe_fld (pv 0) rfl) (StX.pa_star (pe_fld (pv 2) rfl) pa_nil))) rfl)
  (pss_one (ps_ret (pv 4))))))), ?_⟩
    walk_at "g"
    refine ⟨_, _, _, _, false, rfl, .own _, .base (.ins yy T.cf_Service.cl (T.cc_Service).o1 (T.cc_Service).o2 (T.cc_Service).o3 (T.cc_Service).o4), hn, ?_⟩
    refine ⟨_, rfl, ite_f rfl ?_⟩
    refine r_makeR ?_
    walk_at "g"
    refine put_go hM1 (fun k hk => hV k (List.mem_append_right _ hk)) (show 1 ≤ 5 by decide) fun bz H0 uz hbz e0 lb _ => ?_
    replace h1 := e0 _ _ h1
    replace h2 := e0 _ _ h2
    replace h3 := h3.ex e0
    have h4' := h4.ex e0
    obtain ⟨dy, bv, bu, g1, g2, g3, g4⟩ := id lb
    have hM := h4'.app g4
    walk_at "g"
    refine r_star ?_
    walk_at "g"
    refine gtf_go h1 T.cl_Lot T.na_Lot_services (v := .ref av) rfl ?_
    refine ⟨av, us, rfl, .inl (.inl (.inl h2)), r_star ?_⟩
    walk_at "g"
    refine gtf_go g1 T.cl_Lot T.na_Lot_services (v := .ref bv) rfl ?_
    refine ⟨bv, uz, rfl, .inl (.inl (.inl g2)), ?_⟩
    walk_at "g"
    rw [List.append_nil]
    have hlen : (us ++ uz).length ≤ 5 := by rw [hM.1]; exact hl
    refine ⟨sz_of (by omega), fun p hp => ?_⟩
    have e1 : Ex H0 (upd H0 p (.tup (us ++ uz))) := Ex.new hp
    have t1 : (upd H0 p (.tup (us ++ uz))) p = some (.tup (us ++ uz)) := upd_same
    generalize (upd H0 p (.tup (us ++ uz))) = H1 at e1 t1
    walk_at "g"
    refine ⟨p, us ++ uz, rfl, .inl (.inl (.inl t1)), put_go (hM.ex e1) hV hl fun z H2 us' hz e2 la fr => ?_⟩
    obtain ⟨dz, cv, cu, k1, k2, k3, k4⟩ := id la
    have e12 := e1.trans e2
    walk_at "g"
    refine r_tupF (r_star ?_)
    walk_at "g"
    refine gtf_go (e12 _ _ h1) T.cl_Lot T.na_Lot_states (v := .ref au) rfl ?_
    refine ⟨au, _, rfl, .inl ((h3.ex e12).sq), r_star ?_⟩
    walk_at "g"
    refine gtf_go (e12 _ _ g1) T.cl_Lot T.na_Lot_states (v := .ref bu) rfl ?_
    refine ⟨bu, _, rfl, .inl ((g3.ex e12).sq), ?_⟩
    walk_at "g"
    rw [List.append_nil, show ([m].map (·.now)) = [m.now] from rfl, ← List.map_append]
    refine ⟨sz_of (by rw [List.length_map]; exact Nat.le_trans hsl (by decide)), newf_go fun r H3 hr2 e3 t3 => ?_⟩
    walk_at "g"
    refine stf_go (e3 _ _ k1) T.cl_Lot T.na_Lot_states (by show 2 < 1000; decide) fun H4 c4 (x4 : H4 z = some (.ins T.C_Lot dz [("services", .ref cv), ("states", .ref r)])) => ?_
    walk_at "g"
    have hk1 := e3 _ _ k1
    refine q z H4 us' (none_ex (e0.trans e1) hz) (e0.trans (ex_ch (e12.trans e3) (none_ex e1 hz) c4)) ⟨dz, cv, r, x4, c4 _ _ (fun w => by subst w; rw [k1] at k2; cases k2) (e3 _ _ k2), t3.ch hk1 c4, (k4.ex e3).ch hk1 (show (2 : Nat) ≠ 6 by decide) c4⟩ fun u hu => none_ex (e0.trans e1) (fr u hu)
end

end K08

set_option Elab.async false
set_option linter.all false
set_option maxRecDepth 100000
set_option maxHeartbeats 2000000
namespace K08
open PySem PySem.Spec PyProof.Rows L2 Evl AE
local macro_rules | `(tactic| walk_at "c") => `(tactic| first | exact ⟨by decide, by decide⟩ | exact .inr ⟨by decide, by decide⟩ | exact .inl ⟨by decide, by decide⟩ | exact ⟨by decide, by decide, by decide⟩ | (show (0 : Int) < _; decide))
local macro_rules | `(tactic| walk_at "s") => `(tactic| first
  | (with_reducible refine r_var rfl ?_) | (with_reducible refine r_c ?_) | (with_reducible refine r_op ?_) | (with_reducible refine r_un ?_) | (with_reducible refine r_I0 ?_) | (with_reducible refine r_U ?_)
  | (with_reducible refine r_eq rfl ?_) | (with_reducible refine r_ne rfl ?_) | (with_reducible refine r_chain ?_) | (with_reducible refine r_test ?_) | (with_reducible refine r_tB ?_)
  | (with_reducible refine r_bl ?_) | (with_reducible refine r_and ?_) | (with_reducible refine r_or ?_) | (with_reducible refine r_not ?_) | (with_reducible refine r_nil ?_) | (with_reducible refine r_cons ?_)
  | (with_reducible refine r_tupK ?_) | (with_reducible refine r_lstK ?_) | (with_reducible refine r_cb ?_) | (with_reducible refine r_revL ?_) | (with_reducible refine r_ost ?_) | (with_reducible refine r_mkO ?_) | (with_reducible refine r_makeK ?_) | (with_reducible refine r_make ?_) | (with_reducible refine r_setdN ?_) | (with_reducible refine r_nget2 ?_) | (with_reducible refine r_nnew ?_) | (with_reducible refine r_call ?_) | (with_reducible refine r_seq ?_) | (with_reducible refine r_set ?_)
  | (with_reducible refine r_drop ?_) | (with_reducible refine r_ret ?_) | (with_reducible refine r_next ?_) | (with_reducible refine r_if ?_) | (with_reducible refine r_sl ?_) | (with_reducible refine r_nop ?_) | (with_reducible refine r_prt ?_) | (with_reducible refine r_some ?_)
  | (with_reducible refine add_int ?_) | (with_reducible refine int_i ?_) | (with_reducible refine r_forR1 ?_) | (with_reducible refine r_forR2 ?_) | (with_reducible refine r_meth ?_) | (with_reducible refine r_makeS ?_) | (with_reducible refine r_opS ?_) | (with_reducible refine r_makeRS ?_) | (with_reducible refine r_methH ?_) | (with_reducible refine r_callS ?_) | (with_reducible refine r_forL ?_) | (with_reducible refine r_andV ?_) | (with_reducible refine r_orV ?_) | (with_reducible refine r_notV ?_) | (with_reducible refine r_ifE ?_) | (with_reducible refine r_lcL ?_) | (with_reducible refine r_fld ?_) | (with_reducible refine r_get ?_) | (with_reducible refine r_din ?_) | (with_reducible refine r_dget2 ?_) | ((with_reducible refine r_I ?_ ?_); (walk_at "c")))
local macro_rules | `(tactic| walk_at "g") => `(tactic| repeat walk_at "s")
section
variable {P : Program} {w : World} {K : PySem.W.Frag} {mg : Str → Option Value} {base : Heap}
/-! ### the states of a lot are set -/
def stOkB (p : Mach × Int) : Bool := decide (-1 ≤ p.2) && decide (p.2 < p.1.size)
def statesOkF (ms : List Mach) (sts : List Int) : Bool := (ms.zip sts).all stOkB
def sp_ares (T : Tp K mg) : Sp := fun vs H Q _ => ∃ (av au : Addr) (us : List V) (ms : List Mach) (sts : List Int), vs = [.ref av, .ref au] ∧ H av = some (.tup us) ∧ MachsAt H T.C_Service us ms ∧ SqT K H au (sts.map V.int) ∧ sts.length = ms.length ∧ ms.length ≤ 1000 ∧ ∀ H', Ex H H' → Q (.bl (statesOkF ms sts)) H'
theorem ok_ares (T : Tp K mg) : FnOk P w K mg base CX0 1 T.a_are_states T.d_are_states ["services", "states"] (sp_ares T) := by
  refine T.f_are_states.ok sc_are_states (fun vs H Q E h => ?_) (fun cdv A outer s H vs Q E hr h => ?_)
  · obtain ⟨av, au, us, ms, sts, rfl, _⟩ := h
    rfl
  · obtain ⟨av, au, us, ms, sts, rfl, h2, h4, ht, hsl, hml, q⟩ := h
    have hul := h4.1
    refine ⟨_, (pss_one (ps_ret (pe_callB (cr_all rfl) (by rfl) T.n_all (by rfl) (pa_cons (pe_lc (own := [("service", 2), ("state", 3)]) (g := gTup K 2 (gCons (gName 2) (gCons (gName 3) gNil))) (tt := tYes) rfl sc_are_states.nd (RZ.pi_zipA (by rfl) T.n_zip (pa_cons (pv 0) (pa_cons (pv 1) pa_nil))) (blkOk_by (N := N_are_states) (sc := defScope s_are_states) (by decide +kernel)) (fun _ _ _ _ _ => (pg_tup (by rfl) (pgs_cons (pg_name (i := 2) sc_are_states.nd rfl (.inl rfl)) (pgs_cons (pg_name (i := 3) sc_are_states.nd rfl (.inl rfl)) pgs_nil)))) (fun _ _ _ _ _ => pts_nil) (fun _ _ _ _ _ => (pe_chain op_le op_lt (pe_gi rfl T.k_AWAY) (pv 3) (pe_fldK (K := K) (pv 2) rfl)))) pa_nil)))), ?_⟩
    walk_at "g"
    have hzl : (ms.zip sts).length = us.length := by rw [List.length_zip]; omega
    refine lco_z (fun i acc _ => acc = ((ms.zip sts).map fun p => V.bl (stOkB p)).take i) (stays_take _) (a := av) (b := au) (xs := us) (ys := sts.map V.int) ?_ (.inl (.inl h2)) ht (by rw [List.length_map]; omega) (by omega) rfl ?_ ?_
    · intro R r
      walk_at "g"
      exact r
    · intro i x y T1 acc Ha hx hy ha e1 hp hT R R2 r
      rw [List.getElem?_map] at hy
      obtain ⟨st, hst, rfl⟩ := Option.map_eq_some_iff.mp hy
      obtain ⟨m, hm⟩ : ∃ m, ms[i]? = some m := ⟨ms[i]'(by have := (List.getElem?_eq_some_iff.mp hx).1; omega), List.getElem?_eq_getElem _⟩
      obtain ⟨y0, hy0, hm0⟩ := h4.2 i m hm
      rw [hx] at hy0
      cases hy0
      have e2 : Ex Ha (upd Ha T1 (.tup [.ref y0, .int st])) := Ex.new hT
      have hmm := hm0.ex (e1.trans e2)
      refine gtup2 upd_same (gnames2 ⟨rfl, yes_q (ite_t rfl ?_)⟩)
      generalize upd Ha T1 (.tup [.ref y0, .int st]) = Hb at e2 hmm
      have hi : (((ms.zip sts).map fun p => V.bl (stOkB p)))[i]? = some (.bl (stOkB (m, st))) := by
        rw [List.getElem?_map, show (ms.zip sts)[i]? = some (m, st) from List.getElem?_zip_eq_some.mpr ⟨hm, hst⟩]
        rfl
      have r' : ∀ He, Ex Hb He → R (.bl (stOkB (m, st))) He := fun He e => r _ He (e2.trans e) (by rw [hp, List.take_add_one, hi]; rfl)
      obtain ⟨dy, pm, ps, de, dp, ws, g1, _⟩ := id hmm
      unfold stOkB at r'
      walk_at "g"
      refine ite_b (fun hc => ?_) (fun hc => ?_)
      · rw [show decide (-1 ≤ (m, st).2) = true from hc, Bool.true_and] at r'
        walk_at "g"
        refine gtf_go g1 T.cf_Service.cl T.cf_Service.n1 (v := .int m.size) rfl ?_
        walk_at "g"
        exact r' Hb (Ex.refl _)
      · rw [show decide (-1 ≤ (m, st).2) = false from hc, Bool.false_and] at r'
        walk_at "g"
        exact r' Hb (Ex.refl _)
    · intro D acc H1 hD hal e1 l1 hp
      rw [List.take_of_length_le (by rw [List.length_map]; omega)] at hp
      subst hp
      walk_at "g"
      refine ⟨D, (ms.zip sts).map stOkB, rfl, .inl (.inl (by rw [l1, List.map_map]; rfl)), ?_⟩
      rw [List.all_map]
      exact q H1 e1
def sp_sets (T : Tp K mg) : Sp := fun vs H Q _ => ∃ (x au : Addr) (l : LotD) (us : List V) (sts : List Int), vs = [.ref x, .ref au] ∧ LotAtU T H x l us ∧ TupF H au (sts.map V.int) ∧ sts.length = l.ms.length ∧ l.ms.length ≤ 5 ∧ statesOkF l.ms sts = true ∧
  ∀ H', Ch x H H' → LotAtU T H' x ⟨l.ms, sts⟩ us → Q .non H'
theorem ok_sets (T : Tp K mg) : FnOk P w K mg base CX0 2 T.a_Lot_set_states T.d_Lot_set_states ["self", "states"] (sp_sets T) := by
  have G_are_states := ok_ares (P := P) (w := w) (base := base) T
  refine T.f_Lot_set_states.ok sc_Lot_set_states (fun vs H Q E h => ?_) (fun cdv A outer s H vs Q E hr h => ?_)
  · obtain ⟨x, au, l, us, sts, rfl, _⟩ := h
    rfl
  · obtain ⟨x, au, l, us, sts, rfl, hl, ht, hsl, hml, hok, q⟩ := h
    obtain ⟨dx, av, au', h1, h2, h3, h4⟩ := id hl
    have hul := h4.1
    refine ⟨_, (pss_cons (ps_if (PW.pt (pw_or (pt_cmpR op_ne (pe_callB c_len (by rfl) T.n_len (by rfl) (pa_cons (pv 1) pa_nil)) (pe_callB c_len (by rfl) T.n_len (by rfl) (pa_cons (pe_fld (pv 0) rfl) pa_nil)) (nomark _)) (pw_or1 (pt_not (pt_val (pe_call G_are_states (hr.mono (by decide)) (by rfl) T.g_are_states T.f_are_states.kp T.b_are_states .nil pass0 (pa_cons (pe_fld (pv 0) rfl) (pa_cons (pv 1) pa_nil)))))))) (pss_one ps_never) pss_nil)
  (pss_one (ps_fld (pv 0) (pe_callTy c_tuple (by rfl) T.n_tuple (by rfl) (pa_cons (pv 1) pa_nil)) rfl))), ?_⟩
    walk_at "g"
    refine len_t ht.sq ?_
    walk_at "g"
    refine gtf_go h1 T.cl_Lot T.na_Lot_services (v := .ref av) rfl ?_
    walk_at "g"
    refine len_t (.inl (.inl h2)) ?_
    walk_at "g"
    refine ite_f (by rw [show (sts.map V.int).length = us.length by rw [List.length_map]; omega, decide_eq_true rfl]; rfl) ?_
    walk_at "g"
    refine gtf_go h1 T.cl_Lot T.na_Lot_services (v := .ref av) rfl ?_
    walk_at "g"
    refine ⟨av, au, us, l.ms, sts, rfl, h2, h4, ht.sq, hsl, by omega, fun H1 e1 => ?_⟩
    rw [hok]
    refine ⟨_, rfl, ite_f rfl ?_⟩
    walk_at "g"
    refine ⟨au, _, rfl, .inr ⟨(ht.ex e1).sq, ?_⟩⟩
    walk_at "g"
    have x1 := e1 _ _ h1
    refine stf_go x1 T.cl_Lot T.na_Lot_states (by show 2 < 1000; decide) fun H2 c2 (x2 : H2 x = some (.ins T.C_Lot dx [("services", .ref av), ("states", .ref au)])) => ?_
    refine q H2 (Ch.trans (ch_ex e1) c2) ⟨dx, av, au, x2, c2 _ _ (fun z => by subst z; rw [h1] at h2; cases h2) (e1 _ _ h2), (ht.ex e1).ch x1 c2, (h4.ex e1).ch x1 (show (2 : Nat) ≠ 6 by decide) c2⟩
end

end K08

set_option Elab.async false
set_option linter.all false
set_option maxRecDepth 100000
set_option maxHeartbeats 2000000
namespace K08
open PySem PySem.Spec PyProof.Rows L2 Evl AE
local macro_rules | `(tactic| walk_at "c") => `(tactic| first | exact ⟨by decide, by decide⟩ | exact .inr ⟨by decide, by decide⟩ | exact .inl ⟨by decide, by decide⟩ | exact ⟨by decide, by decide, by decide⟩ | (show (0 : Int) < _; decide))
local macro_rules | `(tactic| walk_at "s") => `(tactic| first
  | (with_reducible refine r_var rfl ?_) | (with_reducible refine r_c ?_) | (with_reducible refine r_op ?_) | (with_reducible refine r_un ?_) | (with_reducible refine r_I0 ?_) | (with_reducible refine r_U ?_)
  | (with_reducible refine r_eq rfl ?_) | (with_reducible refine r_ne rfl ?_) | (with_reducible refine r_chain ?_) | (with_reducible refine r_test ?_) | (with_reducible refine r_tB ?_)
  | (with_reducible refine r_bl ?_) | (with_reducible refine r_and ?_) | (with_reducible refine r_or ?_) | (with_reducible refine r_not ?_) | (with_reducible refine r_nil ?_) | (with_reducible refine r_cons ?_)
  | (with_reducible refine r_tupK ?_) | (with_reducible refine r_lstK ?_) | (with_reducible refine r_cb ?_) | (with_reducible refine r_revL ?_) | (with_reducible refine r_ost ?_) | (with_reducible refine r_mkO ?_) | (with_reducible refine r_makeK ?_) | (with_reducible refine r_make ?_) | (with_reducible refine r_setdN ?_) | (with_reducible refine r_nget2 ?_) | (with_reducible refine r_nnew ?_) | (with_reducible refine r_call ?_) | (with_reducible refine r_seq ?_) | (with_reducible refine r_set ?_)
  | (with_reducible refine r_drop ?_) | (with_reducible refine r_ret ?_) | (with_reducible refine r_next ?_) | (with_reducible refine r_if ?_) | (with_reducible refine r_sl ?_) | (with_reducible refine r_nop ?_) | (with_reducible refine r_prt ?_) | (with_reducible refine r_some ?_)
  | (with_reducible refine add_int ?_) | (with_reducible refine int_i ?_) | (with_reducible refine r_forR1 ?_) | (with_reducible refine r_forR2 ?_) | (with_reducible refine r_meth ?_) | (with_reducible refine r_makeS ?_) | (with_reducible refine r_opS ?_) | (with_reducible refine r_makeRS ?_) | (with_reducible refine r_methH ?_) | (with_reducible refine r_callS ?_) | (with_reducible refine r_forL ?_) | (with_reducible refine r_andV ?_) | (with_reducible refine r_orV ?_) | (with_reducible refine r_notV ?_) | (with_reducible refine r_ifE ?_) | (with_reducible refine r_lcL ?_) | (with_reducible refine r_fld ?_) | (with_reducible refine r_get ?_) | (with_reducible refine r_din ?_) | (with_reducible refine r_dget2 ?_) | ((with_reducible refine r_I ?_ ?_); (walk_at "c")))
local macro_rules | `(tactic| walk_at "g") => `(tactic| repeat walk_at "s")
section
variable {P : Program} {w : World} {K : PySem.W.Frag} {mg : Str → Option Value} {base : Heap}
def lotD (ps : List PlainD) : LotD := ⟨ps.map machP, ps.map (·.now)⟩
/-! ### a lot of plain parts, one service after another -/
def sp_built (T : Tp K mg) : Sp := fun vs H Q _ => ∃ (a : Addr) (us : List V) (ps : List PlainD), vs = [.ref a] ∧ H a = some (.lst us) ∧ PlainsAt H us ps ∧ (∀ p ∈ ps, OkP p) ∧ ps.length ≤ 5 ∧
  ∀ x H' us', H x = none → Ex H H' → LotAtU T H' x (lotD ps) us' → (∀ y : Addr, V.ref y ∈ us' → H y = none) → Q (.ref x) H'
theorem ok_built (T : Tp K mg) : FnOk P w K mg base CX0 9 T.a__law_built T.d__law_built ["_law_lot_here"] (sp_built T) := by
  have GR_lot := okR_lot (P := P) (w := w) (base := base) T
  have G__law_service := ok_service (P := P) (w := w) (base := base) T
  have G_add := ok_addS (P := P) (w := w) (base := base) T T.no_Lot
  refine T.f__law_built.ok sc__law_built (fun vs H Q E h => ?_) (fun cdv A outer s H vs Q E hr h => ?_)
  · obtain ⟨a, us, ps, rfl, _⟩ := h
    rfl
  · obtain ⟨a, us, ps, rfl, ha, hP, hok, hpl, q⟩ := h
    have hul := hP.1
    refine ⟨_, (pss_cons (ps_set (i := 1) sc__law_built.nd rfl (.inl rfl) (pe_makeR0 T.mk_Lot GR_lot (hr.mono (by decide)) (by rfl) T.g_Lot pass0))
  (pss_cons (ps_for PassesOwn.never rfl (pi_list (pv 0)) (pg_name (i := 2) sc__law_built.nd rfl (.inl rfl))
  (pss_one (ps_set (i := 1) sc__law_built.nd rfl (.inl rfl) (pe_op (op_addD (op := .Add) T.bd G_add (hr.mono (by decide)) T.b_Lot___add__ pass0) (pv 1) (pe_call G__law_service (hr.mono (by decide)) (by rfl) T.g__law_service T.f__law_service.kp T.b__law_service .nil pass0 (pa_cons (pv 2) pa_nil))))))
  (pss_one (ps_ret (pv 1))))), ?_⟩
    walk_at "g"
    refine r_makeR ?_
    walk_at "g"
    refine put_go (us := []) (ms := []) ⟨rfl, fun i m hi => nomatch hi⟩ (fun m hm => nomatch hm) (by decide) fun x H1 ux hx e1 lx nx => ?_
    walk_at "g"
    refine ll_go (.inl (.inl (e1 _ _ ha))) (fun i σ' H' => ∃ (x : Addr) (y2 : Option V) (ux : List V), σ' = [some (.ref a), some (.ref x), y2] ∧ Ex H H' ∧ H x = none ∧ LotAtU T H' x (lotD (ps.take i)) ux ∧ ∀ y : Addr, V.ref y ∈ ux → H y = none)
      ⟨x, _, ux, rfl, e1, hx, lx, nx⟩ (fun i σ' H' _ ⟨_, _, _, _, e, _⟩ => .inl (.inl (e _ _ ha))) ?_ ?_
    · rintro i v σ' H2 hv ⟨x, y2, ux, rfl, e2, hx, lx, nx⟩
      have hi := (List.getElem?_eq_some_iff.mp hv).1
      obtain ⟨p, hp⟩ : ∃ p, ps[i]? = some p := ⟨ps[i]'(by omega), List.getElem?_eq_getElem _⟩
      have op := hok p (List.mem_of_getElem? hp)
      obtain ⟨b, am, as_, ws, hb, gp⟩ := hP.2 i p hp
      rw [hv] at hb
      cases hb
      refine gname1 ?_
      walk_at "g"
      refine ⟨b, am, as_, p, ws, rfl, gp.ex e2, op, fun y H3 hy e3 my => ?_⟩
      obtain ⟨dx, av, au, k1, k2, k3, k4⟩ := (lx.ex e3)
      obtain ⟨dy, pm', ps', de, dp, ws', g1, _⟩ := id my
      have tk : ps.take (i + 1) = ps.take i ++ [p] := by
        rw [List.take_add_one, hp]
        rfl
      have tl : (ps.take i).length ≤ 4 := by rw [List.length_take]; omega
      have m1 : (lotD (ps.take i)).ms ++ [machP p] = (lotD (ps.take (i + 1))).ms := by
        show (ps.take i).map machP ++ [machP p] = (ps.take (i + 1)).map machP
        rw [tk, List.map_append]
        rfl
      have s1 : (lotD (ps.take i)).sts ++ [(machP p).now] = (lotD (ps.take (i + 1))).sts := by
        show ((ps.take i).map fun p : PlainD => p.now) ++ [p.now] = (ps.take (i + 1)).map fun p : PlainD => p.now
        rw [tk, List.map_append]
        rfl
      refine ⟨x, y, dx, dy, _, _, rfl, rfl, k1, g1, x, y, lotD (ps.take i), machP p, rfl, (lx.ex e3).at_, my, ?_, ?_, ?_, fun z H4 us' hz e4 la fr => ?_⟩
      · rw [m1]
        intro k hk
        obtain ⟨p', hp', rfl⟩ := List.mem_map.mp hk
        exact (hok p' (List.mem_of_mem_take hp')).valid
      · rw [List.length_append]
        show ((ps.take i).map machP).length + 1 ≤ 5
        rw [List.length_map]
        omega
      · rw [List.length_append]
        show ((ps.take i).map fun p : PlainD => p.now).length + 1 ≤ 1000
        rw [List.length_map]
        omega
      · rw [m1, s1] at la
        walk_at "g"
        exact ⟨z, _, us', rfl, e2.trans (e3.trans e4), none_ex (e2.trans e3) hz, la, fun y hy => none_ex (e2.trans e3) (fr y hy)⟩
    · rintro σ' H2 ⟨x, y2, ux, rfl, e2, hx, lx, nx⟩
      rw [hul, List.take_length] at lx
      walk_at "g"
      exact q x H2 ux hx e2 lx nx
end

end K08

set_option Elab.async false
set_option linter.all false
set_option maxRecDepth 100000
set_option maxHeartbeats 1000000
/-! comprehensions with two «for», the second over a list that is made anew at each turn of the first -/
namespace AE
open PySem PySem.Spec PyProof.Rows L2 Evl
section
variable {K : PySem.W.Frag} {σ : L2.St} {H : Hp} {Q : VK} {te te1 tl : TE} {j0 j1 : Nat} {a : Addr} {xs : List V} {J : It} {n : Nat} {G : Hp → Prop} {Y : Nat → Hp → V → Hp → Prop} {vs vs1 : List Nat}
theorem Ch.trans0 {x : Addr} {H H1 H2 : Hp} (a : Ch x H H1) (b : Ch x H1 H2) : Ch x H H2 := fun c o n h => b c o n (a c o n h)
/-- the second «for»'s items -/
def In2 (te : TE) (j1 : Nat) (vs1 : List Nat) (σ2 : L2.St) (H0 He : Hp) (ys : List V) (P2 : Nat → List V → Hp → Prop) : Prop :=
  ∀ k y acc Hf, ys[k]? = some y → Ex H0 Hf → Tx He Hf → P2 k acc Hf → ∀ R : VK, (∀ z Hh, Ex Hf Hh → P2 (k + 1) (acc ++ [z]) Hh → R z Hh) → wipe ((wipe σ2 vs1).set j1 (some y)) vs1 = wipe σ2 vs1 ∧ te ((wipe σ2 vs1).set j1 (some y)) Hf R
theorem lco2 (w : Walk J n G Y) {D : Addr} (hD : H D = none) (hG : ∀ H', Ex H H' → G H') (P : Nat → List V → Hp → Prop) (S : Stays P) (h0 : P 0 [] H) (hw : ∀ x, wipe ((wipe σ vs).set j0 (some x)) vs = wipe σ vs)
    (step : ∀ i x acc Ha Hb, i < n → Ex H Ha → P i acc Ha → Y i Ha x Hb → ∀ R1 : VK, (∀ b ys He (P2 : Nat → List V → Hp → Prop), He b = some (.lst ys) → Ha b = none → Ex Ha He → Stays P2 → (∀ k acc' H', P2 k acc' H' → acc'.length ≤ 100000) → P2 0 acc He → In2 te j1 vs1 ((wipe σ vs).set j0 (some x)) H He ys P2 →
      (∀ acc' Hf, Ex H Hf → Tx He Hf → P2 ys.length acc' Hf → P (i + 1) acc' Hf) → R1 (.ref b) He) → te1 ((wipe σ vs).set j0 (some x)) Hb R1)
    {Qd : Hp → Prop} (k : ∀ acc H1, Ex H H1 → H1 D = some (.lst acc) → P n acc H1 → Qd H1) :
    ∃ W : Nat → Nat → Hp → Prop, (∃ m, W 0 m (upd H D (.lst []))) ∧ ∀ i m Ha, W i m Ha →
      (J.stop i Ha ∧ Qd Ha) ∨ (J.go i Ha ∧ ∃ Nx : Hp → Prop, (∀ Hb, Nx Hb → ∃ m', m' < m ∧ W (i + 1) m' Hb) ∧ ∀ x Hb, J.yld i Ha x Hb → gName j0 x (wipe σ vs) Hb fun σ2 Hc => wipe σ2 vs = wipe σ vs ∧ tYes σ2 Hc fun b Hd =>
        if b = true then iList K te1 σ2 Hd fun J1 H4 => ∃ W1 : Nat → Nat → Hp → Prop, (∃ m, W1 0 m H4) ∧ ∀ j k Hx, W1 j k Hx →
          (J1.stop j Hx ∧ Nx Hx) ∨ (J1.go j Hx ∧ ∃ Nx1 : Hp → Prop, (∀ Hy, Nx1 Hy → ∃ k', k' < k ∧ W1 (j + 1) k' Hy) ∧ ∀ x Hy, J1.yld j Hx x Hy → gName j1 x (wipe σ2 vs1) Hy fun σ3 H5 => wipe σ3 vs1 = wipe σ2 vs1 ∧ tYes σ3 H5 fun b H6 =>
            if b = true then te σ3 H6 fun y H7 => ∃ acc, H7 D = some (.lst acc) ∧ acc.length < sizeLine ∧ Nx1 (upd H7 D (.lst (acc ++ [y]))) else Nx1 H6)
        else Nx Hd) := by
  refine ⟨fun i m Ha => m = n - i ∧ i ≤ n ∧ ∃ acc, Ex H Ha ∧ Ha D = some (.lst acc) ∧ P i acc Ha, ⟨n, by simp, Nat.zero_le _, [], Ex.new hD, upd_same, S.pex _ _ _ _ (Ex.new hD) h0⟩, ?_⟩
  rintro i m Ha ⟨rfl, hi, acc, e1, hd, hp⟩
  have g := hG Ha e1
  by_cases lt : i < n
  · refine .inr ⟨w.goes i Ha lt g, fun Hb => ∃ acc, Ex H Hb ∧ Hb D = some (.lst acc) ∧ P (i + 1) acc Hb, fun Hb z => ⟨n - (i + 1), by omega, rfl, lt, z⟩, fun x Hb y => ?_⟩
    show _ ∧ _
    refine ⟨hw x, ?_⟩
    refine yes_q (ite_t rfl ?_)
    refine step i x acc Ha Hb lt e1 hp (w.yields i Ha x Hb lt g y) _ fun b ys He P2 sq nb e2 S2 bd p0 inn fin => ⟨b, rfl, ⟨ys, SqL.of sq⟩, ?_⟩
    have bD : b ≠ D := fun z => by rw [z, hd] at nb; cases nb
    have w1 : Walk (Itl K b) ys.length (fun H => SqL K H b ys) (YAt ys) := walk_list
    refine ⟨fun j k Hx => k = ys.length - j ∧ j ≤ ys.length ∧ ∃ acc, Ex H Hx ∧ Ch D He Hx ∧ Hx D = some (.lst acc) ∧ P2 j acc Hx, ⟨ys.length, by simp, Nat.zero_le _, acc, e1.trans e2, (fun _ _ _ z => z), e2 _ _ hd, p0⟩, ?_⟩
    rintro j k Hx ⟨rfl, hj, acc2, e3, c3, hd3, hp3⟩
    have g3 : SqL K Hx b ys := SqL.of (c3 _ _ bD sq)
    have t3 : Tx He Hx := tx_ch (e2 _ _ hd) c3
    by_cases lt2 : j < ys.length
    · refine .inr ⟨w1.goes j Hx lt2 g3, fun Hy => ∃ acc, Ex H Hy ∧ Ch D He Hy ∧ Hy D = some (.lst acc) ∧ P2 (j + 1) acc Hy, fun Hy z => ⟨ys.length - (j + 1), by omega, rfl, lt2, z⟩, fun x1 Hy y1 => ?_⟩
      obtain ⟨rfl, hx1⟩ := w1.yields j Hx x1 Hy lt2 g3 y1
      show _ ∧ _
      refine (inn j x1 acc2 Hy hx1 e3 t3 hp3 _ fun z Hh e4 p4 => ?_).imp id fun q => yes_q (ite_t rfl q)
      have hd4 := e4 _ _ hd3
      exact ⟨acc2, hd4, Nat.lt_of_le_of_lt (bd _ _ _ hp3) (by decide), acc2 ++ [z], ex_upd (e3.trans e4) hD, Ch.trans0 (Ch.trans0 c3 fun _ _ _ z => e4 _ _ z) ch_upd, upd_same, S2.pch _ _ _ _ _ _ hd4 ch_upd p4⟩
    · have e : j = ys.length := by omega
      subst e
      exact .inl ⟨w1.stops Hx g3, acc2, e3, hd3, fin acc2 Hx e3 t3 hp3⟩
  · have e : i = n := by omega
    subst e
    exact .inl ⟨w.stops Ha g, k acc Ha e1 hd hp⟩
end
end AE
namespace AE
open PySem PySem.Spec PyProof.Rows L2 Evl
section
variable {K : PySem.W.Frag} {σ : L2.St} {H : Hp} {Q : VK} {te te1 tl : TE} {j0 j1 : Nat} {a : Addr} {xs : List V} {vs vs1 : List Nat}
theorem lc2_t (P : Nat → List V → Hp → Prop) (S : Stays P) (hv : ∀ R : VK, R (.ref a) H → tl σ H R) (hx : SqT K H a xs) (h0 : P 0 [] H) (hw : ∀ x, wipe ((wipe σ vs).set j0 (some x)) vs = wipe σ vs)
    (step : ∀ i x acc Ha, xs[i]? = some x → Ex H Ha → P i acc Ha → ∀ R1 : VK, (∀ b ys He (P2 : Nat → List V → Hp → Prop), He b = some (.lst ys) → Ha b = none → Ex Ha He → Stays P2 → (∀ k acc' H', P2 k acc' H' → acc'.length ≤ 100000) → P2 0 acc He → In2 te j1 vs1 ((wipe σ vs).set j0 (some x)) H He ys P2 →
      (∀ acc' Hf, Ex H Hf → Tx He Hf → P2 ys.length acc' Hf → P (i + 1) acc' Hf) → R1 (.ref b) He) → te1 ((wipe σ vs).set j0 (some x)) Ha R1)
    (k : ∀ D acc H1, H D = none → Ex H H1 → H1 D = some (.lst acc) → P xs.length acc H1 → Q (.ref D) H1) : tLc2 (iTup K tl) (gName j0) tYes (iList K te1) (gName j1) tYes te vs vs1 σ H Q :=
  hv _ ⟨a, rfl, ⟨xs, hx⟩, fun D hD => lco2 (walk_tup (K := K) (a := a) (xs := xs)) hD (fun _ e => ex_t e hx) P S h0 hw (fun i x acc Ha Hb _ e1 hp hy => by
    obtain ⟨rfl, hy⟩ := hy
    exact step i x acc Hb hy e1 hp) fun acc H1 e h p => k D acc H1 hD e h p⟩
theorem lc2_r (P : Nat → List V → Hp → Prop) (S : Stays P) {tn : TA} {m : Int} (hv : ∀ R : List V → Hp → Prop, R [.int m] H → tn σ H R) (hz : 0 ≤ m ∧ m ≤ 1000000) (h0 : P 0 [] H) (hw : ∀ x, wipe ((wipe σ vs).set j0 (some x)) vs = wipe σ vs)
    (step : ∀ (i : Nat) acc Ha, (i : Int) < m → Ex H Ha → P i acc Ha → ∀ R1 : VK, (∀ b ys He (P2 : Nat → List V → Hp → Prop), He b = some (.lst ys) → Ha b = none → Ex Ha He → Stays P2 → (∀ k acc' H', P2 k acc' H' → acc'.length ≤ 100000) → P2 0 acc He → In2 te j1 vs1 ((wipe σ vs).set j0 (some (.int (i : Int)))) H He ys P2 →
      (∀ acc' Hf, Ex H Hf → Tx He Hf → P2 ys.length acc' Hf → P (i + 1) acc' Hf) → R1 (.ref b) He) → te1 ((wipe σ vs).set j0 (some (.int (i : Int)))) Ha R1)
    (k : ∀ D acc H1, H D = none → Ex H H1 → H1 D = some (.lst acc) → P m.toNat acc H1 → Q (.ref D) H1) : tLc2 (iRng1 tn) (gName j0) tYes (iList K te1) (gName j1) tYes te vs vs1 σ H Q :=
  hv _ ⟨m, rfl, by omega, by omega, fun D hD => lco2 (walk_range (lo := 0) (n := m.toNat)) hD (fun _ _ => trivial) P S h0 hw (fun i x acc Ha Hb hi e1 hp hy => by
    obtain ⟨rfl, rfl⟩ := hy
    have st := step i acc Hb (by omega) e1 hp
    rw [← Int.zero_add (i : Int)] at st
    exact st) fun acc H1 e h p => k D acc H1 hD e h p⟩
end
section
variable {X : Cx} {K : PySem.W.Frag}
theorem pa_starK {e : Expr} {es : List Expr} {te : TE} {t : TA} {p : Pos} (he : PE X e te) (hr : PA X es t) (z : X.K = K := by rfl) (hs : starEach (.Starred e p :: es) X.env = (true, eval e X.env) :: starEach es X.env := by rfl) : PA X (.Starred e p :: es) (StX.tStar K te t) := by
  subst z
  exact StX.pa_star he hr hs
theorem pi_listK {tg l : Expr} {tl : TE} (h : PE X l tl) (e : X.K = K := by rfl) : PI X tg l (iList K tl) := by
  subst e
  exact pi_list h
end
end AE

set_option Elab.async false
set_option linter.all false
set_option maxRecDepth 100000
set_option maxHeartbeats 2000000
namespace K08
open PySem PySem.Spec PyProof.Rows L2 Evl AE
local macro_rules | `(tactic| walk_at "c") => `(tactic| first | exact ⟨by decide, by decide⟩ | exact .inr ⟨by decide, by decide⟩ | exact .inl ⟨by decide, by decide⟩ | exact ⟨by decide, by decide, by decide⟩ | (show (0 : Int) < _; decide))
local macro_rules | `(tactic| walk_at "s") => `(tactic| first
  | (with_reducible refine r_var rfl ?_) | (with_reducible refine r_c ?_) | (with_reducible refine r_op ?_) | (with_reducible refine r_un ?_) | (with_reducible refine r_I0 ?_) | (with_reducible refine r_U ?_)
  | (with_reducible refine r_eq rfl ?_) | (with_reducible refine r_ne rfl ?_) | (with_reducible refine r_chain ?_) | (with_reducible refine r_test ?_) | (with_reducible refine r_tB ?_)
  | (with_reducible refine r_bl ?_) | (with_reducible refine r_and ?_) | (with_reducible refine r_or ?_) | (with_reducible refine r_not ?_) | (with_reducible refine r_nil ?_) | (with_reducible refine r_cons ?_)
  | (with_reducible refine r_tupK ?_) | (with_reducible refine r_lstK ?_) | (with_reducible refine r_cb ?_) | (with_reducible refine r_revL ?_) | (with_reducible refine r_ost ?_) | (with_reducible refine r_mkO ?_) | (with_reducible refine r_makeK ?_) | (with_reducible refine r_make ?_) | (with_reducible refine r_setdN ?_) | (with_reducible refine r_nget2 ?_) | (with_reducible refine r_nnew ?_) | (with_reducible refine r_call ?_) | (with_reducible refine r_seq ?_) | (with_reducible refine r_set ?_)
  | (with_reducible refine r_drop ?_) | (with_reducible refine r_ret ?_) | (with_reducible refine r_next ?_) | (with_reducible refine r_if ?_) | (with_reducible refine r_sl ?_) | (with_reducible refine r_nop ?_) | (with_reducible refine r_prt ?_) | (with_reducible refine r_some ?_)
  | (with_reducible refine add_int ?_) | (with_reducible refine int_i ?_) | (with_reducible refine r_forR1 ?_) | (with_reducible refine r_forR2 ?_) | (with_reducible refine r_meth ?_) | (with_reducible refine r_makeS ?_) | (with_reducible refine r_opS ?_) | (with_reducible refine r_makeRS ?_) | (with_reducible refine r_methH ?_) | (with_reducible refine r_callS ?_) | (with_reducible refine r_forL ?_) | (with_reducible refine r_andV ?_) | (with_reducible refine r_orV ?_) | (with_reducible refine r_notV ?_) | (with_reducible refine r_ifE ?_) | (with_reducible refine r_lcL ?_) | (with_reducible refine r_fld ?_) | (with_reducible refine r_get ?_) | (with_reducible refine r_din ?_) | (with_reducible refine r_dget2 ?_) | ((with_reducible refine r_I ?_ ?_); (walk_at "c")))
local macro_rules | `(tactic| walk_at "g") => `(tactic| repeat walk_at "s")
section
variable {P : Program} {w : World} {K : PySem.W.Frag} {mg : Str → Option Value} {base : Heap}
theorem r_tru {σ : L2.St} {H : Hp} {i : Nat} {x : V} {k : Bool} {Q : Bool → Hp → Prop} (v : σ[i]? = some (some x)) (t : TruV K x H k) (q : Q k H) : (fun (σ : L2.St) (H : Hp) (Q : Bool → Hp → Prop) => tVar i σ H fun x H' => ∃ k, TruV K x H' k ∧ Q k H') σ H Q := ⟨x, v, k, t, q⟩
def sp_pairsAt (K : PySem.W.Frag) : Sp := fun vs H Q _ => ∃ (x C : Addr) (m : Mach) (st : Int), vs = [.ref x, .int st] ∧ MCls K C ∧ MachAt H x C m ∧
  ∀ p us H', Ex H H' → H' p = some (.tup us) → Tups H' us ((pairsF m.rows (.inl st)).map pairD) → Q (.ref p) H'
theorem ok_pairsAt (T : Tp K mg) : FnOk P w K mg base CX0 1 T.a_Machine_pairs_at T.d_Machine_pairs_at ["self", "state"] (sp_pairsAt K) := by
  refine T.f_Machine_pairs_at.ok sc_Machine_pairs_at (fun vs H Q E h => ?_) (fun cdv A outer s H vs Q E hr h => ?_)
  · obtain ⟨x, C, m, st, rfl, _⟩ := h
    rfl
  · obtain ⟨x, C, m, st, rfl, mc, hm, q⟩ := h
    have hu := hu_of hr
    refine ⟨_, (pss_one (ps_ret (pe_dget2 hu (pe_fld (pv 0) rfl) (pv 1) (pe_tup pa_nil) ⟨rfl, rfl, rfl, rfl⟩))), ?_⟩
    obtain ⟨dx, pm, ps, de, dp, us, h1, h2, h3, h4, h5, ⟨kvs, G, h6, g, tt⟩⟩ := hm
    walk_at "g"
    refine gtf_go h1 mc.cl mc.n6 (v := .ref dp) rfl ?_
    refine ⟨dp, rfl, .inl ⟨kvs, .inl h6⟩, ?_⟩
    walk_at "g"
    refine tup_go' fun ep H1 nep e1 hep => ?_
    refine ⟨_, DGet.k (k := .inl st) (e1 _ _ h6), ?_⟩
    by_cases z : G (.inl st) = []
    · rw [(g _).1 z]
      refine q ep [] H1 e1 hep ?_
      have tz := tt (.inl st)
      rw [z] at tz
      exact tz.tx (tx_ex e1)
    · obtain ⟨p, a1, a2⟩ := (g _).2 z
      rw [a1]
      exact q p _ H1 e1 (e1 _ _ a2) ((tt _).tx (tx_ex e1))
/-! ### rows of known pairs -/
abbrev PairL := Str × Int
def pairsL (rows : List StepD) (st : Int) : List PairL := (pairsF rows (.inl st)).map fun s => s.2
def knownF (rows : List StepD) : Nat → Int → List (List PairL)
  | 0, _ => [[]]
  | d + 1, st => if pairsL rows st = [] then [[]] else (pairsL rows st).flatMap fun p => (knownF rows d p.2).map (p :: ·)
theorem known_len (rows : List StepD) : ∀ (d : Nat) (st : Int) (k : List PairL), k ∈ knownF rows d st → k.length ≤ d
  | 0, _, k, h => by
    have : k = [] := List.mem_singleton.mp h
    rw [this]
    exact Nat.le_refl _
  | d + 1, st, k, h => by
    unfold knownF at h
    split at h
    · rw [List.mem_singleton.mp h]
      exact Nat.zero_le _
    · obtain ⟨p, _, hk⟩ := List.mem_flatMap.mp h
      obtain ⟨r, hr, rfl⟩ := List.mem_map.mp hk
      exact Nat.succ_le_succ (known_len rows d _ r hr)
def pN (p : PairL) : NK := .tup [.str p.1, .int p.2]
def kN (k : List PairL) : NK := .tup (k.map pN)
def kPre (rows : List StepD) (d : Nat) (l : List PairL) : List (List PairL) := l.flatMap fun p => (knownF rows d p.2).map (p :: ·)
theorem kPre_le (rows : List StepD) (d : Nat) (l : List PairL) (i : Nat) : (kPre rows d (l.take i)).length ≤ (kPre rows d l).length := by
  unfold kPre
  conv => rhs; rw [← List.take_append_drop i l]
  rw [List.flatMap_append, List.length_append]
  omega
def sp_known (T : Tp K mg) (d : Nat) : Sp := fun vs H Q _ => ∃ (x : Addr) (m : Mach) (st : Int), vs = [.ref x, .int st, .int d] ∧ MachAt H x T.C_Pattern m ∧ (∀ k, k ≤ d → ∀ s, (knownF m.rows k s).length ≤ 100000) ∧
  ∀ p us H', H p = none → Ex H H' → H' p = some (.lst us) → NAts H' us ((knownF m.rows d st).map kN) → Q (.ref p) H'
theorem pairs_nats {H : Hp} : ∀ {us : List V} {l : List StepD}, Tups H us (l.map pairD) → NAts H us ((l.map fun s => s.2).map pN)
  | _, [], .nil => .nil
  | _, s :: l, .cons h t => .cons (by
    obtain ⟨a, rfl, h⟩ := h
    exact .tup h (.cons (.str _) (.cons (.int _) .nil))) (pairs_nats t)
theorem ok_known (T : Tp K mg) : ∀ d : Nat, d ≤ 100 → FnOk P w K mg base CX0 (d + 2) T.a_known_rows T.d_known_rows ["pattern", "state", "ahead"] (sp_known T d)
  | 0, _ => by
    have G_pairs_at : FnOk P w K mg base CX0 1 T.a_Machine_pairs_at T.d_Machine_pairs_at ["self", "state"] (sp_pairsAt K) := ok_pairsAt T
    refine T.f_known_rows.ok sc_known_rows (fun vs H Q E h => ?_) (fun cdv A outer s H vs Q E hr h => ?_)
    · obtain ⟨x, m, st, rfl, _⟩ := h
      rfl
    · obtain ⟨x, m, st, rfl, hm, bd, q⟩ := h
      obtain ⟨dx, pm, ps, de, dp, us, h1, _⟩ := id hm
      have G_known : FnOk P w K mg base CX0 0 T.a_known_rows T.d_known_rows ["pattern", "state", "ahead"] (fun _ _ _ _ => False) := ⟨fun _ _ _ _ z => z.elim, fun _ _ _ _ _ _ _ _ _ _ _ _ _ z => z.elim⟩
      refine ⟨_, (pss_cons (ps_set (i := 3) sc_known_rows.nd rfl (.inl rfl) (pe_meth (pv 0) T.cf_Pattern.cl T.me_Pattern_pairs_at G_pairs_at (hr.mono (by omega)) T.b_Machine_pairs_at .nil pass0 (pa_cons (pv 1) pa_nil)))
  (pss_cons (ps_if (PW.pt (pw_or (pt_cmpR op_eq (pv 2) pe_int (nomark _)) (pw_or1 (pt_not (pt_truth (pv 3) (fun _ => rfl)))))) (pss_one (ps_ret (pe_lst (pa_cons (pe_tup pa_nil) pa_nil)))) pss_nil)
  (pss_one (ps_ret (pe_lc2 (own := [("pair", 4), ("rest", 5)]) (vs1 := [5]) (g := gName 4) (tt := tYes) (g1 := gName 5) (tt1 := tYes) rfl sc_known_rows.nd (pi_tup (pv 3)) (blkOk_by (N := N_known_rows) (sc := defScope s_known_rows) (by decide +kernel)) (by decide) (fun _ _ _ _ _ => (pg_name (i := 4) sc_known_rows.nd rfl (.inl rfl))) (fun _ _ _ _ _ => pts_nil) (fun _ _ _ _ _ => pi_listK (K := K) (pe_call G_known (hr.mono (by omega)) (by rfl) T.g_known_rows T.f_known_rows.kp T.b_known_rows .nil pass0 (pa_cons (pv 0) (pa_cons (pe_ix (ix_seqK (K := K)) (pv 4) pe_int (fun _ _ => rfl)) (pa_cons (pe_op op_sub (pv 2) pe_int) pa_nil))))) (fun _ _ _ _ _ => (pg_name (i := 5) sc_known_rows.nd rfl (.inl rfl))) (fun _ _ _ _ _ => pts_nil) (fun _ _ _ _ _ => (pe_tup (pa_cons (pv 4) (pa_starK (K := K) (pv 5) pa_nil))))))))), ?_⟩
      walk_at "g"
      refine ⟨x, dx, _, rfl, h1, rfl, ?_⟩
      walk_at "g"
      refine ⟨x, T.C_Pattern, m, st, rfl, T.cf_Pattern, hm, fun pp us' H1 e1 t1 tps => ?_⟩
      walk_at "g"
      refine ite_t rfl ?_
      refine ite_t rfl ?_
      walk_at "g"
      refine tup_go (ks := []) .nil fun p2 H2 n2 e2 a2 _ => ?_
      walk_at "g"
      refine lst_go fun p3 H3 n3 e3 h3 => ?_
      have e13 := (e1.trans e2).trans e3
      exact q p3 _ H3 (none_ex (e1.trans e2) n3) e13 h3 (.cons (a2.tx (ex_txn e3)) .nil)
  | d + 1, hd => by
    have G_pairs_at : FnOk P w K mg base CX0 1 T.a_Machine_pairs_at T.d_Machine_pairs_at ["self", "state"] (sp_pairsAt K) := ok_pairsAt T
    have G_known : FnOk P w K mg base CX0 (d + 2) T.a_known_rows T.d_known_rows ["pattern", "state", "ahead"] (sp_known T d) := ok_known T d (by omega)
    refine T.f_known_rows.ok sc_known_rows (fun vs H Q E h => ?_) (fun cdv A outer s H vs Q E hr h => ?_)
    · obtain ⟨x, m, st, rfl, _⟩ := h
      rfl
    · obtain ⟨x, m, st, rfl, hm, bd, q⟩ := h
      obtain ⟨dx, pm, ps, de, dp, us, h1, _⟩ := id hm
      refine ⟨_, (pss_cons (ps_set (i := 3) sc_known_rows.nd rfl (.inl rfl) (pe_meth (pv 0) T.cf_Pattern.cl T.me_Pattern_pairs_at G_pairs_at (hr.mono (by omega)) T.b_Machine_pairs_at .nil pass0 (pa_cons (pv 1) pa_nil)))
  (pss_cons (ps_if (PW.pt (pw_or (pt_cmpR op_eq (pv 2) pe_int (nomark _)) (pw_or1 (pt_not (pt_truth (pv 3) (fun _ => rfl)))))) (pss_one (ps_ret (pe_lst (pa_cons (pe_tup pa_nil) pa_nil)))) pss_nil)
  (pss_one (ps_ret (pe_lc2 (own := [("pair", 4), ("rest", 5)]) (vs1 := [5]) (g := gName 4) (tt := tYes) (g1 := gName 5) (tt1 := tYes) rfl sc_known_rows.nd (pi_tup (pv 3)) (blkOk_by (N := N_known_rows) (sc := defScope s_known_rows) (by decide +kernel)) (by decide) (fun _ _ _ _ _ => (pg_name (i := 4) sc_known_rows.nd rfl (.inl rfl))) (fun _ _ _ _ _ => pts_nil) (fun _ _ _ _ _ => pi_listK (K := K) (pe_call G_known (hr.mono (by omega)) (by rfl) T.g_known_rows T.f_known_rows.kp T.b_known_rows .nil pass0 (pa_cons (pv 0) (pa_cons (pe_ix (ix_seqK (K := K)) (pv 4) pe_int (fun _ _ => rfl)) (pa_cons (pe_op op_sub (pv 2) pe_int) pa_nil))))) (fun _ _ _ _ _ => (pg_name (i := 5) sc_known_rows.nd rfl (.inl rfl))) (fun _ _ _ _ _ => pts_nil) (fun _ _ _ _ _ => (pe_tup (pa_cons (pv 4) (pa_starK (K := K) (pv 5) pa_nil))))))))), ?_⟩
      walk_at "g"
      refine ⟨x, dx, _, rfl, h1, rfl, ?_⟩
      walk_at "g"
      refine ⟨x, T.C_Pattern, m, st, rfl, T.cf_Pattern, hm, fun pp us' H1 e1 t1 tps => ?_⟩
      have t1' : SqT K H1 pp us' := .inl (.inl t1)
      walk_at "g"
      refine ite_f (decide_eq_false fun z => by have := V.int.inj z; omega) ?_
      refine r_not (r_tru rfl (.inr (.inl ⟨us', t1', rfl⟩)) ?_)
      have hp0 : NAts H1 us' ((pairsL m.rows st).map pN) := pairs_nats tps
      have lus : us'.length = (pairsL m.rows st).length := by rw [hp0.len, List.length_map]
      by_cases he : pairsL m.rows st = []
      · have eu : us' = [] := by
          rw [he] at lus
          exact List.length_eq_zero_iff.mp lus
        refine ite_t (by rw [eu]; rfl) ?_
        walk_at "g"
        refine tup_go (ks := []) .nil fun p2 H2 n2 e2 a2 _ => ?_
        walk_at "g"
        refine lst_go fun p3 H3 n3 e3 h3 => ?_
        have e13 := (e1.trans e2).trans e3
        refine q p3 _ H3 (none_ex (e1.trans e2) n3) e13 h3 ?_
        unfold knownF
        rw [if_pos he]
        exact .cons (a2.tx (ex_txn e3)) .nil
      · refine ite_f (by
          cases hu : us' with
          | nil => rw [hu] at lus; exact absurd (List.length_eq_zero_iff.mp lus.symm) he
          | cons _ _ => rfl) ?_
        walk_at "g"
        have tot : knownF m.rows (d + 1) st = kPre m.rows d (pairsL m.rows st) := by
          unfold knownF
          rw [if_neg he]
          rfl
        have bt : (kPre m.rows d (pairsL m.rows st)).length ≤ 100000 := by rw [← tot]; exact bd (d + 1) (Nat.le_refl _) st
        refine lc2_t (xs := us') (fun i acc Ha => NAts Ha acc ((kPre m.rows d ((pairsL m.rows st).take i)).map kN)) ⟨fun _ _ _ _ e h => h.tx (ex_txn e), fun _ _ _ _ _ _ hD c h => h.tx fun a xs z => tx_ch hD c a xs z⟩ (fun R r => ⟨_, rfl, r⟩) t1' .nil (fun _ => rfl) ?_ ?_
        · intro i y acc Ha hy ea pa R1 r1
          obtain ⟨kk, hkk, nk⟩ := hp0.get hy
          rw [List.getElem?_map] at hkk
          obtain ⟨p, hp, rfl⟩ := Option.map_eq_some_iff.mp hkk
          obtain ⟨ya, yx, rfl, hya, hyx⟩ := nk.tupOf
          obtain ⟨u1, u2, rfl, nu1, nu2⟩ := hyx.inv2
          have eu1 := nu1.str_inv
          have eu2 := nu2.int_inv
          subst eu1 eu2
          have hya2 := ea _ _ hya
          walk_at "g"
          refine ix_t (.inl (.inl hya2)) (show atI [V.str p.1, V.int p.2] 1 = some (.int p.2) from rfl) ?_
          walk_at "g"
          refine ⟨x, m, p.2, ?_, hm.ex (e1.trans ea), fun k hk => bd k (by omega), fun b ys He nb e2 hb nts => ?_⟩
          · show [V.ref x, V.int p.2, V.int (((d + 1 : Nat) : Int) - 1)] = _
            rw [show (((d + 1 : Nat) : Int) - 1) = (d : Int) by omega]
          have lys : ys.length = (knownF m.rows d p.2).length := by rw [nts.len, List.length_map]
          have snoc : kPre m.rows d ((pairsL m.rows st).take (i + 1)) = kPre m.rows d ((pairsL m.rows st).take i) ++ (knownF m.rows d p.2).map (p :: ·) := by
            unfold kPre
            rw [List.take_add_one, hp, List.flatMap_append]
            simp
          have bi : (kPre m.rows d ((pairsL m.rows st).take (i + 1))).length ≤ 100000 := Nat.le_trans (kPre_le _ _ _ _) bt
          refine r1 b ys He (fun k acc Hx => NAts Hx acc ((kPre m.rows d ((pairsL m.rows st).take i) ++ ((knownF m.rows d p.2).take k).map (p :: ·)).map kN)) hb nb e2 ⟨fun _ _ _ _ e h => h.tx (ex_txn e), fun _ _ _ _ _ _ hD c h => h.tx fun a xs z => tx_ch hD c a xs z⟩ ?_ ?_ ?_ ?_
          · intro k acc' Hx h
            rw [h.len, List.length_map, List.length_append, List.length_map, List.length_take]
            rw [snoc, List.length_append, List.length_map] at bi
            omega
          · rw [List.take_zero, List.map_nil, List.append_nil]
            exact pa.tx (ex_txn e2)
          · intro k z acc' Hf hz eH tH p2 R r
            refine ⟨rfl, ?_⟩
            obtain ⟨k2, hk2, nz⟩ := nts.get hz
            rw [List.getElem?_map] at hk2
            obtain ⟨rr, hrr, rfl⟩ := Option.map_eq_some_iff.mp hk2
            obtain ⟨b2, zs, rfl, hb2, hzs⟩ := nz.tupOf
            have hb3 := tH _ _ hb2
            have lz := known_len m.rows d p.2 rr (List.mem_of_getElem? hrr)
            have lzs : zs.length = rr.length := by rw [hzs.len, List.length_map]
            refine r_tupK (r_cons (r_var rfl (r_star (r_var rfl ⟨b2, zs, rfl, .inl (.inl (.inl hb3)), r_nil ?_⟩))))
            rw [List.append_nil]
            have nx : NAts Hf (V.ref ya :: zs) ((p :: rr).map pN) := .cons ((NAt.tup (tH _ _ (e2 _ _ hya2)) (.cons (.str _) (.cons (.int _) .nil)))) (hzs.tx fun a xs h => tH a xs h)
            refine tup_go nx (fun p4 H4 n4 e4 a4 _ => r _ H4 e4 ?_) (by rw [List.length_cons]; omega)
            show NAts H4 (acc' ++ [V.ref p4]) ((kPre m.rows d ((pairsL m.rows st).take i) ++ ((knownF m.rows d p.2).take (k + 1)).map (p :: ·)).map kN)
            have ea : kPre m.rows d ((pairsL m.rows st).take i) ++ ((knownF m.rows d p.2).take (k + 1)).map (p :: ·) = (kPre m.rows d ((pairsL m.rows st).take i) ++ ((knownF m.rows d p.2).take k).map (p :: ·)) ++ [p :: rr] := by
              rw [List.take_add_one, hrr, List.map_append, ← List.append_assoc]
              rfl
            rw [ea, List.map_append]
            exact NAts.snoc (p2.tx (ex_txn e4)) a4
          · intro acc' Hf eH tH h
            rw [lys, List.take_length, ← snoc] at h
            exact h
        · intro D acc H2 nD e2 hD p
          rw [lus, List.take_length, ← tot] at p
          exact q D acc H2 (none_ex e1 nD) (e1.trans e2) hD p
end

end K08

set_option Elab.async false
set_option linter.all false
set_option maxRecDepth 100000
set_option maxHeartbeats 2000000
/-! dict comprehensions whose keys are nested tuples -/
namespace AE
open PySem PySem.Spec PyProof.Rows L2 Evl
section
variable {X : Cx} {pins : List (Addr × Obj)} {σ : L2.St} {H : Hp} {s : Shared}
theorem put_n {D b : Addr} {kvs : List NE} {k : NK} {v : V} {r : Value} {Q : Unit → Shared → Prop} {Er : Value → Shared → Prop} {A : Around} (hu : A.units + 64 < cLine) (I : Inv X pins σ H s) (hD : H D = some (dN X.w D kvs)) (hk : KeysOk H kvs) (dk : k.depth ≤ 8) (eb : NAt H (.ref b) k) (hl : kvs.length < sizeLine)
    (rv : RelV v r) (h : ∀ s1, Inv X pins σ (upd H D (dN X.w D (putN kvs k b v))) s1 → Q () s1) : wpAny (model X.prog X.w) A (dictSet D (.ref b) r) Q Er s := by
  obtain ⟨_, hd, xs, rel, dd⟩ := dn_rd I.hok (.inl hD) hk
  have hx : xs.length ≤ sizeLine := by
    have e := Paired.length rel
    omega
  have hz : (putN kvs k b v).length ≤ sizeLine := Nat.le_trans (length_putN kvs k b v) (by omega)
  refine wpAny_dictSet_heap (knd := nkKind X.prog X.w) (hsz := hx) (show A.units + 8 < cLine by omega) ⟨dk, nat_is I.hok eb rfl⟩ dd fun h1 dd1 hs => h _ ?_
  have he : ∃ q, h1.get? D = some q := let ⟨q, _, _, hq, _⟩ := dd1; ⟨q, hq⟩
  exact d_write I (by rw [hD]; trivial) hs he (dn_after hz hd (rel.put k b rv) dd1)
/-- the stores of a comprehension whose keys are tuples -/
def sN (w : World) (D : Addr) : V → V → Hp → (Hp → Prop) → Prop := fun y z H R => ∃ (kvs : List NE) (k : NK) (b : Addr), H D = some (dN w D kvs) ∧ KeysOk H kvs ∧ y = .ref b ∧ k.depth ≤ 8 ∧ NAt H (.ref b) k ∧ kvs.length < sizeLine ∧ R (upd H D (dN w D (putN kvs k b z)))
def tDcN (w : World) (wi : TI) (g : TG) (tt : TT) (tk tv : TE) (vs : List Nat) : TE := fun σ H Q => wi σ H fun J Ha => ∀ D, Ha D = none → ∃ W : Nat → Nat → Hp → Prop, (∃ m, W 0 m (upd Ha D (dN w D []))) ∧ ∀ i m Hb, W i m Hb →
  (J.stop i Hb ∧ Q (.ref D) Hb) ∨ (J.go i Hb ∧ ∃ Nx : Hp → Prop, (∀ Hc, Nx Hc → ∃ m1, m1 < m ∧ W (i + 1) m1 Hc) ∧ ∀ x Hc, J.yld i Hb x Hc → g x (wipe σ vs) Hc fun σa Hd => wipe σa vs = wipe σ vs ∧ tt σa Hd fun b He =>
    if b = true then tk σa He fun y Hf => tv σa Hf fun z Hg => sN w D y z Hg Nx else Nx He)
theorem pe_dcN {kx vx tg iter : Expr} {ifs : List Expr} {scope : Scope} {own : List (Str × Nat)} {pos : Pos} {wi : TI} {g : TG} {tt : TT} {tk tv : TE} (hu : X.A.units + 64 < cLine) (hc : X.calm = true) (hN : X.N.Nodup) (hi : PI X tg iter wi) (ok : BlkOk X.N X.env.scope scope own)
    (hg : ∀ s0 H0 C cl fp, PG (X.blk s0 H0 scope (compEnvC scope cl C X.env) fp) tg g) (ht : ∀ s0 H0 C cl fp, PTs (X.blk s0 H0 scope (compEnvC scope cl C X.env) fp) ifs tt)
    (hk : ∀ s0 H0 C cl fp, PE (X.blk s0 H0 scope (compEnvC scope cl C X.env) fp) kx tk) (he : ∀ s0 H0 C cl fp, PE (X.blk s0 H0 scope (compEnvC scope cl C X.env) fp) vx tv)
    (hs : ∀ x, foldedSetIterable iter X.env x = pure x := by intro _; rfl) : PE X (.DictComp kx vx [⟨tg, iter, ifs, 0⟩] scope pos) (tDcN X.w wi g tt tk tv (own.map (·.2))) := by
  refine ⟨fun pins s σ H Q I h => ?_⟩
  rw [arm_eval_DictComp]
  have free : ∀ y ∈ scope.names, y.2 = .free → ∃ c, X.env.cells.lookup y.1 = some c := fun y hy e => by
    rcases ok.free y hy e with z | z
    · exact I.ok.has _ (.inl z)
    · exact I.ok.has _ (.inr z)
  refine wpAny_comprehension_free (use := none) rfl hs (closure_ok free) ok.kind (fun y hy e => by rw [ok.uniq y hy, e]) (thn (hi.run pins s σ H _ I h) fun xv sa hx => thn hx fun itv sb hb => ?_)
  obtain ⟨it, fp, tn, J, Hb, e, Ib, T, stb, fb, q⟩ := hb
  subst e
  refine wpAny_newObj_type (newEnv_comp ?_)
  generalize hDe : sb.heap.objs.size = D
  obtain ⟨W, ⟨m0, w0⟩, turn⟩ := q D (Ib.hok.fresh (Nat.le_of_eq hDe))
  generalize hsc : ({ sb with heap := sb.heap.push { cls := .type "dict", data := .dict #[] } } : Shared) = sc
  have hsc' : sc.heap = sb.heap.push { cls := .type "dict", data := .dict #[] } := by rw [← hsc]
  have Ic : Inv X pins σ (upd Hb D (dN X.w D [])) sc := by
    rw [← hsc]
    refine Ib.laid (t' := sb.toks) (fun _ _ e => Heap.get?_push_of_some _ e) (Nat.le_of_eq hDe) ?_
    rw [← hDe]
    exact dn_ok ⟨Nat.zero_le _, beq_eq_false_iff_ne.mpr (Ne.symm (Nat.ne_of_lt Ib.big)), [], .nil, _, #[], 0, Heap.get?_push_size _ rfl, ⟨rfl, rfl, rfl⟩, rfl, rfl, List.nodup_nil⟩
  have old : ∀ b ∈ fp, b < sb.heap.objs.size := fun b hb => by
    obtain ⟨_, z, _⟩ := T.obj _ _ stb b hb
    exact Heap.lt_size z
  have fc : ∀ b ∈ fp, FpOk X pins (upd Hb D (dN X.w D [])) b ∧ b < sc.heap.objs.size := fun b hb => by
    have z := old b hb
    refine ⟨⟨by rw [upd_ne (by rw [← hDe]; exact Nat.ne_of_lt z)]; exact (fb b hb).1, (fb b hb).2⟩, ?_⟩
    rw [hsc', Heap.size_push]
    exact Nat.lt_succ_of_lt z
  have stc : tn 0 sc.heap := T.keep _ _ _ stb fun b _ o e => by rw [hsc']; exact Heap.get?_push_of_some _ e
  have Id := block_start Ic ok hN fc
  have pg := hg sc (upd Hb D (dN X.w D [])) sc.heap.objs.size (cellsFrom (sc.heap.objs.size + 1) scope.names (cloFrom X.env.cells scope.names [])) fp
  have pt := ht sc (upd Hb D (dN X.w D [])) sc.heap.objs.size (cellsFrom (sc.heap.objs.size + 1) scope.names (cloFrom X.env.cells scope.names [])) fp
  have pk := hk sc (upd Hb D (dN X.w D [])) sc.heap.objs.size (cellsFrom (sc.heap.objs.size + 1) scope.names (cloFrom X.env.cells scope.names [])) fp
  have pv := he sc (upd Hb D (dN X.w D [])) sc.heap.objs.size (cellsFrom (sc.heap.objs.size + 1) scope.names (cloFrom X.env.cells scope.names [])) fp
  show codeAny _ _ (.compStart (.DictComp kx vx [⟨tg, iter, ifs, 0⟩] scope pos) 0 (.ref it) (.ref D) (compEnvC scope (cellsFrom (sc.heap.objs.size + 1) scope.names (cloFrom X.env.cells scope.names [])) sc.heap.objs.size X.env)) _ { sc with heap := pushCells (sc.heap.push { cls := .type "dict", data := .dict #[] }) scope.names }
  have nfp : ∀ b ∈ fp, (upd Hb D (dN X.w D [])) b = none := fun b hb => (fc b hb).1.1
  generalize hce : compEnvC scope (cellsFrom (sc.heap.objs.size + 1) scope.names (cloFrom X.env.cells scope.names [])) sc.heap.objs.size X.env = ce at Id pg pt pk pv ⊢
  have cL : ce.locals = sc.heap.objs.size := by subst hce; rfl
  generalize hHc : upd Hb D (dN X.w D []) = Hc at Ic Id pg pt pk pv w0 nfp fc
  generalize hsd : ({ sc with heap := pushCells (sc.heap.push { cls := .type "dict", data := .dict #[] }) scope.names } : Shared) = sd at Id ⊢
  have std : tn 0 sd.heap := T.keep _ _ _ stc fun b _ o e => by rw [← hsd]; exact pushCells_keeps _ _ _ _ (Heap.get?_push_of_some _ e)
  have stat : ∀ {σ1 : L2.St} {H1 : Hp} {s1 : Shared}, Inv (X.blk sc Hc scope ce fp) [] σ1 H1 s1 → (∀ b ∈ fp, H1 b = none) → ∀ b ∈ fp, FpOk (X.blk sc Hc scope ce fp) [] H1 b := fun {σ1 H1 s1} J1 nn b hb =>
    ⟨nn b hb, (J1.ok.exf b hb).1, J1.ok.exfs b hb, .inl hb, fun x c e => (J1.ok.exf b hb).2 x c e, fun p hp => absurd (show p ∈ ([] : List (Addr × Obj)) ++ [] from hp) (by simp)⟩
  refine codeAny_compStart_dict ?_ (T.self X.A 0 _ _ _ std ?_)
  all_goals
    refine compLoop_anyD (fun n s1 => ∃ i H1, Inv (X.blk sc Hc scope ce fp) [] (wipe σ (own.map (·.2))) H1 s1 ∧ tn i s1.heap ∧ (∀ b ∈ fp, H1 b = none) ∧ W i n H1) ?_ m0 ⟨0, Hc, Id, std, nfp, w0⟩
    rintro n s5 ⟨i, H5, I5, st5, n5, w5⟩
    rcases turn i n H5 w5 with ⟨stop, fine⟩ | ⟨go, Nx, less, step⟩
    · refine thnF (T.done (X.blk sc Hc scope ce fp) rfl rfl rfl hc i [] s5 _ H5 (fun _ _ => False) I5 (stat I5 n5) st5 stop) fun r s6 ⟨hr, I6⟩ => ?_
      subst hr
      have I7 : Inv X pins σ H5 s6 := Ic.call' (ch := fp) I6.os I6.base I6.hok I6.bare fun b hb => ⟨(fc b hb).1.2.2.2.1, (fc b hb).1.2.1, (fc b hb).1.2.2.2.2.1, (fc b hb).1.2.2.2.2.2⟩
      have nC : H5 sc.heap.objs.size = none := by
        rw [← cL]
        exact I6.free
      obtain ⟨mm, hmm, _⟩ := I6.loc
      have hm2 : s6.heap.Ns ce.locals mm := hmm
      rw [cL] at hm2
      refine ⟨mm, hm2, fun h2 sb2 => ?_⟩
      obtain ⟨f0, f1, _, f3, f4, f5⟩ := Ic.fpOk (Nat.le_refl _) nC
      exact ⟨.ref D, H5, I7.turned (t' := s6.toks) (fun b o hb e => (sb2.2 b hb).trans e) f0 f1 f3 f4 f5, rfl, fine⟩
    · refine thnF (T.item (X.blk sc Hc scope ce fp) rfl rfl rfl hc i [] s5 _ H5 (fun _ _ => False) I5 (stat I5 n5) st5 go) fun r s6 ⟨u, hr, more⟩ => ?_
      subst hr
      refine thnF more fun _ s7 ⟨x, H7, I7, rx, yx, st7, n7⟩ => ?_
      refine thnF (pg.run _ s7 _ H7 x u _ (I7.pinned (stat I7 n7) (T.obj _ _ st7)) rx (step x H7 yx)) fun _ s8 ⟨σ8, H8, I8, hw, q8⟩ => ?_
      have back : ∀ {s1 : Shared} {H1 : Hp}, Inv (X.blk sc Hc scope ce fp) ([] ++ pinsAt fp s7.heap) σ8 H1 s1 → Nx H1 → ∃ m, m < n ∧ ∃ i H1, Inv (X.blk sc Hc scope ce fp) [] (wipe σ (own.map (·.2))) H1 s1 ∧ tn i s1.heap ∧ (∀ b ∈ fp, H1 b = none) ∧ W i m H1 := fun {s1 H1} J1 nx => by
        obtain ⟨m1, l1, w1⟩ := less H1 nx
        have keep : ∀ b ∈ fp, ∀ o, s7.heap.get? b = some o → s1.heap.get? b = some o ∧ H1 b = none := fun b hb o e => by
          have z := J1.pin (b, o) (List.mem_append_right _ (List.mem_append_right _ (mem_pinsAt hb e)))
          exact ⟨z.1, z.2.1⟩
        refine ⟨m1, l1, i + 1, H1, (J1.unpinned (pins := [])).weak (by rw [← hw, wipe_length]) (fun j v e => ?_), T.keep _ _ _ st7 fun b hb o e => (keep b hb o e).1, fun b hb => ?_, w1⟩
        · rw [← hw] at e
          exact (wipe_some e).1
        · obtain ⟨o, e, _⟩ := T.obj _ _ st7 b hb
          exact (keep b hb o e).2
      refine thnF (pt.run _ s8 σ8 H8 _ I8 q8) fun b s9 ⟨H9, I9, q9⟩ => ?_
      cases b
      · simp only [Bool.false_eq_true, if_false] at q9 ⊢
        exact back I9 q9
      · simp only [if_true] at q9 ⊢
        refine thnF (pk.run _ s9 σ8 H9 _ I9 q9) fun z s10 ⟨yk, H10, I10, rk, q10⟩ => ?_
        refine thnF (pv.run _ s10 σ8 H10 _ I10 q10) fun z2 s11 ⟨yv, H11, I11, rz, kvs, k1, kb, eD, ko, ek, dk, eb, l11, nx⟩ => ?_
        subst ek
        cases rk
        exact put_n (X := X.blk sc Hc scope ce fp) hu I11 eD ko dk eb l11 rz fun s12 I12 => back I12 nx
end
end AE

namespace AE
open PySem PySem.Spec PyProof.Rows L2 Evl
section
variable {w : World} {σ : L2.St} {H : Hp} {J : It} {n : Nat} {G : Hp → Prop} {Y : Nat → Hp → V → Hp → Prop} {vs : List Nat} {g : TG} {t : TT} {tk tv : TE} {D : Addr} {Qd : Hp → Prop}
theorem dcN_it (wk : Walk J n G Y) (Pv : Nat → Hp → Prop) (h0 : Pv 0 (upd H D (dN w D []))) (hG : ∀ i Ha, i ≤ n → Pv i Ha → G Ha)
    (hs : ∀ i x Ha Hb, i < n → Pv i Ha → Y i Ha x Hb → g x (wipe σ vs) Hb fun σ2 Hc => wipe σ2 vs = wipe σ vs ∧ t σ2 Hc fun b Hd =>
      if b = true then tk σ2 Hd fun y He => tv σ2 He fun z Hf => sN w D y z Hf (Pv (i + 1)) else Pv (i + 1) Hd) (hd : ∀ Ha, Pv n Ha → Qd Ha) :
    ∃ W : Nat → Nat → Hp → Prop, (∃ m, W 0 m (upd H D (dN w D []))) ∧ ∀ i m Ha, W i m Ha →
      (J.stop i Ha ∧ Qd Ha) ∨ (J.go i Ha ∧ ∃ Nx : Hp → Prop, (∀ Hb, Nx Hb → ∃ m1, m1 < m ∧ W (i + 1) m1 Hb) ∧ ∀ x Hb, J.yld i Ha x Hb → g x (wipe σ vs) Hb fun σ2 Hc => wipe σ2 vs = wipe σ vs ∧ t σ2 Hc fun b Hd =>
        if b = true then tk σ2 Hd fun y He => tv σ2 He fun z Hf => sN w D y z Hf Nx else Nx Hd) := by
  refine ⟨fun i m Ha => m + i = n ∧ Pv i Ha, ⟨n, by omega, h0⟩, ?_⟩
  rintro i m Ha ⟨e, p⟩
  have q := hG i Ha (by omega) p
  by_cases lt : i < n
  · exact .inr ⟨wk.goes i Ha lt q, Pv (i + 1), fun Hb p1 => ⟨m - 1, by omega, by omega, p1⟩, fun x Hb y => hs i x Ha Hb lt p (wk.yields i Ha x Hb lt q y)⟩
  · obtain rfl : i = n := by omega
    exact .inl ⟨wk.stops Ha q, hd Ha p⟩
end
end AE
namespace AE
open PySem PySem.Spec PyProof.Rows L2 Evl
theorem depths_le {n : Nat} : ∀ {ks : List NK}, (∀ k ∈ ks, k.depth ≤ n) → NK.depths ks ≤ n
  | [], _ => by unfold NK.depths; exact Nat.zero_le _
  | k :: ks, h => by
    unfold NK.depths
    exact Nat.max_le.mpr ⟨h k (List.mem_cons_self ..), depths_le fun x hx => h x (List.mem_cons_of_mem _ hx)⟩
theorem KeysOk.put {H : Hp} {kvs : List NE} {k : NK} {b : Addr} {v : V} (h : KeysOk H kvs) (d : k.depth ≤ 8) (n : NAt H (.ref b) k) : KeysOk H (putN kvs k b v) := by
  intro e he
  unfold putN at he
  split at he
  · obtain ⟨x, hx, rfl⟩ := List.mem_map.mp he
    have z := h x hx
    by_cases c : x.1 = k
    · rw [if_pos c]; exact z
    · rw [if_neg c]; exact z
  · rcases List.mem_append.mp he with he | he
    · exact h e he
    · rw [List.mem_singleton.mp he]; exact ⟨d, n⟩
theorem txn_dn {w : World} {H : Hp} {D : Addr} {kvs : List NE} {o : HO} (h : H D = some (dN w D kvs)) : TxN H (upd H D o) := fun c ys ec => by rw [upd_ne (ne_of ec h (by intro z; cases z))]; exact ec
theorem dcn_enum {w : World} {K : PySem.W.Frag} {σ : L2.St} {H : Hp} {a : Addr} {xs : List V} {vs : List Nat} {g : TG} {t : TT} {tk tv : TE} {ta : TA} {Q : VK} (hv : ∀ R : List V → Hp → Prop, R [.ref a] H → ta σ H R) (hx : SqL K H a xs) (Pv : Addr → Nat → Hp → Prop) (h0 : ∀ D, H D = none → Pv D 0 (upd H D (dN w D []))) (hG : ∀ D i Ha, i ≤ xs.length → Pv D i Ha → SqL K Ha a xs)
    (hs : ∀ D i x Ha T, xs[i]? = some x → Pv D i Ha → Ha T = none → g (.ref T) (wipe σ vs) (upd Ha T (.tup [.int (i : Int), x])) fun σ2 Hc => wipe σ2 vs = wipe σ vs ∧ t σ2 Hc fun b Hd =>
      if b = true then tk σ2 Hd fun y He => tv σ2 He fun z Hf => sN w D y z Hf (Pv D (i + 1)) else Pv D (i + 1) Hd) (hd : ∀ D Ha, Pv D xs.length Ha → Q (.ref D) Ha) : tDcN w (iEnum K ta) g t tk tv vs σ H Q :=
  hv _ ⟨a, xs, rfl, hx, fun D hD => dcN_it (walk_enum (K := K) (a := a) (xs := xs)) (Pv D) (h0 D hD) (hG D) (fun i x Ha Hb _ p y => by
    obtain ⟨T, u, v, rfl, h2, rfl, h4, h5⟩ := y
    cases h4
    exact hs D i v Ha T h5 p h2) (hd D)⟩
end AE

set_option Elab.async false
set_option linter.all false
set_option maxRecDepth 100000
set_option maxHeartbeats 2000000
namespace K08
open PySem PySem.Spec PyProof.Rows L2 Evl AE
local macro_rules | `(tactic| walk_at "c") => `(tactic| first | exact ⟨by decide, by decide⟩ | exact .inr ⟨by decide, by decide⟩ | exact .inl ⟨by decide, by decide⟩ | exact ⟨by decide, by decide, by decide⟩ | (show (0 : Int) < _; decide))
local macro_rules | `(tactic| walk_at "s") => `(tactic| first
  | (with_reducible refine r_var rfl ?_) | (with_reducible refine r_c ?_) | (with_reducible refine r_op ?_) | (with_reducible refine r_un ?_) | (with_reducible refine r_I0 ?_) | (with_reducible refine r_U ?_)
  | (with_reducible refine r_eq rfl ?_) | (with_reducible refine r_ne rfl ?_) | (with_reducible refine r_chain ?_) | (with_reducible refine r_test ?_) | (with_reducible refine r_tB ?_)
  | (with_reducible refine r_bl ?_) | (with_reducible refine r_and ?_) | (with_reducible refine r_or ?_) | (with_reducible refine r_not ?_) | (with_reducible refine r_nil ?_) | (with_reducible refine r_cons ?_)
  | (with_reducible refine r_tupK ?_) | (with_reducible refine r_lstK ?_) | (with_reducible refine r_cb ?_) | (with_reducible refine r_revL ?_) | (with_reducible refine r_ost ?_) | (with_reducible refine r_mkO ?_) | (with_reducible refine r_makeK ?_) | (with_reducible refine r_make ?_) | (with_reducible refine r_setdN ?_) | (with_reducible refine r_nget2 ?_) | (with_reducible refine r_nnew ?_) | (with_reducible refine r_call ?_) | (with_reducible refine r_seq ?_) | (with_reducible refine r_set ?_)
  | (with_reducible refine r_drop ?_) | (with_reducible refine r_ret ?_) | (with_reducible refine r_next ?_) | (with_reducible refine r_if ?_) | (with_reducible refine r_sl ?_) | (with_reducible refine r_nop ?_) | (with_reducible refine r_prt ?_) | (with_reducible refine r_some ?_)
  | (with_reducible refine add_int ?_) | (with_reducible refine int_i ?_) | (with_reducible refine r_forR1 ?_) | (with_reducible refine r_forR2 ?_) | (with_reducible refine r_meth ?_) | (with_reducible refine r_makeS ?_) | (with_reducible refine r_opS ?_) | (with_reducible refine r_makeRS ?_) | (with_reducible refine r_methH ?_) | (with_reducible refine r_callS ?_) | (with_reducible refine r_forL ?_) | (with_reducible refine r_andV ?_) | (with_reducible refine r_orV ?_) | (with_reducible refine r_notV ?_) | (with_reducible refine r_ifE ?_) | (with_reducible refine r_lcL ?_) | (with_reducible refine r_fld ?_) | (with_reducible refine r_get ?_) | (with_reducible refine r_din ?_) | (with_reducible refine r_dget2 ?_) | ((with_reducible refine r_I ?_ ?_); (walk_at "c")))
local macro_rules | `(tactic| walk_at "g") => `(tactic| repeat walk_at "s")
section
variable {P : Program} {w : World} {K : PySem.W.Frag} {mg : Str → Option Value} {base : Heap}
/-! ### the client's side -/
abbrev RowL := Int × List PairL
def rowsF (rows : List StepD) (d : Nat) (n : Nat) : List RowL := (List.range n).flatMap fun (s : Nat) => (knownF rows d (s : Int)).map fun k => ((s : Int), k)
def rowN (r : RowL) : NK := .tup [.int r.1, kN r.2]
theorem rows_snoc (rows : List StepD) (d n : Nat) : rowsF rows d (n + 1) = rowsF rows d n ++ (knownF rows d (n : Int)).map fun k => ((n : Int), k) := by
  unfold rowsF
  rw [List.range_succ, List.flatMap_append, List.flatMap_singleton]
theorem rows_mono (rows : List StepD) (d : Nat) : ∀ {i n : Nat}, i ≤ n → (rowsF rows d i).length ≤ (rowsF rows d n).length
  | i, 0, h => by obtain rfl : i = 0 := by omega
                  exact Nat.le_refl _
  | i, n + 1, h => by
    by_cases z : i = n + 1
    · rw [z]; exact Nat.le_refl _
    · have := rows_mono rows d (i := i) (n := n) (by omega)
      rw [rows_snoc, List.length_append]
      omega
theorem pN_depth (p : PairL) : (pN p).depth ≤ 1 := by
  unfold pN NK.depth
  have : NK.depths [NK.str p.1, NK.int p.2] ≤ 0 := depths_le fun k hk => by
    rcases List.mem_cons.mp hk with rfl | hk
    · exact Nat.le_refl _
    · rw [List.mem_singleton.mp hk]; exact Nat.le_refl _
  omega
theorem kN_depth (k : List PairL) : (kN k).depth ≤ 2 := by
  unfold kN NK.depth
  have : NK.depths (k.map pN) ≤ 1 := depths_le fun x hx => by
    obtain ⟨p, _, rfl⟩ := List.mem_map.mp hx
    exact pN_depth p
  omega
theorem rowN_depth (r : RowL) : (rowN r).depth ≤ 8 := by
  unfold rowN NK.depth
  have : NK.depths [NK.int r.1, kN r.2] ≤ 2 := depths_le fun x hx => by
    rcases List.mem_cons.mp hx with rfl | hx
    · exact Nat.zero_le _
    · rw [List.mem_singleton.mp hx]; exact kN_depth _
  omega
def sp_posts (T : Tp K mg) : Sp := fun vs H Q _ => ∃ (x y dx : Addr) (m : Mach) (d : Nat), vs = [.ref x, .ref y, .int d] ∧ H x = some (.ins T.C_Posts dx []) ∧ MachAt H y T.C_Pattern m ∧ d ≤ 4 ∧ 0 ≤ m.size ∧ m.size ≤ 200 ∧ (∀ k, k ≤ d → ∀ s, (knownF m.rows k s).length ≤ 100000) ∧ (rowsF m.rows d m.size.toNat).length ≤ 100000 ∧
  ∀ H', Ch x H H' → Q .non H'
theorem ok_posts (T : Tp K mg) : FnOk P w K mg base CX0 7 T.a_Posts___init__ T.d_Posts___init__ ["self", "pattern", "ahead"] (sp_posts T) := by
  refine T.f_Posts___init__.ok sc_Posts___init__ (fun vs H Q E h => ?_) (fun cdv A outer s H vs Q E hr h => ?_)
  · obtain ⟨x, y, dx, m, d, rfl, _⟩ := h
    rfl
  · obtain ⟨x, y, dx, m, d, rfl, hx, hm, d4, m0, m2, bk, br, q⟩ := h
    have hu64 := hu64_of hr
    have G_known := ok_known (P := P) (w := w) (base := base) T d (by omega)
    refine ⟨_, (pss_cons (ps_fld (pv 0) (pv 1) rfl)
  (pss_cons (ps_fld (pv 0) (pv 2) rfl)
  (pss_cons (ps_fld (pv 0) (pe_lc2 (own := [("state", 3), ("known", 4)]) (vs1 := [4]) (g := gName 3) (tt := tYes) (g1 := gName 4) (tt1 := tYes) rfl sc_Posts___init__.nd (pi_range1 rfl T.n_range (pa_cons (pe_fld (pv 1) rfl) pa_nil)) (blkOk_by (N := N_Posts___init__) (sc := defScope s_Posts___init__) (by decide +kernel)) (by decide) (fun _ _ _ _ _ => (pg_name (i := 3) sc_Posts___init__.nd rfl (.inl rfl))) (fun _ _ _ _ _ => pts_nil) (fun _ _ _ _ _ => pi_listK (K := K) (pe_call G_known (hr.mono (by omega)) (by rfl) T.g_known_rows T.f_known_rows.kp T.b_known_rows .nil pass0 (pa_cons (pv 1) (pa_cons (pv 3) (pa_cons (pv 2) pa_nil))))) (fun _ _ _ _ _ => (pg_name (i := 4) sc_Posts___init__.nd rfl (.inl rfl))) (fun _ _ _ _ _ => pts_nil) (fun _ _ _ _ _ => (pe_tup (pa_cons (pv 3) (pa_cons (pv 4) pa_nil))))) rfl)
  (pss_one (ps_fld (pv 0) (pe_dcN (own := [("number", 5), ("row", 6)]) (g := gTup K 2 (gCons (gName 5) (gCons (gName 6) gNil))) (tt := tYes) hu64 rfl sc_Posts___init__.nd (pi_enum (by rfl) T.n_enumerate (pa_cons (pe_fld (pv 0) rfl) pa_nil)) (blkOk_by (N := N_Posts___init__) (sc := defScope s_Posts___init__) (by decide +kernel)) (fun _ _ _ _ _ => (pg_tup (by rfl) (pgs_cons (pg_name (i := 5) sc_Posts___init__.nd rfl (.inl rfl)) (pgs_cons (pg_name (i := 6) sc_Posts___init__.nd rfl (.inl rfl)) pgs_nil)))) (fun _ _ _ _ _ => pts_nil) (fun _ _ _ _ _ => (pv 6)) (fun _ _ _ _ _ => (pv 5))) rfl))))), ?_⟩
    walk_at "g"
    refine stf_go hx T.cl_Posts T.na_Posts_pattern (by show 0 < 1000; decide) fun H1 c1 (x1 : H1 x = some (.ins T.C_Posts dx [("pattern", .ref y)])) => ?_
    walk_at "g"
    refine stf_go x1 T.cl_Posts T.na_Posts__ahead (by show 1 < 1000; decide) fun H2 c2 (x2 : H2 x = some (.ins T.C_Posts dx [("pattern", .ref y), ("_ahead", .int d)])) => ?_
    have hm2 := (hm.ch hx (hm.ne hx (by decide)) c1).ch x1 (hm.ne hx (by decide)) c2
    obtain ⟨dy, pm, ps, de, dp, us, y1, _⟩ := id hm2
    walk_at "g"
    refine lc2_r (m := m.size) (fun i acc Ha => NAts Ha acc ((rowsF m.rows d i).map rowN)) ⟨fun _ _ _ _ e h => h.tx (ex_txn e), fun _ _ _ _ _ _ hD c h => h.tx fun a xs z => tx_ch hD c a xs z⟩ (fun R r => ?_) ⟨m0, by omega⟩ .nil (fun _ => rfl) ?_ ?_
    · walk_at "g"
      refine gtf_go y1 T.cf_Pattern.cl T.cf_Pattern.n1 rfl ?_
      walk_at "g"
      exact r
    · intro i acc Ha hi ea pa R1 r1
      walk_at "g"
      refine ⟨y, m, (i : Int), rfl, hm2.ex ea, bk, fun b ys He nb e2 hb nts => ?_⟩
      have lys : ys.length = (knownF m.rows d i).length := by rw [nts.len, List.length_map]
      have bi : (rowsF m.rows d (i + 1)).length ≤ 100000 := Nat.le_trans (rows_mono m.rows d (show i + 1 ≤ m.size.toNat by omega)) br
      refine r1 b ys He (fun k acc Hx => NAts Hx acc ((rowsF m.rows d i ++ ((knownF m.rows d i).take k).map fun k => ((i : Int), k)).map rowN)) hb nb e2 ⟨fun _ _ _ _ e h => h.tx (ex_txn e), fun _ _ _ _ _ _ hD c h => h.tx fun a xs z => tx_ch hD c a xs z⟩ ?_ ?_ ?_ ?_
      · intro k acc' Hx h
        rw [h.len, List.length_map, List.length_append, List.length_map, List.length_take]
        rw [rows_snoc, List.length_append, List.length_map] at bi
        omega
      · rw [List.take_zero, List.map_nil, List.append_nil]
        exact pa.tx (ex_txn e2)
      · intro k z acc' Hf hz eH tH p2 R r
        refine ⟨rfl, ?_⟩
        obtain ⟨k2, hk2, nz⟩ := nts.get hz
        rw [List.getElem?_map] at hk2
        obtain ⟨rr, hrr, rfl⟩ := Option.map_eq_some_iff.mp hk2
        walk_at "g"
        refine tup_go (ks := [.int i, kN rr]) (.cons (.int _) (.cons (nz.tx fun a xs h => tH a xs h) .nil)) fun p4 H4 n4 e4 a4 _ => r _ H4 e4 ?_
        show NAts H4 (acc' ++ [V.ref p4]) ((rowsF m.rows d i ++ ((knownF m.rows d i).take (k + 1)).map fun k => ((i : Int), k)).map rowN)
        have ea : rowsF m.rows d i ++ (((knownF m.rows d i).take (k + 1)).map fun k => ((i : Int), k)) = (rowsF m.rows d i ++ ((knownF m.rows d i).take k).map fun k => ((i : Int), k)) ++ [((i : Int), rr)] := by
          rw [List.take_add_one, hrr, List.map_append, ← List.append_assoc]
          rfl
        rw [ea, List.map_append]
        exact NAts.snoc (p2.tx (ex_txn e4)) a4
      · intro acc' Hf eH tH h
        rw [lys, List.take_length, ← rows_snoc] at h
        exact h
    · intro D acc H3 nD e3 hD p
      have lac : acc.length = (rowsF m.rows d m.size.toNat).length := by rw [p.len, List.length_map]
      walk_at "g"
      refine stf_go (e3 _ _ x2) T.cl_Posts T.na_Posts_rows (by show 2 < 1000; decide) fun H4 c4 (x4 : H4 x = some (.ins T.C_Posts dx [("pattern", .ref y), ("_ahead", .int d), ("rows", .ref D)])) => ?_
      have D4 : H4 D = some (.lst acc) := c4 _ _ (ne_of hD (e3 _ _ x2) (by intro z; cases z)) hD
      have p4 : NAts H4 acc ((rowsF m.rows d m.size.toNat).map rowN) := p.tx fun a xs h => c4 _ _ (ne_of h (e3 _ _ x2) (by intro z; cases z)) h
      walk_at "g"
      refine dcn_enum (xs := acc) (fun R r => ?_) (.inl (.inl D4)) (fun N i Ha => Ex H4 Ha ∧ H4 N = none ∧ ∃ kvs, Ha N = some (dN w N kvs) ∧ KeysOk Ha kvs ∧ kvs.length ≤ i) (fun N hN => ⟨Ex.new hN, hN, [], upd_same, (fun _ z => nomatch z), Nat.le_refl _⟩) (fun N i Ha _ z => .inl (.inl (z.1 _ _ D4))) ?_ ?_
      · walk_at "g"
        refine gtf_go x4 T.cl_Posts T.na_Posts_rows (v := .ref D) rfl ?_
        walk_at "g"
        exact r
      · rintro N i z Ha TT hz ⟨eN, hN4, kvs, hN, ko, kl⟩ nT
        refine gtup2 upd_same (gnames2 ⟨rfl, yes_q (ite_t rfl ?_)⟩)
        obtain ⟨k2, hk2, nz⟩ := p4.get hz
        rw [List.getElem?_map] at hk2
        obtain ⟨rr, hrr, rfl⟩ := Option.map_eq_some_iff.mp hk2
        obtain ⟨zb, zs, rfl, _, _⟩ := nz.tupOf
        have e5 : Ex Ha (upd Ha TT (.tup [.int (i : Int), .ref zb])) := Ex.new nT
        have hN5 := e5 _ _ hN
        have nz5 : NAt (upd Ha TT (.tup [.int (i : Int), .ref zb])) (.ref zb) (rowN rr) := nz.tx (ex_txn (eN.trans e5))
        have ko5 := ko.tx (ex_txn e5)
        have lt : i < acc.length := (List.getElem?_eq_some_iff.mp hz).1
        walk_at "g"
        refine ⟨kvs, rowN rr, zb, hN5, ko5, rfl, rowN_depth rr, nz5, sz_lt (by omega), ex_upd (eN.trans e5) hN4, hN4, _, upd_same, ?_, Nat.le_trans (length_putN _ _ _ _) (by omega)⟩
        · exact (ko5.put (rowN_depth rr) nz5).tx (txn_dn hN5)
      · rintro N Ha ⟨eN, hN4, kvs, hN, ko, kl⟩
        walk_at "g"
        refine stf_go (eN _ _ x4) T.cl_Posts T.na_Posts_numbers (by show 3 < 1000; decide) fun H5 c5 x5 => ?_
        refine q H5 ?_
        exact Ch.trans c1 (Ch.trans c2 (Ch.trans (ch_ex e3) (Ch.trans c4 (Ch.trans (ch_ex eN) c5))))
end

end K08

set_option Elab.async false
set_option linter.all false
set_option maxRecDepth 100000
set_option maxHeartbeats 2000000
/-! dicts whose keys are tuples, those that are known to bear no dict too -/
namespace AE
open PySem PySem.Spec PyProof.Rows L2 Evl
/-- the tuple at b is the key k -/
def KeyIs (H : Hp) (b : Addr) (k : NK) : Prop := ∃ xs ks, k = .tup ks ∧ Rd H b (.tup xs) ∧ NAts H xs ks
/-- tuples stay, frozen or not -/
def TxR (H H' : Hp) : Prop := ∀ b xs, Rd H b (.tup xs) → Rd H' b (.tup xs)
theorem txr_ex {H H' : Hp} (e : Ex H H') : TxR H H' := fun b xs h => h.imp (fun z => e _ _ z) fun z => z.elim fun o z => ⟨o, e _ _ z⟩
theorem TxR.txn {H H' : Hp} (n : TxN H H') (e : TxR H H') {b : Addr} {k : NK} (h : KeyIs H b k) : KeyIs H' b k := by
  obtain ⟨xs, ks, rfl, r, t⟩ := h
  exact ⟨xs, ks, rfl, e _ _ r, t.tx n⟩
theorem KeyIs.ex {H H' : Hp} {b : Addr} {k : NK} (e : Ex H H') (h : KeyIs H b k) : KeyIs H' b k := TxR.txn (ex_txn e) (txr_ex e) h
theorem KeyIs.of {H : Hp} {b : Addr} {ks : List NK} (h : NAt H (.ref b) (.tup ks)) : KeyIs H b (.tup ks) := by
  obtain ⟨a, xs, e, h1, h2⟩ := h.tupOf
  cases e
  exact ⟨xs, ks, rfl, .inl h1, h2⟩
theorem nats_ints {H : Hp} : ∀ ms : List Int, NAts H (ms.map V.int) (ms.map NK.int)
  | [] => .nil
  | m :: ms => .cons (.int m) (nats_ints ms)
theorem KeyIs.ints {H : Hp} {b : Addr} {ms : List Int} (h : TupF H b (ms.map V.int)) : KeyIs H b (.tup (ms.map NK.int)) := h.elim fun o z => ⟨_, _, rfl, .inr ⟨o, z.2.2⟩, nats_ints ms⟩
theorem keyis {P : Program} {w : World} {H : Hp} {h : Heap} (ok : HOk P w H h) {b : Addr} {k : NK} (q : KeyIs H b k) : IsNK h k (.ref b) := by
  obtain ⟨xs, ks, rfl, r, t⟩ := q
  obtain ⟨_, its, rv, hT⟩ := (show ObjOk P w H h b (.tup xs) from r.ok ok)
  exact .tup hT (by simpa using nats_is ok t rv)
/-- the keys stand as they are said to -/
def KeyOkF (H : Hp) (e : NE) : Prop := e.1.depth ≤ 8 ∧ KeyIs H e.2.1 e.1
def KeysOkF (H : Hp) (kvs : List NE) : Prop := ∀ e ∈ kvs, KeyOkF H e
theorem KeysOkF.tx {H H' : Hp} {kvs : List NE} (n : TxN H H') (e : TxR H H') (h : KeysOkF H kvs) : KeysOkF H' kvs := fun x hx => ⟨(h x hx).1, TxR.txn n e (h x hx).2⟩
section
variable {P : Program} {w : World} {H : Hp} {h : Heap} {a : Addr}
theorem key_isF (ok : HOk P w H h) {e : NE} (k : KeyOkF H e) : (nkKind P w).is h e.1 e.2.1 := ⟨k.1, keyis ok k.2⟩
theorem dn_rdF {kvs : List NE} (ok : HOk P w H h) (e : Rd H a (dN w a kvs)) (hk : KeysOkF H kvs) : kvs.length ≤ sizeLine ∧ (a == sysModules) = false ∧
    ∃ xs, NR kvs xs ∧ h.DictOfH (nkKind P w) a xs := by
  have q := e.ok ok
  obtain ⟨⟨z, y, xs, r, o, es, ep, ho, hx, hd, he, hn⟩, _⟩ := q
  refine ⟨z, y, xs, r, o, es, ep, ho, hx, hd, he, fun x hx => ?_, hn⟩
  have all : ∀ {l : List NE} {m : List (NK × Addr × Value)}, KeysOkF H l → NR l m → ∀ x ∈ m, (nkKind P w).is h x.1 x.2.1 := by
    intro l m hk q
    induction q with
    | nil => intro x hx; exact nomatch hx
    | @cons p q ps qs hq t ih =>
      intro x hx
      rcases List.mem_cons.mp hx with e | hx
      · subst e
        have := key_isF ok (hk p (List.mem_cons_self ..))
        rw [hq.1, hq.2.1] at this
        exact this
      · exact ih (fun e he => hk e (List.mem_cons_of_mem _ he)) x hx
  exact all hk r x hx
end
/-- a read of the dict at a by the key y -/
def NGetF (w : World) (H : Hp) (a : Addr) (y : V) (o : Option V) : Prop := ∃ kvs k b, Rd H a (dN w a kvs) ∧ KeysOkF H kvs ∧ y = .ref b ∧ k.depth ≤ 8 ∧ KeyIs H b k ∧ o = valN kvs k
def NPutF (w : World) (H : Hp) (a : Addr) (y v : V) (H' : Hp) : Prop := ∃ kvs k b, H a = some (dN w a kvs) ∧ KeysOkF H kvs ∧ y = .ref b ∧ k.depth ≤ 8 ∧ KeyIs H b k ∧ kvs.length < sizeLine ∧ H' = upd H a (dN w a (putN kvs k b v))
section
variable {X : Cx} {pins : List (Addr × Obj)} {σ : L2.St} {H : Hp} {s : Shared} {a : Addr} {y v d : V} {u r : Value} {o : Option V} {A : Around} {E : Value → Shared → Prop}
theorem n_getItemF {Q : Value → Shared → Prop} (hu : A.units + 64 < cLine) (I : Inv X pins σ H s) (g : NGetF X.w H a y (some v)) (ry : RelV y u) (h : ∀ w' s', Inv X pins σ H s' → RelV v w' → Q w' s') :
    wpAny (model X.prog X.w) A (getItem (.ref a) u) Q E s := by
  obtain ⟨kvs, k, b, e, hk, ey, dk, eb, l⟩ := g
  subst ey
  cases (show u = Value.ref b from ry)
  obtain ⟨z, hd, xs, rel, dd⟩ := dn_rdF I.hok e hk
  obtain ⟨w', hw, rw'⟩ := RelO.some_of (v := v) (o := (atKey xs k).map (·.2)) (by rw [l]; exact rel.val k)
  obtain ⟨p, hp, hp2⟩ := Option.map_eq_some_iff.mp hw
  refine wpAny_getItem_heap (nk_room hu) ⟨dk, keyis I.hok eb⟩ dd hp ?_
  rw [hp2]
  exact h w' _ (I.tok _) rw'
theorem n_inF {Q : Value → Shared → Prop} (hu : A.units + 64 < cLine) (I : Inv X pins σ H s) (g : NGetF X.w H a y o) (ry : RelV y u) (h : ∀ s', Inv X pins σ H s' → Q (.bool o.isSome) s') :
    wpAny (model X.prog X.w) A (compareOp .In u (.ref a)) Q E s := by
  obtain ⟨kvs, k, b, e, hk, ey, dk, eb, l⟩ := g
  subst ey
  cases (show u = Value.ref b from ry)
  obtain ⟨z, hd, xs, rel, dd⟩ := dn_rdF I.hok e hk
  refine wpAny_in_heap (nk_room hu) ⟨dk, keyis I.hok eb⟩ hd dd ?_
  have q := (rel.val k).isSome_eq
  rw [Option.isSome_map] at q
  rw [← q, ← l]
  exact h _ (I.tok _)
theorem n_notInF {Q : Value → Shared → Prop} (hu : A.units + 64 < cLine) (I : Inv X pins σ H s) (g : NGetF X.w H a y o) (ry : RelV y u) (h : ∀ s', Inv X pins σ H s' → Q (.bool (!o.isSome)) s') :
    wpAny (model X.prog X.w) A (compareOp .NotIn u (.ref a)) Q E s := by
  obtain ⟨kvs, k, b, e, hk, ey, dk, eb, l⟩ := g
  subst ey
  cases (show u = Value.ref b from ry)
  obtain ⟨z, hd, xs, rel, dd⟩ := dn_rdF I.hok e hk
  refine wpAny_notIn_heap (nk_room hu) ⟨dk, keyis I.hok eb⟩ hd dd ?_
  have q := (rel.val k).isSome_eq
  rw [Option.isSome_map] at q
  rw [← q, ← l]
  exact h _ (I.tok _)
theorem n_setItemF {H' : Hp} {Q : Unit → Shared → Prop} (hu : A.units + 64 < cLine) (I : Inv X pins σ H s) (g : NPutF X.w H a y v H') (ry : RelV y u) (rv : RelV v r) (h : ∀ s', Inv X pins σ H' s' → Q () s') :
    wpAny (model X.prog X.w) A (setItem (.ref a) u r) Q E s := by
  obtain ⟨kvs, k, b, e, hk, ey, dk, eb, l, eH⟩ := g
  subst ey eH
  cases (show u = Value.ref b from ry)
  obtain ⟨z, hd, xs, rel, dd⟩ := dn_rdF I.hok (.inl e) hk
  have hz : xs.length ≤ sizeLine := by rw [← Paired.length rel]; exact z
  have hl : (putN kvs k b v).length ≤ sizeLine := by have := length_putN kvs k b v; omega
  refine wpAny_setItem_heap (hsz := hz) (nk_room hu) ⟨dk, keyis I.hok eb⟩ dd fun h' dd' hs => h _ ?_
  have he : ∃ q, h'.get? a = some q := let ⟨q, _, _, hq, _⟩ := dd'; ⟨q, hq⟩
  exact d_write I (by rw [e]; exact True.intro) hs he (dn_after hl hd (rel.put k b rv) dd')
theorem n_get2F {Q : Value → Shared → Prop} (hu : A.units + 64 < cLine) (I : Inv X pins σ H s) (g : NGetF X.w H a y o) (ry : RelV y u) (rd : RelV d r) (h : ∀ w' s', Inv X pins σ H s' → RelV (o.getD d) w' → Q w' s') :
    wpAny (model X.prog X.w) A (call (.builtin "dict.get") [.ref a, u, r]) Q E s := by
  obtain ⟨kvs, k, b, e, hk, ey, dk, eb, l⟩ := g
  subst ey
  cases (show u = Value.ref b from ry)
  obtain ⟨z, hd, xs, rel, dd⟩ := dn_rdF I.hok e hk
  refine call_meetsIn PySem.F.slot_dict_get dd.typeIs PySem.F.entry_dict_get (PySem.F.args_dict_get_3 _ _ _) (meetsH_dict_get_default (nkKind X.prog X.w) a b hd r) ⟨nk_room hu, k, xs, ⟨dk, keyis I.hok eb⟩, dd, h _ _ (I.tok _) ?_⟩
  rw [l]
  exact (rel.val k).getD rd
theorem n_setdF {kvs : List NE} {k : NK} {b : Addr} {Q : Value → Shared → Prop} (hu : A.units + 64 < cLine) (I : Inv X pins σ H s) (hD : H a = some (dN X.w a kvs)) (hk : KeysOkF H kvs) (dk : k.depth ≤ 8) (eb : KeyIs H b k) (hl : kvs.length < sizeLine)
    (rv : RelV v r) (h1 : ∀ x, valN kvs k = some x → ∀ w1 s1, Inv X pins σ H s1 → RelV x w1 → Q w1 s1) (h2 : valN kvs k = none → ∀ s1, Inv X pins σ (upd H a (dN X.w a (putN kvs k b v))) s1 → Q r s1) :
    wpAny (model X.prog X.w) A (call (.builtin "dict.setdefault") [.ref a, .ref b, r]) Q E s := by
  obtain ⟨_, hd, xs, rel, dd⟩ := dn_rdF I.hok (.inl hD) hk
  have hx : xs.length ≤ sizeLine := by
    have e := Paired.length rel
    omega
  have hz : (putN kvs k b v).length ≤ sizeLine := Nat.le_trans (length_putN kvs k b v) (by omega)
  refine call_setdefault_heap (knd := nkKind X.prog X.w) (hsz := hx) (nk_room hu) ⟨dk, keyis I.hok eb⟩ hd dd (fun p hp => ?_) fun hn h' dd1 hs => ?_
  · have q := rel.val k
    rw [hp] at q
    cases q0 : valN kvs k with
    | none => rw [q0] at q; exact q.elim
    | some x => rw [q0] at q; exact h1 x q0 _ _ (I.tok _) q
  · have q := rel.val k
    rw [hn] at q
    cases q0 : valN kvs k with
    | some x => rw [q0] at q; exact q.elim
    | none =>
      refine h2 q0 _ ?_
      have he : ∃ q, h'.get? a = some q := let ⟨q, _, _, hq, _⟩ := dd1; ⟨q, hq⟩
      exact d_write I (by rw [hD]; trivial) hs he (dn_after hz hd (rel.put k b rv) dd1)
end
def tNGetF (w : World) (td ty : TE) : TE := fun σ H Q => td σ H fun x H1 => ty σ H1 fun y H2 => ∃ a v, x = .ref a ∧ NGetF w H2 a y (some v) ∧ Q v H2
def tNInF (w : World) (ty td : TE) : TE := fun σ H Q => ty σ H fun y H1 => td σ H1 fun x H2 => ∃ a o, x = .ref a ∧ NGetF w H2 a y o ∧ Q (.bl o.isSome) H2
def tNNotInF (w : World) (ty td : TE) : TE := fun σ H Q => ty σ H fun y H1 => td σ H1 fun x H2 => ∃ a o, x = .ref a ∧ NGetF w H2 a y o ∧ Q (.bl (!o.isSome)) H2
def sNPutF (w : World) (td ty tv : TE) : TS := fun D σ H => tv σ H fun v H1 => td σ H1 fun x H2 => ty σ H2 fun y H3 => ∃ a H4, x = .ref a ∧ NPutF w H3 a y v H4 ∧ D.nx σ H4
def tNGet2F (w : World) (td ty tx : TE) : TE := fun σ H Q => td σ H fun x H1 => ∃ a, x = .ref a ∧ IsN w H1 a ∧ ty σ H1 fun y H2 => tx σ H2 fun z H3 => ∃ o, NGetF w H3 a y o ∧ Q (o.getD z) H3
def tSetdNF (w : World) (td ty tx : TE) : TE := fun σ H Q => td σ H fun x Ha => ∃ a, x = .ref a ∧ IsN w Ha a ∧ ty σ Ha fun y Hb => tx σ Hb fun z Hc => ∃ (kvs : List NE) (k : NK) (b : Addr), Hc a = some (dN w a kvs) ∧ KeysOkF Hc kvs ∧ y = .ref b ∧ k.depth ≤ 8 ∧ KeyIs Hc b k ∧ kvs.length < sizeLine ∧
  (∀ v, valN kvs k = some v → Q v Hc) ∧ (valN kvs k = none → Q z (upd Hc a (dN w a (putN kvs k b z))))
section
variable {X : Cx} {o i e f value : Expr} {pos pos' tpos apos cpos : Pos} {td ty tv tx : TE}
theorem pe_ngetF (hu : X.A.units + 64 < cLine) (ho : PE X o td) (hi : PE X i ty) (hs : NoSl i) : PE X (.Subscript o i pos) (tNGetF X.w td ty) := by
  refine ⟨fun pins s σ H Q I h => ?_⟩
  refine subD_of PySem.F.slot_dict_getitem.lookup hs (thn (ho.run pins s σ H _ I h) fun u s1 ⟨x, H1, I1, rx, q1⟩ => thn (hi.run pins s1 σ H1 _ I1 q1) fun iv s2 ⟨y, H2, I2, ry, a, v, ex, g, q2⟩ => ?_)
  subst ex
  obtain rfl : u = Value.ref a := rx
  have dd := isN_at I2 (let ⟨kvs, _, _, e, _⟩ := g; ⟨kvs, e⟩)
  exact ⟨dd.1, n_getItemF hu I2 g ry fun w' s3 I3 rw' => ⟨v, H2, I3, rw', q2⟩⟩
theorem pc_ninF (hu : X.A.units + 64 < cLine) (hi : PE X i ty) (ho : PE X o td) : PC X .In i o (tNInF X.w ty td) := by
  refine ⟨fun pins s σ H Q I h => ?_⟩
  refine thn (hi.run pins s σ H _ I h) fun iv s1 ⟨y, H1, I1, ry, q1⟩ => thn (ho.run pins s1 σ H1 _ I1 q1) fun u s2 ⟨x, H2, I2, rx, a, ov, ex, g, q2⟩ => ?_
  subst ex
  obtain rfl : u = Value.ref a := rx
  exact n_inF hu I2 g ry fun s3 I3 => ⟨.bl ov.isSome, H2, I3, rfl, q2⟩
theorem pc_nnotinF (hu : X.A.units + 64 < cLine) (hi : PE X i ty) (ho : PE X o td) : PC X .NotIn i o (tNNotInF X.w ty td) := by
  refine ⟨fun pins s σ H Q I h => ?_⟩
  refine thn (hi.run pins s σ H _ I h) fun iv s1 ⟨y, H1, I1, ry, q1⟩ => thn (ho.run pins s1 σ H1 _ I1 q1) fun u s2 ⟨x, H2, I2, rx, a, ov, ex, g, q2⟩ => ?_
  subst ex
  obtain rfl : u = Value.ref a := rx
  exact n_notInF hu I2 g ry fun s3 I3 => ⟨.bl (!ov.isSome), H2, I3, rfl, q2⟩
theorem ps_nputF (hu : X.A.units + 64 < cLine) (ho : PE X o td) (hi : PE X i ty) (hv : PE X value tv) (hs : swapsWith value (some (.Subscript o i pos')) pos.line X.env = pure false) :
    PS X (.Assign [.Subscript o i pos'] value pos) (sNPutF X.w td ty tv) := by
  refine ⟨fun pins s σ H D I h => ?_⟩
  refine wpAny_Assign_Subscript (thn (hv.run pins s σ H _ I h) fun r s1 ⟨v, H1, I1, rv, q1⟩ => thn (ho.run pins s1 σ H1 _ I1 q1) fun u s2 ⟨x, H2, I2, rx, q2⟩ => thn (hi.run pins s2 σ H2 _ I2 q2) fun iv s3 ⟨y, H3, I3, ry, a, H4, ex, g, q3⟩ => ?_) hs
  subst ex
  obtain rfl : u = Value.ref a := rx
  exact n_setItemF hu I3 g ry rv fun s4 I4 => ⟨σ, H4, I4, q3⟩
theorem pe_nget2F (hu : X.A.units + 64 < cLine) (ho : PE X o td) (he : PE X e ty) (hf : PE X f tx) (m : M2 X o "get" apos e f cpos) : PE X (.Call (.Attribute o "get" apos) [e, f] [] cpos) (tNGet2F X.w td ty tx) := by
  refine ⟨fun pins s σ H Q I h => ?_⟩
  refine wpAny_Call_method m.base m.few m.line PySem.F.plainAttrs_dict PySem.F.slot_dict_get PySem.F.type_dict_get (thn (ho.run pins s σ H _ I h) fun u s1 ⟨x, H1, I1, rx, a, ex, d, q1⟩ => ?_)
  subst ex
  obtain rfl : u = Value.ref a := rx
  obtain ⟨t1, t2, _⟩ := isN_at I1 d
  refine ⟨t1, t2, ?_⟩
  rw [m.trees]
  refine Calls.callWith_builtin rfl (Calls.evalArgs_plain (Calls.spliced_cons (thn (he.run pins s1 σ H1 _ I1 q1) fun iv s2 ⟨y, H2, I2, ry, q2⟩ =>
    Calls.spliced_cons (thn (hf.run pins s2 σ H2 _ I2 q2) fun fv s3 ⟨z, H3, I3, rz, ov, g, q3⟩ => Calls.spliced_nil ?_))))
  exact n_get2F hu I3 g ry rz fun w' s4 I4 rw' => ⟨_, H3, I4, rw', q3⟩
theorem pe_setdNF (hu : X.A.units + 64 < cLine) (ho : PE X o td) (he : PE X e ty) (hf : PE X f tx) (m : M2 X o "setdefault" apos e f cpos) : PE X (.Call (.Attribute o "setdefault" apos) [e, f] [] cpos) (tSetdNF X.w td ty tx) := by
  refine ⟨fun pins s σ H Q I h => ?_⟩
  refine wpAny_Call_method m.base m.few m.line PySem.F.plainAttrs_dict PySem.F.slot_dict_setdefault PySem.F.type_dict_setdefault (thn (ho.run pins s σ H _ I h) fun u sa ⟨x, Ha, Ia, rx, a, ex, d, q1⟩ => ?_)
  subst ex
  cases rx
  obtain ⟨t1, t2, _⟩ := isN_at Ia d
  refine ⟨t1, t2, ?_⟩
  rw [m.trees]
  refine Calls.callWith_builtin rfl (Calls.evalArgs_plain (Calls.spliced_cons (thn (he.run pins sa σ Ha _ Ia q1) fun iv sb ⟨y, Hb, Ib, ry, q2⟩ => Calls.spliced_cons (thn (hf.run pins sb σ Hb _ Ib q2) fun fv sc hc => Calls.spliced_nil ?_))))
  obtain ⟨z, Hc, Ic, rz, kvs, k, b, ea, hk, ey, dk, eb, hl, q3, q4⟩ := hc
  subst ey
  cases ry
  exact n_setdF hu Ic ea hk dk eb hl rz (fun v hv w1 s1 I1 r1 => ⟨v, _, I1, r1, q3 v hv⟩) fun hn s1 I1 => ⟨z, _, I1, rz, q4 hn⟩
end
end AE

set_option Elab.async false
set_option linter.all false
set_option maxRecDepth 100000
set_option maxHeartbeats 2000000
/-! dict comprehensions whose keys are such tuples -/
namespace AE
open PySem PySem.Spec PyProof.Rows L2 Evl
section
variable {X : Cx} {pins : List (Addr × Obj)} {σ : L2.St} {H : Hp} {s : Shared}
theorem put_nF {D b : Addr} {kvs : List NE} {k : NK} {v : V} {r : Value} {Q : Unit → Shared → Prop} {Er : Value → Shared → Prop} {A : Around} (hu : A.units + 64 < cLine) (I : Inv X pins σ H s) (hD : H D = some (dN X.w D kvs)) (hk : KeysOkF H kvs) (dk : k.depth ≤ 8) (eb : KeyIs H b k) (hl : kvs.length < sizeLine)
    (rv : RelV v r) (h : ∀ s1, Inv X pins σ (upd H D (dN X.w D (putN kvs k b v))) s1 → Q () s1) : wpAny (model X.prog X.w) A (dictSet D (.ref b) r) Q Er s := by
  obtain ⟨_, hd, xs, rel, dd⟩ := dn_rdF I.hok (.inl hD) hk
  have hx : xs.length ≤ sizeLine := by
    have e := Paired.length rel
    omega
  have hz : (putN kvs k b v).length ≤ sizeLine := Nat.le_trans (length_putN kvs k b v) (by omega)
  refine wpAny_dictSet_heap (knd := nkKind X.prog X.w) (hsz := hx) (show A.units + 8 < cLine by omega) ⟨dk, keyis I.hok eb⟩ dd fun h1 dd1 hs => h _ ?_
  have he : ∃ q, h1.get? D = some q := let ⟨q, _, _, hq, _⟩ := dd1; ⟨q, hq⟩
  exact d_write I (by rw [hD]; trivial) hs he (dn_after hz hd (rel.put k b rv) dd1)
/-- the stores of a comprehension whose keys are tuples -/
def sNF (w : World) (D : Addr) : V → V → Hp → (Hp → Prop) → Prop := fun y z H R => ∃ (kvs : List NE) (k : NK) (b : Addr), H D = some (dN w D kvs) ∧ KeysOkF H kvs ∧ y = .ref b ∧ k.depth ≤ 8 ∧ KeyIs H b k ∧ kvs.length < sizeLine ∧ R (upd H D (dN w D (putN kvs k b z)))
def tDcNF (w : World) (wi : TI) (g : TG) (tt : TT) (tk tv : TE) (vs : List Nat) : TE := fun σ H Q => wi σ H fun J Ha => ∀ D, Ha D = none → ∃ W : Nat → Nat → Hp → Prop, (∃ m, W 0 m (upd Ha D (dN w D []))) ∧ ∀ i m Hb, W i m Hb →
  (J.stop i Hb ∧ Q (.ref D) Hb) ∨ (J.go i Hb ∧ ∃ Nx : Hp → Prop, (∀ Hc, Nx Hc → ∃ m1, m1 < m ∧ W (i + 1) m1 Hc) ∧ ∀ x Hc, J.yld i Hb x Hc → g x (wipe σ vs) Hc fun σa Hd => wipe σa vs = wipe σ vs ∧ tt σa Hd fun b He =>
    if b = true then tk σa He fun y Hf => tv σa Hf fun z Hg => sNF w D y z Hg Nx else Nx He)
theorem pe_dcNF {kx vx tg iter : Expr} {ifs : List Expr} {scope : Scope} {own : List (Str × Nat)} {pos : Pos} {wi : TI} {g : TG} {tt : TT} {tk tv : TE} (hu : X.A.units + 64 < cLine) (hc : X.calm = true) (hN : X.N.Nodup) (hi : PI X tg iter wi) (ok : BlkOk X.N X.env.scope scope own)
    (hg : ∀ s0 H0 C cl fp, PG (X.blk s0 H0 scope (compEnvC scope cl C X.env) fp) tg g) (ht : ∀ s0 H0 C cl fp, PTs (X.blk s0 H0 scope (compEnvC scope cl C X.env) fp) ifs tt)
    (hk : ∀ s0 H0 C cl fp, PE (X.blk s0 H0 scope (compEnvC scope cl C X.env) fp) kx tk) (he : ∀ s0 H0 C cl fp, PE (X.blk s0 H0 scope (compEnvC scope cl C X.env) fp) vx tv)
    (hs : ∀ x, foldedSetIterable iter X.env x = pure x := by intro _; rfl) : PE X (.DictComp kx vx [⟨tg, iter, ifs, 0⟩] scope pos) (tDcNF X.w wi g tt tk tv (own.map (·.2))) := by
  refine ⟨fun pins s σ H Q I h => ?_⟩
  rw [arm_eval_DictComp]
  have free : ∀ y ∈ scope.names, y.2 = .free → ∃ c, X.env.cells.lookup y.1 = some c := fun y hy e => by
    rcases ok.free y hy e with z | z
    · exact I.ok.has _ (.inl z)
    · exact I.ok.has _ (.inr z)
  refine wpAny_comprehension_free (use := none) rfl hs (closure_ok free) ok.kind (fun y hy e => by rw [ok.uniq y hy, e]) (thn (hi.run pins s σ H _ I h) fun xv sa hx => thn hx fun itv sb hb => ?_)
  obtain ⟨it, fp, tn, J, Hb, e, Ib, T, stb, fb, q⟩ := hb
  subst e
  refine wpAny_newObj_type (newEnv_comp ?_)
  generalize hDe : sb.heap.objs.size = D
  obtain ⟨W, ⟨m0, w0⟩, turn⟩ := q D (Ib.hok.fresh (Nat.le_of_eq hDe))
  generalize hsc : ({ sb with heap := sb.heap.push { cls := .type "dict", data := .dict #[] } } : Shared) = sc
  have hsc' : sc.heap = sb.heap.push { cls := .type "dict", data := .dict #[] } := by rw [← hsc]
  have Ic : Inv X pins σ (upd Hb D (dN X.w D [])) sc := by
    rw [← hsc]
    refine Ib.laid (t' := sb.toks) (fun _ _ e => Heap.get?_push_of_some _ e) (Nat.le_of_eq hDe) ?_
    rw [← hDe]
    exact dn_ok ⟨Nat.zero_le _, beq_eq_false_iff_ne.mpr (Ne.symm (Nat.ne_of_lt Ib.big)), [], .nil, _, #[], 0, Heap.get?_push_size _ rfl, ⟨rfl, rfl, rfl⟩, rfl, rfl, List.nodup_nil⟩
  have old : ∀ b ∈ fp, b < sb.heap.objs.size := fun b hb => by
    obtain ⟨_, z, _⟩ := T.obj _ _ stb b hb
    exact Heap.lt_size z
  have fc : ∀ b ∈ fp, FpOk X pins (upd Hb D (dN X.w D [])) b ∧ b < sc.heap.objs.size := fun b hb => by
    have z := old b hb
    refine ⟨⟨by rw [upd_ne (by rw [← hDe]; exact Nat.ne_of_lt z)]; exact (fb b hb).1, (fb b hb).2⟩, ?_⟩
    rw [hsc', Heap.size_push]
    exact Nat.lt_succ_of_lt z
  have stc : tn 0 sc.heap := T.keep _ _ _ stb fun b _ o e => by rw [hsc']; exact Heap.get?_push_of_some _ e
  have Id := block_start Ic ok hN fc
  have pg := hg sc (upd Hb D (dN X.w D [])) sc.heap.objs.size (cellsFrom (sc.heap.objs.size + 1) scope.names (cloFrom X.env.cells scope.names [])) fp
  have pt := ht sc (upd Hb D (dN X.w D [])) sc.heap.objs.size (cellsFrom (sc.heap.objs.size + 1) scope.names (cloFrom X.env.cells scope.names [])) fp
  have pk := hk sc (upd Hb D (dN X.w D [])) sc.heap.objs.size (cellsFrom (sc.heap.objs.size + 1) scope.names (cloFrom X.env.cells scope.names [])) fp
  have pv := he sc (upd Hb D (dN X.w D [])) sc.heap.objs.size (cellsFrom (sc.heap.objs.size + 1) scope.names (cloFrom X.env.cells scope.names [])) fp
  show codeAny _ _ (.compStart (.DictComp kx vx [⟨tg, iter, ifs, 0⟩] scope pos) 0 (.ref it) (.ref D) (compEnvC scope (cellsFrom (sc.heap.objs.size + 1) scope.names (cloFrom X.env.cells scope.names [])) sc.heap.objs.size X.env)) _ { sc with heap := pushCells (sc.heap.push { cls := .type "dict", data := .dict #[] }) scope.names }
  have nfp : ∀ b ∈ fp, (upd Hb D (dN X.w D [])) b = none := fun b hb => (fc b hb).1.1
  generalize hce : compEnvC scope (cellsFrom (sc.heap.objs.size + 1) scope.names (cloFrom X.env.cells scope.names [])) sc.heap.objs.size X.env = ce at Id pg pt pk pv ⊢
  have cL : ce.locals = sc.heap.objs.size := by subst hce; rfl
  generalize hHc : upd Hb D (dN X.w D []) = Hc at Ic Id pg pt pk pv w0 nfp fc
  generalize hsd : ({ sc with heap := pushCells (sc.heap.push { cls := .type "dict", data := .dict #[] }) scope.names } : Shared) = sd at Id ⊢
  have std : tn 0 sd.heap := T.keep _ _ _ stc fun b _ o e => by rw [← hsd]; exact pushCells_keeps _ _ _ _ (Heap.get?_push_of_some _ e)
  have stat : ∀ {σ1 : L2.St} {H1 : Hp} {s1 : Shared}, Inv (X.blk sc Hc scope ce fp) [] σ1 H1 s1 → (∀ b ∈ fp, H1 b = none) → ∀ b ∈ fp, FpOk (X.blk sc Hc scope ce fp) [] H1 b := fun {σ1 H1 s1} J1 nn b hb =>
    ⟨nn b hb, (J1.ok.exf b hb).1, J1.ok.exfs b hb, .inl hb, fun x c e => (J1.ok.exf b hb).2 x c e, fun p hp => absurd (show p ∈ ([] : List (Addr × Obj)) ++ [] from hp) (by simp)⟩
  refine codeAny_compStart_dict ?_ (T.self X.A 0 _ _ _ std ?_)
  all_goals
    refine compLoop_anyD (fun n s1 => ∃ i H1, Inv (X.blk sc Hc scope ce fp) [] (wipe σ (own.map (·.2))) H1 s1 ∧ tn i s1.heap ∧ (∀ b ∈ fp, H1 b = none) ∧ W i n H1) ?_ m0 ⟨0, Hc, Id, std, nfp, w0⟩
    rintro n s5 ⟨i, H5, I5, st5, n5, w5⟩
    rcases turn i n H5 w5 with ⟨stop, fine⟩ | ⟨go, Nx, less, step⟩
    · refine thnF (T.done (X.blk sc Hc scope ce fp) rfl rfl rfl hc i [] s5 _ H5 (fun _ _ => False) I5 (stat I5 n5) st5 stop) fun r s6 ⟨hr, I6⟩ => ?_
      subst hr
      have I7 : Inv X pins σ H5 s6 := Ic.call' (ch := fp) I6.os I6.base I6.hok I6.bare fun b hb => ⟨(fc b hb).1.2.2.2.1, (fc b hb).1.2.1, (fc b hb).1.2.2.2.2.1, (fc b hb).1.2.2.2.2.2⟩
      have nC : H5 sc.heap.objs.size = none := by
        rw [← cL]
        exact I6.free
      obtain ⟨mm, hmm, _⟩ := I6.loc
      have hm2 : s6.heap.Ns ce.locals mm := hmm
      rw [cL] at hm2
      refine ⟨mm, hm2, fun h2 sb2 => ?_⟩
      obtain ⟨f0, f1, _, f3, f4, f5⟩ := Ic.fpOk (Nat.le_refl _) nC
      exact ⟨.ref D, H5, I7.turned (t' := s6.toks) (fun b o hb e => (sb2.2 b hb).trans e) f0 f1 f3 f4 f5, rfl, fine⟩
    · refine thnF (T.item (X.blk sc Hc scope ce fp) rfl rfl rfl hc i [] s5 _ H5 (fun _ _ => False) I5 (stat I5 n5) st5 go) fun r s6 ⟨u, hr, more⟩ => ?_
      subst hr
      refine thnF more fun _ s7 ⟨x, H7, I7, rx, yx, st7, n7⟩ => ?_
      refine thnF (pg.run _ s7 _ H7 x u _ (I7.pinned (stat I7 n7) (T.obj _ _ st7)) rx (step x H7 yx)) fun _ s8 ⟨σ8, H8, I8, hw, q8⟩ => ?_
      have back : ∀ {s1 : Shared} {H1 : Hp}, Inv (X.blk sc Hc scope ce fp) ([] ++ pinsAt fp s7.heap) σ8 H1 s1 → Nx H1 → ∃ m, m < n ∧ ∃ i H1, Inv (X.blk sc Hc scope ce fp) [] (wipe σ (own.map (·.2))) H1 s1 ∧ tn i s1.heap ∧ (∀ b ∈ fp, H1 b = none) ∧ W i m H1 := fun {s1 H1} J1 nx => by
        obtain ⟨m1, l1, w1⟩ := less H1 nx
        have keep : ∀ b ∈ fp, ∀ o, s7.heap.get? b = some o → s1.heap.get? b = some o ∧ H1 b = none := fun b hb o e => by
          have z := J1.pin (b, o) (List.mem_append_right _ (List.mem_append_right _ (mem_pinsAt hb e)))
          exact ⟨z.1, z.2.1⟩
        refine ⟨m1, l1, i + 1, H1, (J1.unpinned (pins := [])).weak (by rw [← hw, wipe_length]) (fun j v e => ?_), T.keep _ _ _ st7 fun b hb o e => (keep b hb o e).1, fun b hb => ?_, w1⟩
        · rw [← hw] at e
          exact (wipe_some e).1
        · obtain ⟨o, e, _⟩ := T.obj _ _ st7 b hb
          exact (keep b hb o e).2
      refine thnF (pt.run _ s8 σ8 H8 _ I8 q8) fun b s9 ⟨H9, I9, q9⟩ => ?_
      cases b
      · simp only [Bool.false_eq_true, if_false] at q9 ⊢
        exact back I9 q9
      · simp only [if_true] at q9 ⊢
        refine thnF (pk.run _ s9 σ8 H9 _ I9 q9) fun z s10 ⟨yk, H10, I10, rk, q10⟩ => ?_
        refine thnF (pv.run _ s10 σ8 H10 _ I10 q10) fun z2 s11 ⟨yv, H11, I11, rz, kvs, k1, kb, eD, ko, ek, dk, eb, l11, nx⟩ => ?_
        subst ek
        cases rk
        exact put_nF (X := X.blk sc Hc scope ce fp) hu I11 eD ko dk eb l11 rz fun s12 I12 => back I12 nx
end
end AE

namespace AE
open PySem PySem.Spec PyProof.Rows L2 Evl
section
variable {w : World} {σ : L2.St} {H : Hp} {J : It} {n : Nat} {G : Hp → Prop} {Y : Nat → Hp → V → Hp → Prop} {vs : List Nat} {g : TG} {t : TT} {tk tv : TE} {D : Addr} {Qd : Hp → Prop}
theorem dcN_itF (wk : Walk J n G Y) (Pv : Nat → Hp → Prop) (h0 : Pv 0 (upd H D (dN w D []))) (hG : ∀ i Ha, i ≤ n → Pv i Ha → G Ha)
    (hs : ∀ i x Ha Hb, i < n → Pv i Ha → Y i Ha x Hb → g x (wipe σ vs) Hb fun σ2 Hc => wipe σ2 vs = wipe σ vs ∧ t σ2 Hc fun b Hd =>
      if b = true then tk σ2 Hd fun y He => tv σ2 He fun z Hf => sNF w D y z Hf (Pv (i + 1)) else Pv (i + 1) Hd) (hd : ∀ Ha, Pv n Ha → Qd Ha) :
    ∃ W : Nat → Nat → Hp → Prop, (∃ m, W 0 m (upd H D (dN w D []))) ∧ ∀ i m Ha, W i m Ha →
      (J.stop i Ha ∧ Qd Ha) ∨ (J.go i Ha ∧ ∃ Nx : Hp → Prop, (∀ Hb, Nx Hb → ∃ m1, m1 < m ∧ W (i + 1) m1 Hb) ∧ ∀ x Hb, J.yld i Ha x Hb → g x (wipe σ vs) Hb fun σ2 Hc => wipe σ2 vs = wipe σ vs ∧ t σ2 Hc fun b Hd =>
        if b = true then tk σ2 Hd fun y He => tv σ2 He fun z Hf => sNF w D y z Hf Nx else Nx Hd) := by
  refine ⟨fun i m Ha => m + i = n ∧ Pv i Ha, ⟨n, by omega, h0⟩, ?_⟩
  rintro i m Ha ⟨e, p⟩
  have q := hG i Ha (by omega) p
  by_cases lt : i < n
  · exact .inr ⟨wk.goes i Ha lt q, Pv (i + 1), fun Hb p1 => ⟨m - 1, by omega, by omega, p1⟩, fun x Hb y => hs i x Ha Hb lt p (wk.yields i Ha x Hb lt q y)⟩
  · obtain rfl : i = n := by omega
    exact .inl ⟨wk.stops Ha q, hd Ha p⟩
end
end AE
namespace AE
open PySem PySem.Spec PyProof.Rows L2 Evl
theorem txr_dn {w : World} {H : Hp} {D : Addr} {kvs : List NE} {o : HO} (h : H D = some (dN w D kvs)) : TxR H (upd H D o) := fun c ys ec => by
  have n : D ≠ c := fun z => by
    subst z
    rcases ec with e | ⟨ob, e⟩
    · rw [h] at e; cases e
    · rw [h] at e; cases e
  exact ec.imp (fun z => by rw [upd_ne (Ne.symm n)]; exact z) fun z => z.elim fun ob z => ⟨ob, by rw [upd_ne (Ne.symm n)]; exact z⟩
theorem KeysOkF.put {H : Hp} {kvs : List NE} {k : NK} {b : Addr} {v : V} (h : KeysOkF H kvs) (d : k.depth ≤ 8) (n : KeyIs H b k) : KeysOkF H (putN kvs k b v) := by
  intro e he
  unfold putN at he
  split at he
  · obtain ⟨x, hx, rfl⟩ := List.mem_map.mp he
    have z := h x hx
    by_cases c : x.1 = k
    · rw [if_pos c]; exact z
    · rw [if_neg c]; exact z
  · rcases List.mem_append.mp he with he | he
    · exact h e he
    · rw [List.mem_singleton.mp he]; exact ⟨d, n⟩
theorem dcn_enumF {w : World} {K : PySem.W.Frag} {σ : L2.St} {H : Hp} {a : Addr} {xs : List V} {vs : List Nat} {g : TG} {t : TT} {tk tv : TE} {ta : TA} {Q : VK} (hv : ∀ R : List V → Hp → Prop, R [.ref a] H → ta σ H R) (hx : SqL K H a xs) (Pv : Addr → Nat → Hp → Prop) (h0 : ∀ D, H D = none → Pv D 0 (upd H D (dN w D []))) (hG : ∀ D i Ha, i ≤ xs.length → Pv D i Ha → SqL K Ha a xs)
    (hs : ∀ D i x Ha T, xs[i]? = some x → Pv D i Ha → Ha T = none → g (.ref T) (wipe σ vs) (upd Ha T (.tup [.int (i : Int), x])) fun σ2 Hc => wipe σ2 vs = wipe σ vs ∧ t σ2 Hc fun b Hd =>
      if b = true then tk σ2 Hd fun y He => tv σ2 He fun z Hf => sNF w D y z Hf (Pv D (i + 1)) else Pv D (i + 1) Hd) (hd : ∀ D Ha, Pv D xs.length Ha → Q (.ref D) Ha) : tDcNF w (iEnum K ta) g t tk tv vs σ H Q :=
  hv _ ⟨a, xs, rfl, hx, fun D hD => dcN_itF (walk_enum (K := K) (a := a) (xs := xs)) (Pv D) (h0 D hD) (hG D) (fun i x Ha Hb _ p y => by
    obtain ⟨T, u, v, rfl, h2, rfl, h4, h5⟩ := y
    cases h4
    exact hs D i v Ha T h5 p h2) (hd D)⟩
end AE

set_option Elab.async false
set_option linter.all false
set_option maxRecDepth 100000
set_option maxHeartbeats 2000000
namespace K08
open PySem PySem.Spec PyProof.Rows L2 Evl AE
local macro_rules | `(tactic| walk_at "c") => `(tactic| first | exact ⟨by decide, by decide⟩ | exact .inr ⟨by decide, by decide⟩ | exact .inl ⟨by decide, by decide⟩ | exact ⟨by decide, by decide, by decide⟩ | (show (0 : Int) < _; decide))
local macro_rules | `(tactic| walk_at "s") => `(tactic| first
  | (with_reducible refine r_var rfl ?_) | (with_reducible refine r_c ?_) | (with_reducible refine r_op ?_) | (with_reducible refine r_un ?_) | (with_reducible refine r_I0 ?_) | (with_reducible refine r_U ?_)
  | (with_reducible refine r_eq rfl ?_) | (with_reducible refine r_ne rfl ?_) | (with_reducible refine r_chain ?_) | (with_reducible refine r_test ?_) | (with_reducible refine r_tB ?_)
  | (with_reducible refine r_bl ?_) | (with_reducible refine r_and ?_) | (with_reducible refine r_or ?_) | (with_reducible refine r_not ?_) | (with_reducible refine r_nil ?_) | (with_reducible refine r_cons ?_)
  | (with_reducible refine r_tupK ?_) | (with_reducible refine r_lstK ?_) | (with_reducible refine r_cb ?_) | (with_reducible refine r_revL ?_) | (with_reducible refine r_ost ?_) | (with_reducible refine r_mkO ?_) | (with_reducible refine r_makeK ?_) | (with_reducible refine r_make ?_) | (with_reducible refine r_setdN ?_) | (with_reducible refine r_nget2 ?_) | (with_reducible refine r_nnew ?_) | (with_reducible refine r_call ?_) | (with_reducible refine r_seq ?_) | (with_reducible refine r_set ?_)
  | (with_reducible refine r_drop ?_) | (with_reducible refine r_ret ?_) | (with_reducible refine r_next ?_) | (with_reducible refine r_if ?_) | (with_reducible refine r_sl ?_) | (with_reducible refine r_nop ?_) | (with_reducible refine r_prt ?_) | (with_reducible refine r_some ?_)
  | (with_reducible refine add_int ?_) | (with_reducible refine int_i ?_) | (with_reducible refine r_forR1 ?_) | (with_reducible refine r_forR2 ?_) | (with_reducible refine r_meth ?_) | (with_reducible refine r_makeS ?_) | (with_reducible refine r_opS ?_) | (with_reducible refine r_makeRS ?_) | (with_reducible refine r_methH ?_) | (with_reducible refine r_callS ?_) | (with_reducible refine r_forL ?_) | (with_reducible refine r_andV ?_) | (with_reducible refine r_orV ?_) | (with_reducible refine r_notV ?_) | (with_reducible refine r_ifE ?_) | (with_reducible refine r_lcL ?_) | (with_reducible refine r_fld ?_) | (with_reducible refine r_get ?_) | (with_reducible refine r_din ?_) | (with_reducible refine r_dget2 ?_) | ((with_reducible refine r_I ?_ ?_); (walk_at "c")))
local macro_rules | `(tactic| walk_at "g") => `(tactic| repeat walk_at "s")
section
variable {P : Program} {w : World} {K : PySem.W.Frag} {mg : Str → Option Value} {base : Heap}
/-! ### the lot's side -/
def choicesF (n st f : Int) : List Int := if st = -1 then [-1] else ((List.range n.toNat).map fun (i : Nat) => (i : Int)) ++ (if 0 < f then [-1] else [])
theorem lrg_go {σ : L2.St} {H : Hp} {te : TE} {n : Int} {Q : VK} (hv : ∀ R : VK, R (.int n) H → te σ H R) (h0 : 0 ≤ n) (hn : n ≤ 16777216) (q : ∀ p H1, H p = none → Ex H H1 → H1 p = some (.lst (((List.range n.toNat).map fun (i : Nat) => (i : Int)).map V.int)) → Q (.ref p) H1) : tLstRg (tRg1 te) σ H Q :=
  hv _ ⟨n, rfl, RgOk.of_le (by decide) hn (by decide) h0, fun p hp => q p _ hp (Ex.new hp) (by
    rw [upd_same, List.map_map]
    unfold rgV
    rw [Int.sub_zero]
    congr 3
    funext i
    show V.int (0 + (i : Int)) = V.int (i : Int)
    rw [Int.zero_add])⟩
def sp_choices (T : Tp K mg) : Sp := fun vs H Q _ => ∃ (y : Addr) (m : Mach) (st f : Int), vs = [.ref y, .int st, .int f] ∧ MachAt H y T.C_Service m ∧ 0 ≤ m.size ∧ m.size ≤ 200 ∧
  ∀ p H', H p = none → Ex H H' → H' p = some (.lst ((choicesF m.size st f).map V.int)) → Q (.ref p) H'
theorem ok_choices (T : Tp K mg) : FnOk P w K mg base CX0 1 T.a_state_choices T.d_state_choices ["service", "state", "falls"] (sp_choices T) := by
  refine T.f_state_choices.ok sc_state_choices (fun vs H Q E h => ?_) (fun cdv A outer s H vs Q E hr h => ?_)
  · obtain ⟨y, m, st, f, rfl, _⟩ := h
    rfl
  · obtain ⟨y, m, st, f, rfl, hm, m0, m2, q⟩ := h
    refine ⟨_, (pss_cons (ps_if (pt_cmpR op_eq (pv 1) (pe_gi rfl T.k_AWAY) (nomark _)) (pss_one (ps_ret (pe_lst (pa_cons (pe_gi rfl T.k_AWAY) pa_nil)))) pss_nil)
  (pss_one (ps_ret (pe_op opAdd (pe_listRg rfl (by rfl) T.n_list (prg_1 (by rfl) T.n_range (pe_fld (pv 0) rfl))) (pe_ifExp (pt_cmpR op_gt (pv 2) pe_int (nomark _)) (pe_lst (pa_cons (pe_gi rfl T.k_AWAY) pa_nil)) (pe_lst pa_nil)))))), ?_⟩
    obtain ⟨dy, pm, ps, de, dp, us, y1, _⟩ := id hm
    walk_at "g"
    by_cases c : st = -1
    · refine ite_t (by rw [c]; rfl) ?_
      walk_at "g"
      refine lst_go fun p H1 n1 e1 h1 => ?_
      exact q p H1 n1 e1 (by rw [h1]; unfold choicesF; rw [if_pos c]; rfl)
    · refine ite_f (decide_eq_false fun z => c (V.int.inj z)) ?_
      walk_at "g"
      refine lrg_go (fun R r => ?_) m0 (by omega) fun p1 H1 n1 e1 h1 => ?_
      · walk_at "g"
        refine gtf_go y1 T.cf_Service.cl T.cf_Service.n1 rfl ?_
        exact r
      walk_at "g"
      by_cases cf : 0 < f
      · refine ite_t (decide_eq_true cf) ?_
        walk_at "g"
        refine lst_go fun p2 H2 n2 e2 h2 => ?_
        refine add_lst (e2 _ _ h1) h2 (by rw [List.length_map, List.length_map, List.length_range]; have : 3000 ≤ sizeLine := by decide
                                          show m.size.toNat + 1 ≤ _; omega) fun p3 n3 => ?_
        refine q p3 _ (none_ex (e1.trans e2) n3) ((e1.trans e2).trans (Ex.new n3)) ?_
        rw [upd_same]
        unfold choicesF
        rw [if_neg c, if_pos cf, List.map_append]
        rfl
      · refine ite_f (decide_eq_false cf) ?_
        walk_at "g"
        refine lst_go fun p2 H2 n2 e2 h2 => ?_
        refine add_lst (e2 _ _ h1) h2 (by rw [List.length_map, List.length_map, List.length_range]; have : 3000 ≤ sizeLine := by decide
                                          show m.size.toNat + 0 ≤ _; omega) fun p3 n3 => ?_
        refine q p3 _ (none_ex (e1.trans e2) n3) ((e1.trans e2).trans (Ex.new n3)) ?_
        rw [upd_same]
        unfold choicesF
        rw [if_neg c, if_neg cf, List.map_append]
        rfl
/-! ### a tuple of states by its number -/
def ChsAt (H : Hp) (cs : List V) (chs : List (List Int)) : Prop := cs.length = chs.length ∧ ∀ (i : Nat) (ms : List Int), chs[i]? = some ms → ∃ p : Addr, cs[i]? = some (.ref p) ∧ H p = some (.lst (ms.map V.int))
theorem ChsAt.ex {H H' : Hp} {cs : List V} {chs : List (List Int)} (e : Ex H H') (h : ChsAt H cs chs) : ChsAt H' cs chs := ⟨h.1, fun i ms hi => (h.2 i ms hi).elim fun p z => ⟨p, z.1, e _ _ z.2⟩⟩
theorem ChsAt.get {H : Hp} {cs : List V} {chs : List (List Int)} {i : Nat} {v : V} (h : ChsAt H cs chs) (hv : cs[i]? = some v) : ∃ ms p, chs[i]? = some ms ∧ v = .ref p ∧ H p = some (.lst (ms.map V.int)) := by
  have il : i < chs.length := by rw [← h.1]; exact (List.getElem?_eq_some_iff.mp hv).1
  have hi : chs[i]? = some chs[i] := List.getElem?_eq_getElem il
  obtain ⟨p, a, b⟩ := h.2 i _ hi
  rw [hv] at a
  cases a
  exact ⟨_, p, hi, rfl, b⟩
theorem lco_zl {σ : L2.St} {H : Hp} {Q : VK} {a b : Addr} {xs ys : List V} {te : TE} {tt : TT} {g : TG} {vs : List Nat} (Pv : Nat → List V → Hp → Prop) (S : Stays Pv) {tn : TA} (hv : ∀ R : List V → Hp → Prop, R [.ref a, .ref b] H → tn σ H R) (hx : SqL K H a xs) (hy : SqL K H b ys) (hl : xs.length = ys.length) (hz : xs.length ≤ 1000000) (h0 : Pv 0 [] H)
    (step : ∀ i x y TT acc Ha, xs[i]? = some x → ys[i]? = some y → acc.length = i → Ex H Ha → Pv i acc Ha → Ha TT = none → ∀ (R : VK) (R2 : Hp → Prop), (∀ z He, Ex Ha He → Pv (i + 1) (acc ++ [z]) He → R z He) →
      g (.ref TT) (wipe σ vs) (upd Ha TT (.tup [x, y])) fun σ2 Hc => wipe σ2 vs = wipe σ vs ∧ tt σ2 Hc fun b Hd => if b = true then te σ2 Hd R else R2 Hd)
    (k : ∀ D acc H1, H D = none → acc.length = xs.length → Ex H H1 → H1 D = some (.lst acc) → Pv xs.length acc H1 → Q (.ref D) H1) : tLc (RZ.iZipA K tn) g tt te vs σ H Q :=
  hv _ ⟨a, b, xs, ys, rfl, .inl ⟨hx, hy, fun D hD => lco (n := xs.length) (walk_zip (K := K) (a := a) (b := b) (xs := xs) (ys := ys) (by omega)) hz hD (fun _ e => ⟨ex_l e hx, ex_l e hy⟩) Pv S.pex S.pch h0 (fun i x acc Ha Hb hi ha e1 hp hyy => by
    obtain ⟨TT, u, v, rfl, h2, rfl, h4, h5⟩ := hyy
    exact step i u v TT acc Ha h4 h5 ha e1 hp h2) fun acc H1 ha e h p => k D acc H1 hD ha e h p⟩⟩
def sp_tupleAt (T : Tp K mg) : Sp := fun vs H Q _ => ∃ (x dx pc ps : Addr) (fs : List (Str × V)) (cs : List V) (chs : List (List Int)) (ss : List Int) (i : Int), vs = [.ref x, .int i] ∧ H x = some (.ins T.C_Lineups dx fs) ∧ fs.lookup ("choices" : Str) = some (V.ref pc) ∧ fs.lookup ("strides" : Str) = some (V.ref ps) ∧
  H pc = some (.lst cs) ∧ ChsAt H cs chs ∧ H ps = some (.lst (ss.map V.int)) ∧ ss.length = chs.length ∧ chs.length ≤ 1000 ∧ (∀ s ∈ ss, 1 ≤ s ∧ s ≤ 1000000) ∧ (∀ c ∈ chs, c ≠ []) ∧ 0 ≤ i ∧
  ∀ p H' (ms : List Int), H p = none → Ex H H' → TupF H' p (ms.map V.int) → Q (.ref p) H'
theorem ok_tupleAt (T : Tp K mg) : FnOk P w K mg base CX0 1 T.a_Lineups_tuple_at T.d_Lineups_tuple_at ["self", "number"] (sp_tupleAt T) := by
  refine T.f_Lineups_tuple_at.ok sc_Lineups_tuple_at (fun vs H Q E h => ?_) (fun cdv A outer s H vs Q E hr h => ?_)
  · obtain ⟨x, dx, pc, ps, fs, cs, chs, ss, i, rfl, _⟩ := h
    rfl
  · obtain ⟨x, dx, pc, ps, fs, cs, chs, ss, i, rfl, hx, f1, f2, hc, hch, hs, sl, cl, s1, cne, i0, q⟩ := h
    refine ⟨_, (pss_one (ps_ret (pe_callTy c_tupleF (by rfl) T.n_tuple (by rfl) (pa_cons (pe_lc (own := [("states", 2), ("stride", 3)]) (g := gTup K 2 (gCons (gName 2) (gCons (gName 3) gNil))) (tt := tYes) rfl sc_Lineups_tuple_at.nd (RZ.pi_zipA (by rfl) T.n_zip (pa_cons (pe_fld (pv 0) rfl) (pa_cons (pe_fld (pv 0) rfl) pa_nil))) (blkOk_by (N := N_Lineups_tuple_at) (sc := defScope s_Lineups_tuple_at) (by decide +kernel)) (fun _ _ _ _ _ => (pg_tup (by rfl) (pgs_cons (pg_name (i := 2) sc_Lineups_tuple_at.nd rfl (.inl rfl)) (pgs_cons (pg_name (i := 3) sc_Lineups_tuple_at.nd rfl (.inl rfl)) pgs_nil)))) (fun _ _ _ _ _ => pts_nil) (fun _ _ _ _ _ => (pe_ix (ix_seqK (K := K)) (pv 2) (pe_op op_mod (pe_op op_fdiv (pv 1) (pv 3)) (pe_callB (c_lenK (K := K)) (by rfl) T.n_len (by rfl) (pa_cons (pv 2) pa_nil))) (fun _ _ => rfl)))) pa_nil)))), ?_⟩
    walk_at "g"
    refine lco_zl (a := pc) (b := ps) (xs := cs) (ys := ss.map V.int) (fun j acc _ => acc.length = j ∧ ∃ ms : List Int, acc = ms.map V.int) ⟨fun _ _ _ _ _ h => h, fun _ _ _ _ _ _ _ _ h => h⟩ (fun R r => ?_) (.inl (.inl hc)) (.inl (.inl hs)) (by rw [List.length_map, hch.1, sl]) (by rw [hch.1]; omega) ⟨rfl, [], rfl⟩ ?_ ?_
    · walk_at "g"
      refine gtf_go hx T.cl_Lineups T.na_Lineups_choices f1 ?_
      walk_at "g"
      refine gtf_go hx T.cl_Lineups T.na_Lineups_strides f2 ?_
      walk_at "g"
      exact r
    · rintro j c st TT acc Ha hcj hsj ha e1 ⟨al, ms, rfl⟩ nT R R2 r
      refine gtup2 upd_same (gnames2 ⟨rfl, yes_q (ite_t rfl ?_)⟩)
      obtain ⟨cm, p, hcm, rfl, hp⟩ := hch.get hcj
      rw [List.getElem?_map] at hsj
      obtain ⟨sv, hsv, rfl⟩ := Option.map_eq_some_iff.mp hsj
      have sv1 := s1 sv (List.mem_of_getElem? hsv)
      have e2 : Ex Ha (upd Ha TT (.tup [.ref p, .int sv])) := Ex.new nT
      have hp2 := e2 _ _ (e1 _ _ hp)
      have cm0 := cne cm (List.mem_of_getElem? hcm)
      walk_at "g"
      refine r_I (show CDiv i sv from ⟨by omega, by omega⟩) ?_
      walk_at "g"
      refine len_l (.inl (.inl hp2)) ?_
      walk_at "g"
      have cl0 : 0 < cm.length := List.length_pos_iff.mpr cm0
      refine ⟨_, _, rfl, rfl, show (0 : Int) < _ by rw [List.length_map]; omega, ?_⟩
      obtain ⟨k, hk⟩ : ∃ k : Nat, i / sv % ((cm.map V.int).length : Int) = (k : Int) := ⟨(i / sv % ((cm.map V.int).length : Int)).toNat, by
        have := Int.emod_nonneg (i / sv) (b := ((cm.map V.int).length : Int)) (by rw [List.length_map]; omega)
        omega⟩
      have kl : k < cm.length := by
        have := Int.emod_lt_of_pos (i / sv) (b := ((cm.map V.int).length : Int)) (by rw [List.length_map]; omega)
        rw [hk, List.length_map] at this
        omega
      show rIx _ _ (V.int (i / sv % ((cm.map V.int).length : Int))) _ _
      rw [hk]
      refine ix_l (.inl (.inl hp2)) (row_at kl) ?_
      refine r _ _ e2 ⟨by rw [List.length_append, al]; rfl, ms ++ [cm.getD k 0], by rw [List.map_append]; rfl⟩
    · rintro D acc H1 nD hal e1 h1 ⟨_, ms, rfl⟩
      walk_at "g"
      refine ⟨D, _, rfl, .inl (.inl h1), newf_go fun tp H2 n2 e2 t2 => ?_⟩
      exact q tp H2 ms (none_ex e1 n2) (e1.trans e2) t2
end

end K08

set_option Elab.async false
set_option linter.all false
set_option maxRecDepth 100000
set_option maxHeartbeats 2000000
namespace K08
open PySem PySem.Spec PyProof.Rows L2 Evl AE
local macro_rules | `(tactic| walk_at "c") => `(tactic| first | exact ⟨by decide, by decide⟩ | exact .inr ⟨by decide, by decide⟩ | exact .inl ⟨by decide, by decide⟩ | exact ⟨by decide, by decide, by decide⟩ | (show (0 : Int) < _; decide))
local macro_rules | `(tactic| walk_at "s") => `(tactic| first
  | (with_reducible refine r_var rfl ?_) | (with_reducible refine r_c ?_) | (with_reducible refine r_op ?_) | (with_reducible refine r_un ?_) | (with_reducible refine r_I0 ?_) | (with_reducible refine r_U ?_)
  | (with_reducible refine r_eq rfl ?_) | (with_reducible refine r_ne rfl ?_) | (with_reducible refine r_chain ?_) | (with_reducible refine r_test ?_) | (with_reducible refine r_tB ?_)
  | (with_reducible refine r_bl ?_) | (with_reducible refine r_and ?_) | (with_reducible refine r_or ?_) | (with_reducible refine r_not ?_) | (with_reducible refine r_nil ?_) | (with_reducible refine r_cons ?_)
  | (with_reducible refine r_tupK ?_) | (with_reducible refine r_lstK ?_) | (with_reducible refine r_cb ?_) | (with_reducible refine r_revL ?_) | (with_reducible refine r_ost ?_) | (with_reducible refine r_mkO ?_) | (with_reducible refine r_makeK ?_) | (with_reducible refine r_make ?_) | (with_reducible refine r_setdN ?_) | (with_reducible refine r_nget2 ?_) | (with_reducible refine r_nnew ?_) | (with_reducible refine r_call ?_) | (with_reducible refine r_seq ?_) | (with_reducible refine r_set ?_)
  | (with_reducible refine r_drop ?_) | (with_reducible refine r_ret ?_) | (with_reducible refine r_next ?_) | (with_reducible refine r_if ?_) | (with_reducible refine r_sl ?_) | (with_reducible refine r_nop ?_) | (with_reducible refine r_prt ?_) | (with_reducible refine r_some ?_)
  | (with_reducible refine add_int ?_) | (with_reducible refine int_i ?_) | (with_reducible refine r_forR1 ?_) | (with_reducible refine r_forR2 ?_) | (with_reducible refine r_meth ?_) | (with_reducible refine r_makeS ?_) | (with_reducible refine r_opS ?_) | (with_reducible refine r_makeRS ?_) | (with_reducible refine r_methH ?_) | (with_reducible refine r_callS ?_) | (with_reducible refine r_forL ?_) | (with_reducible refine r_andV ?_) | (with_reducible refine r_orV ?_) | (with_reducible refine r_notV ?_) | (with_reducible refine r_ifE ?_) | (with_reducible refine r_lcL ?_) | (with_reducible refine r_fld ?_) | (with_reducible refine r_get ?_) | (with_reducible refine r_din ?_) | (with_reducible refine r_dget2 ?_) | ((with_reducible refine r_I ?_ ?_); (walk_at "c")))
local macro_rules | `(tactic| walk_at "g") => `(tactic| repeat walk_at "s")
section
variable {P : Program} {w : World} {K : PySem.W.Frag} {mg : Str → Option Value} {base : Heap}
theorem lcoD {σ : L2.St} {H : Hp} {J : It} {n : Nat} {G : Hp → Prop} {Y : Nat → Hp → V → Hp → Prop} {vs : List Nat} {g : TG} {tt : TT} {te : TE} (wk : Walk J n G Y) (hz : n ≤ 1000000) {D : Addr} (hD : H D = none) (hG : ∀ H', Ex H H' → G H') (Pv : Nat → List V → Hp → Prop)
    (pex : ∀ i acc Ha Hb, Ex Ha Hb → Pv i acc Ha → Pv i acc Hb) (pch : ∀ i acc l Ha Hb, Ha D = some (.lst l) → Ch D Ha Hb → Pv i acc Ha → Pv i acc Hb) (h0 : Pv 0 [] H)
    (step : ∀ i x acc Ha Hb, i < n → acc.length = i → Ex H Ha → Ha D = some (.lst acc) → Pv i acc Ha → Y i Ha x Hb → ∀ (R : VK) (R2 : Hp → Prop), (∀ y He, Ex Ha He → Pv (i + 1) (acc ++ [y]) He → R y He) →
      g x (wipe σ vs) Hb fun σ2 Hc => wipe σ2 vs = wipe σ vs ∧ tt σ2 Hc fun b Hd => if b = true then te σ2 Hd R else R2 Hd)
    {Qd : Hp → Prop} (k : ∀ acc H1, acc.length = n → Ex H H1 → H1 D = some (.lst acc) → Pv n acc H1 → Qd H1) :
    ∃ W : Nat → Nat → Hp → Prop, (∃ m, W 0 m (upd H D (.lst []))) ∧ ∀ i m Ha, W i m Ha →
      (J.stop i Ha ∧ Qd Ha) ∨ (J.go i Ha ∧ ∃ Nx : Hp → Prop, (∀ Hb, Nx Hb → ∃ m', m' < m ∧ W (i + 1) m' Hb) ∧ ∀ x Hb, J.yld i Ha x Hb → g x (wipe σ vs) Hb fun σ2 Hc => wipe σ2 vs = wipe σ vs ∧ tt σ2 Hc fun b Hd =>
        if b = true then te σ2 Hd fun y He => ∃ acc, He D = some (.lst acc) ∧ acc.length < sizeLine ∧ Nx (upd He D (.lst (acc ++ [y]))) else Nx Hd) := by
  refine lc_it wk (fun m Ha => ∃ acc, acc.length = m ∧ Ex H Ha ∧ Ha D = some (.lst acc) ∧ Pv m acc Ha) ⟨[], rfl, Ex.new hD, upd_same, pex _ _ _ _ (Ex.new hD) h0⟩ (fun m Ha _ ⟨_, _, e, _⟩ => hG Ha e) ?_ fun Ha ⟨acc, ha, e, hd, hp⟩ => k acc Ha ha e hd hp
  rintro m x Ha Hb hm ⟨acc, ha, e1, hd, hp⟩ hy
  refine step m x acc Ha Hb hm ha e1 hd hp hy _ _ fun y He e2 p2 => ?_
  have hd2 := e2 _ _ hd
  exact ⟨acc, hd2, Nat.lt_of_le_of_lt (show acc.length ≤ 1000000 by omega) (by decide), acc ++ [y], by rw [List.length_append, ha]; rfl, ex_upd (e1.trans e2) hD, upd_same, pch _ _ _ _ _ hd2 ch_upd p2⟩
theorem lco_zD {σ : L2.St} {H : Hp} {Q : VK} {a b : Addr} {xs ys : List V} {te : TE} {tt : TT} {g : TG} {vs : List Nat} (Pv : Addr → Nat → List V → Hp → Prop) (pex : ∀ D i acc Ha Hb, Ex Ha Hb → Pv D i acc Ha → Pv D i acc Hb) (pch : ∀ D i acc l Ha Hb, Ha D = some (.lst l) → Ch D Ha Hb → Pv D i acc Ha → Pv D i acc Hb)
    {tn : TA} (hv : ∀ R : List V → Hp → Prop, R [.ref a, .ref b] H → tn σ H R) (hx : SqT K H a xs) (hy : SqT K H b ys) (hl : xs.length = ys.length) (hz : xs.length ≤ 1000000) (h0 : ∀ D, Pv D 0 [] H)
    (step : ∀ D i x y TT acc Ha, xs[i]? = some x → ys[i]? = some y → acc.length = i → Ex H Ha → Ha D = some (.lst acc) → Pv D i acc Ha → Ha TT = none → ∀ (R : VK) (R2 : Hp → Prop), (∀ z He, Ex Ha He → Pv D (i + 1) (acc ++ [z]) He → R z He) →
      g (.ref TT) (wipe σ vs) (upd Ha TT (.tup [x, y])) fun σ2 Hc => wipe σ2 vs = wipe σ vs ∧ tt σ2 Hc fun b Hd => if b = true then te σ2 Hd R else R2 Hd)
    (k : ∀ D acc H1, H D = none → acc.length = xs.length → Ex H H1 → H1 D = some (.lst acc) → Pv D xs.length acc H1 → Q (.ref D) H1) : tLc (RZ.iZipA K tn) g tt te vs σ H Q :=
  hv _ ⟨a, b, xs, ys, rfl, .inr ⟨hx, hy, fun D hD => lcoD (n := xs.length) (walk_zipT (K := K) (a := a) (b := b) (xs := xs) (ys := ys) (by omega)) hz hD (fun _ e => ⟨ex_t e hx, ex_t e hy⟩) (Pv D) (pex D) (pch D) (h0 D) (fun i x acc Ha Hb hi ha e1 hd hp hyy => by
    obtain ⟨TT, u, v, rfl, h2, rfl, h4, h5⟩ := hyy
    exact step D i u v TT acc Ha h4 h5 ha e1 hd hp h2) fun acc H1 ha e h p => k D acc H1 hD ha e h p⟩⟩
def prodC : List (List Int) → Int
  | [] => 1
  | c :: r => (c.length : Int) * prodC r
theorem prodC_snoc : ∀ (l : List (List Int)) (c : List Int), prodC (l ++ [c]) = prodC l * (c.length : Int)
  | [], c => by
    show (c.length : Int) * 1 = 1 * (c.length : Int)
    omega
  | d :: l, c => by
    show (d.length : Int) * prodC (l ++ [c]) = (d.length : Int) * prodC l * (c.length : Int)
    rw [prodC_snoc l c, Int.mul_assoc]
theorem prodC_pos : ∀ {l : List (List Int)}, (∀ c ∈ l, c ≠ []) → 1 ≤ prodC l
  | [], _ => Int.le_refl _
  | c :: l, h => by
    have ih := prodC_pos (l := l) fun x hx => h x (List.mem_cons_of_mem _ hx)
    have c1 : 1 ≤ (c.length : Int) := by
      have := List.length_pos_iff.mpr (h c (List.mem_cons_self ..))
      omega
    show 1 ≤ (c.length : Int) * prodC l
    exact Int.le_trans (by decide : (1 : Int) ≤ 1 * 1) (Int.mul_le_mul c1 ih (by decide) (by omega))
theorem prodC_le {l : List (List Int)} (h : ∀ c ∈ l, c ≠ []) : ∀ i : Nat, prodC (l.take i) ≤ prodC l := fun i => by
  have key : ∀ (a b : List (List Int)), (∀ c ∈ a, c ≠ []) → (∀ c ∈ b, c ≠ []) → prodC a ≤ prodC (a ++ b) := by
    intro a b ha hb
    induction a with
    | nil => exact prodC_pos hb
    | cons c a ih =>
      show (c.length : Int) * prodC a ≤ (c.length : Int) * prodC (a ++ b)
      exact Int.mul_le_mul_of_nonneg_left (ih fun x hx => ha x (List.mem_cons_of_mem _ hx)) (by omega)
  have := key (l.take i) (l.drop i) (fun c hc => h c (List.mem_of_mem_take hc)) (fun c hc => h c (List.mem_of_mem_drop hc))
  rwa [List.take_append_drop] at this
def chsF (ms : List Mach) (sts : List Int) (f : Int) : List (List Int) := (ms.zip sts).map fun p => choicesF p.1.size p.2 f
theorem choices_ne {n st f : Int} (h : 1 ≤ n) : choicesF n st f ≠ [] := by
  unfold choicesF
  split
  · exact fun z => nomatch z
  · intro z
    have := congrArg List.length z
    rw [List.length_append, List.length_map, List.length_range] at this
    have : n.toNat = 0 := by
      have h2 : ([] : List Int).length = 0 := rfl
      omega
    omega
def strF (ch : List (List Int)) (j : Nat) : List Int := (List.range j).map fun i => prodC (ch.take i)
theorem r_bm {K : PySem.W.Frag} {TT : String} {r : V → List V → Hp → VK → Prop} {to : TE} {t : TA} {σ : L2.St} {H : Hp} {Q : VK} (q : to σ H fun x H1 => tyV K TT x H1 ∧ t σ H1 fun xs H2 => r x xs H2 Q) : tBM K TT r to t σ H Q := q
def sp_lineups (T : Tp K mg) : Sp := fun vs H Q _ => ∃ (x y dx : Addr) (l : LotD) (f : Int), vs = [.ref x, .ref y, .int f] ∧ H x = some (.ins T.C_Lineups dx []) ∧ LotAt T H y l ∧ l.sts.length = l.ms.length ∧ l.ms.length ≤ 5 ∧ (∀ m ∈ l.ms, ValidM m) ∧ prodC (chsF l.ms l.sts f) ≤ 100000 ∧
  ∀ H', Ch x H H' → Q .non H'
theorem ok_lineups (T : Tp K mg) : FnOk P w K mg base CX0 2 T.a_Lineups___init__ T.d_Lineups___init__ ["self", "lot", "falls"] (sp_lineups T) := by
  have G_state_choices : FnOk P w K mg base CX0 1 T.a_state_choices T.d_state_choices ["service", "state", "falls"] (sp_choices T) := ok_choices T
  have G_tuple_at : FnOk P w K mg base CX0 1 T.a_Lineups_tuple_at T.d_Lineups_tuple_at ["self", "number"] (sp_tupleAt T) := ok_tupleAt T
  refine T.f_Lineups___init__.ok sc_Lineups___init__ (fun vs H Q E h => ?_) (fun cdv A outer s H vs Q E hr h => ?_)
  · obtain ⟨x, y, dx, l, f, rfl, _⟩ := h
    rfl
  · obtain ⟨x, y, dx, l, f, rfl, hx, hl, lse, l5, hV, hp, q⟩ := h
    have hu64 := hu64_of hr
    have cne : ∀ c ∈ chsF l.ms l.sts f, c ≠ [] := fun c hc => by
      unfold chsF at hc
      obtain ⟨p, hp, rfl⟩ := List.mem_map.mp hc
      exact choices_ne (hV p.1 (List.of_mem_zip hp).1).n1
    have cl : (chsF l.ms l.sts f).length = l.ms.length := by
      unfold chsF
      rw [List.length_map, List.length_zip]
      omega
    refine ⟨_, (pss_cons (ps_fld (pv 0) (pv 1) rfl)
  (pss_cons (ps_fld (pv 0) (pe_lc (own := [("service", 3), ("state", 4)]) (g := gTup K 2 (gCons (gName 3) (gCons (gName 4) gNil))) (tt := tYes) rfl sc_Lineups___init__.nd (RZ.pi_zipA (by rfl) T.n_zip (pa_cons (pe_fld (pv 1) rfl) (pa_cons (pe_fld (pv 1) rfl) pa_nil))) (blkOk_by (N := N_Lineups___init__) (sc := defScope s_Lineups___init__) (by decide +kernel)) (fun _ _ _ _ _ => (pg_tup (by rfl) (pgs_cons (pg_name (i := 3) sc_Lineups___init__.nd rfl (.inl rfl)) (pgs_cons (pg_name (i := 4) sc_Lineups___init__.nd rfl (.inl rfl)) pgs_nil)))) (fun _ _ _ _ _ => pts_nil) (fun _ _ _ _ _ => (pe_call G_state_choices (hr.mono (by decide)) (by rfl) T.g_state_choices T.f_state_choices.kp T.b_state_choices .nil pass0 (pa_cons (pv 3) (pa_cons (pv 4) (pa_cons (pv 2) pa_nil)))))) rfl)
  (pss_cons (ps_fld (pv 0) (pe_lst pa_nil) rfl)
  (pss_cons (ps_fld (pv 0) pe_int rfl)
  (pss_cons (ps_for PassesOwn.never rfl (pi_list (pe_fld (pv 0) rfl)) (pg_name (i := 5) sc_Lineups___init__.nd rfl (.inl rfl))
  (pss_cons (ps_expr (pe_bm PySem.F.plainAttrs_list PySem.F.slot_list_append PySem.F.type_list_append mt_append (pe_fld (pv 0) rfl) (pa_cons (pe_fld (pv 0) rfl) pa_nil)))
  (pss_one (ps_fld (pv 0) (pe_op op_mul (pe_fld (pv 0) rfl) (pe_callB c_len (by rfl) T.n_len (by rfl) (pa_cons (pv 5) pa_nil))) rfl))))
  (pss_cons (ps_fld (pv 0) (pe_lc (own := [("number", 6)]) (g := gName 6) (tt := tYes) rfl sc_Lineups___init__.nd (pi_range1 rfl T.n_range (pa_cons (pe_fld (pv 0) rfl) pa_nil)) (blkOk_by (N := N_Lineups___init__) (sc := defScope s_Lineups___init__) (by decide +kernel)) (fun _ _ _ _ _ => (pg_name (i := 6) sc_Lineups___init__.nd rfl (.inl rfl))) (fun _ _ _ _ _ => pts_nil) (fun _ _ _ _ _ => (pe_meth (pv 0) T.cl_Lineups T.me_Lineups_tuple_at G_tuple_at (hr.mono (by decide)) T.b_Lineups_tuple_at .nil pass0 (pa_cons (pv 6) pa_nil)))) rfl)
  (pss_cons (ps_set (i := 7) sc_Lineups___init__.nd rfl (.inr rfl) (pe_op opAdd (pe_countF (K := K) (pe_fld (pv 1) rfl) (pa_cons (pe_gi rfl T.k_AWAY) pa_nil)) (pv 2)))
  (pss_one (ps_fld (pv 0) (pe_dcNF (own := [("number", 6), ("states", 5)]) (g := gTup K 2 (gCons (gName 6) (gCons (gName 5) gNil))) hu64 rfl sc_Lineups___init__.nd (pi_enum (by rfl) T.n_enumerate (pa_cons (pe_fld (pv 0) rfl) pa_nil)) (blkOk_by (N := N_Lineups___init__) (sc := defScope s_Lineups___init__) (by decide +kernel)) (fun _ _ _ _ _ => (pg_tup (by rfl) (pgs_cons (pg_name (i := 6) sc_Lineups___init__.nd rfl (.inl rfl)) (pgs_cons (pg_name (i := 5) sc_Lineups___init__.nd rfl (.inl rfl)) pgs_nil)))) (fun _ _ _ _ _ => (pts_one (pt_cmpR op_le (pe_countF (K := K) (pv 5) (pa_cons (pe_gi rfl T.k_AWAY) pa_nil)) (pv 7) (nomark _)))) (fun _ _ _ _ _ => (pv 5)) (fun _ _ _ _ _ => (pv 6))) rfl))))))))), ?_⟩
    obtain ⟨dy, av, au, us, h1, h2, h3, h4⟩ := id hl
    have nyx : y ≠ x := fun z => by
      rw [z, hx] at h1
      injection Option.some.inj h1 with z1 z2 z3
      cases z3
    walk_at "g"
    refine stf_go hx T.cl_Lineups T.na_Lineups_lot (by show 0 < 1000; decide) fun H1 c1 (x1 : H1 x = some (.ins T.C_Lineups dx [("lot", .ref y)])) => ?_
    have y1 := c1 _ _ nyx h1
    have av1 : H1 av = some (.tup us) := c1 _ _ (ne_of h2 hx (by intro z; cases z)) h2
    have au1 : TupF H1 au (l.sts.map V.int) := h3.ch hx c1
    have m1 : MachsAt H1 T.C_Service us l.ms := h4.ch hx (show (0 : Nat) ≠ 6 by decide) c1
    walk_at "g"
    refine lco_zD (a := av) (b := au) (xs := us) (ys := l.sts.map V.int) (fun D i acc Ha => ∀ j ms, j < i → (chsF l.ms l.sts f)[j]? = some ms → ∃ p : Addr, acc[j]? = some (.ref p) ∧ p ≠ D ∧ Ha p = some (.lst (ms.map V.int)))
      (fun D i acc Ha Hb e h j ms hj hm => (h j ms hj hm).elim fun p z => ⟨p, z.1, z.2.1, e _ _ z.2.2⟩) (fun D i acc l0 Ha Hb hD c h j ms hj hm => (h j ms hj hm).elim fun p z => ⟨p, z.1, z.2.1, c _ _ z.2.1 z.2.2⟩) (fun R r => ?_) (.inl (.inl av1)) au1.sq (by rw [List.length_map, m1.1, lse]) (by rw [m1.1]; omega) (fun D j ms hj => absurd hj (by omega)) ?_ ?_
    · walk_at "g"
      refine gtf_go y1 T.cl_Lot T.na_Lot_services (v := .ref av) rfl ?_
      walk_at "g"
      refine gtf_go y1 T.cl_Lot T.na_Lot_states (v := .ref au) rfl ?_
      walk_at "g"
      exact r
    · intro D i u st TT acc Ha hu hst al e2 hD pv nT R R2 r
      obtain ⟨m, yy, hm, rfl, hm0⟩ := m1.at_ hu
      rw [List.getElem?_map] at hst
      obtain ⟨sv, hsv, rfl⟩ := Option.map_eq_some_iff.mp hst
      refine gtup2 upd_same (gnames2 ⟨rfl, yes_q (ite_t rfl ?_)⟩)
      have e3 : Ex Ha (upd Ha TT (.tup [.ref yy, .int sv])) := Ex.new nT
      have vm := hV m (List.mem_of_getElem? hm)
      walk_at "g"
      refine ⟨yy, m, sv, f, rfl, hm0.ex (e2.trans e3), by have := vm.n1; omega, vm.n2, fun p He np e4 h4' => r _ He (e3.trans e4) fun j ms hj hms => ?_⟩
      have hz : (chsF l.ms l.sts f)[i]? = some (choicesF m.size sv f) := by
        have hzz : (l.ms.zip l.sts)[i]? = some (m, sv) := List.getElem?_zip_eq_some.mpr ⟨hm, hsv⟩
        unfold chsF
        rw [List.getElem?_map, hzz]
        rfl
      by_cases c : j < i
      · obtain ⟨p0, a1, a2, a3⟩ := pv j ms c hms
        exact ⟨p0, by rw [List.getElem?_append_left (by omega)]; exact a1, a2, (e3.trans e4) _ _ a3⟩
      · obtain rfl : j = i := by omega
        rw [hz] at hms
        cases hms
        exact ⟨p, by rw [List.getElem?_append_right (by omega), al, Nat.sub_self]; rfl, (fun z => by rw [z, e3 _ _ hD] at np; cases np), h4'⟩
    intro D acc H2 nD al e2 hD pv
    have x2 := e2 _ _ x1
    have chs : ChsAt H2 acc (chsF l.ms l.sts f) := ⟨by rw [al, m1.1, cl], fun i ms hi => by
      obtain ⟨p, a1, _, a3⟩ := pv i ms (by rw [m1.1, ← cl]; exact (List.getElem?_eq_some_iff.mp hi).1) hi
      exact ⟨p, a1, a3⟩⟩
    generalize hch : chsF l.ms l.sts f = ch at chs hp cne cl
    walk_at "g"
    refine stf_go x2 T.cl_Lineups T.na_Lineups_choices (by show 1 < 1000; decide) fun H3 c3 (x3 : H3 x = some (.ins T.C_Lineups dx [("lot", .ref y), ("choices", .ref D)])) => ?_
    have lst3 : ∀ {p : Addr} {xs : List V}, H2 p = some (.lst xs) → H3 p = some (.lst xs) := fun hpp => c3 _ _ (ne_of hpp x2 (by intro z; cases z)) hpp
    have D3 := lst3 hD
    have chs3 : ChsAt H3 acc ch := ⟨chs.1, fun i ms hi => (chs.2 i ms hi).elim fun p z => ⟨p, z.1, lst3 z.2⟩⟩
    walk_at "g"
    refine lst_go fun ps H4 nps e4 hps => ?_
    walk_at "g"
    refine stf_go (e4 _ _ x3) T.cl_Lineups T.na_Lineups_strides (by show 2 < 1000; decide) fun H5 c5 (x5 : H5 x = some (.ins T.C_Lineups dx [("lot", .ref y), ("choices", .ref D), ("strides", .ref ps)])) => ?_
    walk_at "g"
    refine stf_go x5 T.cl_Lineups T.na_Lineups_total (by show 3 < 1000; decide) fun H6 c6 (x6 : H6 x = some (.ins T.C_Lineups dx [("lot", .ref y), ("choices", .ref D), ("strides", .ref ps), ("total", .int 1)])) => ?_
    have x4 := e4 _ _ x3
    have c46 : Ch x H4 H6 := Ch.trans c5 c6
    have lst6 : ∀ {p : Addr} {xs : List V}, H3 p = some (.lst xs) → H6 p = some (.lst xs) := fun hpp => c46 _ _ (ne_of (e4 _ _ hpp) x4 (by intro z; cases z)) (e4 _ _ hpp)
    have D6 := lst6 D3
    have ps6 : H6 ps = some (.lst []) := c46 _ _ (ne_of hps x4 (by intro z; cases z)) hps
    have chs6 : ChsAt H6 acc ch := ⟨chs3.1, fun i ms hi => (chs3.2 i ms hi).elim fun p z => ⟨p, z.1, lst6 z.2⟩⟩
    have Dps : D ≠ ps := ne_of_none D3 nps
    have cps : ∀ (i : Nat) (ms : List Int), ch[i]? = some ms → ∃ p : Addr, acc[i]? = some (.ref p) ∧ p ≠ ps ∧ H6 p = some (.lst (ms.map V.int)) := fun i ms hi => (chs3.2 i ms hi).elim fun p z => ⟨p, z.1, ne_of_none z.2 nps, lst6 z.2⟩
    walk_at "g"
    refine gtf_go x6 T.cl_Lineups T.na_Lineups_choices (v := .ref D) rfl ?_
    have nxD : D ≠ x := ne_of D6 x6 (by intro z; cases z)
    have nps_x : ps ≠ x := ne_of ps6 x6 (by intro z; cases z)
    refine ll_go (xs := acc) (.inl (.inl D6)) (fun j σ' H' => ∃ y5, σ' = [some (.ref x), some (.ref y), some (.int f), none, none, y5, none, none] ∧ (∀ a o, a ≠ x → a ≠ ps → H6 a = some o → H' a = some o) ∧
        H' x = some (.ins T.C_Lineups dx [("lot", .ref y), ("choices", .ref D), ("strides", .ref ps), ("total", .int (prodC (ch.take j)))]) ∧ H' ps = some (.lst ((strF ch j).map V.int)))
      ⟨_, rfl, (fun _ _ _ _ z => z), x6, ps6⟩ (fun j σ' H' _ z => by obtain ⟨_, _, k, _⟩ := z; exact .inl (.inl (k _ _ nxD Dps D6))) ?_ ?_
    · rintro j v σ' H' hv ⟨y5, rfl, k7, x7, s7⟩
      obtain ⟨cm, p, hcm, rfl, hp6⟩ := chs6.get hv
      have hpn : p ≠ ps ∧ H6 p = some (.lst (cm.map V.int)) := by
        obtain ⟨p', a1, a2, a3⟩ := cps j cm hcm
        rw [hv] at a1
        cases a1
        exact ⟨a2, a3⟩
      have hp7 := k7 _ _ (ne_of hp6 x6 (by intro z; cases z)) hpn.1 hp6
      have jl : j < ch.length := (List.getElem?_eq_some_iff.mp hcm).1
      have pt : prodC (ch.take j) ≤ 100000 := Int.le_trans (prodC_le cne j) hp
      have p1 : 1 ≤ prodC (ch.take j) := prodC_pos fun c hc => cne c (List.mem_of_mem_take hc)
      refine gname1 ?_
      refine r_seq (r_drop (r_bm ?_))
      walk_at "g"
      refine gtf_go x7 T.cl_Lineups T.na_Lineups_strides (v := .ref ps) rfl ⟨.inl ⟨rfl, _, .inl (.inl s7)⟩, ?_⟩
      walk_at "g"
      refine gtf_go x7 T.cl_Lineups T.na_Lineups_total (v := .int (prodC (ch.take j))) rfl ?_
      walk_at "g"
      refine app_l s7 (sz_lt (by unfold strF; rw [List.length_map, List.length_map, List.length_range]; omega)) ?_
      have x8 : (upd H' ps (.lst ((strF ch j).map V.int ++ [.int (prodC (ch.take j))]))) x = some (.ins T.C_Lineups dx [("lot", .ref y), ("choices", .ref D), ("strides", .ref ps), ("total", .int (prodC (ch.take j)))]) := by rw [upd_ne (Ne.symm nps_x)]; exact x7
      have p8 : (upd H' ps (.lst ((strF ch j).map V.int ++ [.int (prodC (ch.take j))]))) p = some (.lst (cm.map V.int)) := by rw [upd_ne hpn.1]; exact hp7
      walk_at "g"
      refine gtf_go x8 T.cl_Lineups T.na_Lineups_total (v := .int (prodC (ch.take j))) rfl ?_
      walk_at "g"
      refine len_l (.inl (.inl p8)) ?_
      refine r_I (.inl ⟨by omega, by omega⟩) ?_
      walk_at "g"
      refine stf_go x8 T.cl_Lineups T.na_Lineups_total (by show 4 < 1000; decide) fun H9 c9 (x9 : H9 x = some (.ins T.C_Lineups dx [("lot", .ref y), ("choices", .ref D), ("strides", .ref ps), ("total", .int (prodC (ch.take j) * ((cm.map V.int).length : Nat)))])) => ?_
      refine ⟨_, rfl, fun a o n1 n2 h => c9 _ _ n1 (by rw [upd_ne n2]; exact k7 a o n1 n2 h), ?_, ?_⟩
      · rw [x9, List.length_map, List.take_add_one, hcm]
        show some (HO.ins T.C_Lineups dx [("lot", .ref y), ("choices", .ref D), ("strides", .ref ps), ("total", .int (prodC (ch.take j) * (cm.length : Int)))]) = some (HO.ins T.C_Lineups dx [("lot", .ref y), ("choices", .ref D), ("strides", .ref ps), ("total", .int (prodC (ch.take j ++ [cm])))])
        rw [prodC_snoc]
      · rw [c9 ps _ nps_x upd_same]
        unfold strF
        rw [List.range_succ, List.map_append, List.map_append]
        rfl
    rintro σ' H7 ⟨y5, rfl, k7, x7, s7⟩
    rw [chs6.1, List.take_length] at x7
    rw [chs6.1] at s7
    have D7 := k7 _ _ nxD Dps D6
    have chs7 : ChsAt H7 acc ch := ⟨chs6.1, fun i ms hi => by
      obtain ⟨p, a1, a2, a3⟩ := cps i ms hi
      exact ⟨p, a1, k7 _ _ (ne_of a3 x6 (by intro z; cases z)) a2 a3⟩⟩
    have pp1 : 1 ≤ prodC ch := prodC_pos cne
    have ch7 : Ch x H H7 := fun a o n h => by
      have h6 := c46 _ _ n (e4 _ _ (c3 _ _ n (e2 _ _ (c1 _ _ n h))))
      refine k7 a o n (fun z => ?_) h6
      have h3 := c3 _ _ n (e2 _ _ (c1 _ _ n h))
      rw [z, nps] at h3
      cases h3
    walk_at "g"
    have strd : ∀ s ∈ strF ch ch.length, 1 ≤ s ∧ s ≤ 1000000 := fun s hs => by
      unfold strF at hs
      obtain ⟨i, _, rfl⟩ := List.mem_map.mp hs
      have a := prodC_pos (l := ch.take i) fun c hc => cne c (List.mem_of_mem_take hc)
      have b := prodC_le cne i
      exact ⟨a, by omega⟩
    refine lco_r (m := prodC ch) (fun i acc Ha => ∀ v ∈ acc, ∃ (p : Addr) (ms : List Int), v = .ref p ∧ TupF Ha p (ms.map V.int))
      ⟨fun _ _ _ _ e h v hv => (h v hv).elim fun p z => z.elim fun ms z => ⟨p, ms, z.1, z.2.ex e⟩, fun _ _ DD _ _ _ hD c h v hv => (h v hv).elim fun p z => z.elim fun ms z => ⟨p, ms, z.1, z.2.elim fun o w => ⟨o, w.1, w.2.1, c _ _ (ne_of w.2.2 hD (by intro k; cases k)) w.2.2⟩⟩⟩
      (fun R r => ?_) ⟨by omega, by omega⟩ (fun _ h => nomatch h) ?_ ?_
    · walk_at "g"
      refine gtf_go x7 T.cl_Lineups T.na_Lineups_total (v := .int (prodC ch)) rfl ?_
      walk_at "g"
      exact r
    · intro i acc2 Ha hi al2 ea pa R R2 r
      refine gname1 ⟨rfl, yes_q (ite_t rfl ?_)⟩
      walk_at "g"
      refine ⟨x, dx, _, rfl, ea _ _ x7, rfl, ?_⟩
      walk_at "g"
      refine ⟨x, dx, D, ps, _, acc, ch, strF ch ch.length, (i : Int), rfl, ea _ _ x7, rfl, rfl, ea _ _ D7, chs7.ex ea, ea _ _ s7, by unfold strF; rw [List.length_map, List.length_range], by omega, strd, cne, by omega, fun p He ms np ee tf => r _ He ee fun v hv => ?_⟩
      rcases List.mem_append.mp hv with hv | hv
      · obtain ⟨p0, ms0, a1, a2⟩ := pa v hv
        exact ⟨p0, ms0, a1, a2.ex ee⟩
      · exact ⟨p, ms, List.mem_singleton.mp hv, tf⟩
    intro E8 tups H8 n8 tl e8 h8 tall
    walk_at "g"
    have x8 := e8 _ _ x7
    refine stf_go x8 T.cl_Lineups T.na_Lineups_tuples (by show 4 < 1000; decide) fun H9 c9 x9 => ?_
    have tups9 : ∀ v ∈ tups, ∃ (p : Addr) (ms : List Int), v = .ref p ∧ TupF H9 p (ms.map V.int) := fun v hv => (tall v hv).elim fun p z => z.elim fun ms z => ⟨p, ms, z.1, z.2.ch x8 c9⟩
    have h9 : H9 E8 = some (.lst tups) := c9 _ _ (ne_of h8 x8 (by intro z; cases z)) h8
    have c19 : Ch x H H9 := Ch.trans (Ch.trans ch7 (ch_ex e8)) c9
    have y9 := c19 _ _ nyx h1
    have au9 : TupF H9 au (l.sts.map V.int) := h3.ch hx c19
    walk_at "g"
    refine countF_go (k := -1) (fun R r => ?_) au9 (fun R r => ?_) ?_
    · walk_at "g"
      refine gtf_go y9 T.cl_Lot T.na_Lot_states (v := .ref au) rfl ?_
      exact r
    · walk_at "g"
      exact r
    walk_at "g"
    have lt : tups.length = (prodC ch).toNat := tl
    refine dcn_enumF (xs := tups) (fun R r => ?_) (.inl (.inl h9)) (fun N i Ha => Ex H9 Ha ∧ H9 N = none ∧ ∃ kvs, Ha N = some (dN w N kvs) ∧ KeysOkF Ha kvs ∧ kvs.length ≤ i) (fun N hN => ⟨Ex.new hN, hN, [], upd_same, (fun _ z => nomatch z), Nat.le_refl _⟩) (fun N i Ha _ z => .inl (.inl (z.1 _ _ h9))) ?_ ?_
    · walk_at "g"
      refine gtf_go x9 T.cl_Lineups T.na_Lineups_tuples (v := .ref E8) rfl ?_
      walk_at "g"
      exact r
    · rintro N i z Ha TT hz ⟨eN, hN9, kvs, hN, ko, kl⟩ nT
      have il : i < tups.length := (List.getElem?_eq_some_iff.mp hz).1
      obtain ⟨zb, zm, rfl, ztf⟩ := tups9 z (List.mem_of_getElem? hz)
      refine gtup2 upd_same (gnames2 ⟨rfl, ?_⟩)
      have e5 : Ex Ha (upd Ha TT (.tup [.int (i : Int), .ref zb])) := Ex.new nT
      have hN5 := e5 _ _ hN
      have tf5 := ztf.ex (eN.trans e5)
      have ko5 := ko.tx (ex_txn e5) (txr_ex e5)
      have dep : (NK.tup (zm.map NK.int)).depth ≤ 8 := by
        unfold NK.depth
        have : NK.depths (zm.map NK.int) ≤ 0 := depths_le fun k hk => by
          obtain ⟨j, _, rfl⟩ := List.mem_map.mp hk
          exact Nat.le_refl _
        omega
      walk_at "g"
      refine countF_go (k := -1) (fun R r => ?_) tf5 (fun R r => ?_) ?_
      · walk_at "g"
        exact r
      · walk_at "g"
        exact r
      walk_at "g"
      refine ite_b (fun _ => ?_) (fun _ => ?_)
      · walk_at "g"
        have ki := KeyIs.ints tf5
        exact ⟨kvs, .tup (zm.map NK.int), zb, hN5, ko5, rfl, dep, ki, sz_lt (by omega), ex_upd (eN.trans e5) hN9, hN9, _, upd_same, (ko5.put dep ki).tx (txn_dn hN5) (txr_dn hN5), Nat.le_trans (length_putN _ _ _ _) (by omega)⟩
      · exact ⟨eN.trans e5, hN9, kvs, hN5, ko5, by omega⟩
    · rintro N Ha ⟨eN, hN9, kvs, hN, ko, kl⟩
      walk_at "g"
      refine stf_go (eN _ _ x9) T.cl_Lineups T.na_Lineups_numbers (by show 5 < 1000; decide) fun H10 c10 _ => ?_
      exact q H10 (Ch.trans c19 (Ch.trans (ch_ex eN) c10))
end

end K08

set_option Elab.async false
set_option linter.all false
set_option maxRecDepth 100000
set_option maxHeartbeats 2000000
namespace K08
open PySem PySem.Spec PyProof.Rows L2 Evl AE
local macro_rules | `(tactic| walk_at "c") => `(tactic| first | exact ⟨by decide, by decide⟩ | exact .inr ⟨by decide, by decide⟩ | exact .inl ⟨by decide, by decide⟩ | exact ⟨by decide, by decide, by decide⟩ | (show (0 : Int) < _; decide))
local macro_rules | `(tactic| walk_at "s") => `(tactic| first
  | (with_reducible refine r_var rfl ?_) | (with_reducible refine r_c ?_) | (with_reducible refine r_op ?_) | (with_reducible refine r_un ?_) | (with_reducible refine r_I0 ?_) | (with_reducible refine r_U ?_)
  | (with_reducible refine r_eq rfl ?_) | (with_reducible refine r_ne rfl ?_) | (with_reducible refine r_chain ?_) | (with_reducible refine r_test ?_) | (with_reducible refine r_tB ?_)
  | (with_reducible refine r_bl ?_) | (with_reducible refine r_and ?_) | (with_reducible refine r_or ?_) | (with_reducible refine r_not ?_) | (with_reducible refine r_nil ?_) | (with_reducible refine r_cons ?_)
  | (with_reducible refine r_tupK ?_) | (with_reducible refine r_lstK ?_) | (with_reducible refine r_cb ?_) | (with_reducible refine r_revL ?_) | (with_reducible refine r_ost ?_) | (with_reducible refine r_mkO ?_) | (with_reducible refine r_makeK ?_) | (with_reducible refine r_make ?_) | (with_reducible refine r_setdN ?_) | (with_reducible refine r_nget2 ?_) | (with_reducible refine r_nnew ?_) | (with_reducible refine r_call ?_) | (with_reducible refine r_seq ?_) | (with_reducible refine r_set ?_)
  | (with_reducible refine r_drop ?_) | (with_reducible refine r_ret ?_) | (with_reducible refine r_next ?_) | (with_reducible refine r_if ?_) | (with_reducible refine r_sl ?_) | (with_reducible refine r_nop ?_) | (with_reducible refine r_prt ?_) | (with_reducible refine r_some ?_)
  | (with_reducible refine add_int ?_) | (with_reducible refine int_i ?_) | (with_reducible refine r_forR1 ?_) | (with_reducible refine r_forR2 ?_) | (with_reducible refine r_meth ?_) | (with_reducible refine r_makeS ?_) | (with_reducible refine r_opS ?_) | (with_reducible refine r_makeRS ?_) | (with_reducible refine r_methH ?_) | (with_reducible refine r_callS ?_) | (with_reducible refine r_forL ?_) | (with_reducible refine r_andV ?_) | (with_reducible refine r_orV ?_) | (with_reducible refine r_notV ?_) | (with_reducible refine r_ifE ?_) | (with_reducible refine r_lcL ?_) | (with_reducible refine r_fld ?_) | (with_reducible refine r_get ?_) | (with_reducible refine r_din ?_) | (with_reducible refine r_dget2 ?_) | ((with_reducible refine r_I ?_ ?_); (walk_at "c")))
local macro_rules | `(tactic| walk_at "g") => `(tactic| repeat walk_at "s")
section
variable {P : Program} {w : World} {K : PySem.W.Frag} {mg : Str → Option Value} {base : Heap}
theorem for_tG {σ : L2.St} {H : Hp} {te : TE} {g : TG} {tz : TS} {D : Ends} {a : Addr} {xs : List V} (hv : ∀ R : VK, R (.ref a) H → te σ H R) (hx : SqT K H a xs) (Pv : Nat → L2.St → Hp → Prop) (hP : Pv 0 σ H) (hl : ∀ j σ' H', j ≤ xs.length → Pv j σ' H' → SqT K H' a xs)
    (hs : ∀ j x σ' H', xs[j]? = some x → Pv j σ' H' → g x σ' H' fun σ2 H2 => tz { D with nx := Pv (j + 1), ct := Pv (j + 1), bk := D.nx } σ2 H2)
    (hd : ∀ σ' H', Pv xs.length σ' H' → D.nx σ' H') : tFor (iTup K te) g tz D σ H :=
  hv _ ⟨a, rfl, ⟨xs, hx⟩, for_tup Pv hP hl hs hd⟩
/-! ### a game's size -/
def sizeL (e : Int) : Int → List Mach → Int
  | s, [] => s
  | s, m :: r => sizeL e (s * (m.size + e)) r
theorem sizeL_snoc (e : Int) : ∀ (l : List Mach) (s : Int) (m : Mach), sizeL e s (l ++ [m]) = sizeL e s l * (m.size + e)
  | [], _, _ => rfl
  | a :: l, s, m => sizeL_snoc e l (s * (a.size + e)) m
def powM (s b : Int) : Nat → Int
  | 0 => s
  | d + 1 => powM s b d * b
def mostF (rows : List StepD) (n : Int) (M : Int) : Prop := (∃ st : Nat, (st : Int) < n ∧ M = ((pairsL rows st).length : Int)) ∧ ∀ st : Nat, (st : Int) < n → ((pairsL rows st).length : Int) ≤ M
def sp_gsize (T : Tp K mg) : Sp := fun vs H Q _ => ∃ (x y : Addr) (m : Mach) (l : LotD) (d : Nat) (f : Int), vs = [.ref x, .ref y, .int d, .int f] ∧ MachAt H x T.C_Pattern m ∧ ValidM m ∧ LotAt T H y l ∧ l.ms.length ≤ 5 ∧ (∀ k ∈ l.ms, ValidM k) ∧ d ≤ 100 ∧
  ∀ (M : Int) H', mostF m.rows m.size M → Ex H H' → Q (.int (powM (sizeL (if 0 < f then 1 else 0) m.size l.ms) (M + 1) d)) H'
theorem ok_gsize (T : Tp K mg) : FnOk P w K mg base CX0 2 T.a_game_size T.d_game_size ["pattern", "lot", "ahead", "falls"] (sp_gsize T) := by
  have G_pairs_at : FnOk P w K mg base CX0 1 T.a_Machine_pairs_at T.d_Machine_pairs_at ["self", "state"] (sp_pairsAt K) := ok_pairsAt T
  refine T.f_game_size.ok sc_game_size (fun vs H Q E h => ?_) (fun cdv A outer s H vs Q E hr h => ?_)
  · obtain ⟨x, y, m, l, d, f, rfl, _⟩ := h
    rfl
  · obtain ⟨x, y, m, l, d, f, rfl, hm, vm, hl, l5, hV, d1, q⟩ := h
    refine ⟨_, (pss_cons (ps_set (i := 4) sc_game_size.nd rfl (.inl rfl) (pe_fld (pv 0) rfl))
  (pss_cons (ps_for PassesOwn.never rfl (pi_tup (pe_fld (pv 1) rfl)) (pg_name (i := 5) sc_game_size.nd rfl (.inl rfl))
  (pss_one (ps_set (i := 4) sc_game_size.nd rfl (.inl rfl) (pe_op op_mul (pv 4) (pe_op opAdd (pe_fld (pv 5) rfl) (pe_ifExp (pt_cmpR op_gt (pv 3) pe_int (nomark _)) pe_int pe_int))))))
  (pss_cons (ps_set (i := 6) sc_game_size.nd rfl (.inl rfl) (pe_callB (cr_max rfl) (by rfl) T.n_max (by rfl) (pa_cons (pe_lc (own := [("state", 7)]) (g := gName 7) (tt := tYes) rfl sc_game_size.nd (pi_range1 rfl T.n_range (pa_cons (pe_fld (pv 0) rfl) pa_nil)) (blkOk_by (N := N_game_size) (sc := defScope s_game_size) (by decide +kernel)) (fun _ _ _ _ _ => (pg_name (i := 7) sc_game_size.nd rfl (.inl rfl))) (fun _ _ _ _ _ => pts_nil) (fun _ _ _ _ _ => (pe_callB (c_lenK (K := K)) (by rfl) T.n_len (by rfl) (pa_cons (pe_meth (pv 0) T.cf_Pattern.cl T.me_Pattern_pairs_at G_pairs_at (hr.mono (by decide)) T.b_Machine_pairs_at .nil pass0 (pa_cons (pv 7) pa_nil)) pa_nil)))) pa_nil)))
  (pss_cons (ps_for PassesOwn.never rfl (pi_range1 rfl T.n_range (pa_cons (pv 2) pa_nil)) (pg_name (i := 8) sc_game_size.nd rfl (.inl rfl))
  (pss_one (ps_set (i := 4) sc_game_size.nd rfl (.inl rfl) (pe_op op_mul (pv 4) (pe_op opAdd (pv 6) pe_int)))))
  (pss_one (ps_ret (pv 4))))))), ?_⟩
    obtain ⟨dx, pm, ps, de, dp, ws, x1, _⟩ := id hm
    obtain ⟨dy, av, au, us, h1, h2, h3, h4⟩ := id hl
    walk_at "g"
    refine gtf_go x1 T.cf_Pattern.cl T.cf_Pattern.n1 rfl ?_
    walk_at "g"
    generalize he : (if 0 < f then (1 : Int) else 0) = e at q
    have e01 : 0 ≤ e ∧ e ≤ 1 := by rw [← he]; split <;> exact ⟨by decide, by decide⟩
    refine for_tG (a := av) (xs := us) (fun R r => ?_) (.inl (.inl h2)) (fun j σ' H' => ∃ y5, σ' = [some (.ref x), some (.ref y), some (.int d), some (.int f), some (.int (sizeL e m.size (l.ms.take j))), y5, none, none, none] ∧ Ex H H') ⟨_, rfl, Ex.refl _⟩ (fun j σ' H' _ z => by obtain ⟨_, _, k⟩ := z; exact .inl (.inl (k _ _ h2))) ?_ ?_
    · walk_at "g"
      refine gtf_go h1 T.cl_Lot T.na_Lot_services (v := .ref av) rfl ?_
      exact r
    · rintro j v σ' H' hv ⟨y5, rfl, e2⟩
      obtain ⟨k, yy, hk, rfl, hk0⟩ := h4.at_ hv
      obtain ⟨dk, a1, a2, a3, a4, a5, k1, _⟩ := id (hk0.ex e2)
      have vk := hV k (List.mem_of_getElem? hk)
      have k1' := vk.n1
      have k2' := vk.n2
      refine gname1 ?_
      walk_at "g"
      refine gtf_go k1 T.cf_Service.cl T.cf_Service.n1 rfl ?_
      walk_at "g"
      have snoc : sizeL e m.size (l.ms.take (j + 1)) = sizeL e m.size (l.ms.take j) * (k.size + e) := by
        rw [List.take_add_one, hk]
        exact sizeL_snoc e _ _ k
      by_cases cf : 0 < f
      · rw [if_pos cf] at he
        subst he
        refine ite_t (decide_eq_true cf) ?_
        walk_at "g"
        refine r_I (.inr ⟨by omega, by omega⟩) ?_
        exact ⟨_, by rw [snoc]; rfl, e2⟩
      · rw [if_neg cf] at he
        subst he
        refine ite_f (decide_eq_false cf) ?_
        walk_at "g"
        refine r_I (.inr ⟨by omega, by omega⟩) ?_
        exact ⟨_, by rw [snoc]; rfl, e2⟩
    rintro σ' H2 ⟨y5, rfl, e2⟩
    rw [h4.1, List.take_length]
    have hm2 := hm.ex e2
    have x2 := e2 _ _ x1
    have n1 := vm.n1
    have n2 := vm.n2
    walk_at "g"
    refine lco_r (m := m.size) (fun i acc _ => acc = (List.range i).map fun (st : Nat) => V.int ((pairsL m.rows st).length : Int)) ⟨fun _ _ _ _ _ h => h, fun _ _ _ _ _ _ _ _ h => h⟩ (fun R r => ?_) ⟨by omega, by omega⟩ rfl ?_ ?_
    · walk_at "g"
      refine gtf_go x2 T.cf_Pattern.cl T.cf_Pattern.n1 rfl ?_
      walk_at "g"
      exact r
    · intro i acc Ha hi al ea pa R R2 r
      refine gname1 ⟨rfl, yes_q (ite_t rfl ?_)⟩
      walk_at "g"
      refine ⟨x, dx, _, rfl, ea _ _ x2, rfl, ?_⟩
      walk_at "g"
      refine ⟨x, T.C_Pattern, m, (i : Int), rfl, T.cf_Pattern, hm2.ex ea, fun pp us' He ee tp tps => ?_⟩
      walk_at "g"
      refine len_t (.inl (.inl tp)) ?_
      refine r _ He ee ?_
      have lu : us'.length = (pairsL m.rows i).length := by
        rw [tps.len]
        unfold pairsL
        rw [List.length_map, List.length_map]
      rw [pa, List.range_succ, List.map_append, lu]
      rfl
    intro D acc H3 nD al e3 hD pa
    have pa : acc = ((List.range m.size.toNat).map fun (st : Nat) => ((pairsL m.rows st).length : Int)).map V.int := by
      rw [pa, List.map_map]
      rfl
    subst pa
    walk_at "g"
    refine ⟨D, _, rfl, SqL.of hD, by rw [List.length_map, List.length_range]; omega, fun M hM1 hM2 => ?_⟩
    walk_at "g"
    have most : mostF m.rows m.size M := by
      obtain ⟨st, hst, rfl⟩ := List.mem_map.mp hM1
      have hst := List.mem_range.mp hst
      exact ⟨⟨st, by omega, rfl⟩, fun s2 h2 => hM2 _ (List.mem_map.mpr ⟨s2, List.mem_range.mpr (by omega), rfl⟩)⟩
    have M0 : 0 ≤ M ∧ M ≤ 100000 := by
      obtain ⟨st, _, eM⟩ := most.1
      have a : (pairsL m.rows st).length ≤ m.rows.length := by
        unfold pairsL pairsF
        rw [List.length_map]
        exact List.length_filter_le _ _
      have b := vm.rl
      rw [eM]
      omega
    refine lr1_go (fun i σ' H' => ∃ y8, σ' = [some (.ref x), some (.ref y), some (.int d), some (.int f), some (.int (powM (sizeL e m.size l.ms) (M + 1) i)), y5, some (.int M), none, y8] ∧ H' = H3) ⟨_, rfl, rfl⟩ ⟨by omega, by omega⟩ ?_ ?_
    · rintro i σ' H' hi ⟨y8, rfl, rfl⟩
      walk_at "g"
      refine r_I (.inr ⟨by omega, by omega⟩) ?_
      exact ⟨_, rfl, rfl⟩
    · rintro σ' H' ⟨y8, rfl, rfl⟩
      walk_at "g"
      exact q M _ most (e2.trans e3)
end

end K08

set_option Elab.async false
set_option linter.all false
set_option maxRecDepth 100000
set_option maxHeartbeats 2000000
namespace K08
open PySem PySem.Spec PyProof.Rows L2 Evl AE
local macro_rules | `(tactic| walk_at "c") => `(tactic| first | exact ⟨by decide, by decide⟩ | exact .inr ⟨by decide, by decide⟩ | exact .inl ⟨by decide, by decide⟩ | exact ⟨by decide, by decide, by decide⟩ | (show (0 : Int) < _; decide))
local macro_rules | `(tactic| walk_at "s") => `(tactic| first
  | (with_reducible refine r_var rfl ?_) | (with_reducible refine r_c ?_) | (with_reducible refine r_op ?_) | (with_reducible refine r_un ?_) | (with_reducible refine r_I0 ?_) | (with_reducible refine r_U ?_)
  | (with_reducible refine r_eq rfl ?_) | (with_reducible refine r_ne rfl ?_) | (with_reducible refine r_chain ?_) | (with_reducible refine r_test ?_) | (with_reducible refine r_tB ?_)
  | (with_reducible refine r_bl ?_) | (with_reducible refine r_and ?_) | (with_reducible refine r_or ?_) | (with_reducible refine r_not ?_) | (with_reducible refine r_nil ?_) | (with_reducible refine r_cons ?_)
  | (with_reducible refine r_tupK ?_) | (with_reducible refine r_lstK ?_) | (with_reducible refine r_cb ?_) | (with_reducible refine r_revL ?_) | (with_reducible refine r_ost ?_) | (with_reducible refine r_mkO ?_) | (with_reducible refine r_makeK ?_) | (with_reducible refine r_make ?_) | (with_reducible refine r_setdN ?_) | (with_reducible refine r_nget2 ?_) | (with_reducible refine r_nnew ?_) | (with_reducible refine r_call ?_) | (with_reducible refine r_seq ?_) | (with_reducible refine r_set ?_)
  | (with_reducible refine r_drop ?_) | (with_reducible refine r_ret ?_) | (with_reducible refine r_next ?_) | (with_reducible refine r_if ?_) | (with_reducible refine r_sl ?_) | (with_reducible refine r_nop ?_) | (with_reducible refine r_prt ?_) | (with_reducible refine r_some ?_)
  | (with_reducible refine add_int ?_) | (with_reducible refine int_i ?_) | (with_reducible refine r_forR1 ?_) | (with_reducible refine r_forR2 ?_) | (with_reducible refine r_meth ?_) | (with_reducible refine r_makeS ?_) | (with_reducible refine r_opS ?_) | (with_reducible refine r_makeRS ?_) | (with_reducible refine r_methH ?_) | (with_reducible refine r_callS ?_) | (with_reducible refine r_forL ?_) | (with_reducible refine r_andV ?_) | (with_reducible refine r_orV ?_) | (with_reducible refine r_notV ?_) | (with_reducible refine r_ifE ?_) | (with_reducible refine r_lcL ?_) | (with_reducible refine r_fld ?_) | (with_reducible refine r_get ?_) | (with_reducible refine r_din ?_) | (with_reducible refine r_dget2 ?_) | ((with_reducible refine r_I ?_ ?_); (walk_at "c")))
local macro_rules | `(tactic| walk_at "g") => `(tactic| repeat walk_at "s")
section
variable {P : Program} {w : World} {K : PySem.W.Frag} {mg : Str → Option Value} {base : Heap}
theorem int_len18 {i : Int} (h : i.natAbs < 10 ^ 18) : (Str.ofString (toString i)).length ≤ 19 := by
  have := int_text_length_le10 (k := 18) (by decide) h
  rw [PySem.ofString_length]
  exact this
theorem int_log18 {i : Int} (h : i.natAbs < 10 ^ 18) : i.natAbs.log2 < 1920 := by
  by_cases h0 : i.natAbs = 0
  · rw [h0]
    decide
  · have := (Nat.log2_lt h0 (k := 70)).mpr (by omega)
    omega
theorem js_zz {σ : L2.St} {H : Hp} {Q : Str → Hp → Prop} {ts : List TE} {acc : Str} {n : Nat} {i : Nat} {e : Int} (h : σ[i]? = some (some (.int e))) (ha : acc.length ≤ n) (he : e.natAbs < 10 ^ 18) (hs : n + 19 ≤ 100000) (q : ∀ y : Str, (acc ++ y).length ≤ n + 19 → tJs ts (acc ++ y) σ H Q) : tJs (tFmt (tVar i) :: ts) acc σ H Q := by
  have l : (acc ++ Str.ofString (toString e)).length ≤ n + 19 := by
    rw [len_app]
    have := int_len18 he
    omega
  exact ⟨_, h, .inr ⟨e, rfl, int_log18 he, Str.ofString (toString e), rfl, Nat.le_trans l (sz_of hs), q _ l⟩⟩
def okTooLarge : List V → Hp → Prop := fun ws _ => ∃ (n : Int), ws = [.int n] ∧ n.natAbs < 10 ^ 18
theorem ok_TooLarge (T : Tp K mg) (SO : SupOk P T.file) : FnOk P w K mg base CX0 1 T.a_TooLarge___init__ T.d_TooLarge___init__ ["self", "size"] (sp_err T.C_TooLarge ["size"] okTooLarge) := by
  refine T.err_TooLarge.fn.ok (k := 0) sc_TooLarge___init__ SO T.err_TooLarge.oex rfl rfl rfl (fun L => ⟨_, rfl⟩) T.n_super T.hth T.err_TooLarge.al T.err_TooLarge.ve T.err_TooLarge.mr (fun vs H Q E h => ?_) T.err_TooLarge.bd (fun A outer s H vs Q E hr h => ?_)
  · obtain ⟨a, ws, rfl, hl, _⟩ := h
    rw [List.length_cons, hl]
    rfl
  · obtain ⟨a, ws, rfl, hl, ha, ⟨e, rfl, le⟩, q⟩ := h
    refine ⟨_, _, a, _, rfl, (pe_joined (PJ.cons pe_str (PJ.cons (pe_fmt (pv 1)) PJ.nil))), (pss_one (ps_ost (pv 0) (pv 1))), ha, ?_⟩
    walk_at "g"
    refine js_c (n := 0) (m := 40) (Nat.le_refl _) (by decide +kernel) (by decide) fun l1 => ?_
    refine js_zz rfl l1 le (by decide) fun y l4 => ?_
    refine ⟨Nat.le_of_ble_eq_true rfl, ha, ?_⟩
    walk_at "g"
    refine ost_first ha T.err_TooLarge.oex (T.err_TooLarge.no _ (by simp)) fun d H1 nd k1 ha1 hd1 => ?_
    walk_at "g"
    exact q d H1 nd (fun b o hb hbo => k1 b o hb hbo) ha1 hd1
def okBadCount : List V → Hp → Prop := fun ws _ => ∃ (n : Int), ws = [.int n] ∧ n.natAbs < 10 ^ 18
theorem ok_BadCount (T : Tp K mg) (SO : SupOk P T.file) : FnOk P w K mg base CX0 1 T.a_BadCount___init__ T.d_BadCount___init__ ["self", "count"] (sp_err T.C_BadCount ["count"] okBadCount) := by
  refine T.err_BadCount.fn.ok (k := 0) sc_BadCount___init__ SO T.err_BadCount.oex rfl rfl rfl (fun L => ⟨_, rfl⟩) T.n_super T.hth T.err_BadCount.al T.err_BadCount.ve T.err_BadCount.mr (fun vs H Q E h => ?_) T.err_BadCount.bd (fun A outer s H vs Q E hr h => ?_)
  · obtain ⟨a, ws, rfl, hl, _⟩ := h
    rw [List.length_cons, hl]
    rfl
  · obtain ⟨a, ws, rfl, hl, ha, ⟨e, rfl, le⟩, q⟩ := h
    refine ⟨_, _, a, _, rfl, (pe_joined (PJ.cons pe_str (PJ.cons (pe_fmt (pv 1)) PJ.nil))), (pss_one (ps_ost (pv 0) (pv 1))), ha, ?_⟩
    walk_at "g"
    refine js_c (n := 0) (m := 40) (Nat.le_refl _) (by decide +kernel) (by decide) fun l1 => ?_
    refine js_zz rfl l1 le (by decide) fun y l4 => ?_
    refine ⟨Nat.le_of_ble_eq_true rfl, ha, ?_⟩
    walk_at "g"
    refine ost_first ha T.err_BadCount.oex (T.err_BadCount.no _ (by simp)) fun d H1 nd k1 ha1 hd1 => ?_
    walk_at "g"
    exact q d H1 nd (fun b o hb hbo => k1 b o hb hbo) ha1 hd1
def Rais (H : Hp) (C : Addr) (nm : Str) (v : V) (E : XK) : Prop := ∀ d H', Ex H H' → H' d = some (.xd [(nm, v)]) → E (.ref C) (some d) H'
theorem mk1 {C : Addr} {nm : Str} {v : V} {ok : List V → Hp → Prop} {H H1 : Hp} {E : XK} (e1 : Ex H H1) (hok : ∀ H2, ok [v] H2) (r : Rais H C nm v E) : MkOK C (sp_err C [nm] ok) [v] H1 E :=
  mko_go rfl (Nat.le_of_ble_eq_true rfl) (fun a H2 na e2 => hok H2) fun d H2 e2 nd hd => r d H2 (e1.trans e2) hd
theorem fok_ND {x qual : Str} {st : Stmt} {f : Addr} {fd : FuncData} {N ps : List Str} {k : Nat} {sp : Sp} {dvs : List V} {kws : List (Str × V)} (F : FunD K x qual (defArgs st) (defBody st) (defScope st) dvs kws f fd) (S : FnScope N ps (defScope st)) (len : ∀ vs H Q E, sp vs H Q E → vs.length = ps.length)
    (run : ∀ (cdv : Value) (A : Around) (outer : List Env) (s : Shared) (H : Hp) (vs : List V) (Q : VK) (E : XK), Room k (A.deeper (envOfC qual (defScope st) s.heap.objs.size f cdv)) → sp vs H Q E → ∃ t, PSs (cxOf (L2N.CX P w) P w K mg base N qual (defScope st) f cdv A outer s H E) (defBody st) t ∧ t { nx := fun _ H' => Q .non H', rt := Q } (L2.start N vs) H) :
    FnOk P w K mg base (L2N.CX P w) (k + 1) f fd ps sp := by
  obtain ⟨oc, od, dV, kV, doc, pm, an, cdv, ct, osl, rfl, lk, hcd, _, _⟩ := F.ex
  exact fn_of lk hcd S len fun A outer s H vs Q E hr want => run cdv A outer s H vs Q E hr want
/-! ### counts -/
def sp_cc (T : Tp K mg) : Sp := fun vs H Q E => ∃ c m : Int, vs = [.int c, .int m] ∧ c.natAbs < 10 ^ 18 ∧ (¬ (0 ≤ c ∧ c ≤ m) → Rais H T.C_BadCount "count" (.int c) E) ∧ (0 ≤ c → c ≤ m → Q .non H)
theorem ok_cc (T : Tp K mg) (SO : SupOk P T.file) : FnOk P w K mg base (L2N.CX P w) 3 T.a_check_count T.d_check_count ["count", "most"] (sp_cc T) := by
  have G_BadCount := ok_BadCount (w := w) (base := base) T SO
  refine fok_N T.f_check_count sc_check_count (fun vs H Q E h => ?_) (fun cdv A outer s H vs Q E hr h => ?_)
  · obtain ⟨c, m, rfl, _⟩ := h
    rfl
  · obtain ⟨c, m, rfl, cb, q1, q⟩ := h
    refine ⟨_, (pss_one (ps_if (PW.pt (pw_or (pt_cmpR op_lt (pv 0) pe_int (nomark _)) (pw_or1 (pt_cmpR op_gt (pv 0) (pv 1) (nomark _))))) (pss_one (L2N.ps_raise rfl (L2N.takes_of rfl rfl rfl rfl) (pmk_oexN (CX := CX0) T.err_BadCount.oex T.err_BadCount.ini T.err_BadCount.ti G_BadCount (hr.mono (by decide)) T.err_BadCount.binds .nil pass0 (by rfl) T.g_BadCount (pa_cons (pv 0) pa_nil)))) pss_nil)), ?_⟩
    walk_at "g"
    refine ite_b (fun hc => ?_) (fun hc => ?_)
    · have lt := of_decide_eq_true hc
      refine ite_t rfl ?_
      refine r_mkO ?_
      walk_at "g"
      exact mk1 (Ex.refl _) (fun H2 => ⟨_, rfl, cb⟩) (q1 fun z => by omega)
    · have ge := of_decide_eq_false hc
      walk_at "g"
      refine ite_b (fun hc => ?_) (fun hc => ?_)
      · have gt := of_decide_eq_true hc
        refine r_mkO ?_
        walk_at "g"
        exact mk1 (Ex.refl _) (fun H2 => ⟨_, rfl, cb⟩) (q1 fun z => by omega)
      · have le := of_decide_eq_false hc
        walk_at "g"
        exact q (by omega) (by omega)
end

end K08

set_option Elab.async false
set_option linter.all false
set_option maxRecDepth 100000
set_option maxHeartbeats 2000000
/-! C(e, .., k = v, ..) in a try, errors told of slots -/
namespace AE
open PySem PySem.Spec PyProof.Rows L2 Evl
section
variable {X : Cx} {CX : CXT} {k n : Nat} {f C : Addr} {fd : FuncData} {ps ks : List Str} {sp : Sp} {E : L2.St → XK} {x : Str} {p pos : Pos} {e : Expr} {es : List Expr} {kws : List Keyword} {t tk : TA} {g : List Value → List Value → List Value} {gV : List V → List V → List V}
def tMakeKS (C : Addr) (n m : Nat) (sp : Sp) (gV : List V → List V → List V) (E : L2.St → XK) (t tk : TA) : TE := fun σ H Q => t σ H fun vs H1 => tk σ H1 fun zs H2 => vs.length = n ∧ zs.length = m ∧ MkI C (fun x => gV (.ref x :: vs) zs) sp (E σ) H2 Q
theorem pe_makeKS (M : Mk X.K C f) (F : FnOk X.prog X.w X.K X.mg X.base CX k f fd ps sp) (room : Room (k + 1) X.A) (hg : Gl X x) (hm : X.mg x = some (.ref C)) (hb : KBn X.K fd ps (n + 1) ks g gV) (hx : ∀ σ, PassesAt CX X σ (E σ)) (ha : PA X (e :: es) t) (hkw : PK X kws tk)
    (hall : (backToKw pos (keywordEach kws X.env)).all (·.1.isSome) = true := by rfl) (hks : (backToKw pos (keywordEach kws X.env)).filterMap (·.1) = ks := by rfl) (hdb : (x == ("__debug__" : Str)) = false := by decide)
    (he : starEach (e :: es) X.env = (false, eval e X.env) :: starEach es X.env := by rfl) (hpl : ((backTo pos (starEach (e :: es) X.env)).any (·.1) || (backToKw pos (keywordEach kws X.env)).any (·.1.isNone)) = false := by rfl) :
    PE X (.Call (.Name x p) (e :: es) kws pos) (tMakeKS C n ks.length sp gV E t tk) := by
  refine ⟨fun pins s σ H Q I h => wpAny_Call_Name_kw (ld_glob I hg hm ?_ hdb)⟩
  refine PySem.W.callWith_KW (h₀ := X.base) I.ok.mod.kin M.kp hall (thn (ha.run pos pins s σ H _ I h) fun us s1 ⟨vs, H1, I1, r, q⟩ => ?_) hpl he
  refine thn (hkw.run pos pins s1 σ H1 _ I1 q) fun ws s2 ⟨zs, H2, I2, rz, l1, l2, q2⟩ => ⟨I2.kIn, ?_⟩
  rw [hks]
  have want := q2 (s2.heap.objs.size + 1) s2.heap.objs.size (I2.hok.fresh (Nat.le_succ _)) (I2.hok.fresh (Nat.le_refl _)) (Nat.ne_of_lt (Nat.lt_succ_self _))
  have J := Inv.made (C := C) I2
  have front : Vals (V.ref (s2.heap.objs.size + 1) :: vs) (Value.ref (s2.heap.objs.size + 1) :: us) := .cons rfl r
  have many : (Value.ref (s2.heap.objs.size + 1) :: us).length = n + 1 := by rw [List.length_cons, ← r.length, l1]
  refine wpAny_call (make_map (f := f) I2.kIn M.makes M.init (beq_iff_eq.mp M.fn) (codeAny_mono (F.run _ X.stack _ _ ⟨Value.ref (s2.heap.objs.size + 1) :: us, ks.zip ws⟩ (g (Value.ref (s2.heap.objs.size + 1) :: us) ws) _ _ (E σ) (room.make C us (ks.zip ws)) (J.env0.make C us (ks.zip ws))
    (hb.to _ (Value.ref (s2.heap.objs.size + 1) :: us) ws J.kIn many (rz.length.symm.trans l2)) (hb.rel front rz) want) fun r s' hq' => ?_))
  rcases r with er | fl
  · exact hx σ pins _ _ er s' J hq'
  · cases fl with
    | ret u =>
      obtain ⟨v, H', J3, rv, rfl, q3⟩ := J.after hq'
      exact ⟨rv, V.ref (s2.heap.objs.size + 1), H', J3, rfl, q3⟩
    | next => exact hq'.elim
    | brk => exact hq'.elim
    | cont => exact hq'.elim
theorem r_makeKS {m : Nat} {σ : L2.St} {H : Hp} {Q : VK} (q : t σ H fun vs H1 => tk σ H1 fun zs H2 => vs.length = n ∧ zs.length = m ∧ MkI C (fun x => gV (.ref x :: vs) zs) sp (E σ) H2 Q) : tMakeKS C n m sp gV E t tk σ H Q := q
end
end AE

set_option Elab.async false
set_option linter.all false
set_option maxRecDepth 100000
set_option maxHeartbeats 2000000
namespace K08
open PySem PySem.Spec PyProof.Rows L2 Evl AE
local macro_rules | `(tactic| walk_at "c") => `(tactic| first | exact ⟨by decide, by decide⟩ | exact .inr ⟨by decide, by decide⟩ | exact .inl ⟨by decide, by decide⟩ | exact ⟨by decide, by decide, by decide⟩ | (show (0 : Int) < _; decide))
local macro_rules | `(tactic| walk_at "s") => `(tactic| first
  | (with_reducible refine r_var rfl ?_) | (with_reducible refine r_c ?_) | (with_reducible refine r_op ?_) | (with_reducible refine r_un ?_) | (with_reducible refine r_I0 ?_) | (with_reducible refine r_U ?_)
  | (with_reducible refine r_eq rfl ?_) | (with_reducible refine r_ne rfl ?_) | (with_reducible refine r_chain ?_) | (with_reducible refine r_test ?_) | (with_reducible refine r_tB ?_)
  | (with_reducible refine r_bl ?_) | (with_reducible refine r_and ?_) | (with_reducible refine r_or ?_) | (with_reducible refine r_not ?_) | (with_reducible refine r_nil ?_) | (with_reducible refine r_cons ?_)
  | (with_reducible refine r_tupK ?_) | (with_reducible refine r_lstK ?_) | (with_reducible refine r_cb ?_) | (with_reducible refine r_revL ?_) | (with_reducible refine r_ost ?_) | (with_reducible refine r_mkO ?_) | (with_reducible refine r_makeK ?_) | (with_reducible refine r_make ?_) | (with_reducible refine r_setdN ?_) | (with_reducible refine r_nget2 ?_) | (with_reducible refine r_nnew ?_) | (with_reducible refine r_call ?_) | (with_reducible refine r_seq ?_) | (with_reducible refine r_set ?_)
  | (with_reducible refine r_drop ?_) | (with_reducible refine r_ret ?_) | (with_reducible refine r_next ?_) | (with_reducible refine r_if ?_) | (with_reducible refine r_sl ?_) | (with_reducible refine r_nop ?_) | (with_reducible refine r_prt ?_) | (with_reducible refine r_some ?_)
  | (with_reducible refine add_int ?_) | (with_reducible refine int_i ?_) | (with_reducible refine r_forR1 ?_) | (with_reducible refine r_forR2 ?_) | (with_reducible refine r_meth ?_) | (with_reducible refine r_makeS ?_) | (with_reducible refine r_opS ?_) | (with_reducible refine r_makeRS ?_) | (with_reducible refine r_methH ?_) | (with_reducible refine r_callS ?_) | (with_reducible refine r_forL ?_) | (with_reducible refine r_andV ?_) | (with_reducible refine r_orV ?_) | (with_reducible refine r_notV ?_) | (with_reducible refine r_ifE ?_) | (with_reducible refine r_lcL ?_) | (with_reducible refine r_fld ?_) | (with_reducible refine r_get ?_) | (with_reducible refine r_din ?_) | (with_reducible refine r_dget2 ?_) | ((with_reducible refine r_I ?_ ?_); (walk_at "c")))
local macro_rules | `(tactic| walk_at "g") => `(tactic| repeat walk_at "s")
section
variable {P : Program} {w : World} {K : PySem.W.Frag} {mg : Str → Option Value} {base : Heap}
/-! ### a game -/
theorem LotAt.chx {T : Tp K mg} {H H' : Hp} {x z C dx : Addr} {fs : List (Str × V)} {l : LotD} (hx : H x = some (.ins C dx fs)) (nz : z ≠ x) (lf : fs.length ≠ 6) (c : Ch x H H') (h : LotAt T H z l) : LotAt T H' z l := by
  obtain ⟨dz, av, au, us, h1, h2, h3, h4⟩ := h
  exact ⟨dz, av, au, us, c _ _ nz h1, c _ _ (ne_of h2 hx (by intro w; cases w)) h2, h3.ch hx c, h4.ch hx lf c⟩
def gameS (m : Mach) (l : LotD) (a f M : Int) : Int := powM (sizeL (if 0 < f then 1 else 0) m.size l.ms) (M + 1) a.toNat
structure Fits (m : Mach) (l : LotD) (a f : Int) : Prop where
  kn : ∀ k, k ≤ a.toNat → ∀ s, (knownF m.rows k s).length ≤ 100000
  ro : (rowsF m.rows a.toNat m.size.toNat).length ≤ 100000
  pr : prodC (chsF l.ms l.sts f) ≤ 100000
/-- the first standings, as a tuple -/
def FirstAt (K : PySem.W.Frag) (H : Hp) (tp : Addr) (sts : List Int) (now : Int) (rows : List (List PairL)) : Prop := ∃ us : List V, SqT K H tp us ∧ us.length = rows.length ∧ ∀ (i : Nat) (row : List PairL), rows[i]? = some row → ∃ (p au : Addr) (rk : V), us[i]? = some (V.ref p) ∧ SqT K H p [.int now, .ref au, rk] ∧ SqT K H au (sts.map V.int) ∧ NAt H rk (kN row)
structure Keeps (H H' : Hp) : Prop where
  n : TxN H H'
  r : ∀ {K : PySem.W.Frag} {b : Addr} {xs : List V}, SqT K H b xs → SqT K H' b xs
theorem FirstAt.kp {H H' : Hp} {tp : Addr} {sts : List Int} {now : Int} {rows : List (List PairL)} (e : Keeps H H') (h : FirstAt K H tp sts now rows) : FirstAt K H' tp sts now rows := by
  obtain ⟨us, h1, h2, h3⟩ := h
  refine ⟨us, e.r h1, h2, fun i row hi => ?_⟩
  obtain ⟨p, au, rk, k1, k2, k3, k4⟩ := h3 i row hi
  exact ⟨p, au, rk, k1, e.r k2, e.r k3, k4.tx e.n⟩
theorem keeps_ex {H H' : Hp} (e : Ex H H') : Keeps H H' := ⟨ex_txn e, fun {K b xs} h => ex_t e h⟩
theorem keeps_chx {H H' : Hp} {x C dx : Addr} {fs : List (Str × V)} (hx : H x = some (.ins C dx fs)) (c : Ch x H H') : Keeps H H' := ⟨fun a xs h => c _ _ (ne_of h hx (by intro z; cases z)) h, fun {K b xs} h => by
  rcases h with (h | ⟨o, h⟩) | h
  · exact .inl (.inl (c _ _ (ne_of h hx (by intro z; cases z)) h))
  · exact .inl (.inr ⟨o, c _ _ (ne_of h hx (by intro z; cases z)) h⟩)
  · exact .inr h⟩
theorem Keeps.trans {H H1 H2 : Hp} (a : Keeps H H1) (b : Keeps H1 H2) : Keeps H H2 := ⟨fun x xs h => b.n _ _ (a.n _ _ h), fun {K x xs} h => b.r (a.r h)⟩
theorem keeps_chl {H H' : Hp} {D : Addr} {l : List V} (hD : H D = some (.lst l)) (c : Ch D H H') : Keeps H H' := ⟨fun a xs h => c _ _ (ne_of h hD (by intro z; cases z)) h, fun {K b xs} h => by
  rcases h with (h | ⟨o, h⟩) | h
  · exact .inl (.inl (c _ _ (ne_of h hD (by intro z; cases z)) h))
  · exact .inl (.inr ⟨o, c _ _ (ne_of h hD (by intro z; cases z)) h⟩)
  · exact .inr h⟩
def FirstL (K : PySem.W.Frag) (H : Hp) (us : List V) (sts : List Int) (now : Int) (rows : List (List PairL)) (n : Nat) : Prop := us.length = n ∧ ∀ (i : Nat) (row : List PairL), i < n → rows[i]? = some row → ∃ (p au : Addr) (rk : V), us[i]? = some (V.ref p) ∧ SqT K H p [.int now, .ref au, rk] ∧ SqT K H au (sts.map V.int) ∧ NAt H rk (kN row)
theorem FirstL.kp {H H' : Hp} {us : List V} {sts : List Int} {now : Int} {rows : List (List PairL)} {n : Nat} (e : Keeps H H') (h : FirstL K H us sts now rows n) : FirstL K H' us sts now rows n := by
  refine ⟨h.1, fun i row hn hi => ?_⟩
  obtain ⟨p, au, rk, k1, k2, k3, k4⟩ := h.2 i row hn hi
  exact ⟨p, au, rk, k1, e.r k2, e.r k3, k4.tx e.n⟩
def sp_game (T : Tp K mg) : Sp := fun vs H Q E => ∃ (x y z dx : Addr) (m : Mach) (l : LotD) (a f : Int), vs = [.ref x, .ref y, .ref z, .int a, .int f] ∧ H x = some (.ins T.C_Game dx []) ∧ MachAt H y T.C_Pattern m ∧ ValidM m ∧ LotAt T H z l ∧ l.sts.length = l.ms.length ∧ l.ms.length ≤ 5 ∧ (∀ k ∈ l.ms, ValidM k) ∧ a.natAbs < 1000 ∧ f.natAbs < 1000 ∧
  (¬ (0 ≤ a ∧ a ≤ 4) → Rais H T.C_BadCount "count" (.int a) E) ∧ (0 ≤ a → a ≤ 4 → (¬ (0 ≤ f ∧ f ≤ 5) → Rais H T.C_BadCount "count" (.int f) E) ∧ (0 ≤ f → f ≤ 5 → ∀ M, mostF m.rows m.size M → (gameS m l a f M).natAbs < 10 ^ 18 ∧
    (20000 < gameS m l a f M → Rais H T.C_TooLarge "size" (.int (gameS m l a f M)) E) ∧ (gameS m l a f M ≤ 20000 → Fits m l a f ∧ ∀ fs tp H', H' x = some (.ins T.C_Game dx (("size", .int (gameS m l a f M)) :: fs)) → List.lookup ("first" : Str) ((("size" : Str), V.int (gameS m l a f M)) :: fs) = some (V.ref tp) → FirstAt K H' tp l.sts m.now (knownF m.rows a.toNat m.now) → Ch x H H' → Q .non H')))
theorem ok_game (T : Tp K mg) (SO : SupOk P T.file) : FnOk P w K mg base (L2N.CX P w) 10 T.a_Game___init__ T.d_Game___init__ ["self", "pattern", "lot", "ahead", "falls"] (sp_game T) := by
  have G_cc := ok_cc (w := w) (base := base) T SO
  have G_TooLarge := ok_TooLarge (w := w) (base := base) T SO
  have G_gsize := ok_gsize (P := P) (w := w) (base := base) T
  have G_init := ok_init (P := P) (w := w) (base := base) T
  have GR_lot := okR_lot (P := P) (w := w) (base := base) T
  have G_add := ok_addL (P := P) (w := w) (base := base) T
  have G_posts := ok_posts (P := P) (w := w) (base := base) T
  have G_lineups := ok_lineups (P := P) (w := w) (base := base) T
  refine fok_ND T.f_Game___init__ sc_Game___init__ (fun vs H Q E h => ?_) (fun cdv A outer s H vs Q E hr h => ?_)
  · obtain ⟨x, y, z, dx, m, l, a, f, rfl, _⟩ := h
    rfl
  · obtain ⟨x, y, z, dx, m, l, a, f, rfl, hx, hm, vm, hl, lse, l5, hV, ab, fb, q1, q⟩ := h
    obtain ⟨d, hd4, hda⟩ : ∃ d : Nat, d ≤ 4 ∧ (0 ≤ a → a ≤ 4 → a = (d : Int)) := by
      by_cases c : 0 ≤ a ∧ a ≤ 4
      · exact ⟨a.toNat, by omega, fun _ _ => by omega⟩
      · exact ⟨0, by omega, fun h1 h2 => absurd ⟨h1, h2⟩ c⟩
    have G_known := ok_known (P := P) (w := w) (base := base) T d (by omega)
    refine ⟨_, (pss_cons (ps_expr (pe_call G_cc (hr.mono (by decide)) (by rfl) T.g_check_count T.f_check_count.kp T.b_check_count .nil (passN (L2N.takes_of rfl rfl rfl rfl)) (pa_cons (pv 3) (pa_cons (pe_gi rfl T.k_MOST_AHEAD) pa_nil))))
  (pss_cons (ps_expr (pe_call G_cc (hr.mono (by decide)) (by rfl) T.g_check_count T.f_check_count.kp T.b_check_count .nil (passN (L2N.takes_of rfl rfl rfl rfl)) (pa_cons (pv 4) (pa_cons (pe_gi rfl T.k_MOST_FALLS) pa_nil))))
  (pss_cons (ps_set (i := 5) sc_Game___init__.nd rfl (.inl rfl) (pe_call G_gsize (hr.mono (by decide)) (by rfl) T.g_game_size T.f_game_size.kp T.b_game_size .nil pass0 (pa_cons (pv 1) (pa_cons (pv 2) (pa_cons (pv 3) (pa_cons (pv 4) pa_nil))))))
  (pss_cons (ps_if (pt_cmpR op_gt (pv 5) (pe_gi rfl T.k_LARGEST_GAME) (nomark _)) (pss_one (L2N.ps_raise rfl (L2N.takes_of rfl rfl rfl rfl) (pmk_oexN (CX := CX0) T.err_TooLarge.oex T.err_TooLarge.ini T.err_TooLarge.ti G_TooLarge (hr.mono (by decide)) T.err_TooLarge.binds .nil pass0 (by rfl) T.g_TooLarge (pa_cons (pv 5) pa_nil)))) pss_nil)
  (pss_cons (ps_fld (pv 0) (pv 5) rfl)
  (pss_cons (ps_fld (pv 0) (pv 3) rfl)
  (pss_cons (ps_fld (pv 0) (pv 4) rfl)
  (pss_cons (ps_fld (pv 0) (pe_make T.mk_Pattern G_init (hr.mono (by decide)) (by rfl) T.g_Pattern T.b_Machine___init__ .nil pass0 (pa_cons (pe_fld (pv 1) rfl) (pa_cons (pe_fld (pv 1) rfl) (pa_cons (pe_fld (pv 1) rfl) (pa_cons (pe_fld (pv 1) rfl) pa_nil))))) rfl)
  (pss_cons (ps_fld (pv 0) (pe_op (op_addO (C := T.C_Lot) T.me_Lot___add__.at_ T.me_Lot___add__.fn T.sf_Lot G_add (hr.mono (by decide)) T.b_Lot___add__ pass0) (pv 2) (pe_makeR0 T.mk_Lot GR_lot (hr.mono (by decide)) (by rfl) T.g_Lot pass0)) rfl)
  (pss_cons (ps_fld (pv 0) (pe_make T.mk_Posts G_posts (hr.mono (by decide)) (by rfl) T.g_Posts T.b_Posts___init__ .nil pass0 (pa_cons (pe_fld (pv 0) rfl) (pa_cons (pv 3) pa_nil))) rfl)
  (pss_cons (ps_fld (pv 0) (pe_make T.mk_Lineups G_lineups (hr.mono (by decide)) (by rfl) T.g_Lineups T.b_Lineups___init__ .nil pass0 (pa_cons (pe_fld (pv 0) rfl) (pa_cons (pv 4) pa_nil))) rfl)
  (pss_cons (ps_set (i := 6) sc_Game___init__.nd rfl (.inl rfl) (pe_call G_known (hr.mono (by omega)) (by rfl) T.g_known_rows T.f_known_rows.kp T.b_known_rows .nil pass0 (pa_cons (pe_fld (pv 0) rfl) (pa_cons (pe_fld (pe_fld (pv 0) rfl) rfl) (pa_cons (pv 3) pa_nil)))))
  (pss_cons (ps_fld (pv 0) (pe_callTy c_tuple (by rfl) T.n_tuple (by rfl) (pa_cons (pe_lc (own := [("known", 7)]) (g := gName 7) (tt := tYes) rfl sc_Game___init__.nd (pi_list (pv 6)) (blkOk_by (N := N_Game___init__) (sc := defScope s_Game___init__) (by decide +kernel)) (fun _ _ _ _ _ => (pg_name (i := 7) sc_Game___init__.nd rfl (.inl rfl))) (fun _ _ _ _ _ => pts_nil) (fun _ _ _ _ _ => (pe_tup (pa_cons (pe_fldK (K := K) (pe_fldK (K := K) (pv 0) rfl) rfl) (pa_cons (pe_fldK (K := K) (pe_fldK (K := K) (pv 0) rfl) rfl) (pa_cons (pv 7) pa_nil)))))) pa_nil)) rfl)
  (pss_one (ps_fld (pv 0) pe_non rfl))))))))))))))), ?_⟩
    walk_at "g"
    refine ⟨a, 4, rfl, by omega, q1, fun a0 a4 => ?_⟩
    obtain rfl : a = (d : Int) := hda a0 a4
    obtain ⟨q2, q⟩ := q a0 a4
    walk_at "g"
    refine ⟨f, 5, rfl, by omega, q2, fun f0 f5 => ?_⟩
    replace q := q f0 f5
    walk_at "g"
    refine ⟨y, z, m, l, d, f, rfl, hm, vm, hl, l5, hV, by omega, fun M H1 mo e1 => ?_⟩
    obtain ⟨sb, qL, qS⟩ := q M mo
    walk_at "g"
    refine ite_b (fun hc => ?_) (fun hc => ?_)
    · have gt := of_decide_eq_true hc
      refine r_mkO ?_
      walk_at "g"
      exact mk1 e1 (fun H2 => ⟨_, rfl, sb⟩) (qL gt)
    have le := of_decide_eq_false hc
    obtain ⟨fit, qS⟩ := qS (Int.not_lt.mp le)
    have x1 := e1 _ _ hx
    have nyx : y ≠ x := hm.ne hx (by decide)
    have nzx : z ≠ x := fun w => by
      obtain ⟨_, _, _, _, z1, _⟩ := id hl
      rw [w, hx] at z1
      injection Option.some.inj z1 with w1 w2 w3
      cases w3
    walk_at "g"
    refine stf_go x1 T.cl_Game T.na_Game_size (by show 0 < 1000; decide) fun H2 c2 (x2 : H2 x = some (.ins T.C_Game dx [("size", .int (gameS m l d f M))])) => ?_
    walk_at "g"
    refine stf_go x2 T.cl_Game T.na_Game_ahead (by show 1 < 1000; decide) fun H3 c3 (x3 : H3 x = some (.ins T.C_Game dx [("size", .int (gameS m l d f M)), ("ahead", .int d)])) => ?_
    walk_at "g"
    refine stf_go x3 T.cl_Game T.na_Game_falls (by show 2 < 1000; decide) fun H4 c4 (x4 : H4 x = some (.ins T.C_Game dx [("size", .int (gameS m l d f M)), ("ahead", .int d), ("falls", .int f)])) => ?_
    have cx4 : Ch x H H4 := Ch.trans (ch_ex e1) (Ch.trans c2 (Ch.trans c3 c4))
    have hm4 := hm.ch hx nyx cx4
    obtain ⟨dy, pm, ps, de, dp, us, y1, y2, y3, y4, _⟩ := id hm4
    walk_at "g"
    refine gtf_go y1 T.cf_Pattern.cl T.cf_Pattern.n1 (v := .int m.size) rfl ?_
    walk_at "g"
    refine gtf_go y1 T.cf_Pattern.cl T.cf_Pattern.n2 (v := .ref pm) rfl ?_
    walk_at "g"
    refine gtf_go y1 T.cf_Pattern.cl T.cf_Pattern.n3 (v := .ref ps) rfl ?_
    walk_at "g"
    refine gtf_go y1 T.cf_Pattern.cl T.cf_Pattern.n4 (v := .int m.now) rfl ?_
    walk_at "g"
    refine mki_go fun px pdx H5 npx e5 px5 => ?_
    refine ⟨px, _, pdx, pm, ps, m.size, m.now, m.marks, us, m.rows, rfl, px5, T.cf_Pattern, vm.n1, vm.n2, .inr (.inl (.inl (e5 _ _ y2))), vm.mo, vm.ml, .inr (.inl (.inl (e5 _ _ y3))), y4.tx (tx_ex e5), vm.ok, vm.rl, vm.w0, vm.w1, fun m' H6 md ma c6 => ⟨rfl, ?_⟩⟩
    have em : m' = m := (made_twin vm md).trans (nowM_self m)
    rw [em] at ma
    have e46 : Ex H4 H6 := ex_made npx e5 c6
    have x6 := e46 _ _ x4
    have npxx : px ≠ x := fun w => by rw [w, x4] at npx; cases npx
    walk_at "g"
    refine stf_go x6 T.cl_Game T.na_Game_pattern (by show 3 < 1000; decide) fun H7 c7 (x7 : H7 x = some (.ins T.C_Game dx [("size", .int (gameS m l d f M)), ("ahead", .int d), ("falls", .int f), ("pattern", .ref px)])) => ?_
    have cx7 : Ch x H H7 := Ch.trans cx4 (Ch.trans (ch_ex e46) c7)
    have hl7 := hl.chx hx nzx (show (0 : Nat) ≠ 6 by decide) cx7
    have ma7 := ma.ch x6 npxx c7
    walk_at "g"
    refine r_makeR ?_
    walk_at "g"
    refine put_go (us := []) (ms := []) ⟨rfl, fun i m hi => nomatch hi⟩ (fun m hm => nomatch hm) (by decide) fun lz H8 ux nlz e8 lx nx => ?_
    have hl8 := hl7.ex e8
    obtain ⟨dz, za, zb, zu, z1, _⟩ := id hl8
    obtain ⟨dlz, la', lb', l1', _⟩ := id lx
    walk_at "g"
    refine ⟨z, lz, dz, dlz, _, _, rfl, rfl, z1, l1', z, lz, l, ⟨[], []⟩, rfl, hl8, lx.at_, by rw [List.append_nil]; exact hV, by rw [List.append_nil]; exact l5, by rw [List.append_nil]; omega, fun zz H9 us' nzz e9 la fr => ?_⟩
    rw [List.append_nil, List.append_nil] at la
    have e79 := e8.trans e9
    have x9 := e79 _ _ x7
    have nzzx : zz ≠ x := fun w => by rw [w, e8 _ _ x7] at nzz; cases nzz
    walk_at "g"
    refine stf_go x9 T.cl_Game T.na_Game_lot (by show 4 < 1000; decide) fun H10 c10 (x10 : H10 x = some (.ins T.C_Game dx [("size", .int (gameS m l d f M)), ("ahead", .int d), ("falls", .int f), ("pattern", .ref px), ("lot", .ref zz)])) => ?_
    have cx10 : Ch x H H10 := Ch.trans cx7 (Ch.trans (ch_ex e79) c10)
    have ma10 : MachAt H10 px T.C_Pattern m := (ma7.ex e79).ch x9 npxx c10
    have la10 : LotAt T H10 zz l := (la.at_).chx x9 nzzx (show (4 : Nat) ≠ 6 by decide) c10
    walk_at "g"
    refine gtf_go x10 T.cl_Game T.na_Game_pattern (v := .ref px) rfl ?_
    walk_at "g"
    refine mki_go fun qx qdx H11 nqx e11 qx11 => ?_
    refine ⟨qx, px, qdx, m, d, rfl, qx11, ma10.ex e11, hd4, by have := vm.n1; omega, vm.n2, fit.kn, fit.ro, fun H12 c12 => ⟨rfl, ?_⟩⟩
    have e1012 : Ex H10 H12 := ex_made nqx e11 c12
    have x12 := e1012 _ _ x10
    walk_at "g"
    refine stf_go x12 T.cl_Game T.na_Game_posts (by show 5 < 1000; decide) fun H13 c13 (x13 : H13 x = some (.ins T.C_Game dx [("size", .int (gameS m l d f M)), ("ahead", .int d), ("falls", .int f), ("pattern", .ref px), ("lot", .ref zz), ("posts", .ref qx)])) => ?_
    have cx13 : Ch x H H13 := Ch.trans cx10 (Ch.trans (ch_ex e1012) c13)
    have c1013 : Ch x H10 H13 := Ch.trans (ch_ex e1012) c13
    have ma13 : MachAt H13 px T.C_Pattern m := ma10.ch x10 npxx c1013
    have la13 : LotAt T H13 zz l := la10.chx x10 nzzx (show (5 : Nat) ≠ 6 by decide) c1013
    walk_at "g"
    refine gtf_go x13 T.cl_Game T.na_Game_lot (v := .ref zz) rfl ?_
    walk_at "g"
    refine mki_go fun rx rdx H14 nrx e14 rx14 => ?_
    refine ⟨rx, zz, rdx, l, f, rfl, rx14, la13.ex e14, lse, l5, hV, fit.pr, fun H15 c15 => ⟨rfl, ?_⟩⟩
    have e1315 : Ex H13 H15 := ex_made nrx e14 c15
    have x15 := e1315 _ _ x13
    walk_at "g"
    refine stf_go x15 T.cl_Game T.na_Game_lineups (by show 6 < 1000; decide) fun H16 c16 (x16 : H16 x = some (.ins T.C_Game dx [("size", .int (gameS m l d f M)), ("ahead", .int d), ("falls", .int f), ("pattern", .ref px), ("lot", .ref zz), ("posts", .ref qx), ("lineups", .ref rx)])) => ?_
    have c1316 : Ch x H13 H16 := Ch.trans (ch_ex e1315) c16
    have cx16 : Ch x H H16 := Ch.trans cx13 c1316
    have ma16 : MachAt H16 px T.C_Pattern m := (ma13.ex e1315).ch x15 npxx c16
    obtain ⟨dzz, zv, zs, zus, zz1, zz2, zz3, zz4⟩ := id la13
    have zz16 := c1316 _ _ nzzx zz1
    obtain ⟨dpx, q1', q2', q3', q4', q5', p16, _⟩ := id ma16
    walk_at "g"
    refine gtf_go x16 T.cl_Game T.na_Game_pattern (v := .ref px) rfl ?_
    walk_at "g"
    refine gtf_go x16 T.cl_Game T.na_Game_pattern (v := .ref px) rfl ?_
    walk_at "g"
    refine gtf_go p16 T.cf_Pattern.cl T.cf_Pattern.n4 (v := .int m.now) rfl ?_
    walk_at "g"
    refine ⟨px, m, m.now, rfl, ma16, fit.kn, fun pr kus H17 npr e17 hpr nts => ?_⟩
    walk_at "g"
    have x17 := e17 _ _ x16
    have lk : kus.length ≤ 100000 := by
      rw [nts.len, List.length_map]
      exact fit.kn d (Nat.le_refl _) m.now
    have zsT : TupF H16 zs (l.sts.map V.int) := (zz3.ex e1315).ch x15 c16
    refine lco_l (xs := kus) (fun i acc Hx => FirstL K Hx acc l.sts m.now (knownF m.rows d m.now) i) ⟨fun _ _ _ _ e h => h.kp (keeps_ex e), fun _ _ _ _ _ _ hD c h => h.kp (keeps_chl hD c)⟩ (.inl (.inl hpr)) (by omega) ⟨rfl, fun i row hi => absurd hi (Nat.not_lt_zero _)⟩ ?_ ?_
    · intro i v acc Ha hv al ea pa R R2 r
      refine gname1 ⟨rfl, yes_q (ite_t rfl ?_)⟩
      walk_at "g"
      refine gtf_go (ea _ _ x17) T.cl_Game T.na_Game_pattern (v := .ref px) rfl ?_
      walk_at "g"
      refine gtf_go (ea _ _ (e17 _ _ p16)) T.cf_Pattern.cl T.cf_Pattern.n4 (v := .int m.now) rfl ?_
      walk_at "g"
      refine gtf_go (ea _ _ x17) T.cl_Game T.na_Game_lot (v := .ref zz) rfl ?_
      walk_at "g"
      refine gtf_go (ea _ _ (e17 _ _ zz16)) T.cl_Lot T.na_Lot_states (v := .ref zs) rfl ?_
      walk_at "g"
      refine tup_go' fun p9 H18 n9 e18 h9 => ?_
      refine r _ H18 e18 ?_
      have pa' := pa.kp (keeps_ex e18)
      refine ⟨by rw [List.length_append, pa'.1]; rfl, fun j row hj hr => ?_⟩
      by_cases z : j = i
      · subst z
        obtain ⟨kk, hkk, nk⟩ := nts.get hv
        rw [List.getElem?_map, hr] at hkk
        cases hkk
        refine ⟨p9, zs, v, by rw [List.getElem?_append_right (by rw [pa'.1]; exact Nat.le_refl _), pa'.1, Nat.sub_self]; rfl, .inl (.inl h9), (zsT.ex (e17.trans (ea.trans e18))).sq, nk.tx (ex_txn (ea.trans e18))⟩
      · obtain ⟨p, au, rk, k1, k2⟩ := pa'.2 j row (by omega) hr
        exact ⟨p, au, rk, by rw [List.getElem?_append_left (by rw [pa'.1]; omega)]; exact k1, k2⟩
    intro D acc H18 nD al e18 hD pF
    walk_at "g"
    refine tup_l (.inl (.inl hD)) fun tp H19 ntp e19 ht => ?_
    have x19 := (e18.trans e19) _ _ x17
    walk_at "g"
    refine stf_go x19 T.cl_Game T.na_Game_first (by show 7 < 1000; decide) fun H20 c20 x20 => ?_
    walk_at "g"
    refine stf_go x20 T.cl_Game T.na_Game__rounds (by show 8 < 1000; decide) fun H21 c21 x21 => ?_
    have lkk : kus.length = (knownF m.rows d m.now).length := by rw [nts.len, List.length_map]
    refine qS _ tp H21 x21 rfl ?_ (Ch.trans cx16 (Ch.trans (ch_ex (e17.trans (e18.trans e19))) (Ch.trans c20 c21)))
    have pF2 := pF.kp ((keeps_ex e19).trans ((keeps_chx x19 c20).trans (keeps_chx x20 c21)))
    refine ⟨acc, .inl (.inl (c21 _ _ (ne_of (c20 _ _ (ne_of ht x19 (by intro z; cases z)) ht) x20 (by intro z; cases z)) (c20 _ _ (ne_of ht x19 (by intro z; cases z)) ht))), by rw [pF2.1, lkk]; rfl, fun i row hi => ?_⟩
    rw [show ((d : Int)).toNat = d from rfl] at hi
    exact pF2.2 i row (by rw [lkk]; exact (List.getElem?_eq_some_iff.mp hi).1) hi
end

end K08

set_option Elab.async false
set_option linter.all false
set_option maxRecDepth 100000
set_option maxHeartbeats 2000000
namespace K08
open PySem PySem.Spec PyProof.Rows L2 Evl AE
local macro_rules | `(tactic| walk_at "c") => `(tactic| first | exact ⟨by decide, by decide⟩ | exact .inr ⟨by decide, by decide⟩ | exact .inl ⟨by decide, by decide⟩ | exact ⟨by decide, by decide, by decide⟩ | (show (0 : Int) < _; decide))
local macro_rules | `(tactic| walk_at "s") => `(tactic| first
  | (with_reducible refine r_var rfl ?_) | (with_reducible refine r_c ?_) | (with_reducible refine r_op ?_) | (with_reducible refine r_un ?_) | (with_reducible refine r_I0 ?_) | (with_reducible refine r_U ?_)
  | (with_reducible refine r_eq rfl ?_) | (with_reducible refine r_ne rfl ?_) | (with_reducible refine r_chain ?_) | (with_reducible refine r_test ?_) | (with_reducible refine r_tB ?_)
  | (with_reducible refine r_bl ?_) | (with_reducible refine r_and ?_) | (with_reducible refine r_or ?_) | (with_reducible refine r_not ?_) | (with_reducible refine r_nil ?_) | (with_reducible refine r_cons ?_)
  | (with_reducible refine r_tupK ?_) | (with_reducible refine r_lstK ?_) | (with_reducible refine r_cb ?_) | (with_reducible refine r_revL ?_) | (with_reducible refine r_ost ?_) | (with_reducible refine r_mkO ?_) | (with_reducible refine r_makeK ?_) | (with_reducible refine r_make ?_) | (with_reducible refine r_setdN ?_) | (with_reducible refine r_nget2 ?_) | (with_reducible refine r_nnew ?_) | (with_reducible refine r_call ?_) | (with_reducible refine r_seq ?_) | (with_reducible refine r_set ?_)
  | (with_reducible refine r_drop ?_) | (with_reducible refine r_ret ?_) | (with_reducible refine r_next ?_) | (with_reducible refine r_if ?_) | (with_reducible refine r_sl ?_) | (with_reducible refine r_nop ?_) | (with_reducible refine r_prt ?_) | (with_reducible refine r_some ?_)
  | (with_reducible refine add_int ?_) | (with_reducible refine int_i ?_) | (with_reducible refine r_forR1 ?_) | (with_reducible refine r_forR2 ?_) | (with_reducible refine r_meth ?_) | (with_reducible refine r_makeS ?_) | (with_reducible refine r_opS ?_) | (with_reducible refine r_makeRS ?_) | (with_reducible refine r_methH ?_) | (with_reducible refine r_callS ?_) | (with_reducible refine r_forL ?_) | (with_reducible refine r_andV ?_) | (with_reducible refine r_orV ?_) | (with_reducible refine r_notV ?_) | (with_reducible refine r_ifE ?_) | (with_reducible refine r_lcL ?_) | (with_reducible refine r_fld ?_) | (with_reducible refine r_get ?_) | (with_reducible refine r_din ?_) | (with_reducible refine r_dget2 ?_) | ((with_reducible refine r_I ?_ ?_); (walk_at "c")))
local macro_rules | `(tactic| walk_at "g") => `(tactic| repeat walk_at "s")
section
variable {P : Program} {w : World} {K : PySem.W.Frag} {mg : Str → Option Value} {base : Heap}
/-! ### a pattern of plain parts -/
def sp_client (T : Tp K mg) : Sp := fun vs H Q _ => ∃ (b am as_ : Addr) (p : PlainD) (us : List V), vs = [.ref b] ∧ PlainAt H b p am as_ us ∧ OkP p ∧ ∀ y H', H y = none → Ex H H' → MachAt H' y T.C_Pattern (machP p) → Q (.ref y) H'
theorem ok_client (T : Tp K mg) : FnOk P w K mg base CX0 5 T.a__law_client T.d__law_client ["_law_plain"] (sp_client T) := by
  have G_init : FnOk P w K mg base CX0 3 T.a_Machine___init__ T.d_Machine___init__ ["self", "size", "marks", "steps", "now"] (sp_init K) := ok_init T
  refine T.f__law_client.ok sc__law_client (fun vs H Q E h => ?_) (fun cdv A outer s H vs Q E hr h => ?_)
  · obtain ⟨b, am, as_, p, us, rfl, _⟩ := h
    rfl
  · obtain ⟨b, am, as_, p, us, rfl, ⟨h1, h2, h3, h4⟩, ok, q⟩ := h
    refine ⟨_, (pss_one (ps_ret (pe_make T.mk_Pattern G_init (hr.mono (by decide)) (by rfl) T.g_Pattern T.b_Machine___init__ .nil pass0 (pa_cons (pe_ix ix_seq (pv 0) pe_int (fun _ _ => rfl)) (pa_cons (pe_callTy c_list (by rfl) T.n_list (by rfl) (pa_cons (pe_ix ix_seq (pv 0) pe_int (fun _ _ => rfl)) pa_nil)) (pa_cons (pe_callTy c_list (by rfl) T.n_list (by rfl) (pa_cons (pe_ix ix_seq (pv 0) pe_int (fun _ _ => rfl)) pa_nil)) (pa_cons (pe_ix ix_seq (pv 0) pe_int (fun _ _ => rfl)) pa_nil))))))), ?_⟩
    walk_at "g"
    refine ix_t (.inl (.inl h1)) (show atI _ 0 = some (.int p.n) from rfl) ?_
    walk_at "g"
    refine ix_t (.inl (.inl h1)) (show atI _ 1 = some (.ref am) from rfl) ?_
    walk_at "g"
    refine list_s (.inl (.inl (.inl h2))) fun l1 H1 hl1 e1 t1 => ?_
    walk_at "g"
    refine ix_t (.inl (.inl (e1 _ _ h1))) (show atI _ 2 = some (.ref as_) from rfl) ?_
    walk_at "g"
    refine list_s (.inl (.inl (.inl (e1 _ _ h3)))) fun l2 H2 hl2 e2 t2 => ?_
    walk_at "g"
    refine ix_t (.inl (.inl ((e1.trans e2) _ _ h1))) (show atI _ 3 = some (.int p.now) from rfl) ?_
    walk_at "g"
    refine mki_go fun y dy H3 hy e3 t3 => ?_
    have n4 := ok.n4
    have ml := ok.ml
    refine ⟨y, _, dy, l1, l2, p.n, p.now, p.ms, us, p.ss, rfl, t3, T.cf_Pattern, ok.n1, by omega, .inl (.inl (.inl ((e2.trans e3) _ _ t1))), ok.mo, by omega, .inl (.inl (.inl (e3 _ _ t2))), h4.tx (tx_ex ((e1.trans e2).trans e3)), ok.so, ok.sl, ok.w0, ok.w1, fun m H' md ma c => ⟨rfl, ?_⟩⟩
    rw [made_plain ok md] at ma
    exact q y H' (none_ex (e1.trans e2) hy) ((e1.trans e2).trans (ex_made hy e3 c)) ma
/-! ### a grid of steps -/
def gInn (asks : List Str) (hit : Nat → Nat → Nat → Bool) (i j k : Nat) : List StepD := ((List.range k).filter (hit i j)).map fun (e : Nat) => ((i : Int), asks.getD j Str.empty, (e : Int))
def gMid (asks : List Str) (hit : Nat → Nat → Nat → Bool) (n i j : Nat) : List StepD := (List.range j).flatMap fun t => gInn asks hit i t n
def gOut (asks : List Str) (hit : Nat → Nat → Nat → Bool) (n i : Nat) : List StepD := (List.range i).flatMap fun t => gMid asks hit n t asks.length
def gridF (asks : List Str) (hit : Nat → Nat → Nat → Bool) (n : Nat) : List StepD := gOut asks hit n n
theorem gInn_snoc (asks : List Str) (hit : Nat → Nat → Nat → Bool) (i j k : Nat) : gInn asks hit i j (k + 1) = gInn asks hit i j k ++ if hit i j k then [((i : Int), asks.getD j Str.empty, (k : Int))] else [] := by
  unfold gInn
  rw [List.range_succ, List.filter_append, List.map_append]
  congr 1
  by_cases h : hit i j k = true
  · rw [if_pos h, List.filter_cons_of_pos h]
    rfl
  · rw [if_neg h, List.filter_cons_of_neg h]
    rfl
theorem gMid_snoc (asks : List Str) (hit : Nat → Nat → Nat → Bool) (n i j : Nat) : gMid asks hit n i (j + 1) = gMid asks hit n i j ++ gInn asks hit i j n := by
  unfold gMid
  rw [List.range_succ, List.flatMap_append]
  simp
theorem gOut_snoc (asks : List Str) (hit : Nat → Nat → Nat → Bool) (n i : Nat) : gOut asks hit n (i + 1) = gOut asks hit n i ++ gMid asks hit n i asks.length := by
  unfold gOut
  rw [List.range_succ, List.flatMap_append]
  simp
def digR (row : List Int) (many i j : Nat) : Int := row.getD ((4 + i * many + j) % row.length) 0
def hitR (row : List Int) (many : Nat) (n : Int) (i j e : Nat) : Bool := decide (digR row many i j % (n + 2) = e) || (decide (58 ≤ digR row many i j) && decide ((digR row many i j + e) % 2 = 0))
def randN (row : List Int) : Int := 1 + row.getD 0 0 % 4
def randF (row : List Int) (asks : List Str) : PlainD := ⟨randN row, row.getD 2 0 % randN row, lmarksF (row.getD 1 0) (randN row), gridF asks (hitR row asks.length (randN row)) (randN row).toNat⟩
def sp_random (K : PySem.W.Frag) : Sp := fun vs H Q _ => ∃ (a b : Addr) (row : List Int) (asks : List Str), vs = [.ref a, .ref b] ∧ SqL K H a (row.map V.int) ∧ row.length = 24 ∧ (∀ x ∈ row, 0 ≤ x ∧ x < 64) ∧ SqL K H b (asks.map V.str) ∧ asks.length ≤ 4 ∧
  ∀ p am as_ us H', H p = none → Ex H H' → PlainAt H' p (randF row asks) am as_ us → Q (.ref p) H'
theorem ok_random (T : Tp K mg) : FnOk P w K mg base CX0 2 T.a__law_random T.d__law_random ["_law_row", "_law_asks_here"] (sp_random K) := by
  have G__law_marks : FnOk P w K mg base CX0 1 T.a__law_marks T.d__law_marks ["_law_digit", "_law_size_here"] (sp_lmarks K) := ok_lmarks T
  refine T.f__law_random.ok sc__law_random (fun vs H Q E h => ?_) (fun cdv A outer s H vs Q E hr h => ?_)
  · obtain ⟨a, b, row, asks, rfl, _⟩ := h
    rfl
  · obtain ⟨a, b, row, asks, rfl, hS, hlen, hb, hA, al, q⟩ := h
    refine ⟨_, (pss_cons (ps_set (i := 2) sc__law_random.nd rfl (.inl rfl) (pe_op opAdd pe_int (pe_op op_mod (pe_callTy c_int (by rfl) T.n_int (by rfl) (pa_cons (pe_ix ix_seq (pv 0) pe_int (fun _ _ => rfl)) pa_nil)) pe_int)))
  (pss_cons (ps_set (i := 3) sc__law_random.nd rfl (.inl rfl) (pe_lst pa_nil))
  (pss_cons (ps_for PassesOwn.never rfl (pi_range1 rfl T.n_range (pa_cons (pv 2) pa_nil)) (pg_name (i := 4) sc__law_random.nd rfl (.inl rfl))
  (pss_one (ps_for PassesOwn.never rfl (pi_range1 rfl T.n_range (pa_cons (pe_callB c_len (by rfl) T.n_len (by rfl) (pa_cons (pv 1) pa_nil)) pa_nil)) (pg_name (i := 5) sc__law_random.nd rfl (.inl rfl))
  (pss_cons (ps_set (i := 6) sc__law_random.nd rfl (.inl rfl) (pe_ix ix_seq (pv 0) (pe_op op_mod (pe_callTy c_int (by rfl) T.n_int (by rfl) (pa_cons (pe_op opAdd (pe_op opAdd pe_int (pe_op op_mul (pv 4) (pe_callB c_len (by rfl) T.n_len (by rfl) (pa_cons (pv 1) pa_nil)))) (pv 5)) pa_nil)) (pe_callB c_len (by rfl) T.n_len (by rfl) (pa_cons (pv 0) pa_nil))) (fun _ _ => rfl)))
  (pss_one (ps_for PassesOwn.never rfl (pi_range1 rfl T.n_range (pa_cons (pv 2) pa_nil)) (pg_name (i := 7) sc__law_random.nd rfl (.inl rfl))
  (pss_one (ps_if (PW.pt (pw_or (pt_cmpR op_eq (pe_op op_mod (pe_callTy c_int (by rfl) T.n_int (by rfl) (pa_cons (pv 6) pa_nil)) (pe_op opAdd (pv 2) pe_int)) (pv 7) (nomark _)) (pw_or1 (PW.pt (pw_and (pt_cmpR op_ge (pv 6) pe_int (nomark _)) (pw_and1 (pt_cmpR op_eq (pe_op op_mod (pe_callTy c_int (by rfl) T.n_int (by rfl) (pa_cons (pe_op opAdd (pv 6) (pv 7)) pa_nil)) pe_int) pe_int (nomark _)))))))) (pss_one (ps_expr (pe_bm PySem.F.plainAttrs_list PySem.F.slot_list_append PySem.F.type_list_append mt_append (pv 3) (pa_cons (pe_tup (pa_cons (pv 4) (pa_cons (pe_ix ix_seq (pv 1) (pv 5) (fun _ _ => rfl)) (pa_cons (pv 7) pa_nil)))) pa_nil)))) pss_nil))))))))
  (pss_one (ps_ret (pe_tup (pa_cons (pv 2) (pa_cons (pe_call G__law_marks (hr.mono (by decide)) (by rfl) T.g__law_marks T.f__law_marks.kp T.b__law_marks .nil pass0 (pa_cons (pe_ix ix_seq (pv 0) pe_int (fun _ _ => rfl)) (pa_cons (pv 2) pa_nil))) (pa_cons (pv 3) (pa_cons (pe_op op_mod (pe_callTy c_int (by rfl) T.n_int (by rfl) (pa_cons (pe_ix ix_seq (pv 0) pe_int (fun _ _ => rfl)) pa_nil)) (pv 2)) pa_nil)))))))))), ?_⟩
    walk_at "g"
    refine ix_l hS (row_at (j := 0) (by omega)) ?_
    walk_at "g"
    refine lst_go fun l H1 hl e1 l1 => ?_
    have r0 := Int.emod_nonneg (row.getD 0 0) (show (4 : Int) ≠ 0 by decide)
    have r1 := Int.emod_lt_of_pos (row.getD 0 0) (show (0 : Int) < 4 by decide)
    rw [show 1 + row.getD 0 0 % 4 = randN row from rfl]
    have n1 : 1 ≤ randN row := by unfold randN; omega
    have n4 : randN row ≤ 4 := by unfold randN; omega
    have en : ∃ n, n = randN row := ⟨_, rfl⟩
    obtain ⟨n, en⟩ := en
    rw [← en] at n1 n4 ⊢
    have eh : ∃ hit, hit = hitR row asks.length n := ⟨_, rfl⟩
    obtain ⟨hit, eh⟩ := eh
    walk_at "g"
    refine lr1_go (fun i σ' H' => ∃ y4 y5 y6 y7 us, σ' = [some (.ref a), some (.ref b), some (.int n), some (.ref l), y4, y5, y6, y7] ∧ Ex H H' ∧ H' l = some (.lst us) ∧ us.length ≤ 16 * i ∧ Tups H' us ((gOut asks hit n.toNat i).map stepV))
      ⟨_, _, _, _, _, rfl, e1, l1, Nat.zero_le _, .nil⟩ ⟨by omega, by omega⟩ ?_ ?_
    · rintro i σ' H' hi ⟨y4, y5, y6, y7, us, rfl, e2, l2, z2, t2⟩
      walk_at "g"
      refine len_l (ex_l e2 hA) ?_
      walk_at "g"
      refine lr1_go (fun j σ' H' => ∃ y5 y6 y7 us, σ' = [some (.ref a), some (.ref b), some (.int n), some (.ref l), some (.int i), y5, y6, y7] ∧ Ex H H' ∧ H' l = some (.lst us) ∧ us.length ≤ 16 * i + 4 * j ∧ Tups H' us ((gOut asks hit n.toNat i ++ gMid asks hit n.toNat i j).map stepV))
        ⟨_, _, _, _, rfl, e2, l2, z2, by unfold gMid; rw [List.range_zero, List.flatMap_nil, List.append_nil]; exact t2⟩ ⟨by omega, by rw [List.length_map]; omega⟩ ?_ ?_
      · rintro j σ' H' hj ⟨y5, y6, y7, us, rfl, e3, l3, z3, t3⟩
        rw [List.length_map] at hj
        walk_at "g"
        refine len_l (ex_l e3 hA) ?_
        walk_at "g"
        refine r_I (.inl ⟨by omega, by omega⟩) ?_
        walk_at "g"
        refine len_l (ex_l e3 hS) ?_
        walk_at "g"
        refine ⟨_, _, rfl, rfl, show (0 : Int) < _ by rw [List.length_map, hlen]; decide, ?_⟩
        have ed : (4 + (i : Int) * ((asks.map V.str).length : Nat) + (j : Int)) % ((row.map V.int).length : Nat) = (((4 + i * asks.length + j) % row.length : Nat) : Int) := by
          rw [List.length_map, List.length_map]
          push_cast
          rfl
        show rIx _ _ (V.int ((4 + (i : Int) * ((asks.map V.str).length : Nat) + (j : Int)) % ((row.map V.int).length : Nat))) _ _
        rw [ed]
        have hd : (4 + i * asks.length + j) % row.length < row.length := Nat.mod_lt _ (by omega)
        refine ix_l (ex_l e3 hS) (row_at hd) ?_
        rw [show row.getD ((4 + i * asks.length + j) % row.length) 0 = digR row asks.length i j from rfl]
        generalize hdd : digR row asks.length i j = d
        walk_at "g"
        refine lr1_go (fun k σ' H' => ∃ y7 us, σ' = [some (.ref a), some (.ref b), some (.int n), some (.ref l), some (.int i), some (.int j), some (.int d), y7] ∧ Ex H H' ∧ H' l = some (.lst us) ∧ us.length ≤ 16 * i + 4 * j + k ∧ Tups H' us ((gOut asks hit n.toNat i ++ gMid asks hit n.toNat i j ++ gInn asks hit i j k).map stepV))
          ⟨_, us, rfl, e3, l3, z3, by unfold gInn; rw [List.range_zero, List.filter_nil, List.map_nil, List.append_nil]; exact t3⟩ ⟨by omega, by omega⟩ ?_ ?_
        · rintro k σ' H' hk ⟨y7, us, rfl, e4, l4, z4, t4⟩
          have lz : us.length < sizeLine := sz_lt (by omega)
          have AP : hit i j k = true → (∀ p, H' p = none → ∀ H6, H6 = upd (upd H' p (.tup [.int i, .str (asks.getD j Str.empty), .int k])) l (.lst (us ++ [.ref p])) → Ex H H6 ∧ H6 l = some (.lst (us ++ [.ref p])) ∧ (us ++ [V.ref p]).length ≤ 16 * i + 4 * j + (k + 1) ∧ Tups H6 (us ++ [.ref p]) ((gOut asks hit n.toNat i ++ gMid asks hit n.toNat i j ++ gInn asks hit i j (k + 1)).map stepV)) := by
            intro hh p hp H6 h6
            have e6 : Ex H H6 := by
              rw [h6]
              exact ex_upd (e4.trans (Ex.new hp)) hl
            have pl : p ≠ l := fun z => by rw [z, l4] at hp; cases hp
            have t6 : Tx H' H6 := by
              rw [h6]
              exact (tx_ex (Ex.new hp)).trans (tx_lst ((Ex.new hp) _ _ l4))
            refine ⟨e6, by rw [h6, upd_same], by rw [List.length_append]; show us.length + 1 ≤ _; omega, ?_⟩
            rw [gInn_snoc, if_pos hh, ← List.append_assoc, List.map_append]
            refine Tups.snoc ?_ (Tups.tx t6 t4)
            refine ⟨p, rfl, ?_⟩
            rw [h6, upd_ne pl, upd_same]
            rfl
          have hv : hit i j k = (decide (d % (n + 2) = k) || (decide (58 ≤ d) && decide ((d + k) % 2 = 0))) := by rw [eh]; unfold hitR; rw [hdd]
          walk_at "g"
          refine r_I (show 0 < n + 2 by omega) ?_
          walk_at "g"
          refine ite_b (fun hc => ?_) (fun hc => ?_)
          · have z : d % (n + 2) = k := V.int.inj (of_decide_eq_true hc)
            refine ite_t rfl ?_
            refine r_drop (r_app rfl l4 ?_)
            walk_at "g"
            refine ix_l (ex_l e4 hA) (strs_at (by omega)) ?_
            walk_at "g"
            refine ⟨sz_of (by show 3 ≤ 100000; decide), fun p hp => ?_⟩
            obtain ⟨g1, g2, g3, g4⟩ := AP (by rw [hv, decide_eq_true z, Bool.true_or]) p hp _ rfl
            refine app_l ((Ex.new hp) _ _ l4) lz ?_
            walk_at "g"
            exact ⟨_, _, rfl, g1, g2, g3, g4⟩
          · have z : ¬ d % (n + 2) = k := fun q0 => of_decide_eq_false hc (congrArg V.int q0)
            walk_at "g"
            refine ite_b (fun hc2 => ?_) (fun hc2 => ?_)
            · have z2' := of_decide_eq_true hc2
              walk_at "g"
              refine ite_b (fun hc3 => ?_) (fun hc3 => ?_)
              · have z3' : (d + k) % 2 = 0 := V.int.inj (of_decide_eq_true hc3)
                refine r_drop (r_app rfl l4 ?_)
                walk_at "g"
                refine ix_l (ex_l e4 hA) (strs_at (by omega)) ?_
                walk_at "g"
                refine ⟨sz_of (by show 3 ≤ 100000; decide), fun p hp => ?_⟩
                obtain ⟨g1, g2, g3, g4⟩ := AP (by rw [hv, decide_eq_false z, decide_eq_true z2', decide_eq_true z3']; rfl) p hp _ rfl
                refine app_l ((Ex.new hp) _ _ l4) lz ?_
                walk_at "g"
                exact ⟨_, _, rfl, g1, g2, g3, g4⟩
              · have z3' : ¬ (d + k) % 2 = 0 := fun q0 => of_decide_eq_false hc3 (congrArg V.int q0)
                walk_at "g"
                refine ⟨_, us, rfl, e4, l4, by omega, ?_⟩
                rw [gInn_snoc, if_neg (by rw [hv, decide_eq_false z, decide_eq_true z2', decide_eq_false z3']; decide), List.append_nil]
                exact t4
            · have z2' := of_decide_eq_false hc2
              refine ite_f rfl ?_
              walk_at "g"
              refine ⟨_, us, rfl, e4, l4, by omega, ?_⟩
              rw [gInn_snoc, if_neg (by rw [hv, decide_eq_false z, decide_eq_false z2', Bool.false_and]; decide), List.append_nil]
              exact t4
        · rintro σ' H' ⟨y7, us, rfl, e4, l4, z4, t4⟩
          walk_at "g"
          refine ⟨_, _, _, us, rfl, e4, l4, by omega, ?_⟩
          rw [gMid_snoc, ← List.append_assoc]
          exact t4
      · rintro σ' H' ⟨y5, y6, y7, us, rfl, e3, l3, z3, t3⟩
        walk_at "g"
        refine ⟨_, _, _, _, us, rfl, e3, l3, ?_, ?_⟩
        · rw [List.length_map] at z3
          omega
        · rw [gOut_snoc]
          rw [show ((List.map V.str asks).length : Int).toNat = asks.length by rw [List.length_map]; omega] at t3
          exact t3
    · rintro σ' H2 ⟨y4, y5, y6, y7, us, rfl, e2, l2, z2, t2⟩
      walk_at "g"
      refine ix_l (ex_l e2 hS) (row_at (j := 1) (by omega)) ?_
      walk_at "g"
      refine ⟨row.getD 1 0, n, rfl, n1, n4, fun pm H3 fm e3 t3 => ?_⟩
      walk_at "g"
      refine ix_l (ex_l (e2.trans e3) hS) (row_at (j := 2) (by omega)) ?_
      walk_at "g"
      refine r_I (show 0 < n by omega) ?_
      walk_at "g"
      refine tup_go' fun p H4 hp e4 h4 => ?_
      refine q p pm l us H4 (none_ex (e2.trans e3) hp) (e2.trans (e3.trans e4)) ?_
      unfold randF
      rw [← en, ← eh]
      exact ⟨h4, e4 _ _ t3, (e3.trans e4) _ _ l2, t2.tx (tx_ex (e3.trans e4))⟩
end

end K08

set_option Elab.async false
set_option linter.all false
set_option maxRecDepth 100000
set_option maxHeartbeats 1000000
/-! comprehensions with an «if» whose items are made; k in d under a comprehension; what a put dict holds -/
namespace AE
open PySem PySem.Spec PyProof.Rows L2 Evl
section
variable {K : PySem.W.Frag} {σ : L2.St} {H : Hp} {Q : VK} {ta tb te tl : TE} {tt : TT} {g : TG} {i j : Nat} {a b : Addr} {xs ys : List V} {J : It} {n : Nat} {G : Hp → Prop} {Y : Nat → Hp → V → Hp → Prop} {vs : List Nat}
theorem lcf (w : Walk J n G Y) (hz : n ≤ 1000000) {D : Addr} (hD : H D = none) (hG : ∀ H', Ex H H' → G H') (P : Nat → List V → Hp → Prop) (S : Stays P) (h0 : P 0 [] H)
    (step : ∀ i x acc Ha Hb, i < n → acc.length ≤ i → Ex H Ha → P i acc Ha → Y i Ha x Hb → ∀ (R : VK) (R2 : Hp → Prop), (∀ y He, Ex Ha He → P (i + 1) (acc ++ [y]) He → R y He) → (∀ He, Ex Ha He → P (i + 1) acc He → R2 He) →
      g x (wipe σ vs) Hb fun σ2 Hc => wipe σ2 vs = wipe σ vs ∧ tt σ2 Hc fun b Hd => if b = true then te σ2 Hd R else R2 Hd)
    {Qd : Hp → Prop} (k : ∀ acc H1, acc.length ≤ n → Ex H H1 → H1 D = some (.lst acc) → P n acc H1 → Qd H1) :
    ∃ W : Nat → Nat → Hp → Prop, (∃ m, W 0 m (upd H D (.lst []))) ∧ ∀ i m Ha, W i m Ha →
      (J.stop i Ha ∧ Qd Ha) ∨ (J.go i Ha ∧ ∃ Nx : Hp → Prop, (∀ Hb, Nx Hb → ∃ m', m' < m ∧ W (i + 1) m' Hb) ∧ ∀ x Hb, J.yld i Ha x Hb → g x (wipe σ vs) Hb fun σ2 Hc => wipe σ2 vs = wipe σ vs ∧ tt σ2 Hc fun b Hd =>
        if b = true then te σ2 Hd fun y He => ∃ acc, He D = some (.lst acc) ∧ acc.length < sizeLine ∧ Nx (upd He D (.lst (acc ++ [y]))) else Nx Hd) := by
  refine lc_it w (fun m Ha => ∃ acc, acc.length ≤ m ∧ Ex H Ha ∧ Ha D = some (.lst acc) ∧ P m acc Ha) ⟨[], Nat.le_refl _, Ex.new hD, upd_same, S.pex _ _ _ _ (Ex.new hD) h0⟩ (fun m Ha _ ⟨_, _, e, _⟩ => hG Ha e) ?_ fun Ha ⟨acc, ha, e, hd, hp⟩ => k acc Ha ha e hd hp
  rintro m x Ha Hb hm ⟨acc, ha, e1, hd, hp⟩ hy
  refine step m x acc Ha Hb hm ha e1 hp hy _ _ (fun y He e2 p2 => ?_) (fun He e2 p2 => ?_)
  · have hd2 := e2 _ _ hd
    exact ⟨acc, hd2, Nat.lt_of_le_of_lt (show acc.length ≤ 1000000 by omega) (by decide), acc ++ [y], by rw [List.length_append]; show acc.length + 1 ≤ _; omega, ex_upd (e1.trans e2) hD, upd_same, S.pch _ _ _ _ _ _ hd2 ch_upd p2⟩
  · exact ⟨acc, by omega, e1.trans e2, e2 _ _ hd, p2⟩
theorem lcf_r (P : Nat → List V → Hp → Prop) (S : Stays P) {tn : TA} {m : Int} (hv : ∀ R : List V → Hp → Prop, R [.int m] H → tn σ H R) (hz : 0 ≤ m ∧ m ≤ 1000000) (h0 : P 0 [] H)
    (step : ∀ (i : Nat) acc Ha, (i : Int) < m → acc.length ≤ i → Ex H Ha → P i acc Ha → ∀ (R : VK) (R2 : Hp → Prop), (∀ y He, Ex Ha He → P (i + 1) (acc ++ [y]) He → R y He) → (∀ He, Ex Ha He → P (i + 1) acc He → R2 He) →
      g (.int (i : Int)) (wipe σ vs) Ha fun σ2 Hc => wipe σ2 vs = wipe σ vs ∧ tt σ2 Hc fun b Hd => if b = true then te σ2 Hd R else R2 Hd)
    (k : ∀ D acc H1, H D = none → acc.length ≤ m.toNat → Ex H H1 → H1 D = some (.lst acc) → P m.toNat acc H1 → Q (.ref D) H1) : tLc (iRng1 tn) g tt te vs σ H Q :=
  hv _ ⟨m, rfl, by omega, by omega, fun D hD => lcf (walk_range (lo := 0) (n := m.toNat)) (by omega) hD (fun _ _ => trivial) P S h0 (fun i x acc Ha Hb hi ha e1 hp hy => by
    obtain ⟨rfl, rfl⟩ := hy
    have st := step i acc Hb (by omega) ha e1 hp
    show ∀ (R : VK) (R2 : Hp → Prop), (∀ y He, Ex Hb He → P (i + 1) (acc ++ [y]) He → R y He) → (∀ He, Ex Hb He → P (i + 1) acc He → R2 He) → g (.int (0 + (i : Int))) (wipe σ vs) Hb fun σ2 Hc => wipe σ2 vs = wipe σ vs ∧ tt σ2 Hc fun b Hd => if b = true then te σ2 Hd R else R2 Hd
    rw [Int.zero_add]
    exact st) fun acc H1 ha e h p => k D acc H1 hD ha e h p⟩
theorem lcf_l (P : Nat → List V → Hp → Prop) (S : Stays P) (hv : ∀ R : VK, R (.ref a) H → tl σ H R) (hx : SqL K H a xs) (hz : xs.length ≤ 1000000) (h0 : P 0 [] H)
    (step : ∀ i x acc Ha, xs[i]? = some x → acc.length ≤ i → Ex H Ha → P i acc Ha → ∀ (R : VK) (R2 : Hp → Prop), (∀ y He, Ex Ha He → P (i + 1) (acc ++ [y]) He → R y He) → (∀ He, Ex Ha He → P (i + 1) acc He → R2 He) →
      g x (wipe σ vs) Ha fun σ2 Hc => wipe σ2 vs = wipe σ vs ∧ tt σ2 Hc fun b Hd => if b = true then te σ2 Hd R else R2 Hd)
    (k : ∀ D acc H1, H D = none → acc.length ≤ xs.length → Ex H H1 → H1 D = some (.lst acc) → P xs.length acc H1 → Q (.ref D) H1) : tLc (iList K tl) g tt te vs σ H Q :=
  hv _ ⟨a, rfl, ⟨xs, hx⟩, fun D hD => lcf (walk_list (K := K) (a := a) (xs := xs)) hz hD (fun _ e => ex_l e hx) P S h0 (fun i x acc Ha Hb _ ha e1 hp hy => by
    obtain ⟨rfl, hy⟩ := hy
    exact step i x acc Hb hy ha e1 hp) fun acc H1 ha e h p => k D acc H1 hD ha e h p⟩
end
section
variable {X : Cx} {w : World} {o i : Expr} {td ty : TE}
theorem pc_ninK (hu : X.A.units + 64 < cLine) (hi : PE X i ty) (ho : PE X o td) (h : X.w = w := by rfl) : PC X .In i o (tNIn w ty td) := by subst h; exact pc_nin hu hi ho
end
theorem valN_put (kvs : List NE) (k k' : NK) (b : Addr) (v : V) : valN (putN kvs k b v) k' = if k = k' then some v else valN kvs k' := by
  unfold putN
  split
  · rename_i h
    have gen : ∀ l : List NE, valN (l.map fun x => if x.1 = k then (x.1, x.2.1, v) else x) k' = if k = k' then (valN l k').map fun _ => v else valN l k' := by
      intro l
      induction l with
      | nil => unfold valN; split <;> rfl
      | cons e l ih =>
        unfold valN at ih ⊢
        rw [List.map_cons, List.find?_cons, List.find?_cons]
        by_cases z : e.1 = k
        · rw [if_pos z]
          by_cases y : k = k'
          · rw [if_pos y]
            rw [show decide ((e.1, e.2.1, v).1 = k') = true from decide_eq_true (by rw [z, y])]
            rfl
          · rw [if_neg y, show decide ((e.1, e.2.1, v).1 = k') = false from decide_eq_false (by rw [z]; exact y)]
            rw [if_neg y] at ih
            exact ih
        · rw [if_neg z]
          by_cases y : e.1 = k'
          · rw [show decide (e.1 = k') = true from decide_eq_true y, if_neg (fun q => z (by rw [y, q]))]
          · rw [show decide (e.1 = k') = false from decide_eq_false y]
            exact ih
    rw [gen]
    split
    · rename_i e
      subst e
      obtain ⟨u, hu⟩ := Option.isSome_iff_exists.mp h
      rw [hu]
      rfl
    · rfl
  · rename_i h
    rw [valN_snoc]
    split
    · rename_i e
      subst e
      cases q : valN kvs k with
      | none => rfl
      | some u => rw [q] at h; exact absurd rfl h
    · cases valN kvs k' <;> rfl
end AE
namespace AE
open PySem PySem.Spec PyProof.Rows L2 Evl
section
variable {w : World} {td ty tv : TE} {σ : L2.St} {H : Hp} {D : Ends} {Q : VK}
theorem r_nput (q : tv σ H fun v H1 => td σ H1 fun x H2 => ty σ H2 fun y H3 => ∃ a H4, x = .ref a ∧ NPut w H3 a y v H4 ∧ D.nx σ H4) : sNPut w td ty tv D σ H := q
theorem r_nin (q : ty σ H fun y H1 => td σ H1 fun x H2 => ∃ a o, x = .ref a ∧ NGet w H2 a y o ∧ Q (.bl o.isSome) H2) : tNIn w ty td σ H Q := q
end
end AE

set_option Elab.async false
set_option linter.all false
set_option maxRecDepth 100000
set_option maxHeartbeats 2000000
namespace K08
open PySem PySem.Spec PyProof.Rows L2 Evl AE
local macro_rules | `(tactic| walk_at "c") => `(tactic| first | exact ⟨by decide, by decide⟩ | exact .inr ⟨by decide, by decide⟩ | exact .inl ⟨by decide, by decide⟩ | exact ⟨by decide, by decide, by decide⟩ | (show (0 : Int) < _; decide))
local macro_rules | `(tactic| walk_at "s") => `(tactic| first
  | (with_reducible refine r_var rfl ?_) | (with_reducible refine r_c ?_) | (with_reducible refine r_op ?_) | (with_reducible refine r_un ?_) | (with_reducible refine r_I0 ?_) | (with_reducible refine r_U ?_)
  | (with_reducible refine r_eq rfl ?_) | (with_reducible refine r_ne rfl ?_) | (with_reducible refine r_chain ?_) | (with_reducible refine r_test ?_) | (with_reducible refine r_tB ?_)
  | (with_reducible refine r_bl ?_) | (with_reducible refine r_and ?_) | (with_reducible refine r_or ?_) | (with_reducible refine r_not ?_) | (with_reducible refine r_nil ?_) | (with_reducible refine r_cons ?_)
  | (with_reducible refine r_tupK ?_) | (with_reducible refine r_lstK ?_) | (with_reducible refine r_cb ?_) | (with_reducible refine r_revL ?_) | (with_reducible refine r_ost ?_) | (with_reducible refine r_mkO ?_) | (with_reducible refine r_makeK ?_) | (with_reducible refine r_make ?_) | (with_reducible refine r_setdN ?_) | (with_reducible refine r_nget2 ?_) | (with_reducible refine r_nnew ?_) | (with_reducible refine r_call ?_) | (with_reducible refine r_seq ?_) | (with_reducible refine r_set ?_)
  | (with_reducible refine r_drop ?_) | (with_reducible refine r_ret ?_) | (with_reducible refine r_next ?_) | (with_reducible refine r_if ?_) | (with_reducible refine r_sl ?_) | (with_reducible refine r_nop ?_) | (with_reducible refine r_prt ?_) | (with_reducible refine r_some ?_)
  | (with_reducible refine add_int ?_) | (with_reducible refine int_i ?_) | (with_reducible refine r_forR1 ?_) | (with_reducible refine r_forR2 ?_) | (with_reducible refine r_meth ?_) | (with_reducible refine r_makeS ?_) | (with_reducible refine r_opS ?_) | (with_reducible refine r_makeRS ?_) | (with_reducible refine r_methH ?_) | (with_reducible refine r_callS ?_) | (with_reducible refine r_forL ?_) | (with_reducible refine r_andV ?_) | (with_reducible refine r_orV ?_) | (with_reducible refine r_notV ?_) | (with_reducible refine r_ifE ?_) | (with_reducible refine r_lcL ?_) | (with_reducible refine r_fld ?_) | (with_reducible refine r_get ?_) | (with_reducible refine r_din ?_) | (with_reducible refine r_dget2 ?_) | ((with_reducible refine r_I ?_ ?_); (walk_at "c")))
local macro_rules | `(tactic| walk_at "g") => `(tactic| repeat walk_at "s")
section
variable {P : Program} {w : World} {K : PySem.W.Frag} {mg : Str → Option Value} {base : Heap}
/-! ### the pairs of each state -/
def RowsAt (H : Hp) (us : List V) (rows : List (List PairL)) : Prop := us.length = rows.length ∧ ∀ (i : Nat) (r : List PairL), rows[i]? = some r → ∃ (q : Addr) (ws : List V), us[i]? = some (V.ref q) ∧ H q = some (.lst ws) ∧ NAts H ws (r.map pN)
def RowsL (l : Addr) (H : Hp) (us : List V) (rows : List (List PairL)) : Prop := us.length = rows.length ∧ ∀ (i : Nat) (r : List PairL), rows[i]? = some r → ∃ (q : Addr) (ws : List V), us[i]? = some (V.ref q) ∧ H q = some (.lst ws) ∧ NAts H ws (r.map pN) ∧ q ≠ l
theorem RowsL.at_ {l : Addr} {H : Hp} {us : List V} {rows : List (List PairL)} (h : RowsL l H us rows) : RowsAt H us rows := ⟨h.1, fun i r hi => by obtain ⟨q, ws, a, b, c, _⟩ := h.2 i r hi; exact ⟨q, ws, a, b, c⟩⟩
theorem RowsAt.ex {H H' : Hp} {us : List V} {rows : List (List PairL)} (e : Ex H H') (h : RowsAt H us rows) : RowsAt H' us rows := ⟨h.1, fun i r hi => by obtain ⟨q, ws, a, b, c⟩ := h.2 i r hi; exact ⟨q, ws, a, e _ _ b, c.tx (ex_txn e)⟩⟩
theorem RowsL.ex {l : Addr} {H H' : Hp} {us : List V} {rows : List (List PairL)} (e : Ex H H') (h : RowsL l H us rows) : RowsL l H' us rows := ⟨h.1, fun i r hi => by obtain ⟨q, ws, a, b, c, d⟩ := h.2 i r hi; exact ⟨q, ws, a, e _ _ b, c.tx (ex_txn e), d⟩⟩
theorem RowsL.chl {l : Addr} {H H' : Hp} {us ys : List V} {rows : List (List PairL)} (hl : H l = some (.lst ys)) (c : Ch l H H') (h : RowsL l H us rows) : RowsL l H' us rows := ⟨h.1, fun i r hi => by obtain ⟨q, ws, a, b, d, e⟩ := h.2 i r hi; exact ⟨q, ws, a, c _ _ e b, d.tx fun x xs z => tx_ch hl c x xs z, e⟩⟩
theorem RowsL.snoc {l q : Addr} {H : Hp} {us ws : List V} {rows : List (List PairL)} {r : List PairL} (h : RowsL l H us rows) (a : H q = some (.lst ws)) (n : NAts H ws (r.map pN)) (ne : q ≠ l) : RowsL l H (us ++ [.ref q]) (rows ++ [r]) := by
  refine ⟨by rw [List.length_append, List.length_append, h.1]; rfl, fun i r2 hi => ?_⟩
  by_cases z : i < rows.length
  · rw [List.getElem?_append_left z] at hi
    obtain ⟨q', ws', a', c⟩ := h.2 i r2 hi
    exact ⟨q', ws', by rw [List.getElem?_append_left (by rw [h.1]; exact z)]; exact a', c⟩
  · have zl := (List.getElem?_eq_some_iff.mp hi).1
    rw [List.length_append] at zl
    have zi : i = rows.length := by
      have : [r].length = 1 := rfl
      omega
    subst zi
    rw [List.getElem?_append_right (Nat.le_refl _), Nat.sub_self] at hi
    cases hi
    exact ⟨q, ws, by rw [← h.1, List.getElem?_append_right (Nat.le_refl _), Nat.sub_self]; rfl, a, n, ne⟩
def stepN (s : StepD) : NK := .tup [.int s.1, .str s.2.1, .int s.2.2]
theorem stepN_inj {a b : StepD} (h : stepN a = stepN b) : a = b := by
  obtain ⟨a1, a2, a3⟩ := a
  obtain ⟨b1, b2, b3⟩ := b
  unfold stepN at h
  simp only [NK.tup.injEq, List.cons.injEq, NK.int.injEq, NK.str.injEq] at h
  obtain ⟨h1, h2, h3, _⟩ := h
  subst h1 h2 h3
  rfl
theorem stepN_depth (s : StepD) : (stepN s).depth ≤ 8 := by
  unfold stepN NK.depth
  have : NK.depths [NK.int s.1, NK.str s.2.1, NK.int s.2.2] ≤ 0 := depths_le fun k hk => by
    rcases List.mem_cons.mp hk with rfl | hk
    · exact Nat.le_refl _
    rcases List.mem_cons.mp hk with rfl | hk
    · exact Nat.le_refl _
    rw [List.mem_singleton.mp hk]; exact Nat.le_refl _
  omega
theorem steps_nats {H : Hp} : ∀ {us : List V} {l : List StepD}, Tups H us (l.map stepV) → NAts H us (l.map stepN)
  | _, [], .nil => .nil
  | _, s :: l, .cons h t => .cons (by
    obtain ⟨a, rfl, h⟩ := h
    exact .tup h (.cons (.int _) (.cons (.str _) (.cons (.int _) .nil)))) (steps_nats t)
def lpInn (ss : List StepD) (st : Int) (x : Str) (k : Nat) : List PairL := ((List.range k).filter fun (e : Nat) => decide ((st, x, (e : Int)) ∈ ss)).map fun (e : Nat) => (x, (e : Int))
def lpairs (p : PlainD) (asks : List Str) (st : Int) (j : Nat) : List PairL := (asks.take j).flatMap fun x => lpInn p.ss st x p.n.toNat
theorem lpInn_snoc (ss : List StepD) (st : Int) (x : Str) (k : Nat) : lpInn ss st x (k + 1) = lpInn ss st x k ++ if (st, x, (k : Int)) ∈ ss then [(x, (k : Int))] else [] := by
  unfold lpInn
  rw [List.range_succ, List.filter_append, List.map_append]
  congr 1
  by_cases h : (st, x, (k : Int)) ∈ ss
  · rw [if_pos h, List.filter_cons, if_pos (decide_eq_true h)]
    rfl
  · rw [if_neg h, List.filter_cons, if_neg (fun z => h (of_decide_eq_true z))]
    rfl
theorem lpInn_len (ss : List StepD) (st : Int) (x : Str) (k : Nat) : (lpInn ss st x k).length ≤ k := by
  unfold lpInn
  rw [List.length_map]
  refine Nat.le_trans (List.length_filter_le _ _) ?_
  rw [List.length_range]
  exact Nat.le_refl _
def sp_pairs2 (K : PySem.W.Frag) : Sp := fun vs H Q _ => ∃ (b ak am as_ : Addr) (p : PlainD) (ws : List V) (asks : List Str), vs = [.ref b, .ref ak] ∧ PlainAt H b p am as_ ws ∧ OkP p ∧ SqL K H ak (asks.map V.str) ∧ asks.length ≤ 4 ∧
  ∀ l us H', H l = none → Ex H H' → H' l = some (.lst us) → RowsAt H' us ((List.range p.n.toNat).map fun (st : Nat) => lpairs p asks (st : Int) asks.length) → Q (.ref l) H'
theorem ok_pairs2 (T : Tp K mg) : FnOk P w K mg base CX0 1 T.a__law_pairs T.d__law_pairs ["_law_plain", "_law_asks_here"] (sp_pairs2 K) := by
  refine T.f__law_pairs.ok sc__law_pairs (fun vs H Q E h => ?_) (fun cdv A outer s H vs Q E hr h => ?_)
  · obtain ⟨b, ak, am, as_, p, ws, asks, rfl, _⟩ := h
    rfl
  · obtain ⟨b, ak, am, as_, p, ws, asks, rfl, ⟨h1, h2, h3, h4⟩, ok, hA, al, q⟩ := h
    have hu64 := hu64_of hr
    have n4 := ok.n4
    have n1 := ok.n1
    refine ⟨_, (pss_cons (ps_set (i := 2) sc__law_pairs.nd rfl (.inr rfl) (pe_nnew (X := _)))
  (pss_cons (ps_for PassesOwn.never rfl (pi_list (pe_ix ix_seq (pv 0) pe_int (fun _ _ => rfl))) (pg_name (i := 3) sc__law_pairs.nd rfl (.inl rfl))
  (pss_one (ps_nput hu64 (pv 2) (pv 3) pe_bl rfl)))
  (pss_cons (ps_set (i := 4) sc__law_pairs.nd rfl (.inl rfl) (pe_lst pa_nil))
  (pss_cons (ps_for PassesOwn.never rfl (pi_range1 rfl T.n_range (pa_cons (pe_ix ix_seq (pv 0) pe_int (fun _ _ => rfl)) pa_nil)) (pg_name (i := 5) sc__law_pairs.nd rfl (.inr rfl))
  (pss_cons (ps_set (i := 6) sc__law_pairs.nd rfl (.inl rfl) (pe_lst pa_nil))
  (pss_cons (ps_for PassesOwn.never rfl (pi_list (pv 1)) (pg_name (i := 7) sc__law_pairs.nd rfl (.inr rfl))
  (pss_one (ps_set (i := 6) sc__law_pairs.nd rfl (.inl rfl) (pe_op opAdd (pv 6) (pe_lc (own := [("_law_way", 8)]) (g := gName 8) rfl sc__law_pairs.nd (pi_range1 rfl T.n_range (pa_cons (pe_ix ix_seq (pv 0) pe_int (fun _ _ => rfl)) pa_nil)) (blkOk_by (N := N__law_pairs) (sc := defScope s__law_pairs) (by decide +kernel)) (fun _ _ _ _ _ => (pg_name (i := 8) sc__law_pairs.nd rfl (.inl rfl))) (fun _ _ _ _ _ => (pts_one (pt_cmp (pc_ninK (w := w) hu64 (pe_tup (pa_cons (pv 5) (pa_cons (pv 7) (pa_cons (pv 8) pa_nil)))) (pv 2))))) (fun _ _ _ _ _ => (pe_tup (pa_cons (pv 7) (pa_cons (pv 8) pa_nil)))))))))
  (pss_one (ps_expr (pe_bm PySem.F.plainAttrs_list PySem.F.slot_list_append PySem.F.type_list_append mt_append (pv 4) (pa_cons (pv 6) pa_nil)))))))
  (pss_one (ps_ret (pv 4))))))), ?_⟩
    walk_at "g"
    refine nnew_go fun d H1 nd e1 hd => ?_
    walk_at "g"
    refine ix_t (.inl (.inl (e1 _ _ h1))) (show atI _ 2 = some (.ref as_) from rfl) ?_
    have hN : NAts H ws (p.ss.map stepN) := steps_nats h4
    have lws : ws.length = p.ss.length := by rw [hN.len, List.length_map]
    have sl := ok.sl
    refine ll_go (.inl (.inl (e1 _ _ h3))) (fun i σ' H' => ∃ y3 kvs, σ' = [some (.ref b), some (.ref ak), some (.ref d), y3, none, none, none, none, none] ∧ Ex H H' ∧ H' d = some (dN w d kvs) ∧ KeysOk H' kvs ∧ kvs.length ≤ i ∧ ∀ k, (valN kvs k).isSome = decide (k ∈ (p.ss.take i).map stepN))
      ⟨_, [], rfl, e1, hd, (fun _ z => nomatch z), Nat.le_refl _, fun k => (decide_eq_false (by rw [List.take_zero]; exact fun z => nomatch z)).symm⟩ (fun i σ' H' _ z => by obtain ⟨_, _, _, e, _⟩ := z; exact .inl (.inl (e _ _ h3))) ?_ ?_
    · rintro i v σ' H' hv ⟨y3, kvs, rfl, e2, hd2, ko, kl, kv⟩
      have il := (List.getElem?_eq_some_iff.mp hv).1
      obtain ⟨kk, hkk, nk⟩ := hN.get hv
      rw [List.getElem?_map] at hkk
      obtain ⟨s1, hs1, rfl⟩ := Option.map_eq_some_iff.mp hkk
      obtain ⟨sb, sx, rfl, _, _⟩ := id nk.tupOf
      have nk2 : NAt H' (.ref sb) (stepN s1) := nk.tx (ex_txn e2)
      refine gname1 ?_
      refine r_nput ?_
      walk_at "g"
      refine ⟨d, _, rfl, ⟨kvs, stepN s1, sb, hd2, ko, rfl, stepN_depth s1, nk2, sz_lt (by omega), rfl⟩, ?_⟩
      refine ⟨_, putN kvs (stepN s1) sb (.bl true), rfl, ex_upd e2 nd, upd_same, (ko.put (stepN_depth s1) nk2).tx (txn_dn hd2), Nat.le_trans (length_putN _ _ _ _) (by omega), fun k => ?_⟩
      rw [valN_put]
      have tk : (p.ss.take (i + 1)).map stepN = (p.ss.take i).map stepN ++ [stepN s1] := by
        rw [List.take_add_one, hs1, List.map_append]
        rfl
      rw [tk]
      by_cases z : stepN s1 = k
      · rw [if_pos z, ← z]
        exact (decide_eq_true (List.mem_append_right _ (List.mem_singleton_self _))).symm
      · rw [if_neg z, kv k]
        refine decide_eq_decide.mpr ⟨fun m => List.mem_append_left _ m, fun m => ?_⟩
        rcases List.mem_append.mp m with m | m
        · exact m
        · exact absurd (List.mem_singleton.mp m).symm z
    rintro σ' H2 ⟨y3, kvs, rfl, e2, hd2, ko, kl, kv⟩
    rw [lws, List.take_length] at kv
    have kv2 : ∀ s : StepD, (valN kvs (stepN s)).isSome = decide (s ∈ p.ss) := fun s => by
      rw [kv]
      exact decide_eq_decide.mpr ⟨fun m => by
        obtain ⟨s2, m2, e⟩ := List.mem_map.mp m
        rw [← stepN_inj e]; exact m2, fun m => List.mem_map.mpr ⟨s, m, rfl⟩⟩
    walk_at "g"
    refine lst_go fun l H3 nl e3 hl => ?_
    walk_at "g"
    refine ix_t (.inl (.inl ((e2.trans e3) _ _ h1))) (show atI _ 0 = some (.int p.n) from rfl) ?_
    walk_at "g"
    refine lr1_go (fun i σ' H' => ∃ y5 y6 y7 y8 acc, σ' = [some (.ref b), some (.ref ak), some (.ref d), y3, some (.ref l), y5, y6, y7, y8] ∧ Ex H2 H' ∧ H' l = some (.lst acc) ∧ RowsL l H' acc ((List.range i).map fun (st : Nat) => lpairs p asks (st : Int) asks.length))
      ⟨_, _, _, _, [], rfl, e3, hl, rfl, fun i r hi => nomatch hi⟩ ⟨by omega, by omega⟩ ?_ ?_
    · rintro i σ' H4 hi ⟨y5, y6, y7, y8, acc, rfl, e4, l4, rl⟩
      have la : acc.length = i := by rw [rl.1, List.length_map, List.length_range]
      walk_at "g"
      refine lst_go fun r0 H5 nr0 e5 hr0 => ?_
      walk_at "g"
      have l5 := e5 _ _ l4
      have nrl : r0 ≠ l := fun z => by rw [z, l4] at nr0; cases nr0
      refine ll_go (ex_l (e2.trans (e4.trans e5)) hA) (fun j σ' H' => ∃ y7 y8 r ws, σ' = [some (.ref b), some (.ref ak), some (.ref d), y3, some (.ref l), some (.int i), some (.ref r), y7, y8] ∧ Ex H4 H' ∧ H' r = some (.lst ws) ∧ r ≠ l ∧ NAts H' ws ((lpairs p asks (i : Int) j).map pN) ∧ (lpairs p asks (i : Int) j).length ≤ 4 * j)
        ⟨_, _, r0, [], rfl, e5, hr0, nrl, .nil, Nat.zero_le _⟩ (fun j σ' H' _ z => by obtain ⟨_, _, _, _, _, e, _⟩ := z; exact ex_l (e2.trans (e4.trans e)) hA) ?_ ?_
      · rintro j v σ' H6 hv ⟨y7, y8, r, ws6, rfl, e6, hr6, nr, nt, ln⟩
        rw [List.getElem?_map] at hv
        obtain ⟨x, hx, rfl⟩ := Option.map_eq_some_iff.mp hv
        have jl := (List.getElem?_eq_some_iff.mp hx).1
        refine gname1 ?_
        walk_at "g"
        have e46 := e4.trans e6
        have d6 := e46 _ _ hd2
        have ko6 := ko.tx (ex_txn e46)
        have lw : ws6.length = (lpairs p asks (i : Int) j).length := by rw [nt.len, List.length_map]
        refine lcf_r (m := p.n) (fun k acc Hx => NAts Hx acc ((lpInn p.ss (i : Int) x k).map pN)) ⟨fun _ _ _ _ e h => h.tx (ex_txn e), fun _ _ _ _ _ _ hD c h => h.tx fun a xs z => tx_ch hD c a xs z⟩ (fun R rr => ?_) ⟨by omega, by omega⟩ .nil ?_ ?_
        · walk_at "g"
          refine ix_t (.inl (.inl ((e2.trans e46) _ _ h1))) (show atI _ 0 = some (.int p.n) from rfl) ?_
          walk_at "g"
          exact rr
        · intro k acc7 Ha hk al7 ea pa R R2 r1 r2
          refine gname1 ⟨rfl, ?_⟩
          walk_at "g"
          refine r_nin ?_
          walk_at "g"
          refine tup_go' fun p9 H9 n9 e9 h9 => ?_
          walk_at "g"
          refine ⟨d, _, rfl, ⟨kvs, stepN ((i : Int), x, (k : Int)), p9, .inl ((ea.trans e9) _ _ d6), ko6.tx (ex_txn (ea.trans e9)), rfl, stepN_depth _, .tup h9 (.cons (.int _) (.cons (.str _) (.cons (.int _) .nil))), rfl⟩, ?_⟩
          rw [kv2]
          have pa9 := pa.tx (ex_txn e9)
          refine ⟨_, rfl, ite_b (fun hc => ?_) (fun hc => ?_)⟩
          · have hm := of_decide_eq_true hc
            walk_at "g"
            refine tup_go (ks := [.str x, .int k]) (.cons (.str _) (.cons (.int _) .nil)) fun p8 H8 n8 e8 a8 _ => r1 _ H8 (e9.trans e8) ?_
            show NAts H8 _ _
            rw [lpInn_snoc, if_pos hm, List.map_append]
            exact NAts.snoc (pa9.tx (ex_txn e8)) a8
          · have hm := of_decide_eq_false hc
            refine r2 H9 e9 ?_
            show NAts H9 _ _
            rw [lpInn_snoc, if_neg hm, List.append_nil]
            exact pa9
        · intro D acc7 H7 nD al7 e7 hD pa
          walk_at "g"
          have r7 := e7 _ _ hr6
          have l7 := lpInn_len p.ss (i : Int) x p.n.toNat
          refine add_lst r7 hD (by have : 3000 ≤ sizeLine := by decide
                                   omega) fun r2 nr2 => ?_
          have e8 : Ex H7 (upd H7 r2 (.lst (ws6 ++ acc7))) := Ex.new nr2
          refine ⟨_, _, r2, ws6 ++ acc7, rfl, e6.trans (e7.trans e8), upd_same, (fun z => by rw [z, (e6.trans e7) _ _ l4] at nr2; cases nr2), ?_, ?_⟩
          · have tk : lpairs p asks (i : Int) (j + 1) = lpairs p asks (i : Int) j ++ lpInn p.ss (i : Int) x p.n.toNat := by
              unfold lpairs
              rw [List.take_add_one, hx, List.flatMap_append]
              simp
            rw [tk, List.map_append]
            exact (nt.tx (ex_txn (e7.trans e8))).app (pa.tx (ex_txn e8))
          · have tk : lpairs p asks (i : Int) (j + 1) = lpairs p asks (i : Int) j ++ lpInn p.ss (i : Int) x p.n.toNat := by
              unfold lpairs
              rw [List.take_add_one, hx, List.flatMap_append]
              simp
            rw [tk, List.length_append]
            omega
      · rintro σ' H6 ⟨y7, y8, r, ws6, rfl, e6, hr6, nr, nt, ln⟩
        rw [show (asks.map V.str).length = asks.length from List.length_map ..] at nt
        walk_at "g"
        have l6 := e6 _ _ l4
        refine r_app rfl l6 ?_
        walk_at "g"
        refine app_l l6 (Nat.lt_of_le_of_lt (show acc.length ≤ 4 by omega) (by decide)) ?_
        have c7 : Ch l H6 (upd H6 l (.lst (acc ++ [.ref r]))) := ch_upd
        walk_at "g"
        refine ⟨_, _, _, _, acc ++ [.ref r], rfl, ?_, upd_same, ?_⟩
        · exact ex_upd (e4.trans e6) nl
        · rw [List.range_succ, List.map_append]
          exact ((rl.ex e6).snoc hr6 nt nr).chl l6 c7
    · rintro σ' H4 ⟨y5, y6, y7, y8, acc, rfl, e4, l4, rl⟩
      walk_at "g"
      exact q l acc H4 (none_ex e2 nl) (e2.trans e4) l4 rl.at_
end

end K08

set_option Elab.async false
set_option linter.all false
set_option maxRecDepth 100000
set_option maxHeartbeats 2000000
namespace K08
open PySem PySem.Spec PyProof.Rows L2 Evl AE
local macro_rules | `(tactic| walk_at "c") => `(tactic| first | exact ⟨by decide, by decide⟩ | exact .inr ⟨by decide, by decide⟩ | exact .inl ⟨by decide, by decide⟩ | exact ⟨by decide, by decide, by decide⟩ | (show (0 : Int) < _; decide))
local macro_rules | `(tactic| walk_at "s") => `(tactic| first
  | (with_reducible refine r_var rfl ?_) | (with_reducible refine r_c ?_) | (with_reducible refine r_op ?_) | (with_reducible refine r_un ?_) | (with_reducible refine r_I0 ?_) | (with_reducible refine r_U ?_)
  | (with_reducible refine r_eq rfl ?_) | (with_reducible refine r_ne rfl ?_) | (with_reducible refine r_chain ?_) | (with_reducible refine r_test ?_) | (with_reducible refine r_tB ?_)
  | (with_reducible refine r_bl ?_) | (with_reducible refine r_and ?_) | (with_reducible refine r_or ?_) | (with_reducible refine r_not ?_) | (with_reducible refine r_nil ?_) | (with_reducible refine r_cons ?_)
  | (with_reducible refine r_tupK ?_) | (with_reducible refine r_lstK ?_) | (with_reducible refine r_cb ?_) | (with_reducible refine r_revL ?_) | (with_reducible refine r_ost ?_) | (with_reducible refine r_mkO ?_) | (with_reducible refine r_makeK ?_) | (with_reducible refine r_make ?_) | (with_reducible refine r_setdN ?_) | (with_reducible refine r_nget2 ?_) | (with_reducible refine r_nnew ?_) | (with_reducible refine r_call ?_) | (with_reducible refine r_seq ?_) | (with_reducible refine r_set ?_)
  | (with_reducible refine r_drop ?_) | (with_reducible refine r_ret ?_) | (with_reducible refine r_next ?_) | (with_reducible refine r_if ?_) | (with_reducible refine r_sl ?_) | (with_reducible refine r_nop ?_) | (with_reducible refine r_prt ?_) | (with_reducible refine r_some ?_)
  | (with_reducible refine add_int ?_) | (with_reducible refine int_i ?_) | (with_reducible refine r_forR1 ?_) | (with_reducible refine r_forR2 ?_) | (with_reducible refine r_meth ?_) | (with_reducible refine r_makeS ?_) | (with_reducible refine r_opS ?_) | (with_reducible refine r_makeRS ?_) | (with_reducible refine r_methH ?_) | (with_reducible refine r_callS ?_) | (with_reducible refine r_forL ?_) | (with_reducible refine r_andV ?_) | (with_reducible refine r_orV ?_) | (with_reducible refine r_notV ?_) | (with_reducible refine r_ifE ?_) | (with_reducible refine r_lcL ?_) | (with_reducible refine r_fld ?_) | (with_reducible refine r_get ?_) | (with_reducible refine r_din ?_) | (with_reducible refine r_dget2 ?_) | ((with_reducible refine r_I ?_ ?_); (walk_at "c")))
local macro_rules | `(tactic| walk_at "g") => `(tactic| repeat walk_at "s")
section
variable {P : Program} {w : World} {K : PySem.W.Frag} {mg : Str → Option Value} {base : Heap}
theorem okH_whole (T : Tp K mg) : L2H.FnH P w K mg base CX0 1 T.a__law_whole T.d__law_whole ["_law_x"] sp_whole := by
  obtain ⟨oc, od, kV, doc, pm, an, cdv, ct, osl, hfd, lk, hcd⟩ := T.f__law_whole.ex
  rw [hfd]
  rw [hfd] at lk
  refine L2H.fn_ofH lk hcd sc__law_whole (fun vs H Q E h => ?_) (fun A outer s H vs Q E p hot hr h => ?_)
  · obtain ⟨k, rfl, _⟩ := h
    rfl
  · obtain ⟨k, rfl, q⟩ := h
    refine ⟨_, (pss_one (ps_ret (pe_and (pe_callB c_isinstance (by rfl) T.n_isinstance (by rfl) (pa_cons (pv 0) (pa_cons (pe_bltn (by rfl) T.n_int (by rfl) (show RelV (.ty "int") (.type "int") from rfl)) pa_nil))) (pe_one (pe_not (pe_callB c_isinstance (by rfl) T.n_isinstance (by rfl) (pa_cons (pv 0) (pa_cons (pe_bltn (by rfl) T.n_bool (by rfl) (show RelV (.ty "bool") (.type "bool") from rfl)) pa_nil)))))))), ?_⟩
    walk_at "g"
    refine ⟨_, _, _, _, true, rfl, .ty _, .base (.int k), rfl, ?_⟩
    walk_at "g"
    refine ite_t rfl ?_
    walk_at "g"
    refine ⟨_, _, _, _, false, rfl, .ty _, .base (.int k), rfl, ?_⟩
    walk_at "g"
    exact q
/-! ### a pair, a standing -/
theorem ty_t {K : PySem.W.Frag} {H : Hp} {a : Addr} {xs : List V} (h : SqT K H a xs) : TyX K H (.ref a) (.type "tuple") := by
  rcases h with (h | ⟨o, h⟩) | ⟨o, its, n, h, c, _⟩
  · exact .base (.tup h)
  · exact .fTuple h
  · exact .kTuple h c
def sp_isPair (K : PySem.W.Frag) : Sp := fun vs H Q _ => ∃ (v : V) (p : PairL), vs = [v] ∧ NAt H v (pN p) ∧ Q (.bl true) H
theorem ok_isPair (T : Tp K mg) : FnOk P w K mg base CX0 2 T.a__law_is_pair T.d__law_is_pair ["_law_x"] (sp_isPair K) := by
  have G__law_whole : FnOk P w K mg base CX0 1 T.a__law_whole T.d__law_whole ["_law_x"] sp_whole := ok_whole T
  refine T.f__law_is_pair.ok sc__law_is_pair (fun vs H Q E h => ?_) (fun cdv A outer s H vs Q E hr h => ?_)
  · obtain ⟨v, p, rfl, _⟩ := h
    rfl
  · obtain ⟨v, p, rfl, np, q⟩ := h
    obtain ⟨a, xs, rfl, ha, hxs⟩ := np.tupOf
    obtain ⟨u1, u2, rfl, n1, n2⟩ := hxs.inv2
    have e1 := n1.str_inv
    have e2 := n2.int_inv
    subst e1 e2
    refine ⟨_, (pss_one (ps_ret (pe_and (pe_callB c_isinstance (by rfl) T.n_isinstance (by rfl) (pa_cons (pv 0) (pa_cons (pe_bltn (by rfl) T.n_tuple (by rfl) (show RelV (.ty "tuple") (.type "tuple") from rfl)) pa_nil))) (pe_and (pe_cmpR op_eq (pe_callB c_len (by rfl) T.n_len (by rfl) (pa_cons (pv 0) pa_nil)) pe_int (nomark _)) (pe_and (pe_callB c_isinstance (by rfl) T.n_isinstance (by rfl) (pa_cons (pe_ix ix_seq (pv 0) pe_int (fun _ _ => rfl)) (pa_cons (pe_bltn (by rfl) T.n_str (by rfl) (show RelV (.ty "str") (.type "str") from rfl)) pa_nil))) (pe_one (pe_call G__law_whole (hr.mono (by decide)) (by rfl) T.g__law_whole T.f__law_whole.kp T.b__law_whole .nil pass0 (pa_cons (pe_ix ix_seq (pv 0) pe_int (fun _ _ => rfl)) pa_nil)))))))), ?_⟩
    walk_at "g"
    refine ⟨_, _, _, _, true, rfl, .ty _, .base (.tup ha), rfl, ?_⟩
    refine ⟨_, rfl, ite_t rfl ?_⟩
    walk_at "g"
    refine len_t (.inl (.inl ha)) ?_
    walk_at "g"
    refine ite_t (decide_eq_true rfl) ?_
    walk_at "g"
    refine ix_t (.inl (.inl ha)) (show atI _ 0 = some (.str p.1) from rfl) ?_
    walk_at "g"
    refine ⟨_, _, _, _, true, rfl, .ty _, .base (.str p.1), rfl, ?_⟩
    refine ⟨_, rfl, ite_t rfl ?_⟩
    walk_at "g"
    refine ix_t (.inl (.inl ha)) (show atI _ 1 = some (.int p.2) from rfl) ?_
    walk_at "g"
    refine ⟨_, rfl, ?_⟩
    exact q
theorem all_true (n : Nat) : (List.replicate n true).all id = true := by
  rw [List.all_eq_true]
  intro b hb
  rw [(List.mem_replicate.mp hb).2]
  rfl
def StanAt (K : PySem.W.Frag) (H : Hp) (p : Addr) (now : Int) (sts : List Int) (row : List PairL) : Prop := ∃ (au : Addr) (rk : V), SqT K H p [.int now, .ref au, rk] ∧ SqT K H au (sts.map V.int) ∧ NAt H rk (kN row)
def sp_isStan (K : PySem.W.Frag) : Sp := fun vs H Q _ => ∃ (p : Addr) (now : Int) (sts : List Int) (row : List PairL), vs = [.ref p] ∧ StanAt K H p now sts row ∧ sts.length ≤ 1000 ∧ row.length ≤ 1000 ∧ ∀ H', Ex H H' → Q (.bl true) H'
theorem ok_isStan (T : Tp K mg) : FnOk P w K mg base CX0 3 T.a__law_is_standing T.d__law_is_standing ["_law_x"] (sp_isStan K) := by
  have G__law_whole : FnOk P w K mg base CX0 1 T.a__law_whole T.d__law_whole ["_law_x"] sp_whole := ok_whole T
  have G__law_is_pair := ok_isPair (P := P) (w := w) (base := base) T
  refine T.f__law_is_standing.ok sc__law_is_standing (fun vs H Q E h => ?_) (fun cdv A outer s H vs Q E hr h => ?_)
  · obtain ⟨p, now, sts, row, rfl, _⟩ := h
    rfl
  · obtain ⟨p, now, sts, row, rfl, ⟨au, rk, hp, hau, hrk⟩, sl, rl, q⟩ := h
    obtain ⟨ra, rx, rfl, hra, hrx⟩ := hrk.tupOf
    have lrx : rx.length = row.length := by rw [hrx.len, List.length_map]
    refine ⟨_, (pss_cons (ps_if (PW.pt (pw_or (pt_not (pt_val (pe_callB c_isinstance (by rfl) T.n_isinstance (by rfl) (pa_cons (pv 0) (pa_cons (pe_bltn (by rfl) T.n_tuple (by rfl) (show RelV (.ty "tuple") (.type "tuple") from rfl)) pa_nil))))) (pw_or (pt_cmpR op_ne (pe_callB c_len (by rfl) T.n_len (by rfl) (pa_cons (pv 0) pa_nil)) pe_int (nomark _)) (pw_or1 (pt_not (pt_val (pe_call G__law_whole (hr.mono (by decide)) (by rfl) T.g__law_whole T.f__law_whole.kp T.b__law_whole .nil pass0 (pa_cons (pe_ix ix_seq (pv 0) pe_int (fun _ _ => rfl)) pa_nil)))))))) (pss_one (ps_ret pe_bl)) pss_nil)
  (pss_cons (ps_if (PW.pt (pw_or (pt_not (pt_val (pe_callB c_isinstance (by rfl) T.n_isinstance (by rfl) (pa_cons (pe_ix ix_seq (pv 0) pe_int (fun _ _ => rfl)) (pa_cons (pe_bltn (by rfl) T.n_tuple (by rfl) (show RelV (.ty "tuple") (.type "tuple") from rfl)) pa_nil))))) (pw_or1 (pt_not (pt_val (pe_callB c_isinstance (by rfl) T.n_isinstance (by rfl) (pa_cons (pe_ix ix_seq (pv 0) pe_int (fun _ _ => rfl)) (pa_cons (pe_bltn (by rfl) T.n_tuple (by rfl) (show RelV (.ty "tuple") (.type "tuple") from rfl)) pa_nil)))))))) (pss_one (ps_ret pe_bl)) pss_nil)
  (pss_one (ps_ret (pe_and (pe_callB (cr_all rfl) (by rfl) T.n_all (by rfl) (pa_cons (pe_lc (own := [("_law_state", 1)]) (g := gName 1) (tt := tYes) rfl sc__law_is_standing.nd (pi_tup (pe_ix ix_seq (pv 0) pe_int (fun _ _ => rfl))) (blkOk_by (N := N__law_is_standing) (sc := defScope s__law_is_standing) (by decide +kernel)) (fun _ _ _ _ _ => (pg_name (i := 1) sc__law_is_standing.nd rfl (.inl rfl))) (fun _ _ _ _ _ => pts_nil) (fun _ _ _ _ _ => (pe_call G__law_whole (hr.mono (by decide)) (by rfl) T.g__law_whole T.f__law_whole.kp T.b__law_whole .nil pass0 (pa_cons (pv 1) pa_nil)))) pa_nil)) (pe_one (pe_callB (cr_all rfl) (by rfl) T.n_all (by rfl) (pa_cons (pe_lc (own := [("_law_pair", 2)]) (g := gName 2) (tt := tYes) rfl sc__law_is_standing.nd (pi_tup (pe_ix ix_seq (pv 0) pe_int (fun _ _ => rfl))) (blkOk_by (N := N__law_is_standing) (sc := defScope s__law_is_standing) (by decide +kernel)) (fun _ _ _ _ _ => (pg_name (i := 2) sc__law_is_standing.nd rfl (.inl rfl))) (fun _ _ _ _ _ => pts_nil) (fun _ _ _ _ _ => (pe_call G__law_is_pair (hr.mono (by decide)) (by rfl) T.g__law_is_pair T.f__law_is_pair.kp T.b__law_is_pair .nil pass0 (pa_cons (pv 2) pa_nil)))) pa_nil)))))))), ?_⟩
    walk_at "g"
    refine ⟨_, _, _, _, true, rfl, .ty _, ty_t hp, rfl, ?_⟩
    walk_at "g"
    refine ite_f rfl ?_
    walk_at "g"
    refine len_t hp ?_
    walk_at "g"
    refine ite_f (by rfl) ?_
    walk_at "g"
    refine ix_t hp (show atI _ 0 = some (.int now) from rfl) ?_
    walk_at "g"
    refine ⟨now, rfl, ?_⟩
    refine ⟨_, rfl, ?_⟩
    refine ite_f rfl ?_
    try refine ite_f rfl ?_
    walk_at "g"
    refine ix_t hp (show atI _ 1 = some (.ref au) from rfl) ?_
    walk_at "g"
    refine ⟨_, _, _, _, true, rfl, .ty _, ty_t hau, rfl, ?_⟩
    walk_at "g"
    refine ite_f rfl ?_
    walk_at "g"
    refine ix_t hp (show atI _ 2 = some (.ref ra) from rfl) ?_
    walk_at "g"
    refine ⟨_, _, _, _, true, rfl, .ty _, .base (.tup hra), rfl, ?_⟩
    walk_at "g"
    refine ite_f rfl ?_
    try refine ite_f rfl ?_
    walk_at "g"
    refine lco_t (a := au) (xs := sts.map V.int) (fun i acc _ => acc = (List.replicate i true).map V.bl) ⟨fun _ _ _ _ _ h => h, fun _ _ _ _ _ _ _ _ h => h⟩ (fun R r => ?_) hau (by rw [List.length_map]; omega) rfl ?_ ?_
    · walk_at "g"
      refine ix_t hp (show atI _ 1 = some (.ref au) from rfl) ?_
      exact r
    · intro i v acc Ha hv al ea pa R R2 r
      rw [List.getElem?_map] at hv
      obtain ⟨k, _, rfl⟩ := Option.map_eq_some_iff.mp hv
      refine gname1 ⟨rfl, yes_q (ite_t rfl ?_)⟩
      walk_at "g"
      refine ⟨k, rfl, ?_⟩
      exact r _ Ha (Ex.refl _) (by rw [pa, List.replicate_succ', List.map_append]; rfl)
    intro D acc H1 nD al e1 hD pa
    walk_at "g"
    refine ⟨D, _, rfl, .inl (.inl (by rw [hD, pa])), ?_⟩
    rw [all_true]
    refine ⟨_, rfl, ite_t rfl ?_⟩
    have hra1 := e1 _ _ hra
    walk_at "g"
    refine lco_t (a := ra) (xs := rx) (fun i acc _ => acc = (List.replicate i true).map V.bl) ⟨fun _ _ _ _ _ h => h, fun _ _ _ _ _ _ _ _ h => h⟩ (fun R r => ?_) (.inl (.inl hra1)) (by omega) rfl ?_ ?_
    · walk_at "g"
      refine ix_t (ex_t e1 hp) (show atI _ 2 = some (.ref ra) from rfl) ?_
      exact r
    · intro i v acc2 Ha hv al2 ea pa2 R R2 r
      obtain ⟨kk, hkk, nk⟩ := hrx.get hv
      rw [List.getElem?_map] at hkk
      obtain ⟨pr, _, rfl⟩ := Option.map_eq_some_iff.mp hkk
      refine gname1 ⟨rfl, yes_q (ite_t rfl ?_)⟩
      walk_at "g"
      refine ⟨_, pr, rfl, nk.tx (ex_txn (e1.trans ea)), ?_⟩
      exact r _ Ha (Ex.refl _) (by rw [pa2, List.replicate_succ', List.map_append]; rfl)
    intro D2 acc2 H2 nD2 al2 e2 hD2 pa2
    walk_at "g"
    refine ⟨D2, _, rfl, .inl (.inl (by rw [hD2, pa2])), ?_⟩
    rw [all_true]
    exact q H2 (e1.trans e2)
end

end K08

set_option Elab.async false
set_option linter.all false
set_option maxRecDepth 100000
/-! tuple + tuple of any length, as keys -/
namespace AE
open PySem PySem.Spec PyProof.Rows L2 Evl
section
variable {X : Cx} {K : PySem.W.Frag} {H : Hp} {Q : VK}
theorem op_catAK (h : X.K = K := by rfl) : OpR X (binaryOp .Add) (rCatA K) := by subst h; exact op_catA
theorem cat_go {a b : Addr} {ks ls : List NK} (ha : NAt H (.ref a) (.tup ks)) (hb : NAt H (.ref b) (.tup ls)) (hl : ks.length + ls.length ≤ 100000) (q : ∀ v H', Ex H H' → NAt H' v (.tup (ks ++ ls)) → Q v H') : rCatA K (.ref a) (.ref b) H Q := by
  obtain ⟨a', xs, e1, h1, n1⟩ := id ha.tupOf
  obtain ⟨b', ys, e2, h2, n2⟩ := id hb.tupOf
  cases e1
  cases e2
  have s : (100000 : Nat) ≤ sizeLine := by decide
  refine ⟨a, b, xs, ys, rfl, rfl, .inl (.inl h1), .inl (.inl h2), by rw [n1.len, n2.len]; omega, fun z => ?_, fun z y => ?_, fun z y p hp => ?_⟩
  · rw [z] at n1
    have : ks = [] := List.length_eq_zero_iff.mp n1.len.symm
    rw [this] at q
    exact q _ H (Ex.refl _) hb
  · rw [y] at n2
    have : ls = [] := List.length_eq_zero_iff.mp n2.len.symm
    rw [this, List.append_nil] at q
    exact q _ H (Ex.refl _) ha
  · have e : Ex H (upd H p (.tup (xs ++ ys))) := Ex.new hp
    exact q _ _ e (.tup upd_same ((n1.tx (ex_txn e)).app (n2.tx (ex_txn e))))
end
end AE

set_option Elab.async false
set_option linter.all false
set_option maxRecDepth 100000
set_option maxHeartbeats 2000000
namespace K08
open PySem PySem.Spec PyProof.Rows L2 Evl AE
local macro_rules | `(tactic| walk_at "c") => `(tactic| first | exact ⟨by decide, by decide⟩ | exact .inr ⟨by decide, by decide⟩ | exact .inl ⟨by decide, by decide⟩ | exact ⟨by decide, by decide, by decide⟩ | (show (0 : Int) < _; decide))
local macro_rules | `(tactic| walk_at "s") => `(tactic| first
  | (with_reducible refine r_var rfl ?_) | (with_reducible refine r_c ?_) | (with_reducible refine r_op ?_) | (with_reducible refine r_un ?_) | (with_reducible refine r_I0 ?_) | (with_reducible refine r_U ?_)
  | (with_reducible refine r_eq rfl ?_) | (with_reducible refine r_ne rfl ?_) | (with_reducible refine r_chain ?_) | (with_reducible refine r_test ?_) | (with_reducible refine r_tB ?_)
  | (with_reducible refine r_bl ?_) | (with_reducible refine r_and ?_) | (with_reducible refine r_or ?_) | (with_reducible refine r_not ?_) | (with_reducible refine r_nil ?_) | (with_reducible refine r_cons ?_)
  | (with_reducible refine r_tupK ?_) | (with_reducible refine r_lstK ?_) | (with_reducible refine r_cb ?_) | (with_reducible refine r_revL ?_) | (with_reducible refine r_ost ?_) | (with_reducible refine r_mkO ?_) | (with_reducible refine r_makeK ?_) | (with_reducible refine r_make ?_) | (with_reducible refine r_setdN ?_) | (with_reducible refine r_nget2 ?_) | (with_reducible refine r_nnew ?_) | (with_reducible refine r_call ?_) | (with_reducible refine r_seq ?_) | (with_reducible refine r_set ?_)
  | (with_reducible refine r_drop ?_) | (with_reducible refine r_ret ?_) | (with_reducible refine r_next ?_) | (with_reducible refine r_if ?_) | (with_reducible refine r_sl ?_) | (with_reducible refine r_nop ?_) | (with_reducible refine r_prt ?_) | (with_reducible refine r_some ?_)
  | (with_reducible refine add_int ?_) | (with_reducible refine int_i ?_) | (with_reducible refine r_forR1 ?_) | (with_reducible refine r_forR2 ?_) | (with_reducible refine r_meth ?_) | (with_reducible refine r_makeS ?_) | (with_reducible refine r_opS ?_) | (with_reducible refine r_makeRS ?_) | (with_reducible refine r_methH ?_) | (with_reducible refine r_callS ?_) | (with_reducible refine r_forL ?_) | (with_reducible refine r_andV ?_) | (with_reducible refine r_orV ?_) | (with_reducible refine r_notV ?_) | (with_reducible refine r_ifE ?_) | (with_reducible refine r_lcL ?_) | (with_reducible refine r_fld ?_) | (with_reducible refine r_get ?_) | (with_reducible refine r_din ?_) | (with_reducible refine r_dget2 ?_) | ((with_reducible refine r_I ?_ ?_); (walk_at "c")))
local macro_rules | `(tactic| walk_at "g") => `(tactic| repeat walk_at "s")
section
variable {P : Program} {w : World} {K : PySem.W.Frag} {mg : Str → Option Value} {base : Heap}
theorem join_any {t : TS} {D : Ends} {σ : L2.St} {H : Hp} (R : L2.St → Hp → Prop) (body : ∀ D' : Ends, (∀ σ' H', R σ' H' → D'.nx σ' H') → t D' σ H) (tail : ∀ σ' H', R σ' H' → D.nx σ' H') : t D σ H := body D tail
theorem last_at {α : Type} {l : List α} {x : α} (h : l.getLast? = some x) : atI l (-1) = some x := by
  have ne : l ≠ [] := fun z => by rw [z] at h; cases h
  have lp : 0 < l.length := List.length_pos_iff.mpr ne
  unfold atI ixN
  rw [if_neg (by decide), if_pos (by omega)]
  rw [List.getLast?_eq_getElem?] at h
  show l[((-1 : Int) + (l.length : Int)).toNat]? = some x
  rw [show ((-1 : Int) + (l.length : Int)).toNat = l.length - 1 by omega]
  exact h
theorem rows_ix {H : Hp} {us : List V} {prl : List (List PairL)} {e : Int} (h : RowsAt H us prl) (e0 : 0 ≤ e) (e1 : e < prl.length) : ∃ (q : Addr) (ws : List V), atI us e = some (V.ref q) ∧ H q = some (.lst ws) ∧ NAts H ws ((prl.getD e.toNat []).map pN) := by
  have il : e.toNat < prl.length := by omega
  obtain ⟨q, ws, a, b, c⟩ := h.2 e.toNat prl[e.toNat] (List.getElem?_eq_getElem il)
  refine ⟨q, ws, ?_, b, ?_⟩
  · obtain ⟨n, rfl⟩ := Int.eq_ofNat_of_zero_le e0
    exact atI_nat a
  · rw [List.getD_eq_getElem?_getD, List.getElem?_eq_getElem il]
    exact c
/-! ### rows of known pairs, level by level -/
def endK (here : Int) (k : List PairL) : Int := (k.getLast?.map (·.2)).getD here
def prAt (prl : List (List PairL)) (e : Int) : List PairL := prl.getD e.toNat []
def oneF (prl : List (List PairL)) (here : Int) (k : List PairL) : List (List PairL) := (if prAt prl (endK here k) = [] then [k] else []) ++ (prAt prl (endK here k)).map fun p => k ++ [p]
def longerF (prl : List (List PairL)) (here : Int) (rows : List (List PairL)) : List (List PairL) := rows.flatMap (oneF prl here)
theorem longer_snoc (prl : List (List PairL)) (here : Int) (rows : List (List PairL)) (i : Nat) (k : List PairL) (h : rows[i]? = some k) : longerF prl here (rows.take (i + 1)) = longerF prl here (rows.take i) ++ oneF prl here k := by
  unfold longerF
  rw [List.take_add_one, h, List.flatMap_append]
  simp
theorem longer_mono (prl : List (List PairL)) (here : Int) (rows : List (List PairL)) (i : Nat) : (longerF prl here (rows.take i)).length ≤ (longerF prl here rows).length := by
  unfold longerF
  conv => rhs; rw [← List.take_append_drop i rows]
  rw [List.flatMap_append, List.length_append]
  omega
def sp_longer (K : PySem.W.Frag) : Sp := fun vs H Q _ => ∃ (a pa : Addr) (here : Int) (us pus : List V) (rows prl : List (List PairL)), vs = [.ref a, .ref pa, .int here] ∧ H a = some (.lst us) ∧ NAts H us (rows.map kN) ∧ H pa = some (.lst pus) ∧ RowsAt H pus prl ∧
  (∀ k ∈ rows, 0 ≤ endK here k ∧ endK here k < prl.length ∧ k.length ≤ 1000) ∧ (∀ r ∈ prl, r.length ≤ 1000) ∧ rows.length ≤ 100000 ∧ (longerF prl here rows).length ≤ 100000 ∧
  ∀ l us' H', H l = none → Ex H H' → H' l = some (.lst us') → NAts H' us' ((longerF prl here rows).map kN) → Q (.ref l) H'
theorem ok_longer (T : Tp K mg) : FnOk P w K mg base CX0 1 T.a__law_longer T.d__law_longer ["_law_rows", "_law_pairs_here", "_law_here"] (sp_longer K) := by
  refine T.f__law_longer.ok sc__law_longer (fun vs H Q E h => ?_) (fun cdv A outer s H vs Q E hr h => ?_)
  · obtain ⟨a, pa, here, us, pus, rows, prl, rfl, _⟩ := h
    rfl
  · obtain ⟨a, pa, here, us, pus, rows, prl, rfl, ha, hus, hpa, hpr, hk, hpl, hrl, hll, q⟩ := h
    have lus : us.length = rows.length := by rw [hus.len, List.length_map]
    refine ⟨_, (pss_cons (ps_set (i := 3) sc__law_longer.nd rfl (.inl rfl) (pe_lst pa_nil))
  (pss_cons (ps_for PassesOwn.never rfl (pi_list (pv 0)) (pg_name (i := 4) sc__law_longer.nd rfl (.inr rfl))
  (pss_cons (ps_set (i := 5) sc__law_longer.nd rfl (.inl rfl) (pv 2))
  (pss_cons (ps_if (pt_cmpR op_gt (pe_callB c_len (by rfl) T.n_len (by rfl) (pa_cons (pv 4) pa_nil)) pe_int (nomark _)) (pss_one (ps_set (i := 5) sc__law_longer.nd rfl (.inl rfl) (pe_ix ix_seq (pe_ix ix_seq (pv 4) (pe_un un_neg pe_int) (fun _ _ => rfl)) pe_int (fun _ _ => rfl)))) pss_nil)
  (pss_cons (ps_if (pt_cmpR op_eq (pe_callB c_len (by rfl) T.n_len (by rfl) (pa_cons (pe_ix ix_seq (pv 1) (pv 5) (fun _ _ => rfl)) pa_nil)) pe_int (nomark _)) (pss_one (ps_expr (pe_bm PySem.F.plainAttrs_list PySem.F.slot_list_append PySem.F.type_list_append mt_append (pv 3) (pa_cons (pv 4) pa_nil)))) pss_nil)
  (pss_one (ps_set (i := 3) sc__law_longer.nd rfl (.inl rfl) (pe_op opAdd (pv 3) (pe_lc (own := [("_law_pair", 6)]) (g := gName 6) (tt := tYes) rfl sc__law_longer.nd (pi_list (pe_ix ix_seq (pv 1) (pv 5) (fun _ _ => rfl))) (blkOk_by (N := N__law_longer) (sc := defScope s__law_longer) (by decide +kernel)) (fun _ _ _ _ _ => (pg_name (i := 6) sc__law_longer.nd rfl (.inl rfl))) (fun _ _ _ _ _ => pts_nil) (fun _ _ _ _ _ => (pe_op (op_catAK (K := K)) (pv 4) (pe_tup (pa_cons (pv 6) pa_nil))))))))))))
  (pss_one (ps_ret (pv 3))))), ?_⟩
    walk_at "g"
    refine lst_go fun l H1 nl e1 hl => ?_
    walk_at "g"
    refine ll_go (.inl (.inl (e1 _ _ ha))) (fun i σ' H' => ∃ y4 y5 y6 r acc, σ' = [some (.ref a), some (.ref pa), some (.int here), some (.ref r), y4, y5, y6] ∧ Ex H H' ∧ H' r = some (.lst acc) ∧ H r = none ∧ NAts H' acc ((longerF prl here (rows.take i)).map kN))
      ⟨_, _, _, l, [], rfl, e1, hl, nl, .nil⟩ (fun i σ' H' _ z => by obtain ⟨_, _, _, _, _, _, e, _⟩ := z; exact .inl (.inl (e _ _ ha))) ?_ ?_
    · rintro i v σ' H2 hv ⟨y4, y5, y6, r, acc, rfl, e2, hr2, nr, nt⟩
      obtain ⟨kk, hkk, nk⟩ := hus.get hv
      rw [List.getElem?_map] at hkk
      obtain ⟨k, hk1, rfl⟩ := Option.map_eq_some_iff.mp hkk
      obtain ⟨k0, k1, k2⟩ := hk k (List.mem_of_getElem? hk1)
      have nk2 := nk.tx (ex_txn e2)
      obtain ⟨ka, kx, rfl, hka, hkx⟩ := id nk2.tupOf
      have lkx : kx.length = k.length := by rw [hkx.len, List.length_map]
      have lacc : acc.length = (longerF prl here (rows.take i)).length := by rw [nt.len, List.length_map]
      have lone : (longerF prl here (rows.take i)).length + (oneF prl here k).length ≤ 100000 := by
        have := longer_mono prl here rows (i + 1)
        rw [longer_snoc prl here rows i k hk1, List.length_append] at this
        omega
      refine gname1 ?_
      with_reducible refine r_seq ?_
      refine join_any (fun σ' H' => σ' = [some (.ref a), some (.ref pa), some (.int here), some (.ref r), some (.ref ka), some (.int here), y6] ∧ H2 = H') (fun D' tail => ?_) ?_
      · walk_at "g"
        exact tail _ _ ⟨rfl, rfl⟩
      rintro σ' H' ⟨rfl, rfl⟩
      with_reducible refine r_seq ?_
      refine join_any (fun σ' H' => σ' = [some (.ref a), some (.ref pa), some (.int here), some (.ref r), some (.ref ka), some (.int (endK here k)), y6] ∧ H2 = H') (fun D' tail => ?_) ?_
      · walk_at "g"
        refine len_t (.inl (.inl hka)) ?_
        walk_at "g"
        by_cases z : k = []
        · have zx : kx = [] := by
            rw [z] at lkx
            exact List.length_eq_zero_iff.mp lkx
          refine ite_f (by rw [zx]; rfl) ?_
          walk_at "g"
          refine tail _ _ ⟨?_, rfl⟩
          rw [z]
          rfl
        · have kp : 0 < k.length := List.length_pos_iff.mpr z
          refine ite_t (decide_eq_true (by omega)) ?_
          walk_at "g"
          obtain ⟨lastp, hlast⟩ : ∃ p, k.getLast? = some p := ⟨k.getLast z, List.getLast?_eq_some_getLast z⟩
          have hg := hkx.len
          obtain ⟨u, hu⟩ : ∃ u, kx.getLast? = some u := ⟨kx.getLast (fun z2 => by rw [z2] at lkx; exact z (List.length_eq_zero_iff.mp lkx.symm)), List.getLast?_eq_some_getLast _⟩
          refine ix_t (.inl (.inl hka)) (last_at hu) ?_
          have gu : kx[kx.length - 1]? = some u := by rw [← List.getLast?_eq_getElem?]; exact hu
          obtain ⟨kk, hkk2, nu⟩ := hkx.get gu
          rw [lkx, List.getElem?_map, ← List.getLast?_eq_getElem?, hlast] at hkk2
          cases hkk2
          obtain ⟨pa2, px, rfl, hpa2, hpx⟩ := nu.tupOf
          obtain ⟨u1, u2, rfl, n1, n2⟩ := hpx.inv2
          obtain rfl := n2.int_inv
          walk_at "g"
          refine ix_t (.inl (.inl hpa2)) (show atI [u1, V.int lastp.2] 1 = some (.int lastp.2) from rfl) ?_
          refine tail _ _ ⟨?_, rfl⟩
          unfold endK
          rw [hlast]
          rfl
      rintro σ' H' ⟨rfl, rfl⟩
      obtain ⟨pq, pws, ip, hpqH, npqH⟩ := rows_ix hpr k0 k1
      have hpq := e2 _ _ hpqH
      have npq := npqH.tx (ex_txn e2)
      have nqr : pq ≠ r := fun z => by rw [z, nr] at hpqH; cases hpqH
      have lpq : pws.length = (prAt prl (endK here k)).length := by rw [npq.len, List.length_map]; rfl
      have one_len : (oneF prl here k).length = (if prAt prl (endK here k) = [] then 1 else 0) + (prAt prl (endK here k)).length := by
        unfold oneF
        rw [List.length_append, List.length_map]
        split <;> rfl
      with_reducible refine r_seq ?_
      refine join_any (fun σ' H' => ∃ acc', σ' = [some (.ref a), some (.ref pa), some (.int here), some (.ref r), some (.ref ka), some (.int (endK here k)), y6] ∧ Ex H H' ∧ Tx H2 H' ∧ H' r = some (.lst acc') ∧ H' pq = some (.lst pws) ∧ NAts H' acc' ((longerF prl here (rows.take i) ++ if prAt prl (endK here k) = [] then [k] else []).map kN)) (fun D' tail => ?_) ?_
      · walk_at "g"
        refine ix_l (.inl (.inl (e2 _ _ hpa))) ip ?_
        walk_at "g"
        refine len_l (.inl (.inl hpq)) ?_
        walk_at "g"
        by_cases z : prAt prl (endK here k) = []
        · refine ite_t (by rw [lpq, z]; rfl) ?_
          refine r_drop (r_app rfl hr2 ?_)
          walk_at "g"
          refine app_l hr2 (Nat.lt_of_le_of_lt (show acc.length ≤ 100000 by omega) (by decide)) ?_
          have c3 : Ch r H2 (upd H2 r (.lst (acc ++ [.ref ka]))) := ch_upd
          have t3 : Tx H2 (upd H2 r (.lst (acc ++ [.ref ka]))) := tx_ch hr2 c3
          refine tail _ _ ⟨acc ++ [.ref ka], rfl, ex_upd e2 nr, t3, upd_same, c3 _ _ nqr hpq, ?_⟩
          rw [if_pos z, List.map_append]
          exact NAts.snoc (nt.tx fun a xs h => t3 a xs h) (nk2.tx fun a xs h => t3 a xs h)
        · refine ite_f (decide_eq_false fun w2 => z (List.length_eq_zero_iff.mp (by have := V.int.inj w2; omega))) ?_
          walk_at "g"
          refine tail _ _ ⟨acc, rfl, e2, tx_ex (Ex.refl _), hr2, hpq, ?_⟩
          rw [if_neg z, List.append_nil]
          exact nt
      rintro σ' H' ⟨acc', rfl, e3, t3, hr3, hpq3, nt3⟩
      have nk3 : NAt H' (.ref ka) (kN k) := nk2.tx fun a xs h => t3 a xs h
      have npq3 : NAts H' pws ((prAt prl (endK here k)).map pN) := npq.tx fun a xs h => t3 a xs h
      have lpq2 : pws.length ≤ 1000 := by
        rw [lpq]
        unfold prAt
        rw [List.getD_eq_getElem?_getD, List.getElem?_eq_getElem (show (endK here k).toNat < prl.length by omega)]
        exact hpl _ (List.getElem_mem _)
      have lacc' : acc'.length = (longerF prl here (rows.take i)).length + if prAt prl (endK here k) = [] then 1 else 0 := by
        rw [nt3.len, List.length_map, List.length_append]
        split <;> rfl
      walk_at "g"
      refine ix_l (.inl (.inl (e3 _ _ hpa))) ip ?_
      refine lco_l (xs := pws) (fun j acc Hx => NAts Hx acc (((prAt prl (endK here k)).take j).map fun p => kN (k ++ [p]))) ⟨fun _ _ _ _ e h => h.tx (ex_txn e), fun _ _ _ _ _ _ hD c h => h.tx fun a xs z => tx_ch hD c a xs z⟩ (.inl (.inl hpq3)) (by omega) .nil ?_ ?_
      · intro j v acc2 Ha hv al ea pa2 R R2 r1
        obtain ⟨kk, hkk, np⟩ := npq3.get hv
        rw [List.getElem?_map] at hkk
        obtain ⟨pr, hpr2, rfl⟩ := Option.map_eq_some_iff.mp hkk
        refine gname1 ⟨rfl, yes_q (ite_t rfl ?_)⟩
        walk_at "g"
        refine tup_go (ks := [pN pr]) (.cons (np.tx (ex_txn ea)) .nil) fun p9 H9 n9 e9 a9 _ => ?_
        walk_at "g"
        refine cat_go (ks := k.map pN) (ls := [pN pr]) (nk3.tx (ex_txn (ea.trans e9))) a9 (by rw [List.length_map]; show k.length + 1 ≤ 100000; omega) fun v He ee nv => ?_
        refine r1 v He (e9.trans ee) ?_
        show NAts He _ _
        rw [List.take_add_one, hpr2, List.map_append]
        refine NAts.snoc (pa2.tx (ex_txn (e9.trans ee))) ?_
        show NAt He v (kN (k ++ [pr]))
        unfold kN
        rw [List.map_append]
        exact nv
      intro D acc2 H3 nD al2 e4 hD pa2
      rw [show pws.length = (prAt prl (endK here k)).length from lpq, List.take_length] at pa2
      walk_at "g"
      refine add_lst (e4 _ _ hr3) hD (by have : 200000 ≤ sizeLine := by decide
                                         rw [one_len] at lone
                                         omega) fun r2 nr2 => ?_
      have e5 : Ex H3 (upd H3 r2 (.lst (acc' ++ acc2))) := Ex.new nr2
      refine ⟨_, _, _, r2, acc' ++ acc2, rfl, e3.trans (e4.trans e5), upd_same, none_ex (e3.trans e4) nr2, ?_⟩
      rw [longer_snoc prl here rows i k hk1]
      unfold oneF
      rw [← List.append_assoc, List.map_append]
      refine (nt3.tx (ex_txn (e4.trans e5))).app ?_
      rw [List.map_map]
      exact pa2.tx (ex_txn e5)
    · rintro σ' H2 ⟨y4, y5, y6, r, acc, rfl, e2, hr2, nr, nt⟩
      rw [lus, List.take_length] at nt
      walk_at "g"
      exact q r acc H2 nr e2 hr2 nt
end

end K08

set_option Elab.async false
set_option linter.all false
set_option maxRecDepth 100000
set_option maxHeartbeats 2000000
namespace K08
open PySem PySem.Spec PyProof.Rows L2 Evl AE
local macro_rules | `(tactic| walk_at "c") => `(tactic| first | exact ⟨by decide, by decide⟩ | exact .inr ⟨by decide, by decide⟩ | exact .inl ⟨by decide, by decide⟩ | exact ⟨by decide, by decide, by decide⟩ | (show (0 : Int) < _; decide))
local macro_rules | `(tactic| walk_at "s") => `(tactic| first
  | (with_reducible refine r_var rfl ?_) | (with_reducible refine r_c ?_) | (with_reducible refine r_op ?_) | (with_reducible refine r_un ?_) | (with_reducible refine r_I0 ?_) | (with_reducible refine r_U ?_)
  | (with_reducible refine r_eq rfl ?_) | (with_reducible refine r_ne rfl ?_) | (with_reducible refine r_chain ?_) | (with_reducible refine r_test ?_) | (with_reducible refine r_tB ?_)
  | (with_reducible refine r_bl ?_) | (with_reducible refine r_and ?_) | (with_reducible refine r_or ?_) | (with_reducible refine r_not ?_) | (with_reducible refine r_nil ?_) | (with_reducible refine r_cons ?_)
  | (with_reducible refine r_tupK ?_) | (with_reducible refine r_lstK ?_) | (with_reducible refine r_cb ?_) | (with_reducible refine r_revL ?_) | (with_reducible refine r_ost ?_) | (with_reducible refine r_mkO ?_) | (with_reducible refine r_makeK ?_) | (with_reducible refine r_make ?_) | (with_reducible refine r_setdN ?_) | (with_reducible refine r_nget2 ?_) | (with_reducible refine r_nnew ?_) | (with_reducible refine r_call ?_) | (with_reducible refine r_seq ?_) | (with_reducible refine r_set ?_)
  | (with_reducible refine r_drop ?_) | (with_reducible refine r_ret ?_) | (with_reducible refine r_next ?_) | (with_reducible refine r_if ?_) | (with_reducible refine r_sl ?_) | (with_reducible refine r_nop ?_) | (with_reducible refine r_prt ?_) | (with_reducible refine r_some ?_)
  | (with_reducible refine add_int ?_) | (with_reducible refine int_i ?_) | (with_reducible refine r_forR1 ?_) | (with_reducible refine r_forR2 ?_) | (with_reducible refine r_meth ?_) | (with_reducible refine r_makeS ?_) | (with_reducible refine r_opS ?_) | (with_reducible refine r_makeRS ?_) | (with_reducible refine r_methH ?_) | (with_reducible refine r_callS ?_) | (with_reducible refine r_forL ?_) | (with_reducible refine r_andV ?_) | (with_reducible refine r_orV ?_) | (with_reducible refine r_notV ?_) | (with_reducible refine r_ifE ?_) | (with_reducible refine r_lcL ?_) | (with_reducible refine r_fld ?_) | (with_reducible refine r_get ?_) | (with_reducible refine r_din ?_) | (with_reducible refine r_dget2 ?_) | ((with_reducible refine r_I ?_ ?_); (walk_at "c")))
local macro_rules | `(tactic| walk_at "g") => `(tactic| repeat walk_at "s")
section
variable {P : Program} {w : World} {K : PySem.W.Frag} {mg : Str → Option Value} {base : Heap}
def levelF (prl : List (List PairL)) (here : Int) : Nat → List (List PairL)
  | 0 => [[]]
  | d + 1 => longerF prl here (levelF prl here d)
def iterL (prl : List (List PairL)) (here : Int) : Nat → List (List PairL) → List (List PairL)
  | 0, L => L
  | d + 1, L => iterL prl here d (longerF prl here L)
theorem iter_app (prl : List (List PairL)) (here : Int) : ∀ (d : Nat) (A B : List (List PairL)), iterL prl here d (A ++ B) = iterL prl here d A ++ iterL prl here d B
  | 0, _, _ => rfl
  | d + 1, A, B => by
    show iterL prl here d (longerF prl here (A ++ B)) = _
    unfold longerF
    rw [List.flatMap_append, iter_app prl here d]
    rfl
theorem iter_flat (prl : List (List PairL)) (here : Int) (d : Nat) {α : Type} (f : α → List PairL) : ∀ l : List α, iterL prl here d (l.map f) = l.flatMap fun a => iterL prl here d [f a]
  | [] => by
    have : ∀ d, iterL prl here d [] = [] := fun d => by
      induction d with
      | zero => rfl
      | succ d ih => exact ih
    exact this d
  | a :: l => by
    rw [List.map_cons, List.flatMap_cons, ← iter_flat prl here d f l, ← iter_app]
    rfl
theorem iter_out (prl : List (List PairL)) (here : Int) : ∀ (d : Nat) (L : List (List PairL)), iterL prl here d (longerF prl here L) = longerF prl here (iterL prl here d L)
  | 0, _ => rfl
  | d + 1, L => iter_out prl here d (longerF prl here L)
theorem level_iter (prl : List (List PairL)) (here : Int) : ∀ d : Nat, levelF prl here d = iterL prl here d [[]]
  | 0 => rfl
  | d + 1 => by
    show longerF prl here (levelF prl here d) = iterL prl here d (longerF prl here [[]])
    rw [iter_out, level_iter prl here d]
theorem known_nil {rows : List StepD} {e : Int} (h : pairsL rows e = []) : ∀ d : Nat, knownF rows d e = [[]]
  | 0 => rfl
  | d + 1 => by
    unfold knownF
    rw [if_pos h]
theorem end_snoc (here : Int) (k : List PairL) (p : PairL) : endK here (k ++ [p]) = p.2 := by
  unfold endK
  rw [List.getLast?_append]
  rfl
theorem iter_known {prl : List (List PairL)} {rows : List StepD} {here n : Int} (hp : ∀ e, 0 ≤ e → e < n → prAt prl e = pairsL rows e) (cl : ∀ e, 0 ≤ e → e < n → ∀ p ∈ pairsL rows e, 0 ≤ p.2 ∧ p.2 < n) :
    ∀ (d : Nat) (k : List PairL), 0 ≤ endK here k → endK here k < n → iterL prl here d [k] = (knownF rows d (endK here k)).map (k ++ ·)
  | 0, k, _, _ => by
    show [k] = [k ++ []]
    rw [List.append_nil]
  | d + 1, k, h0, h1 => by
    show iterL prl here d (longerF prl here [k]) = _
    have e1 : longerF prl here [k] = oneF prl here k := by
      unfold longerF
      rw [List.flatMap_cons, List.flatMap_nil, List.append_nil]
    rw [e1]
    unfold oneF
    rw [hp _ h0 h1]
    by_cases z : pairsL rows (endK here k) = []
    · rw [if_pos z, known_nil z (d + 1), z, List.map_nil, List.append_nil, iter_known hp cl d k h0 h1, known_nil z d]
    · rw [if_neg z, List.nil_append, iter_flat]
      conv => rhs; unfold knownF
      rw [if_neg z, List.map_flatMap]
      have gen : ∀ l : List PairL, (∀ p ∈ l, 0 ≤ p.2 ∧ p.2 < n) → (l.flatMap fun p => iterL prl here d [k ++ [p]]) = l.flatMap fun p => ((knownF rows d p.2).map (p :: ·)).map (k ++ ·) := by
        intro l
        induction l with
        | nil => intro _; rfl
        | cons p l ih =>
          intro hl
          obtain ⟨a, b⟩ := hl p (List.mem_cons_self ..)
          rw [List.flatMap_cons, List.flatMap_cons, ih fun x hx => hl x (List.mem_cons_of_mem _ hx), iter_known hp cl d (k ++ [p]) (by rw [end_snoc]; exact a) (by rw [end_snoc]; exact b), end_snoc, List.map_map]
          congr 1
          refine List.map_congr_left fun r _ => ?_
          show (k ++ [p]) ++ r = k ++ (p :: r)
          rw [List.append_assoc]
          rfl
      exact gen _ (cl _ h0 h1)
theorem level_known {prl : List (List PairL)} {rows : List StepD} {here n : Int} (hp : ∀ e, 0 ≤ e → e < n → prAt prl e = pairsL rows e) (cl : ∀ e, 0 ≤ e → e < n → ∀ p ∈ pairsL rows e, 0 ≤ p.2 ∧ p.2 < n) (h0 : 0 ≤ here) (h1 : here < n) (d : Nat) :
    levelF prl here d = knownF rows d here := by
  rw [level_iter, iter_known hp cl d [] h0 h1]
  show (knownF rows d here).map (fun x => [] ++ x) = _
  rw [List.map_congr_left (g := id) fun r _ => List.nil_append r, List.map_id]
theorem known_in {rows : List StepD} {n : Int} (cl : ∀ e, 0 ≤ e → e < n → ∀ p ∈ pairsL rows e, 0 ≤ p.2 ∧ p.2 < n) : ∀ (d : Nat) (e : Int), 0 ≤ e → e < n → ∀ k ∈ knownF rows d e, 0 ≤ endK e k ∧ endK e k < n
  | 0, e, h0, h1, k, hk => by
    rw [List.mem_singleton.mp hk]
    exact ⟨h0, h1⟩
  | d + 1, e, h0, h1, k, hk => by
    unfold knownF at hk
    split at hk
    · rw [List.mem_singleton.mp hk]
      exact ⟨h0, h1⟩
    · obtain ⟨p, hp, hk⟩ := List.mem_flatMap.mp hk
      obtain ⟨r, hr, rfl⟩ := List.mem_map.mp hk
      obtain ⟨a, b⟩ := cl e h0 h1 p hp
      have ih := known_in cl d p.2 a b r hr
      have ee : endK e (p :: r) = endK p.2 r := by
        unfold endK
        rw [List.getLast?_cons]
        cases r.getLast? <;> rfl
      rw [ee]
      exact ih
/-! ### the law's rows -/
def sp_lknown (K : PySem.W.Frag) : Sp := fun vs H Q _ => ∃ (pa : Addr) (here : Int) (d : Nat) (pus : List V) (prl : List (List PairL)) (rows : List StepD), vs = [.ref pa, .int here, .int d] ∧ H pa = some (.lst pus) ∧ RowsAt H pus prl ∧
  (∀ e, 0 ≤ e → e < (prl.length : Int) → prAt prl e = pairsL rows e) ∧ (∀ e, 0 ≤ e → e < (prl.length : Int) → ∀ p ∈ pairsL rows e, 0 ≤ p.2 ∧ p.2 < (prl.length : Int)) ∧ 0 ≤ here ∧ here < prl.length ∧ (∀ r ∈ prl, r.length ≤ 1000) ∧ d ≤ 100 ∧
  (∀ j, j ≤ d → (knownF rows j here).length ≤ 100000) ∧ ∀ l us' H', H l = none → Ex H H' → H' l = some (.lst us') → NAts H' us' ((knownF rows d here).map kN) → Q (.ref l) H'
theorem ok_lknown (T : Tp K mg) : FnOk P w K mg base CX0 2 T.a__law_known T.d__law_known ["_law_pairs_here", "_law_here", "_law_peek"] (sp_lknown K) := by
  have G__law_longer := ok_longer (P := P) (w := w) (base := base) T
  refine T.f__law_known.ok sc__law_known (fun vs H Q E h => ?_) (fun cdv A outer s H vs Q E hr h => ?_)
  · obtain ⟨pa, here, d, pus, prl, rows, rfl, _⟩ := h
    rfl
  · obtain ⟨pa, here, d, pus, prl, rows, rfl, hpa, hpr, hp, cl, h0, h1, hpl, d1, bd, q⟩ := h
    refine ⟨_, (pss_cons (ps_set (i := 3) sc__law_known.nd rfl (.inl rfl) (pe_lst (pa_cons (pe_tup pa_nil) pa_nil)))
  (pss_cons (ps_for PassesOwn.never rfl (pi_range1 rfl T.n_range (pa_cons (pv 2) pa_nil)) (pg_name (i := 4) sc__law_known.nd rfl (.inl rfl))
  (pss_one (ps_set (i := 3) sc__law_known.nd rfl (.inl rfl) (pe_call G__law_longer (hr.mono (by decide)) (by rfl) T.g__law_longer T.f__law_longer.kp T.b__law_longer .nil pass0 (pa_cons (pv 3) (pa_cons (pv 0) (pa_cons (pv 1) pa_nil)))))))
  (pss_one (ps_ret (pv 3))))), ?_⟩
    walk_at "g"
    refine tup_go (ks := []) .nil fun p0 H1 n1 e1 a1 _ => ?_
    walk_at "g"
    refine lst_go fun l0 H2 n2 e2 hl0 => ?_
    walk_at "g"
    refine lr1_go (fun i σ' H' => ∃ y4 l us, σ' = [some (.ref pa), some (.int here), some (.int d), some (.ref l), y4] ∧ Ex H H' ∧ H l = none ∧ H' l = some (.lst us) ∧ NAts H' us ((knownF rows i here).map kN))
      ⟨_, l0, _, rfl, e1.trans e2, none_ex e1 n2, hl0, .cons (a1.tx (ex_txn e2)) .nil⟩ ⟨by omega, by omega⟩ ?_ ?_
    · rintro i σ' H3 hi ⟨y4, l, us, rfl, e3, nl, hl, nt⟩
      have lv : ∀ j, levelF prl here j = knownF rows j here := level_known hp cl h0 h1
      have st : longerF prl here (knownF rows i here) = knownF rows (i + 1) here := by rw [← lv i, ← lv (i + 1)]; rfl
      walk_at "g"
      refine ⟨l, pa, here, us, pus, knownF rows i here, prl, rfl, hl, nt, e3 _ _ hpa, hpr.ex e3, fun k hk => ?_, hpl, bd i (by omega), by rw [st]; exact bd (i + 1) (by omega), fun l2 us2 H4 nl2 e4 hl2 nt2 => ?_⟩
      · obtain ⟨a, b⟩ := known_in cl i here h0 h1 k hk
        have := known_len rows i here k hk
        exact ⟨a, b, by omega⟩
      · rw [st] at nt2
        walk_at "g"
        exact ⟨_, l2, us2, rfl, e3.trans e4, none_ex e3 nl2, hl2, nt2⟩
    · rintro σ' H3 ⟨y4, l, us, rfl, e3, nl, hl, nt⟩
      walk_at "g"
      exact q l us H3 nl e3 hl nt
end

end K08

set_option Elab.async false
set_option linter.all false
set_option maxRecDepth 100000
set_option maxHeartbeats 2000000
namespace K08
open PySem PySem.Spec PyProof.Rows L2 Evl AE
local macro_rules | `(tactic| walk_at "c") => `(tactic| first | exact ⟨by decide, by decide⟩ | exact .inr ⟨by decide, by decide⟩ | exact .inl ⟨by decide, by decide⟩ | exact ⟨by decide, by decide, by decide⟩ | (show (0 : Int) < _; decide))
local macro_rules | `(tactic| walk_at "s") => `(tactic| first
  | (with_reducible refine r_var rfl ?_) | (with_reducible refine r_c ?_) | (with_reducible refine r_op ?_) | (with_reducible refine r_un ?_) | (with_reducible refine r_I0 ?_) | (with_reducible refine r_U ?_)
  | (with_reducible refine r_eq rfl ?_) | (with_reducible refine r_ne rfl ?_) | (with_reducible refine r_chain ?_) | (with_reducible refine r_test ?_) | (with_reducible refine r_tB ?_)
  | (with_reducible refine r_bl ?_) | (with_reducible refine r_and ?_) | (with_reducible refine r_or ?_) | (with_reducible refine r_not ?_) | (with_reducible refine r_nil ?_) | (with_reducible refine r_cons ?_)
  | (with_reducible refine r_tupK ?_) | (with_reducible refine r_lstK ?_) | (with_reducible refine r_cb ?_) | (with_reducible refine r_revL ?_) | (with_reducible refine r_ost ?_) | (with_reducible refine r_mkO ?_) | (with_reducible refine r_makeK ?_) | (with_reducible refine r_make ?_) | (with_reducible refine r_setdN ?_) | (with_reducible refine r_nget2 ?_) | (with_reducible refine r_nnew ?_) | (with_reducible refine r_call ?_) | (with_reducible refine r_seq ?_) | (with_reducible refine r_set ?_)
  | (with_reducible refine r_drop ?_) | (with_reducible refine r_ret ?_) | (with_reducible refine r_next ?_) | (with_reducible refine r_if ?_) | (with_reducible refine r_sl ?_) | (with_reducible refine r_nop ?_) | (with_reducible refine r_prt ?_) | (with_reducible refine r_some ?_)
  | (with_reducible refine add_int ?_) | (with_reducible refine int_i ?_) | (with_reducible refine r_forR1 ?_) | (with_reducible refine r_forR2 ?_) | (with_reducible refine r_meth ?_) | (with_reducible refine r_makeS ?_) | (with_reducible refine r_opS ?_) | (with_reducible refine r_makeRS ?_) | (with_reducible refine r_methH ?_) | (with_reducible refine r_callS ?_) | (with_reducible refine r_forL ?_) | (with_reducible refine r_andV ?_) | (with_reducible refine r_orV ?_) | (with_reducible refine r_notV ?_) | (with_reducible refine r_ifE ?_) | (with_reducible refine r_lcL ?_) | (with_reducible refine r_fld ?_) | (with_reducible refine r_get ?_) | (with_reducible refine r_din ?_) | (with_reducible refine r_dget2 ?_) | ((with_reducible refine r_I ?_ ?_); (walk_at "c")))
local macro_rules | `(tactic| walk_at "g") => `(tactic| repeat walk_at "s")
section
variable {P : Program} {w : World} {K : PySem.W.Frag} {mg : Str → Option Value} {base : Heap}
/-! ### the factor of the known pairs -/
def wideF (prl : List (List PairL)) : Int := prl.foldl (fun (W : Int) (r : List PairL) => if (r.length : Int) + 1 > W then (r.length : Int) + 1 else W) 1
theorem wide_snoc (prl : List (List PairL)) (r : List PairL) : wideF (prl ++ [r]) = if (r.length : Int) + 1 > wideF prl then (r.length : Int) + 1 else wideF prl := by
  unfold wideF
  rw [List.foldl_append]
  rfl
def facF (W : Int) : Nat → Int × Nat
  | 0 => (1, 0)
  | i + 1 => if (facF W i).1 * W ≤ 400 then ((facF W i).1 * W, (facF W i).2 + 1) else facF W i
theorem wide_pos (prl : List (List PairL)) : 1 ≤ wideF prl ∧ ∀ B : Int, 1 ≤ B → (∀ r ∈ prl, (r.length : Int) + 1 ≤ B) → wideF prl ≤ B := by
  have gen : ∀ (l : List (List PairL)) (s : Int), s ≤ l.foldl (fun (W : Int) (r : List PairL) => if (r.length : Int) + 1 > W then (r.length : Int) + 1 else W) s ∧ ∀ B : Int, s ≤ B → (∀ r ∈ l, (r.length : Int) + 1 ≤ B) → l.foldl (fun (W : Int) (r : List PairL) => if (r.length : Int) + 1 > W then (r.length : Int) + 1 else W) s ≤ B := by
    intro l
    induction l with
    | nil => intro s; exact ⟨Int.le_refl _, fun B h _ => h⟩
    | cons r l ih =>
      intro s
      obtain ⟨a, b⟩ := ih (if (r.length : Int) + 1 > s then (r.length : Int) + 1 else s)
      refine ⟨Int.le_trans (by split <;> omega) a, fun B h hl => b B (by have := hl r (List.mem_cons_self ..); split <;> omega) fun x hx => hl x (List.mem_cons_of_mem _ hx)⟩
  exact gen prl 1
theorem fac_bd (W : Int) (W1 : 1 ≤ W) : ∀ i, 1 ≤ (facF W i).1 ∧ (facF W i).1 ≤ 400 ∧ (facF W i).2 ≤ i
  | 0 => ⟨by show (1 : Int) ≤ 1; decide, by show (1 : Int) ≤ 400; decide, Nat.le_refl _⟩
  | i + 1 => by
    obtain ⟨a, b, c⟩ := fac_bd W W1 i
    unfold facF
    split
    · rename_i h
      refine ⟨?_, h, Nat.succ_le_succ c⟩
      have := Int.mul_le_mul a W1 (by decide) (by omega)
      exact this
    · exact ⟨a, b, by omega⟩
def sp_factor (K : PySem.W.Frag) : Sp := fun vs H Q _ => ∃ (pa : Addr) (d : Nat) (pus : List V) (prl : List (List PairL)), vs = [.ref pa, .int d] ∧ H pa = some (.lst pus) ∧ RowsAt H pus prl ∧ (∀ r ∈ prl, r.length ≤ 1000) ∧ d ≤ 100 ∧
  ∀ p H', H p = none → Ex H H' → H' p = some (.tup [.int (facF (wideF prl) d).1, .int ((facF (wideF prl) d).2 : Int)]) → Q (.ref p) H'
theorem ok_factor (T : Tp K mg) : FnOk P w K mg base CX0 1 T.a__law_factor T.d__law_factor ["_law_pairs_here", "_law_peek"] (sp_factor K) := by
  refine T.f__law_factor.ok sc__law_factor (fun vs H Q E h => ?_) (fun cdv A outer s H vs Q E hr h => ?_)
  · obtain ⟨pa, d, pus, prl, rfl, _⟩ := h
    rfl
  · obtain ⟨pa, d, pus, prl, rfl, hpa, hpr, hpl, d1, q⟩ := h
    refine ⟨_, (pss_cons (ps_set (i := 2) sc__law_factor.nd rfl (.inl rfl) pe_int)
  (pss_cons (ps_for PassesOwn.never rfl (pi_list (pv 0)) (pg_name (i := 3) sc__law_factor.nd rfl (.inl rfl))
  (pss_one (ps_set (i := 2) sc__law_factor.nd rfl (.inl rfl) (pe_callB (call_max2 rfl) (by rfl) T.n_max (by rfl) (pa_cons (pv 2) (pa_cons (pe_op opAdd (pe_callB c_len (by rfl) T.n_len (by rfl) (pa_cons (pv 3) pa_nil)) pe_int) pa_nil))))))
  (pss_cons (ps_set (i := 4) sc__law_factor.nd rfl (.inl rfl) pe_int)
  (pss_cons (ps_set (i := 5) sc__law_factor.nd rfl (.inl rfl) pe_int)
  (pss_cons (ps_for PassesOwn.never rfl (pi_range1 rfl T.n_range (pa_cons (pv 1) pa_nil)) (pg_name (i := 6) sc__law_factor.nd rfl (.inl rfl))
  (pss_one (ps_if (pt_cmpR op_le (pe_op op_mul (pv 4) (pv 2)) pe_int (nomark _)) (pss_cons (ps_set (i := 4) sc__law_factor.nd rfl (.inl rfl) (pe_op op_mul (pv 4) (pv 2)))
  (pss_one (ps_set (i := 5) sc__law_factor.nd rfl (.inl rfl) (pe_op opAdd (pv 5) pe_int)))) pss_nil)))
  (pss_one (ps_ret (pe_tup (pa_cons (pv 4) (pa_cons (pv 5) pa_nil)))))))))), ?_⟩
    walk_at "g"
    refine ll_go (.inl (.inl hpa)) (fun i σ' H' => ∃ y3, σ' = [some (.ref pa), some (.int d), some (.int (wideF (prl.take i))), y3, none, none, none] ∧ H' = H)
      ⟨_, rfl, rfl⟩ (fun i σ' H' _ z => by obtain ⟨_, _, rfl⟩ := z; exact .inl (.inl hpa)) ?_ ?_
    · rintro i v σ' H' hv ⟨y3, rfl, rfl⟩
      have il : i < prl.length := by rw [← hpr.1]; exact (List.getElem?_eq_some_iff.mp hv).1
      obtain ⟨q2, ws, h1, h2, h3⟩ := hpr.2 i prl[i] (List.getElem?_eq_getElem il)
      rw [hv] at h1
      cases h1
      have lws : ws.length = prl[i].length := by rw [h3.len, List.length_map]
      have tk : prl.take (i + 1) = prl.take i ++ [prl[i]] := by rw [List.take_add_one, List.getElem?_eq_getElem il]; rfl
      refine gname1 ?_
      walk_at "g"
      refine len_l (.inl (.inl h2)) ?_
      walk_at "g"
      refine ⟨_, _, rfl, ?_⟩
      rw [lws]
      refine ⟨some (.ref q2), ?_, rfl⟩
      rw [tk, wide_snoc]
      rfl
    · rintro σ' H' ⟨y3, rfl, rfl⟩
      rw [hpr.1, List.take_length]
      obtain ⟨w1, w2⟩ := wide_pos prl
      have w3 := w2 1001 (by decide) fun r hr => by have := hpl r hr; omega
      walk_at "g"
      refine lr1_go (fun i σ' H2 => ∃ y6, σ' = [some (.ref pa), some (.int d), some (.int (wideF prl)), y3, some (.int (facF (wideF prl) i).1), some (.int ((facF (wideF prl) i).2 : Int)), y6] ∧ H2 = H')
        ⟨_, rfl, rfl⟩ ⟨by omega, by omega⟩ ?_ ?_
      · rintro i σ' H2 hi ⟨y6, rfl, rfl⟩
        obtain ⟨f1, f2, f3⟩ := fac_bd (wideF prl) w1 i
        walk_at "g"
        refine r_I (.inr ⟨by omega, by omega⟩) ?_
        walk_at "g"
        have st : facF (wideF prl) (i + 1) = if (facF (wideF prl) i).1 * wideF prl ≤ 400 then ((facF (wideF prl) i).1 * wideF prl, (facF (wideF prl) i).2 + 1) else facF (wideF prl) i := rfl
        refine ite_b (fun hc => ?_) (fun hc => ?_)
        · have hl := of_decide_eq_true hc
          rw [if_pos hl] at st
          walk_at "g"
          refine r_I (.inr ⟨by omega, by omega⟩) ?_
          walk_at "g"
          refine ⟨some (.int i), ?_, rfl⟩
          rw [st]
          rfl
        · have hl := of_decide_eq_false hc
          rw [if_neg hl] at st
          walk_at "g"
          refine ⟨some (.int i), ?_, rfl⟩
          rw [st]
          rfl
      · rintro σ' H2 ⟨y6, rfl, rfl⟩
        walk_at "g"
        refine tup_go' fun p H3 np e3 h3 => ?_
        exact q p H3 np e3 h3
/-! ### the size that is due -/
def plSize (e : Int) (s : Int) (ps : List PlainD) : Int := ps.foldl (fun s p => s * (p.n + e)) s
def sp_lsize (K : PySem.W.Frag) : Sp := fun vs H Q _ => ∃ (b am as_ pl : Addr) (p : PlainD) (ws us : List V) (ps : List PlainD) (F f : Int), vs = [.ref b, .ref pl, .int F, .int f] ∧ PlainAt H b p am as_ ws ∧ H pl = some (.lst us) ∧ PlainsAt H us ps ∧ (∀ x ∈ ps, 1 ≤ x.n ∧ x.n ≤ 4) ∧ 1 ≤ F ∧ F ≤ 400 ∧
  Q (.int (plSize (if 0 < f then 1 else 0) (p.n * F) ps)) H
theorem ok_lsize (T : Tp K mg) : FnOk P w K mg base CX0 1 T.a__law_size T.d__law_size ["_law_plain", "_law_plains", "_law_factor_here", "_law_drops"] (sp_lsize K) := by
  refine T.f__law_size.ok sc__law_size (fun vs H Q E h => ?_) (fun cdv A outer s H vs Q E hr h => ?_)
  · obtain ⟨b, am, as_, pl, p, ws, us, ps, F, f, rfl, _⟩ := h
    rfl
  · obtain ⟨b, am, as_, pl, p, ws, us, ps, F, f, rfl, ⟨h1, h2, h3, h4⟩, hpl, hps, hn, F1, F2, q⟩ := h
    refine ⟨_, (pss_cons (ps_set (i := 4) sc__law_size.nd rfl (.inl rfl) (pe_op op_mul (pe_ix ix_seq (pv 0) pe_int (fun _ _ => rfl)) (pv 2)))
  (pss_cons (ps_for PassesOwn.never rfl (pi_list (pv 1)) (pg_name (i := 5) sc__law_size.nd rfl (.inl rfl))
  (pss_one (ps_set (i := 4) sc__law_size.nd rfl (.inl rfl) (pe_op op_mul (pv 4) (pe_op opAdd (pe_ix ix_seq (pv 5) pe_int (fun _ _ => rfl)) (pe_callTy c_int (by rfl) T.n_int (by rfl) (pa_cons (pe_cmpR op_gt (pv 3) pe_int (nomark _)) pa_nil)))))))
  (pss_one (ps_ret (pv 4))))), ?_⟩
    walk_at "g"
    refine ix_t (.inl (.inl h1)) (show atI _ 0 = some (.int p.n) from rfl) ?_
    walk_at "g"
    refine r_I (.inr ⟨by omega, by omega⟩) ?_
    walk_at "g"
    generalize he : (if 0 < f then (1 : Int) else 0) = e at q
    have e01 : 0 ≤ e ∧ e ≤ 1 := by rw [← he]; split <;> exact ⟨by decide, by decide⟩
    refine ll_go (.inl (.inl hpl)) (fun i σ' H' => ∃ y5, σ' = [some (.ref b), some (.ref pl), some (.int F), some (.int f), some (.int (plSize e (p.n * F) (ps.take i))), y5] ∧ H' = H)
      ⟨_, rfl, rfl⟩ (fun i σ' H' _ z => by obtain ⟨_, _, rfl⟩ := z; exact .inl (.inl hpl)) ?_ ?_
    · rintro i v σ' H' hv ⟨y5, rfl, rfl⟩
      have il : i < ps.length := by rw [← hps.1]; exact (List.getElem?_eq_some_iff.mp hv).1
      obtain ⟨b2, am2, as2, ws2, g0, ⟨g1, _⟩⟩ := hps.2 i ps[i] (List.getElem?_eq_getElem il)
      rw [hv] at g0
      cases g0
      obtain ⟨n1, n2⟩ := hn ps[i] (List.getElem_mem il)
      refine gname1 ?_
      walk_at "g"
      refine ix_t (.inl (.inl g1)) (show atI _ 0 = some (.int ps[i].n) from rfl) ?_
      walk_at "g"
      refine .inr ⟨_, rfl, ?_⟩
      have ee : (if decide (0 < f) = true then (1 : Int) else 0) = e := by
        rw [← he]
        by_cases z : 0 < f
        · rw [if_pos z, if_pos (decide_eq_true z)]
        · rw [if_neg z, if_neg (by rw [decide_eq_false z]; decide)]
      rw [ee]
      walk_at "g"
      refine r_I (.inr ⟨by omega, by omega⟩) ?_
      walk_at "g"
      refine ⟨some (.ref b2), ?_, rfl⟩
      have tk : ps.take (i + 1) = ps.take i ++ [ps[i]] := by rw [List.take_add_one, List.getElem?_eq_getElem il]; rfl
      have sn : plSize e (p.n * F) (ps.take (i + 1)) = plSize e (p.n * F) (ps.take i) * (ps[i].n + e) := by
        rw [tk]
        unfold plSize
        rw [List.foldl_append]
        rfl
      rw [sn]
      rfl
    · rintro σ' H' ⟨y5, rfl, rfl⟩
      rw [hps.1, List.take_length]
      walk_at "g"
      exact q
end

end K08

set_option Elab.async false
set_option linter.all false
set_option maxRecDepth 100000
set_option maxHeartbeats 2000000
namespace K08
open PySem PySem.Spec PyProof.Rows L2 Evl AE
local macro_rules | `(tactic| walk_at "c") => `(tactic| first | exact ⟨by decide, by decide⟩ | exact .inr ⟨by decide, by decide⟩ | exact .inl ⟨by decide, by decide⟩ | exact ⟨by decide, by decide, by decide⟩ | (show (0 : Int) < _; decide))
local macro_rules | `(tactic| walk_at "s") => `(tactic| first
  | (with_reducible refine r_var rfl ?_) | (with_reducible refine r_c ?_) | (with_reducible refine r_op ?_) | (with_reducible refine r_un ?_) | (with_reducible refine r_I0 ?_) | (with_reducible refine r_U ?_)
  | (with_reducible refine r_eq rfl ?_) | (with_reducible refine r_ne rfl ?_) | (with_reducible refine r_chain ?_) | (with_reducible refine r_test ?_) | (with_reducible refine r_tB ?_)
  | (with_reducible refine r_bl ?_) | (with_reducible refine r_and ?_) | (with_reducible refine r_or ?_) | (with_reducible refine r_not ?_) | (with_reducible refine r_nil ?_) | (with_reducible refine r_cons ?_)
  | (with_reducible refine r_tupK ?_) | (with_reducible refine r_lstK ?_) | (with_reducible refine r_cb ?_) | (with_reducible refine r_revL ?_) | (with_reducible refine r_ost ?_) | (with_reducible refine r_mkO ?_) | (with_reducible refine r_makeK ?_) | (with_reducible refine r_make ?_) | (with_reducible refine r_setdN ?_) | (with_reducible refine r_nget2 ?_) | (with_reducible refine r_nnew ?_) | (with_reducible refine r_call ?_) | (with_reducible refine r_seq ?_) | (with_reducible refine r_set ?_)
  | (with_reducible refine r_drop ?_) | (with_reducible refine r_ret ?_) | (with_reducible refine r_next ?_) | (with_reducible refine r_if ?_) | (with_reducible refine r_sl ?_) | (with_reducible refine r_nop ?_) | (with_reducible refine r_prt ?_) | (with_reducible refine r_some ?_)
  | (with_reducible refine add_int ?_) | (with_reducible refine int_i ?_) | (with_reducible refine r_forR1 ?_) | (with_reducible refine r_forR2 ?_) | (with_reducible refine r_meth ?_) | (with_reducible refine r_makeS ?_) | (with_reducible refine r_opS ?_) | (with_reducible refine r_makeRS ?_) | (with_reducible refine r_methH ?_) | (with_reducible refine r_callS ?_) | (with_reducible refine r_forL ?_) | (with_reducible refine r_andV ?_) | (with_reducible refine r_orV ?_) | (with_reducible refine r_notV ?_) | (with_reducible refine r_ifE ?_) | (with_reducible refine r_lcL ?_) | (with_reducible refine r_fld ?_) | (with_reducible refine r_get ?_) | (with_reducible refine r_din ?_) | (with_reducible refine r_dget2 ?_) | ((with_reducible refine r_I ?_ ?_); (walk_at "c")))
local macro_rules | `(tactic| walk_at "g") => `(tactic| repeat walk_at "s")
section
variable {P : Program} {w : World} {K : PySem.W.Frag} {mg : Str → Option Value} {base : Heap}
/-! ### a game that the law makes -/
/-- what is asked of a making, and what follows -/
def WantG (T : Tp K mg) (H : Hp) (m : Mach) (l : LotD) (a f : Int) (E : XK) (ok : Int → Addr → List (Str × V) → Addr → Hp → Prop) : Prop := ∀ M, mostF m.rows m.size M → (gameS m l a f M).natAbs < 10 ^ 18 ∧
  (20000 < gameS m l a f M → Rais H T.C_TooLarge "size" (.int (gameS m l a f M)) E) ∧ (gameS m l a f M ≤ 20000 → Fits m l a f ∧
    ∀ (dx : Addr) (fs : List (Str × V)) (tp : Addr) (H' : Hp), List.lookup ("first" : Str) ((("size" : Str), V.int (gameS m l a f M)) :: fs) = some (V.ref tp) → FirstAt K H' tp l.sts m.now (knownF m.rows a.toNat m.now) → ok (gameS m l a f M) dx fs tp H')
theorem game_goN {T : Tp K mg} {x y z dx : Addr} {m : Mach} {l : LotD} {a f : Int} {H H1 : Hp} {Q : VK} {E : XK} {vs : List V} {ok : Int → Addr → List (Str × V) → Addr → Hp → Prop} (ev : vs = [.ref x, .ref y, .ref z, .int a, .int f]) (hx : H1 x = some (.ins T.C_Game dx [])) (e1 : Ex H H1) (hm : MachAt H y T.C_Pattern m) (vm : ValidM m) (hl : LotAt T H z l) (lse : l.sts.length = l.ms.length)
    (l5 : l.ms.length ≤ 5) (hV : ∀ k ∈ l.ms, ValidM k) (a0 : 0 ≤ a) (a4 : a ≤ 4) (f0 : 0 ≤ f) (f5 : f ≤ 5) (want : WantG T H m l a f E ok)
    (q : ∀ S fs tp H', ok S dx fs tp H' → H' x = some (.ins T.C_Game dx (("size", .int S) :: fs)) → Ch x H1 H' → Q .non H') : sp_game T vs H1 Q E := by
  refine ⟨x, y, z, dx, m, l, a, f, ev, hx, hm.ex e1, vm, hl.ex e1, lse, l5, hV, by omega, by omega, fun h => absurd ⟨a0, a4⟩ h, fun _ _ => ⟨fun h => absurd ⟨f0, f5⟩ h, fun _ _ M mo => ?_⟩⟩
  obtain ⟨w1, w2, w3⟩ := want M mo
  exact ⟨w1, fun h d H' e hd => w2 h d H' (e1.trans e) hd, fun h => ⟨(w3 h).1, fun fs tp H' hx' lk fi c => q _ fs tp H' ((w3 h).2 dx fs tp H' lk fi) hx' c⟩⟩
def sp_lgame (T : Tp K mg) : Sp := fun vs H Q E => ∃ (y z : Addr) (m : Mach) (l : LotD) (a f : Int) (ok : Int → Addr → List (Str × V) → Addr → Hp → Prop), vs = [.ref y, .ref z, .int a, .int f] ∧ MachAt H y T.C_Pattern m ∧ ValidM m ∧ LotAt T H z l ∧ l.sts.length = l.ms.length ∧ l.ms.length ≤ 5 ∧ (∀ k ∈ l.ms, ValidM k) ∧
  0 ≤ a ∧ a ≤ 4 ∧ 0 ≤ f ∧ f ≤ 5 ∧ WantG T H m l a f E ok ∧ ∀ S x dx fs tp H', ok S dx fs tp H' → H x = none → Ex H H' → H' x = some (.ins T.C_Game dx (("size", .int S) :: fs)) → Q (.ref x) H'
theorem ok_lgame (T : Tp K mg) (SO : SupOk P T.file) : FnOk P w K mg base (L2N.CX P w) 12 T.a__law_game T.d__law_game ["_law_pattern", "_law_lot_here", "_law_peek", "_law_drops"] (sp_lgame T) := by
  have G_game := ok_game (w := w) (base := base) T SO
  refine fok_N T.f__law_game sc__law_game (fun vs H Q E h => ?_) (fun cdv A outer s H vs Q E hr h => ?_)
  · obtain ⟨y, z, m, l, a, f, ok, rfl, _⟩ := h
    rfl
  · obtain ⟨y, z, m, l, a, f, ok, rfl, hm, vm, hl, lse, l5, hV, a0, a4, f0, f5, want, q⟩ := h
    refine ⟨_, (pss_cons (ps_if (PW.pt (pw_and (pt_cmpR op_eq (pv 3) pe_int (nomark _)) (pw_and1 (pt_cmpR op_eq (pv 2) pe_int (nomark _))))) (pss_one (ps_ret (pe_make T.mk_Game G_game (hr.mono (by decide)) (by rfl) T.g_Game T.e_gb T.e_gvs (passN (L2N.takes_of rfl rfl rfl rfl)) (pa_cons (pv 0) (pa_cons (pv 1) pa_nil))))) pss_nil)
  (pss_cons (ps_if (pt_cmpR op_eq (pv 3) pe_int (nomark _)) (pss_one (ps_ret (pe_makeK (n := 2) T.mk_Game G_game (hr.mono (by decide)) (by rfl) T.g_Game T.e_ka (passN (L2N.takes_of rfl rfl rfl rfl)) (pa_cons (pv 0) (pa_cons (pv 1) pa_nil)) (pk_cons (pv 2) pk_nil)))) pss_nil)
  (pss_cons (ps_if (pt_cmpR op_eq (pv 2) pe_int (nomark _)) (pss_one (ps_ret (pe_makeK (n := 2) T.mk_Game G_game (hr.mono (by decide)) (by rfl) T.g_Game T.e_kf (passN (L2N.takes_of rfl rfl rfl rfl)) (pa_cons (pv 0) (pa_cons (pv 1) pa_nil)) (pk_cons (pv 3) pk_nil)))) pss_nil)
  (pss_one (ps_ret (pe_makeK (n := 2) T.mk_Game G_game (hr.mono (by decide)) (by rfl) T.g_Game T.e_kfa (passN (L2N.takes_of rfl rfl rfl rfl)) (pa_cons (pv 0) (pa_cons (pv 1) pa_nil)) (pk_cons (pv 3) (pk_cons (pv 2) pk_nil)))))))), ?_⟩
    walk_at "g"
    by_cases zf : f = 0
    · subst zf
      refine ite_t rfl ?_
      walk_at "g"
      by_cases za : a = 0
      · subst za
        refine ite_t rfl ?_
        walk_at "g"
        refine mki_go fun x dx H1 nx e1 hx => ?_
        exact game_goN rfl hx e1 hm vm hl lse l5 hV a0 a4 f0 f5 want (fun S fs tp H' hok hx' c => ⟨rfl, q S x dx fs tp H' hok nx (ex_made nx e1 c) hx'⟩)
      · refine ite_f (decide_eq_false fun z => za (V.int.inj z)) ?_
        walk_at "g"
        refine ite_t rfl ?_
        walk_at "g"
        refine ⟨rfl, rfl, mki_go fun x dx H1 nx e1 hx => ?_⟩
        exact game_goN rfl hx e1 hm vm hl lse l5 hV a0 a4 f0 f5 want (fun S fs tp H' hok hx' c => ⟨rfl, q S x dx fs tp H' hok nx (ex_made nx e1 c) hx'⟩)
    · refine ite_f (decide_eq_false fun z => zf (V.int.inj z)) ?_
      walk_at "g"
      try refine ite_f rfl ?_
      walk_at "g"
      refine ite_f (decide_eq_false fun z => zf (V.int.inj z)) ?_
      walk_at "g"
      by_cases za : a = 0
      · subst za
        refine ite_t rfl ?_
        walk_at "g"
        refine ⟨rfl, rfl, mki_go fun x dx H1 nx e1 hx => ?_⟩
        exact game_goN rfl hx e1 hm vm hl lse l5 hV a0 a4 f0 f5 want (fun S fs tp H' hok hx' c => ⟨rfl, q S x dx fs tp H' hok nx (ex_made nx e1 c) hx'⟩)
      · refine ite_f (decide_eq_false fun z => za (V.int.inj z)) ?_
        walk_at "g"
        refine ⟨rfl, rfl, mki_go fun x dx H1 nx e1 hx => ?_⟩
        exact game_goN rfl hx e1 hm vm hl lse l5 hV a0 a4 f0 f5 want (fun S fs tp H' hok hx' c => ⟨rfl, q S x dx fs tp H' hok nx (ex_made nx e1 c) hx'⟩)
/-! ### its error -/
def sp_raised (T : Tp K mg) : Sp := fun vs H Q _ => ∃ (y z : Addr) (m : Mach) (l : LotD) (a f : Int), vs = [.ref y, .ref z, .int a, .int f] ∧ MachAt H y T.C_Pattern m ∧ ValidM m ∧ LotAt T H z l ∧ l.sts.length = l.ms.length ∧ l.ms.length ≤ 5 ∧ (∀ k ∈ l.ms, ValidM k) ∧
  0 ≤ a ∧ a ≤ 4 ∧ 0 ≤ f ∧ f ≤ 5 ∧ (∀ M, mostF m.rows m.size M → (gameS m l a f M).natAbs < 10 ^ 18 ∧ 20000 < gameS m l a f M ∧ ∀ H', Ex H H' → Q (.int (gameS m l a f M)) H')
theorem ok_raised (T : Tp K mg) (SO : SupOk P T.file) : FnOk P w K mg base CX0 14 T.a__law_size_raised T.d__law_size_raised ["_law_pattern", "_law_lot_here", "_law_peek", "_law_drops"] (sp_raised T) := by
  have GH_whole : L2H.FnH P w K mg base CX0 1 T.a__law_whole T.d__law_whole ["_law_x"] sp_whole := okH_whole T
  have G__law_game := ok_lgame (w := w) (base := base) T SO
  refine T.f__law_size_raised.ok sc__law_size_raised (fun vs H Q E h => ?_) (fun cdv A outer s H vs Q E hr h => ?_)
  · obtain ⟨y, z, m, l, a, f, rfl, _⟩ := h
    rfl
  · obtain ⟨y, z, m, l, a, f, rfl, hm, vm, hl, lse, l5, hV, a0, a4, f0, f5, want⟩ := h
    refine ⟨_, pss_cons (ps_try_manyA (i := 4) (Wout := fun _ _ _ _ => False) rfl rfl sc__law_size_raised.nd rfl rfl takesN0
        (fun W pn xe tk _ => (pss_one (ps_expr (pe_callS G__law_game (hr.mono (by decide)) (by rfl) T.g__law_game T.f__law_game.kp T.b__law_game (L2N.passAt tk) (pa_cons (pv 0) (pa_cons (pv 1) (pa_cons (pv 2) (pa_cons (pv 3) pa_nil))))))))
        (HdsA.cons ⟨rfl, by decide, .inl T.g_TooLarge⟩ (fun a oe cls d pn hz hf => (pss_cons (ps_if (PW.pt (pw_and (pt_val (pe_callB (call_isX T.err_TooLarge.ex hz.zc hf) (by rfl) T.n_isinstance (by rfl) (pa_cons (pv 4) (pa_cons (pe_glob rfl T.g_AsksError (show RelV (.ref T.C_AsksError) (.ref T.C_AsksError) from rfl)) pa_nil)))) (pw_and (pt_not (pt_val (pe_callB (call_isX T.err_TooLarge.ex hz.zc hf) (by rfl) T.n_isinstance (by rfl) (pa_cons (pv 4) (pa_cons (pe_glob rfl T.g_BadCount (show RelV (.ref T.C_BadCount) (.ref T.C_BadCount) from rfl)) pa_nil))))) (pw_and1 (pt_val (L2H.pe_callH GH_whole (L2H.roomH_mark (hr.mono (by decide)) _) (hotc hz hf) (by rfl) T.g__law_whole T.f__law_whole.kp T.b__law_whole (fun σ => passH σ) (pa_cons (pe_xf T.err_TooLarge.xf (T.err_TooLarge.no _ (by simp)) hz.zc hf (pv 4)) pa_nil))))))) (pss_one (ps_ret (pe_xf T.err_TooLarge.xf (T.err_TooLarge.no _ (by simp)) hz.zc hf (pv 4)))) pss_nil)
  (pss_one (ps_ret (pe_un un_neg pe_int))))) HdsA.nil))
      (pss_one (ps_ret pe_int)), ?_⟩
    walk_at "g"
    refine ⟨y, z, m, l, a, f, fun S _ _ _ H' => ∀ R : Prop, R, rfl, hm, vm, hl, lse, l5, hV, a0, a4, f0, f5, fun M mo => ?_, fun S x dx fs tp H' hok _ _ _ => hok _⟩
    obtain ⟨w1, w2, w3⟩ := want M mo
    refine ⟨w1, fun _ => ?_, fun h => absurd w2 (by omega)⟩
    intro d H5 e5 hd
    refine ⟨true, T.err_TooLarge.te, fun _ a na => ?_, fun z => nomatch z⟩
    walk_at "g"
    refine isx_go hd (fun _ z => z) T.ik_TooLarge_AsksError ?_
    walk_at "g"
    refine ite_t rfl ?_
    walk_at "g"
    refine isx_go hd (fun _ z => z) T.ik_TooLarge_BadCount ?_
    walk_at "g"
    refine ite_t rfl ?_
    walk_at "g"
    refine xf_go rfl hd rfl ?_
    walk_at "g"
    refine ⟨_, rfl, ?_⟩
    walk_at "g"
    refine ite_t rfl ?_
    walk_at "g"
    refine xf_go rfl hd rfl ?_
    walk_at "g"
    exact w3 H5 e5
/-! ### the first standings are those due -/
def stanN (now : Int) (sts : List Int) (row : List PairL) : NK := .tup [.int now, .tup (sts.map NK.int), kN row]
theorem ints_toD : ∀ l : List Int, toDs (l.map NK.int) = l.map PyData.int
  | [] => by rw [List.map_nil, toDs]; rfl
  | i :: l => by rw [List.map_cons, toDs, toD, ints_toD l]; rfl
theorem ints_dpa {K : PySem.W.Frag} {H : Hp} : ∀ l : List Int, DpAll K H (l.map V.int) (l.map PyData.int)
  | [] => .nil
  | i :: l => .cons (.int i) (ints_dpa l)
theorem stan_dp {K : PySem.W.Frag} {H : Hp} {p : Addr} {now : Int} {sts : List Int} {row : List PairL} (h : StanAt K H p now sts row) : Dp K H (.ref p) (toD (stanN now sts row)) := by
  obtain ⟨au, rk, h1, h2, h3⟩ := h
  unfold stanN
  rw [toD, toDs, toDs, toDs, toDs, toD, toD]
  refine .tup h1 (.cons (.int _) (.cons ?_ (.cons (nat_dp h3) .nil)))
  rw [ints_toD]
  exact .tup h2 (ints_dpa sts)
def StansAt (K : PySem.W.Frag) (H : Hp) (us : List V) (now : Int) (sts : List Int) (rows : List (List PairL)) : Prop := us.length = rows.length ∧ ∀ (i : Nat) (row : List PairL), rows[i]? = some row → ∃ p : Addr, us[i]? = some (V.ref p) ∧ StanAt K H p now sts row
theorem stans_dp {K : PySem.W.Frag} {H : Hp} {now : Int} {sts : List Int} : ∀ {us : List V} {rows : List (List PairL)}, StansAt K H us now sts rows → DpAll K H us (toDs (rows.map (stanN now sts)))
  | [], [], _ => by rw [List.map_nil, toDs]; exact .nil
  | [], _ :: _, h => nomatch h.1
  | _ :: _, [], h => nomatch h.1
  | u :: us, r :: rows, h => by
    rw [List.map_cons, toDs]
    obtain ⟨p, e, hp⟩ := h.2 0 r rfl
    cases e
    exact .cons (stan_dp hp) (stans_dp ⟨Nat.succ.inj h.1, fun i row hi => h.2 (i + 1) row hi⟩)
theorem FirstAt.stans {K : PySem.W.Frag} {H : Hp} {tp : Addr} {sts : List Int} {now : Int} {rows : List (List PairL)} (h : FirstAt K H tp sts now rows) : ∃ us, SqT K H tp us ∧ StansAt K H us now sts rows := by
  obtain ⟨us, h1, h2, h3⟩ := h
  refine ⟨us, h1, h2, fun i row hi => ?_⟩
  obtain ⟨p, au, rk, k1, k2, k3, k4⟩ := h3 i row hi
  exact ⟨p, k1, au, rk, k2, k3, k4⟩
theorem StanAt.kp {K : PySem.W.Frag} {H H' : Hp} {p : Addr} {sts : List Int} {now : Int} {row : List PairL} (e : Keeps H H') (h : StanAt K H p now sts row) : StanAt K H' p now sts row := by
  obtain ⟨au, rk, h1, h2, h3⟩ := h
  exact ⟨au, rk, e.r h1, e.r h2, h3.tx e.n⟩
theorem StansAt.kp {K : PySem.W.Frag} {H H' : Hp} {us : List V} {sts : List Int} {now : Int} {rows : List (List PairL)} (e : Keeps H H') (h : StansAt K H us now sts rows) : StansAt K H' us now sts rows := by
  refine ⟨h.1, fun i row hi => ?_⟩
  obtain ⟨p, k1, k2⟩ := h.2 i row hi
  exact ⟨p, k1, k2.kp e⟩
theorem ints_okN (l : List Int) : okNs (l.map NK.int) = true := by
  rw [okNs_all, List.all_eq_true]
  intro x hx
  obtain ⟨i, _, rfl⟩ := List.mem_map.mp hx
  simp [okN]
theorem pN_ok {p : PairL} (h : PyData.strOk p.1 = true) : okN (pN p) = true := by
  simp [pN, okN, okNs, h]
theorem kN_ok {k : List PairL} (h : ∀ p ∈ k, PyData.strOk p.1 = true) : okN (kN k) = true := by
  unfold kN
  rw [okN, okNs_all, List.all_eq_true]
  intro x hx
  obtain ⟨p, hp, rfl⟩ := List.mem_map.mp hx
  exact pN_ok (h p hp)
theorem stans_ok {now : Int} {sts : List Int} {rows : List (List PairL)} (h : ∀ k ∈ rows, ∀ p ∈ k, PyData.strOk p.1 = true) : okNs (rows.map (stanN now sts)) = true := by
  rw [okNs_all, List.all_eq_true]
  intro x hx
  obtain ⟨k, hk, rfl⟩ := List.mem_map.mp hx
  simp [stanN, okN, okNs, ints_okN, kN_ok (h k hk)]
theorem stans_depth {now : Int} {sts : List Int} {rows : List (List PairL)} : NK.depths (rows.map (stanN now sts)) ≤ 63 := depths_le fun x hx => by
  obtain ⟨k, _, rfl⟩ := List.mem_map.mp hx
  unfold stanN NK.depth
  have : NK.depths [NK.int now, NK.tup (sts.map NK.int), kN k] ≤ 2 := depths_le fun y hy => by
    rcases List.mem_cons.mp hy with rfl | hy
    · exact Nat.zero_le _
    rcases List.mem_cons.mp hy with rfl | hy
    · unfold NK.depth
      have : NK.depths (sts.map NK.int) ≤ 0 := depths_le fun z hz => by
        obtain ⟨i, _, rfl⟩ := List.mem_map.mp hz
        exact Nat.le_refl _
      omega
    rw [List.mem_singleton.mp hy]
    exact kN_depth _
  omega
def sp_first (T : Tp K mg) : Sp := fun vs H Q _ => ∃ (g dx due tp : Addr) (S now : Int) (fs : List (Str × V)) (dus : List V) (sts : List Int) (rows : List (List PairL)), vs = [.ref g, .int S, .ref due] ∧ H g = some (.ins T.C_Game dx (("size", .int S) :: fs)) ∧ List.lookup ("first" : Str) ((("size" : Str), V.int S) :: fs) = some (V.ref tp) ∧
  FirstAt K H tp sts now rows ∧ H due = some (.lst dus) ∧ StansAt K H dus now sts rows ∧ rows.length ≤ 100000 ∧ (∀ k ∈ rows, k.length ≤ 1000) ∧ sts.length ≤ 1000 ∧ (∀ k ∈ rows, ∀ p ∈ k, PyData.strOk p.1 = true) ∧ ∀ H', Ex H H' → Q (.bl true) H'
theorem ok_first (T : Tp K mg) : FnOk P w K mg base CX0 4 T.a__law_first_holds T.d__law_first_holds ["_law_game_here", "_law_size_here", "_law_due"] (sp_first T) := by
  have G__law_whole : FnOk P w K mg base CX0 1 T.a__law_whole T.d__law_whole ["_law_x"] sp_whole := ok_whole T
  have G__law_is_standing := ok_isStan (P := P) (w := w) (base := base) T
  refine T.f__law_first_holds.ok sc__law_first_holds (fun vs H Q E h => ?_) (fun cdv A outer s H vs Q E hr h => ?_)
  · obtain ⟨g, dx, due, tp, S, now, fs, dus, sts, rows, rfl, _⟩ := h
    rfl
  · obtain ⟨g, dx, due, tp, S, now, fs, dus, sts, rows, rfl, hg, lk, fi, hdue, hst, rl, kl, sl, sok, q⟩ := h
    have hu64 := hu64_of hr
    obtain ⟨us, htp, hus⟩ := fi.stans
    have lus := hus.1
    refine ⟨_, (pss_cons (ps_if (PW.pt (pw_or (pt_not (pt_val (pe_call G__law_whole (hr.mono (by decide)) (by rfl) T.g__law_whole T.f__law_whole.kp T.b__law_whole .nil pass0 (pa_cons (pe_fld (pv 0) rfl) pa_nil)))) (pw_or (pt_cmpR op_ne (pe_fld (pv 0) rfl) (pv 1) (nomark _)) (pw_or1 (pt_not (pt_val (pe_callB c_isinstance (by rfl) T.n_isinstance (by rfl) (pa_cons (pe_fld (pv 0) rfl) (pa_cons (pe_bltn (by rfl) T.n_tuple (by rfl) (show RelV (.ty "tuple") (.type "tuple") from rfl)) pa_nil))))))))) (pss_one (ps_ret pe_bl)) pss_nil)
  (pss_one (ps_ret (pe_and (pe_callB (cr_all rfl) (by rfl) T.n_all (by rfl) (pa_cons (pe_lc (own := [("_law_standing", 3)]) (g := gName 3) (tt := tYes) rfl sc__law_first_holds.nd (pi_tup (pe_fld (pv 0) rfl)) (blkOk_by (N := N__law_first_holds) (sc := defScope s__law_first_holds) (by decide +kernel)) (fun _ _ _ _ _ => (pg_name (i := 3) sc__law_first_holds.nd rfl (.inl rfl))) (fun _ _ _ _ _ => pts_nil) (fun _ _ _ _ _ => (pe_call G__law_is_standing (hr.mono (by decide)) (by rfl) T.g__law_is_standing T.f__law_is_standing.kp T.b__law_is_standing .nil pass0 (pa_cons (pv 3) pa_nil)))) pa_nil)) (pe_one (pe_cmpR (op_eqD hu64) (pe_callTy c_list (by rfl) T.n_list (by rfl) (pa_cons (pe_fld (pv 0) rfl) pa_nil)) (pv 2) (nomark _))))))), ?_⟩
    walk_at "g"
    refine gtf_go hg T.cl_Game T.na_Game_size (v := .int S) rfl ?_
    walk_at "g"
    refine ⟨S, rfl, ?_⟩
    refine ⟨_, rfl, ?_⟩
    refine ite_f rfl ?_
    walk_at "g"
    refine gtf_go hg T.cl_Game T.na_Game_size (v := .int S) rfl ?_
    walk_at "g"
    refine ite_f (by rw [decide_eq_true rfl]; rfl) ?_
    walk_at "g"
    refine gtf_go hg T.cl_Game T.na_Game_first lk ?_
    walk_at "g"
    refine ⟨_, _, _, _, true, rfl, .ty _, ty_t htp, rfl, ?_⟩
    refine ⟨_, rfl, ?_⟩
    refine ite_f rfl ?_
    try refine ite_f rfl ?_
    walk_at "g"
    refine lco_t (a := tp) (xs := us) (fun i acc _ => acc = (List.replicate i true).map V.bl) ⟨fun _ _ _ _ _ h => h, fun _ _ _ _ _ _ _ _ h => h⟩ (fun R r => ?_) htp (by omega) rfl ?_ ?_
    · walk_at "g"
      refine gtf_go hg T.cl_Game T.na_Game_first lk ?_
      exact r
    · intro i v acc Ha hv al ea pa R R2 r
      have il : i < rows.length := by rw [← lus]; exact (List.getElem?_eq_some_iff.mp hv).1
      obtain ⟨p, hp, sp⟩ := hus.2 i rows[i] (List.getElem?_eq_getElem il)
      rw [hv] at hp
      cases hp
      refine gname1 ⟨rfl, yes_q (ite_t rfl ?_)⟩
      walk_at "g"
      refine ⟨p, now, sts, rows[i], rfl, sp.kp (keeps_ex ea), sl, kl _ (List.getElem_mem il), fun He ee => ?_⟩
      exact r _ He ee (by rw [pa, List.replicate_succ', List.map_append]; rfl)
    intro D acc H1 nD al e1 hD pa
    walk_at "g"
    refine ⟨D, _, rfl, .inl (.inl (by rw [hD, pa])), ?_⟩
    rw [all_true]
    refine ⟨_, rfl, ite_t rfl ?_⟩
    walk_at "g"
    refine gtf_go (e1 _ _ hg) T.cl_Game T.na_Game_first lk ?_
    walk_at "g"
    refine list_s (.inr (ex_t e1 htp)) fun l2 H2 nl2 e2 h2 => ?_
    walk_at "g"
    have k2 := keeps_ex (e1.trans e2)
    refine ⟨_, _, .lst (.inl (.inl h2)) (stans_dp (hus.kp k2)), .lst (.inl (.inl ((e1.trans e2) _ _ hdue))) (stans_dp (hst.kp k2)), shps (stans_ok sok) stans_depth, shps (stans_ok sok) stans_depth, ?_⟩
    rw [show PyData.eqv (.list (toDs (rows.map (stanN now sts)))) (.list (toDs (rows.map (stanN now sts)))) = PyData.eqvAll (toDs (rows.map (stanN now sts))) (toDs (rows.map (stanN now sts))) by simp [PyData.eqv], toDs_eqv, decide_eq_true rfl]
    exact q H2 (e1.trans e2)
end

end K08

set_option Elab.async false
set_option linter.all false
set_option maxRecDepth 100000
set_option maxHeartbeats 2000000
namespace K08
open PySem PySem.Spec PyProof.Rows L2 Evl AE
local macro_rules | `(tactic| walk_at "c") => `(tactic| first | exact ⟨by decide, by decide⟩ | exact .inr ⟨by decide, by decide⟩ | exact .inl ⟨by decide, by decide⟩ | exact ⟨by decide, by decide, by decide⟩ | (show (0 : Int) < _; decide))
local macro_rules | `(tactic| walk_at "s") => `(tactic| first
  | (with_reducible refine r_var rfl ?_) | (with_reducible refine r_c ?_) | (with_reducible refine r_op ?_) | (with_reducible refine r_un ?_) | (with_reducible refine r_I0 ?_) | (with_reducible refine r_U ?_)
  | (with_reducible refine r_eq rfl ?_) | (with_reducible refine r_ne rfl ?_) | (with_reducible refine r_chain ?_) | (with_reducible refine r_test ?_) | (with_reducible refine r_tB ?_)
  | (with_reducible refine r_bl ?_) | (with_reducible refine r_and ?_) | (with_reducible refine r_or ?_) | (with_reducible refine r_not ?_) | (with_reducible refine r_nil ?_) | (with_reducible refine r_cons ?_)
  | (with_reducible refine r_tupK ?_) | (with_reducible refine r_lstK ?_) | (with_reducible refine r_cb ?_) | (with_reducible refine r_revL ?_) | (with_reducible refine r_ost ?_) | (with_reducible refine r_mkO ?_) | (with_reducible refine r_makeK ?_) | (with_reducible refine r_make ?_) | (with_reducible refine r_setdN ?_) | (with_reducible refine r_nget2 ?_) | (with_reducible refine r_nnew ?_) | (with_reducible refine r_call ?_) | (with_reducible refine r_seq ?_) | (with_reducible refine r_set ?_)
  | (with_reducible refine r_drop ?_) | (with_reducible refine r_ret ?_) | (with_reducible refine r_next ?_) | (with_reducible refine r_if ?_) | (with_reducible refine r_sl ?_) | (with_reducible refine r_nop ?_) | (with_reducible refine r_prt ?_) | (with_reducible refine r_some ?_)
  | (with_reducible refine add_int ?_) | (with_reducible refine int_i ?_) | (with_reducible refine r_forR1 ?_) | (with_reducible refine r_forR2 ?_) | (with_reducible refine r_meth ?_) | (with_reducible refine r_makeS ?_) | (with_reducible refine r_opS ?_) | (with_reducible refine r_makeRS ?_) | (with_reducible refine r_methH ?_) | (with_reducible refine r_callS ?_) | (with_reducible refine r_forL ?_) | (with_reducible refine r_andV ?_) | (with_reducible refine r_orV ?_) | (with_reducible refine r_notV ?_) | (with_reducible refine r_ifE ?_) | (with_reducible refine r_lcL ?_) | (with_reducible refine r_fld ?_) | (with_reducible refine r_get ?_) | (with_reducible refine r_din ?_) | (with_reducible refine r_dget2 ?_) | ((with_reducible refine r_I ?_ ?_); (walk_at "c")))
local macro_rules | `(tactic| walk_at "g") => `(tactic| repeat walk_at "s")
section
variable {P : Program} {w : World} {K : PySem.W.Frag} {mg : Str → Option Value} {base : Heap}
def Good (ps : List PlainD) (sts : List Int) : Prop := sts.length = ps.length ∧ ∀ (i : Nat) (p : PlainD) (st : Int), ps[i]? = some p → sts[i]? = some st → st = -1 ∨ st = p.now
theorem good_now (ps : List PlainD) : Good ps (ps.map fun p : PlainD => p.now) := ⟨List.length_map .., fun i p st hp hs => .inr (by rw [List.getElem?_map, hp] at hs; cases hs; rfl)⟩
theorem good_app {ps qs : List PlainD} {ss ts : List Int} (a : Good ps ss) (b : Good qs ts) : Good (ps ++ qs) (ss ++ ts) := by
  refine ⟨by rw [List.length_append, List.length_append, a.1, b.1], fun i p st hp hs => ?_⟩
  have al := a.1
  by_cases z : i < ps.length
  · rw [List.getElem?_append_left z] at hp
    rw [List.getElem?_append_left (by omega)] at hs
    exact a.2 i p st hp hs
  · rw [List.getElem?_append_right (by omega)] at hp
    rw [List.getElem?_append_right (by omega), al] at hs
    exact b.2 _ p st hp hs
theorem good_gone {ps : List PlainD} {g : Nat} (h : g < ps.length) : Good ps ((ps.map fun p : PlainD => p.now).take g ++ [-1] ++ (ps.map fun p : PlainD => p.now).drop (g + 1)) := by
  have e : ps = ps.take g ++ [ps[g]] ++ ps.drop (g + 1) := by
    have z : ps.take (g + 1) = ps.take g ++ [ps[g]] := by
      rw [List.take_add_one, List.getElem?_eq_getElem h]
      rfl
    rw [← z, List.take_append_drop]
  have a := good_now (ps.take g)
  have b := good_now (ps.drop (g + 1))
  have c : Good [ps[g]] [-1] := ⟨rfl, fun i p st _ hs => .inl (by
    match i, hs with
    | 0, hs => cases hs; rfl
    | i + 1, hs => cases hs)⟩
  have d := good_app (good_app a c) b
  rw [← e, List.map_take, List.map_drop] at d
  exact d
theorem good_ok {ps : List PlainD} {sts : List Int} (h : Good ps sts) (ok : ∀ p ∈ ps, OkP p) : statesOkF (ps.map machP) sts = true := by
  unfold statesOkF
  rw [List.all_eq_true]
  intro x hx
  obtain ⟨i, hi⟩ := List.getElem?_of_mem hx
  obtain ⟨hm, hs⟩ := List.getElem?_zip_eq_some.mp hi
  rw [List.getElem?_map] at hm
  obtain ⟨p, hp, e⟩ := Option.map_eq_some_iff.mp hm
  have op := ok p (List.mem_of_getElem? hp)
  have w0 := op.w0
  have w1 := op.w1
  have n1 := op.n1
  unfold stOkB
  rw [← e, Bool.and_eq_true, decide_eq_true_iff, decide_eq_true_iff]
  show -1 ≤ x.2 ∧ x.2 < p.n
  rcases h.2 i p x.2 hp hs with z | z
  · omega
  · omega
/-- a list of the present states of plain parts -/
theorem nows_go {σ : L2.St} {H : Hp} {Q : VK} {vs : List Nat} {j : Nat} {a : Addr} {us : List V} {ps : List PlainD} {te : TE} (ha : H a = some (.lst us)) (hP : PlainsAt H us ps) (hl : ps.length ≤ 1000) (hw : ∀ x, wipe ((wipe σ vs).set j (some x)) vs = wipe σ vs)
    (hte : ∀ (b am as_ : Addr) (p : PlainD) (Ha : Hp) (R : VK), Ha b = some (.tup [.int p.n, .ref am, .ref as_, .int p.now]) → R (.int p.now) Ha → te ((wipe σ vs).set j (some (.ref b))) Ha R)
    (q : ∀ D H1, H D = none → Ex H H1 → H1 D = some (.lst ((ps.map fun p : PlainD => p.now).map V.int)) → Q (.ref D) H1) : LcL K j tYes te vs σ Q (.ref a) H := by
  have hul := hP.1
  refine lco_l (fun i acc _ => acc = ((ps.map fun p : PlainD => p.now).map V.int).take i) (stays_take _) (xs := us) (.inl (.inl ha)) (by omega) rfl ?_ ?_
  · intro i v acc Ha hv hal e3 hacc R R2 r
    have hi := (List.getElem?_eq_some_iff.mp hv).1
    obtain ⟨p, hp⟩ : ∃ p, ps[i]? = some p := ⟨ps[i]'(by omega), List.getElem?_eq_getElem _⟩
    obtain ⟨b, am, as_, ws, hb, g1, _⟩ := hP.2 i p hp
    rw [hv] at hb
    cases hb
    refine gname1 ⟨hw _, yes_q (ite_t rfl ?_)⟩
    refine hte b am as_ p Ha R (e3 _ _ g1) (r _ Ha (Ex.refl _) ?_)
    rw [hacc, List.take_add_one, List.getElem?_map, List.getElem?_map, hp]
    rfl
  intro D3 acc H3 hD3 hal e3 l3 hacc
  rw [List.take_of_length_le (by rw [List.length_map, List.length_map]; omega)] at hacc
  subst hacc
  exact q D3 H3 hD3 e3 l3
theorem gone_map (l : List Int) (g : Nat) : (l.map V.int).take g ++ [V.int (-1)] ++ (l.map V.int).drop (g + 1) = (l.take g ++ [-1] ++ l.drop (g + 1)).map V.int := by
  rw [List.map_append, List.map_append, List.map_take, List.map_drop]
  rfl
theorem sizeL_mul (e : Int) : ∀ (l : List Mach) (s : Int), sizeL e s l = s * sizeL e 1 l
  | [], s => by show s = s * 1; omega
  | m :: r, s => by
    show sizeL e (s * (m.size + e)) r = s * sizeL e (1 * (m.size + e)) r
    rw [sizeL_mul e r (s * (m.size + e)), sizeL_mul e r (1 * (m.size + e)), Int.one_mul, Int.mul_assoc]
theorem sizeL_pos {e : Int} (e0 : 0 ≤ e) : ∀ {l : List Mach}, (∀ m ∈ l, 1 ≤ m.size) → 1 ≤ sizeL e 1 l
  | [], _ => Int.le_refl _
  | m :: r, h => by
    have ih := sizeL_pos e0 (l := r) fun x hx => h x (List.mem_cons_of_mem _ hx)
    have h1 := h m (List.mem_cons_self ..)
    show 1 ≤ sizeL e (1 * (m.size + e)) r
    rw [sizeL_mul, Int.one_mul]
    exact Int.le_trans (by decide : (1 : Int) ≤ 1 * 1) (Int.mul_le_mul (by omega) ih (by decide) (by omega))
theorem chs_le {f e : Int} (he : (if 0 < f then (1 : Int) else 0) = e) : ∀ (ms : List Mach) (sts : List Int), (∀ m ∈ ms, 1 ≤ m.size) → prodC (chsF ms sts f) ≤ sizeL e 1 ms := by
  have e0 : 0 ≤ e := by rw [← he]; split <;> decide
  intro ms
  induction ms with
  | nil => intro sts _; exact Int.le_refl _
  | cons m r ih =>
    intro sts h
    have h1 := h m (List.mem_cons_self ..)
    have hr : ∀ x ∈ r, 1 ≤ x.size := fun x hx => h x (List.mem_cons_of_mem _ hx)
    cases sts with
    | nil => exact sizeL_pos e0 h
    | cons st sr =>
      have ln : ((choicesF m.size st f).length : Int) ≤ m.size + e := by
        unfold choicesF
        split
        · show ((1 : Nat) : Int) ≤ _
          omega
        · rw [List.length_append, List.length_map, List.length_range]
          by_cases f0 : 0 < f
          · rw [if_pos f0] at he ⊢
            show ((m.size.toNat + 1 : Nat) : Int) ≤ _
            omega
          · rw [if_neg f0] at he ⊢
            show ((m.size.toNat + 0 : Nat) : Int) ≤ _
            omega
      show ((choicesF m.size st f).length : Int) * prodC (chsF r sr f) ≤ sizeL e (1 * (m.size + e)) r
      rw [sizeL_mul e r, Int.one_mul]
      refine Int.le_trans (Int.mul_le_mul_of_nonneg_left (ih sr hr) (by omega)) ?_
      exact Int.mul_le_mul_of_nonneg_right ln (Int.le_trans (by decide) (sizeL_pos e0 hr))
theorem powM_ge {s b : Int} (s0 : 0 ≤ s) (b1 : 1 ≤ b) : ∀ d : Nat, s ≤ powM s b d
  | 0 => Int.le_refl _
  | d + 1 => by
    have ih := powM_ge s0 b1 d
    show s ≤ powM s b d * b
    have : powM s b d * 1 ≤ powM s b d * b := Int.mul_le_mul_of_nonneg_left b1 (by omega)
    omega
theorem powM_le {s b : Int} (s0 : 0 ≤ s) (b1 : 0 ≤ b) (b4 : b ≤ 4) : ∀ d : Nat, 0 ≤ powM s b d ∧ powM s b d ≤ s * 4 ^ d
  | 0 => ⟨s0, by show s ≤ s * 1; omega⟩
  | d + 1 => by
    obtain ⟨h0, h1⟩ := powM_le s0 b1 b4 d
    refine ⟨Int.mul_nonneg h0 b1, ?_⟩
    show powM s b d * b ≤ s * 4 ^ (d + 1)
    rw [Int.pow_succ, ← Int.mul_assoc]
    exact Int.mul_le_mul h1 b4 b1 (Int.le_trans h0 h1)
theorem rowsF_le {rows : List StepD} {d B : Nat} (h : ∀ st, (knownF rows d st).length ≤ B) : ∀ n : Nat, (rowsF rows d n).length ≤ n * B
  | 0 => by unfold rowsF; simp
  | n + 1 => by
    rw [rows_snoc, List.length_append, List.length_map, Nat.succ_mul]
    have := rowsF_le h n
    have := h (n : Int)
    omega

/-! ### a grid's steps -/
theorem gInn_mem {asks : List Str} {hit : Nat → Nat → Nat → Bool} {i j k : Nat} {s : StepD} (h : s ∈ gInn asks hit i j k) : s.1 = i ∧ s.2.1 = asks.getD j Str.empty ∧ 0 ≤ s.2.2 ∧ s.2.2 < k := by
  unfold gInn at h
  obtain ⟨e, he, rfl⟩ := List.mem_map.mp h
  have h2 := List.mem_range.mp (List.mem_filter.mp he).1
  exact ⟨rfl, rfl, by show 0 ≤ ((e : Nat) : Int); omega, by show ((e : Nat) : Int) < k; omega⟩
theorem gInn_up (asks : List Str) (hit : Nat → Nat → Nat → Bool) (i j k : Nat) : (gInn asks hit i j k).Pairwise ltS := by
  unfold gInn
  rw [List.pairwise_map]
  exact ((range_up _).filter _).imp fun {a b} h => .inr ⟨rfl, .inr ⟨rfl, by show (a : Int) < b; omega⟩⟩
theorem gMid_mem {asks : List Str} {hit : Nat → Nat → Nat → Bool} {n i j : Nat} {s : StepD} (h : s ∈ gMid asks hit n i j) : s.1 = i := by
  unfold gMid at h
  obtain ⟨t, _, h⟩ := List.mem_flatMap.mp h
  exact (gInn_mem h).1
theorem gMid_up {asks : List Str} {hit : Nat → Nat → Nat → Bool} {n i : Nat} (up : asks.Pairwise AskLt) : (gMid asks hit n i asks.length).Pairwise ltS := by
  unfold gMid
  rw [List.pairwise_flatMap]
  refine ⟨fun j _ => gInn_up _ _ _ _ _, (range_up _).imp_of_mem fun {a b} ha hb hab x hx y hy => ?_⟩
  obtain ⟨x1, x2, _⟩ := gInn_mem hx
  obtain ⟨y1, y2, _⟩ := gInn_mem hy
  refine .inr ⟨by rw [x1, y1], .inl ?_⟩
  rw [x2, y2]
  exact getD_lt up hab (List.mem_range.mp hb)
theorem grid_up {asks : List Str} {hit : Nat → Nat → Nat → Bool} {n : Nat} (up : asks.Pairwise AskLt) : (gridF asks hit n).Pairwise ltS := by
  unfold gridF gOut
  rw [List.pairwise_flatMap]
  refine ⟨fun j _ => gMid_up up, (range_up _).imp_of_mem fun {a b} ha hb hab x hx y hy => ?_⟩
  refine .inl ?_
  rw [gMid_mem hx, gMid_mem hy]
  omega
theorem grid_in {asks : List Str} {hit : Nat → Nat → Nat → Bool} {n : Nat} {s : StepD} (h : s ∈ gridF asks hit n) : 0 ≤ s.1 ∧ s.1 < n ∧ s.2.1 ∈ asks ∧ 0 ≤ s.2.2 ∧ s.2.2 < n := by
  unfold gridF gOut at h
  obtain ⟨i, hi, h⟩ := List.mem_flatMap.mp h
  unfold gMid at h
  obtain ⟨j, hj, h⟩ := List.mem_flatMap.mp h
  have hi' := List.mem_range.mp hi
  have hj' := List.mem_range.mp hj
  obtain ⟨z1, z2, z3, z4⟩ := gInn_mem h
  refine ⟨by omega, by omega, ?_, z3, z4⟩
  rw [z2, List.getD_eq_getElem?_getD, List.getElem?_eq_getElem hj']
  exact List.getElem_mem hj'
theorem gInn_len (asks : List Str) (hit : Nat → Nat → Nat → Bool) (i j k : Nat) : (gInn asks hit i j k).length ≤ k := by
  unfold gInn
  rw [List.length_map]
  exact Nat.le_trans (List.length_filter_le _ _) (by rw [List.length_range]; exact Nat.le_refl _)
theorem gMid_len (asks : List Str) (hit : Nat → Nat → Nat → Bool) (n i : Nat) : ∀ j, (gMid asks hit n i j).length ≤ j * n
  | 0 => by unfold gMid; simp
  | j + 1 => by
    rw [gMid_snoc, List.length_append, Nat.add_mul, Nat.one_mul]
    exact Nat.add_le_add (gMid_len asks hit n i j) (gInn_len _ _ _ _ _)
theorem gOut_len (asks : List Str) (hit : Nat → Nat → Nat → Bool) (n : Nat) : ∀ i, (gOut asks hit n i).length ≤ i * (asks.length * n)
  | 0 => by unfold gOut; simp
  | i + 1 => by
    rw [gOut_snoc, List.length_append, Nat.add_mul, Nat.one_mul]
    exact Nat.add_le_add (gOut_len asks hit n i) (gMid_len _ _ _ _ _)
theorem rand_ok {row : List Int} {asks : List Str} (ak : ∀ x ∈ asks, AskOk x) (al : asks.length ≤ 4) (up : asks.Pairwise AskLt) : OkP (randF row asks) := by
  have r0 := Int.emod_nonneg (row.getD 0 0) (show (4 : Int) ≠ 0 by decide)
  have r1 := Int.emod_lt_of_pos (row.getD 0 0) (show (0 : Int) < 4 by decide)
  unfold randF
  have n1 : 1 ≤ randN row := by unfold randN; omega
  have n4 : randN row ≤ 4 := by unfold randN; omega
  generalize randN row = n at n1 n4
  refine ⟨n1, n4, lmarks_ok, lmarks_len n4, lmarks_idem _ _, fun s hs => ?_, ?_, grid_up up, Int.emod_nonneg _ (by show n ≠ 0; omega), Int.emod_lt_of_pos _ (by omega)⟩
  · obtain ⟨a, b, c, d, e⟩ := grid_in hs
    obtain ⟨k1, k2, k3⟩ := ak _ c
    have hn : ((n.toNat : Nat) : Int) = n := by omega
    exact ⟨a, by show s.1 < n; omega, k1, k2, k3, d, by show s.2.2 < n; omega⟩
  · show (gridF asks (hitR row asks.length n) n.toNat).length ≤ 600
    have h := gOut_len asks (hitR row asks.length n) n.toNat n.toNat
    have h1 : asks.length * n.toNat ≤ 4 * 4 := Nat.mul_le_mul al (by omega)
    have h2 : n.toNat * (asks.length * n.toNat) ≤ 4 * (4 * 4) := Nat.mul_le_mul (by omega) h1
    unfold gridF
    omega
/-! ### the law's pairs are the pattern's -/
theorem lpInn_mem {ss : List StepD} {st : Int} {x : Str} {k : Nat} {q : PairL} : q ∈ lpInn ss st x k ↔ q.1 = x ∧ 0 ≤ q.2 ∧ q.2 < k ∧ (st, x, q.2) ∈ ss := by
  unfold lpInn
  rw [List.mem_map]
  constructor
  · rintro ⟨e, he, rfl⟩
    obtain ⟨h1, h2⟩ := List.mem_filter.mp he
    exact ⟨rfl, by show 0 ≤ ((e : Nat) : Int); omega, by have := List.mem_range.mp h1; show ((e : Nat) : Int) < k; omega, of_decide_eq_true h2⟩
  · rintro ⟨h1, h2, h3, h4⟩
    obtain ⟨q1, q2⟩ := q
    cases h1
    obtain ⟨e, rfl⟩ := Int.eq_ofNat_of_zero_le (show 0 ≤ q2 from h2)
    refine ⟨e, List.mem_filter.mpr ⟨List.mem_range.mpr (by have : ((e : Nat) : Int) < k := h3; omega), decide_eq_true h4⟩, rfl⟩
theorem lp_eq {p : PlainD} {asks : List Str} (ok : OkP p) (up : asks.Pairwise AskLt) (sub : ∀ s ∈ p.ss, s.2.1 ∈ asks) (st : Int) : lpairs p asks st asks.length = pairsL p.ss st := by
  have e : (lpairs p asks st asks.length).map (fun q => ((st, q) : StepD)) = pairsF p.ss (.inl st) := by
    refine rows_eq ?_ (ok.up.filter _) fun s => ?_
    · unfold lpairs
      rw [List.take_length, List.map_flatMap, List.pairwise_flatMap]
      refine ⟨fun x _ => ?_, up.imp fun {a b} hab x hx y hy => ?_⟩
      · unfold lpInn
        rw [List.map_map, List.pairwise_map]
        exact ((range_up _).filter _).imp fun {a b} h => .inr ⟨rfl, .inr ⟨rfl, by show (a : Int) < b; omega⟩⟩
      · obtain ⟨q1, h1, rfl⟩ := List.mem_map.mp hx
        obtain ⟨q2, h2, rfl⟩ := List.mem_map.mp hy
        refine .inr ⟨rfl, .inl ?_⟩
        show q1.1.cps.toList < q2.1.cps.toList
        rw [(lpInn_mem.mp h1).1, (lpInn_mem.mp h2).1]
        exact hab
    · unfold lpairs pairsF
      rw [List.take_length, List.mem_map, List.mem_filter, decide_eq_true_iff]
      constructor
      · rintro ⟨q, hq, rfl⟩
        obtain ⟨x, hx, hq⟩ := List.mem_flatMap.mp hq
        obtain ⟨h1, h2, h3, h4⟩ := lpInn_mem.mp hq
        refine ⟨?_, rfl⟩
        rw [← h1] at h4
        exact h4
      · rintro ⟨h1, h2⟩
        have h2' : s.1 = st := Sum.inl.inj h2
        obtain ⟨s1, s2, s3⟩ := s
        cases h2'
        have o := ok.so _ h1
        have o0 : 0 ≤ s3 := o.e0
        have o1 : s3 < p.n := o.e1
        exact ⟨(s2, s3), List.mem_flatMap.mpr ⟨s2, sub _ h1, lpInn_mem.mpr ⟨rfl, o0, by show s3 < ((p.n.toNat : Nat) : Int); omega, h1⟩⟩, rfl⟩
  have f := congrArg (List.map fun s : StepD => s.2) e
  rw [List.map_map] at f
  unfold pairsL
  rw [← f]
  exact (List.map_id' _).symm
theorem pairs_in {rows : List StepD} {st : Int} {q : PairL} (h : q ∈ pairsL rows st) : (st, q.1, q.2) ∈ rows := by
  unfold pairsL pairsF at h
  obtain ⟨s, hs, rfl⟩ := List.mem_map.mp h
  obtain ⟨h1, h2⟩ := List.mem_filter.mp hs
  have : s.1 = st := Sum.inl.inj (of_decide_eq_true h2)
  rw [← this]
  exact h1
theorem pairs_out {rows : List StepD} {n st : Int} (so : ∀ s ∈ rows, OkS n s) (h : ¬ (0 ≤ st ∧ st < n)) : pairsL rows st = [] := by
  rw [List.eq_nil_iff_forall_not_mem]
  intro q hq
  have o := so _ (pairs_in hq)
  exact h ⟨o.s0, o.s1⟩
theorem known_leW {rows : List StepD} {W : Nat} (W1 : 1 ≤ W) (h : ∀ st, (pairsL rows st).length + 1 ≤ W) : ∀ (d : Nat) (st : Int), (knownF rows d st).length ≤ W ^ d
  | 0, _ => Nat.le_refl _
  | d + 1, st => by
    unfold knownF
    have p0 : 1 ≤ W ^ d := Nat.one_le_pow _ _ W1
    have p1 : 1 ≤ W ^ (d + 1) := Nat.one_le_pow _ _ W1
    split
    · exact p1
    · have key : ∀ l : List PairL, (l.flatMap fun p => (knownF rows d p.2).map (p :: ·)).length ≤ l.length * W ^ d := by
        intro l
        induction l with
        | nil => simp
        | cons p l ih =>
          rw [List.flatMap_cons, List.length_append, List.length_map, List.length_cons, Nat.succ_mul]
          have := known_leW W1 h d p.2
          omega
      refine Nat.le_trans (key _) ?_
      rw [Nat.pow_succ, Nat.mul_comm]
      exact Nat.mul_le_mul_left _ (by have := h st; omega)
theorem known_str {rows : List StepD} (h : ∀ s ∈ rows, PyData.strOk s.2.1 = true) : ∀ (d : Nat) (st : Int), ∀ k ∈ knownF rows d st, ∀ p ∈ k, PyData.strOk p.1 = true
  | 0, st, k, hk, p, hp => by
    rw [List.mem_singleton.mp hk] at hp
    cases hp
  | d + 1, st, k, hk, p, hp => by
    unfold knownF at hk
    split at hk
    · rw [List.mem_singleton.mp hk] at hp
      cases hp
    · obtain ⟨q, hq, hk⟩ := List.mem_flatMap.mp hk
      obtain ⟨r, hr, rfl⟩ := List.mem_map.mp hk
      rcases List.mem_cons.mp hp with rfl | hp
      · exact h _ (pairs_in hq)
      · exact known_str h d q.2 r hr p hp
theorem wide_ge (prl : List (List PairL)) : ∀ r ∈ prl, (r.length : Int) + 1 ≤ wideF prl := by
  have mono : ∀ (l : List (List PairL)) (s : Int), s ≤ l.foldl (fun (W : Int) (r : List PairL) => if (r.length : Int) + 1 > W then (r.length : Int) + 1 else W) s := by
    intro l
    induction l with
    | nil => intro s; exact Int.le_refl _
    | cons r l ih => intro s; exact Int.le_trans (by dsimp only; split <;> omega) (ih _)
  have gen : ∀ (l : List (List PairL)) (s : Int), ∀ r ∈ l, (r.length : Int) + 1 ≤ l.foldl (fun (W : Int) (r : List PairL) => if (r.length : Int) + 1 > W then (r.length : Int) + 1 else W) s := by
    intro l
    induction l with
    | nil => intro s r hr; cases hr
    | cons x l ih =>
      intro s r hr
      rcases List.mem_cons.mp hr with rfl | hr
      · exact Int.le_trans (by dsimp only; split <;> omega) (mono l _)
      · exact ih _ r hr
  exact gen prl 1
theorem fac_pow (W : Int) : ∀ i, (facF W i).1 = W ^ (facF W i).2
  | 0 => by show (1 : Int) = W ^ 0; rw [Int.pow_zero]
  | i + 1 => by
    unfold facF
    split
    · show (facF W i).1 * W = W ^ ((facF W i).2 + 1)
      rw [fac_pow W i, Int.pow_succ]
    · exact fac_pow W i
theorem powM_pow (s b : Int) : ∀ d, powM s b d = s * b ^ d
  | 0 => by rw [Int.pow_zero, Int.mul_one]; rfl
  | d + 1 => by
    show powM s b d * b = s * b ^ (d + 1)
    rw [powM_pow s b d, Int.pow_succ, Int.mul_assoc]
theorem plSize_eq (e : Int) : ∀ (ps : List PlainD) (s : Int), plSize e s ps = sizeL e s (ps.map machP)
  | [], _ => rfl
  | p :: ps, s => plSize_eq e ps (s * (p.n + e))
theorem sizeL_bd {e : Int} (e0 : 0 ≤ e) (e1 : e ≤ 1) : ∀ {l : List Mach}, (∀ m ∈ l, 1 ≤ m.size ∧ m.size ≤ 4) → sizeL e 1 l ≤ 5 ^ l.length
  | [], _ => Int.le_refl _
  | m :: r, h => by
    have ih := sizeL_bd e0 e1 (l := r) fun x hx => h x (List.mem_cons_of_mem _ hx)
    have h1 := h m (List.mem_cons_self ..)
    have p := sizeL_pos e0 (l := r) fun x hx => (h x (List.mem_cons_of_mem _ hx)).1
    show sizeL e (1 * (m.size + e)) r ≤ 5 ^ (r.length + 1)
    rw [sizeL_mul, Int.one_mul, Int.pow_succ, Int.mul_comm (5 ^ r.length)]
    exact Int.mul_le_mul (by omega) ih (by omega) (by decide)
/-! ### one game of the law -/
structure GmOk (p : PlainD) (ps : List PlainD) (asks : List Str) (prl : List (List PairL)) : Prop where
  ok : OkP p
  up : asks.Pairwise AskLt
  sub : ∀ s ∈ p.ss, s.2.1 ∈ asks
  ak : ∀ x ∈ asks, AskOk x
  pr : prl = (List.range p.n.toNat).map fun (st : Nat) => lpairs p asks (st : Int) asks.length
  oks : ∀ q ∈ ps, OkP q
  l5 : ps.length ≤ 5
section
variable {p : PlainD} {ps : List PlainD} {asks : List Str} {prl : List (List PairL)}
theorem GmOk.len (g : GmOk p ps asks prl) : (prl.length : Int) = p.n := by
  have := g.ok.n1
  rw [g.pr, List.length_map, List.length_range]
  omega
theorem GmOk.at_ (g : GmOk p ps asks prl) {e : Int} (h0 : 0 ≤ e) (h1 : e < p.n) : prAt prl e = pairsL p.ss e := by
  unfold prAt
  rw [g.pr, List.getD_eq_getElem?_getD, List.getElem?_map, List.getElem?_range (by omega)]
  show lpairs p asks ((e.toNat : Nat) : Int) asks.length = _
  rw [lp_eq g.ok g.up g.sub, show ((e.toNat : Nat) : Int) = e by omega]
theorem GmOk.cl (g : GmOk p ps asks prl) (e : Int) (q : PairL) (hq : q ∈ pairsL p.ss e) : 0 ≤ q.2 ∧ q.2 < p.n := by
  have o := g.ok.so _ (pairs_in hq)
  exact ⟨o.e0, o.e1⟩
theorem GmOk.plen (g : GmOk p ps asks prl) (e : Int) : ((pairsL p.ss e).length : Int) + 1 ≤ wideF prl := by
  by_cases z : 0 ≤ e ∧ e < p.n
  · refine wide_ge prl _ ?_
    rw [g.pr]
    refine List.mem_map.mpr ⟨e.toNat, List.mem_range.mpr (by omega), ?_⟩
    rw [show ((e.toNat : Nat) : Int) = e by omega]
    exact lp_eq g.ok g.up g.sub e
  · rw [pairs_out g.ok.so z]
    exact (wide_pos prl).1
theorem GmOk.most (g : GmOk p ps asks prl) {M : Int} (h : mostF p.ss p.n M) : wideF prl = M + 1 := by
  obtain ⟨⟨st, hst, e⟩, top⟩ := h
  have a := g.plen st
  have b : wideF prl ≤ M + 1 := (wide_pos prl).2 (M + 1) (by omega) fun r hr => by
    rw [g.pr] at hr
    obtain ⟨j, hj, rfl⟩ := List.mem_map.mp hr
    have hj := List.mem_range.mp hj
    rw [lp_eq g.ok g.up g.sub]
    have := top j (by omega)
    omega
  omega
theorem GmOk.rlen (g : GmOk p ps asks prl) : ∀ r ∈ prl, r.length ≤ 600 := fun r hr => by
  rw [g.pr] at hr
  obtain ⟨j, hj, rfl⟩ := List.mem_map.mp hr
  rw [lp_eq g.ok g.up g.sub]
  have : (pairsL p.ss (j : Int)).length ≤ p.ss.length := by
    unfold pairsL pairsF
    rw [List.length_map]
    exact List.length_filter_le _ _
  have := g.ok.sl
  omega
theorem GmOk.klen (g : GmOk p ps asks prl) (i : Nat) : ∀ j, j ≤ (facF (wideF prl) i).2 → ∀ st, (knownF p.ss j st).length ≤ 400 := fun j hj st => by
  obtain ⟨W1, _⟩ := wide_pos prl
  obtain ⟨W, hW⟩ : ∃ W : Nat, wideF prl = (W : Int) := ⟨(wideF prl).toNat, by omega⟩
  have W1' : 1 ≤ W := by omega
  have a := known_leW W1' (rows := p.ss) (fun e => by have := g.plen e; omega) j st
  have b : W ^ j ≤ W ^ (facF (wideF prl) i).2 := Nat.pow_le_pow_right W1' hj
  have c := fac_pow (wideF prl) i
  have d := (fac_bd (wideF prl) W1 i).2.1
  rw [c, hW] at d
  have d' : W ^ (facF (wideF prl) i).2 ≤ 400 := by rw [hW]; exact_mod_cast d
  omega
def gSize (p : PlainD) (ps : List PlainD) (prl : List (List PairL)) (i : Nat) (f : Int) : Int := plSize (if 0 < f then 1 else 0) (p.n * (facF (wideF prl) i).1) ps
theorem GmOk.size (g : GmOk p ps asks prl) (i : Nat) (f : Int) {M : Int} (mo : mostF p.ss p.n M) (sts : List Int) : gameS (machP p) ⟨ps.map machP, sts⟩ ((facF (wideF prl) i).2 : Int) f M = gSize p ps prl i f := by
  unfold gameS gSize
  show powM (sizeL (if 0 < f then 1 else 0) p.n (ps.map machP)) (M + 1) (facF (wideF prl) i).2 = _
  rw [plSize_eq, sizeL_mul _ _ p.n, sizeL_mul _ _ (p.n * _), powM_pow, ← g.most mo, fac_pow (wideF prl) i, Int.mul_assoc, Int.mul_assoc, Int.mul_comm (sizeL _ 1 _)]
theorem GmOk.bd (g : GmOk p ps asks prl) (i : Nat) (f : Int) : 0 ≤ gSize p ps prl i f ∧ gSize p ps prl i f ≤ 5000000 ∧ sizeL (if 0 < f then 1 else 0) 1 (ps.map machP) ≤ 3125 := by
  obtain ⟨W1, _⟩ := wide_pos prl
  obtain ⟨f1, f2, _⟩ := fac_bd (wideF prl) W1 i
  have n1 := g.ok.n1
  have n4 := g.ok.n4
  unfold gSize
  rw [plSize_eq, sizeL_mul _ _ (p.n * _)]
  generalize he : (if 0 < f then (1 : Int) else 0) = e
  have e01 : 0 ≤ e ∧ e ≤ 1 := by rw [← he]; split <;> exact ⟨by decide, by decide⟩
  have hm : ∀ m ∈ ps.map machP, 1 ≤ m.size ∧ m.size ≤ 4 := fun m hm => by
    obtain ⟨q, hq, rfl⟩ := List.mem_map.mp hm
    exact ⟨(g.oks q hq).n1, (g.oks q hq).n4⟩
  have pos := sizeL_pos e01.1 (l := ps.map machP) fun m h => (hm m h).1
  have u := sizeL_bd e01.1 e01.2 (l := ps.map machP) hm
  have l5 := g.l5
  have u2 : sizeL e 1 (ps.map machP) ≤ 3125 := by
    refine Int.le_trans u ?_
    rw [List.length_map]
    have : ps.length = 0 ∨ ps.length = 1 ∨ ps.length = 2 ∨ ps.length = 3 ∨ ps.length = 4 ∨ ps.length = 5 := by omega
    rcases this with h | h | h | h | h | h <;> rw [h] <;> decide
  have a : p.n * (facF (wideF prl) i).1 ≤ 4 * 400 := Int.mul_le_mul n4 f2 (by omega) (by decide)
  have a0 : 0 ≤ p.n * (facF (wideF prl) i).1 := Int.mul_nonneg (by omega) (by omega)
  have b : p.n * (facF (wideF prl) i).1 * sizeL e 1 (ps.map machP) ≤ 4 * 400 * 3125 := Int.mul_le_mul a u2 (by omega) (by decide)
  exact ⟨Int.mul_nonneg a0 (by omega), by omega, u2⟩
theorem GmOk.fits (g : GmOk p ps asks prl) (i : Nat) (f : Int) (sts : List Int) : Fits (machP p) ⟨ps.map machP, sts⟩ ((facF (wideF prl) i).2 : Int) f := by
  have kl := g.klen i
  refine ⟨fun k hk s => Nat.le_trans (kl k hk s) (by decide), ?_, ?_⟩
  · have := rowsF_le (rows := p.ss) (d := (facF (wideF prl) i).2) (B := 400) (fun st => kl _ (Nat.le_refl _) st) p.n.toNat
    have n4 := g.ok.n4
    show (rowsF p.ss (facF (wideF prl) i).2 p.n.toNat).length ≤ 100000
    have : p.n.toNat * 400 ≤ 4 * 400 := Nat.mul_le_mul_right _ (by omega)
    omega
  · have hl : ∀ m ∈ ps.map machP, 1 ≤ m.size := fun m hm => by
      obtain ⟨q, hq, rfl⟩ := List.mem_map.mp hm
      exact (g.oks q hq).n1
    have c := chs_le (f := f) rfl (ps.map machP) sts hl
    have b := (g.bd i f).2.2
    show prodC (chsF (ps.map machP) sts f) ≤ 100000
    omega
theorem GmOk.strs (g : GmOk p ps asks prl) (d : Nat) (st : Int) : ∀ k ∈ knownF p.ss d st, ∀ q ∈ k, PyData.strOk q.1 = true :=
  known_str (fun s hs => ask_strOk (g.ak _ (g.sub s hs)).2.2) d st
end
end

end K08

set_option Elab.async false
set_option linter.all false
set_option maxRecDepth 100000
set_option maxHeartbeats 2000000
namespace K08
open PySem PySem.Spec PyProof.Rows L2 Evl AE
local macro_rules | `(tactic| walk_at "c") => `(tactic| first | exact ⟨by decide, by decide⟩ | exact .inr ⟨by decide, by decide⟩ | exact .inl ⟨by decide, by decide⟩ | exact ⟨by decide, by decide, by decide⟩ | (show (0 : Int) < _; decide))
local macro_rules | `(tactic| walk_at "s") => `(tactic| first
  | (with_reducible refine r_var rfl ?_) | (with_reducible refine r_c ?_) | (with_reducible refine r_op ?_) | (with_reducible refine r_un ?_) | (with_reducible refine r_I0 ?_) | (with_reducible refine r_U ?_)
  | (with_reducible refine r_eq rfl ?_) | (with_reducible refine r_ne rfl ?_) | (with_reducible refine r_chain ?_) | (with_reducible refine r_test ?_) | (with_reducible refine r_tB ?_)
  | (with_reducible refine r_bl ?_) | (with_reducible refine r_and ?_) | (with_reducible refine r_or ?_) | (with_reducible refine r_not ?_) | (with_reducible refine r_nil ?_) | (with_reducible refine r_cons ?_)
  | (with_reducible refine r_tupK ?_) | (with_reducible refine r_lstK ?_) | (with_reducible refine r_cb ?_) | (with_reducible refine r_revL ?_) | (with_reducible refine r_ost ?_) | (with_reducible refine r_mkO ?_) | (with_reducible refine r_makeK ?_) | (with_reducible refine r_make ?_) | (with_reducible refine r_setdN ?_) | (with_reducible refine r_nget2 ?_) | (with_reducible refine r_nnew ?_) | (with_reducible refine r_call ?_) | (with_reducible refine r_seq ?_) | (with_reducible refine r_set ?_)
  | (with_reducible refine r_drop ?_) | (with_reducible refine r_ret ?_) | (with_reducible refine r_next ?_) | (with_reducible refine r_if ?_) | (with_reducible refine r_sl ?_) | (with_reducible refine r_nop ?_) | (with_reducible refine r_prt ?_) | (with_reducible refine r_some ?_)
  | (with_reducible refine add_int ?_) | (with_reducible refine int_i ?_) | (with_reducible refine r_forR1 ?_) | (with_reducible refine r_forR2 ?_) | (with_reducible refine r_meth ?_) | (with_reducible refine r_makeS ?_) | (with_reducible refine r_opS ?_) | (with_reducible refine r_makeRS ?_) | (with_reducible refine r_methH ?_) | (with_reducible refine r_callS ?_) | (with_reducible refine r_forL ?_) | (with_reducible refine r_andV ?_) | (with_reducible refine r_orV ?_) | (with_reducible refine r_notV ?_) | (with_reducible refine r_ifE ?_) | (with_reducible refine r_lcL ?_) | (with_reducible refine r_fld ?_) | (with_reducible refine r_get ?_) | (with_reducible refine r_din ?_) | (with_reducible refine r_dget2 ?_) | ((with_reducible refine r_I ?_ ?_); (walk_at "c")))
local macro_rules | `(tactic| walk_at "g") => `(tactic| repeat walk_at "s")
section
variable {P : Program} {w : World} {K : PySem.W.Frag} {mg : Str → Option Value} {base : Heap}
/-! ### a step that is there -/
def endI (rows : List StepD) (k : List Key) : List Int := (rows.filter fun s => decide ([Sum.inl s.1, Sum.inr s.2.1] = k)).map (·.2.2)
theorem ends_int (rows : List StepD) (k : List Key) : endsF rows k = (endI rows k).map V.int := by
  unfold endsF endI
  rw [List.map_map]
  rfl
theorem endI_mem {m : Mach} {e : Int} {ask : Str} (h : (m.now, ask, e) ∈ m.rows) : e ∈ endI m.rows [.inl m.now, .inr ask] := by
  unfold endI
  rw [List.mem_map]
  refine ⟨(m.now, ask, e), ?_, rfl⟩
  rw [List.mem_filter, decide_eq_true_iff]
  exact ⟨h, rfl⟩
theorem MachAt.moved {H H1 : Hp} {x C dx pm ps de dp : Addr} {us : List V} {m : Mach} {e : Int} (hx : H x = some (.ins C dx [("size", .int m.size), ("marks", .ref pm), ("steps", .ref ps), ("now", .int m.now), ("_ends", .ref de), ("_pairs", .ref dp)]))
    (h2 : H pm = some (.tup (m.marks.map V.int))) (h3 : H ps = some (.tup us)) (h4 : Tups H us (m.rows.map stepV)) (h5 : EndsAt H de m.rows) (h6 : PairsAt H dp m.rows) (c : Ch x H H1)
    (h1 : H1 x = some (.ins C dx [("size", .int m.size), ("marks", .ref pm), ("steps", .ref ps), ("now", .int e), ("_ends", .ref de), ("_pairs", .ref dp)])) : MachAt H1 x C (nowM m e) :=
  ⟨dx, pm, ps, de, dp, us, h1, c _ _ (ne_of h2 hx (by intro z; cases z)) h2, c _ _ (ne_of h3 hx (by intro z; cases z)) h3, h4.tx (tx_ins hx c), h5.ch hx c, h6.ch hx c⟩
def sp_setP (T : Tp K mg) : Sp := fun vs H Q _ => ∃ (x : Addr) (m : Mach) (ask : Str) (e : Int), vs = [.ref x, .str ask, .int e] ∧ MachAt H x T.C_Pattern m ∧ (m.now, ask, e) ∈ m.rows ∧ ∀ H', Ch x H H' → MachAt H' x T.C_Pattern (nowM m e) → Q .non H'
theorem ok_setP (T : Tp K mg) : FnOk P w K mg base CX0 4 T.a_Machine___setitem__ T.d_Machine___setitem__ ["self", "at", "worth"] (sp_setP T) := by
  have G_getitem : FnOk P w K mg base CX0 2 T.a_Machine___getitem__ T.d_Machine___getitem__ ["self", "at"] (sp_getitem T) := ok_getitem T
  refine T.f_Machine___setitem__.ok sc_Machine___setitem__ (fun vs H Q E h => ?_) (fun cdv A outer s H vs Q E hr h => ?_)
  · obtain ⟨x, m, ask, e, rfl, _⟩ := h
    rfl
  · obtain ⟨x, m, ask, e, rfl, hm, hin, q⟩ := h
    obtain ⟨dx, pm, ps, de, dp, us, h1, h2, h3, h4, h5, h6⟩ := id hm
    refine ⟨_, (pss_cons (ps_if (pt_cmpR op_notIn_seq (pv 2) (pe_ixO T.gi_Pattern T.fn_gi G_getitem (hr.mono (by decide)) T.b_Machine___getitem__ pass0 (pv 0) (pv 1)) rfl) (pss_one ps_never) pss_nil)
  (pss_one (ps_fld (pv 0) (pv 2) rfl))), ?_⟩
    walk_at "g"
    refine ⟨_, rfl, _, rfl, x, dx, _, rfl, h1, x, _, m, ask, rfl, .inr rfl, hm, fun p H1 e1 t1 => ?_⟩
    rw [ends_int] at t1
    refine ⟨p, _, rfl, .inr (.inl (.inl t1)), rfl, flat_ints _, ?_⟩
    rw [inV_int]
    refine ⟨_, rfl, ?_⟩
    refine ite_f (by rw [decide_eq_true (endI_mem hin)]; rfl) ?_
    walk_at "g"
    refine stf_go (e1 _ _ h1) T.cf_Pattern.cl T.cf_Pattern.n4 (by show 6 < 1000; decide) fun H2 c2 h2' => ?_
    have c02 : Ch x H H2 := fun b o hb hbo => c2 b o hb (e1 _ _ hbo)
    exact q H2 c02 (MachAt.moved h1 h2 h3 h4 h5 h6 c02 h2')
end

end K08

set_option Elab.async false
set_option linter.all false
set_option maxRecDepth 100000
set_option maxHeartbeats 2000000
namespace K08
open PySem PySem.Spec PyProof.Rows L2 Evl AE
local macro_rules | `(tactic| walk_at "c") => `(tactic| first | exact ⟨by decide, by decide⟩ | exact .inr ⟨by decide, by decide⟩ | exact .inl ⟨by decide, by decide⟩ | exact ⟨by decide, by decide, by decide⟩ | (show (0 : Int) < _; decide))
local macro_rules | `(tactic| walk_at "s") => `(tactic| first
  | (with_reducible refine r_var rfl ?_) | (with_reducible refine r_c ?_) | (with_reducible refine r_op ?_) | (with_reducible refine r_un ?_) | (with_reducible refine r_I0 ?_) | (with_reducible refine r_U ?_)
  | (with_reducible refine r_eq rfl ?_) | (with_reducible refine r_ne rfl ?_) | (with_reducible refine r_chain ?_) | (with_reducible refine r_test ?_) | (with_reducible refine r_tB ?_)
  | (with_reducible refine r_bl ?_) | (with_reducible refine r_and ?_) | (with_reducible refine r_or ?_) | (with_reducible refine r_not ?_) | (with_reducible refine r_nil ?_) | (with_reducible refine r_cons ?_)
  | (with_reducible refine r_tupK ?_) | (with_reducible refine r_lstK ?_) | (with_reducible refine r_cb ?_) | (with_reducible refine r_revL ?_) | (with_reducible refine r_ost ?_) | (with_reducible refine r_mkO ?_) | (with_reducible refine r_makeK ?_) | (with_reducible refine r_make ?_) | (with_reducible refine r_setdN ?_) | (with_reducible refine r_nget2 ?_) | (with_reducible refine r_nnew ?_) | (with_reducible refine r_call ?_) | (with_reducible refine r_seq ?_) | (with_reducible refine r_set ?_)
  | (with_reducible refine r_drop ?_) | (with_reducible refine r_ret ?_) | (with_reducible refine r_next ?_) | (with_reducible refine r_if ?_) | (with_reducible refine r_sl ?_) | (with_reducible refine r_nop ?_) | (with_reducible refine r_prt ?_) | (with_reducible refine r_some ?_)
  | (with_reducible refine add_int ?_) | (with_reducible refine int_i ?_) | (with_reducible refine r_forR1 ?_) | (with_reducible refine r_forR2 ?_) | (with_reducible refine r_meth ?_) | (with_reducible refine r_makeS ?_) | (with_reducible refine r_opS ?_) | (with_reducible refine r_makeRS ?_) | (with_reducible refine r_methH ?_) | (with_reducible refine r_callS ?_) | (with_reducible refine r_forL ?_) | (with_reducible refine r_andV ?_) | (with_reducible refine r_orV ?_) | (with_reducible refine r_notV ?_) | (with_reducible refine r_ifE ?_) | (with_reducible refine r_lcL ?_) | (with_reducible refine r_fld ?_) | (with_reducible refine r_get ?_) | (with_reducible refine r_din ?_) | (with_reducible refine r_dget2 ?_) | ((with_reducible refine r_I ?_ ?_); (walk_at "c")))
local macro_rules | `(tactic| walk_at "g") => `(tactic| repeat walk_at "s")
section
variable {P : Program} {w : World} {K : PySem.W.Frag} {mg : Str → Option Value} {base : Heap}
theorem RowsAt.chx {H H' : Hp} {x C dx : Addr} {fs : List (Str × V)} {us : List V} {rows : List (List PairL)} (hx : H x = some (.ins C dx fs)) (c : Ch x H H') (h : RowsAt H us rows) : RowsAt H' us rows := ⟨h.1, fun i r hi => by
  obtain ⟨q, ws, a, b, d⟩ := h.2 i r hi
  exact ⟨q, ws, a, c _ _ (ne_of b hx (by intro z; cases z)) b, d.tx (keeps_chx hx c).n⟩⟩
theorem FirstL.stans {K : PySem.W.Frag} {H : Hp} {us : List V} {sts : List Int} {now : Int} {rows : List (List PairL)} (h : FirstL K H us sts now rows rows.length) : StansAt K H us now sts rows := by
  refine ⟨h.1, fun i row hi => ?_⟩
  obtain ⟨p, au, rk, k1, k2, k3, k4⟩ := h.2 i row (List.getElem?_eq_some_iff.mp hi).1 hi
  exact ⟨p, k1, au, rk, k2, k3, k4⟩
theorem r_asgT {te : TE} {g : TG} {D : Ends} {σ : L2.St} {H : Hp} (q : te σ H fun x H1 => g x σ H1 fun σ2 H2 => D.nx σ2 H2) : tAsg te g D σ H := q
theorem zeros_ok (ps : List PlainD) (ok : ∀ p ∈ ps, OkP p) : statesOkF (ps.map machP) (ps.map fun _ => (0 : Int)) = true := by
  unfold statesOkF
  rw [List.all_eq_true]
  intro x hx
  obtain ⟨i, hi⟩ := List.getElem?_of_mem hx
  obtain ⟨hm, hs⟩ := List.getElem?_zip_eq_some.mp hi
  rw [List.getElem?_map] at hm hs
  obtain ⟨p, hp, e⟩ := Option.map_eq_some_iff.mp hm
  obtain ⟨_, _, e2⟩ := Option.map_eq_some_iff.mp hs
  have n1 := (ok p (List.mem_of_getElem? hp)).n1
  unfold stOkB
  rw [← e, ← e2, Bool.and_eq_true, decide_eq_true_iff, decide_eq_true_iff]
  exact ⟨by decide, by show 0 < p.n; omega⟩
theorem zeros_eq : ∀ {us : List V} {ps : List PlainD}, us.length = ps.length → us.map (fun _ => V.int 0) = (ps.map fun _ => (0 : Int)).map V.int
  | [], [], _ => rfl
  | [], _ :: _, h => nomatch h
  | _ :: _, [], h => nomatch h
  | _ :: us, _ :: ps, h => by
    rw [List.map_cons, List.map_cons, List.map_cons, zeros_eq (Nat.succ.inj h)]
theorem r_setO {C : Addr} {sp : Sp} {E : L2.St → XK} {tv to ti : TE} {D : Ends} {σ : L2.St} {H : Hp} (q : tv σ H fun v H1 => to σ H1 fun x H2 => ti σ H2 fun y H3 => ∃ a dx fs, x = .ref a ∧ H3 a = some (.ins C dx fs) ∧ sp [.ref a, y, v] H3 (fun _ H4 => D.nx σ H4) (E σ)) : tSetO C sp E tv to ti D σ H := q
def manys : List Int := [1, 2, 3, 0, 5]
def sp_law (K : PySem.W.Frag) : Sp := fun vs H Q _ => ∃ (a : Addr) (ns : List Int), vs = [.ref a] ∧ SqL K H a (ns.map V.int) ∧ ∀ H', Q (.bl true) H'
theorem ok_law (T : Tp K mg) (SO : SupOk P T.file) : FnOk P w K mg base CX0 16 T.a_law T.d_law ["_law_script"] (sp_law K) := by
  have G__law_draws : FnOk P w K mg base CX0 2 T.a__law_draws T.d__law_draws ["_law_script", "_law_k", "_law_many"] (sp_draws K) := ok_draws T
  have G__law_asks : FnOk P w K mg base CX0 1 T.a__law_asks T.d__law_asks ["_law_row", "_law_many"] (sp_asks K) := ok_asks T
  have G__law_random := ok_random (P := P) (w := w) (base := base) T
  have G__law_pairs := ok_pairs2 (P := P) (w := w) (base := base) T
  have G__law_lot := ok_plains (P := P) (w := w) (base := base) T
  have G__law_client := ok_client (P := P) (w := w) (base := base) T
  have G__law_built := ok_built (P := P) (w := w) (base := base) T
  have G_set_states := ok_sets (P := P) (w := w) (base := base) T
  have G__law_factor := ok_factor (P := P) (w := w) (base := base) T
  have G__law_size := ok_lsize (P := P) (w := w) (base := base) T
  have G__law_size_raised := ok_raised (w := w) (base := base) T SO
  have G__law_known := ok_lknown (P := P) (w := w) (base := base) T
  have G__law_game := ok_lgame (w := w) (base := base) T SO
  have G__law_first_holds := ok_first (P := P) (w := w) (base := base) T
  have G_setP := ok_setP (P := P) (w := w) (base := base) T
  refine T.f_law.ok sc_law (fun vs H Q E h => ?_) (fun cdv A outer s H vs Q E hr h => ?_)
  · obtain ⟨a, ns, rfl, _⟩ := h
    rfl
  · obtain ⟨a, ns, rfl, hS, q⟩ := h
    have hu64 := hu64_of hr
    refine ⟨_, (pss_cons (ps_set (i := 1) sc_law.nd rfl (.inl rfl) (pe_call G__law_draws (hr.mono (by decide)) (by rfl) T.g__law_draws T.f__law_draws.kp T.b__law_draws .nil pass0 (pa_cons (pv 0) (pa_cons pe_int (pa_cons pe_int pa_nil)))))
  (pss_cons (ps_set (i := 2) sc_law.nd rfl (.inl rfl) (pe_call G__law_asks (hr.mono (by decide)) (by rfl) T.g__law_asks T.f__law_asks.kp T.b__law_asks .nil pass0 (pa_cons (pe_call G__law_draws (hr.mono (by decide)) (by rfl) T.g__law_draws T.f__law_draws.kp T.b__law_draws .nil pass0 (pa_cons (pv 0) (pa_cons pe_int (pa_cons pe_int pa_nil)))) (pa_cons (pe_op opAdd pe_int (pe_op op_mod (pe_callTy c_int (by rfl) T.n_int (by rfl) (pa_cons (pe_ix ix_seq (pv 1) pe_int (fun _ _ => rfl)) pa_nil)) pe_int)) pa_nil))))
  (pss_cons (ps_set (i := 3) sc_law.nd rfl (.inl rfl) (pe_callB c_sorted (by rfl) T.n_sorted (by rfl) (pa_cons (pe_lc (own := [("_law_ask", 4)]) (g := gName 4) (tt := tYes) rfl sc_law.nd (pi_list (pv 2)) (blkOk_by (N := N_law) (sc := defScope s_law) (by decide +kernel)) (fun _ _ _ _ _ => (pg_name (i := 4) sc_law.nd rfl (.inl rfl))) (fun _ _ _ _ _ => pts_nil) (fun _ _ _ _ _ => (pe_callTy c_str (by rfl) T.n_str (by rfl) (pa_cons (pv 4) pa_nil)))) pa_nil)))
  (pss_cons (ps_set (i := 5) sc_law.nd rfl (.inr rfl) (pe_call G__law_random (hr.mono (by decide)) (by rfl) T.g__law_random T.f__law_random.kp T.b__law_random .nil pass0 (pa_cons (pe_call G__law_draws (hr.mono (by decide)) (by rfl) T.g__law_draws T.f__law_draws.kp T.b__law_draws .nil pass0 (pa_cons (pv 0) (pa_cons pe_int (pa_cons pe_int pa_nil)))) (pa_cons (pv 3) pa_nil))))
  (pss_cons (ps_set (i := 6) sc_law.nd rfl (.inl rfl) (pe_call G__law_pairs (hr.mono (by decide)) (by rfl) T.g__law_pairs T.f__law_pairs.kp T.b__law_pairs .nil pass0 (pa_cons (pv 5) (pa_cons (pv 3) pa_nil))))
  (pss_cons (ps_set (i := 7) sc_law.nd rfl (.inl rfl) (pe_call G__law_lot (hr.mono (by decide)) (by rfl) T.g__law_lot T.f__law_lot.kp T.b__law_lot .nil pass0 (pa_cons (pv 0) (pa_cons (pv 3) (pa_cons (pe_ix ix_seq (pe_lst (pa_cons pe_int (pa_cons pe_int (pa_cons pe_int (pa_cons pe_int (pa_cons pe_int pa_nil)))))) (pe_op op_mod (pe_callTy c_int (by rfl) T.n_int (by rfl) (pa_cons (pe_ix ix_seq (pv 1) pe_int (fun _ _ => rfl)) pa_nil)) pe_int) (fun _ _ => rfl)) (pa_cons pe_bl pa_nil))))))
  (pss_cons (ps_set (i := 8) sc_law.nd rfl (.inr rfl) (pe_lc (own := [("_law_one", 9)]) (g := gName 9) (tt := tYes) rfl sc_law.nd (pi_list (pv 7)) (blkOk_by (N := N_law) (sc := defScope s_law) (by decide +kernel)) (fun _ _ _ _ _ => (pg_name (i := 9) sc_law.nd rfl (.inl rfl))) (fun _ _ _ _ _ => pts_nil) (fun _ _ _ _ _ => (pe_ix (ix_seqK (K := K)) (pv 9) pe_int (fun _ _ => rfl)))))
  (pss_cons (ps_set (i := 10) sc_law.nd rfl (.inl rfl) (pe_call G__law_client (hr.mono (by decide)) (by rfl) T.g__law_client T.f__law_client.kp T.b__law_client .nil pass0 (pa_cons (pv 5) pa_nil)))
  (pss_cons (ps_set (i := 11) sc_law.nd rfl (.inl rfl) (pe_call G__law_built (hr.mono (by decide)) (by rfl) T.g__law_built T.f__law_built.kp T.b__law_built .nil pass0 (pa_cons (pv 7) pa_nil)))
  (pss_cons (ps_if (PW.pt (pw_and (pt_cmpR op_eq (pe_op op_mod (pe_callTy c_int (by rfl) T.n_int (by rfl) (pa_cons (pe_ix ix_seq (pv 1) pe_int (fun _ _ => rfl)) pa_nil)) pe_int) pe_int (nomark _)) (pw_and1 (pt_cmpR op_gt (pe_callB c_len (by rfl) T.n_len (by rfl) (pa_cons (pv 7) pa_nil)) pe_int (nomark _))))) (pss_cons (ps_set (i := 12) sc_law.nd rfl (.inl rfl) (pe_op op_mod (pe_callTy c_int (by rfl) T.n_int (by rfl) (pa_cons (pe_ix ix_seq (pv 1) pe_int (fun _ _ => rfl)) pa_nil)) (pe_callB c_len (by rfl) T.n_len (by rfl) (pa_cons (pv 7) pa_nil))))
  (pss_cons (ps_set (i := 8) sc_law.nd rfl (.inr rfl) (pe_op opAdd (pe_op opAdd (pe_slice sl_list (pv 8) po_none (po_some (pv 12))) (pe_lst (pa_cons (pe_un un_neg pe_int) pa_nil))) (pe_slice sl_list (pv 8) (po_some (pe_op opAdd (pv 12) pe_int)) po_none)))
  (pss_one (ps_expr (pe_meth (pv 11) T.cl_Lot T.me_Lot_set_states G_set_states (hr.mono (by decide)) T.b_Lot_set_states .nil pass0 (pa_cons (pe_callTy c_tupleF (by rfl) T.n_tuple (by rfl) (pa_cons (pv 8) pa_nil)) pa_nil)))))) pss_nil)
  (pss_cons (ps_set (i := 13) sc_law.nd rfl (.inl rfl) (pe_op op_mod (pe_callTy c_int (by rfl) T.n_int (by rfl) (pa_cons (pe_ix ix_seq (pv 1) pe_int (fun _ _ => rfl)) pa_nil)) pe_int))
  (pss_cons (ps_asg (pe_call G__law_factor (hr.mono (by decide)) (by rfl) T.g__law_factor T.f__law_factor.kp T.b__law_factor .nil pass0 (pa_cons (pv 6) (pa_cons (pe_op op_mod (pe_callTy c_int (by rfl) T.n_int (by rfl) (pa_cons (pe_ix ix_seq (pv 1) pe_int (fun _ _ => rfl)) pa_nil)) pe_int) pa_nil))) (pg_tup (by rfl) (pgs_cons (pg_name (i := 14) sc_law.nd rfl (.inl rfl)) (pgs_cons (pg_name (i := 15) sc_law.nd rfl (.inl rfl)) pgs_nil))))
  (pss_cons (ps_set (i := 16) sc_law.nd rfl (.inl rfl) (pe_call G__law_size (hr.mono (by decide)) (by rfl) T.g__law_size T.f__law_size.kp T.b__law_size .nil pass0 (pa_cons (pv 5) (pa_cons (pv 7) (pa_cons (pv 14) (pa_cons (pv 13) pa_nil))))))
  (pss_cons (ps_if (pt_cmpR op_gt (pv 16) pe_int (nomark _)) (pss_one (ps_ret (pe_cmpR op_eq (pe_call G__law_size_raised (hr.mono (by decide)) (by rfl) T.g__law_size_raised T.f__law_size_raised.kp T.b__law_size_raised .nil pass0 (pa_cons (pv 10) (pa_cons (pv 11) (pa_cons (pv 15) (pa_cons (pv 13) pa_nil))))) (pv 16) (nomark _)))) pss_nil)
  (pss_cons (ps_setLc (i := 17) (own := [("_law_row", 18)]) (g := gName 18) (tt := tYes) rfl sc_law.nd rfl rfl (sw_true rfl rfl rfl (by decide +kernel)) (pi_list (pe_call G__law_known (hr.mono (by decide)) (by rfl) T.g__law_known T.f__law_known.kp T.b__law_known .nil pass0 (pa_cons (pv 6) (pa_cons (pe_ix ix_seq (pv 5) pe_int (fun _ _ => rfl)) (pa_cons (pv 15) pa_nil))))) (blkOk_by (N := N_law) (sc := defScope s_law) (by decide +kernel)) (fun _ _ _ _ _ => (pg_name (i := 18) sc_law.nd rfl (.inl rfl))) (fun _ _ _ _ _ => pts_nil) (fun _ _ _ _ _ => (pe_tup (pa_cons (pe_ix (ix_seqK (K := K)) (pv 5) pe_int (fun _ _ => rfl)) (pa_cons (pe_callTy (c_tupleK (K := K)) (by rfl) T.n_tuple (by rfl) (pa_cons (pv 8) pa_nil)) (pa_cons (pv 18) pa_nil))))))
  (pss_cons (ps_set (i := 19) sc_law.nd rfl (.inl rfl) (pe_call G__law_game (hr.mono (by decide)) (by rfl) T.g__law_game T.f__law_game.kp T.b__law_game .nil passN0 (pa_cons (pv 10) (pa_cons (pv 11) (pa_cons (pv 15) (pa_cons (pv 13) pa_nil))))))
  (pss_cons (ps_if (pt_not (pt_val (pe_call G__law_first_holds (hr.mono (by decide)) (by rfl) T.g__law_first_holds T.f__law_first_holds.kp T.b__law_first_holds .nil pass0 (pa_cons (pv 19) (pa_cons (pv 16) (pa_cons (pv 17) pa_nil)))))) (pss_one (ps_ret pe_bl)) pss_nil)
  (pss_cons (ps_if (pt_cmpR op_gt (pe_callB c_len (by rfl) T.n_len (by rfl) (pa_cons (pe_ix ix_seq (pv 6) (pe_ix ix_seq (pv 5) pe_int (fun _ _ => rfl)) (fun _ _ => rfl)) pa_nil)) pe_int (nomark _)) (pss_one (ps_setO T.me_Pattern___setitem__ T.nq_Pattern G_setP (hr.mono (by decide)) T.b_Machine___setitem__ (fun σ => passH σ) (pe_ix ix_seq (pe_ix ix_seq (pe_ix ix_seq (pv 6) (pe_ix ix_seq (pv 5) pe_int (fun _ _ => rfl)) (fun _ _ => rfl)) (pe_un un_neg pe_int) (fun _ _ => rfl)) pe_int (fun _ _ => rfl)) (pv 10) (pe_ix ix_seq (pe_ix ix_seq (pe_ix ix_seq (pv 6) (pe_ix ix_seq (pv 5) pe_int (fun _ _ => rfl)) (fun _ _ => rfl)) (pe_un un_neg pe_int) (fun _ _ => rfl)) pe_int (fun _ _ => rfl)))) pss_nil)
  (pss_cons (ps_expr (pe_meth (pv 11) T.cl_Lot T.me_Lot_set_states G_set_states (hr.mono (by decide)) T.b_Lot_set_states .nil pass0 (pa_cons (pe_callTy c_tupleF (by rfl) T.n_tuple (by rfl) (pa_cons (pe_lc (own := [("_law_one", 9)]) (g := gName 9) (tt := tYes) rfl sc_law.nd (pi_list (pv 7)) (blkOk_by (N := N_law) (sc := defScope s_law) (by decide +kernel)) (fun _ _ _ _ _ => (pg_name (i := 9) sc_law.nd rfl (.inl rfl))) (fun _ _ _ _ _ => pts_nil) (fun _ _ _ _ _ => pe_int)) pa_nil)) pa_nil)))
  (pss_one (ps_ret (pe_call G__law_first_holds (hr.mono (by decide)) (by rfl) T.g__law_first_holds T.f__law_first_holds.kp T.b__law_first_holds .nil pass0 (pa_cons (pv 19) (pa_cons (pv 16) (pa_cons (pv 17) pa_nil))))))))))))))))))))))))), ?_⟩
    walk_at "g"
    refine ⟨a, ns, 0, 10, rfl, hS, by decide, by decide, by decide, fun ps0 H1 fs e1 t1 => ?_⟩
    have d1 : (drawsF ns 0 10).length = 10 := draws_len ns 0 10
    have d2 : (drawsF ns 1 13).length = 13 := draws_len ns 1 13
    have bd := draws_bd ns 0 10
    generalize drawsF ns 0 10 = row at t1 d1 bd
    walk_at "g"
    refine ⟨a, ns, 1, 13, rfl, ex_l e1 hS, by decide, by decide, by decide, fun pk H2 fk e2 t2 => ?_⟩
    walk_at "g"
    refine ix_l (.inl (.inl (e2 _ _ t1))) (row_at (j := 1) (by omega)) ?_
    walk_at "g"
    have hm0 : 0 ≤ 1 + row.getD 1 0 % 3 ∧ 1 + row.getD 1 0 % 3 ≤ 3 := by omega
    generalize 1 + row.getD 1 0 % 3 = cnt at hm0
    refine ⟨pk, drawsF ns 1 13, cnt, rfl, .inl (.inl t2), d2, draws_bd ns 1 13, by omega, by omega, fun pn H3 fn e3 t3 => ?_⟩
    have nl := asks_len (drawsF ns 1 13) cnt.toNat
    walk_at "g"
    refine lcl_go (xs := (asksF (drawsF ns 1 13) cnt.toNat).map V.str) (fun _ => true) (fun v => v) (.inl (.inl t3)) (by rw [List.length_map, nl]; omega) (fun _ => rfl) yes_t ?_ ?_
    · intro v hv _ H4 e4 R r
      obtain ⟨x, _, rfl⟩ := List.mem_map.mp hv
      walk_at "g"
      exact ⟨x, rfl, r H4 (Ex.refl _)⟩
    intro pl H4 hl4 e4 t4
    rw [filter_yes, List.map_id'] at t4
    walk_at "g"
    refine ⟨pl, asksF (drawsF ns 1 13) cnt.toNat, rfl, .inl (.inl t4), by rw [nl]; exact Nat.le_of_lt (sz_lt (by omega)), fun asks pA pp hs hps => ?_⟩
    have up := sorted_up pp hs (asks_nodup (by omega) (draws_bd ns 1 13) (by omega))
    have ak : ∀ x ∈ asks, AskOk x := fun x hx => asks_ok (by omega) _ x (pp.mem_iff.mp hx)
    have al : asks.length ≤ 4 := by rw [pp.length_eq, nl]; omega
    have e5 := Ex.new (o := .lst (asks.map V.str)) hps
    have t5 : (upd H4 pA (.lst (asks.map V.str))) pA = some (.lst (asks.map V.str)) := upd_same
    generalize (upd H4 pA (.lst (asks.map V.str))) = H5 at e5 t5
    have X5 : Ex H H5 := e1.trans (e2.trans (e3.trans (e4.trans e5)))
    have E1 := (e2.trans (e3.trans (e4.trans e5))) _ _ t1
    have hS5 := ex_l X5 hS
    clear t1 e1 e2 e3 e4 e5 fs fk fn hl4 t2 t3 t4 hps X5 hS
    walk_at "g"
    refine ⟨a, ns, 2, 24, rfl, hS5, by decide, by decide, by decide, fun pr H6 fr e6 t6 => ?_⟩
    walk_at "g"
    have hS6 := ex_l e6 hS5
    have t56 := e6 _ _ t5
    refine ⟨pr, pA, drawsF ns 2 24, asks, rfl, .inl (.inl t6), draws_len ns 2 24, draws_bd ns 2 24, .inl (.inl t56), al, fun pb am as_ us H7 fb e7 pd => ?_⟩
    have okp := rand_ok (row := drawsF ns 2 24) ak al up
    have sub : ∀ s ∈ (randF (drawsF ns 2 24) asks).ss, s.2.1 ∈ asks := fun s hs => (grid_in (show s ∈ gridF asks _ _ from hs)).2.2.1
    generalize randF (drawsF ns 2 24) asks = p at pd okp sub
    walk_at "g"
    have t57 := e7 _ _ t56
    refine ⟨pb, pA, am, as_, p, us, asks, rfl, pd, okp, .inl (.inl t57), al, fun pq pus H8 fq e8 t8 rw8 => ?_⟩
    have E8 := (e6.trans (e7.trans e8)) _ _ E1
    have hS8 := ex_l (e7.trans e8) hS6
    have tA8 := e8 _ _ t57
    have pd8 := pd.ex e8
    clear E1 hS5 t5 t6 t56 t57 hS6 pd fr fb
    walk_at "g"
    refine lst_go fun pz H9 nz e9 t9 => ?_
    have tz9 : H9 pz = some (.lst (manys.map V.int)) := t9
    walk_at "g"
    refine ix_l (.inl (.inl (e9 _ _ E8))) (row_at (j := 2) (by omega)) ?_
    walk_at "g"
    have b2 := bd (row.getD 2 0) (getD_mem (z := 0) (show 2 < row.length by omega))
    obtain ⟨k2, hk2, hk5⟩ : ∃ k : Nat, row.getD 2 0 % 5 = (k : Int) ∧ k < 5 := ⟨(row.getD 2 0 % 5).toNat, by omega, by omega⟩
    rw [hk2]
    refine ix_l (.inl (.inl tz9)) (row_at (row := manys) (j := k2) hk5) ?_
    have mk : 0 ≤ manys.getD k2 0 ∧ manys.getD k2 0 ≤ 5 := by
      have : k2 = 0 ∨ k2 = 1 ∨ k2 = 2 ∨ k2 = 3 ∨ k2 = 4 := by omega
      rcases this with rfl | rfl | rfl | rfl | rfl <;> decide
    generalize manys.getD k2 0 = many at mk
    walk_at "g"
    refine ⟨a, pA, ns, asks, many, false, rfl, ex_l e9 hS8, .inl (.inl (e9 _ _ tA8)), al, mk.1, mk.2, fun pP us2 H10 fP e10 t10 tP => ?_⟩
    have hok := plains_ok (ns := ns) (many := many) (single := false) (k := many.toNat) ak al up
    have hpl : (plainsF ns asks many false many.toNat).length ≤ 5 := by
      unfold plainsF
      rw [List.length_map, List.length_range]
      omega
    generalize plainsF ns asks many false many.toNat = ps at tP hok hpl
    have g : GmOk p ps asks ((List.range p.n.toNat).map fun (st : Nat) => lpairs p asks (st : Int) asks.length) := ⟨okp, up, sub, ak, rfl, hok, hpl⟩
    generalize ((List.range p.n.toNat).map fun (st : Nat) => lpairs p asks (st : Int) asks.length) = prl at g rw8
    have hul := tP.1
    have X10 := e9.trans e10
    have E10 := X10 _ _ E8
    have q10 := X10 _ _ t8
    have rw10 := rw8.ex X10
    have pd10 := pd8.ex X10
    clear E8 t8 rw8 pd8 t9 tz9 hS8 tA8 fP X10 e9 e10 fq
    walk_at "g"
    refine nows_go t10 tP (by omega) (fun _ => rfl) (fun b am as_ p Ha R hb r => ?_) fun pS H11 hpS e11 t11 => ?_
    · walk_at "g"
      refine ix_t (.inl (.inl hb)) (show atI _ 3 = some (.int p.now) from rfl) ?_
      exact r
    walk_at "g"
    refine ⟨pb, am, as_, p, us, rfl, pd10.ex e11, okp, fun y H12 hy e12 my => ?_⟩
    walk_at "g"
    refine ⟨pP, us2, ps, rfl, (e11.trans e12) _ _ t10, tP.ex (e11.trans e12), hok, hpl, fun x H13 ux hx e13 lx nx => ?_⟩
    have X13 := e11.trans (e12.trans e13)
    have E13 := X13 _ _ E10
    have q13 := X13 _ _ q10
    have rw13 := rw10.ex X13
    have pd13 := pd10.ex X13
    have P13 := X13 _ _ t10
    have tP13 := tP.ex X13
    have S13 := (e12.trans e13) _ _ t11
    have my13 := my.ex e13
    have nyx : y ≠ x := fun z => by
      obtain ⟨_, _, _, _, _, _, y1, _⟩ := id my
      rw [z, hx] at y1
      cases y1
    have nuy : ∀ u : Addr, V.ref u ∈ ux → u ≠ y := fun u hu z => by
      obtain ⟨_, _, _, _, _, _, y1, _⟩ := id my
      have := nx u hu
      rw [z, y1] at this
      cases this
    clear E10 q10 rw10 pd10 t10 tP t11 my e11 e12 e13 X13 hpS hy hx
    with_reducible refine r_seq ?_
    refine join_any (fun σ' H' => ∃ (pS' : Addr) (y12 : Option V) (sts : List Int), σ' = [some (.ref a), some (.ref ps0), some (.ref pn), some (.ref pA), none, some (.ref pb), some (.ref pq), some (.ref pP), some (.ref pS'), none, some (.ref y), some (.ref x), y12, none, none, none, none, none, none, none] ∧
      Ch x H13 H' ∧ LotAtU T H' x ⟨ps.map machP, sts⟩ ux ∧ H' pS' = some (.lst (sts.map V.int)) ∧ Good ps sts) (fun D' tail => ?_) ?_
    · walk_at "g"
      refine ix_l (.inl (.inl E13)) (row_at (j := 3) (by omega)) ?_
      walk_at "g"
      refine ite_b (fun hc => ?_) (fun hc => ?_)
      · walk_at "g"
        refine len_l (.inl (.inl P13)) ?_
        walk_at "g"
        refine ite_b (fun hc2 => ?_) (fun hc2 => ?_)
        · have us0 : 0 < (us2.length : Int) := of_decide_eq_true hc2
          walk_at "g"
          refine ix_l (.inl (.inl E13)) (row_at (j := 4) (by omega)) ?_
          walk_at "g"
          refine len_l (.inl (.inl P13)) ?_
          walk_at "g"
          refine r_I us0 ?_
          have s0 := Int.emod_nonneg (row.getD 4 0) (show (us2.length : Int) ≠ 0 by omega)
          have s1 := Int.emod_lt_of_pos (row.getD 4 0) us0
          obtain ⟨k, hk⟩ : ∃ k : Nat, row.getD 4 0 % (us2.length : Int) = k := ⟨(row.getD 4 0 % (us2.length : Int)).toNat, by omega⟩
          rw [hk] at s0 s1 ⊢
          have kl : k < ps.length := by omega
          have ln : (ps.map fun p : PlainD => p.now).length = ps.length := List.length_map ..
          walk_at "g"
          refine sl_l (.inl (.inl S13)) fun q1 hq1 => ?_
          rw [cutV_to]
          have f1 := Ex.new (o := .lst (((ps.map fun p : PlainD => p.now).map V.int).take k)) hq1
          have u1 : (upd H13 q1 (.lst (((ps.map fun p : PlainD => p.now).map V.int).take k))) q1 = _ := upd_same
          generalize (upd H13 q1 (.lst (((ps.map fun p : PlainD => p.now).map V.int).take k))) = G1 at f1 u1
          walk_at "g"
          refine lst_go fun q2 G2 nq2 f2 u2 => ?_
          refine add_lst (f2 _ _ u1) u2 (sz_of (by simp only [List.length_take, List.length_map, List.length_cons, List.length_nil]; omega)) fun q3 hq3 => ?_
          have f3 := Ex.new (o := .lst (((ps.map fun p : PlainD => p.now).map V.int).take k ++ [.int (-1)])) hq3
          have u3 : (upd G2 q3 (.lst (((ps.map fun p : PlainD => p.now).map V.int).take k ++ [.int (-1)]))) q3 = _ := upd_same
          generalize (upd G2 q3 (.lst (((ps.map fun p : PlainD => p.now).map V.int).take k ++ [.int (-1)]))) = G3 at f3 u3
          walk_at "g"
          have f13 := f1.trans (f2.trans f3)
          refine sl_l (.inl (.inl (f13 _ _ S13))) fun q4 hq4 => ?_
          rw [show ((k : Int) + 1) = ((k + 1 : Nat) : Int) by omega, cutV_from]
          have f4 := Ex.new (o := .lst (((ps.map fun p : PlainD => p.now).map V.int).drop (k + 1))) hq4
          have u4 : (upd G3 q4 (.lst (((ps.map fun p : PlainD => p.now).map V.int).drop (k + 1)))) q4 = _ := upd_same
          generalize (upd G3 q4 (.lst (((ps.map fun p : PlainD => p.now).map V.int).drop (k + 1)))) = G4 at f4 u4
          refine add_lst (f4 _ _ u3) u4 (sz_of (by simp only [List.length_append, List.length_take, List.length_drop, List.length_map, List.length_cons, List.length_nil]; omega)) fun q5 hq5 => ?_
          rw [gone_map]
          have gG := good_gone kl
          have f5 := Ex.new (o := .lst (((ps.map fun p : PlainD => p.now).take k ++ [-1] ++ (ps.map fun p : PlainD => p.now).drop (k + 1)).map V.int)) hq5
          have u5 : (upd G4 q5 (.lst (((ps.map fun p : PlainD => p.now).take k ++ [-1] ++ (ps.map fun p : PlainD => p.now).drop (k + 1)).map V.int))) q5 = _ := upd_same
          generalize (upd G4 q5 (.lst (((ps.map fun p : PlainD => p.now).take k ++ [-1] ++ (ps.map fun p : PlainD => p.now).drop (k + 1)).map V.int))) = G5 at f5 u5
          generalize (ps.map fun p : PlainD => p.now).take k ++ [-1] ++ (ps.map fun p : PlainD => p.now).drop (k + 1) = sts at gG u5
          have f15 := f13.trans (f4.trans f5)
          have lx5 := lx.ex f15
          obtain ⟨dxx, av5, au5, x5, _⟩ := id lx5
          walk_at "g"
          refine ⟨x, dxx, _, rfl, x5, rfl, ?_⟩
          walk_at "g"
          refine ⟨q5, _, rfl, .inl (.inl u5), newf_go fun tp G6 ntp f6 tf => ?_⟩
          walk_at "g"
          have lx6 := lx5.ex f6
          refine ⟨x, tp, lotD ps, ux, sts, rfl, lx6, tf, by rw [gG.1]; exact (List.length_map ..).symm, by show (ps.map machP).length ≤ 5; rw [List.length_map]; exact hpl, good_ok gG hok, fun H' c' l' => ?_⟩
          walk_at "g"
          have nq5 : q5 ≠ x := fun z => by rw [z, x5] at u5; cases u5
          exact tail _ _ ⟨q5, _, sts, rfl, Ch.trans (ch_ex (f15.trans f6)) c', l', c' _ _ nq5 (f6 _ _ u5), gG⟩
        · walk_at "g"
          exact tail _ _ ⟨pS, _, _, rfl, ch_ex (Ex.refl _), lx, S13, good_now ps⟩
      · walk_at "g"
        exact tail _ _ ⟨pS, _, _, rfl, ch_ex (Ex.refl _), lx, S13, good_now ps⟩
    rintro σ' H14 ⟨pS', y12, sts, rfl, c14, lx14, S14, gd⟩
    obtain ⟨dxx, av13, au13, x13, _⟩ := id lx
    have nl : ∀ (b : Addr) (l : List V), H13 b = some (.lst l) → H14 b = some (.lst l) := fun b l h => c14 _ _ (ne_of h x13 (by intro z; cases z)) h
    have E14 := nl _ _ E13
    have q14 := nl _ _ q13
    have P14 := nl _ _ P13
    have rw14 := rw13.chx x13 c14
    have pd14 := pd13.chx x13 c14
    have tP14 := tP13.chx x13 c14
    have my14 := my13.ch x13 nyx c14
    clear nl E13 q13 P13 rw13 pd13 tP13 my13 c14 x13 lx nx S13
    have n1 := okp.n1
    have n4 := okp.n4
    have w0 := okp.w0
    have w1 := okp.w1
    walk_at "g"
    refine ix_l (.inl (.inl E14)) (row_at (j := 6) (by omega)) ?_
    walk_at "g"
    have b6 := bd (row.getD 6 0) (getD_mem (z := 0) (show 6 < row.length by omega))
    obtain ⟨f, hf⟩ : ∃ f, f = row.getD 6 0 % 6 := ⟨_, rfl⟩
    have f05 : 0 ≤ f ∧ f ≤ 5 := by omega
    rw [← hf]
    refine r_asgT ?_
    walk_at "g"
    refine ix_l (.inl (.inl E14)) (row_at (j := 5) (by omega)) ?_
    walk_at "g"
    have b5 := bd (row.getD 5 0) (getD_mem (z := 0) (show 5 < row.length by omega))
    obtain ⟨d, hd, hd4⟩ : ∃ d : Nat, row.getD 5 0 % 5 = (d : Int) ∧ d ≤ 4 := ⟨(row.getD 5 0 % 5).toNat, by omega, by omega⟩
    rw [hd]
    refine ⟨pq, d, pus, prl, rfl, q14, rw14, fun r hr => Nat.le_trans (g.rlen r hr) (by decide), by omega, fun pf H15 nf e15 h15 => ?_⟩
    obtain ⟨W1, _⟩ := wide_pos prl
    obtain ⟨F1, F2, t4⟩ := fac_bd (wideF prl) W1 d
    refine gtup2 h15 (gnames2 ?_)
    walk_at "g"
    refine ⟨pb, am, as_, pP, p, us, us2, ps, (facF (wideF prl) d).1, f, rfl, pd14.ex e15, e15 _ _ P14, tP14.ex e15, fun z hz => ⟨(hok z hz).n1, (hok z hz).n4⟩, F1, F2, ?_⟩
    have bdS := g.bd d f
    have szM := fun M (mo : mostF p.ss p.n M) => g.size d f mo sts
    have szE : plSize (if 0 < f then 1 else 0) (p.n * (facF (wideF prl) d).1) ps = gSize p ps prl d f := rfl
    rw [szE]
    have fit := g.fits d f sts
    have kl := g.klen d
    have sok := g.strs (facF (wideF prl) d).2 p.now
    have hVs : ∀ k ∈ ps.map machP, ValidM k := fun m hm => by
      obtain ⟨z, hz, rfl⟩ := List.mem_map.mp hm
      exact (hok z hz).valid
    have lsts : sts.length = (ps.map machP).length := by rw [gd.1]; exact (List.length_map ..).symm
    have lms : (ps.map machP).length ≤ 5 := by rw [List.length_map]; exact hpl
    generalize gSize p ps prl d f = S at bdS szM
    generalize (facF (wideF prl) d).1 = F at F1 F2
    generalize ht : (facF (wideF prl) d).2 = tt at t4 szM fit kl sok
    have tt4 : tt ≤ 4 := by omega
    walk_at "g"
    refine ite_b (fun hc => ?_) (fun hc => ?_)
    · have gt := of_decide_eq_true hc
      walk_at "g"
      refine ⟨y, x, machP p, ⟨ps.map machP, sts⟩, (tt : Int), f, rfl, my14.ex e15, okp.valid, (lx14.ex e15).at_, lsts, lms, hVs, by omega, by omega, f05.1, f05.2, fun M mo => ?_⟩
      rw [szM M mo]
      refine ⟨by omega, gt, fun H' _ => ?_⟩
      walk_at "g"
      rw [decide_eq_true rfl]
      exact q H'
    have le : S ≤ 20000 := Int.not_lt.mp (of_decide_eq_false hc)
    walk_at "g"
    have pd15 := pd14.ex e15
    have S15 := e15 _ _ S14
    refine ix_t (.inl (.inl pd15.1)) (show atI _ 3 = some (.int p.now) from rfl) ?_
    walk_at "g"
    refine ⟨pq, p.now, tt, pus, prl, p.ss, rfl, e15 _ _ q14, rw14.ex e15, fun e h0 h1 => g.at_ h0 (by rw [g.len] at h1; exact h1), fun e h0 h1 z hz => by rw [g.len]; exact g.cl e z hz, w0, by rw [g.len]; exact w1, fun r hr => Nat.le_trans (g.rlen r hr) (by decide), by omega, fun j hj => Nat.le_trans (kl j hj _) (by decide), fun lk usK H16 nlk e16 hlk nts => ?_⟩
    have lK : usK.length = (knownF p.ss tt p.now).length := by rw [nts.len, List.length_map]
    have kK := kl tt (Nat.le_refl _) p.now
    refine lco_l (xs := usK) (fun i acc Hx => FirstL K Hx acc sts p.now (knownF p.ss tt p.now) i) ⟨fun _ _ _ _ e h => h.kp (keeps_ex e), fun _ _ _ _ _ _ hD c h => h.kp (keeps_chl hD c)⟩ (.inl (.inl hlk)) (by omega) ⟨rfl, fun i row hi => absurd hi (Nat.not_lt_zero _)⟩ ?_ ?_
    · intro i v acc Ha hv al2 ea pa R R2 r
      have e1a := e16.trans ea
      refine gname1 ⟨rfl, yes_q (ite_t rfl ?_)⟩
      walk_at "g"
      refine ix_t (.inl (.inl (pd15.ex e1a).1)) (show atI _ 3 = some (.int p.now) from rfl) ?_
      walk_at "g"
      refine ⟨pS', _, rfl, .inl ⟨.inl (.inl (e1a _ _ S15)), fun l9 hl9 => ?_⟩⟩
      have e9 : Ex Ha (upd Ha l9 (.tup (sts.map V.int))) := Ex.new hl9
      have u9 : (upd Ha l9 (.tup (sts.map V.int))) l9 = some (.tup (sts.map V.int)) := upd_same
      generalize (upd Ha l9 (.tup (sts.map V.int))) = Hb at e9 u9
      walk_at "g"
      refine tup_go' fun p9 H9 n9 e10 h9 => ?_
      refine r _ H9 (e9.trans e10) ?_
      have pa' := pa.kp (keeps_ex (e9.trans e10))
      refine ⟨by rw [List.length_append, pa'.1]; rfl, fun j row2 hj hr2 => ?_⟩
      by_cases z : j = i
      · subst z
        obtain ⟨kk, hkk, nk⟩ := nts.get hv
        rw [List.getElem?_map, hr2] at hkk
        cases hkk
        exact ⟨p9, l9, v, by rw [List.getElem?_append_right (by rw [pa'.1]; exact Nat.le_refl _), pa'.1, Nat.sub_self]; rfl, .inl (.inl h9), .inl (.inl (e10 _ _ u9)), nk.tx (ex_txn (ea.trans (e9.trans e10)))⟩
      · obtain ⟨p2, au, rk, k1, k2'⟩ := pa'.2 j row2 (by omega) hr2
        exact ⟨p2, au, rk, by rw [List.getElem?_append_left (by rw [pa'.1]; omega)]; exact k1, k2'⟩
    intro D dus H17 nD alD e17 hD pF
    rw [lK] at pF
    have dueS := pF.stans
    have X17 := e15.trans (e16.trans e17)
    have E17 := X17 _ _ E14
    have q17 := X17 _ _ q14
    have P17 := X17 _ _ P14
    have rw17 := rw14.ex X17
    have pd17 := pd14.ex X17
    have tP17 := tP14.ex X17
    have my17 := my14.ex X17
    have lx17 := lx14.ex X17
    clear E14 q14 P14 rw14 pd14 tP14 my14 lx14 pd15 S15 S14 h15 hlk nts pF
    walk_at "g"
    refine ⟨y, x, machP p, ⟨ps.map machP, sts⟩, (tt : Int), f, fun S' dx fs tp H' => S' = S ∧ List.lookup ("first" : Str) ((("size" : Str), V.int S) :: fs) = some (V.ref tp) ∧ FirstAt K H' tp sts p.now (knownF p.ss tt p.now), rfl, my17, okp.valid, lx17.at_, lsts, lms, hVs, by omega, by omega, f05.1, f05.2, fun M mo => ?_, ?_⟩
    · rw [szM M mo]
      exact ⟨by omega, fun h => absurd h (by omega), fun _ => ⟨fit, fun dx fs tp H' lk2 fi => ⟨rfl, lk2, fi⟩⟩⟩
    rintro S' gx dx fs tp H18 ⟨eS, lk2, fi⟩ ngx e18 hgx
    rw [eS] at hgx
    have D18 := e18 _ _ hD
    have due18 := dueS.kp (keeps_ex e18)
    have nk1 : (knownF p.ss tt p.now).length ≤ 100000 := by omega
    have nk2 : ∀ k ∈ knownF p.ss tt p.now, k.length ≤ 1000 := fun k hk => Nat.le_trans (known_len p.ss tt p.now k hk) (by omega)
    walk_at "g"
    refine ⟨gx, dx, D, tp, S, p.now, fs, dus, sts, knownF p.ss tt p.now, rfl, hgx, lk2, fi, D18, due18, nk1, nk2, by omega, sok, fun H19 e19 => ?_⟩
    refine ⟨_, rfl, ite_f rfl ?_⟩
    have X19 := e18.trans e19
    have E19 := X19 _ _ E17
    have q19 := X19 _ _ q17
    have P19 := X19 _ _ P17
    have rw19 := rw17.ex X19
    have pd19 := pd17.ex X19
    have tP19 := tP17.ex X19
    have my19 := my17.ex X19
    have lx19 := lx17.ex X19
    have g19 := e19 _ _ hgx
    have D19 := e19 _ _ D18
    have due19 := due18.kp (keeps_ex e19)
    have fi19 := fi.kp (keeps_ex e19)
    have ngy : gx ≠ y := fun z => by
      obtain ⟨_, _, _, _, _, _, y1, _⟩ := id my17
      rw [z, y1] at ngx
      cases ngx
    have ngxx : gx ≠ x := fun z => by
      obtain ⟨_, _, _, x1, _⟩ := id lx17
      rw [z, x1] at ngx
      cases ngx
    clear E17 q17 P17 rw17 pd17 tP17 my17 lx17 hgx D18 due18 fi e18 e19 X19 dueS hD
    obtain ⟨_, _, _, _, _, _, y19, _⟩ := id my19
    with_reducible refine r_next ?_
    with_reducible refine r_seq ?_
    refine join_any (fun σ' H' => σ' = [some (.ref a), some (.ref ps0), some (.ref pn), some (.ref pA), none, some (.ref pb), some (.ref pq), some (.ref pP), some (.ref pS'), none, some (.ref y), some (.ref x), y12, some (.int f), some (.int F), some (.int (tt : Int)), some (.int S), some (.ref D), none, some (.ref gx)] ∧ Ch y H19 H') (fun D' tail => ?_) ?_
    · walk_at "g"
      refine ix_t (.inl (.inl pd19.1)) (show atI _ 3 = some (.int p.now) from rfl) ?_
      obtain ⟨pr1, prw, ip, hpr1, npr⟩ := rows_ix rw19 w0 (by rw [g.len]; exact w1)
      rw [show prl.getD p.now.toNat [] = pairsL p.ss p.now from g.at_ w0 w1] at npr
      have lpr : prw.length = (pairsL p.ss p.now).length := by rw [npr.len, List.length_map]
      refine ix_l (.inl (.inl q19)) ip ?_
      walk_at "g"
      refine len_l (.inl (.inl hpr1)) ?_
      walk_at "g"
      refine ite_b (fun hc3 => ?_) (fun hc3 => ?_)
      · have lp0 : 0 < prw.length := by have := of_decide_eq_true hc3; omega
        obtain ⟨u, hu⟩ : ∃ u, prw.getLast? = some u := ⟨prw.getLast (fun z2 => by rw [z2] at lp0; cases lp0), List.getLast?_eq_some_getLast _⟩
        have gu : prw[prw.length - 1]? = some u := by rw [← List.getLast?_eq_getElem?]; exact hu
        obtain ⟨kk, hkk2, nu⟩ := npr.get gu
        rw [List.getElem?_map] at hkk2
        obtain ⟨lp, hlp, rfl⟩ := Option.map_eq_some_iff.mp hkk2
        have hin := pairs_in (List.mem_of_getElem? hlp)
        obtain ⟨pa2, px, rfl, hpa2, hpx⟩ := nu.tupOf
        obtain ⟨u1, u2, rfl, n1', n2'⟩ := hpx.inv2
        obtain rfl := n1'.str_inv
        obtain rfl := n2'.int_inv
        walk_at "g"
        refine r_setO ?_
        walk_at "g"
        refine ix_t (.inl (.inl pd19.1)) (show atI _ 3 = some (.int p.now) from rfl) ?_
        refine ix_l (.inl (.inl q19)) ip ?_
        walk_at "g"
        refine ix_l (.inl (.inl hpr1)) (last_at hu) ?_
        walk_at "g"
        refine ix_t (.inl (.inl hpa2)) (show atI _ 1 = some (.int lp.2) from rfl) ?_
        walk_at "g"
        refine ix_t (.inl (.inl pd19.1)) (show atI _ 3 = some (.int p.now) from rfl) ?_
        refine ix_l (.inl (.inl q19)) ip ?_
        walk_at "g"
        refine ix_l (.inl (.inl hpr1)) (last_at hu) ?_
        walk_at "g"
        refine ix_t (.inl (.inl hpa2)) (show atI _ 0 = some (.str lp.1) from rfl) ?_
        refine ⟨y, _, _, rfl, y19, y, machP p, lp.1, lp.2, rfl, my19, hin, fun H' c' _ => ?_⟩
        exact tail _ _ ⟨rfl, c'⟩
      · walk_at "g"
        exact tail _ _ ⟨rfl, ch_ex (Ex.refl _)⟩
    rintro σ' H20 ⟨rfl, c20⟩
    have k20 : Keeps H19 H20 := keeps_chx y19 c20
    have g20 := c20 _ _ ngy g19
    have D20 := c20 _ _ (ne_of D19 y19 (by intro z; cases z)) D19
    have P20 := c20 _ _ (ne_of P19 y19 (by intro z; cases z)) P19
    have due20 := due19.kp k20
    have fi20 := fi19.kp k20
    have lx20 := lx19.ch y19 (fun z => nyx z.symm) nuy c20
    clear E19 q19 rw19 pd19 tP19 my19 lx19 g19 D19 due19 fi19 P19 c20 k20 y19
    obtain ⟨dx2, av20, au20, x20, _⟩ := id lx20
    walk_at "g"
    refine ⟨x, dx2, _, rfl, x20, rfl, ?_⟩
    walk_at "g"
    refine lcl_go (xs := us2) (fun _ => true) (fun _ => V.int 0) (.inl (.inl P20)) (by omega) (fun _ => rfl) yes_t ?_ ?_
    · intro v hv _ H4 e4 R r
      walk_at "g"
      exact r H4 (Ex.refl _)
    intro pl0 H21 hl21 e21 t21
    rw [filter_yes, zeros_eq hul] at t21
    walk_at "g"
    refine ⟨pl0, _, rfl, .inl (.inl t21), newf_go fun tz H22 ntz e22 tf => ?_⟩
    walk_at "g"
    have X22 := e21.trans e22
    have lx22 := lx20.ex X22
    have x22 := X22 _ _ x20
    refine ⟨x, tz, ⟨ps.map machP, sts⟩, ux, ps.map fun _ => (0 : Int), rfl, lx22, tf, by rw [List.length_map]; exact (List.length_map ..).symm, lms, zeros_ok ps hok, fun H23 c23 _ => ?_⟩
    have g22 := X22 _ _ g20
    have D22 := X22 _ _ D20
    have k23 : Keeps H20 H23 := (keeps_ex X22).trans (keeps_chx x22 c23)
    walk_at "g"
    refine ⟨gx, dx, D, tp, S, p.now, fs, dus, sts, knownF p.ss tt p.now, rfl, c23 _ _ ngxx g22, lk2, fi20.kp k23, c23 _ _ (ne_of D22 x22 (by intro z; cases z)) D22, due20.kp k23, nk1, nk2, by omega, sok, fun H24 _ => ?_⟩
    exact q H24
end

end K08

set_option Elab.async false
set_option linter.all false
set_option maxRecDepth 100000
set_option maxHeartbeats 4000000
namespace K08
open PySem PySem.Spec PyProof.Rows L2 Evl AE
theorem all_mk {l : PySem.W.OpenLaw} {w : World} {K : PySem.W.Frag} {h : Heap} {mg : Str → Option Value} {fa C_AsksError C_BadCount C_TooLarge C_Machine C_Service C_Pattern C_Lot C_Game C_Posts C_Lineups f0 f1 f2 f3 f4 f5 f6 f7 f8 f9 f10 f11 f12 f13 f14 f15 f16 f17 f18 f19 f20 f21 f22 f23 f24 f25 f26 f27 f28 f29 f30 f31 f32 f33 f34 f35 f36 f37 f38 f39 f40 f41 f42 f43 f44 f45 f46 f47 f48 f49 f50 f51 cc51 cda51 f52 cc52 cda52 f53 f54 : Addr} {d0 d1 d2 d3 d4 d5 d6 d7 d8 d9 d10 d11 d12 d13 d14 d15 d16 d17 d18 d19 d20 d21 d22 d23 d24 d25 d26 d27 d28 d29 d30 d31 d32 d33 d34 d35 d36 d37 d38 d39 d40 d41 d42 d43 d44 d45 d46 d47 d48 d49 d50 d51 d52 d53 d54 : FuncData} {tk_MOST_STATES tk_MOST_STEPS tk_LONGEST_ASK tk_MOST_SERVICES tk_AWAY tk_MOST_AHEAD tk_MOST_FALLS tk_LARGEST_GAME : Tok} {file : Str} (X : K.In h) (G : h.Ns mainGlobals mg) (hfa : mg "law" = some (.ref fa))
    (qAsksError : PySem.W.nsIn K mainGlobals "AsksError" = some (some (.ref C_AsksError)))
    (qBadCount : PySem.W.nsIn K mainGlobals "BadCount" = some (some (.ref C_BadCount)))
    (qTooLarge : PySem.W.nsIn K mainGlobals "TooLarge" = some (some (.ref C_TooLarge)))
    (qMachine : PySem.W.nsIn K mainGlobals "Machine" = some (some (.ref C_Machine)))
    (qService : PySem.W.nsIn K mainGlobals "Service" = some (some (.ref C_Service)))
    (qPattern : PySem.W.nsIn K mainGlobals "Pattern" = some (some (.ref C_Pattern)))
    (qLot : PySem.W.nsIn K mainGlobals "Lot" = some (some (.ref C_Lot)))
    (qGame : PySem.W.nsIn K mainGlobals "Game" = some (some (.ref C_Game)))
    (qPosts : PySem.W.nsIn K mainGlobals "Posts" = some (some (.ref C_Posts)))
    (qLineups : PySem.W.nsIn K mainGlobals "Lineups" = some (some (.ref C_Lineups)))
    (oE2 : PySem.W.specialIn K (.builtin "object.__class__") "__get__" = some (some (.builtin "getset_descriptor.__get__")))
    (oE3 : PySem.W.takesIn K (.builtin "object.__class__") = some true)
    (hth : PySem.W.nsIn K PySem.cStatics "thirdparty.any" = some none)
    (a0 : PySem.W.nsIn K mainGlobals "_law_cell" = some (some (.ref f0)))
    (a1 : PySem.W.nsIn K mainGlobals "_law_draws" = some (some (.ref f1)))
    (a2 : PySem.W.nsIn K mainGlobals "_law_asks" = some (some (.ref f2)))
    (a3 : PySem.W.nsIn K mainGlobals "_law_steps" = some (some (.ref f3)))
    (a4 : PySem.W.nsIn K mainGlobals "_law_marks" = some (some (.ref f4)))
    (a5 : PySem.W.nsIn K mainGlobals "_law_lot" = some (some (.ref f5)))
    (a6 : PySem.W.nsIn K mainGlobals "_law_random" = some (some (.ref f6)))
    (a7 : PySem.W.nsIn K mainGlobals "_law_pairs" = some (some (.ref f7)))
    (a8 : PySem.W.nsIn K mainGlobals "_law_service" = some (some (.ref f8)))
    (a9 : PySem.W.nsIn K mainGlobals "_law_built" = some (some (.ref f9)))
    (a10 : PySem.W.nsIn K mainGlobals "_law_client" = some (some (.ref f10)))
    (a11 : PySem.W.nsIn K mainGlobals "_law_whole" = some (some (.ref f11)))
    (a12 : PySem.W.nsIn K mainGlobals "_law_is_pair" = some (some (.ref f12)))
    (a13 : PySem.W.nsIn K mainGlobals "_law_is_standing" = some (some (.ref f13)))
    (a14 : PySem.W.nsIn K mainGlobals "_law_longer" = some (some (.ref f14)))
    (a15 : PySem.W.nsIn K mainGlobals "_law_known" = some (some (.ref f15)))
    (a16 : PySem.W.nsIn K mainGlobals "_law_game" = some (some (.ref f16)))
    (a17 : PySem.W.nsIn K mainGlobals "_law_size_raised" = some (some (.ref f17)))
    (a18 : PySem.W.nsIn K mainGlobals "_law_first_holds" = some (some (.ref f18)))
    (a19 : PySem.W.nsIn K mainGlobals "_law_factor" = some (some (.ref f19)))
    (a20 : PySem.W.nsIn K mainGlobals "_law_size" = some (some (.ref f20)))
    (a21 : PySem.W.nsIn K mainGlobals "law" = some (some (.ref f21)))
    (a22 : PySem.W.nsIn K mainGlobals "check_size" = some (some (.ref f22)))
    (a23 : PySem.W.nsIn K mainGlobals "check_marks" = some (some (.ref f23)))
    (a24 : PySem.W.nsIn K mainGlobals "check_steps" = some (some (.ref f24)))
    (a25 : PySem.W.nsIn K mainGlobals "is_ask" = some (some (.ref f25)))
    (a26 : PySem.W.nsIn K mainGlobals "ascending" = some (some (.ref f26)))
    (a27 : PySem.W.nsIn K mainGlobals "ends_by_ask" = some (some (.ref f27)))
    (a28 : PySem.W.nsIn K mainGlobals "pairs_by_state" = some (some (.ref f28)))
    (inService : PySem.W.findIn K (.ref C_Service) "__init__" = some (some (.ref f29)))
    (inPattern : PySem.W.findIn K (.ref C_Pattern) "__init__" = some (some (.ref f29)))
    (i29 : PySem.W.isFn K (.ref f29) = true)
    (meService__getitem__ : PySem.W.findIn K (.ref C_Service) "__getitem__" = some (some (.ref f30)))
    (mePattern__getitem__ : PySem.W.findIn K (.ref C_Pattern) "__getitem__" = some (some (.ref f30)))
    (i30 : PySem.W.isFn K (.ref f30) = true)
    (meService__setitem__ : PySem.W.findIn K (.ref C_Service) "__setitem__" = some (some (.ref f31)))
    (mePattern__setitem__ : PySem.W.findIn K (.ref C_Pattern) "__setitem__" = some (some (.ref f31)))
    (i31 : PySem.W.isFn K (.ref f31) = true)
    (meServiceends_at : PySem.W.findIn K (.ref C_Service) "ends_at" = some (some (.ref f32)))
    (mePatternends_at : PySem.W.findIn K (.ref C_Pattern) "ends_at" = some (some (.ref f32)))
    (i32 : PySem.W.isFn K (.ref f32) = true)
    (mePatternpairs_at : PySem.W.findIn K (.ref C_Pattern) "pairs_at" = some (some (.ref f33)))
    (i33 : PySem.W.isFn K (.ref f33) = true)
    (meService__bool__ : PySem.W.findIn K (.ref C_Service) "__bool__" = some (some (.ref f34)))
    (mePattern__bool__ : PySem.W.findIn K (.ref C_Pattern) "__bool__" = some (some (.ref f34)))
    (i34 : PySem.W.isFn K (.ref f34) = true)
    (meServicetwin : PySem.W.findIn K (.ref C_Service) "twin" = some (some (.ref f35)))
    (i35 : PySem.W.isFn K (.ref f35) = true)
    (inLot : PySem.W.findIn K (.ref C_Lot) "__init__" = some (some (.ref f36)))
    (i36 : PySem.W.isFn K (.ref f36) = true)
    (meLot__len__ : PySem.W.findIn K (.ref C_Lot) "__len__" = some (some (.ref f37)))
    (i37 : PySem.W.isFn K (.ref f37) = true)
    (meLot__bool__ : PySem.W.findIn K (.ref C_Lot) "__bool__" = some (some (.ref f38)))
    (i38 : PySem.W.isFn K (.ref f38) = true)
    (meLot__getitem__ : PySem.W.findIn K (.ref C_Lot) "__getitem__" = some (some (.ref f39)))
    (i39 : PySem.W.isFn K (.ref f39) = true)
    (meLot__add__ : PySem.W.findIn K (.ref C_Lot) "__add__" = some (some (.ref f40)))
    (i40 : PySem.W.isFn K (.ref f40) = true)
    (a41 : PySem.W.nsIn K mainGlobals "check_number" = some (some (.ref f41)))
    (a42 : PySem.W.nsIn K mainGlobals "rests" = some (some (.ref f42)))
    (a43 : PySem.W.nsIn K mainGlobals "check_count" = some (some (.ref f43)))
    (a44 : PySem.W.nsIn K mainGlobals "game_size" = some (some (.ref f44)))
    (inGame : PySem.W.findIn K (.ref C_Game) "__init__" = some (some (.ref f45)))
    (i45 : PySem.W.isFn K (.ref f45) = true)
    (inPosts : PySem.W.findIn K (.ref C_Posts) "__init__" = some (some (.ref f46)))
    (i46 : PySem.W.isFn K (.ref f46) = true)
    (a47 : PySem.W.nsIn K mainGlobals "known_rows" = some (some (.ref f47)))
    (inLineups : PySem.W.findIn K (.ref C_Lineups) "__init__" = some (some (.ref f48)))
    (i48 : PySem.W.isFn K (.ref f48) = true)
    (meLineupstuple_at : PySem.W.findIn K (.ref C_Lineups) "tuple_at" = some (some (.ref f49)))
    (i49 : PySem.W.isFn K (.ref f49) = true)
    (a50 : PySem.W.nsIn K mainGlobals "state_choices" = some (some (.ref f50)))
    (sa51 : PySem.W.findIn K (.ref C_BadCount) "__setattr__" = some (some (.builtin "object.__setattr__")))
    (ga51 : PySem.W.findIn K (.ref C_BadCount) "__getattribute__" = some (some (.builtin "BaseException.__getattribute__")))
    (hc51 : PySem.W.findIn K (.ref C_BadCount) "__class__" = some (some (.builtin "object.__class__")))
    (gg51 : PySem.W.findIn K (.ref C_BadCount) "__getattr__" = some none)
    (nb510 : PySem.W.findIn K (.ref C_BadCount) "count" = some none)
    (in51 : PySem.W.findIn K (.ref C_BadCount) "__init__" = some (some (.ref f51)))
    (ti51 : PySem.W.typeIn K (.ref f51) = some (.type "function"))
    (kC51 : PySem.W.keepIn K (.ref C_BadCount) = true)
    (eC51 : PySem.W.subIn K (.ref C_BadCount) (.type "BaseException") = some true)
    (ve51 : PySem.W.subIn K (.ref C_BadCount) (.type "ValueError") = some true)
    (tC51 : PySem.W.typeIn K (.ref C_BadCount) = some (.type "type"))
    (hD51 : PySem.W.hasDictIn K C_BadCount = true)
    (iC51 : PySem.W.isClsIn K C_BadCount = true)
    (sC51 : PySem.W.subIn K (.ref C_BadCount) (.ref C_BadCount) = some true)
    (al51 : PySem.W.ks_superIn K C_BadCount C_BadCount "__init__" = some (some (.builtin "ValueError.__init__")))
    (mr51 : PySem.W.mroIn K C_BadCount (.ref C_BadCount) = some true)
    (mo51 : PySem.W.mroIn K C_BadCount (.type "object") = some true)
    (sa52 : PySem.W.findIn K (.ref C_TooLarge) "__setattr__" = some (some (.builtin "object.__setattr__")))
    (ga52 : PySem.W.findIn K (.ref C_TooLarge) "__getattribute__" = some (some (.builtin "BaseException.__getattribute__")))
    (hc52 : PySem.W.findIn K (.ref C_TooLarge) "__class__" = some (some (.builtin "object.__class__")))
    (gg52 : PySem.W.findIn K (.ref C_TooLarge) "__getattr__" = some none)
    (nb520 : PySem.W.findIn K (.ref C_TooLarge) "size" = some none)
    (in52 : PySem.W.findIn K (.ref C_TooLarge) "__init__" = some (some (.ref f52)))
    (ti52 : PySem.W.typeIn K (.ref f52) = some (.type "function"))
    (kC52 : PySem.W.keepIn K (.ref C_TooLarge) = true)
    (eC52 : PySem.W.subIn K (.ref C_TooLarge) (.type "BaseException") = some true)
    (ve52 : PySem.W.subIn K (.ref C_TooLarge) (.type "ValueError") = some true)
    (tC52 : PySem.W.typeIn K (.ref C_TooLarge) = some (.type "type"))
    (hD52 : PySem.W.hasDictIn K C_TooLarge = true)
    (iC52 : PySem.W.isClsIn K C_TooLarge = true)
    (sC52 : PySem.W.subIn K (.ref C_TooLarge) (.ref C_TooLarge) = some true)
    (al52 : PySem.W.ks_superIn K C_TooLarge C_TooLarge "__init__" = some (some (.builtin "ValueError.__init__")))
    (mr52 : PySem.W.mroIn K C_TooLarge (.ref C_TooLarge) = some true)
    (mo52 : PySem.W.mroIn K C_TooLarge (.type "object") = some true)
    (meLotset_states : PySem.W.findIn K (.ref C_Lot) "set_states" = some (some (.ref f53)))
    (i53 : PySem.W.isFn K (.ref f53) = true)
    (a54 : PySem.W.nsIn K mainGlobals "are_states" = some (some (.ref f54)))
    (n_len : PySem.W.nsIn K mainGlobals "len" = some none)
    (n_int : PySem.W.nsIn K mainGlobals "int" = some none)
    (n_range : PySem.W.nsIn K mainGlobals "range" = some none)
    (n_isinstance : PySem.W.nsIn K mainGlobals "isinstance" = some none)
    (n_bool : PySem.W.nsIn K mainGlobals "bool" = some none)
    (n_list : PySem.W.nsIn K mainGlobals "list" = some none)
    (n_tuple : PySem.W.nsIn K mainGlobals "tuple" = some none)
    (n_all : PySem.W.nsIn K mainGlobals "all" = some none)
    (n_sorted : PySem.W.nsIn K mainGlobals "sorted" = some none)
    (n_str : PySem.W.nsIn K mainGlobals "str" = some none)
    (n_zip : PySem.W.nsIn K mainGlobals "zip" = some none)
    (n_max : PySem.W.nsIn K mainGlobals "max" = some none)
    (n_min : PySem.W.nsIn K mainGlobals "min" = some none)
    (n_enumerate : PySem.W.nsIn K mainGlobals "enumerate" = some none)
    (n_super : PySem.W.nsIn K mainGlobals "super" = some none)
    (n_ValueError : PySem.W.nsIn K mainGlobals "ValueError" = some none)
    (pgService : PySem.W.plainGet K C_Service Str.empty = true)
    (hdService : PySem.W.hasDictIn K C_Service = true)
    (poService : PySem.W.plainOver K C_Service = true)
    (saService : PySem.W.findIn K (.ref C_Service) "__setattr__" = some (some (.builtin "object.__setattr__")))
    (naService0 : PySem.W.findIn K (.ref C_Service) "size" = some none)
    (naService1 : PySem.W.findIn K (.ref C_Service) "marks" = some none)
    (naService2 : PySem.W.findIn K (.ref C_Service) "steps" = some none)
    (naService3 : PySem.W.findIn K (.ref C_Service) "now" = some none)
    (naService4 : PySem.W.findIn K (.ref C_Service) "_ends" = some none)
    (naService5 : PySem.W.findIn K (.ref C_Service) "_pairs" = some none)
    (mkService : PySem.W.makesIn K C_Service = true)
    (kcService : PySem.W.keepIn K (.ref C_Service) = true)
    (isServiceMachine : PySem.W.kitOne K (.ref C_Service) (.ref C_Machine) = some true)
    (pgPattern : PySem.W.plainGet K C_Pattern Str.empty = true)
    (hdPattern : PySem.W.hasDictIn K C_Pattern = true)
    (poPattern : PySem.W.plainOver K C_Pattern = true)
    (saPattern : PySem.W.findIn K (.ref C_Pattern) "__setattr__" = some (some (.builtin "object.__setattr__")))
    (naPattern0 : PySem.W.findIn K (.ref C_Pattern) "size" = some none)
    (naPattern1 : PySem.W.findIn K (.ref C_Pattern) "marks" = some none)
    (naPattern2 : PySem.W.findIn K (.ref C_Pattern) "steps" = some none)
    (naPattern3 : PySem.W.findIn K (.ref C_Pattern) "now" = some none)
    (naPattern4 : PySem.W.findIn K (.ref C_Pattern) "_ends" = some none)
    (naPattern5 : PySem.W.findIn K (.ref C_Pattern) "_pairs" = some none)
    (mkPattern : PySem.W.makesIn K C_Pattern = true)
    (kcPattern : PySem.W.keepIn K (.ref C_Pattern) = true)
    (isPatternMachine : PySem.W.kitOne K (.ref C_Pattern) (.ref C_Machine) = some true)
    (pgLot : PySem.W.plainGet K C_Lot Str.empty = true)
    (hdLot : PySem.W.hasDictIn K C_Lot = true)
    (poLot : PySem.W.plainOver K C_Lot = true)
    (saLot : PySem.W.findIn K (.ref C_Lot) "__setattr__" = some (some (.builtin "object.__setattr__")))
    (naLot0 : PySem.W.findIn K (.ref C_Lot) "services" = some none)
    (naLot1 : PySem.W.findIn K (.ref C_Lot) "states" = some none)
    (mkLot : PySem.W.makesIn K C_Lot = true)
    (kcLot : PySem.W.keepIn K (.ref C_Lot) = true)
    (pgGame : PySem.W.plainGet K C_Game Str.empty = true)
    (hdGame : PySem.W.hasDictIn K C_Game = true)
    (poGame : PySem.W.plainOver K C_Game = true)
    (saGame : PySem.W.findIn K (.ref C_Game) "__setattr__" = some (some (.builtin "object.__setattr__")))
    (naGame0 : PySem.W.findIn K (.ref C_Game) "size" = some none)
    (naGame1 : PySem.W.findIn K (.ref C_Game) "ahead" = some none)
    (naGame2 : PySem.W.findIn K (.ref C_Game) "falls" = some none)
    (naGame3 : PySem.W.findIn K (.ref C_Game) "pattern" = some none)
    (naGame4 : PySem.W.findIn K (.ref C_Game) "lot" = some none)
    (naGame5 : PySem.W.findIn K (.ref C_Game) "posts" = some none)
    (naGame6 : PySem.W.findIn K (.ref C_Game) "lineups" = some none)
    (naGame7 : PySem.W.findIn K (.ref C_Game) "first" = some none)
    (naGame8 : PySem.W.findIn K (.ref C_Game) "_rounds" = some none)
    (mkGame : PySem.W.makesIn K C_Game = true)
    (kcGame : PySem.W.keepIn K (.ref C_Game) = true)
    (pgPosts : PySem.W.plainGet K C_Posts Str.empty = true)
    (hdPosts : PySem.W.hasDictIn K C_Posts = true)
    (poPosts : PySem.W.plainOver K C_Posts = true)
    (saPosts : PySem.W.findIn K (.ref C_Posts) "__setattr__" = some (some (.builtin "object.__setattr__")))
    (naPosts0 : PySem.W.findIn K (.ref C_Posts) "pattern" = some none)
    (naPosts1 : PySem.W.findIn K (.ref C_Posts) "_ahead" = some none)
    (naPosts2 : PySem.W.findIn K (.ref C_Posts) "rows" = some none)
    (naPosts3 : PySem.W.findIn K (.ref C_Posts) "numbers" = some none)
    (mkPosts : PySem.W.makesIn K C_Posts = true)
    (kcPosts : PySem.W.keepIn K (.ref C_Posts) = true)
    (pgLineups : PySem.W.plainGet K C_Lineups Str.empty = true)
    (hdLineups : PySem.W.hasDictIn K C_Lineups = true)
    (poLineups : PySem.W.plainOver K C_Lineups = true)
    (saLineups : PySem.W.findIn K (.ref C_Lineups) "__setattr__" = some (some (.builtin "object.__setattr__")))
    (naLineups0 : PySem.W.findIn K (.ref C_Lineups) "lot" = some none)
    (naLineups1 : PySem.W.findIn K (.ref C_Lineups) "choices" = some none)
    (naLineups2 : PySem.W.findIn K (.ref C_Lineups) "strides" = some none)
    (naLineups3 : PySem.W.findIn K (.ref C_Lineups) "total" = some none)
    (naLineups4 : PySem.W.findIn K (.ref C_Lineups) "tuples" = some none)
    (naLineups5 : PySem.W.findIn K (.ref C_Lineups) "numbers" = some none)
    (mkLineups : PySem.W.makesIn K C_Lineups = true)
    (kcLineups : PySem.W.keepIn K (.ref C_Lineups) = true)
    (fgi : PySem.W.fnIn K f30 = true)
    (fgl : PySem.W.fnIn K f39 = true)
    (o1Service : PySem.W.findIn K (.ref C_Service) "__class__" = some (some (.builtin "object.__class__")))
    (o4Service : PySem.W.mroIn K C_Service (.type "object") = some true)
    (nqService : PySem.W.noSeq K C_Service = true)
    (o1Pattern : PySem.W.findIn K (.ref C_Pattern) "__class__" = some (some (.builtin "object.__class__")))
    (o4Pattern : PySem.W.mroIn K C_Pattern (.type "object") = some true)
    (nqPattern : PySem.W.noSeq K C_Pattern = true)
    (sfL : PySem.W.selfFirst K C_Lot = true)
    (mro0 : ∃ cd, PySem.W.clsIn K C_Service = some cd ∧ cd.mro = [.ref C_Service, .ref C_Machine, .type "object"])
    (o1Lot : PySem.W.findIn K (.ref C_Lot) "__class__" = some (some (.builtin "object.__class__")))
    (o4Lot : PySem.W.mroIn K C_Lot (.type "object") = some true)
    (ba1 : PySem.W.findIn K (.ref C_Service) "__add__" = some none)
    (ba2 : PySem.W.findIn K (.ref C_Service) "__radd__" = some none)
    (bb1 : PySem.W.findIn K (.ref C_Machine) "__add__" = some none)
    (bb2 : PySem.W.findIn K (.ref C_Machine) "__radd__" = some none)
    (bc1 : PySem.W.findIn K (.type "object") "__add__" = some none)
    (bc2 : PySem.W.findIn K (.type "object") "__radd__" = some none)
    (nLot : PySem.W.kitOne K (.ref C_Service) (.ref C_Lot) = some false)
    (ktBadCountAsksError : PySem.W.kitOne K (.ref C_BadCount) (.ref C_AsksError) = some true)
    (ktBadCountTooLarge : PySem.W.kitOne K (.ref C_BadCount) (.ref C_TooLarge) = some false)
    (ktBadCountV : PySem.W.kitOne K (.ref C_BadCount) (.type "ValueError") = some true)
    (ktTooLargeAsksError : PySem.W.kitOne K (.ref C_TooLarge) (.ref C_AsksError) = some true)
    (ktTooLargeBadCount : PySem.W.kitOne K (.ref C_TooLarge) (.ref C_BadCount) = some false)
    (ktTooLargeV : PySem.W.kitOne K (.ref C_TooLarge) (.type "ValueError") = some true)
    (xmTooLargeBadCount : PySem.W.subIn K (.ref C_TooLarge) (.ref C_BadCount) = some false)
    (F0 : Fun K "_law_cell" "_law_cell" s__law_cell f0 d0)
    (F1 : Fun K "_law_draws" "_law_draws" s__law_draws f1 d1)
    (F2 : Fun K "_law_asks" "_law_asks" s__law_asks f2 d2)
    (F3 : Fun K "_law_steps" "_law_steps" s__law_steps f3 d3)
    (F4 : Fun K "_law_marks" "_law_marks" s__law_marks f4 d4)
    (F5 : Fun K "_law_lot" "_law_lot" s__law_lot f5 d5)
    (F6 : Fun K "_law_random" "_law_random" s__law_random f6 d6)
    (F7 : Fun K "_law_pairs" "_law_pairs" s__law_pairs f7 d7)
    (F8 : Fun K "_law_service" "_law_service" s__law_service f8 d8)
    (F9 : Fun K "_law_built" "_law_built" s__law_built f9 d9)
    (F10 : Fun K "_law_client" "_law_client" s__law_client f10 d10)
    (F11 : Fun K "_law_whole" "_law_whole" s__law_whole f11 d11)
    (F12 : Fun K "_law_is_pair" "_law_is_pair" s__law_is_pair f12 d12)
    (F13 : Fun K "_law_is_standing" "_law_is_standing" s__law_is_standing f13 d13)
    (F14 : Fun K "_law_longer" "_law_longer" s__law_longer f14 d14)
    (F15 : Fun K "_law_known" "_law_known" s__law_known f15 d15)
    (F16 : Fun K "_law_game" "_law_game" s__law_game f16 d16)
    (F17 : Fun K "_law_size_raised" "_law_size_raised" s__law_size_raised f17 d17)
    (F18 : Fun K "_law_first_holds" "_law_first_holds" s__law_first_holds f18 d18)
    (F19 : Fun K "_law_factor" "_law_factor" s__law_factor f19 d19)
    (F20 : Fun K "_law_size" "_law_size" s__law_size f20 d20)
    (F21 : Fun K "law" "law" s_law f21 d21)
    (F22 : Fun K "check_size" "check_size" s_check_size f22 d22)
    (F23 : Fun K "check_marks" "check_marks" s_check_marks f23 d23)
    (F24 : Fun K "check_steps" "check_steps" s_check_steps f24 d24)
    (F25 : Fun K "is_ask" "is_ask" s_is_ask f25 d25)
    (F26 : Fun K "ascending" "ascending" s_ascending f26 d26)
    (F27 : Fun K "ends_by_ask" "ends_by_ask" s_ends_by_ask f27 d27)
    (F28 : Fun K "pairs_by_state" "pairs_by_state" s_pairs_by_state f28 d28)
    (F29 : FunD K "__init__" "Machine.__init__" (defArgs s_Machine___init__) (defBody s_Machine___init__) (defScope s_Machine___init__) [.int 0] [] f29 d29)
    (F30 : Fun K "__getitem__" "Machine.__getitem__" s_Machine___getitem__ f30 d30)
    (F31 : Fun K "__setitem__" "Machine.__setitem__" s_Machine___setitem__ f31 d31)
    (F32 : Fun K "ends_at" "Machine.ends_at" s_Machine_ends_at f32 d32)
    (F33 : Fun K "pairs_at" "Machine.pairs_at" s_Machine_pairs_at f33 d33)
    (F34 : Fun K "__bool__" "Machine.__bool__" s_Machine___bool__ f34 d34)
    (F35 : Fun K "twin" "Service.twin" s_Service_twin f35 d35)
    (F36 : Fun K "__init__" "Lot.__init__" s_Lot___init__ f36 d36)
    (F37 : Fun K "__len__" "Lot.__len__" s_Lot___len__ f37 d37)
    (F38 : Fun K "__bool__" "Lot.__bool__" s_Lot___bool__ f38 d38)
    (F39 : Fun K "__getitem__" "Lot.__getitem__" s_Lot___getitem__ f39 d39)
    (F40 : Fun K "__add__" "Lot.__add__" s_Lot___add__ f40 d40)
    (F41 : Fun K "check_number" "check_number" s_check_number f41 d41)
    (F42 : Fun K "rests" "rests" s_rests f42 d42)
    (F43 : Fun K "check_count" "check_count" s_check_count f43 d43)
    (F44 : Fun K "game_size" "game_size" s_game_size f44 d44)
    (F45 : FunD K "__init__" "Game.__init__" (defArgs s_Game___init__) (defBody s_Game___init__) (defScope s_Game___init__) [] [("ahead", .int 0), ("falls", .int 0)] f45 d45)
    (F46 : Fun K "__init__" "Posts.__init__" s_Posts___init__ f46 d46)
    (F47 : Fun K "known_rows" "known_rows" s_known_rows f47 d47)
    (F48 : Fun K "__init__" "Lineups.__init__" s_Lineups___init__ f48 d48)
    (F49 : Fun K "tuple_at" "Lineups.tuple_at" s_Lineups_tuple_at f49 d49)
    (F50 : Fun K "state_choices" "state_choices" s_state_choices f50 d50)
    (X51 : ∃ nm q N bs bm sn sub ab col dd k0 k1 k2 k3 k5, K.lookup C_BadCount = some (excClassObj nm q C_BadCount N bs bm true sn sub ab col dd k0 k1 k2 k3 k5 "ValueError.__new__") ∧ PySem.HandSPX.refsVE bm = true)
    (S51 : SupFn K "__init__" "BadCount.__init__" s_BadCount___init__ C_BadCount f51 cc51 cda51 file d51)
    (X52 : ∃ nm q N bs bm sn sub ab col dd k0 k1 k2 k3 k5, K.lookup C_TooLarge = some (excClassObj nm q C_TooLarge N bs bm true sn sub ab col dd k0 k1 k2 k3 k5 "ValueError.__new__") ∧ PySem.HandSPX.refsVE bm = true)
    (S52 : SupFn K "__init__" "TooLarge.__init__" s_TooLarge___init__ C_TooLarge f52 cc52 cda52 file d52)
    (F53 : Fun K "set_states" "Lot.set_states" s_Lot_set_states f53 d53)
    (F54 : Fun K "are_states" "are_states" s_are_states f54 d54)
    (xMOST_STATES : PySem.W.nsIn K mainGlobals "MOST_STATES" = some (some (.int (200) tk_MOST_STATES)))
    (xMOST_STEPS : PySem.W.nsIn K mainGlobals "MOST_STEPS" = some (some (.int (600) tk_MOST_STEPS)))
    (xLONGEST_ASK : PySem.W.nsIn K mainGlobals "LONGEST_ASK" = some (some (.int (8) tk_LONGEST_ASK)))
    (xMOST_SERVICES : PySem.W.nsIn K mainGlobals "MOST_SERVICES" = some (some (.int (5) tk_MOST_SERVICES)))
    (xAWAY : PySem.W.nsIn K mainGlobals "AWAY" = some (some (.int (-1) tk_AWAY)))
    (xMOST_AHEAD : PySem.W.nsIn K mainGlobals "MOST_AHEAD" = some (some (.int (4) tk_MOST_AHEAD)))
    (xMOST_FALLS : PySem.W.nsIn K mainGlobals "MOST_FALLS" = some (some (.int (5) tk_MOST_FALLS)))
    (xLARGEST_GAME : PySem.W.nsIn K mainGlobals "LARGEST_GAME" = some (some (.int (20000) tk_LARGEST_GAME)))
    (SO : SupOk l.prog file) :
    ∃ fd : FuncData, (∀ (s : Shared) (v : Value), BindsTo s fd ⟨[v], []⟩ [("_law_script", v)]) ∧ ∀ base : Heap, K.In base → base.Ns mainGlobals mg → FnOk l.prog w K mg base CX0 16 fa fd ["_law_script"] (sp_law K) := by
  have e := hfa.symm.trans (PySem.W.mg_of X G a21)
  cases e
  have k54 := F54.kp
  have k53 := F53.kp
  have k50 := F50.kp
  have k49 := F49.kp
  have k48 := F48.kp
  have k47 := F47.kp
  have k46 := F46.kp
  have k45 := F45.kp
  have k44 := F44.kp
  have k43 := F43.kp
  have k42 := F42.kp
  have k41 := F41.kp
  have k40 := F40.kp
  have k39 := F39.kp
  have k38 := F38.kp
  have k37 := F37.kp
  have k36 := F36.kp
  have k35 := F35.kp
  have k34 := F34.kp
  have k33 := F33.kp
  have k32 := F32.kp
  have k31 := F31.kp
  have k30 := F30.kp
  have k29 := F29.kp
  have k28 := F28.kp
  have k27 := F27.kp
  have k26 := F26.kp
  have k25 := F25.kp
  have k24 := F24.kp
  have k23 := F23.kp
  have k22 := F22.kp
  have k21 := F21.kp
  have k20 := F20.kp
  have k19 := F19.kp
  have k18 := F18.kp
  have k17 := F17.kp
  have k16 := F16.kp
  have k15 := F15.kp
  have k14 := F14.kp
  have k13 := F13.kp
  have k12 := F12.kp
  have k11 := F11.kp
  have k10 := F10.kp
  have k9 := F9.kp
  have k8 := F8.kp
  have k7 := F7.kp
  have k6 := F6.kp
  have k5 := F5.kp
  have k4 := F4.kp
  have k3 := F3.kp
  have k2 := F2.kp
  have k1 := F1.kp
  have k0 := F0.kp
  have B0 := F0.binds (ps := ["_law_script", "_law_k"]) fun _ _ _ _ _ _ us hl => match us, hl with | [_, _], _ => rfl
  have B1 := F1.binds (ps := ["_law_script", "_law_k", "_law_many"]) fun _ _ _ _ _ _ us hl => match us, hl with | [_, _, _], _ => rfl
  have B2 := F2.binds (ps := ["_law_row", "_law_many"]) fun _ _ _ _ _ _ us hl => match us, hl with | [_, _], _ => rfl
  have B3 := F3.binds (ps := ["_law_row", "_law_size_here", "_law_asks_here", "_law_single"]) fun _ _ _ _ _ _ us hl => match us, hl with | [_, _, _, _], _ => rfl
  have B4 := F4.binds (ps := ["_law_digit", "_law_size_here"]) fun _ _ _ _ _ _ us hl => match us, hl with | [_, _], _ => rfl
  have B5 := F5.binds (ps := ["_law_script", "_law_asks_here", "_law_many", "_law_single"]) fun _ _ _ _ _ _ us hl => match us, hl with | [_, _, _, _], _ => rfl
  have B6 := F6.binds (ps := ["_law_row", "_law_asks_here"]) fun _ _ _ _ _ _ us hl => match us, hl with | [_, _], _ => rfl
  have B7 := F7.binds (ps := ["_law_plain", "_law_asks_here"]) fun _ _ _ _ _ _ us hl => match us, hl with | [_, _], _ => rfl
  have B8 := F8.binds (ps := ["_law_plain"]) fun _ _ _ _ _ _ us hl => match us, hl with | [_], _ => rfl
  have B9 := F9.binds (ps := ["_law_lot_here"]) fun _ _ _ _ _ _ us hl => match us, hl with | [_], _ => rfl
  have B10 := F10.binds (ps := ["_law_plain"]) fun _ _ _ _ _ _ us hl => match us, hl with | [_], _ => rfl
  have B11 := F11.binds (ps := ["_law_x"]) fun _ _ _ _ _ _ us hl => match us, hl with | [_], _ => rfl
  have B12 := F12.binds (ps := ["_law_x"]) fun _ _ _ _ _ _ us hl => match us, hl with | [_], _ => rfl
  have B13 := F13.binds (ps := ["_law_x"]) fun _ _ _ _ _ _ us hl => match us, hl with | [_], _ => rfl
  have B14 := F14.binds (ps := ["_law_rows", "_law_pairs_here", "_law_here"]) fun _ _ _ _ _ _ us hl => match us, hl with | [_, _, _], _ => rfl
  have B15 := F15.binds (ps := ["_law_pairs_here", "_law_here", "_law_peek"]) fun _ _ _ _ _ _ us hl => match us, hl with | [_, _, _], _ => rfl
  have B16 := F16.binds (ps := ["_law_pattern", "_law_lot_here", "_law_peek", "_law_drops"]) fun _ _ _ _ _ _ us hl => match us, hl with | [_, _, _, _], _ => rfl
  have B17 := F17.binds (ps := ["_law_pattern", "_law_lot_here", "_law_peek", "_law_drops"]) fun _ _ _ _ _ _ us hl => match us, hl with | [_, _, _, _], _ => rfl
  have B18 := F18.binds (ps := ["_law_game_here", "_law_size_here", "_law_due"]) fun _ _ _ _ _ _ us hl => match us, hl with | [_, _, _], _ => rfl
  have B19 := F19.binds (ps := ["_law_pairs_here", "_law_peek"]) fun _ _ _ _ _ _ us hl => match us, hl with | [_, _], _ => rfl
  have B20 := F20.binds (ps := ["_law_plain", "_law_plains", "_law_factor_here", "_law_drops"]) fun _ _ _ _ _ _ us hl => match us, hl with | [_, _, _, _], _ => rfl
  have B21 := F21.binds (ps := ["_law_script"]) fun _ _ _ _ _ _ us hl => match us, hl with | [_], _ => rfl
  have B22 := F22.binds (ps := ["size"]) fun _ _ _ _ _ _ us hl => match us, hl with | [_], _ => rfl
  have B23 := F23.binds (ps := ["size", "marks"]) fun _ _ _ _ _ _ us hl => match us, hl with | [_, _], _ => rfl
  have B24 := F24.binds (ps := ["size", "steps"]) fun _ _ _ _ _ _ us hl => match us, hl with | [_, _], _ => rfl
  have B25 := F25.binds (ps := ["ask"]) fun _ _ _ _ _ _ us hl => match us, hl with | [_], _ => rfl
  have B26 := F26.binds (ps := ["steps"]) fun _ _ _ _ _ _ us hl => match us, hl with | [_], _ => rfl
  have B27 := F27.binds (ps := ["steps"]) fun _ _ _ _ _ _ us hl => match us, hl with | [_], _ => rfl
  have B28 := F28.binds (ps := ["steps"]) fun _ _ _ _ _ _ us hl => match us, hl with | [_], _ => rfl
  have B30 := F30.binds (ps := ["self", "at"]) fun _ _ _ _ _ _ us hl => match us, hl with | [_, _], _ => rfl
  have B31 := F31.binds (ps := ["self", "at", "worth"]) fun _ _ _ _ _ _ us hl => match us, hl with | [_, _, _], _ => rfl
  have B32 := F32.binds (ps := ["self", "state", "ask"]) fun _ _ _ _ _ _ us hl => match us, hl with | [_, _, _], _ => rfl
  have B33 := F33.binds (ps := ["self", "state"]) fun _ _ _ _ _ _ us hl => match us, hl with | [_, _], _ => rfl
  have B34 := F34.binds (ps := ["self"]) fun _ _ _ _ _ _ us hl => match us, hl with | [_], _ => rfl
  have B35 := F35.binds (ps := ["self", "now"]) fun _ _ _ _ _ _ us hl => match us, hl with | [_, _], _ => rfl
  have B37 := F37.binds (ps := ["self"]) fun _ _ _ _ _ _ us hl => match us, hl with | [_], _ => rfl
  have B38 := F38.binds (ps := ["self"]) fun _ _ _ _ _ _ us hl => match us, hl with | [_], _ => rfl
  have B39 := F39.binds (ps := ["self", "at"]) fun _ _ _ _ _ _ us hl => match us, hl with | [_, _], _ => rfl
  have B40 := F40.binds (ps := ["self", "other"]) fun _ _ _ _ _ _ us hl => match us, hl with | [_, _], _ => rfl
  have B41 := F41.binds (ps := ["lot", "number"]) fun _ _ _ _ _ _ us hl => match us, hl with | [_, _], _ => rfl
  have B42 := F42.binds (ps := ["lot", "states"]) fun _ _ _ _ _ _ us hl => match us, hl with | [_, _], _ => rfl
  have B43 := F43.binds (ps := ["count", "most"]) fun _ _ _ _ _ _ us hl => match us, hl with | [_, _], _ => rfl
  have B44 := F44.binds (ps := ["pattern", "lot", "ahead", "falls"]) fun _ _ _ _ _ _ us hl => match us, hl with | [_, _, _, _], _ => rfl
  have B46 := F46.binds (ps := ["self", "pattern", "ahead"]) fun _ _ _ _ _ _ us hl => match us, hl with | [_, _, _], _ => rfl
  have B47 := F47.binds (ps := ["pattern", "state", "ahead"]) fun _ _ _ _ _ _ us hl => match us, hl with | [_, _, _], _ => rfl
  have B48 := F48.binds (ps := ["self", "lot", "falls"]) fun _ _ _ _ _ _ us hl => match us, hl with | [_, _, _], _ => rfl
  have B49 := F49.binds (ps := ["self", "number"]) fun _ _ _ _ _ _ us hl => match us, hl with | [_, _], _ => rfl
  have B50 := F50.binds (ps := ["service", "state", "falls"]) fun _ _ _ _ _ _ us hl => match us, hl with | [_, _, _], _ => rfl
  have k51 := S51.kp
  have E51 : ErrT K C_BadCount "BadCount.__init__" s_BadCount___init__ f51 d51 file ["self", "count"] ["count"] := { oex := ⟨X51, sa51, eC51, tC51, kC51⟩, cc := cc51, cda := cda51, fn := S51, xf := ⟨ga51, gg51, eC51, hD51⟩, ex := ⟨ga51, gg51, eC51, hD51, hc51, oE2, oE3, mo51⟩, no := by simp only [List.forall_mem_cons]; exact ⟨nb510, fun _ h => nomatch h⟩, ini := in51, ti := ti51, te := exm_selfE eC51 iC51 tC51 sC51, al := al51, ve := ve51, mr := mr51, bd := fun us hl => by obtain ⟨_, _, _, _, _, _, _, _, e, _⟩ := S51.ex; subst e; exact match us, hl with | [_, _], _ => rfl }
  have k52 := S52.kp
  have E52 : ErrT K C_TooLarge "TooLarge.__init__" s_TooLarge___init__ f52 d52 file ["self", "size"] ["size"] := { oex := ⟨X52, sa52, eC52, tC52, kC52⟩, cc := cc52, cda := cda52, fn := S52, xf := ⟨ga52, gg52, eC52, hD52⟩, ex := ⟨ga52, gg52, eC52, hD52, hc52, oE2, oE3, mo52⟩, no := by simp only [List.forall_mem_cons]; exact ⟨nb520, fun _ h => nomatch h⟩, ini := in52, ti := ti52, te := exm_selfE eC52 iC52 tC52 sC52, al := al52, ve := ve52, mr := mr52, bd := fun us hl => by obtain ⟨_, _, _, _, _, _, _, _, e, _⟩ := S52.ex; subst e; exact match us, hl with | [_, _], _ => rfl }
  have B53 := F53.binds (ps := ["self", "states"]) fun _ _ _ _ _ _ us hl => match us, hl with | [_, _], _ => rfl
  have B54 := F54.binds (ps := ["services", "states"]) fun _ _ _ _ _ _ us hl => match us, hl with | [_, _], _ => rfl
  obtain ⟨_, BIv, BI⟩ := F29.binds1 (ps := ["self", "size", "marks", "steps", "now"]) 5 1 (by intro z; cases z) rfl fun T kV doc pm an cdv ct us its hu hi => by
      obtain ⟨u1, u2, u3, u4, u5, rfl⟩ : ∃ u1 u2 u3 u4 u5, us = [u1, u2, u3, u4, u5] := match us, hu with | [u1, u2, u3, u4, u5], _ => ⟨u1, u2, u3, u4, u5, rfl⟩
      obtain ⟨v1, rfl⟩ : ∃ v1, its = [v1] := match its, hi with | [v1], _ => ⟨v1, rfl⟩
      exact ⟨_, rfl, rfl⟩
  cases BIv
  obtain ⟨eds, evs, eb⟩ := F29.binds1 (ps := ["self", "size", "marks", "steps", "now"]) 4 0 (by intro z; cases z) rfl fun T kV doc pm an cdv ct us its hu hi => by
      obtain ⟨u1, u2, u3, u4, rfl⟩ : ∃ u1 u2 u3 u4, us = [u1, u2, u3, u4] := match us, hu with | [u1, u2, u3, u4], _ => ⟨u1, u2, u3, u4, rfl⟩
      obtain ⟨v1, rfl⟩ : ∃ v1, its = [v1] := match its, hi with | [v1], _ => ⟨v1, rfl⟩
      exact ⟨_, rfl, rfl⟩
  obtain ⟨_, kkg⟩ := FunD.kbinds0 F45 (ps := ["self", "pattern", "lot", "ahead", "falls"]) 3 ["ahead", "falls"] [] (fun us _ ws => us ++ ws) (by intro z; cases z) (fun _ h => nomatch h) (fun r1 _ r2 => r1.append r2) fun D doc pm an cdv ct us mv ws hu hm hw => by
      obtain ⟨u0, u1, u2, rfl⟩ : ∃ u0 u1 u2, us = [u0, u1, u2] := match us, hu with | [u0, u1, u2], _ => ⟨u0, u1, u2, rfl⟩
      obtain ⟨w0, w1, rfl⟩ : ∃ w0 w1, ws = [w0, w1] := match ws, hw with | [w0, w1], _ => ⟨w0, w1, rfl⟩
      obtain rfl : mv = [] := match mv, hm with | [], _ => rfl
      rfl
  obtain ⟨gds, gvs, gb⟩ := FunD.binds0 F45 (ps := ["self", "pattern", "lot", "ahead", "falls"]) 3 (by intro z; cases z) rfl fun D doc pm an cdv ct us ks hu hk => by
      obtain ⟨u0, u1, u2, rfl⟩ : ∃ u0 u1 u2, us = [u0, u1, u2] := match us, hu with | [u0, u1, u2], _ => ⟨u0, u1, u2, rfl⟩
      obtain ⟨v0, v1, rfl⟩ : ∃ v0 v1, ks = [v0, v1] := match ks, hk with | [v0, v1], _ => ⟨v0, v1, rfl⟩
      exact ⟨_, _, _, _, _, _, rfl, rfl, ⟨_, _, _, _, _, _, rfl, rfl, rfl⟩⟩
  obtain ⟨mka, kka⟩ := FunD.kbinds0 F45 (ps := ["self", "pattern", "lot", "ahead", "falls"]) 3 ["ahead"] [("falls", .int 0)] (fun us mv ws => us ++ ws ++ mv) (by intro z; cases z) (fun q h => by simp only [List.mem_cons, List.not_mem_nil, or_false] at h ⊢; simp [h]) (fun r1 r2 r3 => (r1.append r3).append r2) fun D doc pm an cdv ct us mv ws hu hm hw => by
      obtain ⟨u0, u1, u2, rfl⟩ : ∃ u0 u1 u2, us = [u0, u1, u2] := match us, hu with | [u0, u1, u2], _ => ⟨u0, u1, u2, rfl⟩
      obtain ⟨w0, rfl⟩ : ∃ w0, ws = [w0] := match ws, hw with | [w0], _ => ⟨w0, rfl⟩
      obtain ⟨m0, rfl⟩ : ∃ m0, mv = [m0] := match mv, hm with | [m0], _ => ⟨m0, rfl⟩
      exact ⟨_, _, _, _, _, _, rfl, rfl, rfl⟩
  obtain ⟨mkf, kkf⟩ := FunD.kbinds0 F45 (ps := ["self", "pattern", "lot", "ahead", "falls"]) 3 ["falls"] [("ahead", .int 0)] (fun us mv ws => us ++ mv ++ ws) (by intro z; cases z) (fun q h => by simp only [List.mem_cons, List.not_mem_nil, or_false] at h ⊢; simp [h]) (fun r1 r2 r3 => (r1.append r2).append r3) fun D doc pm an cdv ct us mv ws hu hm hw => by
      obtain ⟨u0, u1, u2, rfl⟩ : ∃ u0 u1 u2, us = [u0, u1, u2] := match us, hu with | [u0, u1, u2], _ => ⟨u0, u1, u2, rfl⟩
      obtain ⟨w0, rfl⟩ : ∃ w0, ws = [w0] := match ws, hw with | [w0], _ => ⟨w0, rfl⟩
      obtain ⟨m0, rfl⟩ : ∃ m0, mv = [m0] := match mv, hm with | [m0], _ => ⟨m0, rfl⟩
      exact ⟨_, _, _, _, _, _, rfl, rfl, rfl⟩
  obtain ⟨_, kkfa⟩ := FunD.kbinds0 F45 (ps := ["self", "pattern", "lot", "ahead", "falls"]) 3 ["falls", "ahead"] [] (fun us _ ws => us ++ ws.reverse) (by intro z; cases z) (fun _ h => nomatch h) (fun r1 _ r3 => r1.append r3.reverse) fun D doc pm an cdv ct us mv ws hu hm hw => by
      obtain ⟨u0, u1, u2, rfl⟩ : ∃ u0 u1 u2, us = [u0, u1, u2] := match us, hu with | [u0, u1, u2], _ => ⟨u0, u1, u2, rfl⟩
      obtain ⟨w0, w1, rfl⟩ : ∃ w0 w1, ws = [w0, w1] := match ws, hw with | [w0, w1], _ => ⟨w0, w1, rfl⟩
      obtain rfl : mv = [] := match mv, hm with | [], _ => rfl
      rfl
  obtain ⟨T, T1, T2, T3⟩ : ∃ T : Tp K mg, T.a_law = fa ∧ T.d_law = d21 ∧ T.file = file := ⟨{ C_AsksError := C_AsksError, g_AsksError := PySem.W.mg_of X G qAsksError, C_BadCount := C_BadCount, g_BadCount := PySem.W.mg_of X G qBadCount, C_TooLarge := C_TooLarge, g_TooLarge := PySem.W.mg_of X G qTooLarge, C_Machine := C_Machine, g_Machine := PySem.W.mg_of X G qMachine, C_Service := C_Service, g_Service := PySem.W.mg_of X G qService, C_Pattern := C_Pattern, g_Pattern := PySem.W.mg_of X G qPattern, C_Lot := C_Lot, g_Lot := PySem.W.mg_of X G qLot, C_Game := C_Game, g_Game := PySem.W.mg_of X G qGame, C_Posts := C_Posts, g_Posts := PySem.W.mg_of X G qPosts, C_Lineups := C_Lineups, g_Lineups := PySem.W.mg_of X G qLineups, file := file, hth := hth, a__law_cell := f0, d__law_cell := d0, b__law_cell := B0, f__law_cell := F0, g__law_cell := PySem.W.mg_of X G a0, a__law_draws := f1, d__law_draws := d1, b__law_draws := B1, f__law_draws := F1, g__law_draws := PySem.W.mg_of X G a1, a__law_asks := f2, d__law_asks := d2, b__law_asks := B2, f__law_asks := F2, g__law_asks := PySem.W.mg_of X G a2, a__law_steps := f3, d__law_steps := d3, b__law_steps := B3, f__law_steps := F3, g__law_steps := PySem.W.mg_of X G a3, a__law_marks := f4, d__law_marks := d4, b__law_marks := B4, f__law_marks := F4, g__law_marks := PySem.W.mg_of X G a4, a__law_lot := f5, d__law_lot := d5, b__law_lot := B5, f__law_lot := F5, g__law_lot := PySem.W.mg_of X G a5, a__law_random := f6, d__law_random := d6, b__law_random := B6, f__law_random := F6, g__law_random := PySem.W.mg_of X G a6, a__law_pairs := f7, d__law_pairs := d7, b__law_pairs := B7, f__law_pairs := F7, g__law_pairs := PySem.W.mg_of X G a7, a__law_service := f8, d__law_service := d8, b__law_service := B8, f__law_service := F8, g__law_service := PySem.W.mg_of X G a8, a__law_built := f9, d__law_built := d9, b__law_built := B9, f__law_built := F9, g__law_built := PySem.W.mg_of X G a9, a__law_client := f10, d__law_client := d10, b__law_client := B10, f__law_client := F10, g__law_client := PySem.W.mg_of X G a10, a__law_whole := f11, d__law_whole := d11, b__law_whole := B11, f__law_whole := F11, g__law_whole := PySem.W.mg_of X G a11, a__law_is_pair := f12, d__law_is_pair := d12, b__law_is_pair := B12, f__law_is_pair := F12, g__law_is_pair := PySem.W.mg_of X G a12, a__law_is_standing := f13, d__law_is_standing := d13, b__law_is_standing := B13, f__law_is_standing := F13, g__law_is_standing := PySem.W.mg_of X G a13, a__law_longer := f14, d__law_longer := d14, b__law_longer := B14, f__law_longer := F14, g__law_longer := PySem.W.mg_of X G a14, a__law_known := f15, d__law_known := d15, b__law_known := B15, f__law_known := F15, g__law_known := PySem.W.mg_of X G a15, a__law_game := f16, d__law_game := d16, b__law_game := B16, f__law_game := F16, g__law_game := PySem.W.mg_of X G a16, a__law_size_raised := f17, d__law_size_raised := d17, b__law_size_raised := B17, f__law_size_raised := F17, g__law_size_raised := PySem.W.mg_of X G a17, a__law_first_holds := f18, d__law_first_holds := d18, b__law_first_holds := B18, f__law_first_holds := F18, g__law_first_holds := PySem.W.mg_of X G a18, a__law_factor := f19, d__law_factor := d19, b__law_factor := B19, f__law_factor := F19, g__law_factor := PySem.W.mg_of X G a19, a__law_size := f20, d__law_size := d20, b__law_size := B20, f__law_size := F20, g__law_size := PySem.W.mg_of X G a20, a_law := fa, d_law := d21, b_law := B21, f_law := F21, g_law := PySem.W.mg_of X G a21, a_check_size := f22, d_check_size := d22, b_check_size := B22, f_check_size := F22, g_check_size := PySem.W.mg_of X G a22, a_check_marks := f23, d_check_marks := d23, b_check_marks := B23, f_check_marks := F23, g_check_marks := PySem.W.mg_of X G a23, a_check_steps := f24, d_check_steps := d24, b_check_steps := B24, f_check_steps := F24, g_check_steps := PySem.W.mg_of X G a24, a_is_ask := f25, d_is_ask := d25, b_is_ask := B25, f_is_ask := F25, g_is_ask := PySem.W.mg_of X G a25, a_ascending := f26, d_ascending := d26, b_ascending := B26, f_ascending := F26, g_ascending := PySem.W.mg_of X G a26, a_ends_by_ask := f27, d_ends_by_ask := d27, b_ends_by_ask := B27, f_ends_by_ask := F27, g_ends_by_ask := PySem.W.mg_of X G a27, a_pairs_by_state := f28, d_pairs_by_state := d28, b_pairs_by_state := B28, f_pairs_by_state := F28, g_pairs_by_state := PySem.W.mg_of X G a28, a_Machine___init__ := f29, d_Machine___init__ := d29, f_Machine___init__ := F29, a_Machine___getitem__ := f30, d_Machine___getitem__ := d30, b_Machine___getitem__ := B30, f_Machine___getitem__ := F30, a_Machine___setitem__ := f31, d_Machine___setitem__ := d31, b_Machine___setitem__ := B31, f_Machine___setitem__ := F31, a_Machine_ends_at := f32, d_Machine_ends_at := d32, b_Machine_ends_at := B32, f_Machine_ends_at := F32, a_Machine_pairs_at := f33, d_Machine_pairs_at := d33, b_Machine_pairs_at := B33, f_Machine_pairs_at := F33, a_Machine___bool__ := f34, d_Machine___bool__ := d34, b_Machine___bool__ := B34, f_Machine___bool__ := F34, a_Service_twin := f35, d_Service_twin := d35, b_Service_twin := B35, f_Service_twin := F35, a_Lot___init__ := f36, d_Lot___init__ := d36, f_Lot___init__ := F36, a_Lot___len__ := f37, d_Lot___len__ := d37, b_Lot___len__ := B37, f_Lot___len__ := F37, a_Lot___bool__ := f38, d_Lot___bool__ := d38, b_Lot___bool__ := B38, f_Lot___bool__ := F38, a_Lot___getitem__ := f39, d_Lot___getitem__ := d39, b_Lot___getitem__ := B39, f_Lot___getitem__ := F39, a_Lot___add__ := f40, d_Lot___add__ := d40, b_Lot___add__ := B40, f_Lot___add__ := F40, a_check_number := f41, d_check_number := d41, b_check_number := B41, f_check_number := F41, g_check_number := PySem.W.mg_of X G a41, a_rests := f42, d_rests := d42, b_rests := B42, f_rests := F42, g_rests := PySem.W.mg_of X G a42, a_check_count := f43, d_check_count := d43, b_check_count := B43, f_check_count := F43, g_check_count := PySem.W.mg_of X G a43, a_game_size := f44, d_game_size := d44, b_game_size := B44, f_game_size := F44, g_game_size := PySem.W.mg_of X G a44, a_Game___init__ := f45, d_Game___init__ := d45, f_Game___init__ := F45, a_Posts___init__ := f46, d_Posts___init__ := d46, b_Posts___init__ := B46, f_Posts___init__ := F46, a_known_rows := f47, d_known_rows := d47, b_known_rows := B47, f_known_rows := F47, g_known_rows := PySem.W.mg_of X G a47, a_Lineups___init__ := f48, d_Lineups___init__ := d48, b_Lineups___init__ := B48, f_Lineups___init__ := F48, a_Lineups_tuple_at := f49, d_Lineups_tuple_at := d49, b_Lineups_tuple_at := B49, f_Lineups_tuple_at := F49, a_state_choices := f50, d_state_choices := d50, b_state_choices := B50, f_state_choices := F50, g_state_choices := PySem.W.mg_of X G a50, a_BadCount___init__ := f51, d_BadCount___init__ := d51, err_BadCount := E51, a_TooLarge___init__ := f52, d_TooLarge___init__ := d52, err_TooLarge := E52, a_Lot_set_states := f53, d_Lot_set_states := d53, b_Lot_set_states := B53, f_Lot_set_states := F53, a_are_states := f54, d_are_states := d54, b_are_states := B54, f_are_states := F54, g_are_states := PySem.W.mg_of X G a54, t_MOST_STATES := tk_MOST_STATES, k_MOST_STATES := PySem.W.mg_of X G xMOST_STATES, t_MOST_STEPS := tk_MOST_STEPS, k_MOST_STEPS := PySem.W.mg_of X G xMOST_STEPS, t_LONGEST_ASK := tk_LONGEST_ASK, k_LONGEST_ASK := PySem.W.mg_of X G xLONGEST_ASK, t_MOST_SERVICES := tk_MOST_SERVICES, k_MOST_SERVICES := PySem.W.mg_of X G xMOST_SERVICES, t_AWAY := tk_AWAY, k_AWAY := PySem.W.mg_of X G xAWAY, t_MOST_AHEAD := tk_MOST_AHEAD, k_MOST_AHEAD := PySem.W.mg_of X G xMOST_AHEAD, t_MOST_FALLS := tk_MOST_FALLS, k_MOST_FALLS := PySem.W.mg_of X G xMOST_FALLS, t_LARGEST_GAME := tk_LARGEST_GAME, k_LARGEST_GAME := PySem.W.mg_of X G xLARGEST_GAME, n_len := PySem.W.mg_none_of X G n_len, n_int := PySem.W.mg_none_of X G n_int, n_range := PySem.W.mg_none_of X G n_range, n_isinstance := PySem.W.mg_none_of X G n_isinstance, n_bool := PySem.W.mg_none_of X G n_bool, n_list := PySem.W.mg_none_of X G n_list, n_tuple := PySem.W.mg_none_of X G n_tuple, n_all := PySem.W.mg_none_of X G n_all, n_sorted := PySem.W.mg_none_of X G n_sorted, n_str := PySem.W.mg_none_of X G n_str, n_zip := PySem.W.mg_none_of X G n_zip, n_max := PySem.W.mg_none_of X G n_max, n_min := PySem.W.mg_none_of X G n_min, n_enumerate := PySem.W.mg_none_of X G n_enumerate, n_super := PySem.W.mg_none_of X G n_super, n_ValueError := PySem.W.mg_none_of X G n_ValueError, cl_Service := ⟨pgService, hdService, poService, saService⟩, na_Service_size := naService0, na_Service_marks := naService1, na_Service_steps := naService2, na_Service_now := naService3, na_Service__ends := naService4, na_Service__pairs := naService5, mk_Service := ⟨mkService, inService, i29, kcService⟩, me_Service___getitem__ := ⟨meService__getitem__, i30, k30⟩, me_Service___setitem__ := ⟨meService__setitem__, i31, k31⟩, me_Service___bool__ := ⟨meService__bool__, i34, k34⟩, me_Service_ends_at := ⟨meServiceends_at, i32, k32⟩, me_Service_twin := ⟨meServicetwin, i35, k35⟩, is_Service_Machine := isServiceMachine, is_Service_Service := if_pos (beq_self_eq_true _), cl_Pattern := ⟨pgPattern, hdPattern, poPattern, saPattern⟩, na_Pattern_size := naPattern0, na_Pattern_marks := naPattern1, na_Pattern_steps := naPattern2, na_Pattern_now := naPattern3, na_Pattern__ends := naPattern4, na_Pattern__pairs := naPattern5, mk_Pattern := ⟨mkPattern, inPattern, i29, kcPattern⟩, me_Pattern___getitem__ := ⟨mePattern__getitem__, i30, k30⟩, me_Pattern___setitem__ := ⟨mePattern__setitem__, i31, k31⟩, me_Pattern___bool__ := ⟨mePattern__bool__, i34, k34⟩, me_Pattern_ends_at := ⟨mePatternends_at, i32, k32⟩, me_Pattern_pairs_at := ⟨mePatternpairs_at, i33, k33⟩, is_Pattern_Machine := isPatternMachine, cl_Lot := ⟨pgLot, hdLot, poLot, saLot⟩, na_Lot_services := naLot0, na_Lot_states := naLot1, mk_Lot := ⟨mkLot, inLot, i36, kcLot⟩, me_Lot___len__ := ⟨meLot__len__, i37, k37⟩, me_Lot___bool__ := ⟨meLot__bool__, i38, k38⟩, me_Lot___getitem__ := ⟨meLot__getitem__, i39, k39⟩, me_Lot___add__ := ⟨meLot__add__, i40, k40⟩, me_Lot_set_states := ⟨meLotset_states, i53, k53⟩, is_Lot_Lot := if_pos (beq_self_eq_true _), cl_Game := ⟨pgGame, hdGame, poGame, saGame⟩, na_Game_size := naGame0, na_Game_ahead := naGame1, na_Game_falls := naGame2, na_Game_pattern := naGame3, na_Game_lot := naGame4, na_Game_posts := naGame5, na_Game_lineups := naGame6, na_Game_first := naGame7, na_Game__rounds := naGame8, mk_Game := ⟨mkGame, inGame, i45, kcGame⟩, cl_Posts := ⟨pgPosts, hdPosts, poPosts, saPosts⟩, na_Posts_pattern := naPosts0, na_Posts__ahead := naPosts1, na_Posts_rows := naPosts2, na_Posts_numbers := naPosts3, mk_Posts := ⟨mkPosts, inPosts, i46, kcPosts⟩, cl_Lineups := ⟨pgLineups, hdLineups, poLineups, saLineups⟩, na_Lineups_lot := naLineups0, na_Lineups_choices := naLineups1, na_Lineups_strides := naLineups2, na_Lineups_total := naLineups3, na_Lineups_tuples := naLineups4, na_Lineups_numbers := naLineups5, mk_Lineups := ⟨mkLineups, inLineups, i48, kcLineups⟩, me_Lineups_tuple_at := ⟨meLineupstuple_at, i49, k49⟩, b_Machine___init__ := BI, fn_gi := fgi, fn_gl := fgl, cf_Service := ⟨⟨pgService, hdService, poService, saService⟩, naService0, naService1, naService2, naService3, naService4, naService5⟩, cc_Service := ⟨o1Service, oE2, oE3, o4Service⟩, gi_Service := ⟨meService__getitem__, i30, k30⟩, bo_Service := ⟨meService__bool__, i34, k34⟩, is_Service := isServiceMachine, ea_Service := ⟨meServiceends_at, i32, k32⟩, nq_Service := nqService, cf_Pattern := ⟨⟨pgPattern, hdPattern, poPattern, saPattern⟩, naPattern0, naPattern1, naPattern2, naPattern3, naPattern4, naPattern5⟩, cc_Pattern := ⟨o1Pattern, oE2, oE3, o4Pattern⟩, gi_Pattern := ⟨mePattern__getitem__, i30, k30⟩, bo_Pattern := ⟨mePattern__bool__, i34, k34⟩, is_Pattern := isPatternMachine, ea_Pattern := ⟨mePatternends_at, i32, k32⟩, nq_Pattern := nqPattern, sf_Lot := sfL, cc_Lot := ⟨o1Lot, oE2, oE3, o4Lot⟩, bd := ⟨(fun z => by rw [z, ba1] at meLot__add__; cases meLot__add__), sfL, meLot__add__, i40, mro0, ba1, ba2, bb1, bb2, bc1, bc2⟩, no_Lot := nLot, e_ds := eds, e_vs := evs, e_b := eb, ik_BadCount_AsksError := ktBadCountAsksError, ik_BadCount_BadCount := if_pos (beq_self_eq_true _), ik_BadCount_TooLarge := ktBadCountTooLarge, ik_BadCount_V := ktBadCountV, ik_TooLarge_AsksError := ktTooLargeAsksError, ik_TooLarge_BadCount := ktTooLargeBadCount, ik_TooLarge_TooLarge := if_pos (beq_self_eq_true _), ik_TooLarge_V := ktTooLargeV, xm_TooLarge_BadCount := exm_otherE eC51 iC51 tC51 xmTooLargeBadCount, e_kg := kkg, e_gds := gds, e_gvs := gvs, e_gb := gb, e_mka := mka, e_mkf := mkf, e_ka := kka, e_kf := kkf, e_kfa := kkfa }, rfl, rfl, rfl⟩
  refine ⟨d21, fun s v => ?_, fun base _ _ => ?_⟩
  · obtain ⟨_, _, _, _, _, _, _, _, _, z, _⟩ := F21.ex
    rw [z]
    exact .of_eq rfl
  have z := ok_law (P := l.prog) (w := w) (base := base) T (by rw [T3]; exact SO)
  rw [T1, T2] at z
  exact z
end K08

set_option Elab.async false
set_option linter.all false
set_option maxRecDepth 100000
set_option maxHeartbeats 4000000
namespace K08
open PySem PySem.Spec PyProof.Rows L2 Evl AE
theorem facts {w : World} {K : PySem.W.Frag} {h : Heap} {mg : Str → Option Value} {fa : Addr} (X : K.In h) (G : h.Ns mainGlobals mg) (hfa : mg ("law" : Str) = some (.ref fa)) (c : SaysZ exz fnz K) (SO : SupOk (PySem.Challenge.rw_askshanded_k08_first_standings).prog PySem.Challenge.pw_askshanded_k08_first_standings.main.file) :
    ∃ fd : FuncData, (∀ (s : Shared) (v : Value), BindsTo s fd ⟨[v], []⟩ [("_law_script", v)]) ∧ ∀ base : Heap, K.In base → base.Ns mainGlobals mg → FnOk (PySem.Challenge.rw_askshanded_k08_first_standings).prog w K mg base CX0 16 fa fd ["_law_script"] (sp_law K) := by
  obtain ⟨d0, F0⟩ := plain_z (st := s__law_cell) (c.def_ 0 rfl) (allB_get (l := ex11 K) (i := 15) (c.fact 11 (b := allB (ex11 K)) rfl) rfl)
  obtain ⟨d1, F1⟩ := plain_z (st := s__law_draws) (c.def_ 1 rfl) (allB_get (l := ex11 K) (i := 16) (c.fact 11 (b := allB (ex11 K)) rfl) rfl)
  obtain ⟨d2, F2⟩ := plain_z (st := s__law_asks) (c.def_ 2 rfl) (allB_get (l := ex11 K) (i := 17) (c.fact 11 (b := allB (ex11 K)) rfl) rfl)
  obtain ⟨d3, F3⟩ := plain_z (st := s__law_steps) (c.def_ 3 rfl) (allB_get (l := ex11 K) (i := 18) (c.fact 11 (b := allB (ex11 K)) rfl) rfl)
  obtain ⟨d4, F4⟩ := plain_z (st := s__law_marks) (c.def_ 4 rfl) (allB_get (l := ex11 K) (i := 19) (c.fact 11 (b := allB (ex11 K)) rfl) rfl)
  obtain ⟨d5, F5⟩ := plain_z (st := s__law_lot) (c.def_ 5 rfl) (allB_get (l := ex12 K) (i := 0) (c.fact 12 (b := allB (ex12 K)) rfl) rfl)
  obtain ⟨d6, F6⟩ := plain_z (st := s__law_random) (c.def_ 6 rfl) (allB_get (l := ex12 K) (i := 1) (c.fact 12 (b := allB (ex12 K)) rfl) rfl)
  obtain ⟨d7, F7⟩ := plain_z (st := s__law_pairs) (c.def_ 7 rfl) (allB_get (l := ex12 K) (i := 2) (c.fact 12 (b := allB (ex12 K)) rfl) rfl)
  obtain ⟨d8, F8⟩ := plain_z (st := s__law_service) (c.def_ 8 rfl) (allB_get (l := ex12 K) (i := 3) (c.fact 12 (b := allB (ex12 K)) rfl) rfl)
  obtain ⟨d9, F9⟩ := plain_z (st := s__law_built) (c.def_ 9 rfl) (allB_get (l := ex12 K) (i := 4) (c.fact 12 (b := allB (ex12 K)) rfl) rfl)
  obtain ⟨d10, F10⟩ := plain_z (st := s__law_client) (c.def_ 10 rfl) (allB_get (l := ex12 K) (i := 5) (c.fact 12 (b := allB (ex12 K)) rfl) rfl)
  obtain ⟨d11, F11⟩ := plain_z (st := s__law_whole) (c.def_ 11 rfl) (allB_get (l := ex12 K) (i := 6) (c.fact 12 (b := allB (ex12 K)) rfl) rfl)
  obtain ⟨d12, F12⟩ := plain_z (st := s__law_is_pair) (c.def_ 12 rfl) (allB_get (l := ex12 K) (i := 7) (c.fact 12 (b := allB (ex12 K)) rfl) rfl)
  obtain ⟨d13, F13⟩ := plain_z (st := s__law_is_standing) (c.def_ 13 rfl) (allB_get (l := ex12 K) (i := 8) (c.fact 12 (b := allB (ex12 K)) rfl) rfl)
  obtain ⟨d14, F14⟩ := plain_z (st := s__law_longer) (c.def_ 14 rfl) (allB_get (l := ex12 K) (i := 9) (c.fact 12 (b := allB (ex12 K)) rfl) rfl)
  obtain ⟨d15, F15⟩ := plain_z (st := s__law_known) (c.def_ 15 rfl) (allB_get (l := ex12 K) (i := 10) (c.fact 12 (b := allB (ex12 K)) rfl) rfl)
  obtain ⟨d16, F16⟩ := plain_z (st := s__law_game) (c.def_ 16 rfl) (allB_get (l := ex12 K) (i := 11) (c.fact 12 (b := allB (ex12 K)) rfl) rfl)
  obtain ⟨d17, F17⟩ := plain_z (st := s__law_size_raised) (c.def_ 17 rfl) (allB_get (l := ex12 K) (i := 12) (c.fact 12 (b := allB (ex12 K)) rfl) rfl)
  obtain ⟨d18, F18⟩ := plain_z (st := s__law_first_holds) (c.def_ 18 rfl) (allB_get (l := ex12 K) (i := 13) (c.fact 12 (b := allB (ex12 K)) rfl) rfl)
  obtain ⟨d19, F19⟩ := plain_z (st := s__law_factor) (c.def_ 19 rfl) (allB_get (l := ex12 K) (i := 14) (c.fact 12 (b := allB (ex12 K)) rfl) rfl)
  obtain ⟨d20, F20⟩ := plain_z (st := s__law_size) (c.def_ 20 rfl) (allB_get (l := ex12 K) (i := 15) (c.fact 12 (b := allB (ex12 K)) rfl) rfl)
  obtain ⟨d21, F21⟩ := plain_z (st := s_law) (c.def_ 21 rfl) (allB_get (l := ex12 K) (i := 16) (c.fact 12 (b := allB (ex12 K)) rfl) rfl)
  obtain ⟨d22, F22⟩ := plain_z (st := s_check_size) (c.def_ 22 rfl) (allB_get (l := ex12 K) (i := 17) (c.fact 12 (b := allB (ex12 K)) rfl) rfl)
  obtain ⟨d23, F23⟩ := plain_z (st := s_check_marks) (c.def_ 23 rfl) (allB_get (l := ex12 K) (i := 18) (c.fact 12 (b := allB (ex12 K)) rfl) rfl)
  obtain ⟨d24, F24⟩ := plain_z (st := s_check_steps) (c.def_ 24 rfl) (allB_get (l := ex12 K) (i := 19) (c.fact 12 (b := allB (ex12 K)) rfl) rfl)
  obtain ⟨d25, F25⟩ := plain_z (st := s_is_ask) (c.def_ 25 rfl) (allB_get (l := ex13 K) (i := 0) (c.fact 13 (b := allB (ex13 K)) rfl) rfl)
  obtain ⟨d26, F26⟩ := plain_z (st := s_ascending) (c.def_ 26 rfl) (allB_get (l := ex13 K) (i := 1) (c.fact 13 (b := allB (ex13 K)) rfl) rfl)
  obtain ⟨d27, F27⟩ := plain_z (st := s_ends_by_ask) (c.def_ 27 rfl) (allB_get (l := ex13 K) (i := 2) (c.fact 13 (b := allB (ex13 K)) rfl) rfl)
  obtain ⟨d28, F28⟩ := plain_z (st := s_pairs_by_state) (c.def_ 28 rfl) (allB_get (l := ex13 K) (i := 3) (c.fact 13 (b := allB (ex13 K)) rfl) rfl)
  obtain ⟨d29, F29⟩ := dfl_z (st := s_Machine___init__) (c.def_ 29 rfl) (allB_get (l := ex13 K) (i := 4) (c.fact 13 (b := allB (ex13 K)) rfl) rfl)
  obtain ⟨d30, F30⟩ := plain_z (st := s_Machine___getitem__) (c.def_ 30 rfl) (allB_get (l := ex13 K) (i := 5) (c.fact 13 (b := allB (ex13 K)) rfl) rfl)
  obtain ⟨d31, F31⟩ := plain_z (st := s_Machine___setitem__) (c.def_ 31 rfl) (allB_get (l := ex13 K) (i := 6) (c.fact 13 (b := allB (ex13 K)) rfl) rfl)
  obtain ⟨d32, F32⟩ := plain_z (st := s_Machine_ends_at) (c.def_ 32 rfl) (allB_get (l := ex13 K) (i := 7) (c.fact 13 (b := allB (ex13 K)) rfl) rfl)
  obtain ⟨d33, F33⟩ := plain_z (st := s_Machine_pairs_at) (c.def_ 33 rfl) (allB_get (l := ex13 K) (i := 8) (c.fact 13 (b := allB (ex13 K)) rfl) rfl)
  obtain ⟨d34, F34⟩ := plain_z (st := s_Machine___bool__) (c.def_ 34 rfl) (allB_get (l := ex13 K) (i := 9) (c.fact 13 (b := allB (ex13 K)) rfl) rfl)
  obtain ⟨d35, F35⟩ := plain_z (st := s_Service_twin) (c.def_ 35 rfl) (allB_get (l := ex13 K) (i := 10) (c.fact 13 (b := allB (ex13 K)) rfl) rfl)
  obtain ⟨d36, F36⟩ := plain_z (st := s_Lot___init__) (c.def_ 36 rfl) (allB_get (l := ex13 K) (i := 11) (c.fact 13 (b := allB (ex13 K)) rfl) rfl)
  obtain ⟨d37, F37⟩ := plain_z (st := s_Lot___len__) (c.def_ 37 rfl) (allB_get (l := ex13 K) (i := 12) (c.fact 13 (b := allB (ex13 K)) rfl) rfl)
  obtain ⟨d38, F38⟩ := plain_z (st := s_Lot___bool__) (c.def_ 38 rfl) (allB_get (l := ex13 K) (i := 13) (c.fact 13 (b := allB (ex13 K)) rfl) rfl)
  obtain ⟨d39, F39⟩ := plain_z (st := s_Lot___getitem__) (c.def_ 39 rfl) (allB_get (l := ex13 K) (i := 14) (c.fact 13 (b := allB (ex13 K)) rfl) rfl)
  obtain ⟨d40, F40⟩ := plain_z (st := s_Lot___add__) (c.def_ 40 rfl) (allB_get (l := ex13 K) (i := 15) (c.fact 13 (b := allB (ex13 K)) rfl) rfl)
  obtain ⟨d41, F41⟩ := plain_z (st := s_check_number) (c.def_ 41 rfl) (allB_get (l := ex13 K) (i := 16) (c.fact 13 (b := allB (ex13 K)) rfl) rfl)
  obtain ⟨d42, F42⟩ := plain_z (st := s_rests) (c.def_ 42 rfl) (allB_get (l := ex13 K) (i := 17) (c.fact 13 (b := allB (ex13 K)) rfl) rfl)
  obtain ⟨d43, F43⟩ := plain_z (st := s_check_count) (c.def_ 43 rfl) (allB_get (l := ex13 K) (i := 18) (c.fact 13 (b := allB (ex13 K)) rfl) rfl)
  obtain ⟨d44, F44⟩ := plain_z (st := s_game_size) (c.def_ 44 rfl) (allB_get (l := ex13 K) (i := 19) (c.fact 13 (b := allB (ex13 K)) rfl) rfl)
  obtain ⟨d45, F45⟩ := dfl_z (st := s_Game___init__) (c.def_ 45 rfl) (allB_get (l := ex14 K) (i := 0) (c.fact 14 (b := allB (ex14 K)) rfl) rfl)
  obtain ⟨d46, F46⟩ := plain_z (st := s_Posts___init__) (c.def_ 46 rfl) (allB_get (l := ex14 K) (i := 1) (c.fact 14 (b := allB (ex14 K)) rfl) rfl)
  obtain ⟨d47, F47⟩ := plain_z (st := s_known_rows) (c.def_ 47 rfl) (allB_get (l := ex14 K) (i := 2) (c.fact 14 (b := allB (ex14 K)) rfl) rfl)
  obtain ⟨d48, F48⟩ := plain_z (st := s_Lineups___init__) (c.def_ 48 rfl) (allB_get (l := ex14 K) (i := 3) (c.fact 14 (b := allB (ex14 K)) rfl) rfl)
  obtain ⟨d49, F49⟩ := plain_z (st := s_Lineups_tuple_at) (c.def_ 49 rfl) (allB_get (l := ex14 K) (i := 4) (c.fact 14 (b := allB (ex14 K)) rfl) rfl)
  obtain ⟨d50, F50⟩ := plain_z (st := s_state_choices) (c.def_ 50 rfl) (allB_get (l := ex14 K) (i := 5) (c.fact 14 (b := allB (ex14 K)) rfl) rfl)
  have X51 := clsB_ok (allB_get (l := ex14 K) (i := 6) (c.fact 14 (b := allB (ex14 K)) rfl) rfl)
  obtain ⟨cc51, cda51, d51, S51⟩ := sup_z (st := s_BadCount___init__) (c.def_ 51 rfl) (allB_get (l := ex14 K) (i := 7) (c.fact 14 (b := allB (ex14 K)) rfl) rfl)
  have X52 := clsB_ok (allB_get (l := ex14 K) (i := 8) (c.fact 14 (b := allB (ex14 K)) rfl) rfl)
  obtain ⟨cc52, cda52, d52, S52⟩ := sup_z (st := s_TooLarge___init__) (c.def_ 52 rfl) (allB_get (l := ex14 K) (i := 9) (c.fact 14 (b := allB (ex14 K)) rfl) rfl)
  obtain ⟨d53, F53⟩ := plain_z (st := s_Lot_set_states) (c.def_ 53 rfl) (allB_get (l := ex14 K) (i := 10) (c.fact 14 (b := allB (ex14 K)) rfl) rfl)
  obtain ⟨d54, F54⟩ := plain_z (st := s_are_states) (c.def_ 54 rfl) (allB_get (l := ex14 K) (i := 11) (c.fact 14 (b := allB (ex14 K)) rfl) rfl)
  obtain ⟨tk_MOST_STATES, xMOST_STATES⟩ := intZ_ok (allB_get (l := ex14 K) (i := 12) (c.fact 14 (b := allB (ex14 K)) rfl) rfl)
  obtain ⟨tk_MOST_STEPS, xMOST_STEPS⟩ := intZ_ok (allB_get (l := ex14 K) (i := 13) (c.fact 14 (b := allB (ex14 K)) rfl) rfl)
  obtain ⟨tk_LONGEST_ASK, xLONGEST_ASK⟩ := intZ_ok (allB_get (l := ex14 K) (i := 14) (c.fact 14 (b := allB (ex14 K)) rfl) rfl)
  obtain ⟨tk_MOST_SERVICES, xMOST_SERVICES⟩ := intZ_ok (allB_get (l := ex14 K) (i := 15) (c.fact 14 (b := allB (ex14 K)) rfl) rfl)
  obtain ⟨tk_AWAY, xAWAY⟩ := intZ_ok (allB_get (l := ex14 K) (i := 16) (c.fact 14 (b := allB (ex14 K)) rfl) rfl)
  obtain ⟨tk_MOST_AHEAD, xMOST_AHEAD⟩ := intZ_ok (allB_get (l := ex14 K) (i := 17) (c.fact 14 (b := allB (ex14 K)) rfl) rfl)
  obtain ⟨tk_MOST_FALLS, xMOST_FALLS⟩ := intZ_ok (allB_get (l := ex14 K) (i := 18) (c.fact 14 (b := allB (ex14 K)) rfl) rfl)
  obtain ⟨tk_LARGEST_GAME, xLARGEST_GAME⟩ := intZ_ok (allB_get (l := ex14 K) (i := 19) (c.fact 14 (b := allB (ex14 K)) rfl) rfl)
  refine all_mk (l := PySem.Challenge.rw_askshanded_k08_first_standings) (w := w) (C_AsksError := (He.ga K "AsksError")) (C_BadCount := (He.ga K "BadCount")) (C_TooLarge := (He.ga K "TooLarge")) (C_Machine := (He.ga K "Machine")) (C_Service := (He.ga K "Service")) (C_Pattern := (He.ga K "Pattern")) (C_Lot := (He.ga K "Lot")) (C_Game := (He.ga K "Game")) (C_Posts := (He.ga K "Posts")) (C_Lineups := (He.ga K "Lineups")) (f0 := (He.ga K "_law_cell")) (f1 := (He.ga K "_law_draws")) (f2 := (He.ga K "_law_asks")) (f3 := (He.ga K "_law_steps")) (f4 := (He.ga K "_law_marks")) (f5 := (He.ga K "_law_lot")) (f6 := (He.ga K "_law_random")) (f7 := (He.ga K "_law_pairs")) (f8 := (He.ga K "_law_service")) (f9 := (He.ga K "_law_built")) (f10 := (He.ga K "_law_client")) (f11 := (He.ga K "_law_whole")) (f12 := (He.ga K "_law_is_pair")) (f13 := (He.ga K "_law_is_standing")) (f14 := (He.ga K "_law_longer")) (f15 := (He.ga K "_law_known")) (f16 := (He.ga K "_law_game")) (f17 := (He.ga K "_law_size_raised")) (f18 := (He.ga K "_law_first_holds")) (f19 := (He.ga K "_law_factor")) (f20 := (He.ga K "_law_size")) (f21 := (He.ga K "law")) (f22 := (He.ga K "check_size")) (f23 := (He.ga K "check_marks")) (f24 := (He.ga K "check_steps")) (f25 := (He.ga K "is_ask")) (f26 := (He.ga K "ascending")) (f27 := (He.ga K "ends_by_ask")) (f28 := (He.ga K "pairs_by_state")) (f29 := (He.ma K (He.ga K "Machine") "__init__")) (f30 := (He.ma K (He.ga K "Machine") "__getitem__")) (f31 := (He.ma K (He.ga K "Machine") "__setitem__")) (f32 := (He.ma K (He.ga K "Machine") "ends_at")) (f33 := (He.ma K (He.ga K "Machine") "pairs_at")) (f34 := (He.ma K (He.ga K "Machine") "__bool__")) (f35 := (He.ma K (He.ga K "Service") "twin")) (f36 := (He.ma K (He.ga K "Lot") "__init__")) (f37 := (He.ma K (He.ga K "Lot") "__len__")) (f38 := (He.ma K (He.ga K "Lot") "__bool__")) (f39 := (He.ma K (He.ga K "Lot") "__getitem__")) (f40 := (He.ma K (He.ga K "Lot") "__add__")) (f41 := (He.ga K "check_number")) (f42 := (He.ga K "rests")) (f43 := (He.ga K "check_count")) (f44 := (He.ga K "game_size")) (f45 := (He.ma K (He.ga K "Game") "__init__")) (f46 := (He.ma K (He.ga K "Posts") "__init__")) (f47 := (He.ga K "known_rows")) (f48 := (He.ma K (He.ga K "Lineups") "__init__")) (f49 := (He.ma K (He.ga K "Lineups") "tuple_at")) (f50 := (He.ga K "state_choices")) (f51 := (He.ma K (He.ga K "BadCount") "__init__")) (f52 := (He.ma K (He.ga K "TooLarge") "__init__")) (f53 := (He.ma K (He.ga K "Lot") "set_states")) (f54 := (He.ga K "are_states")) X G hfa ?qAsksError ?qBadCount ?qTooLarge ?qMachine ?qService ?qPattern ?qLot ?qGame ?qPosts ?qLineups ?oE2 ?oE3 ?hth ?a0 ?a1 ?a2 ?a3 ?a4 ?a5 ?a6 ?a7 ?a8 ?a9 ?a10 ?a11 ?a12 ?a13 ?a14 ?a15 ?a16 ?a17 ?a18 ?a19 ?a20 ?a21 ?a22 ?a23 ?a24 ?a25 ?a26 ?a27 ?a28 ?inService ?inPattern ?i29 ?meService__getitem__ ?mePattern__getitem__ ?i30 ?meService__setitem__ ?mePattern__setitem__ ?i31 ?meServiceends_at ?mePatternends_at ?i32 ?mePatternpairs_at ?i33 ?meService__bool__ ?mePattern__bool__ ?i34 ?meServicetwin ?i35 ?inLot ?i36 ?meLot__len__ ?i37 ?meLot__bool__ ?i38 ?meLot__getitem__ ?i39 ?meLot__add__ ?i40 ?a41 ?a42 ?a43 ?a44 ?inGame ?i45 ?inPosts ?i46 ?a47 ?inLineups ?i48 ?meLineupstuple_at ?i49 ?a50 ?sa51 ?ga51 ?hc51 ?gg51 ?nb510 ?in51 ?ti51 ?kC51 ?eC51 ?ve51 ?tC51 ?hD51 ?iC51 ?sC51 ?al51 ?mr51 ?mo51 ?sa52 ?ga52 ?hc52 ?gg52 ?nb520 ?in52 ?ti52 ?kC52 ?eC52 ?ve52 ?tC52 ?hD52 ?iC52 ?sC52 ?al52 ?mr52 ?mo52 ?meLotset_states ?i53 ?a54 ?n_len ?n_int ?n_range ?n_isinstance ?n_bool ?n_list ?n_tuple ?n_all ?n_sorted ?n_str ?n_zip ?n_max ?n_min ?n_enumerate ?n_super ?n_ValueError ?pgService ?hdService ?poService ?saService ?naService0 ?naService1 ?naService2 ?naService3 ?naService4 ?naService5 ?mkService ?kcService ?isServiceMachine ?pgPattern ?hdPattern ?poPattern ?saPattern ?naPattern0 ?naPattern1 ?naPattern2 ?naPattern3 ?naPattern4 ?naPattern5 ?mkPattern ?kcPattern ?isPatternMachine ?pgLot ?hdLot ?poLot ?saLot ?naLot0 ?naLot1 ?mkLot ?kcLot ?pgGame ?hdGame ?poGame ?saGame ?naGame0 ?naGame1 ?naGame2 ?naGame3 ?naGame4 ?naGame5 ?naGame6 ?naGame7 ?naGame8 ?mkGame ?kcGame ?pgPosts ?hdPosts ?poPosts ?saPosts ?naPosts0 ?naPosts1 ?naPosts2 ?naPosts3 ?mkPosts ?kcPosts ?pgLineups ?hdLineups ?poLineups ?saLineups ?naLineups0 ?naLineups1 ?naLineups2 ?naLineups3 ?naLineups4 ?naLineups5 ?mkLineups ?kcLineups ?fgi ?fgl ?o1Service ?o4Service ?nqService ?o1Pattern ?o4Pattern ?nqPattern ?sfL ?mro0 ?o1Lot ?o4Lot ?ba1 ?ba2 ?bb1 ?bb2 ?bc1 ?bc2 ?nLot ?ktBadCountAsksError ?ktBadCountTooLarge ?ktBadCountV ?ktTooLargeAsksError ?ktTooLargeBadCount ?ktTooLargeV ?xmTooLargeBadCount F0 F1 F2 F3 F4 F5 F6 F7 F8 F9 F10 F11 F12 F13 F14 F15 F16 F17 F18 F19 F20 F21 F22 F23 F24 F25 F26 F27 F28 F29 F30 F31 F32 F33 F34 F35 F36 F37 F38 F39 F40 F41 F42 F43 F44 F45 F46 F47 F48 F49 F50 X51 S51 X52 S52 F53 F54 xMOST_STATES xMOST_STEPS xLONGEST_ASK xMOST_SERVICES xAWAY xMOST_AHEAD xMOST_FALLS xLARGEST_GAME SO
  case qAsksError => exact of_decide_eq_true (allB_get (l := ex0 K) (i := 0) (c.fact 0 (b := allB (ex0 K)) rfl) rfl)
  case qBadCount => exact of_decide_eq_true (allB_get (l := ex0 K) (i := 1) (c.fact 0 (b := allB (ex0 K)) rfl) rfl)
  case qTooLarge => exact of_decide_eq_true (allB_get (l := ex0 K) (i := 2) (c.fact 0 (b := allB (ex0 K)) rfl) rfl)
  case qMachine => exact of_decide_eq_true (allB_get (l := ex0 K) (i := 3) (c.fact 0 (b := allB (ex0 K)) rfl) rfl)
  case qService => exact of_decide_eq_true (allB_get (l := ex0 K) (i := 4) (c.fact 0 (b := allB (ex0 K)) rfl) rfl)
  case qPattern => exact of_decide_eq_true (allB_get (l := ex0 K) (i := 5) (c.fact 0 (b := allB (ex0 K)) rfl) rfl)
  case qLot => exact of_decide_eq_true (allB_get (l := ex0 K) (i := 6) (c.fact 0 (b := allB (ex0 K)) rfl) rfl)
  case qGame => exact of_decide_eq_true (allB_get (l := ex0 K) (i := 7) (c.fact 0 (b := allB (ex0 K)) rfl) rfl)
  case qPosts => exact of_decide_eq_true (allB_get (l := ex0 K) (i := 8) (c.fact 0 (b := allB (ex0 K)) rfl) rfl)
  case qLineups => exact of_decide_eq_true (allB_get (l := ex0 K) (i := 9) (c.fact 0 (b := allB (ex0 K)) rfl) rfl)
  case oE2 => exact of_decide_eq_true (allB_get (l := ex0 K) (i := 10) (c.fact 0 (b := allB (ex0 K)) rfl) rfl)
  case oE3 => exact of_decide_eq_true (allB_get (l := ex0 K) (i := 11) (c.fact 0 (b := allB (ex0 K)) rfl) rfl)
  case hth => exact of_decide_eq_true (allB_get (l := ex0 K) (i := 12) (c.fact 0 (b := allB (ex0 K)) rfl) rfl)
  case a0 => exact of_decide_eq_true (allB_get (l := ex0 K) (i := 13) (c.fact 0 (b := allB (ex0 K)) rfl) rfl)
  case a1 => exact of_decide_eq_true (allB_get (l := ex0 K) (i := 14) (c.fact 0 (b := allB (ex0 K)) rfl) rfl)
  case a2 => exact of_decide_eq_true (allB_get (l := ex0 K) (i := 15) (c.fact 0 (b := allB (ex0 K)) rfl) rfl)
  case a3 => exact of_decide_eq_true (allB_get (l := ex0 K) (i := 16) (c.fact 0 (b := allB (ex0 K)) rfl) rfl)
  case a4 => exact of_decide_eq_true (allB_get (l := ex0 K) (i := 17) (c.fact 0 (b := allB (ex0 K)) rfl) rfl)
  case a5 => exact of_decide_eq_true (allB_get (l := ex0 K) (i := 18) (c.fact 0 (b := allB (ex0 K)) rfl) rfl)
  case a6 => exact of_decide_eq_true (allB_get (l := ex0 K) (i := 19) (c.fact 0 (b := allB (ex0 K)) rfl) rfl)
  case a7 => exact of_decide_eq_true (allB_get (l := ex1 K) (i := 0) (c.fact 1 (b := allB (ex1 K)) rfl) rfl)
  case a8 => exact of_decide_eq_true (allB_get (l := ex1 K) (i := 1) (c.fact 1 (b := allB (ex1 K)) rfl) rfl)
  case a9 => exact of_decide_eq_true (allB_get (l := ex1 K) (i := 2) (c.fact 1 (b := allB (ex1 K)) rfl) rfl)
  case a10 => exact of_decide_eq_true (allB_get (l := ex1 K) (i := 3) (c.fact 1 (b := allB (ex1 K)) rfl) rfl)
  case a11 => exact of_decide_eq_true (allB_get (l := ex1 K) (i := 4) (c.fact 1 (b := allB (ex1 K)) rfl) rfl)
  case a12 => exact of_decide_eq_true (allB_get (l := ex1 K) (i := 5) (c.fact 1 (b := allB (ex1 K)) rfl) rfl)
  case a13 => exact of_decide_eq_true (allB_get (l := ex1 K) (i := 6) (c.fact 1 (b := allB (ex1 K)) rfl) rfl)
  case a14 => exact of_decide_eq_true (allB_get (l := ex1 K) (i := 7) (c.fact 1 (b := allB (ex1 K)) rfl) rfl)
  case a15 => exact of_decide_eq_true (allB_get (l := ex1 K) (i := 8) (c.fact 1 (b := allB (ex1 K)) rfl) rfl)
  case a16 => exact of_decide_eq_true (allB_get (l := ex1 K) (i := 9) (c.fact 1 (b := allB (ex1 K)) rfl) rfl)
  case a17 => exact of_decide_eq_true (allB_get (l := ex1 K) (i := 10) (c.fact 1 (b := allB (ex1 K)) rfl) rfl)
  case a18 => exact of_decide_eq_true (allB_get (l := ex1 K) (i := 11) (c.fact 1 (b := allB (ex1 K)) rfl) rfl)
  case a19 => exact of_decide_eq_true (allB_get (l := ex1 K) (i := 12) (c.fact 1 (b := allB (ex1 K)) rfl) rfl)
  case a20 => exact of_decide_eq_true (allB_get (l := ex1 K) (i := 13) (c.fact 1 (b := allB (ex1 K)) rfl) rfl)
  case a21 => exact of_decide_eq_true (allB_get (l := ex1 K) (i := 14) (c.fact 1 (b := allB (ex1 K)) rfl) rfl)
  case a22 => exact of_decide_eq_true (allB_get (l := ex1 K) (i := 15) (c.fact 1 (b := allB (ex1 K)) rfl) rfl)
  case a23 => exact of_decide_eq_true (allB_get (l := ex1 K) (i := 16) (c.fact 1 (b := allB (ex1 K)) rfl) rfl)
  case a24 => exact of_decide_eq_true (allB_get (l := ex1 K) (i := 17) (c.fact 1 (b := allB (ex1 K)) rfl) rfl)
  case a25 => exact of_decide_eq_true (allB_get (l := ex1 K) (i := 18) (c.fact 1 (b := allB (ex1 K)) rfl) rfl)
  case a26 => exact of_decide_eq_true (allB_get (l := ex1 K) (i := 19) (c.fact 1 (b := allB (ex1 K)) rfl) rfl)
  case a27 => exact of_decide_eq_true (allB_get (l := ex2 K) (i := 0) (c.fact 2 (b := allB (ex2 K)) rfl) rfl)
  case a28 => exact of_decide_eq_true (allB_get (l := ex2 K) (i := 1) (c.fact 2 (b := allB (ex2 K)) rfl) rfl)
  case inService => exact of_decide_eq_true (allB_get (l := ex2 K) (i := 2) (c.fact 2 (b := allB (ex2 K)) rfl) rfl)
  case inPattern => exact of_decide_eq_true (allB_get (l := ex2 K) (i := 3) (c.fact 2 (b := allB (ex2 K)) rfl) rfl)
  case i29 => exact (allB_get (l := ex2 K) (i := 4) (c.fact 2 (b := allB (ex2 K)) rfl) rfl)
  case meService__getitem__ => exact of_decide_eq_true (allB_get (l := ex2 K) (i := 5) (c.fact 2 (b := allB (ex2 K)) rfl) rfl)
  case mePattern__getitem__ => exact of_decide_eq_true (allB_get (l := ex2 K) (i := 6) (c.fact 2 (b := allB (ex2 K)) rfl) rfl)
  case i30 => exact (allB_get (l := ex2 K) (i := 7) (c.fact 2 (b := allB (ex2 K)) rfl) rfl)
  case meService__setitem__ => exact of_decide_eq_true (allB_get (l := ex2 K) (i := 8) (c.fact 2 (b := allB (ex2 K)) rfl) rfl)
  case mePattern__setitem__ => exact of_decide_eq_true (allB_get (l := ex2 K) (i := 9) (c.fact 2 (b := allB (ex2 K)) rfl) rfl)
  case i31 => exact (allB_get (l := ex2 K) (i := 10) (c.fact 2 (b := allB (ex2 K)) rfl) rfl)
  case meServiceends_at => exact of_decide_eq_true (allB_get (l := ex2 K) (i := 11) (c.fact 2 (b := allB (ex2 K)) rfl) rfl)
  case mePatternends_at => exact of_decide_eq_true (allB_get (l := ex2 K) (i := 12) (c.fact 2 (b := allB (ex2 K)) rfl) rfl)
  case i32 => exact (allB_get (l := ex2 K) (i := 13) (c.fact 2 (b := allB (ex2 K)) rfl) rfl)
  case mePatternpairs_at => exact of_decide_eq_true (allB_get (l := ex2 K) (i := 14) (c.fact 2 (b := allB (ex2 K)) rfl) rfl)
  case i33 => exact (allB_get (l := ex2 K) (i := 15) (c.fact 2 (b := allB (ex2 K)) rfl) rfl)
  case meService__bool__ => exact of_decide_eq_true (allB_get (l := ex2 K) (i := 16) (c.fact 2 (b := allB (ex2 K)) rfl) rfl)
  case mePattern__bool__ => exact of_decide_eq_true (allB_get (l := ex2 K) (i := 17) (c.fact 2 (b := allB (ex2 K)) rfl) rfl)
  case i34 => exact (allB_get (l := ex2 K) (i := 18) (c.fact 2 (b := allB (ex2 K)) rfl) rfl)
  case meServicetwin => exact of_decide_eq_true (allB_get (l := ex2 K) (i := 19) (c.fact 2 (b := allB (ex2 K)) rfl) rfl)
  case i35 => exact (allB_get (l := ex3 K) (i := 0) (c.fact 3 (b := allB (ex3 K)) rfl) rfl)
  case inLot => exact of_decide_eq_true (allB_get (l := ex3 K) (i := 1) (c.fact 3 (b := allB (ex3 K)) rfl) rfl)
  case i36 => exact (allB_get (l := ex3 K) (i := 2) (c.fact 3 (b := allB (ex3 K)) rfl) rfl)
  case meLot__len__ => exact of_decide_eq_true (allB_get (l := ex3 K) (i := 3) (c.fact 3 (b := allB (ex3 K)) rfl) rfl)
  case i37 => exact (allB_get (l := ex3 K) (i := 4) (c.fact 3 (b := allB (ex3 K)) rfl) rfl)
  case meLot__bool__ => exact of_decide_eq_true (allB_get (l := ex3 K) (i := 5) (c.fact 3 (b := allB (ex3 K)) rfl) rfl)
  case i38 => exact (allB_get (l := ex3 K) (i := 6) (c.fact 3 (b := allB (ex3 K)) rfl) rfl)
  case meLot__getitem__ => exact of_decide_eq_true (allB_get (l := ex3 K) (i := 7) (c.fact 3 (b := allB (ex3 K)) rfl) rfl)
  case i39 => exact (allB_get (l := ex3 K) (i := 8) (c.fact 3 (b := allB (ex3 K)) rfl) rfl)
  case meLot__add__ => exact of_decide_eq_true (allB_get (l := ex3 K) (i := 9) (c.fact 3 (b := allB (ex3 K)) rfl) rfl)
  case i40 => exact (allB_get (l := ex3 K) (i := 10) (c.fact 3 (b := allB (ex3 K)) rfl) rfl)
  case a41 => exact of_decide_eq_true (allB_get (l := ex3 K) (i := 11) (c.fact 3 (b := allB (ex3 K)) rfl) rfl)
  case a42 => exact of_decide_eq_true (allB_get (l := ex3 K) (i := 12) (c.fact 3 (b := allB (ex3 K)) rfl) rfl)
  case a43 => exact of_decide_eq_true (allB_get (l := ex3 K) (i := 13) (c.fact 3 (b := allB (ex3 K)) rfl) rfl)
  case a44 => exact of_decide_eq_true (allB_get (l := ex3 K) (i := 14) (c.fact 3 (b := allB (ex3 K)) rfl) rfl)
  case inGame => exact of_decide_eq_true (allB_get (l := ex3 K) (i := 15) (c.fact 3 (b := allB (ex3 K)) rfl) rfl)
  case i45 => exact (allB_get (l := ex3 K) (i := 16) (c.fact 3 (b := allB (ex3 K)) rfl) rfl)
  case inPosts => exact of_decide_eq_true (allB_get (l := ex3 K) (i := 17) (c.fact 3 (b := allB (ex3 K)) rfl) rfl)
  case i46 => exact (allB_get (l := ex3 K) (i := 18) (c.fact 3 (b := allB (ex3 K)) rfl) rfl)
  case a47 => exact of_decide_eq_true (allB_get (l := ex3 K) (i := 19) (c.fact 3 (b := allB (ex3 K)) rfl) rfl)
  case inLineups => exact of_decide_eq_true (allB_get (l := ex4 K) (i := 0) (c.fact 4 (b := allB (ex4 K)) rfl) rfl)
  case i48 => exact (allB_get (l := ex4 K) (i := 1) (c.fact 4 (b := allB (ex4 K)) rfl) rfl)
  case meLineupstuple_at => exact of_decide_eq_true (allB_get (l := ex4 K) (i := 2) (c.fact 4 (b := allB (ex4 K)) rfl) rfl)
  case i49 => exact (allB_get (l := ex4 K) (i := 3) (c.fact 4 (b := allB (ex4 K)) rfl) rfl)
  case a50 => exact of_decide_eq_true (allB_get (l := ex4 K) (i := 4) (c.fact 4 (b := allB (ex4 K)) rfl) rfl)
  case sa51 => exact of_decide_eq_true (allB_get (l := ex4 K) (i := 5) (c.fact 4 (b := allB (ex4 K)) rfl) rfl)
  case ga51 => exact of_decide_eq_true (allB_get (l := ex4 K) (i := 6) (c.fact 4 (b := allB (ex4 K)) rfl) rfl)
  case hc51 => exact of_decide_eq_true (allB_get (l := ex4 K) (i := 7) (c.fact 4 (b := allB (ex4 K)) rfl) rfl)
  case gg51 => exact of_decide_eq_true (allB_get (l := ex4 K) (i := 8) (c.fact 4 (b := allB (ex4 K)) rfl) rfl)
  case nb510 => exact of_decide_eq_true (allB_get (l := ex4 K) (i := 9) (c.fact 4 (b := allB (ex4 K)) rfl) rfl)
  case in51 => exact of_decide_eq_true (allB_get (l := ex4 K) (i := 10) (c.fact 4 (b := allB (ex4 K)) rfl) rfl)
  case ti51 => exact of_decide_eq_true (allB_get (l := ex4 K) (i := 11) (c.fact 4 (b := allB (ex4 K)) rfl) rfl)
  case kC51 => exact (allB_get (l := ex4 K) (i := 12) (c.fact 4 (b := allB (ex4 K)) rfl) rfl)
  case eC51 => exact of_decide_eq_true (allB_get (l := ex4 K) (i := 13) (c.fact 4 (b := allB (ex4 K)) rfl) rfl)
  case ve51 => exact of_decide_eq_true (allB_get (l := ex4 K) (i := 14) (c.fact 4 (b := allB (ex4 K)) rfl) rfl)
  case tC51 => exact of_decide_eq_true (allB_get (l := ex4 K) (i := 15) (c.fact 4 (b := allB (ex4 K)) rfl) rfl)
  case hD51 => exact (allB_get (l := ex4 K) (i := 16) (c.fact 4 (b := allB (ex4 K)) rfl) rfl)
  case iC51 => exact (allB_get (l := ex4 K) (i := 17) (c.fact 4 (b := allB (ex4 K)) rfl) rfl)
  case sC51 => exact of_decide_eq_true (allB_get (l := ex4 K) (i := 18) (c.fact 4 (b := allB (ex4 K)) rfl) rfl)
  case al51 => exact of_decide_eq_true (allB_get (l := ex4 K) (i := 19) (c.fact 4 (b := allB (ex4 K)) rfl) rfl)
  case mr51 => exact of_decide_eq_true (allB_get (l := ex5 K) (i := 0) (c.fact 5 (b := allB (ex5 K)) rfl) rfl)
  case mo51 => exact of_decide_eq_true (allB_get (l := ex5 K) (i := 1) (c.fact 5 (b := allB (ex5 K)) rfl) rfl)
  case sa52 => exact of_decide_eq_true (allB_get (l := ex5 K) (i := 2) (c.fact 5 (b := allB (ex5 K)) rfl) rfl)
  case ga52 => exact of_decide_eq_true (allB_get (l := ex5 K) (i := 3) (c.fact 5 (b := allB (ex5 K)) rfl) rfl)
  case hc52 => exact of_decide_eq_true (allB_get (l := ex5 K) (i := 4) (c.fact 5 (b := allB (ex5 K)) rfl) rfl)
  case gg52 => exact of_decide_eq_true (allB_get (l := ex5 K) (i := 5) (c.fact 5 (b := allB (ex5 K)) rfl) rfl)
  case nb520 => exact of_decide_eq_true (allB_get (l := ex5 K) (i := 6) (c.fact 5 (b := allB (ex5 K)) rfl) rfl)
  case in52 => exact of_decide_eq_true (allB_get (l := ex5 K) (i := 7) (c.fact 5 (b := allB (ex5 K)) rfl) rfl)
  case ti52 => exact of_decide_eq_true (allB_get (l := ex5 K) (i := 8) (c.fact 5 (b := allB (ex5 K)) rfl) rfl)
  case kC52 => exact (allB_get (l := ex5 K) (i := 9) (c.fact 5 (b := allB (ex5 K)) rfl) rfl)
  case eC52 => exact of_decide_eq_true (allB_get (l := ex5 K) (i := 10) (c.fact 5 (b := allB (ex5 K)) rfl) rfl)
  case ve52 => exact of_decide_eq_true (allB_get (l := ex5 K) (i := 11) (c.fact 5 (b := allB (ex5 K)) rfl) rfl)
  case tC52 => exact of_decide_eq_true (allB_get (l := ex5 K) (i := 12) (c.fact 5 (b := allB (ex5 K)) rfl) rfl)
  case hD52 => exact (allB_get (l := ex5 K) (i := 13) (c.fact 5 (b := allB (ex5 K)) rfl) rfl)
  case iC52 => exact (allB_get (l := ex5 K) (i := 14) (c.fact 5 (b := allB (ex5 K)) rfl) rfl)
  case sC52 => exact of_decide_eq_true (allB_get (l := ex5 K) (i := 15) (c.fact 5 (b := allB (ex5 K)) rfl) rfl)
  case al52 => exact of_decide_eq_true (allB_get (l := ex5 K) (i := 16) (c.fact 5 (b := allB (ex5 K)) rfl) rfl)
  case mr52 => exact of_decide_eq_true (allB_get (l := ex5 K) (i := 17) (c.fact 5 (b := allB (ex5 K)) rfl) rfl)
  case mo52 => exact of_decide_eq_true (allB_get (l := ex5 K) (i := 18) (c.fact 5 (b := allB (ex5 K)) rfl) rfl)
  case meLotset_states => exact of_decide_eq_true (allB_get (l := ex5 K) (i := 19) (c.fact 5 (b := allB (ex5 K)) rfl) rfl)
  case i53 => exact (allB_get (l := ex6 K) (i := 0) (c.fact 6 (b := allB (ex6 K)) rfl) rfl)
  case a54 => exact of_decide_eq_true (allB_get (l := ex6 K) (i := 1) (c.fact 6 (b := allB (ex6 K)) rfl) rfl)
  case n_len => exact of_decide_eq_true (allB_get (l := ex6 K) (i := 2) (c.fact 6 (b := allB (ex6 K)) rfl) rfl)
  case n_int => exact of_decide_eq_true (allB_get (l := ex6 K) (i := 3) (c.fact 6 (b := allB (ex6 K)) rfl) rfl)
  case n_range => exact of_decide_eq_true (allB_get (l := ex6 K) (i := 4) (c.fact 6 (b := allB (ex6 K)) rfl) rfl)
  case n_isinstance => exact of_decide_eq_true (allB_get (l := ex6 K) (i := 5) (c.fact 6 (b := allB (ex6 K)) rfl) rfl)
  case n_bool => exact of_decide_eq_true (allB_get (l := ex6 K) (i := 6) (c.fact 6 (b := allB (ex6 K)) rfl) rfl)
  case n_list => exact of_decide_eq_true (allB_get (l := ex6 K) (i := 7) (c.fact 6 (b := allB (ex6 K)) rfl) rfl)
  case n_tuple => exact of_decide_eq_true (allB_get (l := ex6 K) (i := 8) (c.fact 6 (b := allB (ex6 K)) rfl) rfl)
  case n_all => exact of_decide_eq_true (allB_get (l := ex6 K) (i := 9) (c.fact 6 (b := allB (ex6 K)) rfl) rfl)
  case n_sorted => exact of_decide_eq_true (allB_get (l := ex6 K) (i := 10) (c.fact 6 (b := allB (ex6 K)) rfl) rfl)
  case n_str => exact of_decide_eq_true (allB_get (l := ex6 K) (i := 11) (c.fact 6 (b := allB (ex6 K)) rfl) rfl)
  case n_zip => exact of_decide_eq_true (allB_get (l := ex6 K) (i := 12) (c.fact 6 (b := allB (ex6 K)) rfl) rfl)
  case n_max => exact of_decide_eq_true (allB_get (l := ex6 K) (i := 13) (c.fact 6 (b := allB (ex6 K)) rfl) rfl)
  case n_min => exact of_decide_eq_true (allB_get (l := ex6 K) (i := 14) (c.fact 6 (b := allB (ex6 K)) rfl) rfl)
  case n_enumerate => exact of_decide_eq_true (allB_get (l := ex6 K) (i := 15) (c.fact 6 (b := allB (ex6 K)) rfl) rfl)
  case n_super => exact of_decide_eq_true (allB_get (l := ex6 K) (i := 16) (c.fact 6 (b := allB (ex6 K)) rfl) rfl)
  case n_ValueError => exact of_decide_eq_true (allB_get (l := ex6 K) (i := 17) (c.fact 6 (b := allB (ex6 K)) rfl) rfl)
  case pgService => exact (allB_get (l := ex6 K) (i := 18) (c.fact 6 (b := allB (ex6 K)) rfl) rfl)
  case hdService => exact (allB_get (l := ex6 K) (i := 19) (c.fact 6 (b := allB (ex6 K)) rfl) rfl)
  case poService => exact (allB_get (l := ex7 K) (i := 0) (c.fact 7 (b := allB (ex7 K)) rfl) rfl)
  case saService => exact of_decide_eq_true (allB_get (l := ex7 K) (i := 1) (c.fact 7 (b := allB (ex7 K)) rfl) rfl)
  case naService0 => exact of_decide_eq_true (allB_get (l := ex7 K) (i := 2) (c.fact 7 (b := allB (ex7 K)) rfl) rfl)
  case naService1 => exact of_decide_eq_true (allB_get (l := ex7 K) (i := 3) (c.fact 7 (b := allB (ex7 K)) rfl) rfl)
  case naService2 => exact of_decide_eq_true (allB_get (l := ex7 K) (i := 4) (c.fact 7 (b := allB (ex7 K)) rfl) rfl)
  case naService3 => exact of_decide_eq_true (allB_get (l := ex7 K) (i := 5) (c.fact 7 (b := allB (ex7 K)) rfl) rfl)
  case naService4 => exact of_decide_eq_true (allB_get (l := ex7 K) (i := 6) (c.fact 7 (b := allB (ex7 K)) rfl) rfl)
  case naService5 => exact of_decide_eq_true (allB_get (l := ex7 K) (i := 7) (c.fact 7 (b := allB (ex7 K)) rfl) rfl)
  case mkService => exact (allB_get (l := ex7 K) (i := 8) (c.fact 7 (b := allB (ex7 K)) rfl) rfl)
  case kcService => exact (allB_get (l := ex7 K) (i := 9) (c.fact 7 (b := allB (ex7 K)) rfl) rfl)
  case isServiceMachine => exact of_decide_eq_true (allB_get (l := ex7 K) (i := 10) (c.fact 7 (b := allB (ex7 K)) rfl) rfl)
  case pgPattern => exact (allB_get (l := ex7 K) (i := 11) (c.fact 7 (b := allB (ex7 K)) rfl) rfl)
  case hdPattern => exact (allB_get (l := ex7 K) (i := 12) (c.fact 7 (b := allB (ex7 K)) rfl) rfl)
  case poPattern => exact (allB_get (l := ex7 K) (i := 13) (c.fact 7 (b := allB (ex7 K)) rfl) rfl)
  case saPattern => exact of_decide_eq_true (allB_get (l := ex7 K) (i := 14) (c.fact 7 (b := allB (ex7 K)) rfl) rfl)
  case naPattern0 => exact of_decide_eq_true (allB_get (l := ex7 K) (i := 15) (c.fact 7 (b := allB (ex7 K)) rfl) rfl)
  case naPattern1 => exact of_decide_eq_true (allB_get (l := ex7 K) (i := 16) (c.fact 7 (b := allB (ex7 K)) rfl) rfl)
  case naPattern2 => exact of_decide_eq_true (allB_get (l := ex7 K) (i := 17) (c.fact 7 (b := allB (ex7 K)) rfl) rfl)
  case naPattern3 => exact of_decide_eq_true (allB_get (l := ex7 K) (i := 18) (c.fact 7 (b := allB (ex7 K)) rfl) rfl)
  case naPattern4 => exact of_decide_eq_true (allB_get (l := ex7 K) (i := 19) (c.fact 7 (b := allB (ex7 K)) rfl) rfl)
  case naPattern5 => exact of_decide_eq_true (allB_get (l := ex8 K) (i := 0) (c.fact 8 (b := allB (ex8 K)) rfl) rfl)
  case mkPattern => exact (allB_get (l := ex8 K) (i := 1) (c.fact 8 (b := allB (ex8 K)) rfl) rfl)
  case kcPattern => exact (allB_get (l := ex8 K) (i := 2) (c.fact 8 (b := allB (ex8 K)) rfl) rfl)
  case isPatternMachine => exact of_decide_eq_true (allB_get (l := ex8 K) (i := 3) (c.fact 8 (b := allB (ex8 K)) rfl) rfl)
  case pgLot => exact (allB_get (l := ex8 K) (i := 4) (c.fact 8 (b := allB (ex8 K)) rfl) rfl)
  case hdLot => exact (allB_get (l := ex8 K) (i := 5) (c.fact 8 (b := allB (ex8 K)) rfl) rfl)
  case poLot => exact (allB_get (l := ex8 K) (i := 6) (c.fact 8 (b := allB (ex8 K)) rfl) rfl)
  case saLot => exact of_decide_eq_true (allB_get (l := ex8 K) (i := 7) (c.fact 8 (b := allB (ex8 K)) rfl) rfl)
  case naLot0 => exact of_decide_eq_true (allB_get (l := ex8 K) (i := 8) (c.fact 8 (b := allB (ex8 K)) rfl) rfl)
  case naLot1 => exact of_decide_eq_true (allB_get (l := ex8 K) (i := 9) (c.fact 8 (b := allB (ex8 K)) rfl) rfl)
  case mkLot => exact (allB_get (l := ex8 K) (i := 10) (c.fact 8 (b := allB (ex8 K)) rfl) rfl)
  case kcLot => exact (allB_get (l := ex8 K) (i := 11) (c.fact 8 (b := allB (ex8 K)) rfl) rfl)
  case pgGame => exact (allB_get (l := ex8 K) (i := 12) (c.fact 8 (b := allB (ex8 K)) rfl) rfl)
  case hdGame => exact (allB_get (l := ex8 K) (i := 13) (c.fact 8 (b := allB (ex8 K)) rfl) rfl)
  case poGame => exact (allB_get (l := ex8 K) (i := 14) (c.fact 8 (b := allB (ex8 K)) rfl) rfl)
  case saGame => exact of_decide_eq_true (allB_get (l := ex8 K) (i := 15) (c.fact 8 (b := allB (ex8 K)) rfl) rfl)
  case naGame0 => exact of_decide_eq_true (allB_get (l := ex8 K) (i := 16) (c.fact 8 (b := allB (ex8 K)) rfl) rfl)
  case naGame1 => exact of_decide_eq_true (allB_get (l := ex8 K) (i := 17) (c.fact 8 (b := allB (ex8 K)) rfl) rfl)
  case naGame2 => exact of_decide_eq_true (allB_get (l := ex8 K) (i := 18) (c.fact 8 (b := allB (ex8 K)) rfl) rfl)
  case naGame3 => exact of_decide_eq_true (allB_get (l := ex8 K) (i := 19) (c.fact 8 (b := allB (ex8 K)) rfl) rfl)
  case naGame4 => exact of_decide_eq_true (allB_get (l := ex9 K) (i := 0) (c.fact 9 (b := allB (ex9 K)) rfl) rfl)
  case naGame5 => exact of_decide_eq_true (allB_get (l := ex9 K) (i := 1) (c.fact 9 (b := allB (ex9 K)) rfl) rfl)
  case naGame6 => exact of_decide_eq_true (allB_get (l := ex9 K) (i := 2) (c.fact 9 (b := allB (ex9 K)) rfl) rfl)
  case naGame7 => exact of_decide_eq_true (allB_get (l := ex9 K) (i := 3) (c.fact 9 (b := allB (ex9 K)) rfl) rfl)
  case naGame8 => exact of_decide_eq_true (allB_get (l := ex9 K) (i := 4) (c.fact 9 (b := allB (ex9 K)) rfl) rfl)
  case mkGame => exact (allB_get (l := ex9 K) (i := 5) (c.fact 9 (b := allB (ex9 K)) rfl) rfl)
  case kcGame => exact (allB_get (l := ex9 K) (i := 6) (c.fact 9 (b := allB (ex9 K)) rfl) rfl)
  case pgPosts => exact (allB_get (l := ex9 K) (i := 7) (c.fact 9 (b := allB (ex9 K)) rfl) rfl)
  case hdPosts => exact (allB_get (l := ex9 K) (i := 8) (c.fact 9 (b := allB (ex9 K)) rfl) rfl)
  case poPosts => exact (allB_get (l := ex9 K) (i := 9) (c.fact 9 (b := allB (ex9 K)) rfl) rfl)
  case saPosts => exact of_decide_eq_true (allB_get (l := ex9 K) (i := 10) (c.fact 9 (b := allB (ex9 K)) rfl) rfl)
  case naPosts0 => exact of_decide_eq_true (allB_get (l := ex9 K) (i := 11) (c.fact 9 (b := allB (ex9 K)) rfl) rfl)
  case naPosts1 => exact of_decide_eq_true (allB_get (l := ex9 K) (i := 12) (c.fact 9 (b := allB (ex9 K)) rfl) rfl)
  case naPosts2 => exact of_decide_eq_true (allB_get (l := ex9 K) (i := 13) (c.fact 9 (b := allB (ex9 K)) rfl) rfl)
  case naPosts3 => exact of_decide_eq_true (allB_get (l := ex9 K) (i := 14) (c.fact 9 (b := allB (ex9 K)) rfl) rfl)
  case mkPosts => exact (allB_get (l := ex9 K) (i := 15) (c.fact 9 (b := allB (ex9 K)) rfl) rfl)
  case kcPosts => exact (allB_get (l := ex9 K) (i := 16) (c.fact 9 (b := allB (ex9 K)) rfl) rfl)
  case pgLineups => exact (allB_get (l := ex9 K) (i := 17) (c.fact 9 (b := allB (ex9 K)) rfl) rfl)
  case hdLineups => exact (allB_get (l := ex9 K) (i := 18) (c.fact 9 (b := allB (ex9 K)) rfl) rfl)
  case poLineups => exact (allB_get (l := ex9 K) (i := 19) (c.fact 9 (b := allB (ex9 K)) rfl) rfl)
  case saLineups => exact of_decide_eq_true (allB_get (l := ex10 K) (i := 0) (c.fact 10 (b := allB (ex10 K)) rfl) rfl)
  case naLineups0 => exact of_decide_eq_true (allB_get (l := ex10 K) (i := 1) (c.fact 10 (b := allB (ex10 K)) rfl) rfl)
  case naLineups1 => exact of_decide_eq_true (allB_get (l := ex10 K) (i := 2) (c.fact 10 (b := allB (ex10 K)) rfl) rfl)
  case naLineups2 => exact of_decide_eq_true (allB_get (l := ex10 K) (i := 3) (c.fact 10 (b := allB (ex10 K)) rfl) rfl)
  case naLineups3 => exact of_decide_eq_true (allB_get (l := ex10 K) (i := 4) (c.fact 10 (b := allB (ex10 K)) rfl) rfl)
  case naLineups4 => exact of_decide_eq_true (allB_get (l := ex10 K) (i := 5) (c.fact 10 (b := allB (ex10 K)) rfl) rfl)
  case naLineups5 => exact of_decide_eq_true (allB_get (l := ex10 K) (i := 6) (c.fact 10 (b := allB (ex10 K)) rfl) rfl)
  case mkLineups => exact (allB_get (l := ex10 K) (i := 7) (c.fact 10 (b := allB (ex10 K)) rfl) rfl)
  case kcLineups => exact (allB_get (l := ex10 K) (i := 8) (c.fact 10 (b := allB (ex10 K)) rfl) rfl)
  case fgi => exact (allB_get (l := ex10 K) (i := 9) (c.fact 10 (b := allB (ex10 K)) rfl) rfl)
  case fgl => exact (allB_get (l := ex10 K) (i := 10) (c.fact 10 (b := allB (ex10 K)) rfl) rfl)
  case o1Service => exact of_decide_eq_true (allB_get (l := ex10 K) (i := 11) (c.fact 10 (b := allB (ex10 K)) rfl) rfl)
  case o4Service => exact of_decide_eq_true (allB_get (l := ex10 K) (i := 12) (c.fact 10 (b := allB (ex10 K)) rfl) rfl)
  case nqService => exact (allB_get (l := ex10 K) (i := 13) (c.fact 10 (b := allB (ex10 K)) rfl) rfl)
  case o1Pattern => exact of_decide_eq_true (allB_get (l := ex10 K) (i := 14) (c.fact 10 (b := allB (ex10 K)) rfl) rfl)
  case o4Pattern => exact of_decide_eq_true (allB_get (l := ex10 K) (i := 15) (c.fact 10 (b := allB (ex10 K)) rfl) rfl)
  case nqPattern => exact (allB_get (l := ex10 K) (i := 16) (c.fact 10 (b := allB (ex10 K)) rfl) rfl)
  case sfL => exact (allB_get (l := ex10 K) (i := 17) (c.fact 10 (b := allB (ex10 K)) rfl) rfl)
  case mro0 => exact mroB_ok (allB_get (l := ex10 K) (i := 18) (c.fact 10 (b := allB (ex10 K)) rfl) rfl)
  case o1Lot => exact of_decide_eq_true (allB_get (l := ex10 K) (i := 19) (c.fact 10 (b := allB (ex10 K)) rfl) rfl)
  case o4Lot => exact of_decide_eq_true (allB_get (l := ex11 K) (i := 0) (c.fact 11 (b := allB (ex11 K)) rfl) rfl)
  case ba1 => exact of_decide_eq_true (allB_get (l := ex11 K) (i := 1) (c.fact 11 (b := allB (ex11 K)) rfl) rfl)
  case ba2 => exact of_decide_eq_true (allB_get (l := ex11 K) (i := 2) (c.fact 11 (b := allB (ex11 K)) rfl) rfl)
  case bb1 => exact of_decide_eq_true (allB_get (l := ex11 K) (i := 3) (c.fact 11 (b := allB (ex11 K)) rfl) rfl)
  case bb2 => exact of_decide_eq_true (allB_get (l := ex11 K) (i := 4) (c.fact 11 (b := allB (ex11 K)) rfl) rfl)
  case bc1 => exact of_decide_eq_true (allB_get (l := ex11 K) (i := 5) (c.fact 11 (b := allB (ex11 K)) rfl) rfl)
  case bc2 => exact of_decide_eq_true (allB_get (l := ex11 K) (i := 6) (c.fact 11 (b := allB (ex11 K)) rfl) rfl)
  case nLot => exact of_decide_eq_true (allB_get (l := ex11 K) (i := 7) (c.fact 11 (b := allB (ex11 K)) rfl) rfl)
  case ktBadCountAsksError => exact of_decide_eq_true (allB_get (l := ex11 K) (i := 8) (c.fact 11 (b := allB (ex11 K)) rfl) rfl)
  case ktBadCountTooLarge => exact of_decide_eq_true (allB_get (l := ex11 K) (i := 9) (c.fact 11 (b := allB (ex11 K)) rfl) rfl)
  case ktBadCountV => exact of_decide_eq_true (allB_get (l := ex11 K) (i := 10) (c.fact 11 (b := allB (ex11 K)) rfl) rfl)
  case ktTooLargeAsksError => exact of_decide_eq_true (allB_get (l := ex11 K) (i := 11) (c.fact 11 (b := allB (ex11 K)) rfl) rfl)
  case ktTooLargeBadCount => exact of_decide_eq_true (allB_get (l := ex11 K) (i := 12) (c.fact 11 (b := allB (ex11 K)) rfl) rfl)
  case ktTooLargeV => exact of_decide_eq_true (allB_get (l := ex11 K) (i := 13) (c.fact 11 (b := allB (ex11 K)) rfl) rfl)
  case xmTooLargeBadCount => exact of_decide_eq_true (allB_get (l := ex11 K) (i := 14) (c.fact 11 (b := allB (ex11 K)) rfl) rfl)
end K08
open PySem PySem.W PySem.Calls PyProof.Rows
set_option maxRecDepth 100000 in
set_option maxHeartbeats 0 in
theorem PySem.Challenge.cw_askshanded_k08_first_standings_holds : PySem.Challenge.rw_askshanded_k08_first_standings.Holds := by
  w_on; o_law
  refine HandSHeadRun.head_any (r := OpenLaw.row PySem.Challenge.rw_askshanded_k08_first_standings) (q := view (OpenLaw.row PySem.Challenge.rw_askshanded_k08_first_standings).prog [76]) (H := K08.hk) (ob := K08.ob) (M := 15000) (loose := K08.names) (d := HandSHeadRun.topDef (OpenLaw.row PySem.Challenge.rw_askshanded_k08_first_standings).prog 76) (kwd := []) K08.ob_eq
    (by kernel_rfl) (fun s => by kernel_rfl) K08.run (by kernel_rfl) (by kernel_rfl) (by kernel_rfl) (by rfl) (by first | assumption | decide +kernel) (by decide +kernel) ⟨rfl, rfl, rfl, rfl, rfl, by decide +kernel⟩ ?hw ?hc
  case hw => w_witness2
  case hc =>
    refine L2.walk_ofE (l := PySem.Challenge.rw_askshanded_k08_first_standings) (n := 63) (k := 16) (x := "_law_script") (CX := L2.CX0) rfl (by decide) (by kernel_rfl) ⟨rfl, by decide, by decide⟩ ?F (fun _ _ _ _ z => z)
    intro w mg fa h Y G hmg0
    obtain ⟨K, KX, c⟩ := Y
    have hmg : mg ("law" : PySem.Str) = some (.ref fa) := by
      have e : (HandSHeadRun.topDef (OpenLaw.row PySem.Challenge.rw_askshanded_k08_first_standings).prog 76).name = ("law" : PySem.Str) := by kernel_rfl
      rw [← e]
      exact hmg0
    obtain ⟨fd, hb, hF⟩ := K08.facts (w := w) KX G hmg c ⟨by decide +kernel, by decide +kernel⟩
    exact ⟨K, fd, K08.sp_law K, KX, hb, fun H a ns hl _ hS => ⟨a, ns, rfl, hS, fun _ => rfl⟩, hF⟩
