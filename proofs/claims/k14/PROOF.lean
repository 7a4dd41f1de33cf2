import PyProof.Rows.All
import Wide.All
import OpenK.AllK
import Wide.FinOn
import PyProof.DictRoadsH
import PyProof.DictMoreH
import PyProof.EqKinds
import PyProof.TupleKey
import PyProof.FactsAll.NoneType
import HandS.ForMost
import HandS.Evl
import HandS.Deep
import HandS.DeepEq
import HandS.DictComp
import HandS.FStr
import HandS.SetKeys
import HandS.IsInst
import HandS.DictTup
import HandS.RaiseMore
import HandS.Defaults
import HandS.Wide
import HandS.Flow
import HandS.Style
import HandS.Conv
import KE.KxField
import PyProof.Rows.SortShellAny
import HandS.Walk
import PyProof.Conv_bool
import KE.KFromBytes
import HandS.OwnIter
import HandS.IterNext
import HandS.IterVal
import PyProof.CollectIter
import HandS.ExcOwn
import OpenK.KOps
import HandS.Star
import HandS.MakeKwOnly
import KE.KExcSuper
import KE.KSuper
import KE.RegKSuper
import HandS.ExcSuper
import HandS.ExcInit
import HandS.Nested
import KE.KExcIs
import HandS.ExcField
import HandS.TryOnly
import HandS.TryMany
import HandS.ExcIs
import HandS.ExcCtx
import HandS.HotCalls
import HandS.WordsExc
import HandS.ExcInitHot
import HandS.Zip
import HandS.FStrTup
import PyProof.FitsInt
import PySem.Challenge.RW_askshanded_k14_machines_refused
import HandS.Comp
import HandS.ExcValue
import HandS.List
import PyProof.StrOps2
set_option Elab.async false
set_option linter.all false
set_option maxRecDepth 100000
/-! keys of dicts that are nested tuples of None, ints and texts -/
namespace PySem
open Sem (wp)
open SeqAt
inductive NK where
  | non | int (i : Int) | str (x : Str) | tup (ks : List NK)
mutual
def NK.decEq : (a b : NK) → Decidable (a = b)
  | .non, .non => Decidable.isTrue rfl
  | .non, .int _ => Decidable.isFalse (fun z => nomatch z)
  | .non, .str _ => Decidable.isFalse (fun z => nomatch z)
  | .non, .tup _ => Decidable.isFalse (fun z => nomatch z)
  | .int i, .int j => if h : i = j then Decidable.isTrue (by rw [h]) else Decidable.isFalse (fun z => h (NK.int.inj z))
  | .int _, .non => Decidable.isFalse (fun z => nomatch z)
  | .int _, .str _ => Decidable.isFalse (fun z => nomatch z)
  | .int _, .tup _ => Decidable.isFalse (fun z => nomatch z)
  | .str x, .str y => if h : x = y then Decidable.isTrue (by rw [h]) else Decidable.isFalse (fun z => h (NK.str.inj z))
  | .str _, .non => Decidable.isFalse (fun z => nomatch z)
  | .str _, .int _ => Decidable.isFalse (fun z => nomatch z)
  | .str _, .tup _ => Decidable.isFalse (fun z => nomatch z)
  | .tup xs, .tup ys => match NK.decEqs xs ys with
    | Decidable.isTrue h => Decidable.isTrue (by rw [h])
    | Decidable.isFalse h => Decidable.isFalse (fun z => h (NK.tup.inj z))
  | .tup _, .non => Decidable.isFalse (fun z => nomatch z)
  | .tup _, .int _ => Decidable.isFalse (fun z => nomatch z)
  | .tup _, .str _ => Decidable.isFalse (fun z => nomatch z)
def NK.decEqs : (a b : List NK) → Decidable (a = b)
  | [], [] => Decidable.isTrue rfl
  | [], _ :: _ => Decidable.isFalse (fun z => nomatch z)
  | _ :: _, [] => Decidable.isFalse (fun z => nomatch z)
  | x :: xs, y :: ys => match NK.decEq x y, NK.decEqs xs ys with
    | Decidable.isTrue h, Decidable.isTrue h' => Decidable.isTrue (by rw [h, h'])
    | Decidable.isFalse h, _ => Decidable.isFalse (fun z => h (List.cons.inj z).1)
    | _, Decidable.isFalse h => Decidable.isFalse (fun z => h (List.cons.inj z).2)
end
instance : DecidableEq NK := NK.decEq
mutual
def NK.depth : NK → Nat
  | .tup ks => NK.depths ks + 1
  | _ => 0
def NK.depths : List NK → Nat
  | [] => 0
  | k :: ks => max (NK.depth k) (NK.depths ks)
end
mutual
def NK.hash (w : World) : NK → Int
  | .non => 4238894112
  | .int i => hashInt i
  | .str x => hashStr w x
  | .tup ks => reduceHash (Builtin.Tuple.tupleHashOf (NK.hashes w ks))
def NK.hashes (w : World) : List NK → List Int
  | [] => []
  | k :: ks => NK.hash w k :: NK.hashes w ks
end
mutual
def NK.draws : NK → Nat
  | .tup ks => NK.drawss ks + 1
  | _ => 1
def NK.drawss : List NK → Nat
  | [] => 0
  | k :: ks => NK.draws k + NK.drawss ks
end
mutual
inductive IsNK (h : Heap) : NK → Value → Prop
  | non : IsNK h .non .none
  | int (i : Int) (t : Tok) : IsNK h (.int i) (.int i t)
  | str (x : Str) (t : Tok) : IsNK h (.str x) (.str x t)
  | tup {a : Addr} {vs : Array Value} {ks : List NK} : h.IsTuple a vs → IsNKs h ks vs.toList → IsNK h (.tup ks) (.ref a)
inductive IsNKs (h : Heap) : List NK → List Value → Prop
  | nil : IsNKs h [] []
  | cons {k : NK} {v : Value} {ks : List NK} {vs : List Value} : IsNK h k v → IsNKs h ks vs → IsNKs h (k :: ks) (v :: vs)
end
theorem IsNKs.len {h : Heap} : ∀ {ks : List NK} {vs : List Value}, IsNKs h ks vs → ks.length = vs.length
  | _, _, .nil => rfl
  | _, _, .cons _ t => by rw [List.length_cons, List.length_cons, t.len]
theorem istup_same {h : Heap} {a : Addr} {xs ys : Array Value} (x : h.IsTuple a xs) (y : h.IsTuple a ys) : xs = ys := by
  obtain ⟨o, ho, _, n, hd⟩ := x
  obtain ⟨o', ho', _, n', hd'⟩ := y
  obtain rfl : o = o' := Option.some.inj (ho.symm.trans ho')
  rw [hd] at hd'
  injection hd'
mutual
theorem IsNK.inj {h : Heap} : ∀ (x y : NK) (v : Value), IsNK h x v → IsNK h y v → x = y
  | .non, _, _, .non, r => by cases r; rfl
  | .int _, _, _, .int _ _, r => by cases r; rfl
  | .str _, _, _, .str _ _, r => by cases r; rfl
  | .tup ks, y, _, .tup ha hi, r => by
    cases r with
    | tup hb hj =>
      have e := istup_same ha hb
      subst e
      rw [IsNKs.inj ks _ _ hi hj]
theorem IsNKs.inj {h : Heap} : ∀ (xs ys : List NK) (vs : List Value), IsNKs h xs vs → IsNKs h ys vs → xs = ys
  | [], _, _, .nil, r => by cases r; rfl
  | x :: xs, _, _, .cons h1 h2, r => by
    cases r with
    | cons k1 k2 => rw [IsNK.inj x _ _ h1 k1, IsNKs.inj xs _ _ h2 k2]
end
theorem istup_keeps {h h' : Heap} {a d : Addr} {vs : Array Value} {o : Obj} {es ep} (x : h.IsTuple a vs) (ho : h.get? d = some o) (hd : o.data = .dict es ep) (hs : Heap.SameBut d h h') : h'.IsTuple a vs := by
  obtain ⟨o', ho', hc, n, hd'⟩ := x
  have hne : a ≠ d := by
    rintro rfl
    obtain rfl : o' = o := Option.some.inj (ho'.symm.trans ho)
    rw [hd] at hd'; exact nomatch hd'
  exact ⟨o', (hs.2 a hne).trans ho', hc, n, hd'⟩
mutual
theorem IsNK.keeps {h h' : Heap} {d : Addr} {o : Obj} {es ep} (ho : h.get? d = some o) (hd : o.data = .dict es ep) (hs : Heap.SameBut d h h') : ∀ (k : NK) (v : Value), IsNK h k v → IsNK h' k v
  | .non, _, .non => .non
  | .int _, _, .int i t => .int i t
  | .str _, _, .str x t => .str x t
  | .tup ks, _, .tup ha hi => .tup (istup_keeps ha ho hd hs) (IsNKs.keeps ho hd hs ks _ hi)
theorem IsNKs.keeps {h h' : Heap} {d : Addr} {o : Obj} {es ep} (ho : h.get? d = some o) (hd : o.data = .dict es ep) (hs : Heap.SameBut d h h') : ∀ (ks : List NK) (vs : List Value), IsNKs h ks vs → IsNKs h' ks vs
  | [], _, .nil => .nil
  | k :: ks, _, .cons a b => .cons (IsNK.keeps ho hd hs k _ a) (IsNKs.keeps ho hd hs ks _ b)
end
section
variable {prog : Program} {w : World}
/-! equality -/
def nkPair (xs ys : List NK) (j : Nat) : Bool := decide (xs.getD j .non = ys.getD j .non)
theorem nk_all : ∀ xs ys : List NK, ((List.range (min xs.length ys.length)).all (nkPair xs ys) && xs.length == ys.length) = decide (xs = ys)
  | [], [] => by simp
  | [], y :: ys => by simp
  | x :: xs, [] => by simp
  | x :: xs, y :: ys => by
    have ih := nk_all xs ys
    have e : (List.range (min (x :: xs).length (y :: ys).length)).all (nkPair (x :: xs) (y :: ys)) = (decide (x = y) && (List.range (min xs.length ys.length)).all (nkPair xs ys)) := by
      rw [show min (x :: xs).length (y :: ys).length = min xs.length ys.length + 1 by simp only [List.length_cons]; omega, List.range_succ_eq_map, List.all_cons, List.all_map]
      rfl
    rw [e]
    have e2 : ((x :: xs).length == (y :: ys).length) = (xs.length == ys.length) := by simp
    rw [e2, Bool.and_assoc, ih]
    by_cases h : x = y <;> by_cases h2 : xs = ys <;> simp [h, h2]
theorem nk_head {u x y : Nat} {xs ys : Nat} (hu : u + min (max x xs) (max y ys) < cLine) : u + min x y < cLine := by omega
theorem nk_tail {u x y : Nat} {xs ys : Nat} (hu : u + min (max x xs) (max y ys) < cLine) : u + min xs ys < cLine := by omega
mutual
theorem nk_eqAt : ∀ (x y : NK) (A : Around) (s : Shared) (a b : Value), IsNK s.heap x a → IsNK s.heap y b → A.units + min x.depth y.depth < cLine → EqAt A s a b (decide (x = y))
  | .non, y, A, s, _, _, ra, rb, hu => by
    cases ra
    cases rb with
    | non => rw [decide_eq_true rfl]; exact EqAt.same _
    | int i t => exact EqAt.none_int i t
    | str i t => exact EqAt.none_str i t
    | tup k1 k2 => exact EqAt.none_tuple k1 (by omega)
  | .int i, y, A, s, _, _, ra, rb, hu => by
    cases ra with
    | int _ t =>
      cases rb with
      | non => exact EqAt.int_none i t
      | int j u =>
        have e : decide ((NK.int i) = NK.int j) = (i == j) := by
          by_cases h : i = j
          · subst h; simp
          · rw [decide_eq_false (fun z => h (NK.int.inj z))]; exact (beq_eq_false_iff_ne.mpr h).symm
        rw [e]
        exact EqAt.int_int i t j u
      | str j u => exact EqAt.int_str i t j u
      | tup k1 k2 => exact EqAt.int_tuple i t k1 (by omega)
  | .str i, y, A, s, _, _, ra, rb, hu => by
    cases ra with
    | str _ t =>
      cases rb with
      | non => exact EqAt.str_none i t
      | int j u => exact EqAt.str_int i t j u
      | str j u =>
        have e : decide ((NK.str i) = NK.str j) = (i == j) := by
          by_cases h : i = j
          · subst h; simp
          · rw [decide_eq_false (fun z => h (NK.str.inj z))]; exact (beq_eq_false_iff_ne.mpr h).symm
        rw [e]
        exact EqAt.str_str i t j u
      | tup k1 k2 => exact EqAt.str_tuple i t k1 (by omega)
  | .tup xs, y, A, s, _, _, ra, rb, hu => by
    cases ra with
    | @tup l vs _ h1 h2 =>
      have hd : NK.depth (.tup xs) = NK.depths xs + 1 := by rw [NK.depth]
      cases rb with
      | non => exact EqAt.tuple_none h1 (by omega)
      | int j u => exact EqAt.tuple_int j u h1 (by omega)
      | str j u => exact EqAt.tuple_str j u h1 (by omega)
      | @tup l' vs' ys k1 k2 =>
        have hd' : NK.depth (.tup ys) = NK.depths ys + 1 := by rw [NK.depth]
        have n1 : vs.size = xs.length := by have := h2.len; simpa using this.symm
        have n2 : vs'.size = ys.length := by have := k2.len; simpa using this.symm
        by_cases hll : l = l'
        · subst hll
          have e : NK.tup xs = NK.tup ys := IsNK.inj _ _ _ (.tup h1 h2) (.tup k1 k2)
          rw [e, decide_eq_true rfl]
          exact EqAt.same _
        · have e : decide (NK.tup xs = NK.tup ys) = decide (xs = ys) := by
            by_cases h : xs = ys
            · subst h; simp
            · rw [decide_eq_false h, decide_eq_false (fun z => h (NK.tup.inj z))]
          rw [e, ← nk_all xs ys, ← n1, ← n2]
          refine EqAt.of_refs hll (RcAt.tuples h1 k1 (by omega) fun j j1 j2 => ?_)
          have := nk_eqAts xs ys A.in1 s vs.toList vs'.toList h2 k2 (by show A.units + 1 + _ < _; omega) j (by simpa using j1) (by simpa using j2)
          simpa using this
theorem nk_eqAts : ∀ (xs ys : List NK) (A : Around) (s : Shared) (vs ws : List Value), IsNKs s.heap xs vs → IsNKs s.heap ys ws → A.units + min (NK.depths xs) (NK.depths ys) < cLine →
    ∀ j (h1 : j < vs.length) (h2 : j < ws.length), EqAt A s vs[j] ws[j] (nkPair xs ys j)
  | [], _, _, _, _, _, ra, _, _, j, h1, _ => by cases ra; exact absurd h1 (Nat.not_lt_zero _)
  | _ :: _, [], _, _, _, _, _, rb, _, j, _, h2 => by cases rb; exact absurd h2 (Nat.not_lt_zero _)
  | x :: xs, y :: ys, A, s, _, _, ra, rb, hu, j, h1, h2 => by
    have d1 : NK.depths (x :: xs) = max x.depth (NK.depths xs) := by rw [NK.depths]
    have d2 : NK.depths (y :: ys) = max y.depth (NK.depths ys) := by rw [NK.depths]
    rw [d1, d2] at hu
    cases ra with
    | cons r rs =>
      cases rb with
      | cons r' rs' =>
        cases j with
        | zero => exact nk_eqAt x y A s _ _ r r' (nk_head hu)
        | succ j => exact nk_eqAts xs ys A s _ _ rs rs' (nk_tail hu) j (Nat.lt_of_succ_lt_succ h1) (Nat.lt_of_succ_lt_succ h2)
end

/-! the hash -/
theorem nk_depth_mem {k : NK} : ∀ {ks : List NK}, k ∈ ks → k.depth ≤ NK.depths ks
  | x :: xs, h => by
    rw [NK.depths]
    rcases List.mem_cons.mp h with rfl | h
    · omega
    · have := nk_depth_mem h
      omega
theorem nk_hashes_snoc (k : NK) : ∀ ks : List NK, NK.hashes w (ks ++ [k]) = NK.hashes w ks ++ [NK.hash w k]
  | [] => by simp [NK.hashes]
  | x :: xs => by rw [List.cons_append, NK.hashes, NK.hashes, nk_hashes_snoc k xs, List.cons_append]
theorem nk_drawss_snoc (k : NK) : ∀ ks : List NK, NK.drawss (ks ++ [k]) = NK.drawss ks + NK.draws k
  | [] => by simp [NK.drawss]
  | x :: xs => by rw [List.cons_append, NK.drawss, NK.drawss, nk_drawss_snoc k xs, Nat.add_assoc]
theorem nk_hash : ∀ (k : NK) (A : Around) (E : Value → Shared → Prop) (s : Shared) (v : Value) (Q : Int → Shared → Prop), IsNK s.heap k v → A.units + k.depth < cLine + 1 → Q (k.hash w) { s with toks := s.toks + k.draws } → wpAny (model prog w) A (pyHash v) Q E s
  | .non, A, E, s, _, Q, r, hu, h => by
    cases r
    have hT : s.TypeIs .none "NoneType" := rfl
    unfold pyHash
    have hv : [Value.none].any Value.onHeap = false := rfl
    refine wpAny_bind ?_
    rw [cRoomFor, if_neg (by rw [hv]; exact Bool.false_ne_true)]; refine wpAny_pure ?_
    refine wpAny_bind (wpAny_specialOf hT F.slot_NoneType_hash.lookup ?_)
    show wpAny _ _ (if (some (Value.builtin "NoneType.__hash__") == some Value.none) = true then _ else _) Q E s
    rw [if_neg (by rw [beq_builtin_none]; exact Bool.false_ne_true)]
    refine wpAny_bind (wpAny_specialOf hT F.slot_NoneType_hash.lookup ?_)
    show wpAny _ _ (callSpecialIfBoundUnlessNone? .none "__hash__" _ >>= _) Q E s
    refine wpAny_bind (wpAny_callSpecialIfBoundUnlessNone?_slot hT F.slot_NoneType_hash (wpAny_call_entry F.slot_NoneType_hash hT F.entry_NoneType_hash
      (show wpAny _ _ (do ret (← mkInt 4238894112)) _ _ s from wpAny_ret_mkInt ?_) (F.args_NoneType_hash_1 _)))
    show wpAny _ _ (if (decide (-(2 : Int) ^ 63 ≤ 4238894112) && decide ((4238894112 : Int) < 2 ^ 63)) = true then _ else _) Q E _
    rw [if_pos (by decide)]
    exact wpAny_pure (by simpa [NK.draws, NK.hash] using h)
  | .int i, A, E, s, _, Q, r, hu, h => by
    cases r
    exact wpAny_pyHash_int h
  | .str x, A, E, s, _, Q, r, hu, h => by
    cases r
    exact wpAny_pyHash_str h
  | .tup ks, A, E, s, _, Q, r, hu, h => by
    cases r with
    | @tup a vs _ hk hi =>
      have hT : s.TypeIs (.ref a) "tuple" := let ⟨o, ho, hc, _⟩ := hk; ⟨o, ho, hc⟩
      obtain ⟨o, ho, _, n, hd⟩ := hk
      unfold pyHash
      first | unfold pyHashByItsType | skip
      have hd1 : NK.depth (.tup ks) = NK.depths ks + 1 := by rw [NK.depth]
      refine wpAny_bind (wpAny_cRoomFor_or (.inr (by omega)) ?_)
      refine wpAny_bind (wpAny_specialOf hT F.slot_tuple_hash.lookup ?_)
      show wpAny _ _ (if (some (Value.builtin "tuple.__hash__") == some Value.none) = true then _ else _) Q E s
      rw [if_neg (by rw [beq_builtin_none]; exact Bool.false_ne_true)]
      refine wpAny_bind (wpAny_specialOf hT F.slot_tuple_hash.lookup ?_)
      show wpAny _ _ (callSpecialIfBoundUnlessNone? (.ref a) "__hash__" _ >>= _) Q E s
      refine wpAny_bind (wpAny_callSpecialIfBoundUnlessNone?_slot hT F.slot_tuple_hash (wpAny_call_entry F.slot_tuple_hash hT F.entry_tuple_hash ?_ (F.args_tuple_hash_1 _)))
      show wpAny _ _ (Builtin.Tuple.tupleItemsOf (.ref a) >>= _) _ _ s
      refine wpAny_bind (wpAny_tupleItemsOf ho hd ?_)
      refine wpAny_bind ?_
      rw [← Array.forIn_toList]
      refine wpAny_forIn_list _
        (fun rest (b : Array Int) s' => ∃ done left, ks = done ++ left ∧ IsNKs s.heap left rest ∧ b.toList = NK.hashes w done ∧ s' = { s with toks := s.toks + NK.drawss done })
        _ ?_ ?_ _ _ ⟨[], ks, rfl, hi, rfl, rfl⟩
      · rintro x rest b s' ⟨done, left, hks, hl, hb, rfl⟩
        cases hl with
        | @cons k _ ks' _ h1 hl' =>
          have hm : k ∈ ks := by rw [hks]; simp
          have hdk : k.depth ≤ NK.depths ks := nk_depth_mem hm
          refine wpAny_bind (nk_hash k A.in1 _ _ x _ h1 (by show A.units + 1 + _ < _; omega) ?_)
          first
            | exact wpAny_pure ⟨done ++ [k], ks', by rw [hks]; simp, hl', by simp [hb, nk_hashes_snoc], by simp [nk_drawss_snoc, Nat.add_assoc]⟩
            | exact wpAny_bind (wpAny_pure (wpAny_pure ⟨done ++ [k], ks', by rw [hks]; simp, hl', by simp [hb, nk_hashes_snoc], by simp [nk_drawss_snoc, Nat.add_assoc]⟩))
      · rintro b s' ⟨done, left, hks, hl, hb, rfl⟩
        cases hl
        rw [List.append_nil] at hks
        subst hks
        show wpAny _ _ (retInt (Builtin.Tuple.tupleHashOf b.toList)) _ _ _
        rw [hb]
        refine wpAny_ret_mkInt ?_
        show wpAny _ _ (if (decide (-(2 : Int) ^ 63 ≤ Builtin.Tuple.tupleHashOf (NK.hashes w ks)) && decide (Builtin.Tuple.tupleHashOf (NK.hashes w ks) < 2 ^ 63)) = true then _ else _) Q E _
        rw [NK.hash, NK.draws] at h
        unfold reduceHash at h
        by_cases hr : (decide (-(2 : Int) ^ 63 ≤ Builtin.Tuple.tupleHashOf (NK.hashes w ks)) && decide (Builtin.Tuple.tupleHashOf (NK.hashes w ks) < 2 ^ 63)) = true
        · rw [if_pos hr]
          rw [if_pos hr] at h
          exact wpAny_pure (by simpa [Nat.add_assoc] using h)
        · rw [if_neg hr]
          rw [if_neg hr] at h
          exact wpAny_bind (wpAny_rule (wpAny_pure (by simpa [Nat.add_assoc] using h)))
  termination_by k => sizeOf k
  decreasing_by
    have := List.sizeOf_lt_of_mem hm
    simp only [NK.tup.sizeOf_spec]
    omega
/-! no own == within -/
theorem nk_quiet : ∀ (n : Nat) (k : NK) (v : Value) {A : Around} {E : Value → Shared → Prop} {s : Shared} {Q : Bool → Shared → Prop}, IsNK s.heap k v → k.depth ≤ n → Q true s → wpAny (model prog w) A (eqIsQuiet n v) Q E s
  | n, .non, _, A, E, s, Q, .non, _, h => by rw [eqIsQuiet_byValue _ rfl]; exact wpAny_pure h
  | n, .int _, _, A, E, s, Q, .int _ _, _, h => by rw [eqIsQuiet_byValue _ rfl]; exact wpAny_pure h
  | n, .str _, _, A, E, s, Q, .str _ _, _, h => by rw [eqIsQuiet_byValue _ rfl]; exact wpAny_pure h
  | 0, .tup ks, _, A, E, s, Q, _, hd, h => by rw [NK.depth] at hd; omega
  | n + 1, .tup ks, _, A, E, s, Q, .tup hk hi, hd, h => by
    rw [NK.depth] at hd
    obtain ⟨o, ho, hc, m, hda⟩ := hk
    have hT : s.TypeIs (.ref _) "tuple" := ⟨o, ho, hc⟩
    unfold eqIsQuiet
    refine wpAny_bind (wpAny_specialOf hT F.slot_tuple_eq.lookup ?_)
    show wpAny _ _ (isInstance (.ref _) (.type "tuple") >>= _) _ _ s
    refine wpAny_bind (wpAny_isInstance hT isSubtype_tuple_tuple ?_)
    simp only [Bool.not_true, Bool.false_eq_true, if_false]
    refine wpAny_bind (wpAny_seqItems ho hda ?_)
    refine wpAny_bind ?_
    show wpAny _ _ (forIn _ _ _) _ _ s
    rw [← Array.forIn_toList]
    refine wpAny_forIn_list _ (fun rest r s' => r.1 = none ∧ s' = s ∧ ∃ left, IsNKs s.heap left rest ∧ NK.depths left ≤ n) _ ?_ ?_ _ _ ⟨rfl, rfl, ks, hi, by omega⟩
    · rintro v rest r s' ⟨hr, rfl, left, hl, hdl⟩
      cases hl with
      | @cons k _ ks' _ h1 hl' =>
        rw [NK.depths] at hdl
        refine wpAny_bind (nk_quiet n k v h1 (by omega) ?_)
        simp only [Bool.not_true, Bool.false_eq_true, if_false]
        exact wpAny_pure ⟨rfl, rfl, ks', hl', by omega⟩
    · rintro ⟨r1, r2⟩ s' ⟨hr, rfl, _⟩
      simp only at hr
      subst hr
      exact wpAny_pure h
/-- the kind of such keys -/
def nkKind (prog : Program) (w : World) : HeapKind prog w NK where
  is := fun h k a => k.depth ≤ 8 ∧ IsNK h k (.ref a)
  hash := NK.hash w
  draws := NK.draws
  room := fun A => A.units + 8 < cLine
  inj := fun hx hy => IsNK.inj _ _ _ hx.2 hy.2
  keeps := fun x ho hd hs => ⟨x.1, IsNK.keeps ho hd hs _ _ x.2⟩
  pyHash := fun hu hk h => nk_hash _ _ _ _ _ _ hk.2 (by have := hk.1; omega) h
  eqBool := fun hu hx hy h => nk_eqAt _ _ _ _ _ _ hx.2 hy.2 (by have := hx.1; omega) _ _ _ _ h
  quiet := fun hk h => nk_quiet 8 _ _ hk.2 hk.1 h
end
end PySem

set_option Elab.async false
set_option linter.all false
set_option maxRecDepth 100000
/-! dicts with nested tuples as keys, in the layer -/
namespace AE
open PySem PySem.Spec PyProof.Rows L2 Evl
mutual
/-- the value v is the key k, by tracked tuples -/
inductive NAt (H : Hp) : V → NK → Prop
  | non : NAt H .non .non
  | int (i : Int) : NAt H (.int i) (.int i)
  | str (x : Str) : NAt H (.str x) (.str x)
  | tup {a : Addr} {xs : List V} {ks : List NK} : H a = some (.tup xs) → NAts H xs ks → NAt H (.ref a) (.tup ks)
inductive NAts (H : Hp) : List V → List NK → Prop
  | nil : NAts H [] []
  | cons {v : V} {k : NK} {vs : List V} {ks : List NK} : NAt H v k → NAts H vs ks → NAts H (v :: vs) (k :: ks)
end
def TxN (H H' : Hp) : Prop := ∀ a xs, H a = some (.tup xs) → H' a = some (.tup xs)
mutual
theorem NAt.tx {H H' : Hp} (e : TxN H H') : ∀ {v : V} {k : NK}, NAt H v k → NAt H' v k
  | _, _, .non => .non
  | _, _, .int i => .int i
  | _, _, .str x => .str x
  | _, _, .tup h t => .tup (e _ _ h) (NAts.tx e t)
theorem NAts.tx {H H' : Hp} (e : TxN H H') : ∀ {vs : List V} {ks : List NK}, NAts H vs ks → NAts H' vs ks
  | _, _, .nil => .nil
  | _, _, .cons h t => .cons (NAt.tx e h) (NAts.tx e t)
end
/-- one dict: its entries in order: key, where the key stands, value -/
abbrev NE := NK × Addr × V
def valN (kvs : List NE) (k : NK) : Option V := (kvs.find? fun x => decide (x.1 = k)).map (·.2.2)
def putN (kvs : List NE) (k : NK) (a : Addr) (v : V) : List NE :=
  if (valN kvs k).isSome then kvs.map (fun x => if x.1 = k then (x.1, x.2.1, v) else x) else kvs ++ [(k, a, v)]
def dropN (kvs : List NE) (k : NK) : List NE := kvs.filter fun x => !decide (x.1 = k)
abbrev NR : List NE → List (NK × Addr × Value) → Prop := Paired fun p q => p.1 = q.1 ∧ p.2.1 = q.2.1 ∧ RelV p.2.2 q.2.2
def entryN (w : World) (x : NK × Addr × Value) : DictEntry := ⟨NK.hash w x.1, .ref x.2.1, x.2.2⟩
def DN (w : World) (a : Addr) (kvs : List NE) (h : Heap) : Prop :=
  kvs.length ≤ sizeLine ∧ (a == sysModules) = false ∧ ∃ xs : List (NK × Addr × Value), NR kvs xs ∧
    ∃ o es ep, h.get? a = some o ∧ o.ExactDict ∧ o.data = .dict es ep ∧ es.toList = xs.map (entryN w) ∧ (xs.map (·.1)).Nodup
def dN (w : World) (a : Addr) (kvs : List NE) : HO := .ext (DN w a kvs)
/-- the keys stand as they are said to -/
def KeyOk (H : Hp) (e : NE) : Prop := e.1.depth ≤ 8 ∧ NAt H (.ref e.2.1) e.1
def KeysOk (H : Hp) (kvs : List NE) : Prop := ∀ e ∈ kvs, KeyOk H e
theorem KeysOk.tx {H H' : Hp} {kvs : List NE} (e : TxN H H') (h : KeysOk H kvs) : KeysOk H' kvs := fun x hx => ⟨(h x hx).1, (h x hx).2.tx e⟩
theorem NR.val {kvs : List NE} {xs : List (NK × Addr × Value)} (r : NR kvs xs) (k : NK) : RelO (valN kvs k) ((atKey xs k).map (·.2)) := by
  unfold valN atKey
  induction r with
  | nil => exact True.intro
  | @cons p q ps qs h t ih =>
    rw [List.find?_cons, List.find?_cons, ← h.1]
    by_cases e : p.1 = k
    · rw [decide_eq_true e]
      exact h.2.2
    · rw [decide_eq_false e]
      exact ih
theorem NR.keys {kvs : List NE} {xs : List (NK × Addr × Value)} (r : NR kvs xs) : kvs.map (·.1) = xs.map (·.1) := by
  induction r with
  | nil => rfl
  | cons h t ih => rw [List.map_cons, List.map_cons, h.1, ih]
theorem NR.repl {v : V} {u : Value} (ry : RelV v u) (k : NK) : ∀ {kvs : List NE} {xs : List (NK × Addr × Value)}, NR kvs xs → NR (kvs.map fun x => if x.1 = k then (x.1, x.2.1, v) else x) (xs.map (putAt k u))
  | _, _, .nil => .nil
  | _, _, .cons (a := p) (b := q) h t => by
    rw [List.map_cons, List.map_cons]
    refine .cons ?_ (NR.repl ry k t)
    unfold putAt
    rw [← h.1]
    by_cases e : p.1 = k
    · rw [if_pos e, if_pos e]; exact ⟨rfl, h.2.1, ry⟩
    · rw [if_neg e, if_neg e]; exact h
theorem NR.put {kvs : List NE} {xs : List (NK × Addr × Value)} (r : NR kvs xs) (k : NK) (a : Addr) {v : V} {u : Value} (ry : RelV v u) : NR (putN kvs k a v) (storedH xs k a u) := by
  have e : (valN kvs k).isSome = (atKey xs k).isSome := by
    rw [(r.val k).isSome_eq, Option.isSome_map]
  unfold putN storedH
  rw [e]
  by_cases q : (atKey xs k).isSome = true
  · rw [if_pos q, if_pos q]; exact r.repl ry k
  · rw [if_neg q, if_neg q]; exact Paired.snoc r ⟨rfl, rfl, ry⟩
theorem length_putN (kvs : List NE) (k : NK) (a : Addr) (v : V) : (putN kvs k a v).length ≤ kvs.length + 1 := by
  unfold putN
  split
  · rw [List.length_map]; omega
  · rw [List.length_append]; exact Nat.le_refl _
section
variable {P : Program} {w : World} {H : Hp} {h : Heap} {a : Addr}
mutual
theorem nat_is (ok : HOk P w H h) : ∀ {v : V} {k : NK} {u : Value}, NAt H v k → RelV v u → IsNK h k u
  | _, _, _, .non, r => by cases r; exact .non
  | _, _, _, .int i, r => by obtain ⟨t, rfl⟩ := r; exact .int i t
  | _, _, _, .str x, r => by obtain ⟨t, rfl⟩ := r; exact .str x t
  | _, _, _, .tup (a := a) (xs := xs) (ks := ks) ha t, r => by
    cases r
    obtain ⟨_, its, rv, hT⟩ := (show ObjOk P w H h a (.tup xs) from ok a _ ha)
    exact .tup hT (by simpa using nats_is ok t rv)
theorem nats_is (ok : HOk P w H h) : ∀ {vs : List V} {ks : List NK} {us : List Value}, NAts H vs ks → Vals vs us → IsNKs h ks us
  | _, _, _, .nil, .nil => .nil
  | _, _, _, .cons hv ht, .cons r rs => .cons (nat_is ok hv r) (nats_is ok ht rs)
end
theorem key_is (ok : HOk P w H h) {e : NE} (k : KeyOk H e) : (nkKind P w).is h e.1 e.2.1 := ⟨k.1, nat_is ok k.2 rfl⟩
theorem dn_stable (w : World) (a : Addr) (kvs : List NE) : ∀ h1 h2 : Heap, DN w a kvs h1 → (∀ o, h1.get? a = some o → h2.get? a = some o) → DN w a kvs h2 := by
  rintro h1 h2 ⟨z, y, xs, r, o, es, ep, ho, rest⟩ st
  exact ⟨z, y, xs, r, o, es, ep, st _ ho, rest⟩
theorem dn_ok {kvs : List NE} (d : DN w a kvs h) : ObjOk P w H h a (dN w a kvs) := by
  refine ⟨d, ?_, dn_stable w a kvs⟩
  obtain ⟨_, _, _, _, o, _, _, ho, _⟩ := d
  exact ⟨o, ho⟩
theorem dn_rd {kvs : List NE} (ok : HOk P w H h) (e : Rd H a (dN w a kvs)) (hk : KeysOk H kvs) : kvs.length ≤ sizeLine ∧ (a == sysModules) = false ∧
    ∃ xs, NR kvs xs ∧ h.DictOfH (nkKind P w) a xs := by
  have q := e.ok ok
  obtain ⟨⟨z, y, xs, r, o, es, ep, ho, hx, hd, he, hn⟩, _⟩ := q
  refine ⟨z, y, xs, r, o, es, ep, ho, hx, hd, he, fun x hx => ?_, hn⟩
  have all : ∀ {l : List NE} {m : List (NK × Addr × Value)}, KeysOk H l → NR l m → ∀ x ∈ m, (nkKind P w).is h x.1 x.2.1 := by
    intro l m hk q
    induction q with
    | nil => intro x hx; exact nomatch hx
    | @cons p q ps qs hq t ih =>
      intro x hx
      rcases List.mem_cons.mp hx with e | hx
      · subst e
        have := key_is ok (hk p (List.mem_cons_self ..))
        rw [hq.1, hq.2.1] at this
        exact this
      · exact ih (fun e he => hk e (List.mem_cons_of_mem _ he)) x hx
  exact all hk r x hx
end
/-- a read of the dict at a by the key y -/
def NGet (w : World) (H : Hp) (a : Addr) (y : V) (o : Option V) : Prop := ∃ kvs k b, Rd H a (dN w a kvs) ∧ KeysOk H kvs ∧ y = .ref b ∧ k.depth ≤ 8 ∧ NAt H (.ref b) k ∧ o = valN kvs k
def NPut (w : World) (H : Hp) (a : Addr) (y v : V) (H' : Hp) : Prop := ∃ kvs k b, H a = some (dN w a kvs) ∧ KeysOk H kvs ∧ y = .ref b ∧ k.depth ≤ 8 ∧ NAt H (.ref b) k ∧ kvs.length < sizeLine ∧ H' = upd H a (dN w a (putN kvs k b v))
theorem nk_room {P : Program} {w : World} {A : Around} (hu : A.units + 64 < cLine) : (nkKind P w).room A.in1 := by
  show A.units + 1 + 8 < cLine
  omega
section
variable {X : Cx} {pins : List (Addr × Obj)} {σ : L2.St} {H : Hp} {s : Shared} {a : Addr} {y v d : V} {u r : Value} {o : Option V} {A : Around} {E : Value → Shared → Prop}
theorem n_getItem {Q : Value → Shared → Prop} (hu : A.units + 64 < cLine) (I : Inv X pins σ H s) (g : NGet X.w H a y (some v)) (ry : RelV y u) (h : ∀ w' s', Inv X pins σ H s' → RelV v w' → Q w' s') :
    wpAny (model X.prog X.w) A (getItem (.ref a) u) Q E s := by
  obtain ⟨kvs, k, b, e, hk, ey, dk, eb, l⟩ := g
  subst ey
  cases (show u = Value.ref b from ry)
  obtain ⟨z, hd, xs, rel, dd⟩ := dn_rd I.hok e hk
  obtain ⟨w', hw, rw'⟩ := RelO.some_of (v := v) (o := (atKey xs k).map (·.2)) (by rw [l]; exact rel.val k)
  obtain ⟨p, hp, hp2⟩ := Option.map_eq_some_iff.mp hw
  refine wpAny_getItem_heap (nk_room hu) ⟨dk, nat_is I.hok eb rfl⟩ dd hp ?_
  rw [hp2]
  exact h w' _ (I.tok _) rw'
theorem n_in {Q : Value → Shared → Prop} (hu : A.units + 64 < cLine) (I : Inv X pins σ H s) (g : NGet X.w H a y o) (ry : RelV y u) (h : ∀ s', Inv X pins σ H s' → Q (.bool o.isSome) s') :
    wpAny (model X.prog X.w) A (compareOp .In u (.ref a)) Q E s := by
  obtain ⟨kvs, k, b, e, hk, ey, dk, eb, l⟩ := g
  subst ey
  cases (show u = Value.ref b from ry)
  obtain ⟨z, hd, xs, rel, dd⟩ := dn_rd I.hok e hk
  refine wpAny_in_heap (nk_room hu) ⟨dk, nat_is I.hok eb rfl⟩ hd dd ?_
  have q := (rel.val k).isSome_eq
  rw [Option.isSome_map] at q
  rw [← q, ← l]
  exact h _ (I.tok _)
theorem n_notIn {Q : Value → Shared → Prop} (hu : A.units + 64 < cLine) (I : Inv X pins σ H s) (g : NGet X.w H a y o) (ry : RelV y u) (h : ∀ s', Inv X pins σ H s' → Q (.bool (!o.isSome)) s') :
    wpAny (model X.prog X.w) A (compareOp .NotIn u (.ref a)) Q E s := by
  obtain ⟨kvs, k, b, e, hk, ey, dk, eb, l⟩ := g
  subst ey
  cases (show u = Value.ref b from ry)
  obtain ⟨z, hd, xs, rel, dd⟩ := dn_rd I.hok e hk
  refine wpAny_notIn_heap (nk_room hu) ⟨dk, nat_is I.hok eb rfl⟩ hd dd ?_
  have q := (rel.val k).isSome_eq
  rw [Option.isSome_map] at q
  rw [← q, ← l]
  exact h _ (I.tok _)
theorem dn_after {X : Cx} {h' : Heap} {kvs : List NE} {xs : List (NK × Addr × Value)} {H' : Hp} (z : kvs.length ≤ sizeLine) (hd : (a == sysModules) = false) (r : NR kvs xs) (dd : h'.DictOfH (nkKind X.prog X.w) a xs) : ObjOk X.prog X.w H' h' a (dN X.w a kvs) := by
  obtain ⟨q, es, ep, hq, h2, h3, h4, _, h5⟩ := dd
  exact dn_ok ⟨z, hd, xs, r, q, es, ep, hq, h2, h3, h4, h5⟩
theorem n_setItem {H' : Hp} {Q : Unit → Shared → Prop} (hu : A.units + 64 < cLine) (I : Inv X pins σ H s) (g : NPut X.w H a y v H') (ry : RelV y u) (rv : RelV v r) (h : ∀ s', Inv X pins σ H' s' → Q () s') :
    wpAny (model X.prog X.w) A (setItem (.ref a) u r) Q E s := by
  obtain ⟨kvs, k, b, e, hk, ey, dk, eb, l, eH⟩ := g
  subst ey eH
  cases (show u = Value.ref b from ry)
  obtain ⟨z, hd, xs, rel, dd⟩ := dn_rd I.hok (.inl e) hk
  have hz : xs.length ≤ sizeLine := by rw [← Paired.length rel]; exact z
  have hl : (putN kvs k b v).length ≤ sizeLine := by have := length_putN kvs k b v; omega
  refine wpAny_setItem_heap (hsz := hz) (nk_room hu) ⟨dk, nat_is I.hok eb rfl⟩ dd fun h' dd' hs => h _ ?_
  have he : ∃ q, h'.get? a = some q := let ⟨q, _, _, hq, _⟩ := dd'; ⟨q, hq⟩
  exact d_write I (by rw [e]; exact True.intro) hs he (dn_after hl hd (rel.put k b rv) dd')
theorem n_get2 {Q : Value → Shared → Prop} (hu : A.units + 64 < cLine) (I : Inv X pins σ H s) (g : NGet X.w H a y o) (ry : RelV y u) (rd : RelV d r) (h : ∀ w' s', Inv X pins σ H s' → RelV (o.getD d) w' → Q w' s') :
    wpAny (model X.prog X.w) A (call (.builtin "dict.get") [.ref a, u, r]) Q E s := by
  obtain ⟨kvs, k, b, e, hk, ey, dk, eb, l⟩ := g
  subst ey
  cases (show u = Value.ref b from ry)
  obtain ⟨z, hd, xs, rel, dd⟩ := dn_rd I.hok e hk
  refine call_meetsIn PySem.F.slot_dict_get dd.typeIs PySem.F.entry_dict_get (PySem.F.args_dict_get_3 _ _ _) (meetsH_dict_get_default (nkKind X.prog X.w) a b hd r) ⟨nk_room hu, k, xs, ⟨dk, nat_is I.hok eb rfl⟩, dd, h _ _ (I.tok _) ?_⟩
  rw [l]
  exact (rel.val k).getD rd
theorem n_setd {kvs : List NE} {k : NK} {b : Addr} {Q : Value → Shared → Prop} (hu : A.units + 64 < cLine) (I : Inv X pins σ H s) (hD : H a = some (dN X.w a kvs)) (hk : KeysOk H kvs) (dk : k.depth ≤ 8) (eb : NAt H (.ref b) k) (hl : kvs.length < sizeLine)
    (rv : RelV v r) (h1 : ∀ x, valN kvs k = some x → ∀ w1 s1, Inv X pins σ H s1 → RelV x w1 → Q w1 s1) (h2 : valN kvs k = none → ∀ s1, Inv X pins σ (upd H a (dN X.w a (putN kvs k b v))) s1 → Q r s1) :
    wpAny (model X.prog X.w) A (call (.builtin "dict.setdefault") [.ref a, .ref b, r]) Q E s := by
  obtain ⟨_, hd, xs, rel, dd⟩ := dn_rd I.hok (.inl hD) hk
  have hx : xs.length ≤ sizeLine := by
    have e := Paired.length rel
    omega
  have hz : (putN kvs k b v).length ≤ sizeLine := Nat.le_trans (length_putN kvs k b v) (by omega)
  refine call_setdefault_heap (knd := nkKind X.prog X.w) (hsz := hx) (nk_room hu) ⟨dk, nat_is I.hok eb rfl⟩ hd dd (fun p hp => ?_) fun hn h' dd1 hs => ?_
  · have q := rel.val k
    rw [hp] at q
    cases q0 : valN kvs k with
    | none => rw [q0] at q; exact q.elim
    | some x => rw [q0] at q; exact h1 x q0 _ _ (I.tok _) q
  · have q := rel.val k
    rw [hn] at q
    cases q0 : valN kvs k with
    | some x => rw [q0] at q; exact q.elim
    | none =>
      refine h2 q0 _ ?_
      have he : ∃ q, h'.get? a = some q := let ⟨q, _, _, hq, _⟩ := dd1; ⟨q, hq⟩
      exact d_write I (by rw [hD]; trivial) hs he (dn_after hz hd (rel.put k b rv) dd1)
end
/-- a is a dict of this kind -/
def IsN (w : World) (H : Hp) (a : Addr) : Prop := ∃ kvs, Rd H a (dN w a kvs)
theorem isN_at {X : Cx} {pins : List (Addr × Obj)} {σ : L2.St} {H : Hp} {s : Shared} {a : Addr} (I : Inv X pins σ H s) (d : IsN X.w H a) :
    s.TypeIs (.ref a) "dict" ∧ (∀ b, Value.ref a = .ref b → ∃ ob, s.heap.get? b = some ob ∧ ob.dict = none) ∧ (a == sysModules) = false := by
  obtain ⟨kvs, e⟩ := d
  obtain ⟨⟨z, hd, xs, r, o, es, ep, ho, hx, _⟩, _⟩ := e.ok I.hok
  refine ⟨⟨o, ho, hx.1⟩, fun b q => ?_, hd⟩
  cases q
  exact ⟨o, ho, hx.2.1⟩
def tNNew (w : World) : TE := fun _ H Q => ∀ p, H p = none → Q (.ref p) (upd H p (dN w p []))
def tNGet (w : World) (td ty : TE) : TE := fun σ H Q => td σ H fun x H1 => ty σ H1 fun y H2 => ∃ a v, x = .ref a ∧ NGet w H2 a y (some v) ∧ Q v H2
def tNIn (w : World) (ty td : TE) : TE := fun σ H Q => ty σ H fun y H1 => td σ H1 fun x H2 => ∃ a o, x = .ref a ∧ NGet w H2 a y o ∧ Q (.bl o.isSome) H2
def tNNotIn (w : World) (ty td : TE) : TE := fun σ H Q => ty σ H fun y H1 => td σ H1 fun x H2 => ∃ a o, x = .ref a ∧ NGet w H2 a y o ∧ Q (.bl (!o.isSome)) H2
def sNPut (w : World) (td ty tv : TE) : TS := fun D σ H => tv σ H fun v H1 => td σ H1 fun x H2 => ty σ H2 fun y H3 => ∃ a H4, x = .ref a ∧ NPut w H3 a y v H4 ∧ D.nx σ H4
def tNGet2 (w : World) (td ty tx : TE) : TE := fun σ H Q => td σ H fun x H1 => ∃ a, x = .ref a ∧ IsN w H1 a ∧ ty σ H1 fun y H2 => tx σ H2 fun z H3 => ∃ o, NGet w H3 a y o ∧ Q (o.getD z) H3
def tSetdN (w : World) (td ty tx : TE) : TE := fun σ H Q => td σ H fun x Ha => ∃ a, x = .ref a ∧ IsN w Ha a ∧ ty σ Ha fun y Hb => tx σ Hb fun z Hc => ∃ (kvs : List NE) (k : NK) (b : Addr), Hc a = some (dN w a kvs) ∧ KeysOk Hc kvs ∧ y = .ref b ∧ k.depth ≤ 8 ∧ NAt Hc (.ref b) k ∧ kvs.length < sizeLine ∧
  (∀ v, valN kvs k = some v → Q v Hc) ∧ (valN kvs k = none → Q z (upd Hc a (dN w a (putN kvs k b z))))
section
variable {X : Cx} {o i e f value : Expr} {pos pos' tpos apos cpos : Pos} {td ty tv tx : TE}
theorem pe_nnew : PE X (.Dict [] [] pos) (tNNew X.w) := ⟨fun pins s σ H Q I h =>
  wpAny_Dict_empty ⟨.ref s.heap.objs.size, _, I.laid (a := s.heap.objs.size) (o := dN X.w s.heap.objs.size []) (t' := s.toks) (fun _ _ q => Heap.get?_push_of_some _ q) (Nat.le_refl _)
    (dn_ok ⟨Nat.zero_le _, beq_eq_false_iff_ne.mpr (Ne.symm (Nat.ne_of_lt I.big)), [], .nil, _, #[], 0, Heap.get?_push_size _ rfl, ⟨rfl, rfl, rfl⟩, rfl, rfl, List.nodup_nil⟩), rfl, h _ (I.hok.fresh (Nat.le_refl _))⟩⟩
theorem pe_nget (hu : X.A.units + 64 < cLine) (ho : PE X o td) (hi : PE X i ty) (hs : NoSl i) : PE X (.Subscript o i pos) (tNGet X.w td ty) := by
  refine ⟨fun pins s σ H Q I h => ?_⟩
  refine subD_of PySem.F.slot_dict_getitem.lookup hs (thn (ho.run pins s σ H _ I h) fun u s1 ⟨x, H1, I1, rx, q1⟩ => thn (hi.run pins s1 σ H1 _ I1 q1) fun iv s2 ⟨y, H2, I2, ry, a, v, ex, g, q2⟩ => ?_)
  subst ex
  obtain rfl : u = Value.ref a := rx
  have dd := isN_at I2 (let ⟨kvs, _, _, e, _⟩ := g; ⟨kvs, e⟩)
  exact ⟨dd.1, n_getItem hu I2 g ry fun w' s3 I3 rw' => ⟨v, H2, I3, rw', q2⟩⟩
theorem pc_nin (hu : X.A.units + 64 < cLine) (hi : PE X i ty) (ho : PE X o td) : PC X .In i o (tNIn X.w ty td) := by
  refine ⟨fun pins s σ H Q I h => ?_⟩
  refine thn (hi.run pins s σ H _ I h) fun iv s1 ⟨y, H1, I1, ry, q1⟩ => thn (ho.run pins s1 σ H1 _ I1 q1) fun u s2 ⟨x, H2, I2, rx, a, ov, ex, g, q2⟩ => ?_
  subst ex
  obtain rfl : u = Value.ref a := rx
  exact n_in hu I2 g ry fun s3 I3 => ⟨.bl ov.isSome, H2, I3, rfl, q2⟩
theorem pc_nnotin (hu : X.A.units + 64 < cLine) (hi : PE X i ty) (ho : PE X o td) : PC X .NotIn i o (tNNotIn X.w ty td) := by
  refine ⟨fun pins s σ H Q I h => ?_⟩
  refine thn (hi.run pins s σ H _ I h) fun iv s1 ⟨y, H1, I1, ry, q1⟩ => thn (ho.run pins s1 σ H1 _ I1 q1) fun u s2 ⟨x, H2, I2, rx, a, ov, ex, g, q2⟩ => ?_
  subst ex
  obtain rfl : u = Value.ref a := rx
  exact n_notIn hu I2 g ry fun s3 I3 => ⟨.bl (!ov.isSome), H2, I3, rfl, q2⟩
theorem ps_nput (hu : X.A.units + 64 < cLine) (ho : PE X o td) (hi : PE X i ty) (hv : PE X value tv) (hs : swapsWith value (some (.Subscript o i pos')) pos.line X.env = pure false) :
    PS X (.Assign [.Subscript o i pos'] value pos) (sNPut X.w td ty tv) := by
  refine ⟨fun pins s σ H D I h => ?_⟩
  refine wpAny_Assign_Subscript (thn (hv.run pins s σ H _ I h) fun r s1 ⟨v, H1, I1, rv, q1⟩ => thn (ho.run pins s1 σ H1 _ I1 q1) fun u s2 ⟨x, H2, I2, rx, q2⟩ => thn (hi.run pins s2 σ H2 _ I2 q2) fun iv s3 ⟨y, H3, I3, ry, a, H4, ex, g, q3⟩ => ?_) hs
  subst ex
  obtain rfl : u = Value.ref a := rx
  exact n_setItem hu I3 g ry rv fun s4 I4 => ⟨σ, H4, I4, q3⟩
theorem pe_nget2 (hu : X.A.units + 64 < cLine) (ho : PE X o td) (he : PE X e ty) (hf : PE X f tx) (m : M2 X o "get" apos e f cpos) : PE X (.Call (.Attribute o "get" apos) [e, f] [] cpos) (tNGet2 X.w td ty tx) := by
  refine ⟨fun pins s σ H Q I h => ?_⟩
  refine wpAny_Call_method m.base m.few m.line PySem.F.plainAttrs_dict PySem.F.slot_dict_get PySem.F.type_dict_get (thn (ho.run pins s σ H _ I h) fun u s1 ⟨x, H1, I1, rx, a, ex, d, q1⟩ => ?_)
  subst ex
  obtain rfl : u = Value.ref a := rx
  obtain ⟨t1, t2, _⟩ := isN_at I1 d
  refine ⟨t1, t2, ?_⟩
  rw [m.trees]
  refine Calls.callWith_builtin rfl (Calls.evalArgs_plain (Calls.spliced_cons (thn (he.run pins s1 σ H1 _ I1 q1) fun iv s2 ⟨y, H2, I2, ry, q2⟩ =>
    Calls.spliced_cons (thn (hf.run pins s2 σ H2 _ I2 q2) fun fv s3 ⟨z, H3, I3, rz, ov, g, q3⟩ => Calls.spliced_nil ?_))))
  exact n_get2 hu I3 g ry rz fun w' s4 I4 rw' => ⟨_, H3, I4, rw', q3⟩
theorem pe_setdN (hu : X.A.units + 64 < cLine) (ho : PE X o td) (he : PE X e ty) (hf : PE X f tx) (m : M2 X o "setdefault" apos e f cpos) : PE X (.Call (.Attribute o "setdefault" apos) [e, f] [] cpos) (tSetdN X.w td ty tx) := by
  refine ⟨fun pins s σ H Q I h => ?_⟩
  refine wpAny_Call_method m.base m.few m.line PySem.F.plainAttrs_dict PySem.F.slot_dict_setdefault PySem.F.type_dict_setdefault (thn (ho.run pins s σ H _ I h) fun u sa ⟨x, Ha, Ia, rx, a, ex, d, q1⟩ => ?_)
  subst ex
  cases rx
  obtain ⟨t1, t2, _⟩ := isN_at Ia d
  refine ⟨t1, t2, ?_⟩
  rw [m.trees]
  refine Calls.callWith_builtin rfl (Calls.evalArgs_plain (Calls.spliced_cons (thn (he.run pins sa σ Ha _ Ia q1) fun iv sb ⟨y, Hb, Ib, ry, q2⟩ => Calls.spliced_cons (thn (hf.run pins sb σ Hb _ Ib q2) fun fv sc hc => Calls.spliced_nil ?_))))
  obtain ⟨z, Hc, Ic, rz, kvs, k, b, ea, hk, ey, dk, eb, hl, q3, q4⟩ := hc
  subst ey
  cases ry
  exact n_setd hu Ic ea hk dk eb hl rz (fun v hv w1 s1 I1 r1 => ⟨v, _, I1, r1, q3 v hv⟩) fun hn s1 I1 => ⟨z, _, I1, rz, q4 hn⟩
end
end AE

set_option Elab.async false
set_option linter.all false
set_option maxRecDepth 100000
namespace AE
open PySem PySem.Spec PyProof.Rows L2 Evl

/-! ### heaps: what stays -/
def Tx (H H' : Hp) : Prop := ∀ a xs, H a = some (.tup xs) → H' a = some (.tup xs)
def Ch (l : Addr) (H H' : Hp) : Prop := ∀ a o, a ≠ l → H a = some o → H' a = some o
theorem Tx.refl (H : Hp) : Tx H H := fun _ _ h => h
theorem Tx.trans {H H1 H2 : Hp} (a : Tx H H1) (b : Tx H1 H2) : Tx H H2 := fun c o h => b c o (a c o h)
theorem tx_ex {H H' : Hp} (e : Ex H H') : Tx H H' := fun _ _ h => e _ _ h
theorem ch_upd {H : Hp} {l : Addr} {o : HO} : Ch l H (upd H l o) := fun a u ha h => by rw [upd_ne ha]; exact h
theorem tx_ch {H H' : Hp} {l : Addr} {xs : List V} (hl : H l = some (.lst xs)) (c : Ch l H H') : Tx H H' := fun a ys h =>
  c a _ (fun e => by subst e; rw [hl] at h; cases h) h
theorem ex_ch {H0 H H' : Hp} {l : Addr} (e : Ex H0 H) (hl : H0 l = none) (c : Ch l H H') : Ex H0 H' := fun a o h =>
  c a o (fun z => by subst z; rw [hl] at h; cases h) (e a o h)
theorem ex_upd {H0 H : Hp} {l : Addr} {o : HO} (e : Ex H0 H) (hl : H0 l = none) : Ex H0 (upd H l o) := ex_ch e hl ch_upd

/-! ### data -/
mutual
theorem dp_ex {K : PySem.W.Frag} {H H' : Hp} (e : Ex H H') : ∀ {v : V} {d : PyData}, Dp K H v d → Dp K H' v d
  | _, _, .non => .non
  | _, _, .bl b => .bl b
  | _, _, .int i => .int i
  | _, _, .str x => .str x
  | _, _, .lst h t => .lst (ex_l e h) (dpa_ex e t)
  | _, _, .tup h t => .tup (ex_t e h) (dpa_ex e t)
theorem dpa_ex {K : PySem.W.Frag} {H H' : Hp} (e : Ex H H') : ∀ {vs : List V} {ds : List PyData}, DpAll K H vs ds → DpAll K H' vs ds
  | _, _, .nil => .nil
  | _, _, .cons h t => .cons (dp_ex e h) (dpa_ex e t)
end
mutual
def flatD : PyData → Bool
  | .list _ => false
  | .dict _ => false
  | .tuple xs => flatDs xs
  | _ => true
def flatDs : List PyData → Bool
  | [] => true
  | x :: r => flatD x && flatDs r
end
theorem sqt_tx {K : PySem.W.Frag} {H H' : Hp} {a : Addr} {xs : List V} (e : Tx H H') (hf : ∀ o, H a ≠ some (.frz o (.tup xs))) (h : SqT K H a xs) : SqT K H' a xs := by
  rcases h with (h | ⟨o, h⟩) | h
  · exact .inl (.inl (e _ _ h))
  · exact absurd h (hf o)
  · exact .inr h
/-- a tuple of scalars, tracked -/
def TupAt (H : Hp) (v : V) (xs : List V) : Prop := ∃ a, v = .ref a ∧ H a = some (.tup xs)
theorem TupAt.tx {H H' : Hp} {v : V} {xs : List V} (e : Tx H H') (h : TupAt H v xs) : TupAt H' v xs := by
  obtain ⟨a, rfl, h⟩ := h
  exact ⟨a, rfl, e _ _ h⟩
/-- scalars as data -/
def scD : V → PyData
  | .int i => .int i
  | .str x => .str x
  | .bl b => .bool b
  | _ => .none
def isSc : V → Bool
  | .int _ => true
  | .str _ => true
  | .bl _ => true
  | .non => true
  | _ => false
theorem dp_sc {K : PySem.W.Frag} {H : Hp} : ∀ {v : V}, isSc v = true → Dp K H v (scD v)
  | .int i, _ => .int i
  | .str x, _ => .str x
  | .bl b, _ => .bl b
  | .non, _ => .non
theorem dpa_sc {K : PySem.W.Frag} {H : Hp} : ∀ {vs : List V}, vs.all isSc = true → DpAll K H vs (vs.map scD)
  | [], _ => .nil
  | v :: vs, h => by
    rw [List.all_cons, Bool.and_eq_true] at h
    exact .cons (dp_sc h.1) (dpa_sc h.2)
theorem TupAt.dp {K : PySem.W.Frag} {H : Hp} {v : V} {xs : List V} (h : TupAt H v xs) (s : xs.all isSc = true) : Dp K H v (.tuple (xs.map scD)) := by
  obtain ⟨a, rfl, h⟩ := h
  exact .tup (.inl (.inl h)) (dpa_sc s)
/-- a row of tuples of scalars -/
inductive Tups (H : Hp) : List V → List (List V) → Prop
  | nil : Tups H [] []
  | cons {v : V} {vs : List V} {x : List V} {xs : List (List V)} : TupAt H v x → Tups H vs xs → Tups H (v :: vs) (x :: xs)
theorem Tups.tx {H H' : Hp} (e : Tx H H') : ∀ {vs : List V} {xs : List (List V)}, Tups H vs xs → Tups H' vs xs
  | _, _, .nil => .nil
  | _, _, .cons h t => .cons (h.tx e) (t.tx e)
theorem Tups.len {H : Hp} : ∀ {vs : List V} {xs : List (List V)}, Tups H vs xs → vs.length = xs.length
  | _, _, .nil => rfl
  | _, _, .cons _ t => by rw [List.length_cons, List.length_cons, t.len]
theorem Tups.snoc {H : Hp} {v : V} {x : List V} (hv : TupAt H v x) : ∀ {vs : List V} {xs : List (List V)}, Tups H vs xs → Tups H (vs ++ [v]) (xs ++ [x])
  | _, _, .nil => .cons hv .nil
  | _, _, .cons h t => .cons h (t.snoc hv)
theorem Tups.app {H : Hp} : ∀ {vs ws : List V} {xs ys : List (List V)}, Tups H vs xs → Tups H ws ys → Tups H (vs ++ ws) (xs ++ ys)
  | _, _, _, _, .nil, t => t
  | _, _, _, _, .cons h r, t => .cons h (r.app t)
theorem Tups.get {H : Hp} : ∀ {vs : List V} {xs : List (List V)} {i : Nat} {v : V}, Tups H vs xs → vs[i]? = some v → ∃ x, xs[i]? = some x ∧ TupAt H v x
  | _, _, 0, _, .cons h _, e => by
    have e' := Option.some.inj e
    exact ⟨_, rfl, e' ▸ h⟩
  | _, _, i + 1, v, .cons _ t, e => by
    obtain ⟨x, h1, h2⟩ := Tups.get (i := i) (v := v) t (by simpa using e)
    exact ⟨x, by simpa using h1, h2⟩
theorem Tups.dp {K : PySem.W.Frag} {H : Hp} : ∀ {vs : List V} {xs : List (List V)}, Tups H vs xs → (∀ x ∈ xs, x.all isSc = true) → DpAll K H vs (xs.map fun x => .tuple (x.map scD))
  | _, _, .nil, _ => .nil
  | _, _, .cons h t, s => .cons (h.dp (s _ (List.mem_cons_self ..))) (t.dp fun x hx => s x (List.mem_cons_of_mem _ hx))

/-! ### readings, a step at a time -/
section
variable {K : PySem.W.Frag} {σ : L2.St} {H : Hp} {Q : VK} {D : Ends} {ta tb te tc : TE} {t u : TT} {x y v : V} {QB : Bool → Hp → Prop} {QA : List V → Hp → Prop} {ts tu tz : TS} {r r' : R2}
theorem r_var {i : Nat} (h : σ[i]? = some (some v)) (q : Q v H) : tVar i σ H Q := ⟨v, h, q⟩
theorem r_c (q : Q v H) : tC v σ H Q := q
theorem r_op (q : ta σ H fun x H1 => tb σ H1 fun y H2 => r x y H2 Q) : tOp r ta tb σ H Q := q
theorem r_un {f : V → Hp → VK → Prop} (q : ta σ H fun x H1 => f x H1 Q) : tUn f ta σ H Q := q
theorem r_I0 {g : Int → Int → V} {i j : Int} (q : Q (g i j) H) : rI0 g (.int i) (.int j) H Q := ⟨i, j, rfl, rfl, q⟩
theorem r_I {C : Int → Int → Prop} {g : Int → Int → V} {i j : Int} (c : C i j) (q : Q (g i j) H) : rI C g (.int i) (.int j) H Q := ⟨i, j, rfl, rfl, c, q⟩
theorem r_U {g : Int → V} {i : Int} (q : Q (g i) H) : rU g (.int i) H Q := ⟨i, rfl, q⟩
theorem r_eq (c : scal x y = true) (q : Q (.bl (decide (x = y))) H) : rEq x y H Q := ⟨c, q⟩
theorem r_ne (c : scal x y = true) (q : Q (.bl (!decide (x = y))) H) : rNe x y H Q := ⟨c, q⟩
theorem r_chain (q : ta σ H fun x H1 => tb σ H1 fun y H2 => r x y H2 fun z H3 => ∃ k, z = .bl k ∧ (if k = true then tc σ H3 fun w' H4 => r' y w' H4 Q else Q (.bl false) H3)) : tChain r r' ta tb tc σ H Q := q
theorem r_test (q : te σ H fun x H' => ∃ k, x = .bl k ∧ QB k H') : tTest te σ H QB := q
theorem r_tB (q : te σ H fun x H' => ∃ k, x = .bl k ∧ QB k H') : tB te σ H QB := q
theorem r_bl {b : Bool} {R : Bool → Prop} (q : R b) : ∃ k, V.bl b = .bl k ∧ R k := ⟨b, rfl, q⟩
theorem r_and (q : t σ H fun c H1 => if c = true then u σ H1 QB else QB false H1) : tAnd t u σ H QB := q
theorem r_or (q : t σ H fun c H1 => if c = true then QB true H1 else u σ H1 QB) : tOr t u σ H QB := q
theorem r_not (q : t σ H fun c H1 => QB (!c) H1) : tNot t σ H QB := q
theorem r_nil (q : QA [] H) : tNil σ H QA := q
theorem r_cons {tr : TA} (q : ta σ H fun x H1 => tr σ H1 fun xs H2 => QA (x :: xs) H2) : tCons ta tr σ H QA := q
theorem r_tup {tr : TA} (q : tr σ H fun xs H1 => xs.length ≤ sizeLine ∧ ∀ p, H1 p = none → Q (.ref p) (upd H1 p (.tup xs))) : tTup tr σ H Q := q
theorem r_lst {tr : TA} (q : tr σ H fun xs H1 => xs.length ≤ sizeLine ∧ ∀ p, H1 p = none → Q (.ref p) (upd H1 p (.lst xs))) : tLst tr σ H Q := q
theorem r_cb {f : List V → Hp → VK → Prop} {tr : TA} (q : tr σ H fun vs H1 => f vs H1 Q) : tCB f tr σ H Q := q
theorem r_call {sp : Sp} {dvs : List V} {E : XK} {tr : TA} (q : tr σ H fun vs H1 => sp (vs ++ dvs) H1 Q E) : tCall sp dvs E tr σ H Q := q
theorem r_seq (q : ts { D with nx := tz D } σ H) : tSeq ts tz D σ H := q
theorem r_set {i : Nat} (q : te σ H fun x H1 => D.nx (σ.set i (some x)) H1) : tAsg te (gName i) D σ H := q
theorem r_drop (q : te σ H fun _ H1 => D.nx σ H1) : tDrop te D σ H := q
theorem r_ret (q : te σ H D.rt) : tRet te D σ H := q
theorem r_next (q : D.nx σ H) : tNext D σ H := q
theorem r_if (q : t σ H fun b H1 => if b = true then ts D σ H1 else tu D σ H1) : tIfS t ts tu D σ H := q
theorem ite_t {b : Bool} {A B : Prop} (h : b = true) (q : A) : if b = true then A else B := by rw [if_pos h]; exact q
theorem ite_f {b : Bool} {A B : Prop} (h : b = false) (q : B) : if b = true then A else B := by rw [if_neg (by rw [h]; decide)]; exact q
theorem ite_b {b : Bool} {A B : Prop} (h1 : b = true → A) (h2 : b = false → B) : if b = true then A else B := by
  cases b with
  | true => rw [if_pos rfl]; exact h1 rfl
  | false => rw [if_neg (by decide)]; exact h2 rfl
end
end AE

set_option Elab.async false
set_option linter.all false
set_option maxRecDepth 100000
namespace AE
open PySem PySem.Spec PyProof.Rows L2 Evl
section
variable {X : Cx}
def rAddS0 : R2 := fun x y H Q => ∃ i j, x = .str i ∧ y = .str j ∧ i.length + j.length ≤ sizeLine ∧ Q (.str (i ++ j)) H
def rAddA (K : PySem.W.Frag) : R2 := fun x y H Q => rI0 (fun i j => .int (i + j)) x y H Q ∨ (rAddS0 x y H Q ∨ (rCat x y H Q ∨ rCatT K x y H Q))
theorem opAdd : OpR X (binaryOp .Add) (rAddA X.K) := OpR.or op_add (OpR.or op_add_str (OpR.or op_cat op_catT))
def cLen (K : PySem.W.Frag) : List V → Hp → VK → Prop := fun xs H Q => (∃ p ys, xs = [.ref p] ∧ (SqL K H p ys ∨ SqT K H p ys) ∧ Q (.int ys.length) H) ∨ (∃ z, xs = [.str z] ∧ z.length ≤ sizeLine ∧ Q (.int z.length) H)
theorem c_len : CallR X (.builtin "len") (cLen X.K) := CallR.or call_len_seq call_len_str
def cInt : List V → Hp → VK → Prop := fun xs H Q => (∃ i, xs = [.int i] ∧ Q (.int i) H) ∨ ∃ k, xs = [.bl k] ∧ Q (.int (if k then 1 else 0)) H
theorem c_int : CallR X (.type "int") cInt := call_int1
def cList (K : PySem.W.Frag) : List V → Hp → VK → Prop := fun xs H Q => ∃ p ys, xs = [.ref p] ∧ (SqL K H p ys ∨ SqT K H p ys) ∧ ∀ l, H l = none → Q (.ref l) (upd H l (.lst ys))
theorem c_list : CallR X (.type "list") (cList X.K) := call_list_of
def cTup (K : PySem.W.Frag) : List V → Hp → VK → Prop := fun xs H Q => ∃ p ys, xs = [.ref p] ∧ ((SqL K H p ys ∧ ∀ l, H l = none → Q (.ref l) (upd H l (.tup ys))) ∨ (SqT K H p ys ∧ Q (.ref p) H))
theorem c_tuple : CallR X (.type "tuple") (cTup X.K) := call_tuple_of
theorem c_isinstance : CallR X (.builtin "isinstance") (rIsi X.K) := call_isi
def rLe1 : R2 := rI0 fun i j => .bl (decide (i ≤ j))
end
section
variable {K : PySem.W.Frag} {σ : L2.St} {H : Hp} {Q : VK} {D : Ends} {ta tb te tc : TE} {t u : TT} {x y v : V} {ts tu tz : TS} {QB : Bool → Hp → Prop} {QA : List V → Hp → Prop}
theorem add_int {i j : Int} (q : Q (.int (i + j)) H) : rAddA K (.int i) (.int j) H Q := .inl ⟨i, j, rfl, rfl, q⟩
theorem add_str {i j : Str} (l : i.length + j.length ≤ sizeLine) (q : Q (.str (i ++ j)) H) : rAddA K (.str i) (.str j) H Q := .inr (.inl ⟨i, j, rfl, rfl, l, q⟩)
theorem add_lst {a b : Addr} {xs ys : List V} (ha : H a = some (.lst xs)) (hb : H b = some (.lst ys)) (l : xs.length + ys.length ≤ sizeLine) (q : ∀ p, H p = none → Q (.ref p) (upd H p (.lst (xs ++ ys)))) : rAddA K (.ref a) (.ref b) H Q :=
  .inr (.inr (.inl ⟨a, b, xs, ys, rfl, rfl, ha, hb, l, q⟩))
theorem len_l {p : Addr} {ys : List V} (h : SqL K H p ys) (q : Q (.int ys.length) H) : cLen K [.ref p] H Q := .inl ⟨p, ys, rfl, .inl h, q⟩
theorem len_t {p : Addr} {ys : List V} (h : SqT K H p ys) (q : Q (.int ys.length) H) : cLen K [.ref p] H Q := .inl ⟨p, ys, rfl, .inr h, q⟩
theorem len_s {z : Str} (h : z.length ≤ sizeLine) (q : Q (.int z.length) H) : cLen K [.str z] H Q := .inr ⟨z, rfl, h, q⟩
theorem int_i {i : Int} (q : Q (.int i) H) : cInt [.int i] H Q := .inl ⟨i, rfl, q⟩
theorem ix_l {p : Addr} {xs : List V} {i : Int} (h : SqL K H p xs) (e : atI xs i = some v) (q : Q v H) : rIx K (.ref p) (.int i) H Q := .inl ⟨p, xs, i, v, rfl, rfl, h, e, q⟩
theorem ix_t {p : Addr} {xs : List V} {i : Int} (h : SqT K H p xs) (e : atI xs i = some v) (q : Q v H) : rIx K (.ref p) (.int i) H Q := .inr (.inl ⟨p, xs, i, v, rfl, rfl, h, e, q⟩)
theorem ix_s {z : Str} {i : Int} {c : Nat} (l : z.length ≤ sizeLine) (e : atI z.cps.toList i = some c) (q : Q (.str ⟨#[c]⟩) H) : rIx K (.str z) (.int i) H Q := .inr (.inr ⟨z, i, c, rfl, rfl, l, e, q⟩)
theorem sl_l {p : Addr} {xs : List V} {lo hi : Option Int} (h : SqL K H p xs) (q : ∀ l, H l = none → Q (.ref l) (upd H l (.lst (cutV xs lo hi)))) : rSlL K (.ref p) lo hi H Q := ⟨p, xs, rfl, h, q⟩
theorem sl_s {z : Str} {lo hi : Option Int} (h : z.length ≤ sizeLine) (q : Q (.str (cutS z lo hi)) H) : rSlS (.str z) lo hi H Q := ⟨z, rfl, h, q⟩
theorem r_sl {r : V → Option Int → Option Int → Hp → VK → Prop} {tl th : TO} (q : te σ H fun x H1 => tl σ H1 fun l H2 => th σ H2 fun u H3 => r x l u H3 Q) : tSl r te tl th σ H Q := q
theorem r_nop {QO : Option Int → Hp → Prop} (q : QO none H) : tNoPart σ H QO := q
theorem r_prt {QO : Option Int → Hp → Prop} (q : te σ H fun x H1 => ∃ i, x = .int i ∧ QO (some i) H1) : tPart te σ H QO := q
theorem r_some {R : Int → Prop} {i : Int} (q : R i) : ∃ j, V.int i = .int j ∧ R j := ⟨i, rfl, q⟩
theorem r_app {i : Nat} {l : Addr} {xs : List V} (h0 : σ[i]? = some (some (.ref l))) (h : H l = some (.lst xs)) (q : te σ H fun y H2 => rAppend (.ref l) [y] H2 Q) : tBM K "list" rAppend (tVar i) (tCons te tNil) σ H Q :=
  ⟨_, h0, .inl ⟨rfl, _, .inl (.inl h)⟩, q⟩
theorem app_l {l : Addr} {xs : List V} (h : H l = some (.lst xs)) (z : xs.length < sizeLine) (q : Q .non (upd H l (.lst (xs ++ [y])))) : rAppend (.ref l) [y] H Q := ⟨l, xs, y, rfl, rfl, h, z, q⟩
/-! loops -/
def LR1 (i : Nat) (tb : TS) (D : Ends) (σ : L2.St) : List V → Hp → Prop := fun vs H1 => ∃ j : Int, vs = [.int j] ∧ -(2 ^ 62) ≤ j ∧ j < 2 ^ 62 ∧
  ∃ W : Nat → Nat → L2.St → Hp → Prop, (∃ m, W 0 m σ H1) ∧ ∀ i' m σ H, W i' m σ H → ((Itr 0 j.toNat).stop i' H ∧ D.nx σ H) ∨ ((Itr 0 j.toNat).go i' H ∧ ∃ N : L2.St → Hp → Prop, (∀ σ' H', N σ' H' → ∃ m', m' < m ∧ W (i' + 1) m' σ' H') ∧
    ∀ x H', (Itr 0 j.toNat).yld i' H x H' → gName i x σ H' fun σ2 H2 => tb { D with nx := N, ct := N, bk := D.nx } σ2 H2)
theorem r_forR1 {ta : TA} {i : Nat} (q : ta σ H (LR1 i tz D σ)) : tFor (iRng1 ta) (gName i) tz D σ H := q
theorem lr1_go {i : Nat} {n : Int} (Pv : Nat → L2.St → Hp → Prop) (h0 : Pv 0 σ H) (hn : 0 ≤ n ∧ n ≤ 100000000)
    (hs : ∀ (k : Nat) σ' H', (k : Int) < n → Pv k σ' H' → tz { D with nx := Pv (k + 1), ct := Pv (k + 1), bk := D.nx } (σ'.set i (some (.int (k : Int)))) H')
    (hd : ∀ σ' H', Pv n.toNat σ' H' → D.nx σ' H') : LR1 i tz D σ [.int n] H :=
  ⟨n, rfl, by omega, by omega, for_range (lo := 0) (n := n.toNat) Pv h0 (fun k σ' H' hk p => by
    have q := hs k σ' H' (by omega) p
    show gName i (.int (0 + (k : Int))) σ' H' _
    rw [Int.zero_add]
    exact q) hd⟩
def LL (K : PySem.W.Frag) (g : TG) (tb : TS) (D : Ends) (σ : L2.St) : V → Hp → Prop := fun x H1 => ∃ a, x = .ref a ∧ (∃ xs, SqL K H1 a xs) ∧
  ∃ W : Nat → Nat → L2.St → Hp → Prop, (∃ m, W 0 m σ H1) ∧ ∀ i m σ H, W i m σ H → ((Itl K a).stop i H ∧ D.nx σ H) ∨ ((Itl K a).go i H ∧ ∃ N : L2.St → Hp → Prop, (∀ σ' H', N σ' H' → ∃ m', m' < m ∧ W (i + 1) m' σ' H') ∧
    ∀ x H', (Itl K a).yld i H x H' → g x σ H' fun σ2 H2 => tb { D with nx := N, ct := N, bk := D.nx } σ2 H2)
theorem r_forL {g : TG} (q : te σ H (LL K g tz D σ)) : tFor (iList K te) g tz D σ H := q
theorem ll_go {g : TG} {a : Addr} {xs : List V} (hx : SqL K H a xs) (Pv : Nat → L2.St → Hp → Prop) (h0 : Pv 0 σ H) (hl : ∀ i σ' H', i ≤ xs.length → Pv i σ' H' → SqL K H' a xs)
    (hs : ∀ i x σ' H', xs[i]? = some x → Pv i σ' H' → g x σ' H' fun σ2 H2 => tz { D with nx := Pv (i + 1), ct := Pv (i + 1), bk := D.nx } σ2 H2)
    (hd : ∀ σ' H', Pv xs.length σ' H' → D.nx σ' H') : LL K g tz D σ (.ref a) H :=
  ⟨a, rfl, ⟨xs, hx⟩, for_list Pv h0 hl hs hd⟩
end
end AE

set_option Elab.async false
set_option linter.all false
set_option maxRecDepth 100000
namespace AE
open PySem PySem.Spec PyProof.Rows L2 Evl
open PySem.W
open Builtin
/-- a number below 1000 as three signs -/
def p3 (a : Int) : Str := ⟨#[48 + (a / 100).toNat, 48 + (a / 10 % 10).toNat, 48 + (a % 10).toNat]⟩
set_option maxHeartbeats 4000000 in
theorem run03 (n : Fin 200) {t : Tok} : ∀ u, Meets («int.__format__» ⟨[.int (n.val : Int) t, .str "03d" u], []⟩) (fun _ R s => ∀ t' k, R (.ok (.ret (.str (p3 (n.val : Int)) t'))) { s with toks := k }) := by
  intro u
  apply KPc.meets_of
  intro _ _ _ _ _ _ hq
  unfold Builtin.«int.__format__»
  refine wpAny_bind (wpAny_of_eq (a := (_, _)) rfl ?_)
  refine wpAny_bind (wpAny_of_eq (a := _) rfl ?_)
  kxf_if
  refine wpAny_bind (wpAny_typeNameOf (T := "str") (typeIs_str _ _ _) (by decide) fun _ => ?_)
  refine wpAny_bind (wpAny_of_eq (a := some _) rfl ?_)
  kxf_if
  kxf_if
  refine wpAny_bind (wpAny_typeNameOfCut_int ?_)
  (repeat kxf_if)
  have hd : ((n.val : Int)).natAbs.log2 < 1920 := by
    have h2 : (n.val : Int).natAbs < 2 ^ 1920 := Nat.lt_of_lt_of_le (show (n.val : Int).natAbs < 1024 by have := n.isLt; omega) (by decide +kernel)
    by_cases hz : (n.val : Int).natAbs = 0
    · rw [hz]; decide
    · exact (Nat.log2_lt hz).mpr h2
  refine wpAny_bind (wpAny_of_eq (PySem.overDigitLimit_small hd) ?_)
  (repeat kxf_if)
  refine KXf.ret_text (T := p3 (n.val : Int)) ?_ ?_ hq
  · clear hq hd
    revert n
    decide +kernel
  · clear hq hd
    revert n
    decide +kernel
theorem fmt03 {prog : Program} {w : World} {A : Around} {E : Value → Shared → Prop} {s : Shared} {a : Int} {t : Tok} {Q : Value → Shared → Prop} (h0 : 0 ≤ a) (h1 : a < 200) (h : ∀ t' k, Q (.str (p3 a) t') { s with toks := k }) :
    wpAny (model prog w) A (formatField (.int a t) "03d") Q E s := by
  have e : a = (((⟨a.toNat, by omega⟩ : Fin 200).val : Nat) : Int) := by show a = (a.toNat : Int); omega
  rw [e]
  rw [e] at h
  exact KXf.field_int rfl (by decide +kernel) (by decide +kernel) (run03 _) h
end AE

set_option Elab.async false
set_option linter.all false
set_option maxRecDepth 100000
namespace AE
open PySem PySem.Spec PyProof.Rows L2 Evl
open PySem.W
open Builtin
/-- a text filled up with blanks to eight signs -/
def pad8 (x : Str) : Str := ⟨x.cps ++ Array.replicate (8 - x.length) 32⟩
set_option maxHeartbeats 4000000 in
theorem runl8 (x : Str) {t : Tok} (hx : x.length ≤ 8) : ∀ u, Meets («str.__format__» ⟨[.str x t, .str "<8" u], []⟩) (fun _ R s => ∀ t' k, R (.ok (.ret (.str (pad8 x) t'))) { s with toks := k }) := by
  intro u
  apply KPc.meets_of
  intro _ _ _ _ _ _ hq
  unfold Builtin.«str.__format__»
  refine wpAny_bind (wpAny_of_eq (a := (_, _, _)) rfl ?_)
  refine wpAny_bind (wpAny_of_eq (a := some _) rfl ?_)
  kxf_if
  kxf_if
  refine wpAny_bind (KXf.cut_str ?_)
  have hp : Float.parseFormatSpec (PySem.Str.ofString "<8").cps.toList "str" 60 = .ok { fill := 32, align := 60, width := some 8 } := by with_unfolding_all rfl
  have hs : Str.strField x { fill := 32, align := 60, width := some 8 } "str" = .ok (if 8 ≤ x.length then none else some (Str.padded (Str.strSub x 0 x.length) 0 (8 - (Str.strSub x 0 x.length).length) 32)) := by
    unfold Str.strField
    by_cases h : 8 ≤ x.length
    · simp [h]
      rfl
    · simp [h]
      rfl
  rw [hp]
  have hb : (PySem.Str.ofString "<8").cps.back? = some 56 := by decide +kernel
  have ht : Str.tooLong 8 = false := by decide +kernel
  simp only [bind, Except.bind, pure, Except.pure, hb, Option.isNone_none, Option.getD_some, ht, hs]
  simp only [show (true && (some 56 == some (0 : Nat))) = false by decide, Bool.false_eq_true, if_false, Option.getD_some, ht, hs]
  have hxl : (Str.strSub x 0 x.length) = x := by
    show (⟨x.cps.extract 0 x.cps.size⟩ : Str) = x
    rw [Array.extract_size]
  by_cases h : 8 ≤ x.length
  · rw [if_pos h]
    have e : x = pad8 x := by
      show x = ⟨x.cps ++ Array.replicate (8 - x.length) 32⟩
      rw [Nat.sub_eq_zero_of_le h]
      show x = ⟨x.cps ++ #[]⟩
      rw [Array.append_empty]
    exact wpAny_bind (wpAny_rule (KXf.ret_same e hq))
  · rw [if_neg h, hxl]
    refine KXf.ret_text ?_ ?_ hq
    · show (⟨Array.replicate 0 32 ++ x.cps ++ Array.replicate (8 - x.length) 32⟩ : Str) = ⟨x.cps ++ Array.replicate (8 - x.length) 32⟩
      rw [show (Array.replicate 0 32 : Array Nat) = #[] from rfl, Array.empty_append]
    · show (Array.replicate 0 32 ++ x.cps ++ Array.replicate (8 - x.length) 32).size ≤ sizeLine
      rw [Array.size_append, Array.size_append, Array.size_replicate, Array.size_replicate]
      have h2 : x.cps.size ≤ 8 := hx
      exact sz_of (by omega)
theorem fmtl8 {prog : Program} {w : World} {A : Around} {E : Value → Shared → Prop} {s : Shared} {x : Str} {t : Tok} {Q : Value → Shared → Prop} (hx : x.length ≤ 8) (h : ∀ t' k, Q (.str (pad8 x) t') { s with toks := k }) :
    wpAny (model prog w) A (formatField (.str x t) "<8") Q E s :=
  KXf.field_str rfl rfl (by decide +kernel) (by decide +kernel) (runl8 x hx) h
/-! the f-string's parts -/
section
variable {X : Cx}
def tF03 (te : TE) : TE := fun σ H Q => te σ H fun x H1 => ∃ i : Int, x = .int i ∧ 0 ≤ i ∧ i < 200 ∧ Q (.str (p3 i)) H1
def tFl8 (te : TE) : TE := fun σ H Q => te σ H fun x H1 => ∃ y : Str, x = .str y ∧ y.length ≤ 8 ∧ Q (.str (pad8 y)) H1
theorem pe_fmtS_03d {e : Expr} {te : TE} {pos p2 p3' : Pos} {j : Nat} (he : PE X e te) : PE X (.FormattedValue e (-1) (some (.JoinedStr [.Constant (.str "03d") j p2] p3')) pos) (tF03 te) := by
  refine ⟨fun pins s σ H Q I h => wpAny_FormattedValue_spec (thn (he.run pins s σ H _ I h) fun v s1 hv => ?_)⟩
  obtain ⟨x, H1, I1, r1, i, rfl, h0, h1, q⟩ := hv
  obtain ⟨t, rfl⟩ := r1
  refine wpAny_JoinedStr_one (Calls.Constant_str ⟨_, _, rfl, fmt03 h0 h1 fun t' k => ⟨.str (p3 i), H1, I1.tok _, ⟨_, rfl⟩, q⟩⟩)
theorem pe_fmtS_l8 {e : Expr} {te : TE} {pos p2 p3' : Pos} {j : Nat} (he : PE X e te) : PE X (.FormattedValue e (-1) (some (.JoinedStr [.Constant (.str "<8") j p2] p3')) pos) (tFl8 te) := by
  refine ⟨fun pins s σ H Q I h => wpAny_FormattedValue_spec (thn (he.run pins s σ H _ I h) fun v s1 hv => ?_)⟩
  obtain ⟨x, H1, I1, r1, y, rfl, h0, q⟩ := hv
  obtain ⟨t, rfl⟩ := r1
  refine wpAny_JoinedStr_one (Calls.Constant_str ⟨_, _, rfl, fmtl8 h0 fun t' k => ⟨.str (pad8 y), H1, I1.tok _, ⟨_, rfl⟩, q⟩⟩)
end
end AE

set_option Elab.async false
set_option linter.all false
set_option maxRecDepth 100000
set_option maxHeartbeats 2000000
namespace AE
open PySem PySem.Spec PyProof.Rows L2 Evl
section
variable {X : Cx} {pins : List (Addr × Obj)} {σ : L2.St} {H : Hp} {s : Shared}
/-- a store into a dict with tuple keys, as a comprehension makes it -/
theorem put_t {D b : Addr} {kvs : List (List Key × V)} {ks : List Key} {v : V} {r : Value} {Q : Unit → Shared → Prop} {Er : Value → Shared → Prop} {A : Around} (hu : A.units < cLine) (I : Inv X pins σ H s) (hD : H D = some (.dT kvs)) (hb : H b = some (.tup (ks.map kV))) (hl : kvs.length < sizeLine)
    (rv : RelV v r) (h : ∀ s1, Inv X pins σ (upd H D (.dT (putK kvs ks v))) s1 → Q () s1) : wpAny (model X.prog X.w) A (dictSet D (.ref b) r) Q Er s := by
  obtain ⟨_, hd, xs, rel, dd⟩ := dt_of I.hok hD
  have hx : xs.length ≤ sizeLine := by
    have e := Paired.length rel
    omega
  have hz : (putK kvs ks v).length ≤ sizeLine := Nat.le_trans (length_putK kvs ks v) (by omega)
  refine wpAny_dictSet_heap (knd := tupleKind (mixKind X.prog X.w)) (hsz := hx) hu (key_of I.hok hb) dd fun h1 dd1 hs => h _ ?_
  obtain ⟨q, es, ep, hq, k2, k3, k4, _, k5⟩ := dd1
  exact d_write I (by rw [hD]; trivial) hs ⟨q, hq⟩ ⟨hz, hd, _, (rel.put ks hb rv).keeps fun c ys ec => by rw [upd_ne (ne_of ec hD (by intro z; cases z))]; exact ec, q, es, ep, hq, k2, k3, k4, k5⟩
/-- the stores of a comprehension whose keys are tuples -/
def sT (D : Addr) : V → V → Hp → (Hp → Prop) → Prop := fun y z H R => ∃ (kvs : List (List Key × V)) (ks : List Key) (b : Addr), y = .ref b ∧ H b = some (.tup (ks.map kV)) ∧ H D = some (.dT kvs) ∧ kvs.length < sizeLine ∧ R (upd H D (.dT (putK kvs ks z)))
def tDcT (wi : TI) (g : TG) (tt : TT) (tk tv : TE) (vs : List Nat) : TE := fun σ H Q => wi σ H fun J Ha => ∀ D, Ha D = none → ∃ W : Nat → Nat → Hp → Prop, (∃ m, W 0 m (upd Ha D (.dT []))) ∧ ∀ i m Hb, W i m Hb →
  (J.stop i Hb ∧ Q (.ref D) Hb) ∨ (J.go i Hb ∧ ∃ Nx : Hp → Prop, (∀ Hc, Nx Hc → ∃ m1, m1 < m ∧ W (i + 1) m1 Hc) ∧ ∀ x Hc, J.yld i Hb x Hc → g x (wipe σ vs) Hc fun σa Hd => wipe σa vs = wipe σ vs ∧ tt σa Hd fun b He =>
    if b = true then tk σa He fun y Hf => tv σa Hf fun z Hg => sT D y z Hg Nx else Nx He)
theorem pe_dcT {kx vx tg iter : Expr} {ifs : List Expr} {scope : Scope} {own : List (Str × Nat)} {pos : Pos} {wi : TI} {g : TG} {tt : TT} {tk tv : TE} (hu : X.A.units < cLine) (hc : X.calm = true) (hN : X.N.Nodup) (hi : PI X tg iter wi) (ok : BlkOk X.N X.env.scope scope own)
    (hg : ∀ s0 H0 C cl fp, PG (X.blk s0 H0 scope (compEnvC scope cl C X.env) fp) tg g) (ht : ∀ s0 H0 C cl fp, PTs (X.blk s0 H0 scope (compEnvC scope cl C X.env) fp) ifs tt)
    (hk : ∀ s0 H0 C cl fp, PE (X.blk s0 H0 scope (compEnvC scope cl C X.env) fp) kx tk) (he : ∀ s0 H0 C cl fp, PE (X.blk s0 H0 scope (compEnvC scope cl C X.env) fp) vx tv)
    (hs : ∀ x, foldedSetIterable iter X.env x = pure x := by intro _; rfl) : PE X (.DictComp kx vx [⟨tg, iter, ifs, 0⟩] scope pos) (tDcT wi g tt tk tv (own.map (·.2))) := by
  refine ⟨fun pins s σ H Q I h => ?_⟩
  rw [arm_eval_DictComp]
  have free : ∀ y ∈ scope.names, y.2 = .free → ∃ c, X.env.cells.lookup y.1 = some c := fun y hy e => by
    rcases ok.free y hy e with z | z
    · exact I.ok.has _ (.inl z)
    · exact I.ok.has _ (.inr z)
  refine wpAny_comprehension_free (use := none) rfl hs (closure_ok free) ok.kind (fun y hy e => by rw [ok.uniq y hy, e]) (thn (hi.run pins s σ H _ I h) fun xv sa hx => thn hx fun itv sb hb => ?_)
  obtain ⟨it, fp, tn, J, Hb, e, Ib, T, stb, fb, q⟩ := hb
  subst e
  refine wpAny_newObj_type (newEnv_comp ?_)
  generalize hDe : sb.heap.objs.size = D
  obtain ⟨W, ⟨m0, w0⟩, turn⟩ := q D (Ib.hok.fresh (Nat.le_of_eq hDe))
  generalize hsc : ({ sb with heap := sb.heap.push { cls := .type "dict", data := .dict #[] } } : Shared) = sc
  have hsc' : sc.heap = sb.heap.push { cls := .type "dict", data := .dict #[] } := by rw [← hsc]
  have Ic : Inv X pins σ (upd Hb D (.dT [])) sc := by
    rw [← hsc]
    refine Ib.laid (t' := sb.toks) (fun _ _ e => Heap.get?_push_of_some _ e) (Nat.le_of_eq hDe) ?_
    rw [← hDe]
    exact dt_empty sb.heap Ib.big
  have old : ∀ b ∈ fp, b < sb.heap.objs.size := fun b hb => by
    obtain ⟨_, z, _⟩ := T.obj _ _ stb b hb
    exact Heap.lt_size z
  have fc : ∀ b ∈ fp, FpOk X pins (upd Hb D (.dT [])) b ∧ b < sc.heap.objs.size := fun b hb => by
    have z := old b hb
    refine ⟨⟨by rw [upd_ne (by rw [← hDe]; exact Nat.ne_of_lt z)]; exact (fb b hb).1, (fb b hb).2⟩, ?_⟩
    rw [hsc', Heap.size_push]
    exact Nat.lt_succ_of_lt z
  have stc : tn 0 sc.heap := T.keep _ _ _ stb fun b _ o e => by rw [hsc']; exact Heap.get?_push_of_some _ e
  have Id := block_start Ic ok hN fc
  have pg := hg sc (upd Hb D (.dT [])) sc.heap.objs.size (cellsFrom (sc.heap.objs.size + 1) scope.names (cloFrom X.env.cells scope.names [])) fp
  have pt := ht sc (upd Hb D (.dT [])) sc.heap.objs.size (cellsFrom (sc.heap.objs.size + 1) scope.names (cloFrom X.env.cells scope.names [])) fp
  have pk := hk sc (upd Hb D (.dT [])) sc.heap.objs.size (cellsFrom (sc.heap.objs.size + 1) scope.names (cloFrom X.env.cells scope.names [])) fp
  have pv := he sc (upd Hb D (.dT [])) sc.heap.objs.size (cellsFrom (sc.heap.objs.size + 1) scope.names (cloFrom X.env.cells scope.names [])) fp
  show codeAny _ _ (.compStart (.DictComp kx vx [⟨tg, iter, ifs, 0⟩] scope pos) 0 (.ref it) (.ref D) (compEnvC scope (cellsFrom (sc.heap.objs.size + 1) scope.names (cloFrom X.env.cells scope.names [])) sc.heap.objs.size X.env)) _ { sc with heap := pushCells (sc.heap.push { cls := .type "dict", data := .dict #[] }) scope.names }
  have nfp : ∀ b ∈ fp, (upd Hb D (.dT [])) b = none := fun b hb => (fc b hb).1.1
  generalize hce : compEnvC scope (cellsFrom (sc.heap.objs.size + 1) scope.names (cloFrom X.env.cells scope.names [])) sc.heap.objs.size X.env = ce at Id pg pt pk pv ⊢
  have cL : ce.locals = sc.heap.objs.size := by subst hce; rfl
  generalize hHc : upd Hb D (.dT []) = Hc at Ic Id pg pt pk pv w0 nfp fc
  generalize hsd : ({ sc with heap := pushCells (sc.heap.push { cls := .type "dict", data := .dict #[] }) scope.names } : Shared) = sd at Id ⊢
  have std : tn 0 sd.heap := T.keep _ _ _ stc fun b _ o e => by rw [← hsd]; exact pushCells_keeps _ _ _ _ (Heap.get?_push_of_some _ e)
  have stat : ∀ {σ1 : L2.St} {H1 : Hp} {s1 : Shared}, Inv (X.blk sc Hc scope ce fp) [] σ1 H1 s1 → (∀ b ∈ fp, H1 b = none) → ∀ b ∈ fp, FpOk (X.blk sc Hc scope ce fp) [] H1 b := fun {σ1 H1 s1} J1 nn b hb =>
    ⟨nn b hb, (J1.ok.exf b hb).1, J1.ok.exfs b hb, .inl hb, fun x c e => (J1.ok.exf b hb).2 x c e, fun p hp => absurd (show p ∈ ([] : List (Addr × Obj)) ++ [] from hp) (by simp)⟩
  refine codeAny_compStart_dict ?_ (T.self X.A 0 _ _ _ std ?_)
  all_goals
    refine compLoop_anyD (fun n s1 => ∃ i H1, Inv (X.blk sc Hc scope ce fp) [] (wipe σ (own.map (·.2))) H1 s1 ∧ tn i s1.heap ∧ (∀ b ∈ fp, H1 b = none) ∧ W i n H1) ?_ m0 ⟨0, Hc, Id, std, nfp, w0⟩
    rintro n s5 ⟨i, H5, I5, st5, n5, w5⟩
    rcases turn i n H5 w5 with ⟨stop, fine⟩ | ⟨go, Nx, less, step⟩
    · refine thnF (T.done (X.blk sc Hc scope ce fp) rfl rfl rfl hc i [] s5 _ H5 (fun _ _ => False) I5 (stat I5 n5) st5 stop) fun r s6 ⟨hr, I6⟩ => ?_
      subst hr
      have I7 : Inv X pins σ H5 s6 := Ic.call' (ch := fp) I6.os I6.base I6.hok I6.bare fun b hb => ⟨(fc b hb).1.2.2.2.1, (fc b hb).1.2.1, (fc b hb).1.2.2.2.2.1, (fc b hb).1.2.2.2.2.2⟩
      have nC : H5 sc.heap.objs.size = none := by
        rw [← cL]
        exact I6.free
      obtain ⟨mm, hmm, _⟩ := I6.loc
      have hm2 : s6.heap.Ns ce.locals mm := hmm
      rw [cL] at hm2
      refine ⟨mm, hm2, fun h2 sb2 => ?_⟩
      obtain ⟨f0, f1, _, f3, f4, f5⟩ := Ic.fpOk (Nat.le_refl _) nC
      exact ⟨.ref D, H5, I7.turned (t' := s6.toks) (fun b o hb e => (sb2.2 b hb).trans e) f0 f1 f3 f4 f5, rfl, fine⟩
    · refine thnF (T.item (X.blk sc Hc scope ce fp) rfl rfl rfl hc i [] s5 _ H5 (fun _ _ => False) I5 (stat I5 n5) st5 go) fun r s6 ⟨u, hr, more⟩ => ?_
      subst hr
      refine thnF more fun _ s7 ⟨x, H7, I7, rx, yx, st7, n7⟩ => ?_
      refine thnF (pg.run _ s7 _ H7 x u _ (I7.pinned (stat I7 n7) (T.obj _ _ st7)) rx (step x H7 yx)) fun _ s8 ⟨σ8, H8, I8, hw, q8⟩ => ?_
      have back : ∀ {s1 : Shared} {H1 : Hp}, Inv (X.blk sc Hc scope ce fp) ([] ++ pinsAt fp s7.heap) σ8 H1 s1 → Nx H1 → ∃ m, m < n ∧ ∃ i H1, Inv (X.blk sc Hc scope ce fp) [] (wipe σ (own.map (·.2))) H1 s1 ∧ tn i s1.heap ∧ (∀ b ∈ fp, H1 b = none) ∧ W i m H1 := fun {s1 H1} J1 nx => by
        obtain ⟨m1, l1, w1⟩ := less H1 nx
        have keep : ∀ b ∈ fp, ∀ o, s7.heap.get? b = some o → s1.heap.get? b = some o ∧ H1 b = none := fun b hb o e => by
          have z := J1.pin (b, o) (List.mem_append_right _ (List.mem_append_right _ (mem_pinsAt hb e)))
          exact ⟨z.1, z.2.1⟩
        refine ⟨m1, l1, i + 1, H1, (J1.unpinned (pins := [])).weak (by rw [← hw, wipe_length]) (fun j v e => ?_), T.keep _ _ _ st7 fun b hb o e => (keep b hb o e).1, fun b hb => ?_, w1⟩
        · rw [← hw] at e
          exact (wipe_some e).1
        · obtain ⟨o, e, _⟩ := T.obj _ _ st7 b hb
          exact (keep b hb o e).2
      refine thnF (pt.run _ s8 σ8 H8 _ I8 q8) fun b s9 ⟨H9, I9, q9⟩ => ?_
      cases b
      · simp only [Bool.false_eq_true, if_false] at q9 ⊢
        exact back I9 q9
      · simp only [if_true] at q9 ⊢
        refine thnF (pk.run _ s9 σ8 H9 _ I9 q9) fun z s10 ⟨yk, H10, I10, rk, q10⟩ => ?_
        refine thnF (pv.run _ s10 σ8 H10 _ I10 q10) fun z2 s11 ⟨yv, H11, I11, rz, kvs, ks, kb, ek, eb, eD, l11, nx⟩ => ?_
        subst ek
        cases rk
        exact put_t (X := X.blk sc Hc scope ce fp) hu I11 eD eb l11 rz fun s12 I12 => back I12 nx
end
end AE

set_option Elab.async false
set_option linter.all false
set_option maxRecDepth 100000
set_option maxHeartbeats 2000000
namespace AE
open PySem PySem.Spec PyProof.Rows L2 Evl
section
variable {X : Cx} {pins : List (Addr × Obj)} {σ : L2.St} {H : Hp} {s : Shared}
theorem setd_t {D b : Addr} {kvs : List (List Key × V)} {ks : List Key} {v : V} {r : Value} {Q : Value → Shared → Prop} {Er : Value → Shared → Prop} {A : Around} (hu : A.units + 1 < cLine) (I : Inv X pins σ H s) (hD : H D = some (.dT kvs)) (hb : H b = some (.tup (ks.map kV))) (hl : kvs.length < sizeLine)
    (rv : RelV v r) (h1 : ∀ x, valV kvs ks = some x → ∀ w1 s1, Inv X pins σ H s1 → RelV x w1 → Q w1 s1) (h2 : valV kvs ks = none → ∀ s1, Inv X pins σ (upd H D (.dT (putK kvs ks v))) s1 → Q r s1) :
    wpAny (model X.prog X.w) A (call (.builtin "dict.setdefault") [.ref D, .ref b, r]) Q Er s := by
  obtain ⟨_, hd, xs, rel, dd⟩ := dt_of I.hok hD
  have hx : xs.length ≤ sizeLine := by
    have e := Paired.length rel
    omega
  have hz : (putK kvs ks v).length ≤ sizeLine := Nat.le_trans (length_putK kvs ks v) (by omega)
  refine call_setdefault_heap (knd := tupleKind (mixKind X.prog X.w)) (hsz := hx) (tupleKind_room_in1 hu) (key_of I.hok hb) hd dd (fun p hp => ?_) fun hn h' dd1 hs => ?_
  · have q := rel.val ks
    rw [hp] at q
    cases q0 : valV kvs ks with
    | none => rw [q0] at q; exact q.elim
    | some x => rw [q0] at q; exact h1 x q0 _ _ (I.tok _) q
  · have q := rel.val ks
    rw [hn] at q
    cases q0 : valV kvs ks with
    | some x => rw [q0] at q; exact q.elim
    | none =>
      refine h2 q0 _ ?_
      obtain ⟨q, es, ep, hq, k2, k3, k4, _, k5⟩ := dd1
      exact d_write I (by rw [hD]; trivial) hs ⟨q, hq⟩ ⟨hz, hd, _, (rel.put ks hb rv).keeps fun c ys ec => by rw [upd_ne (ne_of ec hD (by intro z; cases z))]; exact ec, q, es, ep, hq, k2, k3, k4, k5⟩
end
def tSetdT (td ty tx : TE) : TE := fun σ H Q => td σ H fun x Ha => ∃ a, x = .ref a ∧ IsD Ha a ∧ ty σ Ha fun y Hb => tx σ Hb fun z Hc => ∃ (kvs : List (List Key × V)) (k : List Key) (b : Addr), Hc a = some (.dT kvs) ∧ y = .ref b ∧ Hc b = some (.tup (k.map kV)) ∧ kvs.length < sizeLine ∧
  (∀ v, valV kvs k = some v → Q v Hc) ∧ (valV kvs k = none → Q z (upd Hc a (.dT (putK kvs k z))))
section
variable {X : Cx} {o e f : Expr} {td ty tx : TE} {apos cpos : Pos}
theorem pe_setdT (hu : X.A.units + 1 < cLine) (ho : PE X o td) (he : PE X e ty) (hf : PE X f tx) (m : M2 X o "setdefault" apos e f cpos) : PE X (.Call (.Attribute o "setdefault" apos) [e, f] [] cpos) (tSetdT td ty tx) := by
  refine ⟨fun pins s σ H Q I h => ?_⟩
  refine wpAny_Call_method m.base m.few m.line PySem.F.plainAttrs_dict PySem.F.slot_dict_setdefault PySem.F.type_dict_setdefault (thn (ho.run pins s σ H _ I h) fun u sa ⟨x, Ha, Ia, rx, a, ex, d, q1⟩ => ?_)
  subst ex
  cases rx
  obtain ⟨t1, t2, _⟩ := isD_at Ia d
  refine ⟨t1, t2, ?_⟩
  rw [m.trees]
  refine Calls.callWith_builtin rfl (Calls.evalArgs_plain (Calls.spliced_cons (thn (he.run pins sa σ Ha _ Ia q1) fun iv sb ⟨y, Hb, Ib, ry, q2⟩ => Calls.spliced_cons (thn (hf.run pins sb σ Hb _ Ib q2) fun fv sc hc => Calls.spliced_nil ?_))))
  obtain ⟨z, Hc, Ic, rz, kvs, k, b, ea, ey, eb, hl, q3, q4⟩ := hc
  subst ey
  cases ry
  exact setd_t hu Ic ea eb hl rz (fun v hv w1 s1 I1 r1 => ⟨v, _, I1, r1, q3 v hv⟩) fun hn s1 I1 => ⟨z, _, I1, rz, q4 hn⟩
end
/-! sorted texts of any number -/
section
variable {X : Cx}
def rSortA (K : PySem.W.Frag) : List V → Hp → VK → Prop := fun vs H Q => ∃ (a : Addr) (xs : List Str), vs = [V.ref a] ∧ SqL K H a (xs.map V.str) ∧ xs.length ≤ sizeLine ∧
  ∀ (ys : List Str) (p : Addr), ys.Perm xs → sortedS ys = true → H p = none → Q (.ref p) (upd H p (.lst (ys.map V.str)))
theorem c_sorted : CallR X (.builtin "sorted") (rSortA X.K) := by
  rintro pins s σ H vs us Q I r ⟨a, xs, rfl, hs, hz, q⟩
  obtain ⟨its, rv, hl, _⟩ := I.list hs
  rw [Vals.ref1 r]
  have n0 := rv.length
  rw [List.length_map] at n0
  refine sorted_strsAny hl.isList rv.strs (by omega) fun out ys g1 g2 g3 => ?_
  obtain ⟨ep, hat⟩ := PyProof.Rows.sortedAll_at s.heap its out
  have nz : (ys.map V.str).length ≤ sizeLine := by
    rw [List.length_map, g2.length_eq]
    exact hz
  refine ⟨.ref _, upd H (s.heap.objs.size + 1) (.lst (ys.map V.str)), ?_, rfl, q ys _ g2 g3 (I.hok.fresh (Nat.le_succ _))⟩
  exact I.laid (t' := s.toks) (fun _ _ => PyProof.Rows.sortedAll_old) (Nat.le_succ _) ⟨nz, out.toList, ep, vals_of_strs g1, hat⟩
def rStr : List V → Hp → VK → Prop := fun xs H Q => ∃ a, xs = [.str a] ∧ Q (.str a) H
theorem c_str : CallR X (.type "str") rStr := SkE.call_str_str
end
end AE

set_option Elab.async false
set_option linter.all false
set_option maxRecDepth 100000
namespace AE
open PySem PySem.Spec PyProof.Rows L2 Evl
/-! ### steps and their order -/
abbrev StepD := Int × Str × Int
def stepV (s : StepD) : List V := [.int s.1, .str s.2.1, .int s.2.2]
theorem stepV_sc (s : StepD) : (stepV s).all isSc = true := rfl
def ltS (a b : StepD) : Prop := a.1 < b.1 ∨ (a.1 = b.1 ∧ (a.2.1.cps.toList < b.2.1.cps.toList ∨ (a.2.1 = b.2.1 ∧ a.2.2 < b.2.2)))
structure OkS (n : Int) (s : StepD) : Prop where
  s0 : 0 ≤ s.1
  s1 : s.1 < n
  a0 : 1 ≤ s.2.1.length
  a1 : s.2.1.length ≤ 8
  al : ∀ c ∈ s.2.1.cps.toList, 97 ≤ c ∧ c ≤ 122
  e0 : 0 ≤ s.2.2
  e1 : s.2.2 < n
def keyS (s : StepD) : Str := ((Str.empty ++ p3 s.1) ++ pad8 s.2.1) ++ p3 s.2.2
theorem lex_app {a b x y : List Nat} (h : a < b) (l : a.length = b.length) : a ++ x < b ++ y := by
  induction a generalizing b with
  | nil =>
    cases b with
    | nil => exact absurd h (by simp)
    | cons _ _ => cases l
  | cons p r ih =>
    cases b with
    | nil => cases l
    | cons q t =>
      rw [List.cons_append, List.cons_append, List.cons_lt_cons_iff]
      rw [List.cons_lt_cons_iff] at h
      rcases h with h | ⟨h, k⟩
      · exact .inl h
      · exact .inr ⟨h, ih k (by simpa using l)⟩
theorem lex_pre {a x y : List Nat} (h : x < y) : a ++ x < a ++ y := by
  induction a with
  | nil => exact h
  | cons p r ih =>
    rw [List.cons_append, List.cons_append, List.cons_lt_cons_iff]
    exact .inr ⟨rfl, ih⟩
def d3 (a : Int) : List Nat := [48 + (a / 100).toNat, 48 + (a / 10 % 10).toNat, 48 + (a % 10).toNat]
def padL (x : Str) : List Nat := x.cps.toList ++ List.replicate (8 - x.length) 32
theorem key_list (s : StepD) : (keyS s).cps.toList = d3 s.1 ++ (padL s.2.1 ++ d3 s.2.2) := by
  unfold keyS
  rw [Str.cps_append, Str.cps_append, Str.cps_append]
  simp [Str.empty, p3, pad8, d3, padL]
theorem d3_lt {a b : Int} (h0 : 0 ≤ a) (h1 : b < 1000) (h : a < b) : d3 a < d3 b := by
  unfold d3
  rw [List.cons_lt_cons_iff, List.cons_lt_cons_iff, List.cons_lt_cons_iff]
  by_cases h2 : a / 100 < b / 100
  · exact .inl (by omega)
  · refine .inr ⟨by omega, ?_⟩
    by_cases h3 : a / 10 % 10 < b / 10 % 10
    · exact .inl (by omega)
    · exact .inr ⟨by omega, .inl (by omega)⟩
theorem pad_lt {x y : List Nat} (hx : ∀ c ∈ x, 97 ≤ c) (hy : ∀ c ∈ y, 97 ≤ c) (lx : x.length ≤ 8) (ly : y.length ≤ 8) (h : x < y) : x ++ List.replicate (8 - x.length) 32 < y ++ List.replicate (8 - y.length) 32 := by
  generalize 8 = m at lx ly
  induction x generalizing y m with
  | nil =>
    cases y with
    | nil => exact absurd h (by simp)
    | cons q t =>
      cases m with
      | zero => cases ly
      | succ m =>
        show List.replicate (m + 1) 32 < q :: (t ++ _)
        rw [List.replicate_succ, List.cons_lt_cons_iff]
        have := hy q (List.mem_cons_self ..)
        exact .inl (by omega)
  | cons p r ih =>
    cases y with
    | nil => exact absurd h (by simp)
    | cons q t =>
      rw [List.cons_lt_cons_iff] at h
      rw [List.cons_append, List.cons_append, List.cons_lt_cons_iff]
      rcases h with h | ⟨h, k⟩
      · exact .inl h
      · refine .inr ⟨h, ?_⟩
        cases m with
        | zero => cases ly
        | succ m =>
          have e := ih (y := t) (fun c hc => hx c (List.mem_cons_of_mem _ hc)) (fun c hc => hy c (List.mem_cons_of_mem _ hc)) k m (by simpa using lx) (by simpa using ly)
          rw [List.length_cons, List.length_cons, Nat.add_sub_add_right, Nat.add_sub_add_right]
          exact e
theorem key_lt {n : Int} (hn : n ≤ 200) {a b : StepD} (oa : OkS n a) (ob : OkS n b) (h : ltS a b) : (keyS a).cps.toList < (keyS b).cps.toList := by
  rw [key_list, key_list]
  have := oa.s1; have := ob.s1; have := oa.e1; have := ob.e1
  rcases h with h | ⟨e, h | ⟨e2, h⟩⟩
  · exact lex_app (d3_lt oa.s0 (by omega) h) rfl
  · rw [e]
    refine lex_pre (lex_app (pad_lt (fun c hc => (oa.al c hc).1) (fun c hc => (ob.al c hc).1) oa.a1 ob.a1 h) ?_)
    have la := oa.a1
    have lb := ob.a1
    have ea : a.2.1.cps.toList.length = a.2.1.length := rfl
    have eb : b.2.1.cps.toList.length = b.2.1.length := rfl
    unfold padL
    rw [List.length_append, List.length_append, List.length_replicate, List.length_replicate, ea, eb]
    omega
  · rw [e, e2]
    exact lex_pre (lex_pre (d3_lt oa.e0 (by omega) h))
theorem ltS_irrefl (a : StepD) : ¬ ltS a a := by
  rintro (h | ⟨_, h | ⟨_, h⟩⟩)
  · exact absurd h (by omega)
  · exact List.lt_irrefl _ h
  · exact absurd h (by omega)
theorem ltS_trans {a b c : StepD} (h : ltS a b) (k : ltS b c) : ltS a c := by
  rcases h with h | ⟨e, h | ⟨e2, h⟩⟩
  · rcases k with k | ⟨f, k⟩
    · exact .inl (by omega)
    · exact .inl (by omega)
  · rcases k with k | ⟨f, k | ⟨f2, k⟩⟩
    · exact .inl (by omega)
    · exact .inr ⟨by omega, .inl (List.lt_trans h k)⟩
    · exact .inr ⟨by omega, .inl (by rw [← f2]; exact h)⟩
  · rcases k with k | ⟨f, k | ⟨f2, k⟩⟩
    · exact .inl (by omega)
    · exact .inr ⟨by omega, .inl (by rw [e2]; exact k)⟩
    · exact .inr ⟨by omega, .inr ⟨e2.trans f2, by omega⟩⟩
theorem ltS_tri (a b : StepD) : ltS a b ∨ a = b ∨ ltS b a := by
  rcases Int.lt_trichotomy a.1 b.1 with h | h | h
  · exact .inl (.inl h)
  · by_cases h2 : a.2.1.cps.toList < b.2.1.cps.toList
    · exact .inl (.inr ⟨h, .inl h2⟩)
    · by_cases h3 : b.2.1.cps.toList < a.2.1.cps.toList
      · exact .inr (.inr (.inr ⟨h.symm, .inl h3⟩))
      · have e : a.2.1.cps.toList = b.2.1.cps.toList := List.le_antisymm (List.not_lt.mp h3) (List.not_lt.mp h2)
        have e2 : a.2.1 = b.2.1 := Str.ext' (Array.toList_inj.mp e)
        rcases Int.lt_trichotomy a.2.2 b.2.2 with h4 | h4 | h4
        · exact .inl (.inr ⟨h, .inr ⟨e2, h4⟩⟩)
        · exact .inr (.inl (by
            obtain ⟨x, y, z⟩ := a
            obtain ⟨x', y', z'⟩ := b
            simp only at h e2 h4
            rw [h, e2, h4]))
        · exact .inr (.inr (.inr ⟨h.symm, .inr ⟨e2.symm, h4⟩⟩))
  · exact .inr (.inr (.inl h))
theorem key_inj {n : Int} (hn : n ≤ 200) {a b : StepD} (oa : OkS n a) (ob : OkS n b) (h : keyS a = keyS b) : a = b := by
  rcases ltS_tri a b with k | k | k
  · exact absurd (key_lt hn oa ob k) (by rw [h]; exact List.lt_irrefl _)
  · exact k
  · exact absurd (key_lt hn ob oa k) (by rw [h]; exact List.lt_irrefl _)
/-- two rising rows of the same steps are one -/
theorem rows_eq : ∀ {xs ys : List StepD}, xs.Pairwise ltS → ys.Pairwise ltS → (∀ s, s ∈ xs ↔ s ∈ ys) → xs = ys
  | [], [], _, _, _ => rfl
  | [], y :: ys, _, _, h => absurd ((h y).mpr (List.mem_cons_self ..)) (by simp)
  | x :: xs, [], _, _, h => absurd ((h x).mp (List.mem_cons_self ..)) (by simp)
  | x :: xs, y :: ys, hx, hy, h => by
    rw [List.pairwise_cons] at hx hy
    have e : x = y := by
      rcases List.mem_cons.mp ((h x).mp (List.mem_cons_self ..)) with e | m
      · exact e
      · rcases List.mem_cons.mp ((h y).mpr (List.mem_cons_self ..)) with e | m2
        · exact e.symm
        · exact absurd (ltS_trans (hx.1 y m2) (hy.1 x m)) (ltS_irrefl _)
    subst e
    rw [rows_eq hx.2 hy.2 fun s => ⟨fun m => ?_, fun m => ?_⟩]
    · rcases List.mem_cons.mp ((h s).mp (List.mem_cons_of_mem _ m)) with e | m2
      · subst e
        exact absurd (hx.1 s m) (ltS_irrefl _)
      · exact m2
    · rcases List.mem_cons.mp ((h s).mpr (List.mem_cons_of_mem _ m)) with e | m2
      · subst e
        exact absurd (hy.1 s m) (ltS_irrefl _)
      · exact m2
end AE

set_option Elab.async false
set_option linter.all false
set_option maxRecDepth 100000
namespace AE
open PySem PySem.Spec PyProof.Rows L2 Evl
section
variable {X : Cx}
theorem pe_gi {x : Str} {i : Int} {t : Tok} {pos : Pos} (hg : Gl X x) (hm : X.mg x = some (.int i t)) (hd : (x == ("__debug__" : Str)) = false := by decide) : PE X (.Name x pos) (tC (.int i)) := pe_glob hg hm ⟨t, rfl⟩ hd
def SqA (K : PySem.W.Frag) (H : Hp) (a : Addr) (xs : List V) : Prop := SqL K H a xs ∨ SqT K H a xs
theorem SqA.ex {K : PySem.W.Frag} {H H' : Hp} {a : Addr} {xs : List V} (e : Ex H H') (h : SqA K H a xs) : SqA K H' a xs := h.imp (ex_l e) (ex_t e)
def iSeq (K : PySem.W.Frag) (te : TE) : TI := fun σ H R => iList K te σ H R ∨ iTup K te σ H R
theorem pi_seq {tg l : Expr} {tl : TE} (h : PE X l tl) : PI X tg l (iSeq X.K tl) := by
  refine ⟨fun pins s σ H R I q => ?_⟩
  rcases q with q | q
  · exact (pi_list h).run pins s σ H R I q
  · exact (pi_tup h).run pins s σ H R I q
end
section
variable {K : PySem.W.Frag} {σ : L2.St} {H : Hp} {Q : VK} {D : Ends} {te tk tv : TE} {t : TT} {tz : TS} {g : TG} {i : Nat} {a : Addr} {xs : List V}
/-- a for over the list or tuple in slot i -/
theorem for_seq (h0 : σ[i]? = some (some (.ref a))) (hx : SqA K H a xs) (Pv : Nat → L2.St → Hp → Prop) (hP : Pv 0 σ H) (hl : ∀ j σ' H', j ≤ xs.length → Pv j σ' H' → Ex H H')
    (hs : ∀ j x σ' H', xs[j]? = some x → Pv j σ' H' → g x σ' H' fun σ2 H2 => tz { D with nx := Pv (j + 1), ct := Pv (j + 1), bk := D.nx } σ2 H2)
    (hd : ∀ σ' H', Pv xs.length σ' H' → D.nx σ' H') : tFor (iSeq K (tVar i)) g tz D σ H := by
  rcases hx with hx | hx
  · exact .inl ⟨_, h0, a, rfl, ⟨xs, hx⟩, for_list Pv hP (fun j σ' H' hj p => ex_l (hl j σ' H' hj p) hx) hs hd⟩
  · exact .inr ⟨_, h0, a, rfl, ⟨xs, hx⟩, for_tup Pv hP (fun j σ' H' hj p => ex_t (hl j σ' H' hj p) hx) hs hd⟩
theorem for_t (h0 : σ[i]? = some (some (.ref a))) (hx : SqT K H a xs) (Pv : Nat → L2.St → Hp → Prop) (hP : Pv 0 σ H) (hl : ∀ j σ' H', j ≤ xs.length → Pv j σ' H' → SqT K H' a xs)
    (hs : ∀ j x σ' H', xs[j]? = some x → Pv j σ' H' → g x σ' H' fun σ2 H2 => tz { D with nx := Pv (j + 1), ct := Pv (j + 1), bk := D.nx } σ2 H2)
    (hd : ∀ σ' H', Pv xs.length σ' H' → D.nx σ' H') : tFor (iTup K (tVar i)) g tz D σ H :=
  ⟨_, h0, a, rfl, ⟨xs, hx⟩, for_tup Pv hP hl hs hd⟩
/-- the walk of a dict comprehension, keys ints or texts, over a list or tuple in slot i -/
theorem dc_seq {vs : List Nat} (h0 : σ[i]? = some (some (.ref a))) (hx : SqA K H a xs) (Pv : Addr → Nat → Hp → Prop) (hP : ∀ D, H D = none → Pv D 0 (upd H D (.dK []))) (hl : ∀ D j H', Pv D j H' → Ex H H')
    (hs : ∀ D j x H', xs[j]? = some x → Pv D j H' → g x (wipe σ vs) H' fun σ2 H2 => wipe σ2 vs = wipe σ vs ∧ t σ2 H2 fun b H3 =>
      if b = true then tk σ2 H3 fun y H4 => tv σ2 H4 fun z H5 => ∃ kvs k, y = kV k ∧ H5 D = some (.dK kvs) ∧ kvs.length < sizeLine ∧ Pv D (j + 1) (upd H5 D (.dK (putK kvs k z))) else Pv D (j + 1) H3)
    (hd : ∀ D H', Pv D xs.length H' → Q (.ref D) H') : tDc (iSeq K (tVar i)) g t tk tv vs σ H Q := by
  rcases hx with hx | hx
  · refine .inl ⟨_, h0, a, rfl, ⟨xs, hx⟩, fun D hD => ?_⟩
    refine ⟨fun j m H' => m = xs.length - j ∧ j ≤ xs.length ∧ Pv D j H', ⟨xs.length, by simp, Nat.zero_le _, hP D hD⟩, ?_⟩
    rintro j m H' ⟨rfl, hj, p⟩
    have q := ex_l (hl D j H' p) hx
    by_cases hlt : j < xs.length
    · refine .inr ⟨⟨xs, xs[j], q, by simp [hlt]⟩, Pv D (j + 1), fun H2 p2 => ⟨xs.length - (j + 1), by omega, rfl, hlt, p2⟩, fun x H2 y => ?_⟩
      obtain ⟨e, y⟩ := y
      subst e
      exact hs D j x _ (y xs q) p
    · have e : j = xs.length := by omega
      subst e
      exact .inl ⟨⟨xs, q, Nat.le_refl _⟩, hd D H' p⟩
  · exact .inr ⟨_, h0, a, rfl, ⟨xs, hx⟩, fun D hD => dc_tup (Pv D) (hP D hD) (fun j H' _ p => ex_t (hl D j H' p) hx) (hs D) (hd D)⟩
end
end AE

set_option Elab.async false
set_option linter.all false
set_option maxRecDepth 100000
namespace AE
open PySem PySem.Spec PyProof.Rows L2 Evl
section
variable {K : PySem.W.Frag} {σ : L2.St} {H : Hp} {Q : VK} {ta tb te : TE} {t : TT} {i j : Nat} {a : Addr} {xs : List V} {x y v : V} {J : It} {n : Nat} {G : Hp → Prop}
theorem r_andV (q : ta σ H fun x H1 => ∃ c, x = .bl c ∧ if c = true then tb σ H1 Q else Q (.bl false) H1) : tAndV ta tb σ H Q := q
theorem r_orV (q : ta σ H fun x H1 => ∃ c, x = .bl c ∧ if c = true then Q (.bl true) H1 else tb σ H1 Q) : tOrV ta tb σ H Q := q
theorem r_notV (q : ta σ H fun x H1 => ∃ c, x = .bl c ∧ Q (.bl (!c)) H1) : tNotV ta σ H Q := q
theorem r_ifE (q : t σ H fun c H1 => if c = true then ta σ H1 Q else tb σ H1 Q) : tIf t ta tb σ H Q := q
/-- a comprehension whose tests and items are values: what is made -/
theorem lcp {vs : List Nat} (w : Walk J n G (YAt xs)) (hn : n = xs.length) (hz : xs.length ≤ 1000000) {D : Addr} (hD : H D = none) (hG : ∀ H', Ex H H' → G H') (hw : ∀ x, wipe ((wipe σ vs).set j (some x)) vs = wipe σ vs) (p : V → Bool) (f : V → V)
    (ht : ∀ x ∈ xs, ∀ H1, Ex H H1 → ∀ R : Bool → Hp → Prop, (∀ H2, Ex H1 H2 → R (p x) H2) → t ((wipe σ vs).set j (some x)) H1 R)
    (he : ∀ x ∈ xs, p x = true → ∀ H1, Ex H H1 → ∀ R : VK, (∀ H2, Ex H1 H2 → R (f x) H2) → te ((wipe σ vs).set j (some x)) H1 R)
    {Qd : Hp → Prop} (k : ∀ H1, Ex H H1 → H1 D = some (.lst ((xs.filter p).map f)) → Qd H1) :
    ∃ W : Nat → Nat → Hp → Prop, (∃ m, W 0 m (upd H D (.lst []))) ∧ ∀ i m Ha, W i m Ha →
      (J.stop i Ha ∧ Qd Ha) ∨ (J.go i Ha ∧ ∃ Nx : Hp → Prop, (∀ Hb, Nx Hb → ∃ m', m' < m ∧ W (i + 1) m' Hb) ∧ ∀ x Hb, J.yld i Ha x Hb → gName j x (wipe σ vs) Hb fun σ2 Hc => wipe σ2 vs = wipe σ vs ∧ t σ2 Hc fun b Hd =>
        if b = true then te σ2 Hd fun y He => ∃ acc, He D = some (.lst acc) ∧ acc.length < sizeLine ∧ Nx (upd He D (.lst (acc ++ [y]))) else Nx Hd) := by
  have fl : ∀ m, ((xs.take m).filter p).length ≤ 1000000 := fun m => by
    have := List.length_filter_le p (xs.take m)
    have := List.length_take_le m xs
    have : (xs.take m).length ≤ xs.length := by rw [List.length_take]; omega
    omega
  refine lc_it w (fun m Ha => Ex H Ha ∧ Ha D = some (.lst (((xs.take m).filter p).map f))) ⟨Ex.new hD, upd_same⟩ (fun m Ha _ z => hG Ha z.1) ?_ fun Ha z => ?_
  · rintro m y Ha Hb hm ⟨e1, e2⟩ ⟨rfl, hy⟩
    have hin : y ∈ xs := List.mem_of_getElem? hy
    refine ⟨hw y, ht y hin Hb e1 _ fun Hc e3 => ?_⟩
    have tk : xs.take (m + 1) = xs.take m ++ [y] := by
      rw [List.take_add_one, hy]
      rfl
    cases hp : p y with
    | true =>
      refine ite_t rfl (he y hin hp Hc (e1.trans e3) _ fun Hd e4 => ?_)
      refine ⟨_, e4 _ _ (e3 _ _ e2), by rw [List.length_map]; exact sz_lt' (fl m), ex_upd ((e1.trans e3).trans e4) hD, ?_⟩
      rw [upd_same, tk, List.filter_append, List.filter_cons, if_pos hp, List.map_append]
      rfl
    | false =>
      refine ite_f rfl ⟨e1.trans e3, ?_⟩
      rw [e3 _ _ e2, tk, List.filter_append, List.filter_cons, if_neg (by rw [hp]; decide), List.filter_nil, List.append_nil]
  · refine k Ha z.1 ?_
    rw [z.2, hn, List.take_length]
where
  sz_lt' {n : Nat} (h : n ≤ 1000000) : n < sizeLine := Nat.lt_of_le_of_lt h (by decide)
/-- over a list that is read in slot i -/
theorem lc_l {vs : List Nat} (p : V → Bool) (f : V → V) (hv : ∀ R : VK, R (.ref a) H → ta σ H R) (hx : SqL K H a xs) (hz : xs.length ≤ 1000000) (hw : ∀ x, wipe ((wipe σ vs).set j (some x)) vs = wipe σ vs)
    (ht : ∀ x ∈ xs, ∀ H1, Ex H H1 → ∀ R : Bool → Hp → Prop, (∀ H2, Ex H1 H2 → R (p x) H2) → t ((wipe σ vs).set j (some x)) H1 R)
    (he : ∀ x ∈ xs, p x = true → ∀ H1, Ex H H1 → ∀ R : VK, (∀ H2, Ex H1 H2 → R (f x) H2) → te ((wipe σ vs).set j (some x)) H1 R)
    (k : ∀ D H1, H D = none → Ex H H1 → H1 D = some (.lst ((xs.filter p).map f)) → Q (.ref D) H1) : tLc (iList K ta) (gName j) t te vs σ H Q :=
  hv _ ⟨a, rfl, ⟨xs, hx⟩, fun D hD => lcp (walk_list (K := K) (a := a) (xs := xs)) rfl hz hD (fun _ e => ex_l e hx) hw p f ht he fun H1 e h => k D H1 hD e h⟩
theorem lc_t {vs : List Nat} (p : V → Bool) (f : V → V) (hv : ∀ R : VK, R (.ref a) H → ta σ H R) (hx : SqT K H a xs) (hz : xs.length ≤ 1000000) (hw : ∀ x, wipe ((wipe σ vs).set j (some x)) vs = wipe σ vs)
    (ht : ∀ x ∈ xs, ∀ H1, Ex H H1 → ∀ R : Bool → Hp → Prop, (∀ H2, Ex H1 H2 → R (p x) H2) → t ((wipe σ vs).set j (some x)) H1 R)
    (he : ∀ x ∈ xs, p x = true → ∀ H1, Ex H H1 → ∀ R : VK, (∀ H2, Ex H1 H2 → R (f x) H2) → te ((wipe σ vs).set j (some x)) H1 R)
    (k : ∀ D H1, H D = none → Ex H H1 → H1 D = some (.lst ((xs.filter p).map f)) → Q (.ref D) H1) : tLc (iTup K ta) (gName j) t te vs σ H Q :=
  hv _ ⟨a, rfl, ⟨xs, hx⟩, fun D hD => lcp (walk_tup (K := K) (a := a) (xs := xs)) rfl hz hD (fun _ e => ex_t e hx) hw p f ht he fun H1 e h => k D H1 hD e h⟩
def signsV (z : Str) : List V := z.cps.toList.map fun c => .str ⟨#[c]⟩
theorem lc_s {vs : List Nat} {z : Str} (p : V → Bool) (f : V → V) (hv : ∀ R : VK, R (.str z) H → ta σ H R) (hz : z.length ≤ 1000000) (hw : ∀ x, wipe ((wipe σ vs).set j (some x)) vs = wipe σ vs)
    (ht : ∀ x ∈ signsV z, ∀ H1, Ex H H1 → ∀ R : Bool → Hp → Prop, (∀ H2, Ex H1 H2 → R (p x) H2) → t ((wipe σ vs).set j (some x)) H1 R)
    (he : ∀ x ∈ signsV z, p x = true → ∀ H1, Ex H H1 → ∀ R : VK, (∀ H2, Ex H1 H2 → R (f x) H2) → te ((wipe σ vs).set j (some x)) H1 R)
    (k : ∀ D H1, H D = none → Ex H H1 → H1 D = some (.lst (((signsV z).filter p).map f)) → Q (.ref D) H1) : tLc (iStr ta) (gName j) t te vs σ H Q := by
  have ln : (signsV z).length = z.cps.size := by unfold signsV; rw [List.length_map, Array.length_toList]
  refine hv _ ⟨z, rfl, fun D hD => lcp (xs := signsV z) (walk_str.mono (G' := fun _ => True) (fun _ h => h) fun i Ha x Hb _ _ y => ?_) ln.symm (by rw [ln]; exact hz) hD (fun _ _ => trivial) hw p f ht he fun H1 e h => k D H1 hD e h⟩
  obtain ⟨e, c, hc, rfl⟩ := y
  refine ⟨e, ?_⟩
  unfold signsV
  rw [List.getElem?_map, Array.getElem?_toList, hc]
  rfl
def intsV (n : Nat) : List V := (List.range n).map fun (k : Nat) => V.int (k : Int)
theorem lc_r {vs : List Nat} {tn : TA} {n : Int} (p : V → Bool) (f : V → V) (hv : ∀ R : List V → Hp → Prop, R [.int n] H → tn σ H R) (hz : 0 ≤ n ∧ n ≤ 1000000) (hw : ∀ x, wipe ((wipe σ vs).set j (some x)) vs = wipe σ vs)
    (ht : ∀ x ∈ intsV n.toNat, ∀ H1, Ex H H1 → ∀ R : Bool → Hp → Prop, (∀ H2, Ex H1 H2 → R (p x) H2) → t ((wipe σ vs).set j (some x)) H1 R)
    (he : ∀ x ∈ intsV n.toNat, p x = true → ∀ H1, Ex H H1 → ∀ R : VK, (∀ H2, Ex H1 H2 → R (f x) H2) → te ((wipe σ vs).set j (some x)) H1 R)
    (k : ∀ D H1, H D = none → Ex H H1 → H1 D = some (.lst (((intsV n.toNat).filter p).map f)) → Q (.ref D) H1) : tLc (iRng1 tn) (gName j) t te vs σ H Q := by
  have ln : (intsV n.toNat).length = n.toNat := by unfold intsV; rw [List.length_map, List.length_range]
  refine hv _ ⟨n, rfl, by omega, by omega, fun D hD => lcp (xs := intsV n.toNat) ((walk_range (lo := 0) (n := n.toNat)).mono (G' := fun _ => True) (fun _ h => h) fun i Ha x Hb hi _ y => ?_) ln.symm (by rw [ln]; omega) hD (fun _ _ => trivial) hw p f ht he fun H1 e h => k D H1 hD e h⟩
  obtain ⟨e, rfl⟩ := y
  refine ⟨e, ?_⟩
  unfold intsV
  rw [List.getElem?_map, List.getElem?_range hi]
  show some (V.int (i : Int)) = some (V.int (0 + (i : Int)))
  rw [Int.zero_add]
theorem yes_t {xs : List V} {vs : List Nat} : ∀ x ∈ xs, ∀ H1, Ex H H1 → ∀ R : Bool → Hp → Prop, (∀ H2, Ex H1 H2 → R ((fun _ => true) x) H2) → tYes ((wipe σ vs).set j (some x)) H1 R := fun _ _ H1 _ _ k => k H1 (Ex.refl H1)
theorem filter_yes (l : List V) : l.filter (fun _ => true) = l := List.filter_eq_self.mpr fun _ _ => rfl
end
end AE

set_option Elab.async false
set_option linter.all false
set_option maxRecDepth 100000
namespace AE
open PySem PySem.Spec PyProof.Rows L2 Evl
section
variable {κ : Type} [DecidableEq κ]
theorem keys_put (kvs : List (κ × V)) (k : κ) (v : V) : (putK kvs k v).map (·.1) = if k ∈ kvs.map (·.1) then kvs.map (·.1) else kvs.map (·.1) ++ [k] := by
  unfold putK
  by_cases h : (kvs.any fun kv => decide (kv.1 = k)) = true
  · have m : k ∈ kvs.map (·.1) := by
      obtain ⟨p, hp, e⟩ := List.any_eq_true.mp h
      exact List.mem_map.mpr ⟨p, hp, of_decide_eq_true e⟩
    rw [if_pos h, if_pos m, List.map_map]
    refine List.map_congr_left fun p hp => ?_
    show (if p.1 = k then (p.1, v) else p).1 = p.1
    split <;> rfl
  · have m : ¬ k ∈ kvs.map (·.1) := fun m => by
      obtain ⟨p, hp, e⟩ := List.mem_map.mp m
      exact h (List.any_eq_true.mpr ⟨p, hp, decide_eq_true e⟩)
    rw [if_neg h, if_neg m, List.map_append]
    rfl
theorem nd_put {kvs : List (κ × V)} (k : κ) (v : V) (h : (kvs.map (·.1)).Nodup) : ((putK kvs k v).map (·.1)).Nodup := by
  rw [keys_put]
  split
  · exact h
  · rename_i m
    exact nd_snoc h m
theorem val_some {kvs : List (κ × V)} {k : κ} : (valV kvs k).isSome = true ↔ k ∈ kvs.map (·.1) := by
  rw [← valV_any]
  constructor
  · intro h
    obtain ⟨p, hp, e⟩ := List.any_eq_true.mp h
    exact List.mem_map.mpr ⟨p, hp, of_decide_eq_true e⟩
  · intro h
    obtain ⟨p, hp, e⟩ := List.mem_map.mp h
    exact List.any_eq_true.mpr ⟨p, hp, decide_eq_true e⟩
theorem len_put (kvs : List (κ × V)) (k : κ) (v : V) : (putK kvs k v).length ≤ kvs.length + 1 := length_putK kvs k v
end
theorem tx_dk {H : Hp} {D : Addr} {kvs : List (Key × V)} {o : HO} (h : H D = some (.dK kvs)) : Tx H (upd H D o) := fun a xs e => by
  rw [upd_ne (ne_of e h (by intro z; cases z))]
  exact e
theorem tx_dt {H : Hp} {D : Addr} {kvs : List (List Key × V)} {o : HO} (h : H D = some (.dT kvs)) : Tx H (upd H D o) := fun a xs e => by
  rw [upd_ne (ne_of e h (by intro z; cases z))]
  exact e
theorem tx_lst {H : Hp} {D : Addr} {ys : List V} {o : HO} (h : H D = some (.lst ys)) : Tx H (upd H D o) := fun a xs e => by
  rw [upd_ne (ne_of e h (by intro z; cases z))]
  exact e
section
variable {K : PySem.W.Frag} {σ : L2.St} {H : Hp} {Q : VK} {ta tb te : TE} {t : TT} {i j : Nat} {d : Addr} {kvs : List (Key × V)}
/-- back from under the lock -/
theorem ex_lock {H H1 : Hp} {d : Addr} {od : Obj} {u : HO} (h : H d = some u) (e : Ex (upd H d (.frz od u)) H1) : Ex H (upd H1 d u) := fun a o ha => by
  by_cases z : a = d
  · subst z
    rw [upd_same]
    rw [h] at ha
    exact ha
  · rw [upd_ne z]
    exact e a o (by rw [upd_ne z]; exact ha)
/-- [e for k in d], the items values -/
theorem lc_k {vs : List Nat} (f : V → V) (hv : ∀ H1, ∀ R : VK, R (.ref d) H1 → ta σ H1 R) (hd : H d = some (.dK kvs)) (hz : kvs.length ≤ 1000000) (hw : ∀ x, wipe ((wipe σ vs).set j (some x)) vs = wipe σ vs)
    (he : ∀ x ∈ kvs.map (fun kv => kV kv.1), ∀ H1, ∀ R : VK, R (f x) H1 → te ((wipe σ vs).set j (some x)) H1 R)
    (k : ∀ D H1, H D = none → Ex H H1 → H1 D = some (.lst ((kvs.map fun kv => kV kv.1).map f)) → Q (.ref D) H1) : tLockE (tLc (iKeys ta) (gName j) tYes te vs) σ H Q := by
  refine ⟨d, .dK kvs, hd, trivial, fun od => hv _ _ ⟨d, od, rfl, .inl ⟨kvs, upd_same, fun D hD => ?_⟩⟩⟩
  have hDd : D ≠ d := fun z => by subst z; rw [upd_same] at hD; cases hD
  have hD0 : H D = none := by rw [upd_ne hDd] at hD; exact hD
  refine lcp (H := upd H d (.frz od (.dK kvs))) (xs := kvs.map fun kv => kV kv.1) ((walk_keys (d := d) (o := od) (kvs := kvs)).mono (G' := fun Ha => Ha d = some (.frz od (.dK kvs))) (fun _ h => h) fun i Ha x Hb _ _ y => ?_) (List.length_map ..).symm (by rw [List.length_map]; exact hz) hD
    (fun Ha e => e d _ upd_same) hw (fun _ => true) f yes_t (fun x hx _ H1 e R k => he x hx H1 R (k H1 (Ex.refl H1))) fun H1 e h => ⟨e d _ upd_same, ?_⟩
  · obtain ⟨e, kk, v, hk, rfl⟩ := y
    refine ⟨e, ?_⟩
    rw [List.getElem?_map, hk]
    rfl
  · refine k D _ hD0 (ex_lock hd e) ?_
    rw [upd_ne hDd, h, filter_yes]
end
section
variable {K : PySem.W.Frag} {σ : L2.St} {H : Hp} {Q : VK} {ta tb te : TE} {t : TT} {i j : Nat} {a : Addr} {xs : List V}
theorem js_nil {acc : Str} {R : Str → Hp → Prop} (q : R acc H) : tJs [] acc σ H R := q
theorem yes_q {R : Bool → Hp → Prop} (q : R true H) : tYes σ H R := q
/-- what a comprehension over a list asks once the list is known -/
def LcL (K : PySem.W.Frag) (j : Nat) (t : TT) (te : TE) (vs : List Nat) (σ : L2.St) (Q : VK) : VK := fun x Ha => ∃ a, x = .ref a ∧ (∃ xs, SqL K Ha a xs) ∧ ∀ D, Ha D = none → ∃ W : Nat → Nat → Hp → Prop, (∃ m, W 0 m (upd Ha D (.lst []))) ∧ ∀ i m Hb, W i m Hb →
  ((Itl K a).stop i Hb ∧ Q (.ref D) Hb) ∨ ((Itl K a).go i Hb ∧ ∃ Nx : Hp → Prop, (∀ Hc, Nx Hc → ∃ m', m' < m ∧ W (i + 1) m' Hc) ∧ ∀ x Hc, (Itl K a).yld i Hb x Hc → gName j x (wipe σ vs) Hc fun σ2 Hd => wipe σ2 vs = wipe σ vs ∧ t σ2 Hd fun b He =>
    if b = true then te σ2 He fun y Hf => ∃ acc, Hf D = some (.lst acc) ∧ acc.length < sizeLine ∧ Nx (upd Hf D (.lst (acc ++ [y]))) else Nx He)
theorem r_lcL {vs : List Nat} (q : ta σ H (LcL K j t te vs σ Q)) : tLc (iList K ta) (gName j) t te vs σ H Q := q
theorem lcl_go {vs : List Nat} (p : V → Bool) (f : V → V) (hx : SqL K H a xs) (hz : xs.length ≤ 1000000) (hw : ∀ x, wipe ((wipe σ vs).set j (some x)) vs = wipe σ vs)
    (ht : ∀ x ∈ xs, ∀ H1, Ex H H1 → ∀ R : Bool → Hp → Prop, (∀ H2, Ex H1 H2 → R (p x) H2) → t ((wipe σ vs).set j (some x)) H1 R)
    (he : ∀ x ∈ xs, p x = true → ∀ H1, Ex H H1 → ∀ R : VK, (∀ H2, Ex H1 H2 → R (f x) H2) → te ((wipe σ vs).set j (some x)) H1 R)
    (k : ∀ D H1, H D = none → Ex H H1 → H1 D = some (.lst ((xs.filter p).map f)) → Q (.ref D) H1) : LcL K j t te vs σ Q (.ref a) H :=
  ⟨a, rfl, ⟨xs, hx⟩, fun D hD => lcp (walk_list (K := K) (a := a) (xs := xs)) rfl hz hD (fun _ e => ex_l e hx) hw p f ht he fun H1 e h => k D H1 hD e h⟩
end
/-! strings in order -/
theorem ltCps_eq : ∀ (a b : List Nat), ltCps a b = decide (a < b)
  | [], [] => by simp [ltCps]
  | [], b :: t => by simp [ltCps]
  | a :: r, [] => by simp [ltCps]
  | a :: r, b :: t => by
    unfold ltCps
    rw [ltCps_eq r t]
    by_cases h : a < b
    · simp [h, List.cons_lt_cons_iff]
    · by_cases h2 : a = b
      · subst h2
        simp [List.cons_lt_cons_iff]
      · simp [h, h2, List.cons_lt_cons_iff]
theorem sorted_pw : ∀ {ys : List Str}, sortedS ys = true → ys.Pairwise fun a b => ¬ b.cps.toList < a.cps.toList
  | [], _ => .nil
  | [y], _ => by simp
  | x :: y :: r, h => by
    have h1 : risingS x (y :: r) = true := h
    unfold risingS at h1
    rw [Bool.and_eq_true, ltCps_eq] at h1
    have ih := sorted_pw (ys := y :: r) h1.2
    have h2 : ¬ y.cps.toList < x.cps.toList := by simpa using h1.1
    rw [List.pairwise_cons]
    refine ⟨fun z hz => ?_, ih⟩
    rcases List.mem_cons.mp hz with rfl | hz
    · exact h2
    · rw [List.pairwise_cons] at ih
      exact fun q => List.not_lt.mpr (List.le_trans (List.not_lt.mp h2) (List.not_lt.mp (ih.1 z hz))) q
end AE

set_option Elab.async false
set_option linter.all false
set_option maxRecDepth 100000
namespace AE
open PySem PySem.Spec PyProof.Rows L2 Evl
section
variable {J : It} {n : Nat} {G : Hp → Prop} {Y : Nat → Hp → V → Hp → Prop} {g : TG} {t : TT} {tk tv te : TE} {vs : List Nat} {σ : L2.St} {H : Hp} {D : Addr} {Qd : Hp → Prop}
/-- a dict comprehension over any walk: keys tuples -/
theorem dcT_it (w : Walk J n G Y) (Pv : Nat → Hp → Prop) (h0 : Pv 0 (upd H D (.dT []))) (hG : ∀ i Ha, i ≤ n → Pv i Ha → G Ha)
    (hs : ∀ i x Ha Hb, i < n → Pv i Ha → Y i Ha x Hb → g x (wipe σ vs) Hb fun σ2 Hc => wipe σ2 vs = wipe σ vs ∧ t σ2 Hc fun b Hd =>
      if b = true then tk σ2 Hd fun y He => tv σ2 He fun z Hf => sT D y z Hf (Pv (i + 1)) else Pv (i + 1) Hd) (hd : ∀ Ha, Pv n Ha → Qd Ha) :
    ∃ W : Nat → Nat → Hp → Prop, (∃ m, W 0 m (upd H D (.dT []))) ∧ ∀ i m Ha, W i m Ha →
      (J.stop i Ha ∧ Qd Ha) ∨ (J.go i Ha ∧ ∃ Nx : Hp → Prop, (∀ Hb, Nx Hb → ∃ m1, m1 < m ∧ W (i + 1) m1 Hb) ∧ ∀ x Hb, J.yld i Ha x Hb → g x (wipe σ vs) Hb fun σ2 Hc => wipe σ2 vs = wipe σ vs ∧ t σ2 Hc fun b Hd =>
        if b = true then tk σ2 Hd fun y He => tv σ2 He fun z Hf => sT D y z Hf Nx else Nx Hd) := by
  refine ⟨fun i m Ha => m + i = n ∧ Pv i Ha, ⟨n, by omega, h0⟩, ?_⟩
  rintro i m Ha ⟨hm, p⟩
  have q := hG i Ha (by omega) p
  by_cases hlt : i < n
  · exact .inr ⟨w.goes i Ha hlt q, Pv (i + 1), fun Hb p1 => ⟨m - 1, by omega, by omega, p1⟩, fun x Hb y => hs i x Ha Hb hlt p (w.yields i Ha x Hb hlt q y)⟩
  · obtain rfl : i = n := by omega
    exact .inl ⟨w.stops Ha q, hd Ha p⟩
/-- .. keys ints or texts -/
theorem dcK_it (w : Walk J n G Y) (Pv : Nat → Hp → Prop) (h0 : Pv 0 (upd H D (.dK []))) (hG : ∀ i Ha, i ≤ n → Pv i Ha → G Ha)
    (hs : ∀ i x Ha Hb, i < n → Pv i Ha → Y i Ha x Hb → g x (wipe σ vs) Hb fun σ2 Hc => wipe σ2 vs = wipe σ vs ∧ t σ2 Hc fun b Hd =>
      if b = true then tk σ2 Hd fun y He => tv σ2 He fun z Hf => ∃ kvs k, y = kV k ∧ Hf D = some (.dK kvs) ∧ kvs.length < sizeLine ∧ Pv (i + 1) (upd Hf D (.dK (putK kvs k z))) else Pv (i + 1) Hd) (hd : ∀ Ha, Pv n Ha → Qd Ha) :
    ∃ W : Nat → Nat → Hp → Prop, (∃ m, W 0 m (upd H D (.dK []))) ∧ ∀ i m Ha, W i m Ha →
      (J.stop i Ha ∧ Qd Ha) ∨ (J.go i Ha ∧ ∃ Nx : Hp → Prop, (∀ Hb, Nx Hb → ∃ m1, m1 < m ∧ W (i + 1) m1 Hb) ∧ ∀ x Hb, J.yld i Ha x Hb → g x (wipe σ vs) Hb fun σ2 Hc => wipe σ2 vs = wipe σ vs ∧ t σ2 Hc fun b Hd =>
        if b = true then tk σ2 Hd fun y He => tv σ2 He fun z Hf => ∃ kvs k, y = kV k ∧ Hf D = some (.dK kvs) ∧ kvs.length < sizeLine ∧ Nx (upd Hf D (.dK (putK kvs k z))) else Nx Hd) := by
  refine ⟨fun i m Ha => m + i = n ∧ Pv i Ha, ⟨n, by omega, h0⟩, ?_⟩
  rintro i m Ha ⟨hm, p⟩
  have q := hG i Ha (by omega) p
  by_cases hlt : i < n
  · exact .inr ⟨w.goes i Ha hlt q, Pv (i + 1), fun Hb p1 => ⟨m - 1, by omega, by omega, p1⟩, fun x Hb y => hs i x Ha Hb hlt p (w.yields i Ha x Hb hlt q y)⟩
  · obtain rfl : i = n := by omega
    exact .inl ⟨w.stops Ha q, hd Ha p⟩
end
/-! ### rows grouped -/
/-- a dict of lists: at each key the list of the values that f gives of the row's members with that key -/
structure Grp {κ : Type} [DecidableEq κ] (H0 H : Hp) (kvs : List (κ × V)) (G : κ → List V) : Prop where
  nd : (kvs.map (·.1)).Nodup
  val : ∀ k v, valV kvs k = some v → ∃ l, v = .ref l ∧ H l = some (.lst (G k)) ∧ H0 l = none ∧ G k ≠ []
  has : ∀ k, G k ≠ [] → (valV kvs k).isSome = true
  inj : ∀ k k' l, valV kvs k = some (.ref l) → valV kvs k' = some (.ref l) → k = k'
section
variable {κ : Type} [DecidableEq κ] {H0 H H' : Hp} {kvs : List (κ × V)} {G : κ → List V}
theorem Grp.nil (h : ∀ k, G k = []) : Grp H0 H ([] : List (κ × V)) G := ⟨List.nodup_nil, fun _ _ h => (by cases h), fun k e => absurd (h k) e, fun _ _ _ h => (by cases h)⟩
theorem Grp.mono (g : Grp H0 H kvs G) (e : ∀ l xs, H l = some (.lst xs) → H' l = some (.lst xs)) : Grp H0 H' kvs G :=
  ⟨g.nd, fun k v h => by obtain ⟨l, a, b, c⟩ := g.val k v h; exact ⟨l, a, e l _ b, c⟩, g.has, g.inj⟩
/-- one more at a key that is there -/
theorem Grp.more {k : κ} {l : Addr} {x : V} (g : Grp H0 H kvs G) (h : valV kvs k = some (.ref l)) (e : ∀ a xs, a ≠ l → H a = some (.lst xs) → H' a = some (.lst xs)) (hl : H' l = some (.lst (G k ++ [x]))) : Grp H0 H' kvs fun k' => if k' = k then G k ++ [x] else G k' := by
  obtain ⟨l1, e1, _, h0, _⟩ := g.val k _ h
  cases e1
  refine ⟨g.nd, fun k' v hv => ?_, fun k' hk => ?_, g.inj⟩
  · obtain ⟨l2, rfl, h2, h3, h4⟩ := g.val k' v hv
    by_cases z : k' = k
    · subst z
      rw [h] at hv
      cases hv
      exact ⟨l, rfl, by rw [if_pos rfl]; exact hl, h3, by rw [if_pos rfl]; simp⟩
    · refine ⟨l2, rfl, ?_, h3, by rw [if_neg z]; exact h4⟩
      rw [if_neg z]
      exact e _ _ (fun q => z (g.inj k' k l (by rw [hv, q]) h)) h2
  · by_cases z : k' = k
    · subst z
      rw [h]
      rfl
    · rw [if_neg z] at hk
      exact g.has k' hk
/-- a new key -/
theorem Grp.new {k : κ} {l : Addr} {x : V} (g : Grp H0 H kvs G) (h : valV kvs k = none) (hn : H l = none) (hl0 : H0 l = none) (e : ∀ a xs, a ≠ l → H a = some (.lst xs) → H' a = some (.lst xs)) (hl : H' l = some (.lst [x])) : Grp H0 H' (putK kvs k (.ref l)) fun k' => if k' = k then G k ++ [x] else G k' := by
  have gk : G k = [] := by
    by_cases z : G k = []
    · exact z
    · have := g.has k z
      rw [h] at this
      cases this
  refine ⟨nd_put _ _ g.nd, fun k' v hv => ?_, fun k' hk => ?_, fun a b m ha hb => ?_⟩
  · rw [valV_put] at hv
    by_cases z : k' = k
    · subst z
      rw [if_pos rfl] at hv
      cases hv
      exact ⟨l, rfl, by rw [if_pos rfl, gk]; exact hl, hl0, by rw [if_pos rfl]; simp⟩
    · rw [if_neg z] at hv
      obtain ⟨l2, rfl, h2, h3, h4⟩ := g.val k' v hv
      exact ⟨l2, rfl, by rw [if_neg z]; exact e _ _ (fun q => by rw [q, hn] at h2; cases h2) h2, h3, by rw [if_neg z]; exact h4⟩
  · rw [valV_put]
    by_cases z : k' = k
    · rw [if_pos z]
      rfl
    · rw [if_neg z] at hk ⊢
      exact g.has k' hk
  · have old : ∀ c, valV kvs c = some (.ref m) → m ≠ l := fun c hc q => by
      obtain ⟨l2, e2, h2, _⟩ := g.val c _ hc
      cases e2
      rw [q, hn] at h2
      cases h2
    rw [valV_put] at ha hb
    by_cases za : a = k
    · by_cases zb : b = k
      · rw [za, zb]
      · rw [if_pos za] at ha
        rw [if_neg zb] at hb
        cases ha
        exact absurd rfl (old b hb)
    · rw [if_neg za] at ha
      by_cases zb : b = k
      · rw [if_pos zb] at hb
        cases hb
        exact absurd rfl (old a ha)
      · rw [if_neg zb] at hb
        exact g.inj a b m ha hb
/-- the same, each list a tuple: what a machine keeps -/
def GrpT (H : Hp) (kvs : List (κ × V)) (G : κ → List V) : Prop := ∀ k, (G k = [] → valV kvs k = none) ∧ (G k ≠ [] → ∃ p, valV kvs k = some (.ref p) ∧ H p = some (.tup (G k)))
theorem GrpT.tx {kvs : List (κ × V)} (e : Tx H H') (g : GrpT H kvs G) : GrpT H' kvs G := fun k => ⟨(g k).1, fun h => by obtain ⟨p, a, b⟩ := (g k).2 h; exact ⟨p, a, e _ _ b⟩⟩
end
def endsF (rows : List StepD) (k : List Key) : List V := (rows.filter fun s => decide ([.inl s.1, .inr s.2.1] = k)).map fun s => .int s.2.2
theorem endsF_snoc (rows : List StepD) (s : StepD) (k : List Key) : endsF (rows ++ [s]) k = if k = [.inl s.1, .inr s.2.1] then endsF rows [.inl s.1, .inr s.2.1] ++ [.int s.2.2] else endsF rows k := by
  unfold endsF
  rw [List.filter_append, List.map_append]
  by_cases h : k = [.inl s.1, .inr s.2.1]
  · rw [if_pos h, h, List.filter_cons, if_pos (decide_eq_true rfl)]
    rfl
  · rw [if_neg h, List.filter_cons, if_neg (by rw [decide_eq_false (fun q => h q.symm)]; decide)]
    simp
end AE

set_option Elab.async false
set_option linter.all false
set_option maxRecDepth 100000
namespace AE
open PySem PySem.Spec PyProof.Rows L2 Evl
/-! the rules that speak of the written part, told for a block -/
section
variable {X : Cx} {K : PySem.W.Frag}
theorem opAddK (h : X.K = K := by rfl) : OpR X (binaryOp .Add) (rAddA K) := by subst h; exact opAdd
theorem c_lenK (h : X.K = K := by rfl) : CallR X (.builtin "len") (cLen K) := by subst h; exact c_len
theorem c_listK (h : X.K = K := by rfl) : CallR X (.type "list") (cList K) := by subst h; exact c_list
theorem c_tupleK (h : X.K = K := by rfl) : CallR X (.type "tuple") (cTup K) := by subst h; exact c_tuple
theorem c_isinstanceK (h : X.K = K := by rfl) : CallR X (.builtin "isinstance") (rIsi K) := by subst h; exact c_isinstance
theorem ix_seqK (h : X.K = K := by rfl) : IxR X (rIx K) := by subst h; exact ix_seq
theorem sl_listK (h : X.K = K := by rfl) : SlR X (rSlL K) := by subst h; exact sl_list
theorem op_in_seqK (h : X.K = K := by rfl) : OpR X (compareOp .In) (rIn K false) := by subst h; exact op_in_seq
theorem op_notIn_seqK (h : X.K = K := by rfl) : OpR X (compareOp .NotIn) (rIn K true) := by subst h; exact op_notIn_seq
theorem op_inDK (hu : X.A.units + 65 < cLine) (h : X.K = K := by rfl) : OpR X (compareOp .In) (rInD K) := by subst h; exact op_inD hu
theorem op_eqDK (hu : X.A.units + 64 < cLine) (h : X.K = K := by rfl) : OpR X (compareOp .Eq) (rEqD K) := by subst h; exact op_eqD hu
theorem op_neDK (hu : X.A.units + 64 < cLine) (h : X.K = K := by rfl) : OpR X (compareOp .NotEq) (rNeD K) := by subst h; exact op_neD hu
theorem pe_fldK {e : Expr} {ta : TE} {f : Str} {pos : Pos} (he : PE X e ta) (hb : attributeBase e f X.env (eval e X.env) = eval e X.env) (h : X.K = K := by rfl) : PE X (.Attribute e f pos) (tFld K ta f) := by subst h; exact pe_fld he hb
end
end AE

set_option Elab.async false
set_option linter.all false
set_option maxRecDepth 100000
namespace AE
open PySem PySem.Spec PyProof.Rows L2 Evl
section
variable {K : PySem.W.Frag} {σ : L2.St} {H H0 : Hp} {Q : VK} {d : Addr} {i j : Nat} {vs : List Nat}
theorem grp_tupT {kvs : List (List Key × V)} {G : List Key → List V} (hi : σ[i]? = some (some (.ref d))) (hi2 : ∀ x, ((wipe σ vs).set j (some x))[i]? = some (some (.ref d))) (hj : ∀ x, ((wipe σ vs).set j (some x))[j]? = some (some x))
    (hw : ∀ x, wipe ((wipe σ vs).set j (some x)) vs = wipe σ vs) (hd : H d = some (.dT kvs)) (g : Grp H0 H kvs G) (kl : kvs.length ≤ 1000)
    (k : ∀ p H1, H p = none → Ex H H1 → (∃ k2, H1 p = some (.dT k2) ∧ GrpT H1 k2 G) → Q (.ref p) H1) :
    tLockE (tDcT (iKeys (tVar i)) (gName j) tYes (tVar j) (tCB (cTup K) (tCons (tDGet (tVar i) (tVar j)) tNil)) vs) σ H Q := by
  refine ⟨d, .dT kvs, hd, trivial, fun od => ⟨_, hi, d, od, rfl, .inr ⟨kvs, upd_same, fun D hD => ?_⟩⟩⟩
  have hDd : D ≠ d := fun z => by subst z; rw [upd_same] at hD; cases hD
  have hD0 : H D = none := by rw [upd_ne hDd] at hD; exact hD
  have old : ∀ {Ha : Hp} {a : Addr} {o : HO}, Ex (upd H d (.frz od (.dT kvs))) Ha → a ≠ d → H a = some o → Ha a = some o := fun e z h => e _ _ (by rw [upd_ne z]; exact h)
  refine dcT_it (walk_keysT (d := d) (o := od) (kvs := kvs)) (fun m Ha => Ex (upd H d (.frz od (.dT kvs))) Ha ∧ ∃ k2, Ha D = some (.dT k2) ∧ k2.length ≤ m ∧ (∀ k v, valV k2 k = some v → ∃ p, v = .ref p ∧ Ha p = some (.tup (G k)) ∧ G k ≠ []) ∧ ∀ kv ∈ kvs.take m, (valV k2 kv.1).isSome = true)
    ⟨Ex.new hD, [], upd_same, Nat.le_refl _, fun _ _ h => (by cases h), fun _ h => (by cases h)⟩ (fun m Ha _ p => p.1 d _ upd_same) ?_ ?_
  · rintro m x Ha Hb hm ⟨e, k2, hk2, kl2, val, has⟩ ⟨rfl, kk, v0, q, hkv, rfl, hq⟩
    have fz := e d _ upd_same
    refine ⟨hw _, yes_q (ite_t rfl ⟨_, hj _, ?_⟩)⟩
    obtain ⟨v, hv⟩ := Option.isSome_iff_exists.mp (val_some.mpr (List.mem_map.mpr ⟨(kk, v0), List.mem_of_getElem? hkv, rfl⟩))
    obtain ⟨l, rfl, hl, hl0, ne⟩ := g.val kk v hv
    have ld : l ≠ d := ne_of hl hd (by intro z; cases z)
    refine ⟨_, hi2 _, _, hj _, d, .ref l, rfl, .inr ⟨kvs, kk, q, .inr ⟨od, fz⟩, rfl, hq, hv.symm⟩, l, G kk, rfl, .inl ⟨.inl (.inl (old e ld hl)), fun p hp => ?_⟩⟩
    have hqp : q ≠ p := ne_of_none hq hp
    have hDp : D ≠ p := ne_of_none hk2 hp
    have hk3 : (upd Hb p (.tup (G kk))) D = some (.dT k2) := by rw [upd_ne hDp]; exact hk2
    refine ⟨k2, kk, q, rfl, by rw [upd_ne hqp]; exact hq, hk3, sz_lt (by omega), ex_upd (e.trans (Ex.new hp)) hD, _, upd_same, Nat.le_trans (len_put _ _ _) (by omega), fun k' v' h' => ?_, fun kv hkv' => ?_⟩
    · rw [valV_put] at h'
      by_cases z : k' = kk
      · rw [if_pos z] at h'
        cases h'
        exact ⟨p, rfl, by rw [upd_ne hDp.symm, upd_same, z], by rw [z]; exact ne⟩
      · rw [if_neg z] at h'
        obtain ⟨p', a1, a2, a3⟩ := val k' v' h'
        refine ⟨p', a1, tx_dt hk3 _ _ (Ex.new hp _ _ a2), a3⟩
    · rw [valV_put]
      by_cases z : kv.1 = kk
      · rw [if_pos z]
        rfl
      · rw [if_neg z]
        rw [List.take_add_one, hkv] at hkv'
        rcases List.mem_append.mp hkv' with h | h
        · exact has kv h
        · exact absurd (by rw [List.mem_singleton.mp h]) z
  · rintro Ha ⟨e, k2, hk2, kl2, val, has⟩
    rw [List.take_length] at has
    refine ⟨e d _ upd_same, k D _ hD0 (ex_lock hd e) ⟨k2, by rw [upd_ne hDd]; exact hk2, fun k' => ⟨fun z => ?_, fun z => ?_⟩⟩⟩
    · cases hh : valV k2 k' with
      | none => rfl
      | some v =>
        obtain ⟨_, _, _, n⟩ := val k' v hh
        exact absurd z n
    · obtain ⟨kv, hkv, rfl⟩ := List.mem_map.mp (val_some.mp (g.has k' z))
      obtain ⟨v, hv⟩ := Option.isSome_iff_exists.mp (has kv hkv)
      obtain ⟨p, rfl, hp, _⟩ := val _ v hv
      exact ⟨p, hv, by rw [upd_ne (fun z => by subst z; rw [e _ _ upd_same] at hp; cases hp)]; exact hp⟩
theorem grp_tupK {kvs : List (Key × V)} {G : Key → List V} (hu : True) (hi : σ[i]? = some (some (.ref d))) (hi2 : ∀ x, ((wipe σ vs).set j (some x))[i]? = some (some (.ref d))) (hj : ∀ x, ((wipe σ vs).set j (some x))[j]? = some (some x))
    (hw : ∀ x, wipe ((wipe σ vs).set j (some x)) vs = wipe σ vs) (hd : H d = some (.dK kvs)) (g : Grp H0 H kvs G) (kl : kvs.length ≤ 1000)
    (k : ∀ p H1, H p = none → Ex H H1 → (∃ k2, H1 p = some (.dK k2) ∧ GrpT H1 k2 G) → Q (.ref p) H1) :
    tLockE (tDc (iKeys (tVar i)) (gName j) tYes (tVar j) (tCB (cTup K) (tCons (tDGet (tVar i) (tVar j)) tNil)) vs) σ H Q := by
  refine ⟨d, .dK kvs, hd, trivial, fun od => ⟨_, hi, d, od, rfl, .inl ⟨kvs, upd_same, fun D hD => ?_⟩⟩⟩
  have hDd : D ≠ d := fun z => by subst z; rw [upd_same] at hD; cases hD
  have hD0 : H D = none := by rw [upd_ne hDd] at hD; exact hD
  have old : ∀ {Ha : Hp} {a : Addr} {o : HO}, Ex (upd H d (.frz od (.dK kvs))) Ha → a ≠ d → H a = some o → Ha a = some o := fun e z h => e _ _ (by rw [upd_ne z]; exact h)
  refine dcK_it (walk_keys (d := d) (o := od) (kvs := kvs)) (fun m Ha => Ex (upd H d (.frz od (.dK kvs))) Ha ∧ ∃ k2, Ha D = some (.dK k2) ∧ k2.length ≤ m ∧ (∀ k v, valV k2 k = some v → ∃ p, v = .ref p ∧ Ha p = some (.tup (G k)) ∧ G k ≠ []) ∧ ∀ kv ∈ kvs.take m, (valV k2 kv.1).isSome = true)
    ⟨Ex.new hD, [], upd_same, Nat.le_refl _, fun _ _ h => (by cases h), fun _ h => (by cases h)⟩ (fun m Ha _ p => p.1 d _ upd_same) ?_ ?_
  · rintro m x Ha Hb hm ⟨e, k2, hk2, kl2, val, has⟩ ⟨rfl, kk, v0, hkv, rfl⟩
    have fz := e d _ upd_same
    refine ⟨hw _, yes_q (ite_t rfl ⟨_, hj _, ?_⟩)⟩
    obtain ⟨v, hv⟩ := Option.isSome_iff_exists.mp (val_some.mpr (List.mem_map.mpr ⟨(kk, v0), List.mem_of_getElem? hkv, rfl⟩))
    obtain ⟨l, rfl, hl, hl0, ne⟩ := g.val kk v hv
    have ld : l ≠ d := ne_of hl hd (by intro z; cases z)
    refine ⟨_, hi2 _, _, hj _, d, .ref l, rfl, .inl ⟨kvs, kk, .inr ⟨od, fz⟩, rfl, hv.symm⟩, l, G kk, rfl, .inl ⟨.inl (.inl (old e ld hl)), fun p hp => ?_⟩⟩
    have hDp : D ≠ p := ne_of_none hk2 hp
    have hk3 : (upd Hb p (.tup (G kk))) D = some (.dK k2) := by rw [upd_ne hDp]; exact hk2
    refine ⟨k2, kk, rfl, hk3, sz_lt (by omega), ex_upd (e.trans (Ex.new hp)) hD, _, upd_same, Nat.le_trans (len_put _ _ _) (by omega), fun k' v' h' => ?_, fun kv hkv' => ?_⟩
    · rw [valV_put] at h'
      by_cases z : k' = kk
      · rw [if_pos z] at h'
        cases h'
        exact ⟨p, rfl, by rw [upd_ne hDp.symm, upd_same, z], by rw [z]; exact ne⟩
      · rw [if_neg z] at h'
        obtain ⟨p', a1, a2, a3⟩ := val k' v' h'
        exact ⟨p', a1, tx_dk hk3 _ _ (Ex.new hp _ _ a2), a3⟩
    · rw [valV_put]
      by_cases z : kv.1 = kk
      · rw [if_pos z]
        rfl
      · rw [if_neg z]
        rw [List.take_add_one, hkv] at hkv'
        rcases List.mem_append.mp hkv' with h | h
        · exact has kv h
        · exact absurd (by rw [List.mem_singleton.mp h]) z
  · rintro Ha ⟨e, k2, hk2, kl2, val, has⟩
    rw [List.take_length] at has
    refine ⟨e d _ upd_same, k D _ hD0 (ex_lock hd e) ⟨k2, by rw [upd_ne hDd]; exact hk2, fun k' => ⟨fun z => ?_, fun z => ?_⟩⟩⟩
    · cases hh : valV k2 k' with
      | none => rfl
      | some v =>
        obtain ⟨_, _, _, n⟩ := val k' v hh
        exact absurd z n
    · obtain ⟨kv, hkv, rfl⟩ := List.mem_map.mp (val_some.mp (g.has k' z))
      obtain ⟨v, hv⟩ := Option.isSome_iff_exists.mp (has kv hkv)
      obtain ⟨p, rfl, hp, _⟩ := val _ v hv
      exact ⟨p, hv, by rw [upd_ne (fun z => by subst z; rw [e _ _ upd_same] at hp; cases hp)]; exact hp⟩
end
/-- pairs of a state -/
def pairD (s : StepD) : List V := [.str s.2.1, .int s.2.2]
end AE

set_option Elab.async false
set_option linter.all false
set_option maxRecDepth 100000
namespace AE
open PySem PySem.Spec PyProof.Rows L2 Evl
section
variable {K : PySem.W.Frag} {σ : L2.St} {H : Hp} {Q : VK} {D : Ends} {ta tv : TE} {f : Str} {a C dx : Addr} {fs : List (Str × V)} {v : V} {i : Nat}
def StF (K : PySem.W.Frag) (f : Str) (x y : V) (H : Hp) (R : Hp → Prop) : Prop := ∃ a C dx fs, x = .ref a ∧ H a = some (.ins C dx fs) ∧ Cls K C ∧ NoAttr K C f ∧ fs.length < 1000 ∧ R (upd H a (.ins C dx (putF f y fs)))
theorem r_fld (q : tv σ H fun y H1 => ta σ H1 fun x H2 => StF K f x y H2 (D.nx σ)) : sFld K ta tv f D σ H := q
theorem stf_go {R : Hp → Prop} (h : H a = some (.ins C dx fs)) (c : Cls K C) (n : NoAttr K C f) (l : fs.length < 1000) (q : ∀ H1, Ch a H H1 → H1 a = some (.ins C dx (putF f v fs)) → R H1) : StF K f (.ref a) v H R :=
  ⟨a, C, dx, fs, rfl, h, c, n, l, q _ ch_upd upd_same⟩
def GtF (K : PySem.W.Frag) (f : Str) (x : V) (H : Hp) (Q : VK) : Prop := ∃ a C dx fs v, x = .ref a ∧ H a = some (.ins C dx fs) ∧ Cls K C ∧ NoAttr K C f ∧ fs.lookup f = some v ∧ Q v H
theorem r_get (q : ta σ H fun x H1 => GtF K f x H1 Q) : tFld K ta f σ H Q := q
theorem gtf_go (h : H a = some (.ins C dx fs)) (c : Cls K C) (n : NoAttr K C f) (e : fs.lookup f = some v) (q : Q v H) : GtF K f (.ref a) H Q := ⟨a, C, dx, fs, v, rfl, h, c, n, e, q⟩
theorem r_dget2 {td ty tx : TE} (q : td σ H fun x H1 => ∃ a, x = .ref a ∧ IsD H1 a ∧ ty σ H1 fun y H2 => tx σ H2 fun z H3 => ∃ o, DGet H3 a y o ∧ Q (o.getD z) H3) : tDGet2 td ty tx σ H Q := q
/-- k in d, by what stands there -/
theorem r_din {td ty : TE} (q : ty σ H fun y H1 => td σ H1 fun x H2 => ∃ a o, x = .ref a ∧ DGet H2 a y o ∧ Q (.bl o.isSome) H2) : tDIn ty td σ H Q := q
theorem tup_l {p : Addr} {xs : List V} (h : SqL K H p xs) (q : ∀ l H1, H l = none → Ex H H1 → H1 l = some (.tup xs) → Q (.ref l) H1) : cTup K [.ref p] H Q := ⟨p, xs, rfl, .inl ⟨h, fun l hl => q l _ hl (Ex.new hl) upd_same⟩⟩
theorem list_s {p : Addr} {xs : List V} (h : SqL K H p xs ∨ SqT K H p xs) (q : ∀ l H1, H l = none → Ex H H1 → H1 l = some (.lst xs) → Q (.ref l) H1) : cList K [.ref p] H Q := ⟨p, xs, rfl, h, fun l hl => q l _ hl (Ex.new hl) upd_same⟩
end
end AE

set_option Elab.async false
set_option linter.all false
set_option maxRecDepth 100000
set_option maxHeartbeats 2000000
namespace AE
open PySem PySem.Spec PyProof.Rows L2 Evl
/-! ### own operators -/
section
variable {prog : Program} {w : World} {A : Around} {E : Value → Shared → Prop} {s : Shared} {K : PySem.W.Frag} {x C f : Addr} {ox : Obj} {odd : Option Obj}
theorem truthy_at {M : Model} {Q : Bool → Shared → Prop} (X : K.In s.heap) (I : PySem.W.InstAt s.heap x ox C odd) (hs : PySem.W.findIn K (.ref C) "__bool__" = some (some (.ref f))) (hf : PySem.W.isFn K (.ref f) = true)
    (h : wpAny M A (call (.ref f) [.ref x]) (fun r s1 => ∃ b, r = Value.bool b ∧ Q b s1) E s) : wpAny M A (truthy (.ref x)) Q E s := by
  unfold truthy
  refine wpAny_bind (m := callSpecial? (.ref x) (Str.ofString "__bool__")) (PySem.W.special_fn X I hs (beq_iff_eq.mp hf) (wpAny_mono h (fun r s1 hr => ?_) fun _ _ y => y))
  obtain ⟨b, rfl, q⟩ := hr
  exact wpAny_pure q
/-- bool(x) by an own __bool__ -/
theorem bool_at {Q : Value → Shared → Prop} (X : K.In s.heap) (I : PySem.W.InstAt s.heap x ox C odd) (hs : PySem.W.findIn K (.ref C) "__bool__" = some (some (.ref f))) (hf : PySem.W.isFn K (.ref f) = true)
    (h : wpAny (model prog w) A.in1.in1 (call (.ref f) [.ref x]) (fun r s1 => ∃ b, r = Value.bool b ∧ Q (.bool b) s1) E s) : wpAny (model prog w) A (call (.type "bool") [.ref x]) Q E s := by
  refine callType_codes (T := "bool") (Bi := Builtin.«object.__init__») (Q₁ := fun r s1 => ∃ b, r = Value.bool b ∧ Q r s1) PySem.F.called_bool (PySem.F.typeCall_bool_1 _) PySem.F.entry_object_init ?_ ?_
  · refine codeAny_of_tree ?_
    show wpAny _ A.in1.in1 (do checkBuiltinCall "bool.__new__" ⟨[.type "bool", .ref x], []⟩; again (.builtin "bool.__new__" ⟨[.type "bool", .ref x], []⟩)) _ _ s
    refine wpAny_bind (wpAny_of_eq (PySem.F.newCall_bool_1 _) (wpAny_pure ⟨plainId_quiet (by decide +kernel) _, codeAny_builtin PySem.F.entry_bool_new ?_⟩))
    rw [Around.under_plainId (by decide +kernel) _]
    unfold Builtin.«bool.__new__»
    refine wpAny_bind (wpAny_of_eq (a := true) (by kernel_rfl) ?_)
    refine PySem.W.KFB.if_not rfl ?_
    refine wpAny_bind (wpAny_of_eq (a := true) (by rw [isSubtype_type]; kernel_rfl) ?_)
    refine PySem.W.KFB.if_not rfl ?_
    refine wpAny_bind (wpAny_of_eq (a := [Value.ref x]) (by rfl) ?_)
    refine wpAny_bind (truthy_at X I hs hf (wpAny_mono h (fun r s1 hr => ?_) fun _ _ y => y))
    obtain ⟨b, rfl, q⟩ := hr
    exact ⟨b, rfl, wpAny_pure ⟨b, rfl, q⟩⟩
  · rintro obj s1 ⟨b, rfl, q⟩
    exact ⟨rfl, PySem.F.args_object_init_2 _ _, object_init_meets PySem.F.called_bool.init.lookup PySem.F.called_bool.made (by decide) prog w A.in1 _ s1 ⟨rfl, rfl, q⟩⟩
end
section
variable {X : Cx} {pins : List (Addr × Obj)} {σ : L2.St} {H : Hp} {s : Shared} {f C : Addr} {fd : FuncData} {ps : List Str} {sp : Sp} {CX : CXT} {k : Nat} {Q : VK} {E : XK} {vs : List V} {us : List Value}
/-- a call of a def somewhat deeper -/
theorem run_deep {A : Around} (F : FnOk X.prog X.w X.K X.mg X.base CX k f fd ps sp) (hr : Room k A) (e0 : Env0 X.prog X.w X.K X.mg X.base A X.stack s H) (hb : Binds X.K fd ps []) (hx : Passes CX X E)
    (I : Inv X pins σ H s) (r : Vals vs us) (h : sp vs H Q E) : wpAny (model X.prog X.w) A (call (.ref f) us) (EP X pins σ Q) X.xe s := by
  have hl : (us ++ []).length = ps.length := by
    rw [List.append_nil, ← r.length]
    exact F.len _ _ _ _ h
  have bb := hb s us I.kIn hl
  rw [List.append_nil] at bb
  refine wpAny_call (codeAny_mono (F.run A X.stack s H ⟨us, []⟩ us vs Q E hr e0 bb r h) fun r s' hq => ?_)
  cases r with
  | error e => exact hx pins σ H s e s' I hq
  | ok fl =>
    cases fl with
    | ret u => exact I.after hq
    | next => exact False.elim hq
    | brk => exact False.elim hq
    | cont => exact False.elim hq
theorem inst_in {dx : Addr} {fs : List (Str × V)} {a : Addr} (I : Inv X pins σ H s) (h : H a = some (.ins C dx fs)) : ∃ od, PySem.W.InstAt s.heap a (PySem.W.instObj C dx) C (some od) := by
  obtain ⟨_, _, _, e, mA, hn, _⟩ := I.hok a _ h
  obtain ⟨o, _, _, e2, _⟩ := id hn
  exact ⟨o, e, rfl, rfl, e2⟩
/-- bool(o) -/
def rBoolO (C : Addr) (sp : Sp) (E : XK) : List V → Hp → VK → Prop := fun xs H Q => ∃ a dx fs, xs = [.ref a] ∧ H a = some (.ins C dx fs) ∧ sp [.ref a] H (fun v H1 => ∃ b, v = .bl b ∧ Q (.bl b) H1) E
theorem c_boolO (hs : Meth X.K C "__bool__" f) (F : FnOk X.prog X.w X.K X.mg X.base CX k f fd ps sp) (hr : Room (k + 2) X.A) (hb : Binds X.K fd ps []) (hx : Passes CX X E) : CallR X (.type "bool") (rBoolO C sp E) := by
  rintro pins s σ H xs us Q I r ⟨a, dx, fs, rfl, ha, q⟩
  cases r with
  | cons ra rt =>
    cases rt
    cases ra
    obtain ⟨od, J⟩ := inst_in I ha
    refine bool_at I.kIn J hs.at_ hs.fn (wpAny_mono (run_deep (vs := [.ref a]) F (show Room (k + 1) X.A.in1 from Room.in1 hr).in1 I.env0.in1.in1 hb hx I (.cons rfl .nil) q) (fun r s1 hr => ?_) fun _ _ y => y)
    obtain ⟨v, H1, I1, rv, b, rfl, q1⟩ := hr
    exact ⟨b, rv, .bl b, H1, I1, rfl, q1⟩
/-- o[i] -/
def tIxO (C : Addr) (sp : Sp) (E : XK) (ta tb : TE) : TE := fun σ H Q => ta σ H fun x H1 => tb σ H1 fun y H2 => ∃ a dx fs, x = .ref a ∧ H2 a = some (.ins C dx fs) ∧ sp [.ref a, y] H2 Q E
theorem pe_ixO {a b : Expr} {ta tb : TE} {pos : Pos} (hs : Meth X.K C "__getitem__" f) (hfn : PySem.W.fnIn X.K f = true) (F : FnOk X.prog X.w X.K X.mg X.base CX k f fd ps sp) (hr : Room (k + 1) X.A) (hb : Binds X.K fd ps []) (hx : Passes CX X E)
    (pa : PE X a ta) (pb : PE X b tb) (hsl : ∀ v u, subscripted b true v u = runValue (.builtin "lifetime.subscript" ⟨[v, u], []⟩) := by intro _ _; with_unfolding_all rfl) : PE X (.Subscript a b pos) (tIxO C sp E ta tb) := by
  refine ⟨fun pins s σ H Q I h => Subscript_ (binT pa pb I h fun v u s2 x y H2 I2 rx ry q => ?_)⟩
  obtain ⟨p, dx, fs, rfl, hp, q⟩ := q
  cases rx
  obtain ⟨od, J⟩ := inst_in I2 hp
  obtain ⟨m, hF⟩ := I2.fr
  exact PySem.W.sub_K hF I2.ok.mod.kin J hs.at_ hfn hs.fn (run_deep (vs := [.ref p, y]) F hr.in1 I2.env0.in1 hb hx I2 (.cons rfl (.cons ry .nil)) q) (hsl _ _)
end
end AE

set_option Elab.async false
set_option linter.all false
set_option maxRecDepth 100000
namespace AE
open PySem PySem.Spec PyProof.Rows L2 Evl
/-! slices from the front -/
theorem cutV_to (xs : List V) (k : Nat) : cutV xs none (some (k : Int)) = xs.take k := by
  unfold cutV
  rw [HT.sIx_none, HT.sIx_nat, List.drop_zero, Nat.sub_zero, List.take_eq_take_iff]
  omega
theorem cutV_from (xs : List V) (k : Nat) : cutV xs (some (k : Int)) none = xs.drop k := by
  unfold cutV
  rw [HT.sIx_none, HT.sIx_nat]
  by_cases h : k ≤ xs.length
  · rw [Nat.min_eq_left h]
    exact List.take_of_length_le (by rw [List.length_drop]; omega)
  · rw [Nat.min_eq_right (by omega), List.drop_length, List.drop_of_length_le (by omega), List.take_nil]
theorem cutV_mid (xs : List V) (a b : Nat) : cutV xs (some (a : Int)) (some (b : Int)) = (xs.take b).drop a := by
  unfold cutV
  rw [HT.sIx_nat, HT.sIx_nat, List.drop_take]
  by_cases h : a ≤ xs.length
  · rw [Nat.min_eq_left h, List.take_eq_take_iff, List.length_drop]
    omega
  · rw [List.drop_of_length_le (by omega), List.drop_of_length_le (by omega)]
    simp
theorem cutS_to (z : Str) (k : Nat) : cutS z none (some (k : Int)) = ⟨(z.cps.toList.take k).toArray⟩ := by
  unfold cutS
  have e : z.length = z.cps.toList.length := rfl
  rw [HT.sIx_none, HT.sIx_nat, List.drop_zero, Nat.sub_zero, e]
  congr 2
  rw [List.take_eq_take_iff]
  omega
theorem cutS_mid (z : Str) (a b : Nat) : cutS z (some (a : Int)) (some (b : Int)) = ⟨((z.cps.toList.take b).drop a).toArray⟩ := by
  unfold cutS
  have e : z.length = z.cps.toList.length := rfl
  rw [HT.sIx_nat, HT.sIx_nat, List.drop_take, e]
  congr 2
  by_cases h : a ≤ z.cps.toList.length
  · rw [Nat.min_eq_left h, List.take_eq_take_iff, List.length_drop]
    omega
  · rw [List.drop_of_length_le (by omega), List.drop_of_length_le (by omega)]
    simp
theorem join_signs : ∀ l : List Nat, Txt.join (Str.ofString "") (l.map fun c => ⟨#[c]⟩) = ⟨l.toArray⟩ := by
  have h : ∀ (l : List Nat), Str.join (Str.ofString "") (l.map fun c => (⟨#[c]⟩ : Str)) = ⟨l.toArray⟩ := by
    intro l
    induction l with
    | nil => rfl
    | cons c r ih =>
      cases r with
      | nil => rfl
      | cons d r =>
        have e : Str.join (Str.ofString "") ((c :: d :: r).map fun c => (⟨#[c]⟩ : Str)) = (⟨#[c]⟩ : Str) ++ Str.ofString "" ++ Str.join (Str.ofString "") ((d :: r).map fun c => (⟨#[c]⟩ : Str)) := rfl
        rw [e, ih]
        refine Str.ext' ?_
        rw [Str.cps_append, Str.cps_append]
        simp [Str.ofString]
        rfl
  intro l
  rw [← h l]
  show Builtin.Str.glued _ _ = _
  exact StrLaws.glued_eq_join _ _
end AE

set_option Elab.async false
set_option linter.all false
set_option maxRecDepth 100000
namespace AE
open PySem PySem.Spec PyProof.Rows L2 Evl
/-! ### xs[::2], xs[1::2] -/
def slIdx (lo : Option Int) (n : Nat) : List Nat := sliceRange (sliceBounds lo none (some 2) n).fst (sliceBounds lo none (some 2) n).snd.fst (sliceBounds lo none (some 2) n).snd.snd
def everyL {α : Type} (lo : Option Int) (xs : List α) : List α := (slIdx lo xs.length).filterMap fun i => xs[i]?
theorem every_map {α β : Type} (f : α → β) (lo : Option Int) (xs : List α) : everyL lo (xs.map f) = (everyL lo xs).map f := by
  unfold everyL
  rw [List.length_map, List.map_filterMap]
  congr 1
  funext i
  rw [List.getElem?_map]
theorem idx0 (n : Nat) : slIdx none n = (List.range ((n + 1) / 2)).map fun k => 2 * k := by
  unfold slIdx
  have e : sliceBounds none none (some 2) n = ((0 : Int), (n : Int), (2 : Int)) := rfl
  rw [e]
  unfold sliceRange
  by_cases h : (0 : Int) < n
  · simp only [show ((2 : Int) > 0) from by decide, if_true, h]
    rw [show (((n : Int) - 0 + 2 - 1) / 2).toNat = (n + 1) / 2 by omega]
    apply List.map_congr_left
    intro k hk
    omega
  · have z : n = 0 := by omega
    subst z
    rfl
theorem idx1 (n : Nat) : slIdx (some 1) n = (List.range (n / 2)).map fun k => 2 * k + 1 := by
  by_cases h : 1 ≤ n
  · have e : sliceBounds (some 1) none (some 2) n = ((1 : Int), (n : Int), (2 : Int)) := by
      show (max 0 (min (1 : Int) (n : Int)), ((n : Int), (2 : Int))) = _
      rw [show max 0 (min (1 : Int) (n : Int)) = 1 by omega]
    unfold slIdx
    rw [e]
    unfold sliceRange
    by_cases h2 : (1 : Int) < n
    · simp only [show ((2 : Int) > 0) from by decide, if_true, h2]
      rw [show (((n : Int) - 1 + 2 - 1) / 2).toNat = n / 2 by omega]
      apply List.map_congr_left
      intro k hk
      omega
    · have z : n = 1 := by omega
      subst z
      rfl
  · have z : n = 0 := by omega
    subst z
    rfl
theorem every_mem {α : Type} (xs : List α) (v : α) : v ∈ everyL none xs ++ everyL (some 1) xs ↔ v ∈ xs := by
  unfold everyL
  rw [idx0, idx1, List.mem_append, List.mem_filterMap, List.mem_filterMap]
  constructor
  · rintro (⟨i, _, h⟩ | ⟨i, _, h⟩)
    · exact List.mem_of_getElem? h
    · exact List.mem_of_getElem? h
  · intro h
    obtain ⟨i, hi, e⟩ := List.getElem_of_mem h
    have e' : xs[i]? = some v := by rw [List.getElem?_eq_getElem hi, e]
    by_cases z : i % 2 = 0
    · exact .inl ⟨i, List.mem_map.mpr ⟨i / 2, List.mem_range.mpr (by omega), by omega⟩, e'⟩
    · exact .inr ⟨i, List.mem_map.mpr ⟨i / 2, List.mem_range.mpr (by omega), by omega⟩, e'⟩
theorem every_len0 {α : Type} (xs : List α) : (everyL none xs).length ≤ (xs.length + 1) / 2 := by
  unfold everyL
  refine Nat.le_trans (List.length_filterMap_le _ _) ?_
  rw [idx0, List.length_map, List.length_range]
  exact Nat.le_refl _
theorem every_len1 {α : Type} (xs : List α) : (everyL (some 1) xs).length ≤ xs.length / 2 := by
  unfold everyL
  refine Nat.le_trans (List.length_filterMap_le _ _) ?_
  rw [idx1, List.length_map, List.length_range]
  exact Nat.le_refl _
theorem vals_pick {xs : List V} {its : List Value} (r : Vals xs its) : ∀ l : List Nat, Vals (l.filterMap fun i => xs[i]?) (l.filterMap fun i => its[i]?)
  | [] => .nil
  | i :: l => by
    have t := vals_pick r l
    cases e : xs[i]? with
    | none =>
      have e2 : its[i]? = none := by
        rw [List.getElem?_eq_none_iff] at e ⊢
        rw [← r.length]
        exact e
      rw [List.filterMap_cons_none e, List.filterMap_cons_none e2]
      exact t
    | some v =>
      obtain ⟨u, hu, rv⟩ := r.get e
      rw [List.filterMap_cons_some e, List.filterMap_cons_some hu]
      exact .cons rv t
theorem tups_pick {H : Hp} {us : List V} {xs : List (List V)} (t : Tups H us xs) : ∀ l : List Nat, Tups H (l.filterMap fun i => us[i]?) (l.filterMap fun i => xs[i]?)
  | [] => .nil
  | i :: l => by
    have r := tups_pick t l
    cases e : us[i]? with
    | none =>
      have e2 : xs[i]? = none := by
        rw [List.getElem?_eq_none_iff] at e ⊢
        rw [← t.len]
        exact e
      rw [List.filterMap_cons_none e, List.filterMap_cons_none e2]
      exact r
    | some v =>
      obtain ⟨u, hu, rv⟩ := t.get e
      rw [List.filterMap_cons_some e, List.filterMap_cons_some hu]
      exact .cons rv r
theorem tups_every {H : Hp} {us : List V} {xs : List (List V)} (lo : Option Int) (t : Tups H us xs) : Tups H (everyL lo us) (everyL lo xs) := by
  unfold everyL
  rw [t.len]
  exact tups_pick t _
theorem idx0_len (n : Nat) : (slIdx none n).length ≤ n := by
  rw [idx0, List.length_map, List.length_range]
  omega
theorem idx1_len (n : Nat) : (slIdx (some 1) n).length ≤ n := by
  rw [idx1, List.length_map, List.length_range]
  omega
def tStepL (K : PySem.W.Frag) (lo : Option Int) (te : TE) : TE := fun σ H Q => te σ H fun x H1 => ∃ a xs, x = .ref a ∧ SqL K H1 a xs ∧ ∀ p, H1 p = none → Q (.ref p) (upd H1 p (.lst (everyL lo xs)))
section
variable {X : Cx}
theorem pe_stepL {e : Expr} {te : TE} {k : Nat} {p1 p3 pos : Pos} {lo : Option Expr} {tl : TO} {l0 : Option Int} (he : PE X e te) (hl : PO X lo tl)
    (hl0 : ∀ σ H, tl σ H fun o H2 => o = l0 ∧ H2 = H) (hn : ∀ n, (slIdx l0 n).length ≤ n)
    (hw : ∀ v u : Value, subscripted (.Slice lo none (some (.Constant (.int 2) k p1)) p3) false v u = operate [v, u] (getItem v u) := by intro v u; with_unfolding_all rfl) :
    PE X (.Subscript e (.Slice lo none (some (.Constant (.int 2) k p1)) p3) pos) (tStepL X.K l0 te) := by
  refine ⟨fun pins s σ H Q I h => ?_⟩
  refine Subscript_ (thn (he.run pins s σ H _ I h) fun v s1 ⟨x, H1, I1, r1, q1⟩ => ?_)
  obtain ⟨a, xs, ex, hx, q⟩ := q1
  subst ex
  cases r1
  have hst : PO X (some (.Constant (.int 2) k p1)) (tPart (tC (.int 2))) := po_some pe_int
  refine wpAny_Slice (thn (hl.run pins s1 σ H1 (fun o H2 => o = l0 ∧ H2 = H1) I1 (hl0 σ H1)) fun vl s2 ⟨l, H2, I2, pl, el, e2⟩ => ?_)
  subst el e2
  refine thn (po_none.run pins s2 σ H2 (fun o H3 => o = none ∧ H3 = H2) I2 ⟨rfl, rfl⟩) fun vu s3 ⟨u, H3, I3, pu, eu, e3⟩ => ?_
  subst eu e3
  refine thn (hst.run pins s3 σ H3 (fun o H4 => o = some 2 ∧ H4 = H3) I3 ⟨2, rfl, rfl, rfl⟩) fun vs s4 ⟨o, H4, I4, ps, eo, e4⟩ => ?_
  subst eo e4
  have I5 : Inv X pins σ H4 { s4 with heap := s4.heap.push { cls := .type "slice", data := .fields #[vl, vu, vs] } } := I4.kept (t' := s4.toks) fun b ob q => Heap.get?_push_of_some _ q
  obtain ⟨its, r, ht, hz⟩ := I5.list hx
  have hlen := r.length
  show wpAny (model X.prog X.w) X.A (subscriptTail e (.Slice lo none (some (.Constant (.int 2) k p1)) p3) (.ref a) (.ref s4.heap.objs.size)) (EP X pins σ Q) X.xe { s4 with heap := s4.heap.push { cls := .type "slice", data := .fields #[vl, vu, vs] } }
  refine tail_any (ops := [.ref a, .ref s4.heap.objs.size]) ht.isList.typeIs (PySem.slot_list_getitem.lookup) ?_ (hw _ _)
  refine wpAny_getItem_list_slice ht.isList (Heap.IsSliceOf.new _ vl vu vs) pl pu ps (by decide) ?_ (by rw [List.size_toArray]; omega)
  have pk : slicePick its.toArray l none (some 2) = ((slIdx l xs.length).filterMap fun i => its[i]?).toArray := by
    unfold slicePick slIdx
    rw [List.size_toArray, ← hlen]
    congr 1
    congr 1
    funext i
    simp
  rw [pk]
  have hln : (everyL l xs).length ≤ sizeLine := Nat.le_trans (List.length_filterMap_le _ _) (Nat.le_trans (hn _) hz)
  refine ⟨.ref _, _, I5.laid (t' := s4.toks) (o := .lst (everyL l xs)) (fun b ob q => Heap.get?_push_of_some _ q) (Nat.le_refl _) ?_, rfl, q _ (I5.hok.fresh (Nat.le_refl _))⟩
  exact ⟨hln, _, 0, vals_pick r _, Heap.get?_push_size _ rfl⟩
end
end AE

set_option Elab.async false
set_option linter.all false
set_option maxRecDepth 100000
namespace AE
open PySem PySem.Spec PyProof.Rows L2 Evl
/-! ### a walk over an object whose __iter__ gives a tuple's iterator -/
def ttObj (b : Addr) : Obj := { cls := .type "tuple_iterator", data := .fields #[.ref b, .int 0 0] }
def TtO (b it : Addr) : HO := .ext fun h => h.get? it = some (ttObj b)
theorem ttO_ok {P : Program} {w : World} {H : Hp} {h : Heap} {b it : Addr} (e : h.get? it = some (ttObj b)) : ObjOk P w H h it (TtO b it) := ⟨e, ⟨_, e⟩, fun h1 h2 q k => k _ q⟩
def rIterT (K : PySem.W.Frag) : List V → Hp → VK → Prop := fun xs H Q => ∃ (b : Addr) (zs : List V), xs = [.ref b] ∧ SqT K H b zs ∧ ∀ it, H it = none → (∀ z o, H z = some o → z < it) → Q (.ref it) (upd H it (TtO b it))
section
variable {X : Cx}
theorem call_iterT : CallR X (.builtin "iter") (rIterT X.K) := by
  intro pins s σ H xs us Q I r h
  obtain ⟨l, zs, rfl, hq, q⟩ := h
  obtain rfl := Vals.ref1 r
  obtain ⟨its, rv, p, hz⟩ := I.tuple hq
  refine Calls.call_function_entry (by decide +kernel) (by decide +kernel) PySem.W.kdk_entry_iter (PySem.W.kdk_args_iter _) ?_
  unfold Builtin.«iter»
  refine wpAny_bind (m := someArgs "iter" 1 2 _) (wpAny_of_eq (a := [Value.ref l]) (by first | rfl | kernel_rfl!) ?_)
  show wpAny _ _ (pyIter (.ref l) >>= _) _ _ _
  refine wpAny_bind (wpAny_pyIter_tuple (show s.heap.IsTuple l its.toArray from p) ?_)
  refine wpAny_pure ⟨_, rfl, ?_⟩
  refine ⟨.ref s.heap.objs.size, _, I.laid (t' := s.toks) (o := TtO l s.heap.objs.size) (fun b u e => Heap.get?_push_of_some _ e) (Nat.le_refl _) (ttO_ok (Heap.get?_push_size _ rfl)), rfl, q _ (I.hok.fresh (Nat.le_refl _)) fun z o e => ?_⟩
  exact (I.hok z o e).lt
def cListN (K : PySem.W.Frag) (n : Nat) : List V → Hp → VK → Prop := fun xs H Q => ∃ a zs, xs = [.ref a] ∧ (SqL K H a zs ∨ SqT K H a zs) ∧ ∀ l, H l = none → n ≤ l → Q (.ref l) (upd H l (.lst zs))
/-- list(xs): a thing that is younger than the call -/
theorem c_listN : CallR X (.type "list") (cListN X.K X.s_0.heap.objs.size) := by
  intro pins s σ H xs us Q I r h
  obtain ⟨a, zs, rfl, hq, q⟩ := h
  obtain ⟨w1, rfl, rw1⟩ := vals1 r
  cases rw1
  have done : ∀ (its : List Value), Vals zs its → zs.length ≤ sizeLine → ∀ (h2 : Heap) (n2 : Nat), (∀ b ob, s.heap.get? b = some ob → h2.get? b = some ob) →
      h2.get? s.heap.objs.size = some { cls := .type "list", dict := none, data := .seq its.toArray n2, slots := #[] } → EP X pins σ Q (.ref s.heap.objs.size) { s with heap := h2 } := fun its rz sz h2 n2 keep at2 =>
    ⟨.ref s.heap.objs.size, _, I.laid (t' := s.toks) keep (Nat.le_refl _) (show ObjOk X.prog X.w _ h2 _ (.lst zs) from ⟨sz, its, n2, rz, at2⟩), rfl, q _ (I.hok.fresh (Nat.le_refl _)) I.sz⟩
  rcases hq with hq | hq
  · obtain ⟨its, rz, pl, sz⟩ := I.list hq
    have ln := rz.length
    obtain ⟨ob, h1, h2, m, h3⟩ := pl.isList
    exact call_list_seq a (.inl rfl) h1 h2 h3 (fun h' c' kp e => done its rz sz h' c' kp e) (by rw [List.size_toArray, ← ln]; exact sz)
  · obtain ⟨its, rz, pl, sz⟩ := I.tuple hq
    have ln := rz.length
    obtain ⟨ob, h1, h2, m, h3⟩ := pl
    exact call_list_seq a (.inr rfl) h1 h2 h3 (fun h' c' kp e => done its rz sz h' c' kp e) (by rw [List.size_toArray, ← ln]; exact sz)
structure ItM (K : PySem.W.Frag) (C f : Addr) : Prop where
  it : PySem.W.findIn K (.ref C) "__iter__" = some (some (.ref f))
  fn : PySem.W.isFn K (.ref f) = true
def iOwnT (K : PySem.W.Frag) (C : Addr) (sp : Sp) (E : XK) (n : Nat) (te : TE) : TI := fun σ H R => te σ H fun x H1 => ∃ a dx fs, x = .ref a ∧ H1 a = some (.ins C dx fs) ∧ (∃ z o, H1 z = some o ∧ n ≤ z) ∧
  sp [.ref a] H1 (fun v H2 => ∃ it b, v = .ref it ∧ H2 = upd H1 it (TtO b it) ∧ H1 it = none ∧ (∀ z o, H1 z = some o → z < it) ∧ (∃ xs, SqT K H1 b xs) ∧ R (Itt K b) H1) E
theorem look_tn : typeLookup (.type "tuple_iterator") "__next__" = pure (some (.builtin "tuple_iterator.__next__")) := by rw [typeLookup_type, builtinLookup_eq_fast]; kernel_rfl
theorem pi_ownT {CX : CXT} {k : Nat} {f C : Addr} {fd : FuncData} {ps : List Str} {sp : Sp} {E : XK} {tg e : Expr} {te : TE} (M : ItM X.K C f) (F : FnOk X.prog X.w X.K X.mg X.base CX k f fd ps sp) (hr : Room k X.A) (hb : Binds X.K fd ps []) (hx : Passes CX X E)
    (he : PE X e te) : PI X tg e (iOwnT X.K C sp E X.s_0.heap.objs.size te) := by
  refine ⟨fun pins s σ H R I h => ?_⟩
  refine thn (he.run pins s σ H _ I h) fun v s1 ⟨x, H1, I1, r1, q1⟩ => ?_
  obtain ⟨a, dx, fs, rfl, ha, ⟨z, o, hz, hn⟩, hsp⟩ := q1
  cases r1
  obtain ⟨od, J⟩ := inst_in I1 ha
  obtain ⟨m, hF⟩ := I1.fr
  refine PySem.W.owit_iter hF I1.ok.mod.kin J M.it M.fn ?_
  refine wpAny_mono (run_deep (vs := [.ref a]) F hr I1.env0 hb hx I1 (.cons rfl .nil) hsp) (fun u s2 hq => ?_) fun _ _ z => z
  obtain ⟨y, H2, I2, r2, it, b, rfl, rfl, h0, hlt, hxs, hR⟩ := hq
  cases r2
  have hget : s2.heap.get? it = some (ttObj b) := (I2.hok it _ upd_same).1
  have hT : s2.TypeIs (.ref it) "tuple_iterator" := ⟨_, hget, rfl⟩
  unfold PySem.W.OwitIt
  refine wpAny_specialOf (name := Str.ofString "__next__") hT look_tn ?_
  have hle : X.s_0.heap.objs.size ≤ it := Nat.le_of_lt (Nat.lt_of_le_of_lt hn (hlt z o hz))
  have I3 := ItX.inv_drop I2 upd_same
  have f3 := ItX.inv_fp I2 (u := TtO b it) upd_same hle
  rw [ItX.dropH_upd h0] at I3 f3
  refine ⟨it, [it], _, _, H1, rfl, I3, turn_tuple b it, ⟨_, hget, rfl, rfl⟩, fun c hc => ?_, hR⟩
  have e : c = it := by simpa using hc
  subst e
  exact f3
end
end AE

set_option Elab.async false
set_option linter.all false
set_option maxRecDepth 100000
namespace AE
open PySem PySem.Spec PyProof.Rows L2 Evl
/-! ### o[i] = v by an own __setitem__; what it may let out stands at the slots -/
section
variable {X : Cx} {pins : List (Addr × Obj)} {σ : L2.St} {H : Hp} {s : Shared} {f C : Addr} {fd : FuncData} {ps : List Str} {sp : Sp} {CX : CXT} {k : Nat} {Q : VK} {E : L2.St → XK} {vs : List V} {us : List Value}
theorem run_deepS {A : Around} (F : FnOk X.prog X.w X.K X.mg X.base CX k f fd ps sp) (hr : Room k A) (e0 : Env0 X.prog X.w X.K X.mg X.base A X.stack s H) (hb : Binds X.K fd ps []) (hx : PassesAt CX X σ (E σ))
    (I : Inv X pins σ H s) (r : Vals vs us) (h : sp vs H Q (E σ)) : wpAny (model X.prog X.w) A (call (.ref f) us) (EP X pins σ Q) X.xe s := by
  have hl : (us ++ []).length = ps.length := by
    rw [List.append_nil, ← r.length]
    exact F.len _ _ _ _ h
  have bb := hb s us I.kIn hl
  rw [List.append_nil] at bb
  refine wpAny_call (codeAny_mono (F.run A X.stack s H ⟨us, []⟩ us vs Q (E σ) hr e0 bb r h) fun r s' hq => ?_)
  cases r with
  | error e => exact hx pins H s e s' I hq
  | ok fl =>
    cases fl with
    | ret u => exact I.after hq
    | next => exact False.elim hq
    | brk => exact False.elim hq
    | cont => exact False.elim hq
def tSetO (C : Addr) (sp : Sp) (E : L2.St → XK) (tv to ti : TE) : TS := fun D σ H => tv σ H fun v H1 => to σ H1 fun x H2 => ti σ H2 fun y H3 => ∃ a dx fs, x = .ref a ∧ H3 a = some (.ins C dx fs) ∧ sp [.ref a, y, v] H3 (fun _ H4 => D.nx σ H4) (E σ)
theorem ps_setO {o i value : Expr} {tv to ti : TE} {pos' pos : Pos} (hs : Meth X.K C "__setitem__" f) (hq : PySem.W.noSeq X.K C = true) (F : FnOk X.prog X.w X.K X.mg X.base CX k f fd ps sp) (hr : Room k X.A) (hb : Binds X.K fd ps []) (hx : ∀ σ, PassesAt CX X σ (E σ))
    (hv : PE X value tv) (ho : PE X o to) (hi : PE X i ti) (hsw : swapsWith value (some (.Subscript o i pos')) pos.line X.env = pure false := by rfl) : PS X (.Assign [.Subscript o i pos'] value pos) (tSetO C sp E tv to ti) := by
  refine ⟨fun pins s σ H D I h => ?_⟩
  refine wpAny_Assign_Subscript (thn (hv.run pins s σ H _ I h) fun r s1 ⟨v, H1, I1, rv, q1⟩ => thn (ho.run pins s1 σ H1 _ I1 q1) fun u s2 ⟨x, H2, I2, rx, q2⟩ => thn (hi.run pins s2 σ H2 _ I2 q2) fun iv s3 ⟨y, H3, I3, ry, q3⟩ => ?_) hsw
  obtain ⟨a, dx, fs, rfl, ha, hsp⟩ := q3
  cases rx
  obtain ⟨od, J⟩ := inst_in I3 ha
  obtain ⟨m, hF⟩ := I3.fr
  refine PySem.W.ksp_setItem hF I3.ok.mod.kin J hq hs.at_ hs.fn ?_
  refine wpAny_mono (run_deepS (vs := [.ref a, y, v]) F hr I3.env0 hb (hx σ) I3 (.cons rfl (.cons ry (.cons rv .nil))) hsp) (fun u2 s4 hq4 => ?_) fun _ _ z => z
  obtain ⟨z, H4, I4, rz, q4⟩ := hq4
  exact ⟨σ, H4, I4, q4⟩
def rLenO (C : Addr) (sp : Sp) (E : XK) : List V → Hp → VK → Prop := fun xs H Q => ∃ a dx fs, xs = [.ref a] ∧ H a = some (.ins C dx fs) ∧ sp [.ref a] H (fun v H1 => ∃ n : Int, v = .int n ∧ 0 ≤ n ∧ n < 2 ^ 63 ∧ Q (.int n) H1) E
theorem c_lenO {E : XK} (hs : Meth X.K C "__len__" f) (F : FnOk X.prog X.w X.K X.mg X.base CX k f fd ps sp) (hr : Room (k + 1) X.A) (hb : Binds X.K fd ps []) (hx : Passes CX X E) : CallR X (.builtin "len") (rLenO C sp E) := by
  rintro pins s σ H xs us Q I r ⟨a, dx, fs, rfl, ha, q⟩
  cases r with
  | cons ra rt =>
    cases rt
    cases ra
    obtain ⟨od, J⟩ := inst_in I ha
    obtain ⟨m, hF⟩ := I.fr
    refine PySem.W.len_K hF I.ok.mod.kin J hs.at_ hs.fn (wpAny_mono (run_deep (vs := [.ref a]) F hr.in1 I.env0.in1 hb hx I (.cons rfl .nil) q) (fun r s1 hr => ?_) fun _ _ y => y)
    obtain ⟨v, H1, I1, rv, n, rfl, n0, n1, q1⟩ := hr
    obtain ⟨t, rfl⟩ := rv
    exact ⟨⟨n0, n1⟩, .int n, H1, I1.tok _, ⟨_, rfl⟩, q1⟩
/-- C() by a promise on rows -/
theorem pe_makeR0 {E : XK} {x : Str} {p pos : Pos} (M : Mk X.K C f) (F : FnR X.prog X.w X.K X.mg X.base CX k f sp) (hr : Room (k + 1) X.A) (hg : Gl X x) (hm : X.mg x = some (.ref C)) (hx : Passes CX X E) (hdb : (x == ("__debug__" : Str)) = false := by decide) :
    PE X (.Call (.Name x p) [] [] pos) (StX.tMakeR C sp E tNil) := by
  refine ⟨fun pins s σ H Q I h => ?_⟩
  refine wpAny_Call_Name_kw (ld_glob I hg hm ?_ hdb)
  exact PySem.W.callWith_K0 I.kIn M.kp (StX.run_makeR (us := []) M F hr hx I .nil h)
end
end AE

set_option Elab.async false
set_option linter.all false
set_option maxRecDepth 100000
/-! == of such values -/
namespace AE
open PySem PySem.Spec PyProof.Rows L2 Evl
theorem txn_ex {H H' : Hp} (e : Ex H H') : TxN H H' := fun a xs h => e _ _ h
mutual
def toD : NK → PyData
  | .non => .none
  | .int i => .int i
  | .str x => .str x
  | .tup ks => .tuple (toDs ks)
def toDs : List NK → List PyData
  | [] => []
  | k :: ks => toD k :: toDs ks
end
mutual
/-- its texts are of signs that stand -/
def okN : NK → Bool
  | .str x => PyData.strOk x
  | .tup ks => okNs ks
  | _ => true
def okNs : List NK → Bool
  | [] => true
  | k :: ks => okN k && okNs ks
end
theorem toDs_len : ∀ ks : List NK, (toDs ks).length = ks.length
  | [] => rfl
  | k :: ks => by rw [toDs, List.length_cons, List.length_cons, toDs_len ks]
theorem toDs_map : ∀ ks : List NK, toDs ks = ks.map toD
  | [] => rfl
  | k :: ks => by rw [toDs, List.map_cons, toDs_map ks]
theorem okNs_all : ∀ ks : List NK, okNs ks = ks.all okN
  | [] => rfl
  | k :: ks => by rw [okNs, List.all_cons, okNs_all ks]
mutual
theorem toD_lay : ∀ k : NK, okN k = true → (toD k).canLay0 = true
  | .non, _ => rfl
  | .int i, _ => rfl
  | .str x, h => by rw [okN] at h; rw [toD, PyData.canLay0]; exact h
  | .tup ks, h => by rw [okN] at h; rw [toD, PyData.canLay0]; exact toDs_lay ks h
theorem toDs_lay : ∀ ks : List NK, okNs ks = true → PyData.canLayAll0 (toDs ks) = true
  | [], _ => rfl
  | k :: ks, h => by
    rw [okNs, Bool.and_eq_true] at h
    rw [toDs, PyData.canLayAll0, toD_lay k h.1, toDs_lay ks h.2]
    rfl
end
mutual
theorem toD_depth : ∀ k : NK, (toD k).depth = k.depth
  | .non => by rw [toD, PyData.depth, NK.depth]; exact fun _ z => nomatch z
  | .int i => by rw [toD, PyData.depth, NK.depth]; exact fun _ z => nomatch z
  | .str x => by rw [toD, PyData.depth, NK.depth]; exact fun _ z => nomatch z
  | .tup ks => by rw [toD, PyData.depth, NK.depth, toDs_depth ks]
theorem toDs_depth : ∀ ks : List NK, PyData.depthAll (toDs ks) = NK.depths ks
  | [] => by rw [toDs, PyData.depthAll, NK.depths]
  | k :: ks => by rw [toDs, PyData.depthAll, NK.depths, toD_depth k, toDs_depth ks]
end
mutual
theorem toD_eqv : ∀ a b : NK, PyData.eqv (toD a) (toD b) = decide (a = b)
  | .non, .non => by simp [toD, PyData.eqv]
  | .non, .int _ => by simp [toD, PyData.eqv]
  | .non, .str _ => by simp [toD, PyData.eqv]
  | .non, .tup _ => by simp [toD, PyData.eqv]
  | .int i, .non => by simp [toD, PyData.eqv]
  | .int i, .int j => by
    simp only [toD, PyData.eqv, NK.int.injEq]
    by_cases h : i = j
    · subst h; simp
    · rw [decide_eq_false h]; exact beq_eq_false_iff_ne.mpr h
  | .int i, .str _ => by simp [toD, PyData.eqv]
  | .int i, .tup _ => by simp [toD, PyData.eqv]
  | .str i, .non => by simp [toD, PyData.eqv]
  | .str i, .int j => by simp [toD, PyData.eqv]
  | .str i, .str j => by
    simp only [toD, PyData.eqv, NK.str.injEq]
    by_cases h : i = j
    · subst h; simp
    · rw [decide_eq_false h]; exact beq_eq_false_iff_ne.mpr h
  | .str i, .tup _ => by simp [toD, PyData.eqv]
  | .tup ks, .non => by simp [toD, PyData.eqv]
  | .tup ks, .int j => by simp [toD, PyData.eqv]
  | .tup ks, .str j => by simp [toD, PyData.eqv]
  | .tup ks, .tup js => by
    simp only [toD, PyData.eqv, NK.tup.injEq]
    exact toDs_eqv ks js
theorem toDs_eqv : ∀ a b : List NK, PyData.eqvAll (toDs a) (toDs b) = decide (a = b)
  | [], [] => by simp [toDs, PyData.eqvAll]
  | [], _ :: _ => by simp [toDs, PyData.eqvAll]
  | _ :: _, [] => by simp [toDs, PyData.eqvAll]
  | x :: xs, y :: ys => by
    simp only [toDs, PyData.eqvAll, List.cons.injEq, Bool.decide_and, toD_eqv x y, toDs_eqv xs ys]
end
mutual
theorem nat_dp {K : PySem.W.Frag} {H : Hp} : ∀ {v : V} {k : NK}, NAt H v k → Dp K H v (toD k)
  | _, _, .non => by rw [toD]; exact .non
  | _, _, .int i => by rw [toD]; exact .int i
  | _, _, .str x => by rw [toD]; exact .str x
  | _, _, .tup h t => by rw [toD]; exact .tup (.inl (.inl h)) (nats_dp t)
theorem nats_dp {K : PySem.W.Frag} {H : Hp} : ∀ {vs : List V} {ks : List NK}, NAts H vs ks → DpAll K H vs (toDs ks)
  | _, _, .nil => by rw [toDs]; exact .nil
  | _, _, .cons h t => by rw [toDs]; exact .cons (nat_dp h) (nats_dp t)
end
theorem shp {k : NK} (o : okN k = true) (d : k.depth ≤ 64) : SeqAt.shaped (toD k) = true := by
  simp [SeqAt.shaped, toD_lay k o, toD_depth, d]
theorem shps {ks : List NK} (o : okNs ks = true) (d : NK.depths ks ≤ 63) : SeqAt.shaped (.list (toDs ks)) = true := by
  simp [SeqAt.shaped, PyData.canLay0, toDs_lay ks o, PyData.depth, toDs_depth, d]
theorem shpt {ks : List NK} (o : okNs ks = true) (d : NK.depths ks ≤ 63) : SeqAt.shaped (.tuple (toDs ks)) = true := by
  simp [SeqAt.shaped, PyData.canLay0, toDs_lay ks o, PyData.depth, toDs_depth, d]
section
variable {K : PySem.W.Frag} {H : Hp} {Q : VK} {x y : V} {a b : NK}
theorem r_eqN (hx : NAt H x a) (hy : NAt H y b) (o1 : okN a = true) (o2 : okN b = true) (d1 : a.depth ≤ 64) (d2 : b.depth ≤ 64) (q : Q (.bl (decide (a = b))) H) : rEqD K x y H Q :=
  ⟨_, _, nat_dp hx, nat_dp hy, shp o1 d1, shp o2 d2, by rw [toD_eqv]; exact q⟩
theorem r_neN (hx : NAt H x a) (hy : NAt H y b) (o1 : okN a = true) (o2 : okN b = true) (d1 : a.depth ≤ 64) (d2 : b.depth ≤ 64) (q : Q (.bl (!decide (a = b))) H) : rNeD K x y H Q :=
  ⟨_, _, nat_dp hx, nat_dp hy, shp o1 d1, shp o2 d2, by rw [toD_eqv]; exact q⟩
theorem r_eqL {p r : Addr} {xs ys : List V} {as bs : List NK} (hp : SqL K H p xs) (hr : SqL K H r ys) (hx : NAts H xs as) (hy : NAts H ys bs) (o1 : okNs as = true) (o2 : okNs bs = true) (d1 : NK.depths as ≤ 63) (d2 : NK.depths bs ≤ 63) (q : Q (.bl (decide (as = bs))) H) : rEqD K (.ref p) (.ref r) H Q :=
  ⟨_, _, .lst hp (nats_dp hx), .lst hr (nats_dp hy), shps o1 d1, shps o2 d2, by rw [show PyData.eqv (.list (toDs as)) (.list (toDs bs)) = PyData.eqvAll (toDs as) (toDs bs) by simp [PyData.eqv], toDs_eqv]; exact q⟩
theorem r_neL {p r : Addr} {xs ys : List V} {as bs : List NK} (hp : SqL K H p xs) (hr : SqL K H r ys) (hx : NAts H xs as) (hy : NAts H ys bs) (o1 : okNs as = true) (o2 : okNs bs = true) (d1 : NK.depths as ≤ 63) (d2 : NK.depths bs ≤ 63) (q : Q (.bl (!decide (as = bs))) H) : rNeD K (.ref p) (.ref r) H Q :=
  ⟨_, _, .lst hp (nats_dp hx), .lst hr (nats_dp hy), shps o1 d1, shps o2 d2, by rw [show PyData.eqv (.list (toDs as)) (.list (toDs bs)) = PyData.eqvAll (toDs as) (toDs bs) by simp [PyData.eqv], toDs_eqv]; exact q⟩
end
/-! rows of such values -/
theorem NAts.app {H : Hp} : ∀ {vs ws : List V} {ks ls : List NK}, NAts H vs ks → NAts H ws ls → NAts H (vs ++ ws) (ks ++ ls)
  | _, _, _, _, .nil, t => t
  | _, _, _, _, .cons h r, t => .cons h (r.app t)
theorem NAts.snoc {H : Hp} {v : V} {k : NK} {vs : List V} {ks : List NK} (t : NAts H vs ks) (h : NAt H v k) : NAts H (vs ++ [v]) (ks ++ [k]) := t.app (.cons h .nil)
theorem NAts.len {H : Hp} : ∀ {vs : List V} {ks : List NK}, NAts H vs ks → vs.length = ks.length
  | _, _, .nil => rfl
  | _, _, .cons _ t => by rw [List.length_cons, List.length_cons, t.len]
theorem NAts.get {H : Hp} : ∀ {vs : List V} {ks : List NK} {i : Nat} {v : V}, NAts H vs ks → vs[i]? = some v → ∃ k, ks[i]? = some k ∧ NAt H v k
  | _, _, 0, _, .cons h _, e => by
    have e' := Option.some.inj e
    exact ⟨_, rfl, e' ▸ h⟩
  | _, _, i + 1, v, .cons _ t, e => by
    obtain ⟨x, h1, h2⟩ := NAts.get (i := i) (v := v) t (by simpa using e)
    exact ⟨x, by simpa using h1, h2⟩
theorem NAts.rev {H : Hp} : ∀ {vs : List V} {ks : List NK}, NAts H vs ks → NAts H vs.reverse ks.reverse
  | _, _, .nil => .nil
  | _, _, .cons h t => by rw [List.reverse_cons, List.reverse_cons]; exact t.rev.snoc h
theorem NAt.new {H : Hp} {p : Addr} {xs : List V} {ks : List NK} (hp : H p = none) (t : NAts H xs ks) : NAt (upd H p (.tup xs)) (.ref p) (.tup ks) :=
  .tup upd_same (t.tx fun a ys h => by rw [upd_ne (ne_of_none h hp)]; exact h)
theorem NAt.tupOf {H : Hp} {v : V} {ks : List NK} (h : NAt H v (.tup ks)) : ∃ a xs, v = .ref a ∧ H a = some (.tup xs) ∧ NAts H xs ks := by
  cases h with
  | tup h t => exact ⟨_, _, rfl, h, t⟩
theorem NAts.cons_inv {H : Hp} {xs : List V} {k : NK} {ks : List NK} (h : NAts H xs (k :: ks)) : ∃ v vs, xs = v :: vs ∧ NAt H v k ∧ NAts H vs ks := by
  cases h with
  | cons h t => exact ⟨_, _, rfl, h, t⟩
theorem NAts.nil_inv {H : Hp} {xs : List V} (h : NAts H xs []) : xs = [] := by
  cases h
  rfl
theorem NAt.int_inv {H : Hp} {v : V} {i : Int} (h : NAt H v (.int i)) : v = .int i := by
  cases h
  rfl
theorem NAt.str_inv {H : Hp} {v : V} {i : Str} (h : NAt H v (.str i)) : v = .str i := by
  cases h
  rfl
theorem NAt.non_inv {H : Hp} {v : V} (h : NAt H v .non) : v = .non := by
  cases h
  rfl
theorem NAts.inv2 {H : Hp} {xs : List V} {a b : NK} (h : NAts H xs [a, b]) : ∃ u v, xs = [u, v] ∧ NAt H u a ∧ NAt H v b := by
  obtain ⟨u, r, rfl, h1, h⟩ := h.cons_inv
  obtain ⟨v, r, rfl, h2, h⟩ := h.cons_inv
  rw [h.nil_inv]
  exact ⟨_, _, rfl, h1, h2⟩
theorem NAts.inv3 {H : Hp} {xs : List V} {a b c : NK} (h : NAts H xs [a, b, c]) : ∃ u v z, xs = [u, v, z] ∧ NAt H u a ∧ NAt H v b ∧ NAt H z c := by
  obtain ⟨u, r, rfl, h1, h⟩ := h.cons_inv
  obtain ⟨v, z, rfl, h2, h3⟩ := h.inv2
  exact ⟨_, _, _, rfl, h1, h2, h3⟩
/-! a new tuple, a new list -/
def TupK (Q : VK) (xs : List V) (H : Hp) : Prop := xs.length ≤ sizeLine ∧ ∀ p, H p = none → Q (.ref p) (upd H p (.tup xs))
def LstK (Q : VK) (xs : List V) (H : Hp) : Prop := xs.length ≤ sizeLine ∧ ∀ p, H p = none → Q (.ref p) (upd H p (.lst xs))
section
variable {H : Hp} {Q : VK} {xs : List V} {ks : List NK} {σ : L2.St} {tr : TA}
theorem r_tupK (q : tr σ H fun xs H1 => TupK Q xs H1) : tTup tr σ H Q := q
theorem r_lstK (q : tr σ H fun xs H1 => LstK Q xs H1) : tLst tr σ H Q := q
theorem tup_go (hx : NAts H xs ks) (q : ∀ p H1, H p = none → Ex H H1 → NAt H1 (.ref p) (.tup ks) → H1 p = some (.tup xs) → Q (.ref p) H1) (n : xs.length ≤ 100000 := by first | exact Nat.le_of_ble_eq_true rfl | (simp only [List.length_map, List.length_cons, List.length_nil]; omega)) : TupK Q xs H :=
  ⟨sz_of n, fun p hp => q p _ hp (Ex.new hp) (NAt.new hp hx) upd_same⟩
theorem tup_go' (q : ∀ p H1, H p = none → Ex H H1 → H1 p = some (.tup xs) → Q (.ref p) H1) (n : xs.length ≤ 100000 := by first | exact Nat.le_of_ble_eq_true rfl | (simp only [List.length_map, List.length_cons, List.length_nil]; omega)) : TupK Q xs H :=
  ⟨sz_of n, fun p hp => q p _ hp (Ex.new hp) upd_same⟩
theorem lst_go (q : ∀ p H1, H p = none → Ex H H1 → H1 p = some (.lst xs) → Q (.ref p) H1) (n : xs.length ≤ 100000 := by first | exact Nat.le_of_ble_eq_true rfl | (simp only [List.length_map, List.length_cons, List.length_nil]; omega)) : LstK Q xs H :=
  ⟨sz_of n, fun p hp => q p _ hp (Ex.new hp) upd_same⟩
end
/-! xs[::-1]; an object made -/
section
variable {K : PySem.W.Frag} {H : Hp} {Q : VK} {σ : L2.St} {te : TE} {t tk : TA} {C : Addr} {sp : Sp} {E : XK} {dvs : List V} {n m : Nat} {gV : List V → List V → List V}
def RevK (K : PySem.W.Frag) (x : V) (H : Hp) (Q : VK) : Prop := ∃ a xs, x = .ref a ∧ SqL K H a xs ∧ ∀ p, H p = none → Q (.ref p) (upd H p (.lst xs.reverse))
theorem r_revL (q : te σ H fun x H1 => RevK K x H1 Q) : tRevL K te σ H Q := q
theorem rev_go {a : Addr} {xs : List V} (h : SqL K H a xs) (q : ∀ p H1, H p = none → Ex H H1 → H1 p = some (.lst xs.reverse) → Q (.ref p) H1) : RevK K (.ref a) H Q := ⟨a, xs, rfl, h, fun p hp => q p _ hp (Ex.new hp) upd_same⟩
def MkI (C : Addr) (f : Addr → List V) (sp : Sp) (E : XK) (H : Hp) (Q : VK) : Prop := ∀ x dx, H x = none → H dx = none → dx ≠ x → sp (f x) (upd (upd H dx (.own x)) x (.ins C dx [])) (fun v H3 => v = .non ∧ Q (.ref x) H3) E
theorem r_makeK (q : t σ H fun vs H1 => tk σ H1 fun zs H2 => vs.length = n ∧ zs.length = m ∧ MkI C (fun x => gV (.ref x :: vs) zs) sp E H2 Q) : tMakeK C n m sp gV E t tk σ H Q := q
theorem r_make (q : t σ H fun vs H1 => MkI C (fun x => .ref x :: (vs ++ dvs)) sp E H1 Q) : tMake C sp dvs E t σ H Q := q
theorem mki_go {f : Addr → List V} (q : ∀ x dx H1, H x = none → Ex H H1 → H1 x = some (.ins C dx []) → sp (f x) H1 (fun v H3 => v = .non ∧ Q (.ref x) H3) E) : MkI C f sp E H Q := fun x dx nx ndx ne => by
  have e1 : Ex H (upd H dx (.own x)) := Ex.new ndx
  have n2 : (upd H dx (.own x)) x = none := by rw [upd_ne (Ne.symm ne)]; exact nx
  exact q x dx _ nx (e1.trans (Ex.new n2)) upd_same
theorem ex_made {H1 H' : Hp} {x : Addr} (nx : H x = none) (e : Ex H H1) (c : Ch x H1 H') : Ex H H' := fun b o hb => c b o (ne_of_none hb nx) (e b o hb)
end
/-! two ways that meet again -/
theorem join_ite {b : Bool} {ts tu : TS} {D : Ends} {σ : L2.St} {H : Hp} (R : L2.St → Hp → Prop) (tail : ∀ σ' H', R σ' H' → D.nx σ' H') (body : ∀ D' : Ends, (∀ σ' H', R σ' H' → D'.nx σ' H') → if b = true then ts D' σ H else tu D' σ H) : if b = true then ts D σ H else tu D σ H := body D tail
/-! dicts of this kind, by steps -/
section
variable {w : World} {σ : L2.St} {H : Hp} {Q : VK} {D : Ends} {td ty tx tv : TE}
def SetdK (w : World) (a : Addr) (y z : V) (H : Hp) (Q : VK) : Prop := ∃ (kvs : List NE) (k : NK) (b : Addr), H a = some (dN w a kvs) ∧ KeysOk H kvs ∧ y = .ref b ∧ k.depth ≤ 8 ∧ NAt H (.ref b) k ∧ kvs.length < sizeLine ∧
  (∀ v, valN kvs k = some v → Q v H) ∧ (valN kvs k = none → Q z (upd H a (dN w a (putN kvs k b z))))
theorem r_setdN (q : td σ H fun x Ha => ∃ a, x = .ref a ∧ IsN w Ha a ∧ ty σ Ha fun y Hb => tx σ Hb fun z Hc => SetdK w a y z Hc Q) : tSetdN w td ty tx σ H Q := q
theorem setd_go {a b : Addr} {kvs : List NE} {k : NK} {z : V} (h : H a = some (dN w a kvs)) (hk : KeysOk H kvs) (hb : NAt H (.ref b) k) (d : k.depth ≤ 8) (l : kvs.length < 100000)
    (q1 : ∀ v, valN kvs k = some v → Q v H) (q2 : valN kvs k = none → ∀ H1, Ch a H H1 → H1 a = some (dN w a (kvs ++ [(k, b, z)])) → KeysOk H1 (kvs ++ [(k, b, z)]) → Q z H1) : SetdK w a (.ref b) z H Q :=
  ⟨kvs, k, b, h, hk, rfl, d, hb, by have := @sz_of 100000 (by decide); omega, q1, fun hn => by
    have e : putN kvs k b z = kvs ++ [(k, b, z)] := by unfold putN; rw [hn]; rfl
    rw [e]
    refine q2 hn _ ch_upd upd_same fun x hx => ?_
    have tx : TxN H (upd H a (dN w a (kvs ++ [(k, b, z)]))) := fun c ys ec => by rw [upd_ne (ne_of ec h (by intro z; cases z))]; exact ec
    rcases List.mem_append.mp hx with hx | hx
    · exact ⟨(hk x hx).1, (hk x hx).2.tx tx⟩
    · rw [List.mem_singleton.mp hx]
      exact ⟨d, hb.tx tx⟩⟩
def NGetK (w : World) (a : Addr) (y z : V) (H : Hp) (Q : VK) : Prop := ∃ o, NGet w H a y o ∧ Q (o.getD z) H
theorem r_nget2 (q : td σ H fun x H1 => ∃ a, x = .ref a ∧ IsN w H1 a ∧ ty σ H1 fun y H2 => tx σ H2 fun z H3 => NGetK w a y z H3 Q) : tNGet2 w td ty tx σ H Q := q
theorem nget_go {a b : Addr} {kvs : List NE} {k : NK} {z : V} (h : H a = some (dN w a kvs)) (hk : KeysOk H kvs) (hb : NAt H (.ref b) k) (d : k.depth ≤ 8) (q : Q ((valN kvs k).getD z) H) : NGetK w a (.ref b) z H Q :=
  ⟨_, ⟨kvs, k, b, .inl h, hk, rfl, d, hb, rfl⟩, q⟩
theorem isN_of {a : Addr} {kvs : List NE} (h : H a = some (dN w a kvs)) : IsN w H a := ⟨kvs, .inl h⟩
def NNewK (w : World) (H : Hp) (Q : VK) : Prop := ∀ p, H p = none → Q (.ref p) (upd H p (dN w p []))
theorem r_nnew (q : NNewK w H Q) : tNNew w σ H Q := q
theorem nnew_go (q : ∀ p H1, H p = none → Ex H H1 → H1 p = some (dN w p []) → Q (.ref p) H1) : NNewK w H Q := fun p hp => q p _ hp (Ex.new hp) upd_same
theorem valN_snoc (kvs : List NE) (k k' : NK) (b : Addr) (v : V) : valN (kvs ++ [(k, b, v)]) k' = (valN kvs k').or (if k = k' then some v else none) := by
  unfold valN
  rw [List.find?_append, List.find?_cons, List.find?_nil]
  by_cases h : k = k'
  · rw [if_pos h, decide_eq_true h]
    cases kvs.find? (fun x => decide (x.1 = k')) <;> rfl
  · rw [if_neg h, decide_eq_false h]
    cases kvs.find? (fun x => decide (x.1 = k')) <;> rfl
end
/-! heaps -/
theorem ex_txn {H H' : Hp} (e : Ex H H') : TxN H H' := fun _ _ h => e _ _ h
end AE

set_option Elab.async false
set_option linter.all false
set_option maxRecDepth 100000
set_option maxHeartbeats 2000000
/-! an own error's __init__: super().__init__(text), then fields -/
namespace AE
open PySem PySem.Spec PyProof.Rows L2 Evl
/-- the scope of a method that says super(): no cells, one name from outside, the class -/
structure SupScope (N ps : List Str) (sc : Scope) : Prop where
  kind : sc.kind = .function
  co : sc.isCoroutine = false
  gen : sc.isGenerator = false
  nd : N.Nodup
  pre : N.take ps.length = ps
  par : ∀ x ∈ ps, sc.names.lookup x = some .local
  nocell : ∀ y ∈ sc.names, y.2 ≠ .cell
  one : ∀ y ∈ sc.names, y.2 = .free → y.1 = ("__class__" : Str)
  hkc : sc.names.lookup ("__class__" : Str) = some .free
  hks : sc.names.lookup ("super" : Str) = some .globalImplicit
/-- its context -/
def cxS (P : Program) (w : World) (K : PySem.W.Frag) (mg : Str → Option Value) (base : Heap) (N : List Str) (qual : Str) (scope : Scope) (f : Addr) (cd : Value) (cc : Addr) (A : Around) (outer : List Env) (s : Shared) (H : Hp) : Cx :=
  { prog := P, w := w, K := K, mg := mg, base := base, A := A.deeper (PySem.W.ksEnv qual scope s.heap.objs.size f cd cc), N := N, s_0 := s, H_0 := H, env := PySem.W.ksEnv qual scope s.heap.objs.size f cd cc, outer := outer,
    stack := PySem.W.ksEnv qual scope s.heap.objs.size f cd cc :: outer, ex := [], calm := true, fn := fun _ => false, pn := [], xe := fun _ _ => False }
section
variable {P : Program} {w : World} {K : PySem.W.Frag} {mg : Str → Option Value} {base : Heap} {N ps : List Str} {qual : Str} {scope : Scope} {f : Addr} {cd : Value} {cc C : Addr} {A : Around} {outer : List Env} {s : Shared} {H : Hp} {us : List Value} {vs : List V}
theorem one_look {α : Type} {y x : Str} {c c' : α} (h : ([(x, c)] : List (Str × α)).lookup y = some c') : y = x ∧ c' = c := by
  by_cases e : y = x
  · subst e
    simp [List.lookup] at h
    exact ⟨rfl, h.symm⟩
  · have : (y == x) = false := by simpa using e
    simp [List.lookup, this] at h
theorem inv_startS {h1 : Heap} {tk : Nat} (S : SupScope N ps scope) (hd : A.handled = none) (e0 : Env0 P w K mg base A outer s H) (hl : vs.length = ps.length) (r : Vals vs us)
    (hcell : base.get? cc = some ({ cls := .type "cell", data := .cell (some (.ref C)) } : Obj) ∨ ∃ o : Obj, base.get? cc = some o ∧ o.data = .cell (some (.ref C)))
    (hns : h1.Ns s.heap.objs.size fun x => (ps.zip us).reverse.lookup x) (hk : ∀ b o, s.heap.get? b = some o → h1.get? b = some o) :
    Inv (cxS P w K mg base N qual scope f cd cc A outer s H) [] (L2.start N vs) H { s with heap := h1, toks := tk } := by
  have hpl : ps.length ≤ N.length := by
    have := congrArg List.length S.pre
    rw [List.length_take] at this
    omega
  obtain ⟨oc, hoc, hocd⟩ : ∃ o : Obj, base.get? cc = some o ∧ o.data = .cell (some (.ref C)) := by
    rcases hcell with h | h
    · exact ⟨_, h, rfl⟩
    · exact h
  have noA : ∀ b : Addr, b ∉ (cxS P w K mg base N qual scope f cd cc A outer s H).ex := fun b z => absurd (show b ∈ ([] : List Addr) from z) (by simp)
  have lk : ∀ {y : Str} {c : Addr}, (cxS P w K mg base N qual scope f cd cc A outer s H).env.cells.lookup y = some c → y = ("__class__" : Str) ∧ c = cc := fun h => one_look h
  have hH : H cc = none := (e0.bs _ _ hoc).2
  refine ⟨⟨e0.mod, S.kind, rfl, rfl, Nat.le_refl _, fun y z c h1 h2 => (lk h1).1.trans (lk h2).1.symm, fun y hy => ?_, fun y c h _ => Bool.noConfusion h, fun _ => hd, Around.frames_deeper e0.frames, .inr ⟨rfl, rfl⟩,
    fun b z => absurd z (noA b), e0.bs, e0.bsz, fun b _ _ => noA b, fun b z => absurd z (noA b), e0.funs, e0.frf⟩, rfl, e0.bare, Un.kept hk, ⟨_, hns, fun i y v h1 h2 h3 => ?_⟩,
    fun y c h => ⟨some (.ref C), ?_⟩, e0.hok.fresh (Nat.le_refl _), fun y c h => ?_, fun p hp => absurd (show p ∈ ([] : List (Addr × Obj)) from hp) (by simp), e0.hok.kept hk, ?_⟩
  · have hy : scope.names.lookup y = some .cell ∨ scope.names.lookup y = some .free := hy
    rcases hy with hy | hy
    · exact absurd rfl (S.nocell _ (PySem.mem_of_lookup hy))
    · have e := S.one _ (PySem.mem_of_lookup hy) rfl
      have e : y = ("__class__" : Str) := e
      subst e
      exact ⟨cc, rfl⟩
  · have hi : i < vs.length := by
      unfold L2.start at h2
      by_cases hi : i < vs.length
      · exact hi
      · rw [List.getElem?_append_right (by simpa using hi), List.getElem?_replicate] at h2
        split at h2 <;> cases h2
    have ha : vs[i]? = some v := by
      unfold L2.start at h2
      rw [List.getElem?_append_left (by simpa using hi), List.getElem?_map] at h2
      cases e : vs[i]? with
      | none => rw [e] at h2; cases h2
      | some a => rw [e] at h2; cases h2; rfl
    obtain ⟨u, hu, rv⟩ := r.get ha
    have hp : ps[i]? = some y := by
      rw [← S.pre, List.getElem?_take_of_lt (by omega)]
      exact h1
    have ndP : ps.Nodup := by
      rw [← S.pre]
      exact S.nd.sublist (List.take_sublist _ _)
    exact ⟨u, rv, .inl ⟨S.par y (List.mem_of_getElem? hp), NdefX.zip_look ndP hp hu⟩⟩
  · obtain ⟨_, rfl⟩ := lk h
    exact ⟨oc, hk _ _ (e0.bs _ _ hoc).1, hocd⟩
  · obtain ⟨_, rfl⟩ := lk h
    exact hH
  · unfold L2.start
    show _ = N.length
    rw [List.length_append, List.length_map, List.length_replicate]
    omega
end
/-! ### ValueError.__init__ through a method-wrapper -/
section
variable {X : Cx} {pins : List (Addr × Obj)} {σ : L2.St} {H : Hp} {s : Shared} {a C u : Addr} {E : Value → Shared → Prop} {A : Around}
theorem winit_ok {us : List Value} {Q : Value → Shared → Prop} (T : OexC X.K C) (I : Inv X pins σ H s) (e : H a = some (exo a C none)) (hu : s.heap.get? u = some (PySem.W.kxs_mw "ValueError.__init__" a)) (hl : us.length ≤ sizeLine) (h : ∀ s', Inv X pins σ H s' → Q .none s') :
    wpAny (model X.prog X.w) A (call (.ref u) us) Q E s := by
  obtain ⟨nm, q, N, bs, bm, sn, sub, ab, col, dd, k0, k1, k2, k3, k5, hC, hbm⟩ := T.cls
  obtain ⟨t1, ho⟩ := exo_at I.hok e
  have hCh := I.kIn _ _ hC
  obtain ⟨hp, g, d, t, os⟩ := s
  have fin : ∀ h' t2, (∀ b o, b ≠ a → hp.get? b = some o → h'.get? b = some o) → h'.get? a = some (PySem.HandSPX.excO C t2) → Q .none ⟨h', g, d, t, os⟩ := fun h' t2 k hx => by
    have J := I.write (t' := t) (x := a) (e := a) (o := exo a C none) (by rw [e]; exact True.intro) (.inl rfl) k ⟨_, hx⟩ (exo_ok hx)
    have eu : upd H a (exo a C none) = H := by
      funext b
      by_cases hb : b = a
      · rw [hb, upd_same, e]
      · rw [upd_ne hb]
    rw [eu] at J
    exact h _ J
  refine wpAny_call (codeAny_of_tree ?_)
  show wpAny _ A.in1 (callAny (.ref u) ⟨us, []⟩) _ _ _
  simp only [callAny]
  refine wpAny_bind (wpAny_load hu ?_)
  simp only [PySem.W.kxs_mw, show (Value.type "method-wrapper" == Value.type "method" || Value.type "method-wrapper" == Value.type "builtin_function_or_method" || Value.type "method-wrapper" == Value.type "method-wrapper") = true by decide, if_true]
  refine PySem.W.KFB.if_so (by decide) ?_
  refine wpAny_bind (PySem.ESX.check_bound F.excBase_ValueError hCh ho rfl ?_)
  refine wpAny_bind (wpAny_pure (wpAny_pure ?_))
  refine ⟨Code.quiet_builtin _ (by decide +kernel), codeAny_builtin F.excBase_ValueError.initEntry ?_⟩
  rw [Around.under_plainId F.excBase_ValueError.init.plain _]
  wp_walk
  refine fin _ hp.objs.size (fun b o hb hbo => ?_) ?_
  · rw [Heap.get?_update_other _ _ (Ne.symm hb)]
    exact Heap.get?_push_of_some _ hbo
  · rw [Heap.get?_update_self _ (Heap.get?_push_of_some _ ho) rfl]
    rfl
end
end AE

set_option Elab.async false
set_option linter.all false
set_option maxRecDepth 100000
set_option maxHeartbeats 4000000
namespace AE
open PySem PySem.Spec PyProof.Rows L2 Evl
/-- what the program's text tells of super() -/
structure SupOk (P : Program) (file : Str) : Prop where
  hfile : ((P.main.file : Str) == file) = true
  htop : (P.main.scope.names.lookup ("super" : Str)).isSome = false
/-- a method that says super(): its class C, the cell cc, its code at cda -/
structure SupFn (K : PySem.W.Frag) (name qual : Str) (st : Stmt) (C f cc cda : Addr) (file : Str) (fd : FuncData) : Prop where
  ex : ∃ (oc kV doc pm ct : Value) (od an : Option Addr) (osl : Array (Option Value)), fd = PySem.W.ksFn name qual (defArgs st) (defBody st) (defScope st) .none kV doc pm an (.ref cda) ct cc ∧ K.lookup f = some ⟨oc, od, .func fd, osl⟩
  code : PySem.W.codeIn K (.ref cda) qual = true
  cell : ∃ (o : Obj), K.lookup cc = some o ∧ o.data = .cell (some (.ref C))
  tab : ∃ (o : Obj) (vs : Array Value) (t : Tok), K.lookup cda = some o ∧ o.data = .fields vs ∧ vs[2]? = some (.str file t)
  kp : PySem.W.keepIn K (.ref f) = true
section
variable {P : Program} {w : World} {K : PySem.W.Frag} {mg : Str → Option Value} {base : Heap} {CX : CXT} {k : Nat} {name qual : Str} {st : Stmt} {C f cc cda : Addr} {file : Str} {fd : FuncData} {N ps : List Str} {sp : Sp}
/-- the rule for such an __init__ of an error over ValueError: super().__init__(e), then the rest -/
theorem SupFn.ok {p0 p1 ap pos pos2 jp : Pos} {parts : List Expr} {rest : List Stmt} {ar : Arg} (F : SupFn K name qual st C f cc cda file fd) (S : SupScope N ps (defScope st)) (O : SupOk P file) (T : OexC K C)
    (hbody : defBody st = .Expr (.Call (.Attribute (.Call (.Name "super" p0) [] [] p1) "__init__" ap) [.JoinedStr parts jp] [] pos) pos2 :: rest) (har : ((defArgs st).posonlyargs ++ (defArgs st).args).head? = some ar) (hps : ps.head? = some ar.arg)
    (hcall : ∀ L : Addr, ∃ pl : Sem Bool, eval (.Call (.Attribute (.Call (.Name "super" p0) [] [] p1) "__init__" ap) [.JoinedStr parts jp] [] pos) (PySem.W.ksEnv qual (defScope st) L f (.ref cda) cc) = (do
      let ov ← attributeBase (.Call (.Name "super" p0) [] [] p1) "__init__" (PySem.W.ksEnv qual (defScope st) L f (.ref cda) cc) (eval (.Call (.Name "super" p0) [] [] p1) (PySem.W.ksEnv qual (defScope st) L f (.ref cda) cc))
      standAt ap.atName
      let (g, first) ← holding [ov] (getMethod ov "__init__" pl)
      callWith pos g first (backTo pos (starEach [.JoinedStr parts jp] (PySem.W.ksEnv qual (defScope st) L f (.ref cda) cc))) []))
    (hsup : mg "super" = none) (hth : PySem.W.nsIn K PySem.cStatics "thirdparty.any" = some none) (hal : PySem.W.ks_superIn K C C "__init__" = some (some (.builtin "ValueError.__init__"))) (hVE : PySem.W.subIn K (.ref C) (.type "ValueError") = some true)
    (hmr : PySem.W.mroIn K C (.ref C) = some true)
    (len : ∀ vs H Q E, sp vs H Q E → vs.length = ps.length)
    (hb : ∀ (us : List Value), us.length = ps.length → bindArgs fd ⟨us, []⟩ = pure (ps.zip us))
    (hrun : ∀ (A : Around) (outer : List Env) (s : Shared) (H : Hp) (vs : List V) (Q : VK) (E : XK), Room k (A.deeper (PySem.W.ksEnv qual (defScope st) s.heap.objs.size f (.ref cda) cc)) → sp vs H Q E →
      ∃ (te : TE) (t : TS) (a : Addr) (r : List V), vs = .ref a :: r ∧ PE (cxS P w K mg base N qual (defScope st) f (.ref cda) cc A outer s H) (.JoinedStr parts jp) te ∧ PSs (cxS P w K mg base N qual (defScope st) f (.ref cda) cc A outer s H) rest t ∧ H a = some (exo a C none) ∧
        tCons te tNil (L2.start N vs) H fun ws H1 => ws.length ≤ 1000 ∧ H1 a = some (exo a C none) ∧ t { nx := fun _ H' => Q .non H', rt := Q } (L2.start N vs) H1) :
    FnOk P w K mg base CX (k + 1) f fd ps sp := by
  obtain ⟨oc, kV, doc, pm, ct, od, an, osl, rfl, lk⟩ := F.ex
  refine ⟨len, fun A outer s H args us vs Q E hr e0 hbt r hsp => ?_⟩
  have hl := len _ _ _ _ hsp
  have KX : K.In s.heap := e0.mod.kin.keeps fun b o e => (e0.bs b o e).1
  have lim : s.heap.NoLimit := e0.mod.nolimit.keeps fun b o e => (e0.bs b o e).1
  have hloc : ∀ y ∈ ps.zip us, (defScope st).names.lookup y.1 = some .local := fun ⟨n, v⟩ hy => S.par n (List.of_mem_zip hy).1
  obtain ⟨ocell, hcl, hcd⟩ := F.cell
  obtain ⟨otab, tvs, ttok, htab, htd, hfv⟩ := F.tab
  refine ks_codeAny_call_defAt (binds := ps.zip us) hr.depth (KX _ _ lk) rfl lim (PySem.W.codeRec_of KX F.code) rfl hbt S.nocell hloc (fun h1 hns hk1 => ?_) S.co S.gen S.kind
  obtain ⟨te, t, a, rr, rfl, he, ht, ha, hq⟩ := hrun A outer s H vs Q E (hr.deeper _) hsp
  have I : L2.Inv (cxS P w K mg base N qual (defScope st) f (.ref cda) cc A outer s H) [] (L2.start N (.ref a :: rr)) H { s with heap := h1, toks := s.toks + (ps.zip us).length } :=
    inv_startS (C := C) S hr.hd e0 hl r (.inr ⟨ocell, e0.mod.kin _ _ hcl, hcd⟩) hns hk1
  have fin : ∀ {pins : List (Addr × Obj)} {σ' : L2.St} {H' : Hp} {v : V} {u : Value} {s' : Shared}, L2.Inv (cxS P w K mg base N qual (defScope st) f (.ref cda) cc A outer s H) pins σ' H' s' → RelV v u → Q v H' → CE outer P w H s Q u s' :=
    fun {pins σ' H' v u s'} J rv q => ⟨v, H', J.os, J.bare, J.base, J.hok, rv, q⟩
  have hx : ∀ env, execs (defBody st) env = execs (.Expr (.Call (.Attribute (.Call (.Name "super" p0) [] [] p1) "__init__" ap) [.JoinedStr parts jp] [] pos) pos2 :: rest) env := fun env => by rw [hbody]
  change PySem.wpAt (model P w) (A.deeper (PySem.W.ksEnv qual (defScope st) s.heap.objs.size f (.ref cda) cc)) (.func (defBody st) (PySem.W.ksEnv qual (defScope st) s.heap.objs.size f (.ref cda) cc)) (execs (defBody st) (PySem.W.ksEnv qual (defScope st) s.heap.objs.size f (.ref cda) cc)) _ _ _
  rw [hx]
  have KX1 : K.In h1 := fun b o q => hk1 b o (KX b o q)
  obtain ⟨nm, q, N2, bs, bm, sn, sub, ab, col, dd, k0, k1, k2, k3, k5, hC, hbm⟩ := T.cls
  have hcls : PySem.W.clsIn K C = some { name := nm, bases := bs, mro := .ref C :: bm, ns := N2, qualname := q, hasDict := true, slotNames := sn, subclasses := sub, abstract := ab, collection := col, hasDel := false } := by unfold PySem.W.clsIn; rw [hC] <;> rfl
  obtain ⟨t1, hoa⟩ := exo_at I.hok ha
  have Ia : PySem.W.InstAt h1 a { cls := .ref C, dict := none, data := .fields #[.ref t1, .none, .none, .none, .bool false, .none] } C none := ⟨hoa, rfl, rfl, trivial⟩
  obtain ⟨u0, ur, rfl, ra, rr'⟩ : ∃ u0 ur, us = u0 :: ur ∧ RelV (.ref a) u0 ∧ Vals rr ur := by
    cases r with
    | cons h t => exact ⟨_, _, rfl, h, t⟩
  obtain rfl : u0 = Value.ref a := ra
  have hself : (ps.zip (Value.ref a :: ur)).reverse.lookup ar.arg = some (.ref a) := by
    have ndP : ps.Nodup := by
      rw [← S.pre]
      exact S.nd.sublist (List.take_sublist _ _)
    refine NdefX.zip_look (i := 0) ndP ?_ rfl
    rw [← List.head?_eq_getElem?]
    exact hps
  have hslo : (defScope st).names.lookup ar.arg = some .local := S.par _ (List.mem_of_mem_head? (by rw [hps]; exact Option.mem_some_self _))
  have hnoLim : True := trivial
  obtain ⟨mb, hmb, hmb2⟩ := e0.mod.blt
  have glb : h1.Ns mainGlobals mg := e0.mod.glob.keeps fun b o z => hk1 b o (e0.bs b o z).1
  have blb : h1.Ns builtinsNs mb := hmb.keeps fun b o z => hk1 b o (e0.bs b o z).1
  obtain ⟨pl, hpl⟩ := hcall s.heap.objs.size
  have hint : interactive (PySem.W.ksEnv qual (defScope st) s.heap.objs.size f (.ref cda) cc) = false := by
    unfold interactive
    rw [show (PySem.W.ksEnv qual (defScope st) s.heap.objs.size f (.ref cda) cc).scope.kind = .function from S.kind]
    rfl
  refine ks_wpAt_execs_cons (ks_wpAt_Expr_any (hi := hint) (ks_wpAt_MethodCall (he := hpl) ?_))
  refine ks_wpAt_super_base (env := PySem.W.ksEnv qual (defScope st) s.heap.objs.size f (.ref cda) cc) S.hks S.hkc (by decide) rfl (KX1 _ _ lk) rfl har rfl (KX1 _ _ htab) htd hfv O.hfile O.htop ?_
  refine PySem.W.ks_loadName_global S.kind S.hks (Calls.loadGlobal_builtin (env := PySem.W.ksEnv qual (defScope st) s.heap.objs.size f (.ref cda) cc) glb hsup blb ((hmb2 _ (by decide)).trans (by decide +kernel : bootBuiltins "super" = some (.type "super"))) ⟨rfl, ?_⟩)
  refine wpAny_loadName_free S.kind S.hkc rfl ⟨_, KX1 _ _ hcl, hcd⟩ ?_
  refine wpAny_loadName_local S.kind hslo hns hself ?_
  refine ks_wpAny_isType_cls (KX1 _ _ hC) rfl ⟨rfl, ?_⟩
  refine ks_wpAny_call_super (KX1 _ _ hC) rfl Ia.at_ Ia.cls (fun c e => nomatch e) (PySem.W.looks_mroIn KX1 hmr) (fun h2 e2 kk2 => ?_)
  have KX2 : K.In h2 := fun b o z => kk2 b o (KX1 b o z)
  have Ia2 : PySem.W.InstAt h2 a { cls := .ref C, dict := none, data := .fields #[.ref t1, .none, .none, .none, .bool false, .none] } C none := ⟨kk2 _ _ hoa, rfl, rfl, trivial⟩
  have hal' : PySem.W.alongIn K "__init__" (((Value.ref C :: bm).dropWhile (· != .ref C)).drop 1) = some (some (.builtin "ValueError.__init__")) := by
    unfold PySem.W.ks_superIn at hal
    rw [hcls] at hal
    exact hal
  have sz12 : h1.objs.size < h2.objs.size := Heap.lt_size e2
  have hlt : s.heap.objs.size < h1.objs.size := I.lt
  refine PySem.W.kxs_getMethod PySem.W.kxs_ValueError e2 (PySem.W.looks_opaque KX2 hth) (l₀ := .ref C :: bm) (fun A Q E s k q => wpAny_bind ((PySem.W.looks_clsIn KX2 hcls) A _ E s k (wpAny_pure q))) rfl KX2 hal'
    (Ia2.type.andThen (PySem.W.looks_subIn KX2 hVE)) (PySem.W.ks_ne KX2 Ia2 hcls) (by decide) ?_
  have k3 : ∀ b o, h1.get? b = some o → (h2.push (PySem.W.kxs_mw "ValueError.__init__" a)).get? b = some o := fun b o z => Heap.get?_push_of_some _ (kk2 b o z)
  have I3 := I.kept (t' := s.toks + (ps.zip (Value.ref a :: ur)).length + 1) k3
  have hu3 : (h2.push (PySem.W.kxs_mw "ValueError.__init__" a)).get? h2.objs.size = some (PySem.W.kxs_mw "ValueError.__init__" a) := Heap.get?_push_at rfl rfl
  have I4 := I3.pins_of (pins' := [(h2.objs.size, PySem.W.kxs_mw "ValueError.__init__" a)]) (fun p hp => by
    obtain rfl := List.mem_singleton.mp hp
    refine ⟨hu3, I.hok.fresh (Nat.le_of_lt sz12), ?_, I.nofs (Nat.le_of_lt sz12), fun v z => ?_⟩
    · intro z
      have z' : h2.objs.size = s.heap.objs.size := z
      omega
    · cases z)
  refine PySem.W.kxs_callWith (i := "ValueError.__init__") (x := a) rfl (Calls.evalArgs_plain ?_)
  refine wpAny_mono ((pa_cons he pa_nil).run pos _ _ _ _ _ I4 hq) (fun us2 s5 hs5 => ?_) (fun _ _ z => z.elim)
  obtain ⟨vs5, H5, I5, r5, l5, ha5, q5⟩ := hs5
  have hu5 : s5.heap.get? h2.objs.size = some (PySem.W.kxs_mw "ValueError.__init__" a) := (I5.pin (h2.objs.size, PySem.W.kxs_mw "ValueError.__init__" a) (List.mem_append_right _ (List.mem_singleton.mpr rfl))).1
  refine ⟨hu5, ?_⟩
  have hl5 : us2.length ≤ sizeLine := by
    rw [← Paired.length r5, sizeLine_eq]
    omega
  refine winit_ok T I5 ha5 hu5 hl5 fun s6 I6 => ?_
  refine wpAt_of_wpAny ?_
  refine wpAny_mono (ht.run _ s6 _ H5 _ I6 q5) (fun fl s' hs => ?_) (fun _ _ z => z.elim)
  cases fl with
  | ret u =>
    obtain ⟨v, σ', H', J, rv, q⟩ := hs
    exact fin J rv q
  | next =>
    obtain ⟨σ', H', J, q⟩ := hs
    exact fin (v := V.non) (u := Value.none) J rfl q
  | brk =>
    obtain ⟨_, _, _, q⟩ := hs
    exact False.elim q
  | cont =>
    obtain ⟨_, _, _, q⟩ := hs
    exact False.elim q
end
end AE

set_option Elab.async false
set_option linter.all false
set_option maxRecDepth 100000
set_option maxHeartbeats 2000000
/-! own errors with fields: made, raised, caught, asked -/
namespace AE
open PySem PySem.Spec PyProof.Rows L2 Evl
/-- what an __init__ of such an error leaves: names its fields in order, ok what it wants of the arguments -/
def sp_err (C : Addr) (names : List Str) (ok : List V → Hp → Prop) : Sp := fun vs H Q _ => ∃ (a : Addr) (ws : List V), vs = .ref a :: ws ∧ ws.length = names.length ∧ H a = some (exo a C none) ∧ ok ws H ∧
  ∀ d H', H d = none → (∀ b o, b ≠ a → H b = some o → H' b = some o) → H' a = some (exo a C (some d)) → H' d = some (exd d (names.zip ws).reverse) → Q .non H'
/-- C(e, ..) of such an error -/
def MkOK (C : Addr) (sp : Sp) (vs : List V) (H : Hp) (Q : XK) : Prop := vs.length ≤ 1000 ∧ ∀ a, H a = none → sp (.ref a :: (vs ++ [])) (upd H a (exo a C none))
  (fun v H2 => v = .non ∧ ∃ (d : Addr) (fs : List (Str × V)), H2 a = some (exo a C (some d)) ∧ H2 d = some (exd d fs) ∧ H d = none ∧ Q (.ref C) (some d) (upd (L2.del H2 a) d (.xd fs))) (fun _ _ _ => False)
section
variable {K : PySem.W.Frag} {C : Addr} {sp : Sp} {ta : TA} {σ : L2.St} {H : Hp} {Q : XK} {D : Ends} {names : List Str} {ok : List V → Hp → Prop} {vs : List V}
theorem r_mkO (q : ta σ H fun vs H1 => MkOK C sp vs H1 Q) : tMkO C sp [] ta σ H Q := q
theorem mko_go (hl : vs.length = names.length) (hz : names.length ≤ 1000) (hok : ∀ a H1, H a = none → Ex H H1 → ok vs H1) (q : ∀ d H', Ex H H' → H d = none → H' d = some (.xd (names.zip vs).reverse) → Q (.ref C) (some d) H') : MkOK C (sp_err C names ok) vs H Q := by
  refine ⟨by omega, fun a na => ?_⟩
  rw [List.append_nil]
  refine ⟨a, vs, rfl, hl, upd_same, hok a _ na (Ex.new na), fun d H' nd hk ha hd => ⟨rfl, d, _, ha, hd, ?_, ?_⟩⟩
  · have nda : d ≠ a := fun z => by rw [z, upd_same] at nd; cases nd
    rw [upd_ne nda] at nd
    exact nd
  · have nda : d ≠ a := fun z => by rw [z, upd_same] at nd; cases nd
    rw [upd_ne nda] at nd
    refine q d _ (fun b o hb => ?_) nd upd_same
    have ba : b ≠ a := ne_of_none hb na
    have bd : b ≠ d := ne_of_none hb nd
    rw [upd_ne bd, del_ne ba]
    exact hk b o ba (by rw [upd_ne ba]; exact hb)
end
/-! self.f = e on an error that is being made -/
section
variable {K : PySem.W.Frag} {C a : Addr} {σ : L2.St} {H : Hp} {D : Ends} {to te : TE} {f : Str} {y : V}
def OstK (K : PySem.W.Frag) (f : Str) (x y : V) (H : Hp) (R : Hp → Prop) : Prop := ∃ a C : Addr, x = .ref a ∧ OexC K C ∧ PySem.W.findIn K (.ref C) f = some none ∧
  ((H a = some (exo a C none) ∧ ∀ dx, H dx = none → dx ≠ a → R (upd (upd H dx (exd dx [(f, y)])) a (exo a C (some dx)))) ∨
    ∃ (dx : Addr) (fs : List (Str × V)), H a = some (exo a C (some dx)) ∧ H dx = some (exd dx fs) ∧ fs.length ≤ 900 ∧ R (upd H dx (exd dx ((f, y) :: fs))))
theorem r_ost (q : te σ H fun y H1 => to σ H1 fun x H2 => OstK K f x y H2 (D.nx σ)) : tOst K f to te D σ H := q
theorem ost_first {R : Hp → Prop} (h : H a = some (exo a C none)) (T : OexC K C) (n : PySem.W.findIn K (.ref C) f = some none)
    (q : ∀ dx H1, H dx = none → (∀ b o, b ≠ a → H b = some o → H1 b = some o) → H1 a = some (exo a C (some dx)) → H1 dx = some (exd dx [(f, y)]) → R H1) : OstK K f (.ref a) y H R :=
  ⟨a, C, rfl, T, n, .inl ⟨h, fun dx nd ne => q dx _ nd (fun b o hb hbo => by rw [upd_ne hb, upd_ne (ne_of_none hbo nd)]; exact hbo) upd_same (by rw [upd_ne ne, upd_same])⟩⟩
theorem ost_next {R : Hp → Prop} {dx : Addr} {fs : List (Str × V)} (h : H a = some (exo a C (some dx))) (hd : H dx = some (exd dx fs)) (l : fs.length ≤ 900) (T : OexC K C) (n : PySem.W.findIn K (.ref C) f = some none) (ne : a ≠ dx)
    (q : ∀ H1, Ch dx H H1 → H1 a = some (exo a C (some dx)) → H1 dx = some (exd dx ((f, y) :: fs)) → R H1) : OstK K f (.ref a) y H R :=
  ⟨a, C, rfl, T, n, .inr ⟨dx, fs, h, hd, l, q _ ch_upd (by rw [upd_ne ne]; exact h) upd_same⟩⟩
end
/-! isinstance(e, c), e an error with fields that the suite holds -/
def rIsD (K : PySem.W.Frag) (D a dd : Addr) : List V → Hp → VK → Prop := fun xs H Q => ∃ (c : V) (cv : Value) (b : Bool) (fs : List (Str × V)), xs = [.ref a, c] ∧ H dd = some (.xd fs) ∧ (∀ u, RelV c u → u = cv) ∧ PySem.W.kitOne K (.ref D) cv = some b ∧ Q (.bl b) H
theorem call_isD {X : Cx} {a D dd : Addr} {oe : Obj} {pn : List (Addr × Obj)} (C : ExcC X.K D) (hz : Zc (.ref D) (some dd) oe) (hf : ∃ vs, oe.data = .fields vs) : CallR (X.suite a ((a, oe) :: pn)) (.builtin "isinstance") (rIsD X.K D a dd) := by
  intro pins s σ H xs us Q I r h
  obtain ⟨c, cv, b, fs, rfl, hdd, hcv, e, q⟩ := h
  cases r with
  | cons rx rr =>
    cases rr with
    | cons rt rr =>
      cases rr
      cases rx
      have ec := hcv _ rt
      subst ec
      obtain ⟨hget, _⟩ := I.pin (a, oe) (List.mem_append.mpr (.inl List.mem_cons_self))
      obtain ⟨vs, hv⟩ := hf
      have hx : ObjOk X.prog X.w H s.heap dd (.xd fs) := I.hok dd _ hdd
      obtain ⟨mA, hns, _⟩ := hx
      obtain ⟨od, ho, _⟩ := lookIn_ns hns
      have J : PySem.W.InstAt s.heap a oe D (some od) := ⟨hget, hz.1, by unfold PySem.W.notCls; rw [hv] <;> rfl, by rw [hz.2]; exact ho⟩
      have hcl : (PySem.W.clsIn X.K D).isSome = true := by
        have q := C.hd
        unfold PySem.W.hasDictIn at q
        cases z : PySem.W.clsIn X.K D with
        | none => rw [z] at q; cases q
        | some _ => rfl
      exact PySem.W.kia_one (PySem.W.kitx_exc hcl C.hg C.hk C.hs C.ha C.hn C.ht C.hm) I.kIn J e (fun z => nomatch z) fun tk => ⟨.bl b, H, I.kept (t' := tk) fun _ _ z => z, rfl, q⟩
/-! the pieces of an f-string, with a bound on what stands -/
section
variable {σ : L2.St} {H : Hp} {Q : Str → Hp → Prop} {ts : List TE} {acc : Str} {n m : Nat}
theorem len_app (a b : Str) : (a ++ b).length = a.length + b.length := by
  show (a ++ b).cps.size = _
  rw [Str.cps_append, Array.size_append]
  rfl
theorem js_c {y : Str} (ha : acc.length ≤ n) (ly : y.length ≤ m) (hs : n + m ≤ 100000) (q : (acc ++ y).length ≤ n + m → tJs ts (acc ++ y) σ H Q) : tJs (tC (.str y) :: ts) acc σ H Q := by
  have l : (acc ++ y).length ≤ n + m := by rw [len_app]; omega
  exact ⟨y, rfl, Nat.le_trans l (sz_of hs), q l⟩
theorem js_s {i : Nat} {x : Str} (h : σ[i]? = some (some (.str x))) (ha : acc.length ≤ n) (lx : x.length ≤ m) (hs : n + m ≤ 100000) (q : (acc ++ x).length ≤ n + m → tJs ts (acc ++ x) σ H Q) : tJs (tFmt (tVar i) :: ts) acc σ H Q := by
  have l : (acc ++ x).length ≤ n + m := by rw [len_app]; omega
  exact ⟨_, h, .inl ⟨x, rfl, Nat.le_trans lx (sz_of (by omega)), x, rfl, Nat.le_trans l (sz_of hs), q l⟩⟩
theorem js_i {i : Nat} {e : Int} (h : σ[i]? = some (some (.int e))) (ha : acc.length ≤ n) (he : 0 ≤ e ∧ e < 10 ^ 9) (hs : n + 10 ≤ 100000) (q : ∀ y : Str, (acc ++ y).length ≤ n + 10 → tJs ts (acc ++ y) σ H Q) : tJs (tFmt (tVar i) :: ts) acc σ H Q := by
  have ll : e.natAbs.log2 < 1920 := by
    by_cases h0 : e.natAbs = 0
    · rw [h0]; decide
    · have := (Nat.log2_lt h0 (k := 40)).mpr (by omega)
      omega
  have lx : (Str.ofString (toString e)).length ≤ 10 := toString_length_le he.1 (by decide) (by omega)
  have l : (acc ++ Str.ofString (toString e)).length ≤ n + 10 := by rw [len_app]; omega
  exact ⟨_, h, .inr ⟨e, rfl, ll, Str.ofString (toString e), rfl, Nat.le_trans l (sz_of hs), q _ l⟩⟩
end
/-- an error of the class at S is what «except S» names -/
theorem exm_selfE {K : PySem.W.Frag} {S : Addr} (h1 : PySem.W.subIn K (.ref S) (.type "BaseException") = some true) (h2 : PySem.W.isClsIn K S = true) (h3 : PySem.W.typeIn K (.ref S) = some (.type "type")) (h4 : PySem.W.subIn K (.ref S) (.ref S) = some true) :
    PySem.W.exmOne K (.ref S) (.ref S) = some true := by
  have h2' : (PySem.W.clsIn K S).isSome = true := h2
  unfold PySem.W.exmOne PySem.W.kitCls
  simp only [h1, h2', h3, h4, beq_self_eq_true, Bool.and_self, if_true]
/-- all that is asked of an own error class over the errors' base: at C, its __init__ f -/
structure ErrT (K : PySem.W.Frag) (C : Addr) (qual : Str) (st : Stmt) (f : Addr) (fd : FuncData) (file : Str) (ps names : List Str) where
  oex : OexC K C
  cc : Addr
  cda : Addr
  fn : SupFn K "__init__" qual st C f cc cda file fd
  xf : XfC K C
  ex : ExcC K C
  no : ∀ n ∈ names, PySem.W.findIn K (.ref C) n = some none
  ini : PySem.W.findIn K (.ref C) "__init__" = some (some (.ref f))
  ti : PySem.W.typeIn K (.ref f) = some (.type "function")
  te : PySem.W.exmOne K (.ref C) (.ref C) = some true
  al : PySem.W.ks_superIn K C C "__init__" = some (some (.builtin "ValueError.__init__"))
  ve : PySem.W.subIn K (.ref C) (.type "ValueError") = some true
  mr : PySem.W.mroIn K C (.ref C) = some true
  bd : ∀ (us : List Value), us.length = ps.length → bindArgs fd ⟨us, []⟩ = pure (ps.zip us)
theorem ErrT.binds {K : PySem.W.Frag} {C : Addr} {qual : Str} {st : Stmt} {f : Addr} {fd : FuncData} {file : Str} {ps names : List Str} (T : ErrT K C qual st f fd file ps names) : Binds K fd ps [] := Binds.all T.bd
end AE

set_option Elab.async false
set_option linter.all false
set_option maxRecDepth 100000
set_option maxHeartbeats 4000000
/-! such an error, its context None: for suites that call -/
namespace AE
open PySem PySem.Spec PyProof.Rows L2 Evl
section
variable {X : Cx} {e : Expr} {es : List Expr} {ta : TA} {p pos : Pos}
theorem mk_endN {pins : List (Addr × Obj)} {σ : L2.St} {H1 H2 : Hp} {Q : XK} {hp hp2 h2 : Heap} {g1 g2 : Array GenState} {d1 d2 : Drawn} {t1 t2 : Nat} {os1 os2 : OsState} {a C d : Addr} {fs : List (Str × V)} (T : Raises X (.ref C)) (I1 : Inv X pins σ H1 ⟨hp, g1, d1, t1, os1⟩)
    (ha : hp.objs.size ≤ a) (k : ∀ b o, hp.get? b = some o → hp2.get? b = some o) (un : Un (frs X.stack) [] (upd H1 a (exo a C none)) H2 hp2 h2) (hok : HOk X.prog X.w H2 h2) (ho : os2 = os1) (hb : AllBare g2)
    (ea : H2 a = some (exo a C (some d))) (ed : H2 d = some (exd d fs)) (hd1 : H1 d = none) (q : Q (.ref C) (some d) (upd (L2.del H2 a) d (.xd fs))) : L2N.MkP X pins σ Q (.ref a) ⟨h2, g2, d2, t2, os2⟩ := by
  obtain ⟨t0, G, J, kG, ge, hoe, na⟩ := mk_end0 (d2 := d2) (t2 := t2) I1 ha k un hok ho hb ea ed hd1
  exact ⟨a, _, _, ⟨G, g2, d2, t2, os2⟩, _, .ref C, some d, rfl, J, kG, ge, hoe, ⟨rfl, rfl, fun vs e => by cases e; rfl⟩, rfl, rfl, na, rfl, hb, T, q⟩
theorem pmk_oexN {CX : CXT} {x : Str} {C fI : Addr} {k : Nat} {fd : FuncData} {ps : List Str} {sp : Sp} {ds : List Value} {dvs : List V} (T : OexC X.K C) (iC : PySem.W.findIn X.K (.ref C) "__init__" = some (some (.ref fI))) (tI : PySem.W.typeIn X.K (.ref fI) = some (.type "function"))
    (F1 : FnOk X.prog X.w X.K X.mg X.base CX k fI fd ps sp) (hr : Room (k + 1) X.A) (hb : Binds X.K fd ps ds) (hd : Vals dvs ds) (hx : Passes CX X (fun _ _ _ => False)) (hg : Gl X x) (hm : X.mg x = some (.ref C)) (ha : PA X (e :: es) ta)
    (hdb : (x == ("__debug__" : Str)) = false := by decide) (he : starEach (e :: es) X.env = (false, eval e X.env) :: starEach es X.env := by rfl) (hpl : (backTo pos (starEach es X.env)).any (·.1) = false := by rfl) :
    L2N.PMk X (.Call (.Name x p) (e :: es) [] pos) (tMkO C sp dvs ta) := by
  intro pins s σ H Q I h
  obtain ⟨nm, q, N, bs, bm, sn, sub, ab, col, dd, k0, k1, k2, k3, k5, hC, hbm⟩ := T.cls
  refine wpAny_Call_Name_kw (ld_glob I hg hm ?_ hdb)
  refine PySem.W.callWith_K (h₀ := X.base) I.ok.mod.kin T.kC (thn (ha.run pos pins s σ H _ I h) fun us s1 ⟨vs, H1, I1, r1, hz, q1⟩ => ⟨I1.kIn, ?_⟩) he hpl
  show wpAny _ _ (call (.ref C) us) _ _ _
  obtain ⟨hp, g, dr, tk, os⟩ := s1
  have hsz : hp.objs.size ≤ hp.objs.size + 1 := Nat.le_succ _
  have hn : H1 (hp.objs.size + 1) = none := I1.hok.fresh hsz
  have hq := q1 (hp.objs.size + 1) hn
  have kk : ∀ b o, hp.get? b = some o → ((hp.push (PySem.W.kdv_tup us)).push (PySem.HandSPX.excO C hp.objs.size)).get? b = some o := fun b o z => Heap.get?_push_of_some _ (Heap.get?_push_of_some _ z)
  have hget : ((hp.push (PySem.W.kdv_tup us)).push (PySem.HandSPX.excO C hp.objs.size)).get? (hp.objs.size + 1) = some (PySem.HandSPX.excO C hp.objs.size) := by heap_get
  have I2 : Inv X pins σ (upd H1 (hp.objs.size + 1) (exo (hp.objs.size + 1) C none)) ⟨(hp.push (PySem.W.kdv_tup us)).push (PySem.HandSPX.excO C hp.objs.size), g, dr, tk, os⟩ :=
    I1.laid (t' := tk) (a := hp.objs.size + 1) (o := exo (hp.objs.size + 1) C none) (h' := (hp.push (PySem.W.kdv_tup us)).push (PySem.HandSPX.excO C hp.objs.size)) kk hsz (exo_ok hget)
  have r2 : Vals (V.ref (hp.objs.size + 1) :: (vs ++ dvs)) (Value.ref (hp.objs.size + 1) :: (us ++ ds)) := .cons rfl (r1.append hd)
  have hl : (Value.ref (hp.objs.size + 1) :: us ++ ds).length = ps.length := by
    have z := r2.length
    rw [F1.len _ _ _ _ hq] at z
    exact z.symm
  have hus : us.length ≤ sizeLine := by
    rw [← Paired.length r1, sizeLine_eq]
    omega
  refine wpAny_call (PySem.HandSPX.call_own F.excBase_ValueError (fun Y => PySem.HandSPX.refsVE_contains Y bm hbm) (I1.kIn _ _ hC) (PySem.W.looks_findIn I1.kIn iC) (fun self => PySem.W.bind_fn I1.kIn self tI) hus
    (codeAny_mono (F1.run _ X.stack _ _ ⟨Value.ref (hp.objs.size + 1) :: us, []⟩ (Value.ref (hp.objs.size + 1) :: (us ++ ds)) _ _ (fun _ _ _ => False) (hr.make C us []) (I2.env0.make C us []) (hb _ (Value.ref (hp.objs.size + 1) :: us) I2.kIn hl) r2 hq) fun r s' hq' => ?_))
  cases r with
  | error er => exact hx pins σ _ _ er s' I2 hq'
  | ok fl =>
    cases fl with
    | ret u =>
      obtain ⟨v, H2, os2, bare2, un2, hok2, rv, ev, d, fs, ea, ed, hd1, q2⟩ := hq'
      subst ev
      obtain ⟨h2, g2, d2, t2, os'⟩ := s'
      exact ⟨rv, mk_endN (raises_own T.exC T.tyC) I1 hsz kk un2 hok2 os2 bare2 ea ed hd1 q2⟩
    | next => exact False.elim hq'
    | brk => exact False.elim hq'
    | cont => exact False.elim hq'
end
/-! a def that may let such errors out -/
theorem fok_N {P : Program} {w : World} {K : PySem.W.Frag} {mg : Str → Option Value} {base : Heap} {x qual : Str} {st : Stmt} {f : Addr} {fd : FuncData} {N ps : List Str} {k : Nat} {sp : Sp} (F : Fun K x qual st f fd) (S : FnScope N ps (defScope st)) (len : ∀ vs H Q E, sp vs H Q E → vs.length = ps.length)
    (hbody : ∀ (cdv : Value) (A : Around) (outer : List Env) (s : Shared) (H : Hp) (vs : List V) (Q : VK) (E : XK), Room k (A.deeper (envOfC qual (defScope st) s.heap.objs.size f cdv)) → sp vs H Q E →
      ∃ t, PSs (cxOf (L2N.CX P w) P w K mg base N qual (defScope st) f cdv A outer s H E) (defBody st) t ∧ t { nx := fun _ H' => Q .non H', rt := Q } (L2.start N vs) H) : FnOk P w K mg base (L2N.CX P w) (k + 1) f fd ps sp := by
  obtain ⟨oc, od, kV, doc, pm, an, cdv, ct, osl, rfl, lk, hcd⟩ := F.ex
  exact fn_of lk hcd S len fun A outer s H vs Q E hr hsp => hbody cdv A outer s H vs Q E hr hsp
/-! in a suite -/
theorem takesN0 {X : Cx} : L2N.Takes X (fun _ _ _ _ => False) := fun _ _ ⟨_, _, _, _, _, _, _, _, _, _, _, _, _, _, _, _, z⟩ => z.elim
theorem passH {X : Cx} (σ : L2.St) : PassesAt CX0 X σ E0 := fun _ _ _ _ _ _ z => z.elim
theorem hotc {X : Cx} {a : Addr} {oe : Obj} {cls : Value} {d : Option Addr} {pn : List (Addr × Obj)} (hz : L2N.Zn cls d oe) (hf : ∃ vs, oe.data = .fields vs) : L2H.HotC (X.suite a ((a, oe) :: pn)) := by
  obtain ⟨vs, hv⟩ := hf
  exact ⟨(a, oe), ⟨rfl, vs, hv, hz.2.2 vs hv⟩, List.mem_cons_self⟩
def rIsX (K : PySem.W.Frag) (D a : Addr) (cls : Value) (d : Option Addr) : List V → Hp → VK → Prop := fun xs H Q => cls = .ref D ∧ ∃ (dd : Addr) (c : V) (cv : Value) (b : Bool) (fs : List (Str × V)), d = some dd ∧ xs = [.ref a, c] ∧ H dd = some (.xd fs) ∧ (∀ u, RelV c u → u = cv) ∧ PySem.W.kitOne K (.ref D) cv = some b ∧ Q (.bl b) H
theorem call_isX {X : Cx} {a D : Addr} {cls : Value} {d : Option Addr} {oe : Obj} {pn : List (Addr × Obj)} (C : ExcC X.K D) (hz : Zc cls d oe) (hf : ∃ vs, oe.data = .fields vs) : CallR (X.suite a ((a, oe) :: pn)) (.builtin "isinstance") (rIsX X.K D a cls d) := by
  intro pins s σ H xs us Q I r h
  obtain ⟨rfl, dd, c, cv, b, fs, rfl, rfl, hdd, hcv, hk, q⟩ := h
  exact call_isD C hz hf pins s σ H _ us Q I r ⟨c, cv, b, fs, rfl, hdd, hcv, hk, q⟩
theorem isx_go {K : PySem.W.Frag} {D a dd : Addr} {c : V} {cv : Value} {b : Bool} {fs : List (Str × V)} {H : Hp} {Q : VK} (hdd : H dd = some (.xd fs)) (hcv : ∀ u, RelV c u → u = cv) (hk : PySem.W.kitOne K (.ref D) cv = some b) (q : Q (.bl b) H) : rIsX K D a (.ref D) (some dd) [.ref a, c] H Q :=
  ⟨rfl, dd, c, cv, b, fs, rfl, rfl, hdd, hcv, hk, q⟩
section
variable {a C dd : Addr} {f : Str} {te : TE} {σ : L2.St} {H : Hp} {Q : VK} {v : V} {fs : List (Str × V)} {i : Nat}
theorem xf_go (h : σ[i]? = some (some (.ref a))) (hd : H dd = some (.xd fs)) (l : fs.lookup f = some v) (q : Q v H) : tXf a (.ref C) (some dd) C f (tVar i) σ H Q := ⟨_, h, rfl, rfl, dd, fs, v, rfl, hd, l, q⟩
end
end AE

set_option Elab.async false
set_option linter.all false
set_option maxRecDepth 100000
/-! for i in range(a, b) -/
namespace AE
open PySem PySem.Spec PyProof.Rows L2 Evl
variable {K : PySem.W.Frag} {σ : L2.St} {H : Hp} {Q : VK} {D : Ends} {tz : TS}
def LR2 (i : Nat) (tb : TS) (D : Ends) (σ : L2.St) : List V → Hp → Prop := fun vs H1 => ∃ a b : Int, vs = [.int a, .int b] ∧ (-2 ^ 62 ≤ a ∧ a < 2 ^ 62 ∧ -2 ^ 62 ≤ b ∧ b < 2 ^ 62) ∧
  ∃ W : Nat → Nat → L2.St → Hp → Prop, (∃ m, W 0 m σ H1) ∧ ∀ i' m σ H, W i' m σ H → ((Itr a (b - a).toNat).stop i' H ∧ D.nx σ H) ∨ ((Itr a (b - a).toNat).go i' H ∧ ∃ N : L2.St → Hp → Prop, (∀ σ' H', N σ' H' → ∃ m', m' < m ∧ W (i' + 1) m' σ' H') ∧
    ∀ x H', (Itr a (b - a).toNat).yld i' H x H' → gName i x σ H' fun σ2 H2 => tb { D with nx := N, ct := N, bk := D.nx } σ2 H2)
theorem r_forR2 {ta : TA} {i : Nat} (q : ta σ H (LR2 i tz D σ)) : tFor (iRng2 ta) (gName i) tz D σ H := q
theorem lr2_go {i : Nat} {a b : Int} (Pv : Nat → L2.St → Hp → Prop) (h0 : Pv 0 σ H) (ha : 0 ≤ a ∧ a ≤ 100000000) (hb : 0 ≤ b ∧ b ≤ 100000000)
    (hs : ∀ (k : Nat) σ' H', a + (k : Int) < b → Pv k σ' H' → tz { D with nx := Pv (k + 1), ct := Pv (k + 1), bk := D.nx } (σ'.set i (some (.int (a + (k : Int))))) H')
    (hd : ∀ σ' H', Pv (b - a).toNat σ' H' → D.nx σ' H') : LR2 i tz D σ [.int a, .int b] H :=
  ⟨a, b, rfl, by omega, for_range (lo := a) (n := (b - a).toNat) Pv h0 (fun k σ' H' hk p => by
    have q := hs k σ' H' (by omega) p
    show gName i (.int (a + (k : Int))) σ' H' _
    exact q) hd⟩
theorem max2_i {i j : Int} (q : Q (.int (if j > i then j else i)) H) : rMax2 [.int i, .int j] H Q := ⟨i, j, rfl, q⟩
end AE

set_option Elab.async false
set_option linter.all false
set_option maxRecDepth 100000
set_option maxHeartbeats 1000000
/-! comprehensions whose items are made, over a tuple, a list, a range, two tuples in step -/
namespace AE
open PySem PySem.Spec PyProof.Rows L2 Evl
section
variable {K : PySem.W.Frag} {σ : L2.St} {H : Hp} {Q : VK} {ta tb te tl : TE} {tt : TT} {g : TG} {i j : Nat} {a b : Addr} {xs ys : List V} {J : It} {n : Nat} {G : Hp → Prop} {Y : Nat → Hp → V → Hp → Prop} {vs : List Nat}
theorem ch_l {D : Addr} {l : List V} {Ha Hb : Hp} {p : Addr} {xs : List V} (hD : Ha D = some (.lst l)) (c : Ch D Ha Hb) (h : Ha p = some (.tup xs)) : Hb p = some (.tup xs) := c _ _ (fun z => by subst z; rw [hD] at h; cases h) h
/-- what is made, item by item; P must outlive new things and what is written into a list -/
theorem lco (w : Walk J n G Y) (hz : n ≤ 1000000) {D : Addr} (hD : H D = none) (hG : ∀ H', Ex H H' → G H') (P : Nat → List V → Hp → Prop)
    (pex : ∀ i acc Ha Hb, Ex Ha Hb → P i acc Ha → P i acc Hb) (pch : ∀ i acc D l Ha Hb, Ha D = some (.lst l) → Ch D Ha Hb → P i acc Ha → P i acc Hb) (h0 : P 0 [] H)
    (step : ∀ i x acc Ha Hb, i < n → acc.length = i → Ex H Ha → P i acc Ha → Y i Ha x Hb → ∀ (R : VK) (R2 : Hp → Prop), (∀ y He, Ex Ha He → P (i + 1) (acc ++ [y]) He → R y He) →
      g x (wipe σ vs) Hb fun σ2 Hc => wipe σ2 vs = wipe σ vs ∧ tt σ2 Hc fun b Hd => if b = true then te σ2 Hd R else R2 Hd)
    {Qd : Hp → Prop} (k : ∀ acc H1, acc.length = n → Ex H H1 → H1 D = some (.lst acc) → P n acc H1 → Qd H1) :
    ∃ W : Nat → Nat → Hp → Prop, (∃ m, W 0 m (upd H D (.lst []))) ∧ ∀ i m Ha, W i m Ha →
      (J.stop i Ha ∧ Qd Ha) ∨ (J.go i Ha ∧ ∃ Nx : Hp → Prop, (∀ Hb, Nx Hb → ∃ m', m' < m ∧ W (i + 1) m' Hb) ∧ ∀ x Hb, J.yld i Ha x Hb → g x (wipe σ vs) Hb fun σ2 Hc => wipe σ2 vs = wipe σ vs ∧ tt σ2 Hc fun b Hd =>
        if b = true then te σ2 Hd fun y He => ∃ acc, He D = some (.lst acc) ∧ acc.length < sizeLine ∧ Nx (upd He D (.lst (acc ++ [y]))) else Nx Hd) := by
  refine lc_it w (fun m Ha => ∃ acc, acc.length = m ∧ Ex H Ha ∧ Ha D = some (.lst acc) ∧ P m acc Ha) ⟨[], rfl, Ex.new hD, upd_same, pex _ _ _ _ (Ex.new hD) h0⟩ (fun m Ha _ ⟨_, _, e, _⟩ => hG Ha e) ?_ fun Ha ⟨acc, ha, e, hd, hp⟩ => k acc Ha ha e hd hp
  rintro m x Ha Hb hm ⟨acc, ha, e1, hd, hp⟩ hy
  refine step m x acc Ha Hb hm ha e1 hp hy _ _ fun y He e2 p2 => ?_
  have hd2 := e2 _ _ hd
  exact ⟨acc, hd2, Nat.lt_of_le_of_lt (show acc.length ≤ 1000000 by omega) (by decide), acc ++ [y], by rw [List.length_append, ha]; rfl, ex_upd (e1.trans e2) hD, upd_same, pch _ _ _ _ _ _ hd2 ch_upd p2⟩
/-- P outlives -/
structure Stays (P : Nat → List V → Hp → Prop) : Prop where
  pex : ∀ i acc Ha Hb, Ex Ha Hb → P i acc Ha → P i acc Hb
  pch : ∀ i acc D l Ha Hb, Ha D = some (.lst l) → Ch D Ha Hb → P i acc Ha → P i acc Hb
/-- over a tuple -/
theorem lco_t (P : Nat → List V → Hp → Prop) (S : Stays P) (hv : ∀ R : VK, R (.ref a) H → tl σ H R) (hx : SqT K H a xs) (hz : xs.length ≤ 1000000) (h0 : P 0 [] H)
    (step : ∀ i x acc Ha, xs[i]? = some x → acc.length = i → Ex H Ha → P i acc Ha → ∀ (R : VK) (R2 : Hp → Prop), (∀ y He, Ex Ha He → P (i + 1) (acc ++ [y]) He → R y He) →
      g x (wipe σ vs) Ha fun σ2 Hc => wipe σ2 vs = wipe σ vs ∧ tt σ2 Hc fun b Hd => if b = true then te σ2 Hd R else R2 Hd)
    (k : ∀ D acc H1, H D = none → acc.length = xs.length → Ex H H1 → H1 D = some (.lst acc) → P xs.length acc H1 → Q (.ref D) H1) : tLc (iTup K tl) g tt te vs σ H Q :=
  hv _ ⟨a, rfl, ⟨xs, hx⟩, fun D hD => lco (walk_tup (K := K) (a := a) (xs := xs)) hz hD (fun _ e => ex_t e hx) P S.pex S.pch h0 (fun i x acc Ha Hb _ ha e1 hp hy => by
    obtain ⟨rfl, hy⟩ := hy
    exact step i x acc Hb hy ha e1 hp) fun acc H1 ha e h p => k D acc H1 hD ha e h p⟩
/-- over a list -/
theorem lco_l (P : Nat → List V → Hp → Prop) (S : Stays P) (hx : SqL K H a xs) (hz : xs.length ≤ 1000000) (h0 : P 0 [] H)
    (step : ∀ i x acc Ha, xs[i]? = some x → acc.length = i → Ex H Ha → P i acc Ha → ∀ (R : VK) (R2 : Hp → Prop), (∀ y He, Ex Ha He → P (i + 1) (acc ++ [y]) He → R y He) →
      gName j x (wipe σ vs) Ha fun σ2 Hc => wipe σ2 vs = wipe σ vs ∧ tt σ2 Hc fun b Hd => if b = true then te σ2 Hd R else R2 Hd)
    (k : ∀ D acc H1, H D = none → acc.length = xs.length → Ex H H1 → H1 D = some (.lst acc) → P xs.length acc H1 → Q (.ref D) H1) : LcL K j tt te vs σ Q (.ref a) H :=
  ⟨a, rfl, ⟨xs, hx⟩, fun D hD => lco (walk_list (K := K) (a := a) (xs := xs)) hz hD (fun _ e => ex_l e hx) P S.pex S.pch h0 (fun i x acc Ha Hb _ ha e1 hp hy => by
    obtain ⟨rfl, hy⟩ := hy
    exact step i x acc Hb hy ha e1 hp) fun acc H1 ha e h p => k D acc H1 hD ha e h p⟩
/-- over range(n) -/
theorem lco_r (P : Nat → List V → Hp → Prop) (S : Stays P) {tn : TA} {m : Int} (hv : ∀ R : List V → Hp → Prop, R [.int m] H → tn σ H R) (hz : 0 ≤ m ∧ m ≤ 1000000) (h0 : P 0 [] H)
    (step : ∀ (i : Nat) acc Ha, (i : Int) < m → acc.length = i → Ex H Ha → P i acc Ha → ∀ (R : VK) (R2 : Hp → Prop), (∀ y He, Ex Ha He → P (i + 1) (acc ++ [y]) He → R y He) →
      g (.int (i : Int)) (wipe σ vs) Ha fun σ2 Hc => wipe σ2 vs = wipe σ vs ∧ tt σ2 Hc fun b Hd => if b = true then te σ2 Hd R else R2 Hd)
    (k : ∀ D acc H1, H D = none → acc.length = m.toNat → Ex H H1 → H1 D = some (.lst acc) → P m.toNat acc H1 → Q (.ref D) H1) : tLc (iRng1 tn) g tt te vs σ H Q :=
  hv _ ⟨m, rfl, by omega, by omega, fun D hD => lco (walk_range (lo := 0) (n := m.toNat)) (by omega) hD (fun _ _ => trivial) P S.pex S.pch h0 (fun i x acc Ha Hb hi ha e1 hp hy => by
    obtain ⟨rfl, rfl⟩ := hy
    have st := step i acc Hb (by omega) ha e1 hp
    show ∀ (R : VK) (R2 : Hp → Prop), (∀ y He, Ex Hb He → P (i + 1) (acc ++ [y]) He → R y He) → g (.int (0 + (i : Int))) (wipe σ vs) Hb fun σ2 Hc => wipe σ2 vs = wipe σ vs ∧ tt σ2 Hc fun b Hd => if b = true then te σ2 Hd R else R2 Hd
    rw [Int.zero_add]
    exact st) fun acc H1 ha e h p => k D acc H1 hD ha e h p⟩
/-! two tuples in step -/
theorem walk_zipT {n : Nat} (hn : n = min xs.length ys.length) : Walk (RZ.ItzT K a b) n (fun H => SqT K H a xs ∧ SqT K H b ys) (YPair (fun i => xs[i]?) (fun i => ys[i]?)) := by
  subst hn
  refine ⟨fun i _ hi q => ?_, fun _ q => ⟨xs, ys, q.1, q.2, by omega⟩, fun i H v H' _ q y => ?_⟩
  · have h1 : i < xs.length := by omega
    have h2 : i < ys.length := by omega
    exact ⟨xs, ys, xs[i], ys[i], q.1, q.2, by simp [h1], by simp [h2]⟩
  · obtain ⟨T, x, z, h1, h2, h3, h4, h5⟩ := y
    exact ⟨T, x, z, h1, h2, h3, h4 xs q.1, h5 ys q.2⟩
theorem lco_z (P : Nat → List V → Hp → Prop) (S : Stays P) {tn : TA} (hv : ∀ R : List V → Hp → Prop, R [.ref a, .ref b] H → tn σ H R) (hx : SqT K H a xs) (hy : SqT K H b ys) (hl : xs.length = ys.length) (hz : xs.length ≤ 1000000) (h0 : P 0 [] H)
    (step : ∀ i x y T acc Ha, xs[i]? = some x → ys[i]? = some y → acc.length = i → Ex H Ha → P i acc Ha → Ha T = none → ∀ (R : VK) (R2 : Hp → Prop), (∀ z He, Ex Ha He → P (i + 1) (acc ++ [z]) He → R z He) →
      g (.ref T) (wipe σ vs) (upd Ha T (.tup [x, y])) fun σ2 Hc => wipe σ2 vs = wipe σ vs ∧ tt σ2 Hc fun b Hd => if b = true then te σ2 Hd R else R2 Hd)
    (k : ∀ D acc H1, H D = none → acc.length = xs.length → Ex H H1 → H1 D = some (.lst acc) → P xs.length acc H1 → Q (.ref D) H1) : tLc (RZ.iZipA K tn) g tt te vs σ H Q :=
  hv _ ⟨a, b, xs, ys, rfl, .inr ⟨hx, hy, fun D hD => lco (n := xs.length) (walk_zipT (K := K) (a := a) (b := b) (xs := xs) (ys := ys) (by omega)) hz hD (fun _ e => ⟨ex_t e hx, ex_t e hy⟩) P S.pex S.pch h0 (fun i x acc Ha Hb hi ha e1 hp hyy => by
    obtain ⟨T, u, v, rfl, h2, rfl, h4, h5⟩ := hyy
    exact step i u v T acc Ha h4 h5 ha e1 hp h2) fun acc H1 ha e h p => k D acc H1 hD ha e h p⟩⟩
theorem gtup2 {t : TGs} {T : Addr} {x y : V} {Q : L2.St → Hp → Prop} (h : H T = some (.tup [x, y])) (q : t [x, y] σ H Q) : gTup K 2 t (.ref T) σ H Q := ⟨T, _, rfl, .inl (.inl h), rfl, q⟩
theorem gnames2 {i j : Nat} {x y : V} {Q : L2.St → Hp → Prop} (q : Q ((σ.set i (some x)).set j (some y)) H) : gCons (gName i) (gCons (gName j) gNil) [x, y] σ H Q := ⟨x, [y], rfl, y, [], rfl, rfl, q⟩
theorem r_meth {C : Addr} {m : Str} {sp : Sp} {dvs : List V} {E : XK} {t : TA} (q : ta σ H fun x H1 => ∃ a dx fs, x = .ref a ∧ H1 a = some (.ins C dx fs) ∧ fs.lookup m = none ∧ t σ H1 fun vs H2 => sp (x :: (vs ++ dvs)) H2 Q E) : tMeth C m sp dvs E ta t σ H Q := q
theorem stays_take (L : List V) : Stays fun i acc _ => acc = L.take i := ⟨fun _ _ _ _ _ h => h, fun _ _ _ _ _ _ _ _ h => h⟩
end
end AE

set_option Elab.async false
set_option linter.all false
set_option maxRecDepth 100000
/-! a + b by an own __add__ (both of one class), a += b by an own __iadd__ -/
namespace AE
open PySem PySem.Spec PyProof.Rows L2 Evl
section
variable {X : Cx} {f C : Addr} {fd : FuncData} {ps : List Str} {sp : Sp} {CX : CXT} {k : Nat} {E : XK} {op : Operator}
theorem back_of {pins : List (Addr × Obj)} {σ : L2.St} {Q : VK} {r : Value} {s : Shared} (h : EP X pins σ Q r s) : PySem.W.CmpBack (EP X pins σ Q) r s := by
  cases r with
  | notImplemented =>
    obtain ⟨v, H1, I1, rv, _⟩ := h
    cases v <;> simp [L2.RelV] at rv
  | _ => exact h
def rBinO (C : Addr) (sp : Sp) (E : XK) : R2 := fun x y H Q => ∃ (a b dx dy : Addr) (fs gs : List (Str × V)), x = .ref a ∧ y = .ref b ∧ H a = some (.ins C dx fs) ∧ H b = some (.ins C dy gs) ∧ sp [.ref a, .ref b] H Q E
theorem op_addO (hs : PySem.W.findIn X.K (.ref C) (PySem.dunder op.info.2) = some (some (.ref f))) (hf : PySem.W.isFn X.K (.ref f) = true) (hc : PySem.W.selfFirst X.K C = true) (F : FnOk X.prog X.w X.K X.mg X.base CX k f fd ps sp) (hr : Room k X.A) (hb : Binds X.K fd ps []) (hx : Passes CX X E) :
    OpR X (binaryOp op) (rBinO C sp E) := by
  rintro pins s σ H x y v u Q I rx ry ⟨a, b, dx, dy, fs, gs, rfl, rfl, ha, hbb, q⟩
  cases rx
  cases ry
  obtain ⟨od, J⟩ := inst_in I ha
  obtain ⟨od2, J2⟩ := inst_in I hbb
  obtain ⟨m, hF⟩ := I.fr
  exact PySem.W.binop_K hF I.ok.mod.kin J J2.type hc hs hf (wpAny_mono (run_deep (vs := [.ref a, .ref b]) F hr I.env0 hb hx I (.cons rfl (.cons rfl .nil)) q) (fun r s1 hr => back_of hr) fun _ _ y => y)
def rInO (C : Addr) (sp : Sp) (E : XK) : R2 := fun x y H Q => ∃ (a dx : Addr) (fs : List (Str × V)), x = .ref a ∧ H a = some (.ins C dx fs) ∧ sp [.ref a, y] H Q E
theorem op_iaddO (hs : PySem.W.findIn X.K (.ref C) (PySem.dunderI op.info.2) = some (some (.ref f))) (hf : PySem.W.isFn X.K (.ref f) = true) (hc : PySem.W.selfFirst X.K C = true) (F : FnOk X.prog X.w X.K X.mg X.base CX k f fd ps sp) (hr : Room k X.A) (hb : Binds X.K fd ps []) (hx : Passes CX X E) :
    InOp X op (rInO C sp E) := by
  rintro pins s σ H x y v u Q I rx ry ⟨a, dx, fs, rfl, ha, q⟩
  cases rx
  obtain ⟨od, J⟩ := inst_in I ha
  obtain ⟨m, hF⟩ := I.fr
  exact PySem.W.ksp_inplace hF I.ok.mod.kin J hc hs hf (wpAny_mono (run_deep (vs := [.ref a, y]) F hr I.env0 hb hx I (.cons rfl (.cons ry .nil)) q) (fun r s1 hr => back_of hr) fun _ _ y => y)
end
section
open PySem.W
theorem fills_none {M : Model} {K : Frag} {D B : Addr} {h : Heap} {nm : String} {cd : ClassData} (X : K.In h) (hc : clsIn K D = some cd) (hm : cd.mro = [.ref D, .ref B, .type "object"]) (a1 : findIn K (.ref D) (PySem.dunder nm) = some none) (a2 : findIn K (.ref D) (dunderR nm) = some none)
    (b1 : findIn K (.ref B) (PySem.dunder nm) = some none) (b2 : findIn K (.ref B) (dunderR nm) = some none) (c1 : findIn K (.type "object") (PySem.dunder nm) = some none) (c2 : findIn K (.type "object") (dunderR nm) = some none) : Looks M h (fillsNumberSlot (.ref D) nm) false := by
  intro A Q E s k q
  have Lm : Looks M h (mroOf (.ref D)) cd.mro := (looks_clsIn X hc).andThen (f := fun cd => pure cd.mro) .now
  have Lm' := Lm.keeps k
  obtain ⟨hh, g, d, tt, os⟩ := s
  have X' : K.In hh := X.keeps k
  have L1 : Looks M hh (typeLookup (.ref D) (PySem.dunder nm)) none := looks_findIn X' a1
  have L2 : Looks M hh (typeLookup (.ref D) (dunderR nm)) none := looks_findIn X' a2
  have L3 : Looks M hh (typeLookup (.ref B) (PySem.dunder nm)) none := looks_findIn X' b1
  have L4 : Looks M hh (typeLookup (.ref B) (dunderR nm)) none := looks_findIn X' b2
  have L5 : Looks M hh (typeLookup (.type "object") (PySem.dunder nm)) none := looks_findIn X' c1
  have L6 : Looks M hh (typeLookup (.type "object") (dunderR nm)) none := looks_findIn X' c2
  unfold fillsNumberSlot
  refine wpAny_bind (Lm'.at ?_)
  rw [hm, List.anyM_cons]
  refine wpAny_bind ?_
  repeat lk
  exact q
/-- x + b by x's own method, where b's own class has neither the operator nor its reflection -/
theorem bin_D {prog : Program} {w : World} {A : Around} {E : Value → Shared → Prop} {s : Shared} {K : Frag} {x b C D B L f : Addr} {h₀ : Heap} {m : Str → Option Value} {ox ob : Obj} {od od2 : Option Obj} {op : Operator} {cd2 : ClassData} {Q : Value → Shared → Prop}
    (F : Fr h₀ L s.heap m) (X₀ : K.In h₀) (I : InstAt s.heap x ox C od) (J : InstAt s.heap b ob D od2) (hCD : C ≠ D) (hc : selfFirst K C = true) (hs : findIn K (.ref C) (PySem.dunder op.info.2) = some (some (.ref f))) (hf : isFn K (.ref f) = true)
    (hc2 : clsIn K D = some cd2) (hm2 : cd2.mro = [.ref D, .ref B, .type "object"]) (a1 : findIn K (.ref D) (PySem.dunder op.info.2) = some none) (a2 : findIn K (.ref D) (dunderR op.info.2) = some none)
    (b1 : findIn K (.ref B) (PySem.dunder op.info.2) = some none) (b2 : findIn K (.ref B) (dunderR op.info.2) = some none) (c1 : findIn K (.type "object") (PySem.dunder op.info.2) = some none) (c2 : findIn K (.type "object") (dunderR op.info.2) = some none)
    (h : wpAny (model prog w) A (call (.ref f) [.ref x, .ref b]) (PySem.W.CmpBack Q) E s) : wpAny (model prog w) A (binaryOp op (.ref x) (.ref b)) Q E s := by
  have X := X₀.keeps F.keep
  obtain ⟨cd, rest, hcd, hm⟩ := ksp_first hc
  rcases hi : op.info with ⟨sym, nm'⟩
  rw [hi] at hs a1 a2 b1 b2 c1 c2
  dsimp only at hs a1 a2 b1 b2 c1 c2
  have one := ksp_try X I hs hf h
  obtain ⟨hh, g, d, tt, os⟩ := s
  have L1 : Looks (model prog w) hh (typeOf (.ref x)) (.ref C) := I.type
  have L2 : Looks (model prog w) hh (typeOf (.ref b)) (.ref D) := J.type
  have L3 : Looks (model prog w) hh (fillsNumberSlot (.ref C) nm') true := fills_K X hcd hm hs
  have L4 : Looks (model prog w) hh (fillsNumberSlot (.ref D) nm') false := fills_none X hc2 hm2 a1 a2 b1 b2 c1 c2
  have hne : (Value.ref C == Value.ref D) = false := Bool.eq_false_iff.mpr fun q => by
    have := beq_iff_eq.mp q
    cases this
    exact hCD rfl
  simp only [binaryOp, hi]
  refine wpAny_holding (wpAny_bind ?_)
  unfold binaryOp1
  refine wpAny_bind (L1.at (wpAny_bind (L2.at (wpAny_bind (L3.at ?_)))))
  simp only [hne, Bool.false_eq_true, if_false]
  ksp_lk
  refine wpAny_mono one (fun r s' hr' => ?_) fun _ _ e => e
  obtain ⟨v, rfl, hq⟩ := hr'
  ksp_lk
  exact hq
end
section
variable {X : Cx} {f C D B : Addr} {fd : FuncData} {ps : List Str} {sp : Sp} {CX : CXT} {k : Nat} {E : XK} {op : Operator}
/-- the classes' facts of such an operator -/
structure BinD (K : PySem.W.Frag) (C D B : Addr) (nm : String) (f : Addr) : Prop where
  ne : C ≠ D
  sf : PySem.W.selfFirst K C = true
  at_ : PySem.W.findIn K (.ref C) (PySem.dunder nm) = some (some (.ref f))
  fn : PySem.W.isFn K (.ref f) = true
  cl : ∃ cd, PySem.W.clsIn K D = some cd ∧ cd.mro = [.ref D, .ref B, .type "object"]
  a1 : PySem.W.findIn K (.ref D) (PySem.dunder nm) = some none
  a2 : PySem.W.findIn K (.ref D) (dunderR nm) = some none
  b1 : PySem.W.findIn K (.ref B) (PySem.dunder nm) = some none
  b2 : PySem.W.findIn K (.ref B) (dunderR nm) = some none
  c1 : PySem.W.findIn K (.type "object") (PySem.dunder nm) = some none
  c2 : PySem.W.findIn K (.type "object") (dunderR nm) = some none
def rBinD (C D : Addr) (sp : Sp) (E : XK) : R2 := fun x y H Q => ∃ (a b dx dy : Addr) (fs gs : List (Str × V)), x = .ref a ∧ y = .ref b ∧ H a = some (.ins C dx fs) ∧ H b = some (.ins D dy gs) ∧ sp [.ref a, .ref b] H Q E
theorem op_addD (hd : BinD X.K C D B op.info.2 f) (F : FnOk X.prog X.w X.K X.mg X.base CX k f fd ps sp) (hr : Room k X.A) (hb : Binds X.K fd ps []) (hx : Passes CX X E) : OpR X (binaryOp op) (rBinD C D sp E) := by
  rintro pins s σ H x y v u Q I rx ry ⟨a, b, dx, dy, fs, gs, rfl, rfl, ha, hbb, q⟩
  cases rx
  cases ry
  obtain ⟨od, J⟩ := inst_in I ha
  obtain ⟨od2, J2⟩ := inst_in I hbb
  obtain ⟨m, hF⟩ := I.fr
  obtain ⟨cd, hc2, hm2⟩ := hd.cl
  exact bin_D hF I.ok.mod.kin J J2 hd.ne hd.sf hd.at_ hd.fn hc2 hm2 hd.a1 hd.a2 hd.b1 hd.b2 hd.c1 hd.c2 (wpAny_mono (run_deep (vs := [.ref a, .ref b]) F hr I.env0 hb hx I (.cons rfl (.cons rfl .nil)) q) (fun r s1 hr => back_of hr) fun _ _ y => y)
end
/-! C(*y) -/
def tMakeS (K : PySem.W.Frag) (C : Addr) (sp : Sp) (E : XK) (te : TE) : TE := fun σ H Q => te σ H fun y H1 => ∃ (a : Addr) (xs : List V), y = .ref a ∧ (SqT K H1 a xs ∨ SqL K H1 a xs) ∧ ∀ x dx : Addr, H1 x = none → H1 dx = none → dx ≠ x →
  sp (V.ref x :: xs) (upd (upd H1 dx (.own x)) x (.ins C dx [])) (fun v H2 => v = .non ∧ Q (.ref x) H2) E
section
variable {X : Cx} {f C : Addr} {sp : Sp} {CX : CXT} {k : Nat} {E : XK} {x : Str} {e : Expr} {te : TE} {p sp_ pos : Pos}
theorem r_makeS {K : PySem.W.Frag} {σ : L2.St} {H : Hp} {Q : VK} (q : te σ H fun y H1 => ∃ (a : Addr) (xs : List V), y = .ref a ∧ (SqT K H1 a xs ∨ SqL K H1 a xs) ∧ ∀ x dx : Addr, H1 x = none → H1 dx = none → dx ≠ x →
  sp (V.ref x :: xs) (upd (upd H1 dx (.own x)) x (.ins C dx [])) (fun v H2 => v = .non ∧ Q (.ref x) H2) E) : tMakeS K C sp E te σ H Q := q
theorem pe_makeS1 (M : Mk X.K C f) (F : FnR X.prog X.w X.K X.mg X.base CX k f sp) (hr : Room (k + 1) X.A) (hg : Gl X x) (hm : X.mg x = some (.ref C)) (hx : Passes CX X E) (he : PE X e te) (hd : (x == ("__debug__" : Str)) = false := by decide)
    (hst : starEach [.Starred e sp_] X.env = [(true, eval e X.env)] := by rfl) : PE X (.Call (.Name x p) [.Starred e sp_] [] pos) (tMakeS X.K C sp E te) := by
  refine ⟨fun pins s σ H Q I h => ?_⟩
  refine wpAny_Call_Name_kw (ld_glob I hg hm ?_ hd)
  refine PySem.W.callWith_S (h₀ := X.base) I.ok.mod.kin M.kp (thn (he.run pins s σ H _ I h) fun v s1 ⟨y, H1, I1, ry, a, xs, ey, hxs, q⟩ => ?_) hst
  subst ey
  obtain rfl : v = Value.ref a := ry
  exact StX.star_any I1 hxs fun us s2 I2 rv => ⟨I2.kIn, StX.run_makeR M F hr hx I2 rv q⟩
end
end AE

set_option Elab.async false
set_option linter.all false
set_option maxRecDepth 100000
set_option maxHeartbeats 2000000
/-! a def that is handed the exception which a suite handles -/
namespace AE
open PySem PySem.Spec PyProof.Rows L2 Evl
/-- its promise knows the exception's address, its class and its dict -/
structure FnP (P : Program) (w : World) (K : PySem.W.Frag) (mg : Str → Option Value) (base : Heap) (CX : CXT) (k : Nat) (f : Addr) (fd : FuncData) (ps : List Str) (sp : Addr → Value → Option Addr → Sp) : Prop where
  wid : ∀ a cls d vs H Q E, sp a cls d vs H Q E → vs.length = ps.length
  go : ∀ (A : Around) (fr : List Env) (s : Shared) (H : Hp) (us : List Value) (vs : List V) (Q : VK) (E : XK) (p : Addr × Obj) (cls : Value) (d : Option Addr), L2H.RoomH k A → L2H.Hot1 A p → L2H.PinOk fr H s p → Zc cls d p.2 → Env0 P w K mg base A fr s H →
    BindsTo s fd ⟨us, []⟩ (ps.zip us) → Vals vs us → sp p.1 cls d vs H Q E → codeAny (model P w) A (.call (.ref f) ⟨us, []⟩) (CR CX fr P w H s Q E) s
theorem fn_ofP {CX : CXT} {P : Program} {w : World} {K : PySem.W.Frag} {mg : Str → Option Value} {base : Heap} {k : Nat} {f : Addr} {fd : FuncData} {x qual : Str} {st : Stmt} {N ps : List Str} {sp : Addr → Value → Option Addr → Sp} (F : Fun K x qual st f fd) (S : FnScope N ps (defScope st))
    (wid : ∀ a cls d vs H Q E, sp a cls d vs H Q E → vs.length = ps.length)
    (body : ∀ (cdv : Value) (A : Around) (fr : List Env) (s : Shared) (H : Hp) (vs : List V) (Q : VK) (E : XK) (p : Addr × Obj) (cls : Value) (d : Option Addr), L2H.Hot1 A p → Zc cls d p.2 → L2H.RoomH k (A.deeper (envOfC qual (defScope st) s.heap.objs.size f cdv)) → sp p.1 cls d vs H Q E →
      ∃ t, PSs (L2H.cxH CX P w K mg base N qual (defScope st) f cdv A fr s H E p) (defBody st) t ∧ t { nx := fun _ H' => Q .non H', rt := Q } (L2.start N vs) H) : FnP P w K mg base CX (k + 1) f fd ps sp := by
  obtain ⟨oc, od, kV, doc, pm, an, cdv, ct, osl, efd, lk, hcd⟩ := F.ex
  subst efd
  refine ⟨wid, fun A fr s H us vs Q E p cls d room hot pin zc e0 bd rl want => ?_⟩
  have lvs := wid _ _ _ _ _ _ _ want
  have inK : K.In s.heap := e0.mod.kin.keeps fun b o e => (e0.bs b o e).1
  have noLim : s.heap.NoLimit := e0.mod.nolimit.keeps fun b o e => (e0.bs b o e).1
  have kinds : ∀ y ∈ ps.zip us, (defScope st).names.lookup y.1 = some .local ∨ ((defScope st).names.lookup y.1 = some .cell ∧ ((cellsFrom (s.heap.objs.size + 1) (defScope st).names []).lookup y.1).isSome = true) := fun ⟨n, v⟩ hy => (S.par n (List.of_mem_zip hy).1).imp id fun q => ⟨q, PySem.W.cellsFrom_some _ _ _ (.inl q)⟩
  refine codeAny_call_function room.depth (inK _ _ lk) rfl S.co S.gen rfl (PySem.W.codeRec_of inK hcd) (bd _ _ _ _ (wpAny_newFunctionEnv_cells S.kind kinds fun env he s1 x => ?_))
  subst he
  refine ⟨noLim.keeps x.toInCall.keep, codeAny_func ?_⟩
  obtain ⟨t, ht, hq⟩ := body cdv A fr s H vs Q E p cls d hot zc (room.deeper _) want
  refine wpAny_mono (ht.run [] s1 (L2.start N vs) H _ (L2H.inv_startH S pin e0 lvs rl x) hq) (fun fl s' hs => ?_) fun e s' hs => hs
  cases fl with
  | ret u =>
    obtain ⟨v, σ', H', J, rv, q⟩ := hs
    exact ⟨v, H', J.os, J.bare, J.base, J.hok, rv, q⟩
  | next =>
    obtain ⟨σ', H', J, q⟩ := hs
    exact ⟨V.non, H', J.os, J.bare, J.base, J.hok, rfl, q⟩
  | brk => exact hs.elim fun _ z => z.elim fun _ z => z.2.elim
  | cont => exact hs.elim fun _ z => z.elim fun _ z => z.2.elim
section
variable {X : Cx} {CX : CXT} {k : Nat} {f C a : Addr} {fd : FuncData} {ps : List Str} {sp : Addr → Value → Option Addr → Sp} {E : L2.St → XK} {x m : Str} {q pos apos : Pos} {e o : Expr} {es : List Expr} {ta : TE} {t : TA} {cls : Value} {d : Option Addr} {oe : Obj} {pn : List (Addr × Obj)}
theorem run_fnP {pins : List (Addr × Obj)} {σ : L2.St} {H : Hp} {s : Shared} {Q : VK} {us : List Value} {vs : List V} (F : FnP X.prog X.w X.K X.mg X.base CX k f fd ps sp) (room : L2H.RoomH k X.A) (hot : L2H.Hot1 X.A (a, oe)) (mem : (a, oe) ∈ X.pn) (zc : Zc cls d oe) (hb : Binds X.K fd ps []) (hx : PassesAt CX X σ (E σ))
    (I : Inv X pins σ H s) (rl : Vals vs us) (want : sp a cls d vs H Q (E σ)) : wpAny (model X.prog X.w) X.A (call (.ref f) us) (EP X pins σ Q) X.xe s := by
  have bb := hb s us I.kIn (by rw [List.append_nil, ← rl.length]; exact F.wid _ _ _ _ _ _ _ want)
  rw [List.append_nil] at bb
  have P1 := I.pin (a, oe) (List.mem_append_left _ mem)
  have pin : L2H.PinOk X.stack H s (a, oe) := ⟨P1.1, P1.2.1, fun hm => (List.mem_cons.mp (I.stkSub a hm)).elim P1.2.2.1 P1.2.2.2.1, P1.2.2.2.2⟩
  refine wpAny_call (codeAny_mono (F.go X.A X.stack s H us vs Q (E σ) (a, oe) cls d room hot pin zc I.env0 bb rl want) fun r s' hq => ?_)
  rcases r with er | fl
  · exact hx pins H s er s' I hq
  · cases fl with
    | ret u => exact I.after hq
    | next => exact hq.elim
    | brk => exact hq.elim
    | cont => exact hq.elim
theorem pe_callP (F : FnP X.prog X.w X.K X.mg X.base CX k f fd ps sp) (room : L2H.RoomH k (X.suite a ((a, oe) :: pn)).A) (hz : L2N.Zn cls d oe) (hf : ∃ vs, oe.data = .fields vs) (hg : Gl (X.suite a ((a, oe) :: pn)) x) (hm : X.mg x = some (.ref f)) (hk : PySem.W.keepIn X.K (.ref f) = true) (hb : Binds X.K fd ps []) (hx : ∀ σ, PassesAt CX (X.suite a ((a, oe) :: pn)) σ (E σ))
    (ha : PA (X.suite a ((a, oe) :: pn)) (e :: es) t) (hdb : (x == ("__debug__" : Str)) = false := by decide) (he : starEach (e :: es) X.env = (false, eval e X.env) :: starEach es X.env := by rfl) (hpl : (backTo pos (starEach es X.env)).any (·.1) = false := by rfl) :
    PE (X.suite a ((a, oe) :: pn)) (.Call (.Name x q) (e :: es) [] pos) (tCallS (sp a cls d) E t) := by
  refine ⟨fun pins s σ H Q I h => wpAny_Call_Name_kw (ld_glob (X := X.suite a ((a, oe) :: pn)) I hg hm ?_ hdb)⟩
  refine PySem.W.callWith_K (h₀ := X.base) I.ok.mod.kin hk (thn (ha.run pos pins s σ H _ I h) fun us s1 ⟨vs, H1, I1, r, q⟩ => ⟨I1.kIn, ?_⟩) he hpl
  obtain ⟨fv, hv⟩ := hf
  exact run_fnP (X := X.suite a ((a, oe) :: pn)) (oe := oe) F room ⟨rfl, fv, hv, hz.2.2 fv hv⟩ List.mem_cons_self hz.zc hb (hx σ) I1 r q
/-- isinstance(e, c) where e is held -/
theorem call_isP {D : Addr} (mem : (a, oe) ∈ X.pn) (C : ExcC X.K D) (hz : Zc cls d oe) (hf : ∃ vs, oe.data = .fields vs) : CallR X (.builtin "isinstance") (rIsX X.K D a cls d) := by
  rintro pins s σ H xs us Q I r ⟨rfl, dd, c, cv, b, fs, rfl, rfl, hdd, hcv, hk, q⟩
  match us, r with
  | [_, _], .cons rx (.cons rt .nil) =>
    cases rx
    cases hcv _ rt
    obtain ⟨there, _⟩ := I.pin (a, oe) (List.mem_append_left _ mem)
    obtain ⟨mA, hns, _⟩ := (show ObjOk X.prog X.w H s.heap dd (.xd fs) from I.hok dd _ hdd)
    obtain ⟨od, ho, _⟩ := lookIn_ns hns
    have J : PySem.W.InstAt s.heap a oe D (some od) := ⟨there, hz.1, hf.elim fun vs hv => by unfold PySem.W.notCls; rw [hv] <;> rfl, by rw [hz.2]; exact ho⟩
    have known : (PySem.W.clsIn X.K D).isSome = true := by
      have q := C.hd
      unfold PySem.W.hasDictIn at q
      cases z : PySem.W.clsIn X.K D with
      | some _ => rfl
      | none => rw [z] at q; cases q
    exact PySem.W.kia_one (PySem.W.kitx_exc known C.hg C.hk C.hs C.ha C.hn C.ht C.hm) I.kIn J hk (fun z => nomatch z) fun tk => ⟨.bl b, H, I.kept (t' := tk) fun _ _ z => z, rfl, q⟩
/-- e.f where e is held -/
theorem pe_xfP {n : Str} (mem : (a, oe) ∈ X.pn) (T : XfC X.K C) (own : PySem.W.findIn X.K (.ref C) n = some none) (hz : Zc cls d oe) (hf : ∃ vs, oe.data = .fields vs) (he : PE X e ta) (hb : attributeBase e n X.env (eval e X.env) = eval e X.env := by rfl) :
    PE X (.Attribute e n pos) (tXf a cls d C n ta) := by
  refine ⟨fun pins s σ H Q I h => attr_of hb (thn (he.run pins s σ H _ I h) fun u s1 hh => ?_)⟩
  obtain ⟨x, H1, I1, rx, rfl, rfl, dd, fs, v, rfl, ea, l, q⟩ := hh
  cases rx
  obtain ⟨there, _⟩ := I1.pin (a, oe) (List.mem_append_left _ mem)
  obtain ⟨mA, hns, hr⟩ := (show ObjOk X.prog X.w H1 s1.heap dd (.xd fs) from I1.hok dd _ ea)
  obtain ⟨od, ho, hl⟩ := lookIn_ns hns
  obtain ⟨u, hu, ru⟩ := RelO.some_of (v := v) (o := mA n) (by rw [← l]; exact hr n)
  have J : PySem.W.InstAt s1.heap a oe C (some od) := ⟨there, hz.1, hf.elim fun vs hv => by unfold PySem.W.notCls; rw [hv] <;> rfl, by rw [hz.2]; exact ho⟩
  exact HandSPX.exc_get I1.kIn J T.ga T.gg T.exC (PySem.W.findObj_own T.hdC own rfl (by rw [hl, hu])) (handed_of ru) ⟨v, H1, I1.tok _, ru, q⟩
end
/-- a def that may let such errors out, called where it lets none out -/
theorem passN0 {X : Cx} : Passes (L2N.CX X.prog X.w) X E0 := fun _ _ _ _ _ _ _ ⟨_, _, _, _, _, _, _, _, _, _, _, _, z⟩ => z.elim
/-- .. called where they go on outwards -/
theorem passN {X : Cx} {E : XK} (tk : L2N.Takes X (fun cls d _ H => E cls d H)) : Passes (L2N.CX X.prog X.w) X E := L2N.passes_call tk fun _ _ _ _ h => h
end AE
namespace AE
open PySem PySem.Spec PyProof.Rows L2 Evl
/-- a def with *args may let such errors out, too -/
theorem cxUpN {P : Program} {w : World} : StX.CXUp (L2N.CX P w) := fun outer s H s2 H2 E e s' un kp ho z => by
  obtain ⟨a, B, H', cls, d, ea, fly, hok, ub, na, os, ag, wish⟩ := z
  have laid : ∀ b o, s.heap.get? b = some o → H b = none → H2 b = none := fun b o q n => un.free b o q n (by simp)
  refine ⟨a, B, H', cls, d, ea, fly, hok, ?_, na, os.trans ho, ag, wish⟩
  exact { keep := fun b o q n hb => ub.keep b o (kp b o q) (laid b o q n) hb
          slot := fun b o q hb => ub.slot b o (kp b o q) hb
          free := fun b o q n => ub.free b o (kp b o q) (laid b o q n)
          there := fun b o q hb => ub.there b o (kp b o q) hb
          tups := fun b xs q => ub.tups b xs (un.tups b xs q)
          frzs := fun b o xs q => ub.frzs b o xs (un.frzs b o xs q)
          tbls := fun b ps q => (un.tbls b ps q).elim fun m1 e1 => (ub.tbls b _ e1).elim fun m2 e2 => ⟨m1 ++ m2, by rw [e2, Array.append_assoc]⟩ }
end AE
namespace AE
open PySem PySem.Spec PyProof.Rows L2 Evl
theorem passAtN0 {X : Cx} {σ : L2.St} : PassesAt (L2N.CX X.prog X.w) X σ E0 := fun _ _ _ _ _ _ ⟨_, _, _, _, _, _, _, _, _, _, _, _, z⟩ => z.elim
end AE

set_option Elab.async false
set_option linter.all false
set_option maxRecDepth 100000
set_option maxHeartbeats 2000000
/-! operators, items, methods and makings whose errors are told of the slots at hand -/
namespace AE
open PySem PySem.Spec PyProof.Rows L2 Evl
abbrev R2S := L2.St → R2
/-- an operator, told of slots -/
def OpS (X : Cx) (f : Value → Value → Sem Value) (r : R2S) : Prop :=
  ∀ (pins : List (Addr × Obj)) (s : Shared) (σ : L2.St) (H : Hp) (x y : V) (v u : Value) (Q : VK), Inv X pins σ H s → RelV x v → RelV y u → r σ x y H Q → wpAny (model X.prog X.w) X.A (f v u) (EP X pins σ Q) X.xe s
section
variable {X : Cx} {f C D B : Addr} {fd : FuncData} {ps : List Str} {sp : Sp} {CX : CXT} {k : Nat} {E : L2.St → XK} {op : Operator}
theorem op_addOS (hs : PySem.W.findIn X.K (.ref C) (PySem.dunder op.info.2) = some (some (.ref f))) (hf : PySem.W.isFn X.K (.ref f) = true) (hc : PySem.W.selfFirst X.K C = true) (F : FnOk X.prog X.w X.K X.mg X.base CX k f fd ps sp) (hr : Room k X.A) (hb : Binds X.K fd ps []) (hx : ∀ σ, PassesAt CX X σ (E σ)) :
    OpS X (binaryOp op) (fun σ => rBinO C sp (E σ)) := by
  rintro pins s σ H x y v u Q I rx ry ⟨a, b, dx, dy, fs, gs, rfl, rfl, ha, hbb, q⟩
  cases rx
  cases ry
  obtain ⟨od, J⟩ := inst_in I ha
  obtain ⟨od2, J2⟩ := inst_in I hbb
  obtain ⟨m, hF⟩ := I.fr
  exact PySem.W.binop_K hF I.ok.mod.kin J J2.type hc hs hf (wpAny_mono (run_deepS (vs := [.ref a, .ref b]) F hr I.env0 hb (hx σ) I (.cons rfl (.cons rfl .nil)) q) (fun r s1 hr => back_of hr) fun _ _ y => y)
theorem op_iaddOS (hs : PySem.W.findIn X.K (.ref C) (PySem.dunderI op.info.2) = some (some (.ref f))) (hf : PySem.W.isFn X.K (.ref f) = true) (hc : PySem.W.selfFirst X.K C = true) (F : FnOk X.prog X.w X.K X.mg X.base CX k f fd ps sp) (hr : Room k X.A) (hb : Binds X.K fd ps []) (hx : ∀ σ, PassesAt CX X σ (E σ)) :
    OpS X (inplaceOp op) (fun σ => rInO C sp (E σ)) := by
  rintro pins s σ H x y v u Q I rx ry ⟨a, dx, fs, rfl, ha, q⟩
  cases rx
  obtain ⟨od, J⟩ := inst_in I ha
  obtain ⟨m, hF⟩ := I.fr
  exact PySem.W.ksp_inplace hF I.ok.mod.kin J hc hs hf (wpAny_mono (run_deepS (vs := [.ref a, y]) F hr I.env0 hb (hx σ) I (.cons rfl (.cons ry .nil)) q) (fun r s1 hr => back_of hr) fun _ _ y => y)
theorem op_addDS (hd : BinD X.K C D B op.info.2 f) (F : FnOk X.prog X.w X.K X.mg X.base CX k f fd ps sp) (hr : Room k X.A) (hb : Binds X.K fd ps []) (hx : ∀ σ, PassesAt CX X σ (E σ)) : OpS X (binaryOp op) (fun σ => rBinD C D sp (E σ)) := by
  rintro pins s σ H x y v u Q I rx ry ⟨a, b, dx, dy, fs, gs, rfl, rfl, ha, hbb, q⟩
  cases rx
  cases ry
  obtain ⟨od, J⟩ := inst_in I ha
  obtain ⟨od2, J2⟩ := inst_in I hbb
  obtain ⟨m, hF⟩ := I.fr
  obtain ⟨cd, hc2, hm2⟩ := hd.cl
  exact bin_D hF I.ok.mod.kin J J2 hd.ne hd.sf hd.at_ hd.fn hc2 hm2 hd.a1 hd.a2 hd.b1 hd.b2 hd.c1 hd.c2 (wpAny_mono (run_deepS (vs := [.ref a, .ref b]) F hr I.env0 hb (hx σ) I (.cons rfl (.cons rfl .nil)) q) (fun r s1 hr => back_of hr) fun _ _ y => y)
end
section
variable {X : Cx} {a b : Expr} {ta tb te : TE} {op : Operator} {r : R2S} {pos pos' : Pos} {i : Nat} {x : Str} {e : Expr}
def tOpS (r : R2S) (ta tb : TE) : TE := fun σ H Q => ta σ H fun x H1 => tb σ H1 fun y H2 => r σ x y H2 Q
theorem r_opS {σ : L2.St} {H : Hp} {Q : VK} (q : ta σ H fun x H1 => tb σ H1 fun y H2 => r σ x y H2 Q) : tOpS r ta tb σ H Q := q
theorem pe_opS (ho : OpS X (binaryOp op) r) (ha : PE X a ta) (hb : PE X b tb) : PE X (.BinOp a op b pos) (tOpS r ta tb) :=
  ⟨fun pins s σ H Q I h => wpAny_BinOp (binT ha hb I h fun v u s2 x y H2 I2 rx ry q => ho pins s2 σ H2 x y v u Q I2 rx ry q)⟩
/-- name op= e, told of slots -/
def tAugO (i : Nat) (te : TE) (r : R2S) : TS := fun D σ H => ∃ x, σ[i]? = some (some x) ∧ te σ H fun y H1 => r σ x y H1 fun z H2 => D.nx (σ.set i (some z)) H2
theorem ps_augO (hN : X.N.Nodup) (hi : X.N[i]? = some x) (hx : Loc X.env.scope x) (he : PE X e te) (ho : OpS X (inplaceOp op) r) (hf : X.fn x = true ∨ X.env.scope.names.lookup x = some .local := by first | exact .inl rfl | exact .inr rfl | assumption) :
    PS X (.AugAssign (.Name x pos') op e pos) (tAugO i te r) := by
  refine ⟨fun pins s σ H D I ⟨v, e1, want⟩ => wpAny_AugAssign_Name ?_⟩
  obtain ⟨m, hn, hl⟩ := I.loc
  obtain ⟨u, ru, there⟩ := hl i x v hi e1 (hx.elim .inl fun k => .inr (.inl k))
  have run : wpAny (model X.prog X.w) X.A (eval e X.env) (fun w s₂ => wpAny (model X.prog X.w) X.A (inplaceOp op u w) (fun r s₃ => wpAny (model X.prog X.w) X.A (storeName X.env x r) (fun _ => SP X pins D .next) X.xe s₃) X.xe s₂) X.xe s :=
    thn (he.run pins s σ H _ I want) fun w s1 ⟨y, H1, I1, r1, q1⟩ => thn (ho pins s1 σ H1 v y u w _ I1 ru r1 q1) fun z s2 ⟨zv, H2, I2, r2, q2⟩ => store_ok I2 hN hi hx r2 (fun s3 I3 => ⟨_, H2, I3, q2⟩) hf
  rcases there with ⟨hk, hm⟩ | ⟨hk | hk, c, hc, hcell⟩
  · exact wpAny_loadName_local I.ok.kind hk hn hm run
  · exact wpAny_loadName_cell I.ok.kind hk hc hcell run
  · have free : X.env.scope.names.lookup x = some .free := hk
    exact hx.elim (fun k => by rw [k] at free; cases free) fun k => by rw [k] at free; cases free
end
/-! o[i] -/
section
variable {X : Cx} {f C : Addr} {fd : FuncData} {ps : List Str} {sp : Sp} {CX : CXT} {k : Nat} {E : L2.St → XK} {a b : Expr} {ta tb : TE} {pos : Pos}
def tIxOS (C : Addr) (sp : Sp) (E : L2.St → XK) (ta tb : TE) : TE := fun σ H Q => ta σ H fun x H1 => tb σ H1 fun y H2 => ∃ a dx fs, x = .ref a ∧ H2 a = some (.ins C dx fs) ∧ sp [.ref a, y] H2 Q (E σ)
theorem pe_ixOS (hs : Meth X.K C "__getitem__" f) (hfn : PySem.W.fnIn X.K f = true) (F : FnOk X.prog X.w X.K X.mg X.base CX k f fd ps sp) (hr : Room (k + 1) X.A) (hb : Binds X.K fd ps []) (hx : ∀ σ, PassesAt CX X σ (E σ))
    (pa : PE X a ta) (pb : PE X b tb) (hsl : ∀ v u, subscripted b true v u = runValue (.builtin "lifetime.subscript" ⟨[v, u], []⟩) := by intro _ _; with_unfolding_all rfl) : PE X (.Subscript a b pos) (tIxOS C sp E ta tb) := by
  refine ⟨fun pins s σ H Q I h => Subscript_ (binT pa pb I h fun v u s2 x y H2 I2 rx ry ⟨p, dx, fs, ex, hp, q⟩ => ?_)⟩
  subst ex
  cases rx
  obtain ⟨od, J⟩ := inst_in I2 hp
  obtain ⟨m, hF⟩ := I2.fr
  exact PySem.W.sub_K hF I2.ok.mod.kin J hs.at_ hfn hs.fn (run_deepS (vs := [.ref p, y]) F hr.in1 I2.env0.in1 hb (hx σ) I2 (.cons rfl (.cons ry .nil)) q) (hsl _ _)
end
/-! C(e, ..) by a promise on rows -/
section
variable {X : Cx} {CX : CXT} {k : Nat} {f C : Addr} {sp : Sp} {E : L2.St → XK} {x : Str} {e : Expr} {es : List Expr} {t : TA} {p pos : Pos}
def tMakeRS (C : Addr) (sp : Sp) (E : L2.St → XK) (t : TA) : TE := fun σ H Q => t σ H fun vs H1 => ∀ x dx, H1 x = none → H1 dx = none → dx ≠ x → sp (V.ref x :: vs) (upd (upd H1 dx (.own x)) x (.ins C dx [])) (fun v H2 => v = .non ∧ Q (.ref x) H2) (E σ)
theorem pe_makeRS (M : Mk X.K C f) (F : FnR X.prog X.w X.K X.mg X.base CX k f sp) (hr : Room (k + 1) X.A) (hg : Gl X x) (hm : X.mg x = some (.ref C)) (hx : ∀ σ, PassesAt CX X σ (E σ)) (ha : PA X (e :: es) t) (hdb : (x == ("__debug__" : Str)) = false := by decide)
    (he : starEach (e :: es) X.env = (false, eval e X.env) :: starEach es X.env := by rfl) (hpl : (backTo pos (starEach es X.env)).any (·.1) = false := by rfl) : PE X (.Call (.Name x p) (e :: es) [] pos) (tMakeRS C sp E t) := by
  refine ⟨fun pins s σ H Q I h => wpAny_Call_Name_kw (ld_glob I hg hm (PySem.W.callWith_K (h₀ := X.base) I.ok.mod.kin M.kp (thn (ha.run pos pins s σ H _ I h) fun us s1 ⟨vs, H1, I1, r, q⟩ => ⟨I1.kIn, ?_⟩) he hpl) hdb)⟩
  have I2 := Inv.made (C := C) I1
  have want := q (s1.heap.objs.size + 1) s1.heap.objs.size (I1.hok.fresh (Nat.le_succ _)) (I1.hok.fresh (Nat.le_refl _)) (Nat.ne_of_lt (Nat.lt_succ_self _))
  have rows : Vals (V.ref (s1.heap.objs.size + 1) :: vs) (Value.ref (s1.heap.objs.size + 1) :: us) := .cons rfl r
  refine wpAny_call (make_map (f := f) I1.kIn M.makes M.init (beq_iff_eq.mp M.fn) (codeAny_mono (F _ X.stack _ _ (Value.ref (s1.heap.objs.size + 1) :: us) _ _ (E σ) (hr.make C us []) (I2.env0.make C us []) rows want) fun r s' hq' => ?_))
  rcases r with er | fl
  · exact hx σ pins _ _ er s' I2 hq'
  · cases fl with
    | ret u =>
      obtain ⟨v, H', I3, rv, rfl, q3⟩ := I2.after hq'
      exact ⟨rv, V.ref (s1.heap.objs.size + 1), H', I3, rfl, q3⟩
    | next => exact hq'.elim
    | brk => exact hq'.elim
    | cont => exact hq'.elim
theorem r_makeRS {σ : L2.St} {H : Hp} {Q : VK} (q : t σ H fun vs H1 => ∀ x dx, H1 x = none → H1 dx = none → dx ≠ x → sp (V.ref x :: vs) (upd (upd H1 dx (.own x)) x (.ins C dx [])) (fun v H2 => v = .non ∧ Q (.ref x) H2) (E σ)) : tMakeRS C sp E t σ H Q := q
end
/-! o.m(e, ..) -/
section
variable {X : Cx} {CX : CXT} {k : Nat} {f C : Addr} {fd : FuncData} {ps : List Str} {sp : Sp} {E : L2.St → XK} {m : Str} {o e : Expr} {es : List Expr} {ta : TE} {t : TA} {apos pos : Pos}
theorem pe_methE {pl : Sem Bool} (he : PE X o ta) (c : Cls X.K C) (hm : Meth X.K C m f) (F : FnOk X.prog X.w X.K X.mg X.base CX k f fd ps sp) (hr : Room k X.A) (hb : Binds X.K fd ps []) (hx : ∀ σ, PassesAt CX X σ (E σ)) (ha : PA X (e :: es) t) (hst : starEach (e :: es) X.env = (false, eval e X.env) :: starEach es X.env := by rfl)
    (hpl : (backTo pos (starEach es X.env)).any (·.1) = false := by rfl) (ht : eval (.Call (.Attribute o m apos) (e :: es) [] pos) X.env = (do let ov ← eval o X.env; standAt apos.atName; let (g, first) ← holding [ov] (getMethod ov m pl); callWith pos g first (backTo pos (starEach (e :: es) X.env)) (backToKw pos (keywordEach [] X.env))) := by rfl) :
    PE X (.Call (.Attribute o m apos) (e :: es) [] pos) (L2H.tMethH C m sp E ta t) := by
  refine ⟨fun pins s σ H Q I h => PySem.W.methodCall_KW (pl := pl) (thn (he.run pins s σ H _ I h) fun u s1 ⟨x, H1, I1, rx, a, dx, fs, ex, ea, l, q⟩ => ?_) ht⟩
  subst ex
  cases rx
  refine getmeth_ok I1 ea c hm l (PySem.W.callWith_K (first := [.ref a]) (h₀ := X.base) I1.ok.mod.kin hm.kp (thn (ha.run pos pins s1 σ H1 _ I1 q) fun us s2 ⟨vs, H2, I2, r, q2⟩ => ⟨I2.kIn, ?_⟩) hst hpl)
  exact run_deepS (us := .ref a :: us) (vs := .ref a :: vs) F hr I2.env0 hb (hx σ) I2 (.cons rfl r) q2
theorem r_methH {σ : L2.St} {H : Hp} {Q : VK} (q : ta σ H fun x H1 => ∃ a dx fs, x = .ref a ∧ H1 a = some (.ins C dx fs) ∧ fs.lookup m = none ∧ t σ H1 fun vs H2 => sp (x :: vs) H2 Q (E σ)) : L2H.tMethH C m sp E ta t σ H Q := q
end
theorem r_callS {sp : Sp} {E : L2.St → XK} {t : TA} {σ : L2.St} {H : Hp} {Q : VK} (q : t σ H fun vs H1 => sp vs H1 Q (E σ)) : tCallS sp E t σ H Q := q
end AE

set_option Elab.async false
set_option linter.all false
set_option maxRecDepth 100000
set_option maxHeartbeats 2000000
/-! try with several «except C as e», all of one name e -/
namespace AE
open PySem PySem.Spec PyProof.Rows L2 Evl
abbrev Suites := List (Value × (Addr → Value → Option Addr → TS))
/-- what stands behind a suite: e is gone -/
def goneE (i : Nat) (D : Ends) : Ends := { nx := fun σ H => D.nx (σ.set i none) H, rt := D.rt, bk := fun σ H => D.bk (σ.set i none) H, ct := fun σ H => D.ct (σ.set i none) H }
def wManyA (K : PySem.W.Frag) (i : Nat) (Wout : WX) (D : Ends) : Suites → WX
  | [] => Wout
  | (c, ts) :: r => fun cls d σ H => ∃ b, PySem.W.exmOne K cls c = some b ∧ (b = true → ∀ a, H a = none → ts a cls d (goneE i D) (σ.set i (some (.ref a))) H) ∧ (b = false → wManyA K i Wout D r cls d σ H)
inductive HdsA (X : Cx) (n : Str) : List ExceptHandler → Suites → Prop
  | nil : HdsA X n [] []
  | cons {x : Str} {c : Value} {ts : Addr → Value → Option Addr → TS} {b₀ : Stmt} {rest : List Stmt} {np hp : Pos} {hds : List ExceptHandler} {l : Suites} (named : Names X x c)
      (suite : ∀ (a : Addr) (oe : Obj) (cls : Value) (d : Option Addr) (pn : List (Addr × Obj)), L2N.Zn cls d oe → (∃ vs, oe.data = .fields vs) → PSs (X.suite a ((a, oe) :: pn)) (b₀ :: rest) (ts a cls d)) (more : HdsA X n hds l) :
      HdsA X n (.ExceptHandler (some (.Name x np)) (some n) (b₀ :: rest) hp :: hds) ((c, ts) :: l)
section
variable {X : Cx} {n : Str} {i : Nat} {body : List Stmt} {hds : List ExceptHandler} {h₀ : ExceptHandler} {l : Suites} {pos : Pos} {tb : WX → TS} {Wout : WX}
theorem ps_try_manyA (stk : X.stack = X.env :: X.outer) (own : X.env.frame = some X.env.locals) (nd : X.N.Nodup) (at_ : X.N[i]? = some n) (loc : X.env.kindOf n = some .local) (tk : L2N.Takes X Wout)
    (hb : ∀ (W : WX) (pn : List (Addr × Obj)) (xe : Value → Shared → Prop), L2N.Takes (X.tr pn xe) W → PassesOwn (model X.prog X.w) X.A X.env xe → PSs (X.tr pn xe) body (tb W)) (hh : HdsA X n (h₀ :: hds) l) :
    PS X (.Try body (h₀ :: hds) [] [] pos) (fun D σ H => tb (wManyA X.K i Wout D l) D σ H) := by
  refine ⟨fun pins s σ H D I want => ?_⟩
  have okX := I.ok
  have frames : X.A.frames = some (X.env :: X.outer) := by rw [okX.frames, stk]
  have seen : Loc X.env.scope n := .inl loc
  refine wpAny_Try_except (wpAny_mono ((hb (wManyA X.K i Wout D l) (X.pn ++ pins) (fun e s₁ => wpAny (model X.prog X.w) X.A (noteFrame e X.env) (fun _ s₂ => wpAny (model X.prog X.w) X.A (setFlight e none) (fun _ s₃ => wpAny (model X.prog X.w) X.A (handleBy e X.env (h₀ :: hds)) (SP X pins D) X.xe s₃) X.xe s₂) X.xe s₁) (fun u s1 air => ?_) PassesOwn.looking).run [] s σ H D (I.toTry _) want) (fun f s1 done => ?_) fun e s1 he => he)
  · obtain ⟨a, B, sI, pins1, σ1, H1, cls, d, rfl, JT, nb, up, sky, na, os, ag, w⟩ := air
    have J : Inv X pins σ1 H1 sI := JT.ofTry okX
    rw [stk] at sky
    show wpAny (model X.prog X.w) X.A (noteFrame (.ref a) X.env) _ _ _
    refine L2N.Sky.land L2N.Zn.steady frames own sky fun h3 fl3 up3 => ?_
    have J3 : Inv X pins σ1 H1 { s1 with heap := h3 } := J.landed nb fl3.1 (up.trans up3) os ag
    obtain ⟨oe3, vs3, he3, hz3, hd3⟩ := fl3.there
    have apart : a ∉ frs (X.env :: X.outer) := fun hm => by
      obtain ⟨_, o2, e2, plain⟩ := fl3.2.2.1.mem hm
      rw [he3] at e2
      cases e2
      exact plain _ hd3
    have nL : a ≠ X.env.locals := fun z => apart (List.mem_filterMap.mpr ⟨X.env, List.mem_cons_self, by rw [own, z]⟩)
    have nF : a ∉ X.fs := fun hm => (List.mem_filterMap.mp hm).elim fun e ⟨he, q⟩ => apart (List.mem_filterMap.mpr ⟨e, List.mem_cons_of_mem _ he, q⟩)
    have S3 := J3.suite he3 hd3 na nL nF
    have walk : ∀ {hs1 : List ExceptHandler} {l1 : Suites}, HdsA X n hs1 l1 → wManyA X.K i Wout D l1 cls d σ1 H1 → wpAny (model X.prog X.w) X.A (handleBy (.ref a) X.env hs1) (SP X pins D) X.xe { s1 with heap := h3 } := by
      intro hs1 l1 hk
      induction hk with
      | nil =>
        intro w
        obtain ⟨_, _, _, oe, vs, T, oT, _, he, hz, hd, h1, _⟩ := id fl3
        refine wpAny_handleBy_nil ?_
        unfold PySem.passOn
        refine wpAny_bind (wpAny_field he hd h1 ?_)
        rw [if_neg (show ¬ ((Value.ref T == Value.none) = true) by simp)]
        have out : wpAny (model X.prog X.w) X.A (setFlight (.ref a) X.env.frame) (fun _ s4 => wpAny (model X.prog X.w) X.A (throw (.ref a) : Sem Flow) (SP X pins D) X.xe s4) X.xe { s1 with heap := h3 } := by
          rw [own]
          exact HandSPX.setFlight_upZ fl3 fun h4 held up4 => wpAny_throw (tk _ _ ⟨a, B, sI, pins, σ1, H1, cls, d, rfl, J, nb, (up.trans up3).trans up4, .inr (.inr (by rw [stk]; exact held)), na, os, ag, w⟩)
        first
          | exact wpAny_bind (wpAny_pure (wpAny_bind out))
          | exact wpAny_bind out
      | @cons x c ts b₀ rest np hp hds2 l2 named suite more ih =>
        rintro ⟨b, hb1, yes, no⟩
        refine wpAny_handleBy_cons (codeAny_handlers_test ?_) (by intro q; cases q)
        have kind : PySem.W.Looks (model X.prog X.w) h3 (typeOf (.ref a)) cls := fun A Q E s k q => wpAny_typeOf_ref (k _ _ he3) (by rw [hz3.1]; exact q)
        have fits := PySem.W.exm_one (M := model X.prog X.w) (J3.kIn) kind hb1
        have asked : ∀ {Q : Value → Shared → Prop} {E : Value → Shared → Prop}, Q c { s1 with heap := h3 } → wpAny (model X.prog X.w) (X.A.mark (some (.ref a))) (eval (.Name x np) X.env) Q E { s1 with heap := h3 } := fun {Q E} q => by
          obtain ⟨hg, hdb, hm | ⟨hm, hv, hn⟩⟩ := named
          · exact ld_glob (X := X.suite a ((a, oe3) :: (X.pn ++ pins))) S3 hg hm q hdb
          · exact ld_blt (X := X.suite a ((a, oe3) :: (X.pn ++ pins))) S3 hg hm hv q hn hdb
        refine asked (fits.here ?_)
        cases b with
        | false =>
          show wpAny _ X.A (handleBy (.ref a) X.env hds2) _ _ _
          exact ih (no rfl)
        | true =>
          refine codeAny_handlers_suite_as (HandSPX.lands_againZ fl3 fun h4 fl4 up4 => ?_)
          have J4 : Inv X pins σ1 H1 { s1 with heap := h4 } := J.landed nb fl4.1 ((up.trans up3).trans up4) os ag
          obtain ⟨oe4, vs4, he4, hz4, hd4⟩ := fl4.there
          refine store_ok (X := X.suite a ((a, oe4) :: (X.pn ++ pins))) (v := .ref a) (J4.suite he4 hd4 na nL nF) nd at_ seen rfl (fun s5 S5 => ?_) (.inr loc)
          refine wpAny_mono ((suite a oe4 cls d (X.pn ++ pins) hz4 ⟨_, hd4⟩).run [] s5 _ H1 _ S5 (yes rfl a na)) (fun f s6 done => ?_) fun _ _ z => z.elim
          have gone : ∀ {σ6 : L2.St} {H6 : Hp} {Q : Shared → Prop}, Inv (X.suite a ((a, oe4) :: (X.pn ++ pins))) [] σ6 H6 s6 → (∀ s7, Inv X pins (σ6.set i none) H6 s7 → Q s7) → wpAny (model X.prog X.w) X.A (do bindName X.env n .none; unbindBehindTheSuite X.env n hp) (fun _ s7 => Q s7) X.xe s6 :=
            fun {σ6 H6 Q} S6 hq => gone_ok (S6.unsuite okX) nd at_ loc hq
          cases f with
          | next => exact done.elim fun σ6 z => z.elim fun H6 ⟨S6, q6⟩ => gone S6 fun s7 J7 => ⟨_, _, J7, q6⟩
          | brk => exact done.elim fun σ6 z => z.elim fun H6 ⟨S6, q6⟩ => gone S6 fun s7 J7 => ⟨_, _, J7, q6⟩
          | cont => exact done.elim fun σ6 z => z.elim fun H6 ⟨S6, q6⟩ => gone S6 fun s7 J7 => ⟨_, _, J7, q6⟩
          | ret u => exact done.elim fun v6 z => z.elim fun σ6 z => z.elim fun H6 ⟨S6, r6, q6⟩ => gone S6 fun s7 J7 => ⟨_, _, _, J7, r6, q6⟩
    exact walk hh w
  · cases f with
    | next => exact done.elim fun σ1 z => z.elim fun H1 ⟨J, q⟩ => wpAny_execs_nil ⟨σ1, H1, J.ofTry okX, q⟩
    | brk => exact done.elim fun σ1 z => z.elim fun H1 ⟨J, q⟩ => ⟨σ1, H1, J.ofTry okX, q⟩
    | cont => exact done.elim fun σ1 z => z.elim fun H1 ⟨J, q⟩ => ⟨σ1, H1, J.ofTry okX, q⟩
    | ret u => exact done.elim fun v z => z.elim fun σ1 z => z.elim fun H1 ⟨J, r, q⟩ => ⟨v, σ1, H1, J.ofTry okX, r, q⟩
end
end AE
namespace AE
open PySem PySem.Spec PyProof.Rows L2 Evl
/-- a promise by rows, the defaults behind them -/
theorem fnR_of {P : Program} {w : World} {K : PySem.W.Frag} {mg : Str → Option Value} {base : Heap} {CX : CXT} {k : Nat} {f : Addr} {fd : FuncData} {ps : List Str} {sp : Sp} {ds : List Value} {dvs : List V} (F : FnOk P w K mg base CX k f fd ps sp) (hb : Binds K fd ps ds) (hd : Vals dvs ds) :
    FnR P w K mg base CX k f (fun vs H Q E => sp (vs ++ dvs) H Q E) := by
  intro A outer s H us vs Q E hr e0 r want
  have inK : K.In s.heap := e0.mod.kin.keeps fun b o e => (e0.bs b o e).1
  have all := r.append hd
  exact F.run A outer s H ⟨us, []⟩ (us ++ ds) (vs ++ dvs) Q E hr e0 (hb s us inK (by rw [← all.length]; exact F.len _ _ _ _ want)) all want
end AE
namespace AE
open PySem PySem.Spec PyProof.Rows L2 Evl
/-- an error of the class at S is not what «except D» names -/
theorem exm_otherE {K : PySem.W.Frag} {S D : Addr} (h1 : PySem.W.subIn K (.ref D) (.type "BaseException") = some true) (h2 : PySem.W.isClsIn K D = true) (h3 : PySem.W.typeIn K (.ref D) = some (.type "type")) (h4 : PySem.W.subIn K (.ref S) (.ref D) = some false) :
    PySem.W.exmOne K (.ref S) (.ref D) = some false := by
  have h2' : (PySem.W.clsIn K D).isSome = true := h2
  unfold PySem.W.exmOne PySem.W.kitCls
  simp only [h1, h2', h3, h4, beq_self_eq_true, Bool.and_self, if_true]
end AE

set_option Elab.async false
set_option linter.all false
set_option maxRecDepth 100000
set_option maxHeartbeats 1000000
/-! ints of either sign and tuples of ints in an f-string -/
namespace AE
open PySem PySem.Spec PyProof.Rows L2 Evl
theorem int_len {i : Int} (h : i.natAbs < 10 ^ 9) : (Str.ofString (toString i)).length ≤ 10 := by
  have := int_text_length_le10 (k := 9) (by decide) h
  rw [PySem.ofString_length]
  exact this
theorem int_log {i : Int} (h : i.natAbs < 10 ^ 9) : i.natAbs.log2 < 1920 := by
  by_cases h0 : i.natAbs = 0
  · rw [h0]
    decide
  · have := (Nat.log2_lt h0 (k := 40)).mpr (by omega)
    omega
section
variable {σ : L2.St} {H : Hp} {Q : Str → Hp → Prop} {ts : List TE} {acc : Str} {n m : Nat}
theorem js_z {i : Nat} {e : Int} (h : σ[i]? = some (some (.int e))) (ha : acc.length ≤ n) (he : e.natAbs < 10 ^ 9) (hs : n + 10 ≤ 100000) (q : ∀ y : Str, (acc ++ y).length ≤ n + 10 → tJs ts (acc ++ y) σ H Q) : tJs (tFmt (tVar i) :: ts) acc σ H Q := by
  have l : (acc ++ Str.ofString (toString e)).length ≤ n + 10 := by
    rw [len_app]
    have := int_len he
    omega
  exact ⟨_, h, .inr ⟨e, rfl, int_log he, Str.ofString (toString e), rfl, Nat.le_trans l (sz_of hs), q _ l⟩⟩
end
/-! {t}, t a tuple of ints -/
theorem reprs_int {prog : Program} {w : World} : ∀ {l : List Int} {its : List Value}, Vals (l.map V.int) its → (∀ y ∈ l, y.natAbs < 10 ^ 9) → ReprAll prog w its (l.map fun i : Int => Str.ofString (toString i))
  | [], _, r, _ => by
    cases r
    exact .nil
  | y :: l, _, r, h => by
    cases r with
    | cons r1 r2 =>
      obtain ⟨t, rfl⟩ := r1
      exact .cons (ReprIs.int t (int_log (h y List.mem_cons_self))) (reprs_int r2 fun z hz => h z (List.mem_cons_of_mem _ hz))
theorem piled_ints : ∀ l : List Int, (∀ y ∈ l, y.natAbs < 10 ^ 9) → piled (l.map fun i : Int => Str.ofString (toString i)) ≤ 12 * l.length
  | [], _ => Nat.zero_le _
  | y :: l, h => by
    have h1 := int_len (h y List.mem_cons_self)
    have h2 := piled_ints l fun z hz => h z (List.mem_cons_of_mem _ hz)
    rw [List.map_cons, piled_cons, List.length_cons]
    omega
section
variable {X : Cx}
/-- some text, of at most 12 signs an item and some -/
def tFmtI (K : PySem.W.Frag) (te : TE) : TE := fun σ H Q => te σ H fun x H1 => ∃ (a : Addr) (l : List Int), x = .ref a ∧ SqT K H1 a (l.map V.int) ∧ (∀ y ∈ l, y.natAbs < 10 ^ 9) ∧ l.length ≤ 100 ∧ ∀ m : Str, m.length ≤ 1207 → Q (.str m) H1
theorem pe_fmtI {e : Expr} {te : TE} {pos : Pos} {k : Nat} (hr : Room k X.A) (he : PE X e te) : PE X (.FormattedValue e (-1) none pos) (tFmtI X.K te) := by
  refine ⟨fun pins s σ H Q I h => wpAny_FormattedValue_plain (thn (he.run pins s σ H _ I h) fun v s1 ⟨x, H1, I1, r1, a, l, ex, ht, hc, hz, q⟩ => ?_)⟩
  subst ex
  cases r1
  obtain ⟨its, rv, ⟨o, ho, hcl, n, hd⟩, _⟩ := I1.tuple ht
  have hp := piled_ints l hc
  have htx := fmt_text (l.map fun i : Int => Str.ofString (toString i))
  have hu := hr.units
  have big : 1300 ≤ sizeLine := by decide
  exact fmt_tuple (ts := l.map fun i : Int => Str.ofString (toString i)) (by omega) ho hcl hd (reprs_int rv hc) (by omega) fun m u tk hm => ⟨.str m, H1, I1.tok _, ⟨u, rfl⟩, q m (by omega)⟩
theorem js_I {K : PySem.W.Frag} {σ : L2.St} {H : Hp} {Q : Str → Hp → Prop} {ts : List TE} {acc : Str} {n i : Nat} {a : Addr} {l : List Int} (h : σ[i]? = some (some (.ref a))) (ht : SqT K H a (l.map V.int)) (hc : ∀ y ∈ l, y.natAbs < 10 ^ 9) (hl : l.length ≤ 100) (ha : acc.length ≤ n) (hs : n + 1207 ≤ 100000)
    (q : ∀ y : Str, (acc ++ y).length ≤ n + 1207 → tJs ts (acc ++ y) σ H Q) : tJs (tFmtI K (tVar i) :: ts) acc σ H Q := by
  refine ⟨_, h, a, l, rfl, ht, hc, hl, fun m hm => ?_⟩
  have l : (acc ++ m).length ≤ n + 1207 := by
    rw [len_app]
    omega
  exact ⟨m, rfl, Nat.le_trans l (sz_of hs), q _ l⟩
end
end AE


set_option Elab.async false
set_option linter.all false
set_option maxRecDepth 100000
set_option maxHeartbeats 4000000
namespace K14
open PySem PySem.Spec PyProof.Rows L2 Evl AE
def topS (i : Nat) : Stmt := PySem.Challenge.pw_askshanded_k14_machines_refused.main.body.getD i (.Pass ⟨0, 0, 0, 0⟩)
abbrev s__law_cell : Stmt := topS 28
abbrev N__law_cell : List Str := ["_law_script", "_law_k"]
theorem sc__law_cell : FnScope N__law_cell ["_law_script", "_law_k"] (defScope s__law_cell) := ⟨rfl, rfl, rfl, by decide +kernel, rfl, by decide +kernel, by decide +kernel⟩
abbrev s__law_draws : Stmt := topS 29
abbrev N__law_draws : List Str := ["_law_script", "_law_k", "_law_many", "_law_cell_here", "_law_row", "_law_rest", "_law_turn", "_law_seed"]
theorem sc__law_draws : FnScope N__law_draws ["_law_script", "_law_k", "_law_many"] (defScope s__law_draws) := ⟨rfl, rfl, rfl, by decide +kernel, rfl, by decide +kernel, by decide +kernel⟩
abbrev s__law_asks : Stmt := topS 30
abbrev N__law_asks : List Str := ["_law_row", "_law_many", "_law_letters", "_law_word", "_law_digit", "_law_asks_here", "_law_at", "_law_size", "_law_place", "_law_jump", "_law_letter"]
theorem sc__law_asks : FnScope N__law_asks ["_law_row", "_law_many"] (defScope s__law_asks) := ⟨rfl, rfl, rfl, by decide +kernel, rfl, by decide +kernel, by decide +kernel⟩
abbrev s__law_whole : Stmt := topS 31
abbrev N__law_whole : List Str := ["_law_x"]
theorem sc__law_whole : FnScope N__law_whole ["_law_x"] (defScope s__law_whole) := ⟨rfl, rfl, rfl, by decide +kernel, rfl, by decide +kernel, by decide +kernel⟩
abbrev s__law_kinds : Stmt := topS 32
abbrev N__law_kinds : List Str := ["_law_e", "_law_kinds_here", "_law_kind"]
theorem sc__law_kinds : FnScope N__law_kinds ["_law_e"] (defScope s__law_kinds) := ⟨rfl, rfl, rfl, by decide +kernel, rfl, by decide +kernel, by decide +kernel⟩
abbrev s__law_made : Stmt := topS 33
abbrev N__law_made : List Str := ["_law_choice", "_law_size", "_law_marks", "_law_steps", "_law_here", "_law_machine", "_law_e"]
theorem sc__law_made : FnScope N__law_made ["_law_choice", "_law_size", "_law_marks", "_law_steps", "_law_here"] (defScope s__law_made) := ⟨rfl, rfl, rfl, by decide +kernel, rfl, by decide +kernel, by decide +kernel⟩
abbrev s__law_put_in : Stmt := topS 34
abbrev N__law_put_in : List Str := ["_law_rows", "_law_thing", "_law_digit", "_law_at"]
theorem sc__law_put_in : FnScope N__law_put_in ["_law_rows", "_law_thing", "_law_digit"] (defScope s__law_put_in) := ⟨rfl, rfl, rfl, by decide +kernel, rfl, by decide +kernel, by decide +kernel⟩
abbrev s__law_bad_ask : Stmt := topS 35
abbrev N__law_bad_ask : List Str := ["_law_row", "_law_ask", "_law_signs", "_law_at"]
theorem sc__law_bad_ask : FnScope N__law_bad_ask ["_law_row", "_law_ask"] (defScope s__law_bad_ask) := ⟨rfl, rfl, rfl, by decide +kernel, rfl, by decide +kernel, by decide +kernel⟩
abbrev s__law_bad_step : Stmt := topS 36
abbrev N__law_bad_step : List Str := ["_law_row", "_law_size", "_law_ask", "_law_low", "_law_wrong"]
theorem sc__law_bad_step : FnScope N__law_bad_step ["_law_row", "_law_size", "_law_ask"] (defScope s__law_bad_step) := ⟨rfl, rfl, rfl, by decide +kernel, rfl, by decide +kernel, by decide +kernel⟩
abbrev s__law_parts : Stmt := topS 37
abbrev N__law_parts : List Str := ["_law_row", "_law_asks_here", "_law_size", "_law_marks", "_law_at", "_law_steps"]
theorem sc__law_parts : FnScope N__law_parts ["_law_row", "_law_asks_here"] (defScope s__law_parts) := ⟨rfl, rfl, rfl, by decide +kernel, rfl, by decide +kernel, by decide +kernel⟩
abbrev s__law_large : Stmt := topS 38
abbrev N__law_large : List Str := ["_law_row", "_law_asks_here", "_law_steps", "_law_state", "_law_ask", "_law_shift"]
theorem sc__law_large : FnScope N__law_large ["_law_row", "_law_asks_here"] (defScope s__law_large) := ⟨rfl, rfl, rfl, by decide +kernel, rfl, by decide +kernel, by decide +kernel⟩
abbrev s__law_due : Stmt := topS 39
abbrev N__law_due : List Str := ["_law_faults", "_law_size", "_law_here"]
theorem sc__law_due : FnScope N__law_due ["_law_faults", "_law_size", "_law_here"] (defScope s__law_due) := ⟨rfl, rfl, rfl, by decide +kernel, rfl, by decide +kernel, by decide +kernel⟩
abbrev s_law : Stmt := topS 40
abbrev N_law : List Str := ["_law_script", "_law_row", "_law_asks_here", "_law_size", "_law_marks", "_law_steps", "_law_codes", "_law_faults", "_law_here", "_law_due_here"]
theorem sc_law : FnScope N_law ["_law_script"] (defScope s_law) := ⟨rfl, rfl, rfl, by decide +kernel, rfl, by decide +kernel, by decide +kernel⟩
abbrev s_check_size : Stmt := topS 20
abbrev N_check_size : List Str := ["size"]
theorem sc_check_size : FnScope N_check_size ["size"] (defScope s_check_size) := ⟨rfl, rfl, rfl, by decide +kernel, rfl, by decide +kernel, by decide +kernel⟩
abbrev s_check_marks : Stmt := topS 21
abbrev N_check_marks : List Str := ["size", "marks", "mark"]
theorem sc_check_marks : FnScope N_check_marks ["size", "marks"] (defScope s_check_marks) := ⟨rfl, rfl, rfl, by decide +kernel, rfl, by decide +kernel, by decide +kernel⟩
abbrev s_check_steps : Stmt := topS 22
abbrev N_check_steps : List Str := ["size", "steps", "state", "ask", "end"]
theorem sc_check_steps : FnScope N_check_steps ["size", "steps"] (defScope s_check_steps) := ⟨rfl, rfl, rfl, by decide +kernel, rfl, by decide +kernel, by decide +kernel⟩
abbrev s_is_ask : Stmt := topS 23
abbrev N_is_ask : List Str := ["ask", "letter"]
theorem sc_is_ask : FnScope N_is_ask ["ask"] (defScope s_is_ask) := ⟨rfl, rfl, rfl, by decide +kernel, rfl, by decide +kernel, by decide +kernel⟩
abbrev s_ascending : Stmt := topS 24
abbrev N_ascending : List Str := ["steps", "named", "state", "ask", "end", "name"]
theorem sc_ascending : FnScope N_ascending ["steps"] (defScope s_ascending) := ⟨rfl, rfl, rfl, by decide +kernel, rfl, by decide +kernel, by decide +kernel⟩
abbrev s_ends_by_ask : Stmt := topS 25
abbrev N_ends_by_ask : List Str := ["steps", "found", "state", "ask", "end", "place"]
theorem sc_ends_by_ask : FnScope N_ends_by_ask ["steps"] (defScope s_ends_by_ask) := ⟨rfl, rfl, rfl, by decide +kernel, rfl, by decide +kernel, by decide +kernel⟩
abbrev s_pairs_by_state : Stmt := topS 26
abbrev N_pairs_by_state : List Str := ["steps", "found", "state", "ask", "end"]
theorem sc_pairs_by_state : FnScope N_pairs_by_state ["steps"] (defScope s_pairs_by_state) := ⟨rfl, rfl, rfl, by decide +kernel, rfl, by decide +kernel, by decide +kernel⟩
abbrev s_Machine___init__ : Stmt := inClass (topS 16) 0
abbrev N_Machine___init__ : List Str := ["self", "size", "marks", "steps", "now", "rows", "marked", "mark", "state"]
theorem sc_Machine___init__ : FnScope N_Machine___init__ ["self", "size", "marks", "steps", "now"] (defScope s_Machine___init__) := ⟨rfl, rfl, rfl, by decide +kernel, rfl, by decide +kernel, by decide +kernel⟩
abbrev s_Machine___getitem__ : Stmt := inClass (topS 16) 2
abbrev N_Machine___getitem__ : List Str := ["self", "at"]
theorem sc_Machine___getitem__ : FnScope N_Machine___getitem__ ["self", "at"] (defScope s_Machine___getitem__) := ⟨rfl, rfl, rfl, by decide +kernel, rfl, by decide +kernel, by decide +kernel⟩
abbrev s_Machine_ends_at : Stmt := inClass (topS 16) 5
abbrev N_Machine_ends_at : List Str := ["self", "state", "ask"]
theorem sc_Machine_ends_at : FnScope N_Machine_ends_at ["self", "state", "ask"] (defScope s_Machine_ends_at) := ⟨rfl, rfl, rfl, by decide +kernel, rfl, by decide +kernel, by decide +kernel⟩
abbrev s_Machine___bool__ : Stmt := inClass (topS 16) 4
abbrev N_Machine___bool__ : List Str := ["self"]
theorem sc_Machine___bool__ : FnScope N_Machine___bool__ ["self"] (defScope s_Machine___bool__) := ⟨rfl, rfl, rfl, by decide +kernel, rfl, by decide +kernel, by decide +kernel⟩
abbrev s_BadMachine___init__ : Stmt := inClass (topS 8) 0
abbrev N_BadMachine___init__ : List Str := ["self", "part"]
theorem sc_BadMachine___init__ : SupScope N_BadMachine___init__ ["self", "part"] (defScope s_BadMachine___init__) := ⟨rfl, rfl, rfl, by decide +kernel, rfl, by decide +kernel, by decide +kernel, by decide +kernel, by decide +kernel, by decide +kernel⟩
abbrev s_TooLarge___init__ : Stmt := inClass (topS 10) 0
abbrev N_TooLarge___init__ : List Str := ["self", "size"]
theorem sc_TooLarge___init__ : SupScope N_TooLarge___init__ ["self", "size"] (defScope s_TooLarge___init__) := ⟨rfl, rfl, rfl, by decide +kernel, rfl, by decide +kernel, by decide +kernel, by decide +kernel, by decide +kernel, by decide +kernel⟩
abbrev s_BadState___init__ : Stmt := inClass (topS 9) 0
abbrev N_BadState___init__ : List Str := ["self", "state"]
theorem sc_BadState___init__ : SupScope N_BadState___init__ ["self", "state"] (defScope s_BadState___init__) := ⟨rfl, rfl, rfl, by decide +kernel, rfl, by decide +kernel, by decide +kernel, by decide +kernel, by decide +kernel, by decide +kernel⟩
/-- a class of machines -/
structure MCls (K : PySem.W.Frag) (C : Addr) : Prop where
  cl : Cls K C
  n1 : NoAttr K C "size"
  n2 : NoAttr K C "marks"
  n3 : NoAttr K C "steps"
  n4 : NoAttr K C "now"
  n5 : NoAttr K C "_ends"
  n6 : NoAttr K C "_pairs"
/-- what isinstance asks of it -/
structure OCls (K : PySem.W.Frag) (C : Addr) : Prop where
  o1 : PySem.W.findIn K (.ref C) "__class__" = some (some (.builtin "object.__class__"))
  o2 : PySem.W.specialIn K (.builtin "object.__class__") "__get__" = some (some (.builtin "getset_descriptor.__get__"))
  o3 : PySem.W.takesIn K (.builtin "object.__class__") = some true
  o4 : PySem.W.mroIn K C (.type "object") = some true
/-- what the top leaves -/
structure Tp (K : PySem.W.Frag) (mg : Str → Option Value) where
  a_BadState___init__ : Addr
  d_BadState___init__ : FuncData
  a_TooLarge___init__ : Addr
  d_TooLarge___init__ : FuncData
  a_BadMachine___init__ : Addr
  d_BadMachine___init__ : FuncData
  C_AsksError : Addr
  g_AsksError : mg "AsksError" = some (.ref C_AsksError)
  C_BadMachine : Addr
  g_BadMachine : mg "BadMachine" = some (.ref C_BadMachine)
  C_TooLarge : Addr
  g_TooLarge : mg "TooLarge" = some (.ref C_TooLarge)
  C_BadState : Addr
  g_BadState : mg "BadState" = some (.ref C_BadState)
  C_Machine : Addr
  g_Machine : mg "Machine" = some (.ref C_Machine)
  C_Service : Addr
  g_Service : mg "Service" = some (.ref C_Service)
  C_Pattern : Addr
  g_Pattern : mg "Pattern" = some (.ref C_Pattern)
  file : Str
  hth : PySem.W.nsIn K PySem.cStatics "thirdparty.any" = some none
  a__law_cell : Addr
  d__law_cell : FuncData
  f__law_cell : Fun K "_law_cell" "_law_cell" s__law_cell a__law_cell d__law_cell
  b__law_cell : Binds K d__law_cell ["_law_script", "_law_k"] []
  g__law_cell : mg "_law_cell" = some (.ref a__law_cell)
  a__law_draws : Addr
  d__law_draws : FuncData
  f__law_draws : Fun K "_law_draws" "_law_draws" s__law_draws a__law_draws d__law_draws
  b__law_draws : Binds K d__law_draws ["_law_script", "_law_k", "_law_many"] []
  g__law_draws : mg "_law_draws" = some (.ref a__law_draws)
  a__law_asks : Addr
  d__law_asks : FuncData
  f__law_asks : Fun K "_law_asks" "_law_asks" s__law_asks a__law_asks d__law_asks
  b__law_asks : Binds K d__law_asks ["_law_row", "_law_many"] []
  g__law_asks : mg "_law_asks" = some (.ref a__law_asks)
  a__law_whole : Addr
  d__law_whole : FuncData
  f__law_whole : Fun K "_law_whole" "_law_whole" s__law_whole a__law_whole d__law_whole
  b__law_whole : Binds K d__law_whole ["_law_x"] []
  g__law_whole : mg "_law_whole" = some (.ref a__law_whole)
  a__law_kinds : Addr
  d__law_kinds : FuncData
  f__law_kinds : Fun K "_law_kinds" "_law_kinds" s__law_kinds a__law_kinds d__law_kinds
  b__law_kinds : Binds K d__law_kinds ["_law_e"] []
  g__law_kinds : mg "_law_kinds" = some (.ref a__law_kinds)
  a__law_made : Addr
  d__law_made : FuncData
  f__law_made : Fun K "_law_made" "_law_made" s__law_made a__law_made d__law_made
  b__law_made : Binds K d__law_made ["_law_choice", "_law_size", "_law_marks", "_law_steps", "_law_here"] []
  g__law_made : mg "_law_made" = some (.ref a__law_made)
  a__law_put_in : Addr
  d__law_put_in : FuncData
  f__law_put_in : Fun K "_law_put_in" "_law_put_in" s__law_put_in a__law_put_in d__law_put_in
  b__law_put_in : Binds K d__law_put_in ["_law_rows", "_law_thing", "_law_digit"] []
  g__law_put_in : mg "_law_put_in" = some (.ref a__law_put_in)
  a__law_bad_ask : Addr
  d__law_bad_ask : FuncData
  f__law_bad_ask : Fun K "_law_bad_ask" "_law_bad_ask" s__law_bad_ask a__law_bad_ask d__law_bad_ask
  b__law_bad_ask : Binds K d__law_bad_ask ["_law_row", "_law_ask"] []
  g__law_bad_ask : mg "_law_bad_ask" = some (.ref a__law_bad_ask)
  a__law_bad_step : Addr
  d__law_bad_step : FuncData
  f__law_bad_step : Fun K "_law_bad_step" "_law_bad_step" s__law_bad_step a__law_bad_step d__law_bad_step
  b__law_bad_step : Binds K d__law_bad_step ["_law_row", "_law_size", "_law_ask"] []
  g__law_bad_step : mg "_law_bad_step" = some (.ref a__law_bad_step)
  a__law_parts : Addr
  d__law_parts : FuncData
  f__law_parts : Fun K "_law_parts" "_law_parts" s__law_parts a__law_parts d__law_parts
  b__law_parts : Binds K d__law_parts ["_law_row", "_law_asks_here"] []
  g__law_parts : mg "_law_parts" = some (.ref a__law_parts)
  a__law_large : Addr
  d__law_large : FuncData
  f__law_large : Fun K "_law_large" "_law_large" s__law_large a__law_large d__law_large
  b__law_large : Binds K d__law_large ["_law_row", "_law_asks_here"] []
  g__law_large : mg "_law_large" = some (.ref a__law_large)
  a__law_due : Addr
  d__law_due : FuncData
  f__law_due : Fun K "_law_due" "_law_due" s__law_due a__law_due d__law_due
  b__law_due : Binds K d__law_due ["_law_faults", "_law_size", "_law_here"] []
  g__law_due : mg "_law_due" = some (.ref a__law_due)
  a_law : Addr
  d_law : FuncData
  f_law : Fun K "law" "law" s_law a_law d_law
  b_law : Binds K d_law ["_law_script"] []
  g_law : mg "law" = some (.ref a_law)
  a_check_size : Addr
  d_check_size : FuncData
  f_check_size : Fun K "check_size" "check_size" s_check_size a_check_size d_check_size
  b_check_size : Binds K d_check_size ["size"] []
  g_check_size : mg "check_size" = some (.ref a_check_size)
  a_check_marks : Addr
  d_check_marks : FuncData
  f_check_marks : Fun K "check_marks" "check_marks" s_check_marks a_check_marks d_check_marks
  b_check_marks : Binds K d_check_marks ["size", "marks"] []
  g_check_marks : mg "check_marks" = some (.ref a_check_marks)
  a_check_steps : Addr
  d_check_steps : FuncData
  f_check_steps : Fun K "check_steps" "check_steps" s_check_steps a_check_steps d_check_steps
  b_check_steps : Binds K d_check_steps ["size", "steps"] []
  g_check_steps : mg "check_steps" = some (.ref a_check_steps)
  a_is_ask : Addr
  d_is_ask : FuncData
  f_is_ask : Fun K "is_ask" "is_ask" s_is_ask a_is_ask d_is_ask
  b_is_ask : Binds K d_is_ask ["ask"] []
  g_is_ask : mg "is_ask" = some (.ref a_is_ask)
  a_ascending : Addr
  d_ascending : FuncData
  f_ascending : Fun K "ascending" "ascending" s_ascending a_ascending d_ascending
  b_ascending : Binds K d_ascending ["steps"] []
  g_ascending : mg "ascending" = some (.ref a_ascending)
  a_ends_by_ask : Addr
  d_ends_by_ask : FuncData
  f_ends_by_ask : Fun K "ends_by_ask" "ends_by_ask" s_ends_by_ask a_ends_by_ask d_ends_by_ask
  b_ends_by_ask : Binds K d_ends_by_ask ["steps"] []
  g_ends_by_ask : mg "ends_by_ask" = some (.ref a_ends_by_ask)
  a_pairs_by_state : Addr
  d_pairs_by_state : FuncData
  f_pairs_by_state : Fun K "pairs_by_state" "pairs_by_state" s_pairs_by_state a_pairs_by_state d_pairs_by_state
  b_pairs_by_state : Binds K d_pairs_by_state ["steps"] []
  g_pairs_by_state : mg "pairs_by_state" = some (.ref a_pairs_by_state)
  a_Machine___init__ : Addr
  d_Machine___init__ : FuncData
  f_Machine___init__ : FunD K "__init__" "Machine.__init__" (defArgs s_Machine___init__) (defBody s_Machine___init__) (defScope s_Machine___init__) [.int 0] [] a_Machine___init__ d_Machine___init__
  a_Machine___getitem__ : Addr
  d_Machine___getitem__ : FuncData
  f_Machine___getitem__ : Fun K "__getitem__" "Machine.__getitem__" s_Machine___getitem__ a_Machine___getitem__ d_Machine___getitem__
  b_Machine___getitem__ : Binds K d_Machine___getitem__ ["self", "at"] []
  a_Machine_ends_at : Addr
  d_Machine_ends_at : FuncData
  f_Machine_ends_at : Fun K "ends_at" "Machine.ends_at" s_Machine_ends_at a_Machine_ends_at d_Machine_ends_at
  b_Machine_ends_at : Binds K d_Machine_ends_at ["self", "state", "ask"] []
  a_Machine___bool__ : Addr
  d_Machine___bool__ : FuncData
  f_Machine___bool__ : Fun K "__bool__" "Machine.__bool__" s_Machine___bool__ a_Machine___bool__ d_Machine___bool__
  b_Machine___bool__ : Binds K d_Machine___bool__ ["self"] []
  err_BadMachine : ErrT K C_BadMachine "BadMachine.__init__" s_BadMachine___init__ a_BadMachine___init__ d_BadMachine___init__ file ["self", "part"] ["part"]
  err_TooLarge : ErrT K C_TooLarge "TooLarge.__init__" s_TooLarge___init__ a_TooLarge___init__ d_TooLarge___init__ file ["self", "size"] ["size"]
  err_BadState : ErrT K C_BadState "BadState.__init__" s_BadState___init__ a_BadState___init__ d_BadState___init__ file ["self", "state"] ["state"]
  t_MOST_STATES : Tok
  k_MOST_STATES : mg "MOST_STATES" = some (.int (200) t_MOST_STATES)
  t_MOST_STEPS : Tok
  k_MOST_STEPS : mg "MOST_STEPS" = some (.int (600) t_MOST_STEPS)
  t_LONGEST_ASK : Tok
  k_LONGEST_ASK : mg "LONGEST_ASK" = some (.int (8) t_LONGEST_ASK)
  n_len : mg "len" = none
  n_int : mg "int" = none
  n_range : mg "range" = none
  n_isinstance : mg "isinstance" = none
  n_bool : mg "bool" = none
  n_list : mg "list" = none
  n_tuple : mg "tuple" = none
  n_all : mg "all" = none
  n_sorted : mg "sorted" = none
  n_str : mg "str" = none
  n_sum : mg "sum" = none
  n_super : mg "super" = none
  n_ValueError : mg "ValueError" = none
  cl_Service : Cls K C_Service
  na_Service_size : NoAttr K C_Service "size"
  na_Service_marks : NoAttr K C_Service "marks"
  na_Service_steps : NoAttr K C_Service "steps"
  na_Service_now : NoAttr K C_Service "now"
  na_Service__ends : NoAttr K C_Service "_ends"
  na_Service__pairs : NoAttr K C_Service "_pairs"
  mk_Service : Mk K C_Service a_Machine___init__
  me_Service___getitem__ : Meth K C_Service "__getitem__" a_Machine___getitem__
  me_Service___bool__ : Meth K C_Service "__bool__" a_Machine___bool__
  me_Service_ends_at : Meth K C_Service "ends_at" a_Machine_ends_at
  is_Service_Machine : PySem.W.kitOne K (.ref C_Service) (.ref C_Machine) = some true
  cl_Pattern : Cls K C_Pattern
  na_Pattern_size : NoAttr K C_Pattern "size"
  na_Pattern_marks : NoAttr K C_Pattern "marks"
  na_Pattern_steps : NoAttr K C_Pattern "steps"
  na_Pattern_now : NoAttr K C_Pattern "now"
  na_Pattern__ends : NoAttr K C_Pattern "_ends"
  na_Pattern__pairs : NoAttr K C_Pattern "_pairs"
  mk_Pattern : Mk K C_Pattern a_Machine___init__
  me_Pattern___getitem__ : Meth K C_Pattern "__getitem__" a_Machine___getitem__
  me_Pattern___bool__ : Meth K C_Pattern "__bool__" a_Machine___bool__
  me_Pattern_ends_at : Meth K C_Pattern "ends_at" a_Machine_ends_at
  is_Pattern_Machine : PySem.W.kitOne K (.ref C_Pattern) (.ref C_Machine) = some true
  b_Machine___init__ : Binds K d_Machine___init__ ["self", "size", "marks", "steps", "now"] []
  fn_gi : PySem.W.fnIn K a_Machine___getitem__ = true
  e_ds : List Value
  e_vs : Vals [V.int 0] e_ds
  e_b : Binds K d_Machine___init__ ["self", "size", "marks", "steps", "now"] e_ds
  cf_Service : MCls K C_Service
  cc_Service : OCls K C_Service
  gi_Service : Meth K C_Service "__getitem__" a_Machine___getitem__
  ea_Service : Meth K C_Service "ends_at" a_Machine_ends_at
  is_Service : PySem.W.kitOne K (.ref C_Service) (.ref C_Machine) = some true
  cf_Pattern : MCls K C_Pattern
  cc_Pattern : OCls K C_Pattern
  gi_Pattern : Meth K C_Pattern "__getitem__" a_Machine___getitem__
  ea_Pattern : Meth K C_Pattern "ends_at" a_Machine_ends_at
  is_Pattern : PySem.W.kitOne K (.ref C_Pattern) (.ref C_Machine) = some true
  ik_BadMachine_AsksError : PySem.W.kitOne K (.ref C_BadMachine) (.ref C_AsksError) = some true
  ik_BadMachine_BadMachine : PySem.W.kitOne K (.ref C_BadMachine) (.ref C_BadMachine) = some true
  ik_BadMachine_TooLarge : PySem.W.kitOne K (.ref C_BadMachine) (.ref C_TooLarge) = some false
  ik_BadMachine_BadState : PySem.W.kitOne K (.ref C_BadMachine) (.ref C_BadState) = some false
  ik_BadMachine_V : PySem.W.kitOne K (.ref C_BadMachine) (.type "ValueError") = some true
  xm_BadMachine_TooLarge : PySem.W.exmOne K (.ref C_BadMachine) (.ref C_TooLarge) = some false
  xm_BadMachine_BadState : PySem.W.exmOne K (.ref C_BadMachine) (.ref C_BadState) = some false
  ik_TooLarge_AsksError : PySem.W.kitOne K (.ref C_TooLarge) (.ref C_AsksError) = some true
  ik_TooLarge_BadMachine : PySem.W.kitOne K (.ref C_TooLarge) (.ref C_BadMachine) = some false
  ik_TooLarge_TooLarge : PySem.W.kitOne K (.ref C_TooLarge) (.ref C_TooLarge) = some true
  ik_TooLarge_BadState : PySem.W.kitOne K (.ref C_TooLarge) (.ref C_BadState) = some false
  ik_TooLarge_V : PySem.W.kitOne K (.ref C_TooLarge) (.type "ValueError") = some true
  xm_TooLarge_BadMachine : PySem.W.exmOne K (.ref C_TooLarge) (.ref C_BadMachine) = some false
  xm_TooLarge_BadState : PySem.W.exmOne K (.ref C_TooLarge) (.ref C_BadState) = some false
  ik_BadState_AsksError : PySem.W.kitOne K (.ref C_BadState) (.ref C_AsksError) = some true
  ik_BadState_BadMachine : PySem.W.kitOne K (.ref C_BadState) (.ref C_BadMachine) = some false
  ik_BadState_TooLarge : PySem.W.kitOne K (.ref C_BadState) (.ref C_TooLarge) = some false
  ik_BadState_BadState : PySem.W.kitOne K (.ref C_BadState) (.ref C_BadState) = some true
  ik_BadState_V : PySem.W.kitOne K (.ref C_BadState) (.type "ValueError") = some true
  xm_BadState_BadMachine : PySem.W.exmOne K (.ref C_BadState) (.ref C_BadMachine) = some false
  xm_BadState_TooLarge : PySem.W.exmOne K (.ref C_BadState) (.ref C_TooLarge) = some false
end K14

set_option Elab.async false
set_option linter.all false
set_option maxRecDepth 100000
namespace K14
open PySem PySem.Spec PyProof.Rows L2 Evl AE
local macro_rules | `(tactic| walk_at "c") => `(tactic| first | exact ⟨by decide, by decide⟩ | exact .inr ⟨by decide, by decide⟩ | exact .inl ⟨by decide, by decide⟩ | exact ⟨by decide, by decide, by decide⟩ | (show (0 : Int) < _; decide))
local macro_rules | `(tactic| walk_at "s") => `(tactic| first
  | (with_reducible refine r_var rfl ?_) | (with_reducible refine r_c ?_) | (with_reducible refine r_op ?_) | (with_reducible refine r_un ?_) | (with_reducible refine r_I0 ?_) | (with_reducible refine r_U ?_)
  | (with_reducible refine r_eq rfl ?_) | (with_reducible refine r_ne rfl ?_) | (with_reducible refine r_chain ?_) | (with_reducible refine r_test ?_) | (with_reducible refine r_tB ?_)
  | (with_reducible refine r_bl ?_) | (with_reducible refine r_and ?_) | (with_reducible refine r_or ?_) | (with_reducible refine r_not ?_) | (with_reducible refine r_nil ?_) | (with_reducible refine r_cons ?_)
  | (with_reducible refine r_tup ?_) | (with_reducible refine r_lst ?_) | (with_reducible refine r_cb ?_) | (with_reducible refine r_call ?_) | (with_reducible refine r_seq ?_) | (with_reducible refine r_set ?_)
  | (with_reducible refine r_drop ?_) | (with_reducible refine r_ret ?_) | (with_reducible refine r_next ?_) | (with_reducible refine r_if ?_) | (with_reducible refine r_sl ?_) | (with_reducible refine r_nop ?_) | (with_reducible refine r_prt ?_) | (with_reducible refine r_some ?_)
  | (with_reducible refine add_int ?_) | (with_reducible refine int_i ?_) | (with_reducible refine r_forR1 ?_) | (with_reducible refine r_forL ?_) | (with_reducible refine r_andV ?_) | (with_reducible refine r_orV ?_) | (with_reducible refine r_notV ?_) | (with_reducible refine r_ifE ?_) | ((with_reducible refine r_I ?_ ?_); (walk_at "c")))
local macro_rules | `(tactic| walk_at "g") => `(tactic| repeat walk_at "s")
section
variable {P : Program} {w : World} {K : PySem.W.Frag} {mg : Str → Option Value} {base : Heap}
/-! ### what a machine's parts are held against -/
def sp_size : Sp := fun vs H Q _ => ∃ n : Int, vs = [.int n] ∧ 1 ≤ n ∧ n ≤ 200 ∧ Q .non H
theorem ok_size (T : Tp K mg) : FnOk P w K mg base CX0 1 T.a_check_size T.d_check_size ["size"] sp_size := by
  refine T.f_check_size.ok sc_check_size (fun vs H Q E h => ?_) (fun cdv A outer s H vs Q E hr h => ?_)
  · obtain ⟨n, rfl, _⟩ := h
    rfl
  · obtain ⟨n, rfl, h1, h2, q⟩ := h
    refine ⟨_, (pss_cons (ps_if (pt_cmpR op_lt (pv 0) pe_int (nomark _)) (pss_one ps_never) pss_nil)
  (pss_one (ps_if (pt_cmpR op_gt (pv 0) (pe_gi rfl T.k_MOST_STATES) (nomark _)) (pss_one ps_never) pss_nil))), ?_⟩
    walk_at "g"
    refine ite_f (decide_eq_false (by omega)) ?_
    walk_at "g"
    refine ite_f (decide_eq_false (by omega)) ?_
    walk_at "g"
    exact q
def sp_marks (K : PySem.W.Frag) : Sp := fun vs H Q _ => ∃ (n : Int) (a : Addr) (ms : List Int), vs = [.int n, .ref a] ∧ SqA K H a (ms.map V.int) ∧ (∀ m ∈ ms, 0 ≤ m ∧ m < n) ∧ Q .non H
theorem ok_marks (T : Tp K mg) : FnOk P w K mg base CX0 1 T.a_check_marks T.d_check_marks ["size", "marks"] (sp_marks K) := by
  refine T.f_check_marks.ok sc_check_marks (fun vs H Q E h => ?_) (fun cdv A outer s H vs Q E hr h => ?_)
  · obtain ⟨n, a, ms, rfl, _⟩ := h
    rfl
  · obtain ⟨n, a, ms, rfl, hS, hm, q⟩ := h
    refine ⟨_, (pss_one (ps_for PassesOwn.never rfl (pi_seq (pv 1)) (pg_name (i := 2) sc_check_marks.nd rfl (.inl rfl))
  (pss_one (ps_if (pt_not (pt_chain op_le op_lt pe_int (pv 2) (pv 0))) (pss_one ps_never) pss_nil)))), ?_⟩
    refine for_seq rfl hS (fun i σ' H' => ∃ y, σ' = [some (.int n), some (.ref a), y] ∧ H' = H) ⟨_, rfl, rfl⟩ (fun j σ' H' _ ⟨_, _, e⟩ => by rw [e]; exact Ex.refl H) ?_ ?_
    · rintro j x σ' H' hx ⟨y, rfl, rfl⟩
      obtain ⟨m, hm1, rfl⟩ := List.mem_map.mp (List.mem_of_getElem? hx)
      obtain ⟨m0, m1⟩ := hm m hm1
      show tIfS _ _ _ _ _ _
      walk_at "g"
      refine ite_t (decide_eq_true (by omega)) ?_
      walk_at "g"
      refine ite_f (by rw [decide_eq_true m1]; rfl) ?_
      walk_at "g"
      exact ⟨_, rfl, rfl⟩
    · rintro σ' H' ⟨y, rfl, rfl⟩
      exact q
def sp_ask : Sp := fun vs H Q _ => ∃ x : Str, vs = [.str x] ∧ 1 ≤ x.length ∧ x.length ≤ 8 ∧ (∀ c ∈ x.cps.toList, 97 ≤ c ∧ c ≤ 122) ∧ ∀ H', Ex H H' → Q (.bl true) H'
theorem ok_ask (T : Tp K mg) : FnOk P w K mg base CX0 1 T.a_is_ask T.d_is_ask ["ask"] sp_ask := by
  refine T.f_is_ask.ok sc_is_ask (fun vs H Q E h => ?_) (fun cdv A outer s H vs Q E hr h => ?_)
  · obtain ⟨x, rfl, _⟩ := h
    rfl
  · obtain ⟨x, rfl, h1, h2, hl, q⟩ := h
    refine ⟨_, (pss_one (ps_ret (pe_and (pe_chain op_le op_le pe_int (pe_callB c_len (by rfl) T.n_len (by rfl) (pa_cons (pv 0) pa_nil)) (pe_gi rfl T.k_LONGEST_ASK)) (pe_one (pe_callB (cr_all rfl) (by rfl) T.n_all (by rfl) (pa_cons (pe_lc (own := [("letter", 1)]) (g := gName 1) (tt := tYes) rfl sc_is_ask.nd (pi_str (pv 0)) (blkOk_by (N := N_is_ask) (sc := defScope s_is_ask) (by decide +kernel)) (fun _ _ _ _ _ => (pg_name (i := 1) sc_is_ask.nd rfl (.inl rfl))) (fun _ _ _ _ _ => pts_nil) (fun _ _ _ _ _ => (pe_chain op_le_str op_le_str pe_str (pv 1) pe_str))) pa_nil)))))), ?_⟩
    walk_at "g"
    refine len_s (sz_of (by omega)) ?_
    walk_at "g"
    refine ite_t (decide_eq_true (by omega)) ?_
    walk_at "g"
    refine ite_t (decide_eq_true (by omega)) ?_
    walk_at "g"
    refine lc_s (z := x) (fun _ => true) (fun _ => .bl true) (fun R k => ⟨_, rfl, k⟩) (by omega) (fun _ => rfl) yes_t ?_ fun D H1 hD e1 hl1 => ?_
    · intro y hy _ H1 e1 R k
      obtain ⟨c, hc, rfl⟩ := List.mem_map.mp hy
      obtain ⟨c1, c2⟩ := hl c hc
      walk_at "g"
      refine ⟨_, _, rfl, rfl, _, rfl, ?_⟩
      refine ite_t ?_ ?_
      · show (!decide ([c] < [97])) = true
        rw [decide_eq_false (by rw [List.cons_lt_cons_iff]; simp; omega)]
        rfl
      · walk_at "g"
        refine ⟨_, _, rfl, rfl, ?_⟩
        have z : (!decide ([122] < [c])) = true := by
          rw [decide_eq_false (by rw [List.cons_lt_cons_iff]; simp; omega)]
          rfl
        have k2 := k H1 (Ex.refl H1)
        rw [← z] at k2
        exact k2
    · walk_at "g"
      refine ⟨D, ((signsV x).filter fun _ => true).map fun _ => true, rfl, .inl (.inl ?_), ?_⟩
      · rw [hl1, List.map_map]
        rfl
      · have z : (((signsV x).filter fun _ => true).map fun _ => true).all id = true := by simp
        rw [z]
        exact q H1 e1
def sp_steps (K : PySem.W.Frag) : Sp := fun vs H Q _ => ∃ (n : Int) (a : Addr) (us : List V) (ss : List StepD), vs = [.int n, .ref a] ∧ SqA K H a us ∧ Tups H us (ss.map stepV) ∧ (∀ s ∈ ss, OkS n s) ∧ ∀ H', Ex H H' → Q .non H'
theorem ok_steps (T : Tp K mg) : FnOk P w K mg base CX0 2 T.a_check_steps T.d_check_steps ["size", "steps"] (sp_steps K) := by
  have G_is_ask : FnOk P w K mg base CX0 1 T.a_is_ask T.d_is_ask ["ask"] sp_ask := ok_ask T
  refine T.f_check_steps.ok sc_check_steps (fun vs H Q E h => ?_) (fun cdv A outer s H vs Q E hr h => ?_)
  · obtain ⟨n, a, us, ss, rfl, _⟩ := h
    rfl
  · obtain ⟨n, a, us, ss, rfl, hS, hT, hok, q⟩ := h
    refine ⟨_, (pss_one (ps_for PassesOwn.never rfl (pi_seq (pv 1)) (pg_tup rfl (pgs_cons (pg_name (i := 2) sc_check_steps.nd rfl (.inl rfl)) (pgs_cons (pg_name (i := 3) sc_check_steps.nd rfl (.inl rfl)) (pgs_cons (pg_name (i := 4) sc_check_steps.nd rfl (.inl rfl)) pgs_nil))))
  (pss_one (ps_if (pt_not (PW.pt (pw_and (pt_chain op_le op_lt pe_int (pv 2) (pv 0)) (pw_and (pt_val (pe_call G_is_ask (hr.mono (by decide)) (by rfl) T.g_is_ask T.f_is_ask.kp T.b_is_ask .nil pass0 (pa_cons (pv 3) pa_nil))) (pw_and1 (pt_chain op_le op_lt pe_int (pv 4) (pv 0))))))) (pss_one ps_never) pss_nil)))), ?_⟩
    refine for_seq rfl hS (fun i σ' H' => ∃ y2 y3 y4, σ' = [some (.int n), some (.ref a), y2, y3, y4] ∧ Ex H H') ⟨_, _, _, rfl, Ex.refl H⟩ (fun j σ' H' _ ⟨_, _, _, _, e⟩ => e) ?_ ?_
    · rintro j x σ' H' hx ⟨y2, y3, y4, rfl, e1⟩
      obtain ⟨z, hz, p, rfl, hp⟩ := hT.get hx
      obtain ⟨st, hst, rfl⟩ := List.mem_map.mp (List.mem_of_getElem? hz)
      have o := hok st hst
      refine ⟨p, stepV st, rfl, .inl (.inl (e1 _ _ hp)), rfl, _, _, rfl, _, _, rfl, _, _, rfl, rfl, ?_⟩
      show tIfS _ _ _ _ _ _
      walk_at "g"
      refine ite_t (decide_eq_true o.s0) ?_
      walk_at "g"
      refine ite_t (decide_eq_true o.s1) ?_
      walk_at "g"
      refine ⟨_, rfl, o.a0, o.a1, o.al, fun H2 e2 => ?_⟩
      walk_at "g"
      refine ite_t rfl ?_
      walk_at "g"
      refine ite_t (decide_eq_true o.e0) ?_
      walk_at "g"
      refine ite_f (by rw [decide_eq_true o.e1]; rfl) ?_
      walk_at "g"
      exact ⟨_, _, _, rfl, e1.trans e2⟩
    · rintro σ' H' ⟨y2, y3, y4, rfl, e1⟩
      exact q H' e1
end
end K14

set_option Elab.async false
set_option linter.all false
set_option maxRecDepth 100000
namespace K14
open PySem PySem.Spec PyProof.Rows L2 Evl AE
local macro_rules | `(tactic| walk_at "c") => `(tactic| first | exact ⟨by decide, by decide⟩ | exact .inr ⟨by decide, by decide⟩ | exact .inl ⟨by decide, by decide⟩ | exact ⟨by decide, by decide, by decide⟩ | (show (0 : Int) < _; decide))
local macro_rules | `(tactic| walk_at "s") => `(tactic| first
  | (with_reducible refine r_var rfl ?_) | (with_reducible refine r_c ?_) | (with_reducible refine r_op ?_) | (with_reducible refine r_un ?_) | (with_reducible refine r_I0 ?_) | (with_reducible refine r_U ?_)
  | (with_reducible refine r_eq rfl ?_) | (with_reducible refine r_ne rfl ?_) | (with_reducible refine r_chain ?_) | (with_reducible refine r_test ?_) | (with_reducible refine r_tB ?_)
  | (with_reducible refine r_bl ?_) | (with_reducible refine r_and ?_) | (with_reducible refine r_or ?_) | (with_reducible refine r_not ?_) | (with_reducible refine r_nil ?_) | (with_reducible refine r_cons ?_)
  | (with_reducible refine r_tup ?_) | (with_reducible refine r_lst ?_) | (with_reducible refine r_cb ?_) | (with_reducible refine r_call ?_) | (with_reducible refine r_seq ?_) | (with_reducible refine r_set ?_)
  | (with_reducible refine r_drop ?_) | (with_reducible refine r_ret ?_) | (with_reducible refine r_next ?_) | (with_reducible refine r_if ?_) | (with_reducible refine r_sl ?_) | (with_reducible refine r_nop ?_) | (with_reducible refine r_prt ?_) | (with_reducible refine r_some ?_)
  | (with_reducible refine add_int ?_) | (with_reducible refine int_i ?_) | (with_reducible refine r_forR1 ?_) | (with_reducible refine r_forL ?_) | (with_reducible refine r_andV ?_) | (with_reducible refine r_orV ?_) | (with_reducible refine r_notV ?_) | (with_reducible refine r_ifE ?_) | (with_reducible refine r_lcL ?_) | ((with_reducible refine r_I ?_ ?_); (walk_at "c")))
local macro_rules | `(tactic| walk_at "g") => `(tactic| repeat walk_at "s")
section
variable {P : Program} {w : World} {K : PySem.W.Frag} {mg : Str → Option Value} {base : Heap}
/-! ### the steps in order -/
/-- the names' dict: each name has a step of the row -/
structure Named (H : Hp) (kvs : List (Key × V)) (ss : List StepD) : Prop where
  nd : (kvs.map (·.1)).Nodup
  len : kvs.length ≤ ss.length
  val : ∀ k v, valV kvs k = some v → ∃ s ∈ ss, k = .inr (keyS s) ∧ TupAt H v (stepV s)
  has : ∀ s ∈ ss, Sum.inr (keyS s) ∈ kvs.map (·.1)
theorem Named.nil (H : Hp) : Named H [] [] := ⟨List.nodup_nil, Nat.le_refl _, fun _ _ h => (by cases h), fun _ h => (by cases h)⟩
theorem Named.put {H H' : Hp} {kvs : List (Key × V)} {ss : List StepD} {s : StepD} {v : V} (N : Named H kvs ss) (e : Tx H H') (hv : TupAt H' v (stepV s)) : Named H' (putK kvs (.inr (keyS s)) v) (ss ++ [s]) := by
  refine ⟨nd_put _ _ N.nd, ?_, fun k x h => ?_, fun z hz => ?_⟩
  · rw [List.length_append]
    exact Nat.le_trans (len_put _ _ _) (Nat.succ_le_succ N.len)
  · rw [valV_put] at h
    by_cases hk : k = .inr (keyS s)
    · rw [if_pos hk] at h
      cases h
      exact ⟨s, List.mem_append_right _ (List.mem_singleton.mpr rfl), hk, hv⟩
    · rw [if_neg hk] at h
      obtain ⟨z, hz, ez, tz⟩ := N.val k x h
      exact ⟨z, List.mem_append_left _ hz, ez, tz.tx e⟩
  · rw [keys_put]
    rcases List.mem_append.mp hz with hz | hz
    · split
      · exact N.has z hz
      · exact List.mem_append_left _ (N.has z hz)
    · cases List.mem_singleton.mp hz
      split
      · assumption
      · exact List.mem_append_right _ (List.mem_singleton.mpr rfl)
def unS : V → Str
  | .str y => y
  | _ => Str.empty
/-- what the sorted names lead to -/
theorem rows_of {H : Hp} {kvs : List (Key × V)} {ss : List StepD} {n : Int} (hn : n ≤ 200) (N : Named H kvs ss) (ok : ∀ s ∈ ss, OkS n s) {ys : List Str} (hp : ys.Perm (kvs.map fun kv => unS (kV kv.1))) (hs : sortedS ys = true) :
    ∃ rows : List StepD, rows.Pairwise ltS ∧ (∀ s, s ∈ rows ↔ s ∈ ss) ∧ rows.length ≤ ss.length ∧ ys = rows.map keyS ∧ Tups H (ys.map fun y => (valV kvs (.inr y)).getD .non) (rows.map stepV) := by
  have ks : ∀ k ∈ kvs.map (·.1), ∃ s ∈ ss, k = .inr (keyS s) := fun k hk => by
    obtain ⟨v, hv⟩ := Option.isSome_iff_exists.mp (val_some.mpr hk)
    obtain ⟨s, hs, e, _⟩ := N.val k v hv
    exact ⟨s, hs, e⟩
  have my : ∀ y, y ∈ ys ↔ Sum.inr y ∈ kvs.map (·.1) := fun y => by
    rw [hp.mem_iff, List.mem_map]
    constructor
    · rintro ⟨p, hp, rfl⟩
      obtain ⟨s, _, e⟩ := ks p.1 (List.mem_map.mpr ⟨p, hp, rfl⟩)
      have : Sum.inr (unS (kV p.1)) = p.1 := by rw [e]; rfl
      rw [this]
      exact List.mem_map.mpr ⟨p, hp, rfl⟩
    · intro h
      obtain ⟨p, hp, e⟩ := List.mem_map.mp h
      exact ⟨p, hp, by rw [e]; rfl⟩
  have nd : ys.Nodup := by
    refine (hp.nodup_iff).mpr ?_
    have : (kvs.map fun kv => unS (kV kv.1)) = (kvs.map (·.1)).map fun k => unS (kV k) := by rw [List.map_map]; rfl
    rw [this]
    show List.Pairwise (fun a b => a ≠ b) _
    rw [List.pairwise_map]
    refine List.Pairwise.imp_of_mem (fun {a b} ha hb hne h => hne ?_) N.nd
    obtain ⟨s, _, rfl⟩ := ks a ha
    obtain ⟨s2, _, rfl⟩ := ks b hb
    have h' : keyS s = keyS s2 := h
    rw [h']
  have pw := sorted_pw hs
  have all : ∀ y ∈ ys, ∃ s, s ∈ ss ∧ y = keyS s ∧ TupAt H ((valV kvs (.inr y)).getD .non) (stepV s) := fun y hy => by
    obtain ⟨v, hv⟩ := Option.isSome_iff_exists.mp (val_some.mpr ((my y).mp hy))
    obtain ⟨s, hs, e, tt⟩ := N.val _ v hv
    refine ⟨s, hs, Sum.inr.inj e, ?_⟩
    rw [hv]
    exact tt
  have main : ∀ zs : List Str, zs.Nodup → zs.Pairwise (fun a b => ¬ b.cps.toList < a.cps.toList) → (∀ y ∈ zs, ∃ s, s ∈ ss ∧ y = keyS s ∧ TupAt H ((valV kvs (.inr y)).getD .non) (stepV s)) →
      ∃ rows : List StepD, rows.Pairwise ltS ∧ (∀ s ∈ rows, s ∈ ss ∧ keyS s ∈ zs) ∧ zs = rows.map keyS ∧ Tups H (zs.map fun y => (valV kvs (.inr y)).getD .non) (rows.map stepV) := by
    intro zs
    induction zs with
    | nil => exact fun _ _ _ => ⟨[], .nil, fun _ h => (by cases h), rfl, .nil⟩
    | cons y zs ih =>
      intro nd pw al
      obtain ⟨rows, r1, r2, r3, r4⟩ := ih (List.nodup_cons.mp nd).2 (List.pairwise_cons.mp pw).2 fun z hz => al z (List.mem_cons_of_mem _ hz)
      obtain ⟨s, hs, rfl, tt⟩ := al _ (List.mem_cons_self ..)
      refine ⟨s :: rows, ?_, fun z hz => ?_, by rw [List.map_cons, r3], .cons tt r4⟩
      · rw [List.pairwise_cons]
        refine ⟨fun z hz => ?_, r1⟩
        obtain ⟨z1, z2⟩ := r2 z hz
        rcases ltS_tri s z with h | h | h
        · exact h
        · subst h
          exact absurd z2 (List.nodup_cons.mp nd).1
        · exact absurd (key_lt hn (ok z z1) (ok s hs) h) ((List.pairwise_cons.mp pw).1 _ z2)
      · rcases List.mem_cons.mp hz with rfl | hz
        · exact ⟨hs, List.mem_cons_self ..⟩
        · exact ⟨(r2 z hz).1, List.mem_cons_of_mem _ (r2 z hz).2⟩
  obtain ⟨rows, r1, r2, r3, r4⟩ := main ys nd pw all
  refine ⟨rows, r1, fun s => ⟨fun h => (r2 s h).1, fun h => ?_⟩, ?_, r3, r4⟩
  · have : keyS s ∈ ys := (my _).mpr (N.has s h)
    rw [r3] at this
    obtain ⟨z, hz, e⟩ := List.mem_map.mp this
    have := key_inj hn (ok z (r2 z hz).1) (ok s h) e
    rw [← this]
    exact hz
  · have e1 : rows.length = ys.length := by rw [r3, List.length_map]
    rw [e1, hp.length_eq, List.length_map]
    exact N.len
def sp_asc (K : PySem.W.Frag) : Sp := fun vs H Q _ => ∃ (n : Int) (a : Addr) (us : List V) (ss : List StepD), vs = [.ref a] ∧ SqA K H a us ∧ Tups H us (ss.map stepV) ∧ n ≤ 200 ∧ (∀ s ∈ ss, OkS n s) ∧ ss.length ≤ 1000 ∧
  ∀ (rows : List StepD) (ws : List V) (p : Addr) H', rows.Pairwise ltS → (∀ s, s ∈ rows ↔ s ∈ ss) → rows.length ≤ ss.length → H p = none → Ex H H' → H' p = some (.tup ws) → Tups H' ws (rows.map stepV) → Q (.ref p) H'
theorem ok_asc (T : Tp K mg) : FnOk P w K mg base CX0 1 T.a_ascending T.d_ascending ["steps"] (sp_asc K) := by
  refine T.f_ascending.ok sc_ascending (fun vs H Q E h => ?_) (fun cdv A outer s H vs Q E hr h => ?_)
  · obtain ⟨n, a, us, ss, rfl, _⟩ := h
    rfl
  · obtain ⟨n, a, us, ss, rfl, hS, hT, hn, hok, hl, q⟩ := h
    have hu := hu_of hr
    refine ⟨_, (pss_cons (ps_set (i := 1) sc_ascending.nd rfl (.inr rfl) (pe_dc (own := [("state", 2), ("ask", 3), ("end", 4)]) (g := gTup K 3 (gCons (gName 2) (gCons (gName 3) (gCons (gName 4) gNil)))) (tt := tYes) rfl sc_ascending.nd (pi_seq (pv 0)) (blkOk_by (N := N_ascending) (sc := defScope s_ascending) (by decide +kernel)) (fun _ _ _ _ _ => (pg_tup (by rfl) (pgs_cons (pg_name (i := 2) sc_ascending.nd rfl (.inl rfl)) (pgs_cons (pg_name (i := 3) sc_ascending.nd rfl (.inl rfl)) (pgs_cons (pg_name (i := 4) sc_ascending.nd rfl (.inl rfl)) pgs_nil))))) (fun _ _ _ _ _ => pts_nil) (fun _ _ _ _ _ => (pe_joined (PJ.cons (pe_fmtS_03d (pv 2)) (PJ.cons (pe_fmtS_l8 (pv 3)) (PJ.cons (pe_fmtS_03d (pv 4)) PJ.nil))))) (fun _ _ _ _ _ => (pe_tup (pa_cons (pv 2) (pa_cons (pv 3) (pa_cons (pv 4) pa_nil)))))))
  (pss_one (ps_ret (pe_callTy c_tuple (by rfl) T.n_tuple (by rfl) (pa_cons (pe_lc (own := [("name", 5)]) (g := gName 5) (tt := tYes) rfl sc_ascending.nd (pi_list (pe_callB c_sorted (by rfl) T.n_sorted (by rfl) (pa_cons (pe_lock (pe_lc (own := [("name", 5)]) (g := gName 5) (tt := tYes) rfl sc_ascending.nd (pi_keys (pv 1)) (blkOk_by (N := N_ascending) (sc := defScope s_ascending) (by decide +kernel)) (fun _ _ _ _ _ => (pg_name (i := 5) sc_ascending.nd rfl (.inl rfl))) (fun _ _ _ _ _ => pts_nil) (fun _ _ _ _ _ => (pe_callTy c_str (by rfl) T.n_str (by rfl) (pa_cons (pv 5) pa_nil))))) pa_nil))) (blkOk_by (N := N_ascending) (sc := defScope s_ascending) (by decide +kernel)) (fun _ _ _ _ _ => (pg_name (i := 5) sc_ascending.nd rfl (.inl rfl))) (fun _ _ _ _ _ => pts_nil) (fun _ _ _ _ _ => (pe_dget hu (pv 1) (pv 5) (fun _ _ => rfl)))) pa_nil))))), ?_⟩
    walk_at "g"
    have p3l : ∀ i, (p3 i).length = 3 := fun _ => rfl
    have sl : (sizeLine : Nat) = 16777216 := sizeLine_eq
    refine dc_seq rfl hS (fun D j H' => Ex H H' ∧ H D = none ∧ ∃ kvs, H' D = some (.dK kvs) ∧ Named H' kvs (ss.take j)) (fun D hD => ⟨Ex.new hD, hD, [], upd_same, Named.nil _⟩) (fun D j H' p => p.1) ?_ ?_
    · rintro D j x H' hx ⟨e1, hD, kvs, hk, N⟩
      obtain ⟨z, hz, b, rfl, hb⟩ := hT.get hx
      rw [List.getElem?_map] at hz
      obtain ⟨st, hst, rfl⟩ := Option.map_eq_some_iff.mp hz
      have o := hok st (List.mem_of_getElem? hst)
      have os1 := o.s1; have oe1 := o.e1; have oa1 := o.a1
      have pl : (pad8 st.2.1).length ≤ 8 := by
        show (st.2.1.cps ++ Array.replicate (8 - st.2.1.length) 32).size ≤ 8
        rw [Array.size_append, Array.size_replicate]
        have : st.2.1.cps.size = st.2.1.length := rfl
        omega
      refine ⟨b, stepV st, rfl, .inl (.inl (e1 _ _ hb)), rfl, _, _, rfl, _, _, rfl, _, _, rfl, rfl, rfl, ?_⟩
      refine yes_q (ite_t rfl ?_)
      refine ⟨_, rfl, _, rfl, o.s0, by omega, _, rfl, ?_, _, rfl, _, rfl, oa1, _, rfl, ?_, _, rfl, _, rfl, o.e0, by omega, _, rfl, ?_, ?_⟩
      · rw [Str.length_append]
        show 0 + 3 ≤ sizeLine
        omega
      · rw [Str.length_append, Str.length_append]
        show 0 + 3 + (pad8 st.2.1).length ≤ sizeLine
        omega
      · rw [Str.length_append, Str.length_append, Str.length_append]
        show 0 + 3 + (pad8 st.2.1).length + 3 ≤ sizeLine
        omega
      · refine js_nil ?_
        walk_at "g"
        refine ⟨by show 3 ≤ sizeLine; omega, fun p hp => ?_⟩
        have hpD : D ≠ p := ne_of_none hk hp
        have hk2 : (upd H' p (.tup (stepV st))) D = some (.dK kvs) := by rw [upd_ne hpD]; exact hk
        have tv : TupAt (upd (upd H' p (.tup (stepV st))) D (.dK (putK kvs (.inr (keyS st)) (.ref p)))) (.ref p) (stepV st) := ⟨p, rfl, by rw [upd_ne hpD.symm, upd_same]⟩
        refine ⟨kvs, .inr (keyS st), rfl, hk2, ?_, ex_upd (e1.trans (Ex.new hp)) hD, hD, _, upd_same, ?_⟩
        · have := N.len
          rw [List.length_take] at this
          omega
        · have tk : ss.take (j + 1) = ss.take j ++ [st] := by
            rw [List.take_add_one, hst]
            rfl
          rw [tk]
          exact N.put ((tx_ex (Ex.new hp)).trans (tx_dk hk2)) tv
    · rintro D H' ⟨e1, hD, kvs, hk, N⟩
      have lu : us.length = ss.length := by rw [hT.len, List.length_map]
      rw [lu, List.take_length] at N
      have kl := N.len
      walk_at "g"
      refine lc_k (kvs := kvs) (fun x => x) (fun H1 R k => ⟨_, rfl, k⟩) hk (by omega) (fun _ => rfl) ?_ fun L1 H1 hL1 e2 hl1 => ?_
      · intro x hx H2 R k
        obtain ⟨kv, hkv, rfl⟩ := List.mem_map.mp hx
        obtain ⟨s0, _, e0⟩ : ∃ s ∈ ss, kv.1 = .inr (keyS s) := by
          obtain ⟨v, hv⟩ := Option.isSome_iff_exists.mp (val_some.mpr (List.mem_map.mpr ⟨kv, hkv, rfl⟩))
          obtain ⟨s, hs, e, _⟩ := N.val _ v hv
          exact ⟨s, hs, e⟩
        rw [e0] at k ⊢
        walk_at "g"
        exact ⟨_, rfl, k⟩
      · walk_at "g"
        have kstr : (kvs.map fun kv => kV kv.1).map (fun x => x) = (kvs.map fun kv => unS (kV kv.1)).map V.str := by
          rw [List.map_map, List.map_map]
          refine List.map_congr_left fun kv hkv => ?_
          obtain ⟨v, hv⟩ := Option.isSome_iff_exists.mp (val_some.mpr (List.mem_map.mpr ⟨kv, hkv, rfl⟩))
          obtain ⟨s, hs, e, _⟩ := N.val _ v hv
          show kV kv.1 = V.str (unS (kV kv.1))
          rw [e]
          rfl
        rw [kstr] at hl1
        refine ⟨L1, _, rfl, .inl (.inl hl1), by rw [List.length_map]; omega, fun ys L2 hp hs hL2 => ?_⟩
        obtain ⟨rows, r1, r2, r3, r4, r5⟩ := rows_of hn N hok hp hs
        have e3 := e2.trans (Ex.new (o := .lst (ys.map V.str)) hL2)
        have yl : ys.length = rows.length := by rw [r4, List.length_map]
        refine lcl_go (fun _ => true) (fun x => (valV kvs (.inr (unS x))).getD .non) (.inl (.inl upd_same)) (by rw [List.length_map]; omega) (fun _ => rfl) yes_t ?_ fun L3 H3 hL3 e4 hl3 => ?_
        · intro x hx _ H2 e4 R k
          obtain ⟨y, hy, rfl⟩ := List.mem_map.mp hx
          rw [r4] at hy
          obtain ⟨s, hs, rfl⟩ := List.mem_map.mp hy
          obtain ⟨v, hv⟩ := Option.isSome_iff_exists.mp (val_some.mpr (N.has s ((r2 s).mp hs)))
          have g : DGet H2 D (.str (keyS s)) (some v) := by
            have g := DGet.k (k := Sum.inr (keyS s)) (e4 _ _ (e3 _ _ hk))
            rw [hv] at g
            exact g
          have k2 := k H2 (Ex.refl H2)
          have ev : (valV kvs (.inr (unS (.str (keyS s))))).getD .non = v := by
            show (valV kvs (.inr (keyS s))).getD .non = v
            rw [hv]
            rfl
          rw [ev] at k2
          exact ⟨_, rfl, _, rfl, D, _, rfl, g, k2⟩
        · walk_at "g"
          refine ⟨L3, _, rfl, .inl ⟨.inl (.inl hl3), fun p hp => ?_⟩⟩
          rw [filter_yes, List.map_map]
          refine q rows _ p _ r1 r2 r3 (fresh_back (e1.trans (e3.trans e4)) hp) ((e1.trans (e3.trans e4)).trans (Ex.new hp)) upd_same ?_
          exact r5.tx (tx_ex ((e3.trans e4).trans (Ex.new hp)))
end
end K14

set_option Elab.async false
set_option linter.all false
set_option maxRecDepth 100000
namespace K14
open PySem PySem.Spec PyProof.Rows L2 Evl AE
local macro_rules | `(tactic| walk_at "c") => `(tactic| first | exact ⟨by decide, by decide⟩ | exact .inr ⟨by decide, by decide⟩ | exact .inl ⟨by decide, by decide⟩ | exact ⟨by decide, by decide, by decide⟩ | (show (0 : Int) < _; decide))
local macro_rules | `(tactic| walk_at "s") => `(tactic| first
  | (with_reducible refine r_var rfl ?_) | (with_reducible refine r_c ?_) | (with_reducible refine r_op ?_) | (with_reducible refine r_un ?_) | (with_reducible refine r_I0 ?_) | (with_reducible refine r_U ?_)
  | (with_reducible refine r_eq rfl ?_) | (with_reducible refine r_ne rfl ?_) | (with_reducible refine r_chain ?_) | (with_reducible refine r_test ?_) | (with_reducible refine r_tB ?_)
  | (with_reducible refine r_bl ?_) | (with_reducible refine r_and ?_) | (with_reducible refine r_or ?_) | (with_reducible refine r_not ?_) | (with_reducible refine r_nil ?_) | (with_reducible refine r_cons ?_)
  | (with_reducible refine r_tup ?_) | (with_reducible refine r_lst ?_) | (with_reducible refine r_cb ?_) | (with_reducible refine r_call ?_) | (with_reducible refine r_seq ?_) | (with_reducible refine r_set ?_)
  | (with_reducible refine r_drop ?_) | (with_reducible refine r_ret ?_) | (with_reducible refine r_next ?_) | (with_reducible refine r_if ?_) | (with_reducible refine r_sl ?_) | (with_reducible refine r_nop ?_) | (with_reducible refine r_prt ?_) | (with_reducible refine r_some ?_)
  | (with_reducible refine add_int ?_) | (with_reducible refine int_i ?_) | (with_reducible refine r_forR1 ?_) | (with_reducible refine r_forL ?_) | (with_reducible refine r_andV ?_) | (with_reducible refine r_orV ?_) | (with_reducible refine r_notV ?_) | (with_reducible refine r_ifE ?_) | (with_reducible refine r_lcL ?_) | (with_reducible refine r_fld ?_) | (with_reducible refine r_get ?_) | (with_reducible refine r_din ?_) | (with_reducible refine r_dget2 ?_) | ((with_reducible refine r_I ?_ ?_); (walk_at "c")))
local macro_rules | `(tactic| walk_at "g") => `(tactic| repeat walk_at "s")
section
variable {P : Program} {w : World} {K : PySem.W.Frag} {mg : Str → Option Value} {base : Heap}
def EndsAt (H : Hp) (d : Addr) (rows : List StepD) : Prop := ∃ kvs : List (List Key × V), H d = some (.dT kvs) ∧ GrpT H kvs (endsF rows)
def sp_ends (K : PySem.W.Frag) : Sp := fun vs H Q _ => ∃ (a : Addr) (us : List V) (rows : List StepD), vs = [.ref a] ∧ SqT K H a us ∧ Tups H us (rows.map stepV) ∧ rows.length ≤ 1000 ∧
  ∀ p H', H p = none → Ex H H' → EndsAt H' p rows → Q (.ref p) H'
theorem ok_ends (T : Tp K mg) : FnOk P w K mg base CX0 1 T.a_ends_by_ask T.d_ends_by_ask ["steps"] (sp_ends K) := by
  refine T.f_ends_by_ask.ok sc_ends_by_ask (fun vs H Q E h => ?_) (fun cdv A outer s H vs Q E hr h => ?_)
  · obtain ⟨a, us, rows, rfl, _⟩ := h
    rfl
  · obtain ⟨a, us, rows, rfl, hS, hT, hl, q⟩ := h
    have hu := hu_of hr
    refine ⟨_, (pss_cons (ps_set (i := 1) sc_ends_by_ask.nd rfl (.inr rfl) pe_dnewT)
  (pss_cons (ps_for PassesOwn.never rfl (pi_tup (pv 0)) (pg_tup (by rfl) (pgs_cons (pg_name (i := 2) sc_ends_by_ask.nd rfl (.inl rfl)) (pgs_cons (pg_name (i := 3) sc_ends_by_ask.nd rfl (.inl rfl)) (pgs_cons (pg_name (i := 4) sc_ends_by_ask.nd rfl (.inl rfl)) pgs_nil))))
  (pss_one (ps_expr (pe_bm PySem.F.plainAttrs_list PySem.F.slot_list_append PySem.F.type_list_append mt_append (pe_setdT hu (pv 1) (pe_tup (pa_cons (pv 2) (pa_cons (pv 3) pa_nil))) (pe_lst pa_nil) ⟨rfl, rfl, rfl, rfl⟩) (pa_cons (pv 4) pa_nil)))))
  (pss_one (ps_ret (pe_lock (pe_dcT (own := [("place", 5)]) (g := gName 5) (tt := tYes) (Nat.lt_of_succ_lt hu) rfl sc_ends_by_ask.nd (pi_keys (pv 1)) (blkOk_by (N := N_ends_by_ask) (sc := defScope s_ends_by_ask) (by decide +kernel)) (fun _ _ _ _ _ => (pg_name (i := 5) sc_ends_by_ask.nd rfl (.inl rfl))) (fun _ _ _ _ _ => pts_nil) (fun _ _ _ _ _ => (pv 5)) (fun _ _ _ _ _ => (pe_callTy (c_tupleK (K := K)) (by rfl) T.n_tuple (by rfl) (pa_cons (pe_dget hu (pv 1) (pv 5) (fun _ _ => rfl)) pa_nil))))))))), ?_⟩
    walk_at "g"
    intro d hd
    have e1 : Ex H (upd H d (.dT [])) := Ex.new hd
    have d1 : (upd H d (.dT [])) d = some (.dT []) := upd_same
    generalize (upd H d (.dT [])) = H1 at e1 d1
    walk_at "g"
    refine for_t rfl (ex_t e1 hS) (fun j σ' H' => ∃ y2 y3 y4 kvs, σ' = [some (.ref a), some (.ref d), y2, y3, y4, none] ∧ Ex H H' ∧ H' d = some (.dT kvs) ∧ kvs.length ≤ j ∧ Grp H H' kvs (endsF (rows.take j)))
      ⟨_, _, _, _, rfl, e1, d1, Nat.le_refl _, Grp.nil fun _ => rfl⟩ (fun j σ' H' _ ⟨_, _, _, _, _, e, _⟩ => ex_t e hS) ?_ ?_
    · rintro j x σ' H' hx ⟨y2, y3, y4, kvs, rfl, e2, d2, kl, g⟩
      obtain ⟨z, hz, p, rfl, hp⟩ := hT.get hx
      rw [List.getElem?_map] at hz
      obtain ⟨st, hst, rfl⟩ := Option.map_eq_some_iff.mp hz
      have hj : j < rows.length := (List.getElem?_eq_some_iff.mp hst).1
      have tk : rows.take (j + 1) = rows.take j ++ [st] := by
        rw [List.take_add_one, hst]
        rfl
      refine ⟨p, stepV st, rfl, .inl (.inl (e2 _ _ hp)), rfl, _, _, rfl, _, _, rfl, _, _, rfl, rfl, ?_⟩
      walk_at "g"
      refine ⟨_, rfl, d, rfl, .inr ⟨kvs, .inl d2⟩, ?_⟩
      walk_at "g"
      refine ⟨sz_of (by show 2 ≤ 100000; decide), fun kp hkp => ?_⟩
      walk_at "g"
      refine ⟨sz_of (by show 0 ≤ 100000; decide), fun lp hlp => ?_⟩
      have dk : d ≠ kp := ne_of_none d2 hkp
      have dl : d ≠ lp := ne_of_none (show (upd H' kp _) d = some _ by rw [upd_ne dk]; exact d2) hlp
      have kl' : kp ≠ lp := ne_of_none upd_same hlp
      have hlp' : H' lp = none := by rw [upd_ne kl'.symm] at hlp; exact hlp
      have e3 : Ex H' (upd (upd H' kp (.tup [.int st.1, .str st.2.1])) lp (.lst [])) := (Ex.new hkp).trans (Ex.new hlp)
      refine ⟨kvs, [.inl st.1, .inr st.2.1], kp, e3 _ _ d2, rfl, by rw [upd_ne kl', upd_same]; rfl, sz_lt (by omega), fun v hv => ?_, fun hn => ?_⟩
      · obtain ⟨l, rfl, h2, h3, h4⟩ := g.val _ _ hv
        have ld : l ≠ d := ne_of h2 d2 (by intro z; cases z)
        refine ⟨.inl ⟨rfl, _, .inl (.inl (e3 _ _ h2))⟩, ?_⟩
        walk_at "g"
        refine app_l (e3 _ _ h2) ?_ ?_
        · refine sz_lt ?_
          unfold endsF
          rw [List.length_map]
          have := List.length_filter_le (fun s : StepD => decide ([Sum.inl s.1, Sum.inr s.2.1] = ([.inl st.1, .inr st.2.1] : List Key))) (rows.take j)
          rw [List.length_take] at this
          omega
        · walk_at "g"
          refine ⟨_, _, _, kvs, rfl, ex_upd (e2.trans e3) h3, by rw [upd_ne ld.symm]; exact e3 _ _ d2, by omega, ?_⟩
          have gg := g.more (H' := upd (upd (upd H' kp (.tup [.int st.1, .str st.2.1])) lp (.lst [])) l (.lst (endsF (rows.take j) [.inl st.1, .inr st.2.1] ++ [.int st.2.2]))) hv (fun b xs hb h => by rw [upd_ne hb]; exact e3 _ _ h) upd_same
          have ee : endsF (rows.take (j + 1)) = fun k' => if k' = [.inl st.1, .inr st.2.1] then endsF (rows.take j) [.inl st.1, .inr st.2.1] ++ [.int st.2.2] else endsF (rows.take j) k' := by
            funext k'
            rw [tk, endsF_snoc]
          rw [ee]
          exact gg
      · have hl4 : (upd (upd (upd H' kp (.tup [.int st.1, .str st.2.1])) lp (.lst [])) d (.dT (putK kvs [.inl st.1, .inr st.2.1] (.ref lp)))) lp = some (.lst []) := by rw [upd_ne dl.symm, upd_same]
        refine ⟨.inl ⟨rfl, _, .inl (.inl hl4)⟩, ?_⟩
        walk_at "g"
        refine app_l hl4 (sz_lt (by decide)) ?_
        walk_at "g"
        have hlp0 : H lp = none := fresh_back e2 hlp'
        refine ⟨_, _, _, _, rfl, ex_upd (ex_upd (e2.trans e3) hd) hlp0, by rw [upd_ne dl, upd_same], Nat.le_trans (len_put _ _ _) (by omega), ?_⟩
        have ee : endsF (rows.take (j + 1)) = fun k' => if k' = [.inl st.1, .inr st.2.1] then endsF (rows.take j) [.inl st.1, .inr st.2.1] ++ [.int st.2.2] else endsF (rows.take j) k' := by
          funext k'
          rw [tk, endsF_snoc]
        rw [ee]
        refine g.new hn hlp' hlp0 (fun b xs hb h => ?_) upd_same
        rw [upd_ne hb, upd_ne (ne_of h d2 (by intro z; cases z))]
        exact e3 _ _ h
    · rintro σ' H' ⟨y2, y3, y4, kvs, rfl, e2, d2, kl, g⟩
      have lu : us.length = rows.length := by rw [hT.len, List.length_map]
      rw [lu, List.take_length] at g
      rw [lu] at kl
      walk_at "g"
      refine grp_tupT rfl (fun _ => rfl) (fun _ => rfl) (fun _ => rfl) d2 g (by omega) fun p H2 hp e3 k2 => ?_
      exact q p H2 (fresh_back e2 hp) (e2.trans e3) k2
/-- at each state: tuples of its pairs -/
def pairsF (rows : List StepD) (k : Key) : List StepD := rows.filter fun s => decide (Sum.inl s.1 = k)
def PairsAt (H : Hp) (d : Addr) (rows : List StepD) : Prop := ∃ (kvs : List (Key × V)) (G : Key → List V), H d = some (.dK kvs) ∧ GrpT H kvs G ∧ ∀ k, Tups H (G k) ((pairsF rows k).map pairD)
theorem pairsF_snoc (rows : List StepD) (s : StepD) (k : Key) : pairsF (rows ++ [s]) k = if k = .inl s.1 then pairsF rows (.inl s.1) ++ [s] else pairsF rows k := by
  unfold pairsF
  rw [List.filter_append]
  by_cases h : k = .inl s.1
  · rw [if_pos h, h, List.filter_cons, if_pos (decide_eq_true rfl)]
    rfl
  · rw [if_neg h, List.filter_cons, if_neg (by rw [decide_eq_false (fun q => h q.symm)]; decide)]
    simp
def sp_pairs (K : PySem.W.Frag) : Sp := fun vs H Q _ => ∃ (a : Addr) (us : List V) (rows : List StepD), vs = [.ref a] ∧ SqT K H a us ∧ Tups H us (rows.map stepV) ∧ rows.length ≤ 1000 ∧
  ∀ p H', H p = none → Ex H H' → PairsAt H' p rows → Q (.ref p) H'
theorem ok_pairs (T : Tp K mg) : FnOk P w K mg base CX0 1 T.a_pairs_by_state T.d_pairs_by_state ["steps"] (sp_pairs K) := by
  refine T.f_pairs_by_state.ok sc_pairs_by_state (fun vs H Q E h => ?_) (fun cdv A outer s H vs Q E hr h => ?_)
  · obtain ⟨a, us, rows, rfl, _⟩ := h
    rfl
  · obtain ⟨a, us, rows, rfl, hS, hT, hl, q⟩ := h
    have hu := hu_of hr
    refine ⟨_, (pss_cons (ps_set (i := 1) sc_pairs_by_state.nd rfl (.inr rfl) pe_dnewK)
  (pss_cons (ps_for PassesOwn.never rfl (pi_tup (pv 0)) (pg_tup (by rfl) (pgs_cons (pg_name (i := 2) sc_pairs_by_state.nd rfl (.inl rfl)) (pgs_cons (pg_name (i := 3) sc_pairs_by_state.nd rfl (.inl rfl)) (pgs_cons (pg_name (i := 4) sc_pairs_by_state.nd rfl (.inl rfl)) pgs_nil))))
  (pss_one (ps_expr (pe_bm PySem.F.plainAttrs_list PySem.F.slot_list_append PySem.F.type_list_append mt_append (pe_dsetd (pv 1) (pv 2) (pe_lst pa_nil) ⟨rfl, rfl, rfl, rfl⟩) (pa_cons (pe_tup (pa_cons (pv 3) (pa_cons (pv 4) pa_nil))) pa_nil)))))
  (pss_one (ps_ret (pe_lock (pe_dc (own := [("state", 2)]) (g := gName 2) (tt := tYes) rfl sc_pairs_by_state.nd (pi_keys (pv 1)) (blkOk_by (N := N_pairs_by_state) (sc := defScope s_pairs_by_state) (by decide +kernel)) (fun _ _ _ _ _ => (pg_name (i := 2) sc_pairs_by_state.nd rfl (.inl rfl))) (fun _ _ _ _ _ => pts_nil) (fun _ _ _ _ _ => (pv 2)) (fun _ _ _ _ _ => (pe_callTy (c_tupleK (K := K)) (by rfl) T.n_tuple (by rfl) (pa_cons (pe_dget hu (pv 1) (pv 2) (fun _ _ => rfl)) pa_nil))))))))), ?_⟩
    walk_at "g"
    intro d hd
    have e1 : Ex H (upd H d (.dK [])) := Ex.new hd
    have d1 : (upd H d (.dK [])) d = some (.dK []) := upd_same
    generalize (upd H d (.dK [])) = H1 at e1 d1
    walk_at "g"
    refine for_t rfl (ex_t e1 hS) (fun j σ' H' => ∃ y2 y3 y4 kvs G, σ' = [some (.ref a), some (.ref d), y2, y3, y4] ∧ Ex H H' ∧ H' d = some (.dK kvs) ∧ kvs.length ≤ j ∧ Grp H H' kvs G ∧ ∀ k, Tups H' (G k) ((pairsF (rows.take j) k).map pairD))
      ⟨_, _, _, _, fun _ => [], rfl, e1, d1, Nat.le_refl _, Grp.nil fun _ => rfl, fun _ => .nil⟩ (fun j σ' H' _ ⟨_, _, _, _, _, _, e, _⟩ => ex_t e hS) ?_ ?_
    · rintro j x σ' H' hx ⟨y2, y3, y4, kvs, G, rfl, e2, d2, kl, g, tps⟩
      obtain ⟨z, hz, p, rfl, hp⟩ := hT.get hx
      rw [List.getElem?_map] at hz
      obtain ⟨st, hst, rfl⟩ := Option.map_eq_some_iff.mp hz
      have hj : j < rows.length := (List.getElem?_eq_some_iff.mp hst).1
      have tk : rows.take (j + 1) = rows.take j ++ [st] := by
        rw [List.take_add_one, hst]
        rfl
      have glen : ∀ k, (G k).length ≤ 1000 := fun k => by
        rw [(tps k).len, List.length_map]
        unfold pairsF
        have := List.length_filter_le (fun s : StepD => decide (Sum.inl s.1 = k)) (rows.take j)
        rw [List.length_take] at this
        omega
      refine ⟨p, stepV st, rfl, .inl (.inl (e2 _ _ hp)), rfl, _, _, rfl, _, _, rfl, _, _, rfl, rfl, ?_⟩
      walk_at "g"
      refine ⟨_, rfl, d, rfl, .inl ⟨kvs, .inl d2⟩, ?_⟩
      walk_at "g"
      refine ⟨sz_of (by show 0 ≤ 100000; decide), fun lp hlp => ?_⟩
      have dl : d ≠ lp := ne_of_none d2 hlp
      have e3 : Ex H' (upd H' lp (.lst [])) := Ex.new hlp
      have new : ∀ {H5 : Hp} {G' : List V} {tp : Addr}, Tx H' H5 → H5 tp = some (.tup (pairD st)) → G' = G (.inl st.1) → ∀ k', Tups H5 (if k' = .inl st.1 then G' ++ [.ref tp] else G k') ((pairsF (rows.take (j + 1)) k').map pairD) := fun {H5 G' tp} t5 h5 eg k' => by
        rw [tk, pairsF_snoc]
        by_cases zz : k' = .inl st.1
        · rw [if_pos zz, if_pos zz, List.map_append, eg]
          exact ((tps _).tx t5).snoc ⟨tp, rfl, h5⟩
        · rw [if_neg zz, if_neg zz]
          exact (tps k').tx t5
      refine ⟨kvs, .inl st.1, e3 _ _ d2, rfl, sz_lt (by omega), fun v hv => ?_, fun hn => ?_⟩
      · obtain ⟨l, rfl, h2, h3, h4⟩ := g.val _ _ hv
        have ld : l ≠ d := ne_of h2 d2 (by intro z; cases z)
        refine ⟨.inl ⟨rfl, _, .inl (.inl (e3 _ _ h2))⟩, ?_⟩
        walk_at "g"
        refine ⟨sz_of (by show 2 ≤ 100000; decide), fun tp htp => ?_⟩
        have e4 : Ex H' (upd (upd H' lp (.lst [])) tp (.tup (pairD st))) := e3.trans (Ex.new htp)
        have ltp : l ≠ tp := ne_of_none (e3 _ _ h2) htp
        walk_at "g"
        refine app_l (e4 _ _ h2) (sz_lt (by have := glen (.inl st.1); omega)) ?_
        walk_at "g"
        refine ⟨_, _, _, kvs, _, rfl, ex_upd (e2.trans e4) h3, by rw [upd_ne ld.symm]; exact e4 _ _ d2, by omega, g.more (x := .ref tp) hv (fun b xs hb h => by rw [upd_ne hb]; exact e4 _ _ h) upd_same, ?_⟩
        exact new ((tx_ex e4).trans (tx_lst (e4 _ _ h2))) (by rw [upd_ne ltp.symm, upd_same]; rfl) rfl
      · have hl4 : (upd (upd H' lp (.lst [])) d (.dK (putK kvs (.inl st.1) (.ref lp)))) lp = some (.lst []) := by rw [upd_ne dl.symm, upd_same]
        have hd4 : (upd (upd H' lp (.lst [])) d (.dK (putK kvs (.inl st.1) (.ref lp)))) d = some (.dK (putK kvs (.inl st.1) (.ref lp))) := upd_same
        refine ⟨.inl ⟨rfl, _, .inl (.inl hl4)⟩, ?_⟩
        walk_at "g"
        refine ⟨sz_of (by show 2 ≤ 100000; decide), fun tp htp => ?_⟩
        have hlp0 : H lp = none := fresh_back e2 hlp
        have ltp : lp ≠ tp := ne_of_none hl4 htp
        have dtp : d ≠ tp := ne_of_none hd4 htp
        walk_at "g"
        refine app_l (Ex.new htp _ _ hl4) (sz_lt (by decide)) ?_
        walk_at "g"
        have gk : G (.inl st.1) = [] := by
          by_cases zz : G (.inl st.1) = []
          · exact zz
          · have := g.has _ zz
            rw [hn] at this
            cases this
        refine ⟨_, _, _, _, _, rfl, ex_upd ((ex_upd (e2.trans e3) hd).trans (Ex.new htp)) hlp0, by rw [upd_ne dl]; exact Ex.new htp _ _ hd4, Nat.le_trans (len_put _ _ _) (by omega), g.new (x := .ref tp) hn hlp hlp0 (fun b xs hb h => ?_) upd_same, ?_⟩
        · rw [upd_ne hb]
          refine Ex.new htp _ _ ?_
          rw [upd_ne (ne_of h d2 (by intro z; cases z))]
          exact e3 _ _ h
        · exact new (((tx_ex e3).trans (tx_dk (e3 _ _ d2))).trans ((tx_ex (Ex.new htp)).trans (tx_lst (Ex.new htp _ _ hl4)))) (by rw [upd_ne ltp.symm, upd_same]; rfl) rfl
    · rintro σ' H' ⟨y2, y3, y4, kvs, G, rfl, e2, d2, kl, g, tps⟩
      have lu : us.length = rows.length := by rw [hT.len, List.length_map]
      rw [lu, List.take_length] at tps
      rw [lu] at kl
      walk_at "g"
      refine grp_tupK trivial rfl (fun _ => rfl) (fun _ => rfl) (fun _ => rfl) d2 g (by omega) fun p H2 hp e3 ⟨k2, h2, h3⟩ => ?_
      exact q p H2 (fresh_back e2 hp) (e2.trans e3) ⟨k2, G, h2, h3, fun k => (tps k).tx (tx_ex e3)⟩
end
end K14

set_option Elab.async false
set_option linter.all false
set_option maxRecDepth 100000
namespace K14
open PySem PySem.Spec PyProof.Rows L2 Evl AE
local macro_rules | `(tactic| walk_at "c") => `(tactic| first | exact ⟨by decide, by decide⟩ | exact .inr ⟨by decide, by decide⟩ | exact .inl ⟨by decide, by decide⟩ | exact ⟨by decide, by decide, by decide⟩ | (show (0 : Int) < _; decide))
local macro_rules | `(tactic| walk_at "s") => `(tactic| first
  | (with_reducible refine r_var rfl ?_) | (with_reducible refine r_c ?_) | (with_reducible refine r_op ?_) | (with_reducible refine r_un ?_) | (with_reducible refine r_I0 ?_) | (with_reducible refine r_U ?_)
  | (with_reducible refine r_eq rfl ?_) | (with_reducible refine r_ne rfl ?_) | (with_reducible refine r_chain ?_) | (with_reducible refine r_test ?_) | (with_reducible refine r_tB ?_)
  | (with_reducible refine r_bl ?_) | (with_reducible refine r_and ?_) | (with_reducible refine r_or ?_) | (with_reducible refine r_not ?_) | (with_reducible refine r_nil ?_) | (with_reducible refine r_cons ?_)
  | (with_reducible refine r_tup ?_) | (with_reducible refine r_lst ?_) | (with_reducible refine r_cb ?_) | (with_reducible refine r_call ?_) | (with_reducible refine r_seq ?_) | (with_reducible refine r_set ?_)
  | (with_reducible refine r_drop ?_) | (with_reducible refine r_ret ?_) | (with_reducible refine r_next ?_) | (with_reducible refine r_if ?_) | (with_reducible refine r_sl ?_) | (with_reducible refine r_nop ?_) | (with_reducible refine r_prt ?_) | (with_reducible refine r_some ?_)
  | (with_reducible refine add_int ?_) | (with_reducible refine int_i ?_) | (with_reducible refine r_forR1 ?_) | (with_reducible refine r_forL ?_) | (with_reducible refine r_andV ?_) | (with_reducible refine r_orV ?_) | (with_reducible refine r_notV ?_) | (with_reducible refine r_ifE ?_) | (with_reducible refine r_lcL ?_) | (with_reducible refine r_fld ?_) | (with_reducible refine r_get ?_) | (with_reducible refine r_din ?_) | (with_reducible refine r_dget2 ?_) | ((with_reducible refine r_I ?_ ?_); (walk_at "c")))
local macro_rules | `(tactic| walk_at "g") => `(tactic| repeat walk_at "s")
section
variable {P : Program} {w : World} {K : PySem.W.Frag} {mg : Str → Option Value} {base : Heap}
theorem Ch.trans {x : Addr} {H H1 H2 : Hp} (a : Ch x H H1) (b : Ch x H1 H2) : Ch x H H2 := fun c o n h => b c o n (a c o n h)
theorem ch_ex {x : Addr} {H H1 : Hp} (e : Ex H H1) : Ch x H H1 := fun c o _ h => e c o h
theorem tx_ins {H H' : Hp} {x C dx : Addr} {fs : List (Str × V)} (hx : H x = some (.ins C dx fs)) (c : Ch x H H') : Tx H H' := fun a xs h => c a _ (fun z => by subst z; rw [hx] at h; cases h) h
structure Mach where
  size : Int
  marks : List Int
  rows : List StepD
  now : Int
def marksF (n : Int) (ms : List Int) : List Int := ((List.range n.toNat).map fun (k : Nat) => (k : Int)).filter fun k => decide (k ∈ ms)
def MachAt (H : Hp) (x C : Addr) (m : Mach) : Prop := ∃ (dx pm ps de dp : Addr) (us : List V), H x = some (.ins C dx [("size", .int m.size), ("marks", .ref pm), ("steps", .ref ps), ("now", .int m.now), ("_ends", .ref de), ("_pairs", .ref dp)]) ∧
    H pm = some (.tup (m.marks.map V.int)) ∧ H ps = some (.tup us) ∧ Tups H us (m.rows.map stepV) ∧ EndsAt H de m.rows ∧ PairsAt H dp m.rows
theorem EndsAt.ch {H H' : Hp} {x C dx d : Addr} {fs : List (Str × V)} {rows : List StepD} (hx : H x = some (.ins C dx fs)) (c : Ch x H H') (h : EndsAt H d rows) : EndsAt H' d rows := by
  obtain ⟨kvs, h1, h2⟩ := h
  exact ⟨kvs, c _ _ (ne_of h1 hx (by intro z; cases z)) h1, h2.tx (tx_ins hx c)⟩
theorem PairsAt.ch {H H' : Hp} {x C dx d : Addr} {fs : List (Str × V)} {rows : List StepD} (hx : H x = some (.ins C dx fs)) (c : Ch x H H') (h : PairsAt H d rows) : PairsAt H' d rows := by
  obtain ⟨kvs, G, h1, h2, h3⟩ := h
  exact ⟨kvs, G, c _ _ (ne_of h1 hx (by intro z; cases z)) h1, h2.tx (tx_ins hx c), fun k => (h3 k).tx (tx_ins hx c)⟩
theorem EndsAt.ex {H H' : Hp} {d : Addr} {rows : List StepD} (e : Ex H H') (h : EndsAt H d rows) : EndsAt H' d rows := by
  obtain ⟨kvs, h1, h2⟩ := h
  exact ⟨kvs, e _ _ h1, h2.tx (tx_ex e)⟩
theorem PairsAt.ex {H H' : Hp} {d : Addr} {rows : List StepD} (e : Ex H H') (h : PairsAt H d rows) : PairsAt H' d rows := by
  obtain ⟨kvs, G, h1, h2, h3⟩ := h
  exact ⟨kvs, G, e _ _ h1, h2.tx (tx_ex e), fun k => (h3 k).tx (tx_ex e)⟩
theorem MachAt.ex {H H' : Hp} {x C : Addr} {m : Mach} (e : Ex H H') (h : MachAt H x C m) : MachAt H' x C m := by
  obtain ⟨dx, pm, ps, de, dp, us, h1, h2, h3, h4, h5, h6⟩ := h
  exact ⟨dx, pm, ps, de, dp, us, e _ _ h1, e _ _ h2, e _ _ h3, h4.tx (tx_ex e), h5.ex e, h6.ex e⟩
/-- a machine as it is made from its parts -/
structure Made (n : Int) (ms : List Int) (ss : List StepD) (now : Int) (m : Mach) : Prop where
  size : m.size = n
  marks : m.marks = marksF n ms
  up : m.rows.Pairwise ltS
  mem : ∀ s, s ∈ m.rows ↔ s ∈ ss
  len : m.rows.length ≤ ss.length
  now : m.now = now
def sp_init (K : PySem.W.Frag) : Sp := fun vs H Q _ => ∃ (x C dx am as : Addr) (n now : Int) (ms : List Int) (us : List V) (ss : List StepD), vs = [.ref x, .int n, .ref am, .ref as, .int now] ∧ H x = some (.ins C dx []) ∧ MCls K C ∧ 1 ≤ n ∧ n ≤ 200 ∧
  SqA K H am (ms.map V.int) ∧ (∀ m ∈ ms, 0 ≤ m ∧ m < n) ∧ ms.length ≤ 1000 ∧ SqA K H as us ∧ Tups H us (ss.map stepV) ∧ (∀ s ∈ ss, OkS n s) ∧ ss.length ≤ 600 ∧ 0 ≤ now ∧ now < n ∧
  ∀ m H', Made n ms ss now m → MachAt H' x C m → Ch x H H' → Q .non H'
theorem ok_init (T : Tp K mg) : FnOk P w K mg base CX0 3 T.a_Machine___init__ T.d_Machine___init__ ["self", "size", "marks", "steps", "now"] (sp_init K) := by
  have G_check_size : FnOk P w K mg base CX0 1 T.a_check_size T.d_check_size ["size"] sp_size := ok_size T
  have G_check_marks : FnOk P w K mg base CX0 1 T.a_check_marks T.d_check_marks ["size", "marks"] (sp_marks K) := ok_marks T
  have G_check_steps : FnOk P w K mg base CX0 2 T.a_check_steps T.d_check_steps ["size", "steps"] (sp_steps K) := ok_steps T
  have G_ascending : FnOk P w K mg base CX0 1 T.a_ascending T.d_ascending ["steps"] (sp_asc K) := ok_asc T
  have G_ends_by_ask : FnOk P w K mg base CX0 1 T.a_ends_by_ask T.d_ends_by_ask ["steps"] (sp_ends K) := ok_ends T
  have G_pairs_by_state : FnOk P w K mg base CX0 1 T.a_pairs_by_state T.d_pairs_by_state ["steps"] (sp_pairs K) := ok_pairs T
  refine T.f_Machine___init__.ok sc_Machine___init__ (fun vs H Q E h => ?_) (fun cdv A outer s H vs Q E hr h => ?_)
  · obtain ⟨x, C, dx, am, as, n, now, ms, us, ss, rfl, _⟩ := h
    rfl
  · obtain ⟨x, C, dx, am, as, n, now, ms, us, ss, rfl, hx, mc, n1, n2, hM, hMok, hMl, hS, hT, hok, hSl, w0, w1, q⟩ := h
    have hu := hu_of hr
    refine ⟨_, (pss_cons (ps_expr (pe_call G_check_size (hr.mono (by decide)) (by rfl) T.g_check_size T.f_check_size.kp T.b_check_size .nil pass0 (pa_cons (pv 1) pa_nil)))
  (pss_cons (ps_expr (pe_call G_check_marks (hr.mono (by decide)) (by rfl) T.g_check_marks T.f_check_marks.kp T.b_check_marks .nil pass0 (pa_cons (pv 1) (pa_cons (pv 2) pa_nil))))
  (pss_cons (ps_expr (pe_call G_check_steps (hr.mono (by decide)) (by rfl) T.g_check_steps T.f_check_steps.kp T.b_check_steps .nil pass0 (pa_cons (pv 1) (pa_cons (pv 3) pa_nil))))
  (pss_cons (ps_set (i := 5) sc_Machine___init__.nd rfl (.inl rfl) (pe_call G_ascending (hr.mono (by decide)) (by rfl) T.g_ascending T.f_ascending.kp T.b_ascending .nil pass0 (pa_cons (pv 3) pa_nil)))
  (pss_cons (ps_if (pt_cmpR op_gt (pe_callB c_len (by rfl) T.n_len (by rfl) (pa_cons (pv 5) pa_nil)) (pe_gi rfl T.k_MOST_STEPS) (nomark _)) (pss_one ps_never) pss_nil)
  (pss_cons (ps_if (pt_not (pt_chain op_le op_lt pe_int (pv 4) (pv 1))) (pss_one ps_never) pss_nil)
  (pss_cons (ps_set (i := 6) sc_Machine___init__.nd rfl (.inr rfl) (pe_dc (own := [("mark", 7)]) (g := gName 7) (tt := tYes) rfl sc_Machine___init__.nd (pi_seq (pv 2)) (blkOk_by (N := N_Machine___init__) (sc := defScope s_Machine___init__) (by decide +kernel)) (fun _ _ _ _ _ => (pg_name (i := 7) sc_Machine___init__.nd rfl (.inl rfl))) (fun _ _ _ _ _ => pts_nil) (fun _ _ _ _ _ => (pv 7)) (fun _ _ _ _ _ => pe_bl)))
  (pss_cons (ps_fld (pv 0) (pv 1) rfl)
  (pss_cons (ps_fld (pv 0) (pe_callTy c_tuple (by rfl) T.n_tuple (by rfl) (pa_cons (pe_lc (own := [("state", 8)]) (g := gName 8) rfl sc_Machine___init__.nd (pi_range1 rfl T.n_range (pa_cons (pv 1) pa_nil)) (blkOk_by (N := N_Machine___init__) (sc := defScope s_Machine___init__) (by decide +kernel)) (fun _ _ _ _ _ => (pg_name (i := 8) sc_Machine___init__.nd rfl (.inl rfl))) (fun _ _ _ _ _ => (pts_one (pt_cmp (pc_din hu (pv 8) (pv 6))))) (fun _ _ _ _ _ => (pv 8))) pa_nil)) rfl)
  (pss_cons (ps_fld (pv 0) (pv 5) rfl)
  (pss_cons (ps_fld (pv 0) (pv 4) rfl)
  (pss_cons (ps_fld (pv 0) (pe_call G_ends_by_ask (hr.mono (by decide)) (by rfl) T.g_ends_by_ask T.f_ends_by_ask.kp T.b_ends_by_ask .nil pass0 (pa_cons (pv 5) pa_nil)) rfl)
  (pss_one (ps_fld (pv 0) (pe_call G_pairs_by_state (hr.mono (by decide)) (by rfl) T.g_pairs_by_state T.f_pairs_by_state.kp T.b_pairs_by_state .nil pass0 (pa_cons (pv 5) pa_nil)) rfl)))))))))))))), ?_⟩
    walk_at "g"
    refine ⟨n, rfl, n1, n2, ?_⟩
    walk_at "g"
    refine ⟨n, am, ms, rfl, hM, hMok, ?_⟩
    walk_at "g"
    refine ⟨n, as, us, ss, rfl, hS, hT, hok, fun H1 e1 => ?_⟩
    walk_at "g"
    refine ⟨n, as, us, ss, rfl, hS.ex e1, hT.tx (tx_ex e1), n2, hok, by omega, fun rows ws pr H2 r1 r2 r3 hpr e2 hr2 tr => ?_⟩
    walk_at "g"
    have wl : ws.length = rows.length := by rw [tr.len, List.length_map]
    have e12 := e1.trans e2
    refine len_t (.inl (.inl hr2)) ?_
    walk_at "g"
    refine ite_f (decide_eq_false (by rw [wl]; omega)) ?_
    walk_at "g"
    refine ite_t (decide_eq_true (by omega)) ?_
    walk_at "g"
    refine ite_f (by rw [decide_eq_true w1]; rfl) ?_
    walk_at "g"
    -- marked = {mark: True for mark in marks}
    refine dc_seq rfl (hM.ex e12) (fun D j H3 => Ex H2 H3 ∧ H2 D = none ∧ ∃ kvs, H3 D = some (.dK kvs) ∧ kvs.length ≤ j ∧ ∀ k, (valV kvs k).isSome = true ↔ k ∈ (ms.take j).map Sum.inl)
      (fun D hD => ⟨Ex.new hD, hD, [], upd_same, Nat.le_refl _, fun k => ⟨fun h => (by cases h), fun h => (by cases h)⟩⟩) (fun D j H3 p => p.1) ?_ ?_
    · rintro D j y H3 hy ⟨e3, hD, kvs, h3, kl, ks⟩
      rw [List.getElem?_map] at hy
      obtain ⟨m, hm, rfl⟩ := Option.map_eq_some_iff.mp hy
      have hj : j < ms.length := (List.getElem?_eq_some_iff.mp hm).1
      refine ⟨rfl, yes_q (ite_t rfl ?_)⟩
      walk_at "g"
      refine ⟨kvs, .inl m, rfl, h3, sz_lt (by omega), ex_upd e3 hD, hD, _, upd_same, Nat.le_trans (len_put _ _ _) (by omega), fun k => ?_⟩
      rw [valV_put, List.take_add_one, hm, List.map_append]
      by_cases z : k = .inl m
      · rw [if_pos z, z]
        exact ⟨fun _ => List.mem_append_right _ (List.mem_singleton.mpr rfl), fun _ => rfl⟩
      · rw [if_neg z, ks k]
        exact ⟨fun h => List.mem_append_left _ h, fun h => (List.mem_append.mp h).elim id fun h => absurd (List.mem_singleton.mp h) z⟩
    · rintro D H3 ⟨e3, hD, kvs, h3, kl, ks⟩
      rw [List.length_map, List.take_length] at ks
      have e13 := e12.trans e3
      walk_at "g"
      -- self.size
      refine stf_go (e13 _ _ hx) mc.cl mc.n1 (by show 0 < 1000; decide) fun H4 c4 (x4 : H4 x = some (.ins C dx [("size", .int n)])) => ?_
      have D4 : H4 D = some (.dK kvs) := c4 _ _ (ne_of h3 (e13 _ _ hx) (by intro z; cases z)) h3
      walk_at "g"
      -- self.marks
      refine lc_r (n := n) (fun y => match y with | .int k => decide (k ∈ ms) | _ => false) (fun y => y) (fun R k => ⟨_, rfl, k⟩) ⟨by omega, by omega⟩ (fun _ => rfl) ?_ ?_ fun L5 H5 hL5 e5 l5 => ?_
      · intro y hy H5 e5 R k
        unfold intsV at hy
        obtain ⟨i, hi, rfl⟩ := List.mem_map.mp hy
        walk_at "g"
        refine ⟨D, _, rfl, DGet.k (k := Sum.inl (i : Int)) (e5 _ _ D4), _, rfl, ?_⟩
        have ee : (valV kvs (Sum.inl (i : Int))).isSome = decide ((i : Int) ∈ ms) := by
          rw [Bool.eq_iff_iff, ks, decide_eq_true_iff]
          constructor
          · intro h
            obtain ⟨z, hz, e⟩ := List.mem_map.mp h
            cases e
            exact hz
          · intro h
            exact List.mem_map.mpr ⟨_, h, rfl⟩
        rw [ee]
        exact k H5 (Ex.refl _)
      · intro y hy _ H5 e5 R k
        walk_at "g"
        exact k H5 (Ex.refl _)
      · walk_at "g"
        refine tup_l (.inl (.inl l5)) fun pm H6 hpm e6 t6 => ?_
        have e46 := e5.trans e6
        walk_at "g"
        refine stf_go (e46 _ _ x4) mc.cl mc.n2 (by show 1 < 1000; decide) fun H7 c7 (x7 : H7 x = some (.ins C dx [("size", .int n), ("marks", .ref pm)])) => ?_
        walk_at "g"
        refine stf_go x7 mc.cl mc.n3 (by show 2 < 1000; decide) fun H8 c8 (x8 : H8 x = some (.ins C dx [("size", .int n), ("marks", .ref pm), ("steps", .ref pr)])) => ?_
        walk_at "g"
        refine stf_go x8 mc.cl mc.n4 (by show 3 < 1000; decide) fun H9 c9 (x9 : H9 x = some (.ins C dx [("size", .int n), ("marks", .ref pm), ("steps", .ref pr), ("now", .int now)])) => ?_
        walk_at "g"
        have nx : ∀ {H' : Hp} {a : Addr} {ys : List V} {fs : List (Str × V)}, H' x = some (.ins C dx fs) → H' a = some (.tup ys) → a ≠ x := fun h1 h2 => ne_of h2 h1 (by intro z; cases z)
        have c69 : Ch x H6 H9 := Ch.trans c7 (Ch.trans c8 c9)
        have c29 : Ch x H2 H9 := Ch.trans (ch_ex e3) (Ch.trans c4 (Ch.trans (ch_ex e46) c69))
        have pr9 : H9 pr = some (.tup ws) := c29 _ _ (nx (e12 _ _ hx) hr2) hr2
        have tr9 : Tups H9 ws (rows.map stepV) := tr.tx (tx_ins (e12 _ _ hx) c29)
        refine ⟨pr, ws, rows, rfl, .inl (.inl pr9), tr9, by omega, fun de H10 hde e10 E10 => ?_⟩
        walk_at "g"
        refine stf_go (e10 _ _ x9) mc.cl mc.n5 (by show 4 < 1000; decide) fun H11 c11 (x11 : H11 x = some (.ins C dx [("size", .int n), ("marks", .ref pm), ("steps", .ref pr), ("now", .int now), ("_ends", .ref de)])) => ?_
        walk_at "g"
        have c911 : Ch x H9 H11 := Ch.trans (ch_ex e10) c11
        have pr11 : H11 pr = some (.tup ws) := c911 _ _ (nx x9 pr9) pr9
        have tr11 : Tups H11 ws (rows.map stepV) := tr9.tx (tx_ins x9 c911)
        refine ⟨pr, ws, rows, rfl, .inl (.inl pr11), tr11, by omega, fun dp H12 hdp e12' E12 => ?_⟩
        walk_at "g"
        refine stf_go (e12' _ _ x11) mc.cl mc.n6 (by show 5 < 1000; decide) fun H13 c13 (x13 : H13 x = some (.ins C dx [("size", .int n), ("marks", .ref pm), ("steps", .ref pr), ("now", .int now), ("_ends", .ref de), ("_pairs", .ref dp)])) => ?_
        have c1113 : Ch x H11 H13 := Ch.trans (ch_ex e12') c13
        have c613 : Ch x H6 H13 := Ch.trans c69 (Ch.trans c911 c1113)
        have t6' : H6 pm = some (.tup ((marksF n ms).map V.int)) := by
          rw [t6, List.map_id']
          unfold intsV marksF
          rw [List.filter_map, List.filter_map, List.map_map]
          rfl
        refine q ⟨n, marksF n ms, rows, now⟩ H13 ⟨rfl, rfl, r1, r2, r3, rfl⟩ ⟨dx, pm, pr, de, dp, ws, x13, ?_, ?_, ?_, ?_, ?_⟩ ?_
        · exact c613 _ _ (nx (e46 _ _ x4) t6') t6'
        · exact c1113 _ _ (nx x11 pr11) pr11
        · exact tr11.tx (tx_ins x11 c1113)
        · exact (E10.ch (e10 _ _ x9) c11).ch x11 c1113
        · exact E12.ch (e12' _ _ x11) c13
        · exact Ch.trans (ch_ex e12) (Ch.trans c29 (Ch.trans c911 c1113))
end
end K14

set_option Elab.async false
set_option linter.all false
set_option maxRecDepth 100000
namespace K14
open PySem PySem.Spec PyProof.Rows L2 Evl AE
local macro_rules | `(tactic| walk_at "c") => `(tactic| first | exact ⟨by decide, by decide⟩ | exact .inr ⟨by decide, by decide⟩ | exact .inl ⟨by decide, by decide⟩ | exact ⟨by decide, by decide, by decide⟩ | (show (0 : Int) < _; decide))
local macro_rules | `(tactic| walk_at "s") => `(tactic| first
  | (with_reducible refine r_var rfl ?_) | (with_reducible refine r_c ?_) | (with_reducible refine r_op ?_) | (with_reducible refine r_un ?_) | (with_reducible refine r_I0 ?_) | (with_reducible refine r_U ?_)
  | (with_reducible refine r_eq rfl ?_) | (with_reducible refine r_ne rfl ?_) | (with_reducible refine r_chain ?_) | (with_reducible refine r_test ?_) | (with_reducible refine r_tB ?_)
  | (with_reducible refine r_bl ?_) | (with_reducible refine r_and ?_) | (with_reducible refine r_or ?_) | (with_reducible refine r_not ?_) | (with_reducible refine r_nil ?_) | (with_reducible refine r_cons ?_)
  | (with_reducible refine r_tup ?_) | (with_reducible refine r_lst ?_) | (with_reducible refine r_cb ?_) | (with_reducible refine r_call ?_) | (with_reducible refine r_seq ?_) | (with_reducible refine r_set ?_)
  | (with_reducible refine r_drop ?_) | (with_reducible refine r_ret ?_) | (with_reducible refine r_next ?_) | (with_reducible refine r_if ?_) | (with_reducible refine r_sl ?_) | (with_reducible refine r_nop ?_) | (with_reducible refine r_prt ?_) | (with_reducible refine r_some ?_)
  | (with_reducible refine add_int ?_) | (with_reducible refine int_i ?_) | (with_reducible refine r_forR1 ?_) | (with_reducible refine r_forL ?_) | (with_reducible refine r_andV ?_) | (with_reducible refine r_orV ?_) | (with_reducible refine r_notV ?_) | (with_reducible refine r_ifE ?_) | (with_reducible refine r_lcL ?_) | (with_reducible refine r_fld ?_) | (with_reducible refine r_get ?_) | (with_reducible refine r_din ?_) | (with_reducible refine r_dget2 ?_) | ((with_reducible refine r_I ?_ ?_); (walk_at "c")))
local macro_rules | `(tactic| walk_at "g") => `(tactic| repeat walk_at "s")
section
variable {P : Program} {w : World} {K : PySem.W.Frag} {mg : Str → Option Value} {base : Heap}
def KCls (T : Tp K mg) (C : Addr) : Prop := C = T.C_Service ∨ C = T.C_Pattern
theorem KCls.m {T : Tp K mg} {C : Addr} (h : KCls T C) : MCls K C := by
  rcases h with rfl | rfl
  · exact T.cf_Service
  · exact T.cf_Pattern
def sp_endsAt (K : PySem.W.Frag) : Sp := fun vs H Q _ => ∃ (x C : Addr) (m : Mach) (st : Int) (ask : Str), vs = [.ref x, .int st, .str ask] ∧ MCls K C ∧ MachAt H x C m ∧
  ∀ p H', Ex H H' → H' p = some (.tup (endsF m.rows [.inl st, .inr ask])) → Q (.ref p) H'
theorem ok_endsAt (T : Tp K mg) : FnOk P w K mg base CX0 1 T.a_Machine_ends_at T.d_Machine_ends_at ["self", "state", "ask"] (sp_endsAt K) := by
  refine T.f_Machine_ends_at.ok sc_Machine_ends_at (fun vs H Q E h => ?_) (fun cdv A outer s H vs Q E hr h => ?_)
  · obtain ⟨x, C, m, st, ask, rfl, _⟩ := h
    rfl
  · obtain ⟨x, C, m, st, ask, rfl, mc, hm, q⟩ := h
    have hu := hu_of hr
    refine ⟨_, (pss_one (ps_ret (pe_dget2 hu (pe_fld (pv 0) rfl) (pe_tup (pa_cons (pv 1) (pa_cons (pv 2) pa_nil))) (pe_tup pa_nil) ⟨rfl, rfl, rfl, rfl⟩))), ?_⟩
    obtain ⟨dx, pm, ps, de, dp, us, h1, h2, h3, h4, ⟨kvs, h5, g⟩, h6⟩ := hm
    walk_at "g"
    refine gtf_go h1 mc.cl mc.n5 (v := .ref de) rfl ?_
    refine ⟨de, rfl, .inr ⟨kvs, .inl h5⟩, ?_⟩
    walk_at "g"
    refine ⟨sz_of (by show 2 ≤ 100000; decide), fun kp hkp => ?_⟩
    walk_at "g"
    refine ⟨sz_of (by show 0 ≤ 100000; decide), fun ep hep => ?_⟩
    have e1 : Ex H (upd (upd H kp (.tup [.int st, .str ask])) ep (.tup [])) := (Ex.new hkp).trans (Ex.new hep)
    refine ⟨_, DGet.t (b := kp) (k := [.inl st, .inr ask]) (e1 _ _ h5) (Ex.new hep _ _ upd_same), ?_⟩
    by_cases z : endsF m.rows [.inl st, .inr ask] = []
    · rw [(g _).1 z]
      refine q ep _ e1 ?_
      rw [upd_same, z]
    · obtain ⟨p, a1, a2⟩ := (g _).2 z
      rw [a1]
      exact q p _ e1 (e1 _ _ a2)
def sp_getitem (T : Tp K mg) : Sp := fun vs H Q _ => ∃ (x C : Addr) (m : Mach) (ask : Str), vs = [.ref x, .str ask] ∧ KCls T C ∧ MachAt H x C m ∧
  ∀ p H', Ex H H' → H' p = some (.tup (endsF m.rows [.inl m.now, .inr ask])) → Q (.ref p) H'
theorem ok_getitem (T : Tp K mg) : FnOk P w K mg base CX0 2 T.a_Machine___getitem__ T.d_Machine___getitem__ ["self", "at"] (sp_getitem T) := by
  have G_ends_at : FnOk P w K mg base CX0 1 T.a_Machine_ends_at T.d_Machine_ends_at ["self", "state", "ask"] (sp_endsAt K) := ok_endsAt T
  refine T.f_Machine___getitem__.ok sc_Machine___getitem__ (fun vs H Q E h => ?_) (fun cdv A outer s H vs Q E hr h => ?_)
  · obtain ⟨x, C, m, ask, rfl, _⟩ := h
    rfl
  · obtain ⟨x, C, m, ask, rfl, kc, hm, q⟩ := h
    have hm' := hm
    obtain ⟨dx, pm, ps, de, dp, us, h1, h2, h3, h4, h5, h6⟩ := hm'
    have mc := kc.m
    rcases kc with rfl | rfl
    · refine ⟨_, (pss_one (ps_ret (pe_meth (pv 0) T.cf_Service.cl T.ea_Service G_ends_at (hr.mono (by decide)) T.b_Machine_ends_at .nil pass0 (pa_cons (pe_fld (pv 0) rfl) (pa_cons (pv 1) pa_nil))))), ?_⟩
      refine ⟨_, rfl, x, dx, _, rfl, h1, rfl, ?_⟩
      walk_at "g"
      refine gtf_go h1 mc.cl mc.n4 (v := .int m.now) rfl ?_
      walk_at "g"
      exact ⟨x, _, m, m.now, ask, rfl, mc, hm, q⟩
    · refine ⟨_, (pss_one (ps_ret (pe_meth (pv 0) T.cf_Pattern.cl T.ea_Pattern G_ends_at (hr.mono (by decide)) T.b_Machine_ends_at .nil pass0 (pa_cons (pe_fld (pv 0) rfl) (pa_cons (pv 1) pa_nil))))), ?_⟩
      refine ⟨_, rfl, x, dx, _, rfl, h1, rfl, ?_⟩
      walk_at "g"
      refine gtf_go h1 mc.cl mc.n4 (v := .int m.now) rfl ?_
      walk_at "g"
      exact ⟨x, _, m, m.now, ask, rfl, mc, hm, q⟩
theorem inV_int (k : Int) (ms : List Int) : inV (.int k) (ms.map V.int) = decide (k ∈ ms) := by
  unfold inV
  rw [List.any_map]
  rw [Bool.eq_iff_iff, List.any_eq_true, decide_eq_true_iff]
  constructor
  · rintro ⟨y, hy, e⟩
    have e' : (y == k) = true := e
    rw [← eq_of_beq e']
    exact hy
  · exact fun h => ⟨k, h, show (k == k) = true by simp⟩
theorem flat_ints (ms : List Int) : (ms.map V.int).all flatV = true := by
  rw [List.all_eq_true]
  intro y hy
  obtain ⟨k, _, rfl⟩ := List.mem_map.mp hy
  rfl
def sp_bool (K : PySem.W.Frag) : Sp := fun vs H Q _ => ∃ (x C : Addr) (m : Mach), vs = [.ref x] ∧ MCls K C ∧ MachAt H x C m ∧ Q (.bl (decide (m.now ∈ m.marks))) H
theorem ok_bool (T : Tp K mg) : FnOk P w K mg base CX0 1 T.a_Machine___bool__ T.d_Machine___bool__ ["self"] (sp_bool K) := by
  refine T.f_Machine___bool__.ok sc_Machine___bool__ (fun vs H Q E h => ?_) (fun cdv A outer s H vs Q E hr h => ?_)
  · obtain ⟨x, C, m, rfl, _⟩ := h
    rfl
  · obtain ⟨x, C, m, rfl, mc, hm, q⟩ := h
    refine ⟨_, (pss_one (ps_ret (pe_cmpR op_in_seq (pe_fld (pv 0) rfl) (pe_fld (pv 0) rfl) rfl))), ?_⟩
    obtain ⟨dx, pm, ps, de, dp, us, h1, h2, h3, h4, h5, h6⟩ := hm
    walk_at "g"
    refine gtf_go h1 mc.cl mc.n4 (v := .int m.now) rfl ?_
    walk_at "g"
    refine gtf_go h1 mc.cl mc.n2 (v := .ref pm) rfl ?_
    refine ⟨pm, m.marks.map V.int, rfl, .inr (.inl (.inl h2)), rfl, flat_ints _, ?_⟩
    rw [inV_int]
    exact q
end
end K14

set_option Elab.async false
set_option linter.all false
set_option maxRecDepth 100000
namespace K14
open PySem PySem.Spec PyProof.Rows L2 Evl AE
local macro_rules | `(tactic| walk_at "c") => `(tactic| first | exact ⟨by decide, by decide⟩ | exact .inr ⟨by decide, by decide⟩ | exact .inl ⟨by decide, by decide⟩ | exact ⟨by decide, by decide, by decide⟩ | (show (0 : Int) < _; decide))
local macro_rules | `(tactic| walk_at "s") => `(tactic| first
  | (with_reducible refine r_var rfl ?_) | (with_reducible refine r_c ?_) | (with_reducible refine r_op ?_) | (with_reducible refine r_un ?_) | (with_reducible refine r_I0 ?_) | (with_reducible refine r_U ?_)
  | (with_reducible refine r_eq rfl ?_) | (with_reducible refine r_ne rfl ?_) | (with_reducible refine r_chain ?_) | (with_reducible refine r_test ?_) | (with_reducible refine r_tB ?_)
  | (with_reducible refine r_bl ?_) | (with_reducible refine r_and ?_) | (with_reducible refine r_or ?_) | (with_reducible refine r_not ?_) | (with_reducible refine r_nil ?_) | (with_reducible refine r_cons ?_)
  | (with_reducible refine r_tup ?_) | (with_reducible refine r_lst ?_) | (with_reducible refine r_cb ?_) | (with_reducible refine r_call ?_) | (with_reducible refine r_seq ?_) | (with_reducible refine r_set ?_)
  | (with_reducible refine r_drop ?_) | (with_reducible refine r_ret ?_) | (with_reducible refine r_next ?_) | (with_reducible refine r_if ?_) | (with_reducible refine r_sl ?_) | (with_reducible refine r_nop ?_) | (with_reducible refine r_prt ?_) | (with_reducible refine r_some ?_)
  | (with_reducible refine add_int ?_) | (with_reducible refine int_i ?_) | (with_reducible refine r_forR1 ?_) | (with_reducible refine r_forL ?_) | (with_reducible refine r_andV ?_) | (with_reducible refine r_orV ?_) | (with_reducible refine r_notV ?_) | (with_reducible refine r_ifE ?_) | (with_reducible refine r_lcL ?_) | (with_reducible refine r_fld ?_) | (with_reducible refine r_get ?_) | (with_reducible refine r_din ?_) | (with_reducible refine r_dget2 ?_) | ((with_reducible refine r_I ?_ ?_); (walk_at "c")))
local macro_rules | `(tactic| walk_at "g") => `(tactic| repeat walk_at "s")
section
variable {P : Program} {w : World} {K : PySem.W.Frag} {mg : Str → Option Value} {base : Heap}
/-! ### asks -/
def letC (d : Int) : Nat := 97 + (d % 26).toNat
def wordL (row : List Int) : List Nat := (row.take 8).map letC
def ltrs : Str := "abcdefghijklmnopqrstuvwxyz"
theorem ltrs_at : ∀ i : Fin 26, ltrs.cps.toList[i.val]? = some (97 + i.val) := by decide +kernel
theorem ltrs_len : ltrs.length = 26 := by decide +kernel
theorem ltrs_ix (d : Int) : atI ltrs.cps.toList (d % 26) = some (letC d) := by
  have h1 : (d % 26).toNat < 26 := by omega
  have h0 : d % 26 = (((d % 26).toNat : Nat) : Int) := by omega
  rw [h0]
  exact atI_nat (ltrs_at ⟨_, h1⟩)
def letV : V → V
  | .int d => .str ⟨#[letC d]⟩
  | v => v
theorem let_map : ∀ l : List Int, ((l.map V.int).filter fun _ => true).map letV = ((l.map letC).map fun c => (⟨#[c]⟩ : Str)).map V.str := fun l => by
  rw [filter_yes, List.map_map, List.map_map, List.map_map]
  rfl
theorem sum_signs : ∀ l : List Nat, ((l.map fun c => (⟨#[c]⟩ : Str)).map fun x => x.length).sum = l.length
  | [] => rfl
  | c :: l => by
    rw [List.map_cons, List.map_cons, List.sum_cons, sum_signs l]
    show 1 + l.length = l.length + 1
    omega
/-- the i-th ask of a row -/
def askL (row : List Int) (i : Nat) : List Nat :=
  if row.getD 8 0 % 2 = 0 then (wordL row).take ((row.getD 9 0 + 3 * i) % 8 + 1).toNat
  else (wordL row).take (row.getD 10 0 % (row.getD 9 0 % 8 + 1)).toNat ++ [letC (row.getD 11 0 + (row.getD 12 0 % 6 * 2 + 1) * i)] ++
    ((wordL row).take (row.getD 9 0 % 8 + 1).toNat).drop ((row.getD 10 0 % (row.getD 9 0 % 8 + 1)).toNat + 1)
def asksF (row : List Int) (many : Nat) : List Str := (List.range many).map fun i => ⟨(askL row i).toArray⟩
def AskOk (x : Str) : Prop := 1 ≤ x.length ∧ x.length ≤ 8 ∧ ∀ c ∈ x.cps.toList, 97 ≤ c ∧ c ≤ 122
theorem letC_ok (d : Int) : 97 ≤ letC d ∧ letC d ≤ 122 := by unfold letC; omega
theorem word_ok (row : List Int) : ∀ c ∈ wordL row, 97 ≤ c ∧ c ≤ 122 := fun c hc => by
  obtain ⟨d, _, rfl⟩ := List.mem_map.mp hc
  exact letC_ok d
theorem word_len {row : List Int} (h : 13 ≤ row.length) : (wordL row).length = 8 := by
  unfold wordL
  rw [List.length_map, List.length_take]
  omega
theorem ask_ok {row : List Int} (h : 13 ≤ row.length) (i : Nat) : 1 ≤ (askL row i).length ∧ (askL row i).length ≤ 8 ∧ ∀ c ∈ askL row i, 97 ≤ c ∧ c ≤ 122 := by
  have wl := word_len h
  unfold askL
  by_cases z : row.getD 8 0 % 2 = 0
  · rw [if_pos z]
    refine ⟨by rw [List.length_take]; omega, by rw [List.length_take]; omega, fun c hc => word_ok row c (List.mem_of_mem_take hc)⟩
  · rw [if_neg z]
    have p0 : 0 ≤ row.getD 10 0 % (row.getD 9 0 % 8 + 1) := by
      have : row.getD 9 0 % 8 + 1 ≠ 0 := by omega
      exact Int.emod_nonneg _ this
    have p1 : row.getD 10 0 % (row.getD 9 0 % 8 + 1) < row.getD 9 0 % 8 + 1 := Int.emod_lt_of_pos _ (by omega)
    generalize row.getD 10 0 % (row.getD 9 0 % 8 + 1) = p at p0 p1
    refine ⟨by simp only [List.length_append, List.length_take, List.length_drop, List.length_cons, List.length_nil]; omega, by simp only [List.length_append, List.length_take, List.length_drop, List.length_cons, List.length_nil]; omega, fun c hc => ?_⟩
    rcases List.mem_append.mp hc with hc | hc
    · rcases List.mem_append.mp hc with hc | hc
      · exact word_ok row c (List.mem_of_mem_take hc)
      · rw [List.mem_singleton.mp hc]
        exact letC_ok _
    · exact word_ok row c (List.mem_of_mem_take (List.mem_of_mem_drop hc))
theorem asks_ok {row : List Int} (h : 13 ≤ row.length) (many : Nat) : ∀ x ∈ asksF row many, AskOk x := fun x hx => by
  obtain ⟨i, _, rfl⟩ := List.mem_map.mp hx
  obtain ⟨a, b, c⟩ := ask_ok h i
  exact ⟨by show 1 ≤ (askL row i).toArray.size; rw [List.size_toArray]; exact a, by show (askL row i).toArray.size ≤ 8; rw [List.size_toArray]; exact b, fun d hd => c d (by simpa using hd)⟩
theorem asks_len (row : List Int) (many : Nat) : (asksF row many).length = many := by
  unfold asksF
  rw [List.length_map, List.length_range]
theorem asks_snoc (row : List Int) (n : Nat) : (asksF row (n + 1)).map V.str = (asksF row n).map V.str ++ [.str ⟨(askL row n).toArray⟩] := by
  unfold asksF
  rw [List.range_succ, List.map_append, List.map_append]
  rfl
theorem cutS_toI (z : List Nat) {n : Int} (h : 0 ≤ n) : cutS ⟨z.toArray⟩ none (some n) = ⟨(z.take n.toNat).toArray⟩ := by
  have e : n = (n.toNat : Int) := by omega
  conv => lhs; rw [e]
  exact cutS_to _ _
theorem cutS_midI (z : List Nat) {a b : Int} (h : 0 ≤ a) (h2 : 0 ≤ b) : cutS ⟨z.toArray⟩ (some a) (some b) = ⟨((z.take b.toNat).drop a.toNat).toArray⟩ := by
  have e : a = (a.toNat : Int) := by omega
  have e2 : b = (b.toNat : Int) := by omega
  conv => lhs; rw [e, e2]
  exact cutS_mid _ _ _
theorem app_codes (a b : List Nat) : (⟨a.toArray⟩ : Str) ++ (⟨b.toArray⟩ : Str) = ⟨(a ++ b).toArray⟩ := by
  refine Str.ext' ?_
  rw [Str.cps_append]
  simp
def sp_asks (K : PySem.W.Frag) : Sp := fun vs H Q _ => ∃ (a : Addr) (row : List Int) (many : Int), vs = [.ref a, .int many] ∧ SqL K H a (row.map V.int) ∧ row.length = 13 ∧ (∀ x ∈ row, 0 ≤ x ∧ x < 64) ∧ 0 ≤ many ∧ many ≤ 8 ∧
  ∀ p H', H p = none → Ex H H' → H' p = some (.lst ((asksF row many.toNat).map V.str)) → Q (.ref p) H'
theorem row_at {row : List Int} {j : Nat} (h : j < row.length) : atI (row.map V.int) (j : Int) = some (.int (row.getD j 0)) := by
  refine atI_nat ?_
  rw [List.getElem?_map, List.getElem?_eq_getElem h, List.getD_eq_getElem?_getD, List.getElem?_eq_getElem h]
  rfl
theorem ok_asks (T : Tp K mg) : FnOk P w K mg base CX0 1 T.a__law_asks T.d__law_asks ["_law_row", "_law_many"] (sp_asks K) := by
  refine T.f__law_asks.ok sc__law_asks (fun vs H Q E h => ?_) (fun cdv A outer s H vs Q E hr h => ?_)
  · obtain ⟨a, row, many, rfl, _⟩ := h
    rfl
  · obtain ⟨a, row, many, rfl, hS, hlen, hb, h0, h1, q⟩ := h
    refine ⟨_, (pss_cons (ps_set (i := 2) sc__law_asks.nd rfl (.inr rfl) pe_str)
  (pss_cons (ps_set (i := 3) sc__law_asks.nd rfl (.inl rfl) (pe_join pe_str (pe_lc (own := [("_law_digit", 4)]) (g := gName 4) (tt := tYes) rfl sc__law_asks.nd (pi_list (pe_slice sl_list (pv 0) po_none (po_some pe_int))) (blkOk_by (N := N__law_asks) (sc := defScope s__law_asks) (by decide +kernel)) (fun _ _ _ _ _ => (pg_name (i := 4) sc__law_asks.nd rfl (.inl rfl))) (fun _ _ _ _ _ => pts_nil) (fun _ _ _ _ _ => (pe_ix (ix_seqK (K := K)) (pv 2) (pe_op op_mod (pe_callTy c_int (by rfl) T.n_int (by rfl) (pa_cons (pv 4) pa_nil)) pe_int) (fun _ _ => rfl))))))
  (pss_cons (ps_set (i := 5) sc__law_asks.nd rfl (.inl rfl) (pe_lst pa_nil))
  (pss_cons (ps_for PassesOwn.never rfl (pi_range1 rfl T.n_range (pa_cons (pv 1) pa_nil)) (pg_name (i := 6) sc__law_asks.nd rfl (.inl rfl))
  (pss_cons (ps_set (i := 7) sc__law_asks.nd rfl (.inl rfl) (pe_op opAdd (pe_op op_mod (pe_callTy c_int (by rfl) T.n_int (by rfl) (pa_cons (pe_op opAdd (pe_ix ix_seq (pv 0) pe_int (fun _ _ => rfl)) (pe_op op_mul pe_int (pv 6))) pa_nil)) pe_int) pe_int))
  (pss_one (ps_if (pt_cmpR op_eq (pe_op op_mod (pe_callTy c_int (by rfl) T.n_int (by rfl) (pa_cons (pe_ix ix_seq (pv 0) pe_int (fun _ _ => rfl)) pa_nil)) pe_int) pe_int (nomark _)) (pss_one (ps_expr (pe_bm PySem.F.plainAttrs_list PySem.F.slot_list_append PySem.F.type_list_append mt_append (pv 5) (pa_cons (pe_slice sl_str (pv 3) po_none (po_some (pv 7))) pa_nil)))) (pss_cons (ps_set (i := 7) sc__law_asks.nd rfl (.inl rfl) (pe_op opAdd (pe_op op_mod (pe_callTy c_int (by rfl) T.n_int (by rfl) (pa_cons (pe_ix ix_seq (pv 0) pe_int (fun _ _ => rfl)) pa_nil)) pe_int) pe_int))
  (pss_cons (ps_set (i := 8) sc__law_asks.nd rfl (.inl rfl) (pe_op op_mod (pe_callTy c_int (by rfl) T.n_int (by rfl) (pa_cons (pe_ix ix_seq (pv 0) pe_int (fun _ _ => rfl)) pa_nil)) (pv 7)))
  (pss_cons (ps_set (i := 9) sc__law_asks.nd rfl (.inl rfl) (pe_op opAdd (pe_op op_mul (pe_op op_mod (pe_callTy c_int (by rfl) T.n_int (by rfl) (pa_cons (pe_ix ix_seq (pv 0) pe_int (fun _ _ => rfl)) pa_nil)) pe_int) pe_int) pe_int))
  (pss_cons (ps_set (i := 10) sc__law_asks.nd rfl (.inl rfl) (pe_ix ix_seq (pv 2) (pe_op op_mod (pe_callTy c_int (by rfl) T.n_int (by rfl) (pa_cons (pe_op opAdd (pe_ix ix_seq (pv 0) pe_int (fun _ _ => rfl)) (pe_op op_mul (pv 9) (pv 6))) pa_nil)) pe_int) (fun _ _ => rfl)))
  (pss_one (ps_expr (pe_bm PySem.F.plainAttrs_list PySem.F.slot_list_append PySem.F.type_list_append mt_append (pv 5) (pa_cons (pe_op opAdd (pe_op opAdd (pe_slice sl_str (pv 3) po_none (po_some (pv 8))) (pv 10)) (pe_slice sl_str (pv 3) (po_some (pe_op opAdd (pv 8) pe_int)) (po_some (pv 7)))) pa_nil))))))))))))
  (pss_one (ps_ret (pv 5))))))), ?_⟩
    walk_at "g"
    refine ⟨⟨_, rfl⟩, ?_⟩
    walk_at "g"
    refine sl_l hS fun l8 hl8 => ?_
    rw [show ((8 : Int)) = ((8 : Nat) : Int) from rfl, cutV_to, ← List.map_take]
    refine lcl_go (xs := (row.take 8).map V.int) (fun _ => true) letV (.inl (.inl upd_same)) ?_ (fun _ => rfl) ?_ ?_ ?_
    · rw [List.length_map, List.length_take]; omega
    · exact yes_t
    · intro x hx _ H1 e1 R k
      obtain ⟨d, _, rfl⟩ := List.mem_map.mp hx
      walk_at "g"
      exact ix_s (c := letC d) (by decide) (ltrs_ix d) (k H1 (Ex.refl _))
    · intro D H1 hD e1 hl1
      rw [let_map] at hl1
      refine ⟨_, D, (wordL row).map fun c => ⟨#[c]⟩, rfl, rfl, .inl (.inl (.inl hl1)), ?_, ?_⟩
      · rw [sum_signs, List.length_map, word_len (by omega)]
        decide
      rw [join_signs]
      have e2 : Ex H H1 := (Ex.new hl8).trans e1
      walk_at "g"
      refine ⟨sz_of (by show 0 ≤ 100000; decide), fun l hl => ?_⟩
      have e3 : Ex H (upd H1 l (.lst [])) := e2.trans (Ex.new hl)
      have l3 : (upd H1 l (.lst [])) l = some (.lst []) := upd_same
      have hl0 : H l = none := fresh_back e2 hl
      generalize (upd H1 l (.lst [])) = H3 at e3 l3
      walk_at "g"
      refine lr1_go (fun i σ' H' => ∃ y6 y7 y8 y9 y10, σ' = [some (.ref a), some (.int many), some (.str (Str.ofString "abcdefghijklmnopqrstuvwxyz")), some (.str ⟨(wordL row).toArray⟩), none, some (.ref l), y6, y7, y8, y9, y10] ∧ Ex H H' ∧ H' l = some (.lst ((asksF row i).map V.str)))
        ⟨_, _, _, _, _, rfl, e3, l3⟩ ⟨h0, by omega⟩ ?_ ?_
      · rintro i σ' H' hi ⟨y6, y7, y8, y9, y10, rfl, e4, l4⟩
        walk_at "g"
        refine ix_l (ex_l e4 hS) (row_at (j := 9) (by omega)) ?_
        walk_at "g"
        refine ix_l (ex_l e4 hS) (row_at (j := 8) (by omega)) ?_
        walk_at "g"
        have ln := asks_len row i
        have lz : ((asksF row i).map V.str).length < sizeLine := by rw [List.length_map, ln]; exact sz_lt (by omega)
        have wz : (⟨(wordL row).toArray⟩ : Str).length ≤ sizeLine := by
          show (wordL row).toArray.size ≤ _
          rw [List.size_toArray, word_len (by omega)]
          decide
        refine ite_b (fun hc => ?_) (fun hc => ?_)
        · have z : row.getD 8 0 % 2 = 0 := V.int.inj (of_decide_eq_true hc)
          have ea : askL row i = (wordL row).take ((row.getD 9 0 + 3 * i) % 8 + 1).toNat := by unfold askL; rw [if_pos z]
          refine r_drop (r_app rfl l4 ?_)
          walk_at "g"
          refine sl_s wz ?_
          rw [show ((8 : Nat) : Int) = 8 from rfl, cutS_toI _ (by omega), ← ea]
          refine app_l l4 lz ?_
          walk_at "g"
          exact ⟨_, _, _, _, _, rfl, ex_upd e4 hl0, by rw [upd_same, asks_snoc]⟩
        · have z : ¬ row.getD 8 0 % 2 = 0 := fun q0 => of_decide_eq_false hc (congrArg V.int q0)
          walk_at "g"
          refine ix_l (ex_l e4 hS) (row_at (j := 9) (by omega)) ?_
          walk_at "g"
          refine ix_l (ex_l e4 hS) (row_at (j := 10) (by omega)) ?_
          walk_at "g"
          refine ⟨_, _, rfl, rfl, show (0 : Int) < _ by omega, ?_⟩
          walk_at "g"
          refine ix_l (ex_l e4 hS) (row_at (j := 12) (by omega)) ?_
          walk_at "g"
          refine ix_l (ex_l e4 hS) (row_at (j := 11) (by omega)) ?_
          walk_at "g"
          refine r_I (.inr ⟨by omega, by omega⟩) ?_
          walk_at "g"
          refine ix_s (c := letC (row.getD 11 0 + (row.getD 12 0 % 6 * 2 + 1) * i)) (by decide) (ltrs_ix _) ?_
          walk_at "g"
          refine r_drop (r_app rfl l4 ?_)
          walk_at "g"
          refine sl_s wz ?_
          have p0 : 0 ≤ row.getD 10 0 % (row.getD 9 0 % 8 + 1) := by
            have : row.getD 9 0 % 8 + 1 ≠ 0 := by omega
            exact Int.emod_nonneg _ this
          have p1 : row.getD 10 0 % (row.getD 9 0 % 8 + 1) < row.getD 9 0 % 8 + 1 := Int.emod_lt_of_pos _ (by omega)
          rw [show ((8 : Nat) : Int) = 8 from rfl]
          show tVar 10 _ _ _
          rw [cutS_toI _ p0]
          walk_at "g"
          refine add_str ?_ ?_
          · show (List.toArray _).size + 1 ≤ _
            rw [List.size_toArray, List.length_take, word_len (by omega)]
            have := @sz_of 100 (by decide)
            omega
          walk_at "g"
          refine sl_s wz ?_
          rw [cutS_midI _ (by omega) (by omega), show (⟨#[letC (row.getD 11 0 + (row.getD 12 0 % 6 * 2 + 1) * ↑i)]⟩ : Str) = ⟨[letC (row.getD 11 0 + (row.getD 12 0 % 6 * 2 + 1) * ↑i)].toArray⟩ from rfl, app_codes]
          refine add_str ?_ ?_
          · show (List.toArray _).size + (List.toArray _).size ≤ _
            rw [List.size_toArray, List.size_toArray]
            simp only [List.length_append, List.length_take, List.length_drop, List.length_cons, List.length_nil]
            have := @sz_of 100 (by decide)
            have := word_len (row := row) (by omega)
            omega
          rw [app_codes]
          walk_at "g"
          refine app_l l4 lz ?_
          walk_at "g"
          refine ⟨_, _, _, _, _, rfl, ex_upd e4 hl0, ?_⟩
          rw [upd_same, asks_snoc]
          have ea : askL row i = (wordL row).take (row.getD 10 0 % (row.getD 9 0 % 8 + 1)).toNat ++ [letC (row.getD 11 0 + (row.getD 12 0 % 6 * 2 + 1) * i)] ++
              ((wordL row).take (row.getD 9 0 % 8 + 1).toNat).drop ((row.getD 10 0 % (row.getD 9 0 % 8 + 1)).toNat + 1) := by unfold askL; rw [if_neg z]
          rw [ea, show (row.getD 10 0 % (row.getD 9 0 % 8 + 1) + 1).toNat = (row.getD 10 0 % (row.getD 9 0 % 8 + 1)).toNat + 1 by omega]
      · rintro σ' H' ⟨y6, y7, y8, y9, y10, rfl, e4, l4⟩
        walk_at "g"
        exact q l H' hl0 e4 l4
end
end K14

set_option Elab.async false
set_option linter.all false
set_option maxRecDepth 100000
namespace K14
open PySem PySem.Spec PyProof.Rows L2 Evl AE
/-! ### data of rows -/
def stD (s : StepD) : PyData := .tuple ((stepV s).map scD)
theorem ints_dsc (l : List Int) : (l.map V.int).map scD = l.map PyData.int := by rw [List.map_map]; rfl
theorem ints_lay : ∀ l : List Int, PyData.canLayAll0 (l.map PyData.int) = true
  | [] => rfl
  | _ :: r => by simp [PyData.canLayAll0, PyData.canLay0, ints_lay r]
theorem ints_dep : ∀ l : List Int, PyData.depthAll (l.map PyData.int) = 0
  | [] => rfl
  | _ :: r => by simp [PyData.depthAll, PyData.depth, ints_dep r]
theorem ints_shaped (l : List Int) : SeqAt.shaped (.list (l.map PyData.int)) = true := by
  simp [SeqAt.shaped, PyData.canLay0, PyData.depth, ints_lay, ints_dep]
theorem ints_eqv : ∀ l m : List Int, PyData.eqvAll (l.map PyData.int) (m.map PyData.int) = decide (l = m)
  | [], [] => by simp [PyData.eqvAll]
  | [], _ :: _ => by simp [PyData.eqvAll]
  | _ :: _, [] => by simp [PyData.eqvAll]
  | a :: r, b :: t => by
    simp only [List.map_cons, PyData.eqvAll, PyData.eqv, ints_eqv r t]
    by_cases h : a = b <;> by_cases h' : r = t <;> simp [h, h']
theorem stD_lay {s : StepD} (h : PyData.strOk s.2.1 = true) : (stD s).canLay0 = true := by
  simp [stD, stepV, scD, PyData.canLay0, PyData.canLayAll0, h]
theorem stD_dep (s : StepD) : (stD s).depth = 1 := by
  simp [stD, stepV, scD, PyData.depth, PyData.depthAll]
theorem stDs_lay : ∀ l : List StepD, (∀ s ∈ l, PyData.strOk s.2.1 = true) → PyData.canLayAll0 (l.map stD) = true
  | [], _ => rfl
  | s :: r, h => by simp [PyData.canLayAll0, stD_lay (h s (List.mem_cons_self ..)), stDs_lay r fun x hx => h x (List.mem_cons_of_mem _ hx)]
theorem stDs_dep : ∀ l : List StepD, PyData.depthAll (l.map stD) ≤ 1
  | [] => by simp [PyData.depthAll]
  | s :: r => by
    have := stDs_dep r
    simp only [List.map_cons, PyData.depthAll, stD_dep s]
    omega
theorem stD_shaped {s : StepD} (h : PyData.strOk s.2.1 = true) : SeqAt.shaped (stD s) = true := by
  simp [SeqAt.shaped, stD_lay h, stD_dep]
theorem stDs_shaped {l : List StepD} (h : ∀ s ∈ l, PyData.strOk s.2.1 = true) : SeqAt.shaped (.list (l.map stD)) = true := by
  have h1 := stDs_dep l
  have h2 : PyData.depth (.list (l.map stD)) ≤ 64 := by
    simp only [PyData.depth]
    omega
  show (PyData.canLay0 (.list (l.map stD)) && decide (PyData.depth (.list (l.map stD)) ≤ 64)) = true
  rw [Bool.and_eq_true]
  exact ⟨by simp only [PyData.canLay0]; exact stDs_lay l h, decide_eq_true h2⟩
theorem stD_eqv (a b : StepD) : PyData.eqv (stD a) (stD b) = decide (a = b) := by
  obtain ⟨a1, a2, a3⟩ := a
  obtain ⟨b1, b2, b3⟩ := b
  simp only [stD, stepV, scD, List.map_cons, List.map_nil, PyData.eqv, PyData.eqvAll, Prod.mk.injEq]
  by_cases h : a1 = b1 <;> by_cases h2 : a2 = b2 <;> by_cases h3 : a3 = b3 <;> simp [h, h2, h3]
theorem stD_any (l : List StepD) (a : StepD) : ((l.map stD).any fun z => z.eqv (stD a)) = decide (a ∈ l) := by
  rw [List.any_map, Bool.eq_iff_iff, List.any_eq_true, decide_eq_true_iff]
  constructor
  · rintro ⟨y, hy, e⟩
    have e' : PyData.eqv (stD y) (stD a) = true := e
    rw [stD_eqv, decide_eq_true_iff] at e'
    exact e' ▸ hy
  · intro h
    refine ⟨a, h, ?_⟩
    show PyData.eqv (stD a) (stD a) = true
    rw [stD_eqv, decide_eq_true rfl]
theorem rows_dp {K : PySem.W.Frag} {H : Hp} {a : Addr} {us : List V} {rows : List StepD} (h : SqL K H a us) (t : Tups H us (rows.map stepV)) : Dp K H (.ref a) (.list (rows.map stD)) := by
  have d := t.dp (K := K) (fun x hx => by obtain ⟨s, _, rfl⟩ := List.mem_map.mp hx; rfl)
  rw [List.map_map] at d
  exact .lst h d
theorem ints_dp {K : PySem.W.Frag} {H : Hp} {a : Addr} {l : List Int} (h : SqL K H a (l.map V.int)) : Dp K H (.ref a) (.list (l.map PyData.int)) := by
  have d : DpAll K H (l.map V.int) ((l.map V.int).map scD) := dpa_sc (by rw [List.all_map, List.all_eq_true]; exact fun _ _ => rfl)
  rw [ints_dsc] at d
  exact .lst h d
end K14

set_option Elab.async false
set_option linter.all false
set_option maxRecDepth 100000
set_option maxHeartbeats 2000000
namespace K14
open PySem PySem.Spec PyProof.Rows L2 Evl AE
local macro_rules | `(tactic| walk_at "c") => `(tactic| first | exact ⟨by decide, by decide⟩ | exact .inr ⟨by decide, by decide⟩ | exact .inl ⟨by decide, by decide⟩ | exact ⟨by decide, by decide, by decide⟩ | (show (0 : Int) < _; decide))
local macro_rules | `(tactic| walk_at "s") => `(tactic| first
  | (with_reducible refine r_var rfl ?_) | (with_reducible refine r_c ?_) | (with_reducible refine r_op ?_) | (with_reducible refine r_un ?_) | (with_reducible refine r_I0 ?_) | (with_reducible refine r_U ?_)
  | (with_reducible refine r_eq rfl ?_) | (with_reducible refine r_ne rfl ?_) | (with_reducible refine r_chain ?_) | (with_reducible refine r_test ?_) | (with_reducible refine r_tB ?_)
  | (with_reducible refine r_bl ?_) | (with_reducible refine r_and ?_) | (with_reducible refine r_or ?_) | (with_reducible refine r_not ?_) | (with_reducible refine r_nil ?_) | (with_reducible refine r_cons ?_)
  | (with_reducible refine r_tupK ?_) | (with_reducible refine r_lstK ?_) | (with_reducible refine r_cb ?_) | (with_reducible refine r_revL ?_) | (with_reducible refine r_ost ?_) | (with_reducible refine r_mkO ?_) | (with_reducible refine r_makeK ?_) | (with_reducible refine r_make ?_) | (with_reducible refine r_setdN ?_) | (with_reducible refine r_nget2 ?_) | (with_reducible refine r_nnew ?_) | (with_reducible refine r_call ?_) | (with_reducible refine r_seq ?_) | (with_reducible refine r_set ?_)
  | (with_reducible refine r_drop ?_) | (with_reducible refine r_ret ?_) | (with_reducible refine r_next ?_) | (with_reducible refine r_if ?_) | (with_reducible refine r_sl ?_) | (with_reducible refine r_nop ?_) | (with_reducible refine r_prt ?_) | (with_reducible refine r_some ?_)
  | (with_reducible refine add_int ?_) | (with_reducible refine int_i ?_) | (with_reducible refine r_forR1 ?_) | (with_reducible refine r_forR2 ?_) | (with_reducible refine r_meth ?_) | (with_reducible refine r_makeS ?_) | (with_reducible refine r_opS ?_) | (with_reducible refine r_makeRS ?_) | (with_reducible refine r_methH ?_) | (with_reducible refine r_callS ?_) | (with_reducible refine r_forL ?_) | (with_reducible refine r_andV ?_) | (with_reducible refine r_orV ?_) | (with_reducible refine r_notV ?_) | (with_reducible refine r_ifE ?_) | (with_reducible refine r_lcL ?_) | (with_reducible refine r_fld ?_) | (with_reducible refine r_get ?_) | (with_reducible refine r_din ?_) | (with_reducible refine r_dget2 ?_) | ((with_reducible refine r_I ?_ ?_); (walk_at "c")))
local macro_rules | `(tactic| walk_at "g") => `(tactic| repeat walk_at "s")
section
variable {P : Program} {w : World} {K : PySem.W.Frag} {mg : Str → Option Value} {base : Heap}
theorem gname1 {i : Nat} {x : V} {σ : L2.St} {H : Hp} {Q : L2.St → Hp → Prop} (q : Q (σ.set i (some x)) H) : gName i x σ H Q := q
theorem hu64_of {A : Around} {k : Nat} (hr : Room k A) : A.units + 64 < cLine := by
  have := hr.units
  omega
def okBadMachine : List V → Hp → Prop := fun ws _ => ∃ (x : Str), ws = [.str x] ∧ x.length ≤ 100
theorem ok_BadMachine (T : Tp K mg) (SO : SupOk P T.file) : FnOk P w K mg base CX0 1 T.a_BadMachine___init__ T.d_BadMachine___init__ ["self", "part"] (sp_err T.C_BadMachine ["part"] okBadMachine) := by
  refine T.err_BadMachine.fn.ok (k := 0) sc_BadMachine___init__ SO T.err_BadMachine.oex rfl rfl rfl (fun L => ⟨_, rfl⟩) T.n_super T.hth T.err_BadMachine.al T.err_BadMachine.ve T.err_BadMachine.mr (fun vs H Q E h => ?_) T.err_BadMachine.bd (fun A outer s H vs Q E hr h => ?_)
  · obtain ⟨a, ws, rfl, hl, _⟩ := h
    rw [List.length_cons, hl]
    rfl
  · obtain ⟨a, ws, rfl, hl, ha, ⟨x, rfl, le⟩, q⟩ := h
    refine ⟨_, _, a, _, rfl, (pe_joined (PJ.cons pe_str (PJ.cons (pe_fmt (pv 1)) PJ.nil))), (pss_one (ps_ost (pv 0) (pv 1))), ha, ?_⟩
    walk_at "g"
    refine js_c (n := 0) (m := 40) (Nat.le_refl _) (by decide +kernel) (by decide) fun l1 => ?_
    refine js_s (m := 100) rfl l1 le (by decide) fun l4 => ?_
    refine ⟨Nat.le_of_ble_eq_true rfl, ha, ?_⟩
    walk_at "g"
    refine ost_first ha T.err_BadMachine.oex (T.err_BadMachine.no _ (by simp)) fun d H1 nd k1 ha1 hd1 => ?_
    walk_at "g"
    exact q d H1 nd (fun b o hb hbo => k1 b o hb hbo) ha1 hd1
def okTooLarge : List V → Hp → Prop := fun ws _ => ∃ (n : Int), ws = [.int n] ∧ n.natAbs < 10 ^ 9
theorem ok_TooLarge (T : Tp K mg) (SO : SupOk P T.file) : FnOk P w K mg base CX0 1 T.a_TooLarge___init__ T.d_TooLarge___init__ ["self", "size"] (sp_err T.C_TooLarge ["size"] okTooLarge) := by
  refine T.err_TooLarge.fn.ok (k := 0) sc_TooLarge___init__ SO T.err_TooLarge.oex rfl rfl rfl (fun L => ⟨_, rfl⟩) T.n_super T.hth T.err_TooLarge.al T.err_TooLarge.ve T.err_TooLarge.mr (fun vs H Q E h => ?_) T.err_TooLarge.bd (fun A outer s H vs Q E hr h => ?_)
  · obtain ⟨a, ws, rfl, hl, _⟩ := h
    rw [List.length_cons, hl]
    rfl
  · obtain ⟨a, ws, rfl, hl, ha, ⟨e, rfl, le⟩, q⟩ := h
    refine ⟨_, _, a, _, rfl, (pe_joined (PJ.cons pe_str (PJ.cons (pe_fmt (pv 1)) PJ.nil))), (pss_one (ps_ost (pv 0) (pv 1))), ha, ?_⟩
    walk_at "g"
    refine js_c (n := 0) (m := 40) (Nat.le_refl _) (by decide +kernel) (by decide) fun l1 => ?_
    refine js_z rfl l1 le (by decide) fun y l4 => ?_
    refine ⟨Nat.le_of_ble_eq_true rfl, ha, ?_⟩
    walk_at "g"
    refine ost_first ha T.err_TooLarge.oex (T.err_TooLarge.no _ (by simp)) fun d H1 nd k1 ha1 hd1 => ?_
    walk_at "g"
    exact q d H1 nd (fun b o hb hbo => k1 b o hb hbo) ha1 hd1
def okBadState : List V → Hp → Prop := fun ws _ => ∃ (n : Int), ws = [.int n] ∧ n.natAbs < 10 ^ 9
theorem ok_BadState (T : Tp K mg) (SO : SupOk P T.file) : FnOk P w K mg base CX0 1 T.a_BadState___init__ T.d_BadState___init__ ["self", "state"] (sp_err T.C_BadState ["state"] okBadState) := by
  refine T.err_BadState.fn.ok (k := 0) sc_BadState___init__ SO T.err_BadState.oex rfl rfl rfl (fun L => ⟨_, rfl⟩) T.n_super T.hth T.err_BadState.al T.err_BadState.ve T.err_BadState.mr (fun vs H Q E h => ?_) T.err_BadState.bd (fun A outer s H vs Q E hr h => ?_)
  · obtain ⟨a, ws, rfl, hl, _⟩ := h
    rw [List.length_cons, hl]
    rfl
  · obtain ⟨a, ws, rfl, hl, ha, ⟨e, rfl, le⟩, q⟩ := h
    refine ⟨_, _, a, _, rfl, (pe_joined (PJ.cons pe_str (PJ.cons (pe_fmt (pv 1)) PJ.nil))), (pss_one (ps_ost (pv 0) (pv 1))), ha, ?_⟩
    walk_at "g"
    refine js_c (n := 0) (m := 40) (Nat.le_refl _) (by decide +kernel) (by decide) fun l1 => ?_
    refine js_z rfl l1 le (by decide) fun y l4 => ?_
    refine ⟨Nat.le_of_ble_eq_true rfl, ha, ?_⟩
    walk_at "g"
    refine ost_first ha T.err_BadState.oex (T.err_BadState.no _ (by simp)) fun d H1 nd k1 ha1 hd1 => ?_
    walk_at "g"
    exact q d H1 nd (fun b o hb hbo => k1 b o hb hbo) ha1 hd1
/-! ### what is raised -/
def Rais (H : Hp) (C : Addr) (nm : Str) (v : V) (E : XK) : Prop := ∀ d H', Ex H H' → H' d = some (.xd [(nm, v)]) → E (.ref C) (some d) H'
theorem mk1 {C : Addr} {nm : Str} {v : V} {ok : List V → Hp → Prop} {H H1 : Hp} {E : XK} (e1 : Ex H H1) (hok : ∀ H2, ok [v] H2) (r : Rais H C nm v E) : MkOK C (sp_err C [nm] ok) [v] H1 E :=
  mko_go rfl (Nat.le_of_ble_eq_true rfl) (fun a H2 na e2 => hok H2) fun d H2 e2 nd hd => r d H2 (e1.trans e2) hd
def sp_sizeE (T : Tp K mg) : Sp := fun vs H Q E => ∃ n : Int, vs = [.int n] ∧ n.natAbs < 10 ^ 9 ∧ (n < 1 → Rais H T.C_BadMachine "part" (.str "size") E) ∧ (200 < n → Rais H T.C_TooLarge "size" (.int n) E) ∧ (1 ≤ n → n ≤ 200 → Q .non H)
theorem ok_sizeE (T : Tp K mg) (SO : SupOk P T.file) : FnOk P w K mg base (L2N.CX P w) 3 T.a_check_size T.d_check_size ["size"] (sp_sizeE T) := by
  have G_BadMachine := ok_BadMachine (w := w) (base := base) T SO
  have G_TooLarge := ok_TooLarge (w := w) (base := base) T SO
  refine fok_N T.f_check_size sc_check_size (fun vs H Q E h => ?_) (fun cdv A outer s H vs Q E hr h => ?_)
  · obtain ⟨n, rfl, _⟩ := h
    rfl
  · obtain ⟨n, rfl, hb, q1, q2, q⟩ := h
    refine ⟨_, (pss_cons (ps_if (pt_cmpR op_lt (pv 0) pe_int (nomark _)) (pss_one (L2N.ps_raise rfl (L2N.takes_of rfl rfl rfl rfl) (pmk_oexN (CX := CX0) T.err_BadMachine.oex T.err_BadMachine.ini T.err_BadMachine.ti G_BadMachine (hr.mono (by decide)) T.err_BadMachine.binds .nil pass0 (by rfl) T.g_BadMachine (pa_cons pe_str pa_nil)))) pss_nil)
  (pss_one (ps_if (pt_cmpR op_gt (pv 0) (pe_gi rfl T.k_MOST_STATES) (nomark _)) (pss_one (L2N.ps_raise rfl (L2N.takes_of rfl rfl rfl rfl) (pmk_oexN (CX := CX0) T.err_TooLarge.oex T.err_TooLarge.ini T.err_TooLarge.ti G_TooLarge (hr.mono (by decide)) T.err_TooLarge.binds .nil pass0 (by rfl) T.g_TooLarge (pa_cons (pv 0) pa_nil)))) pss_nil))), ?_⟩
    walk_at "g"
    refine ite_b (fun hc => ?_) (fun hc => ?_)
    · refine r_mkO ?_
      walk_at "g"
      exact mk1 (Ex.refl _) (fun H2 => ⟨"size", rfl, by decide +kernel⟩) (q1 (of_decide_eq_true hc))
    have n1 : 1 ≤ n := by have := of_decide_eq_false hc; omega
    walk_at "g"
    refine ite_b (fun hc => ?_) (fun hc => ?_)
    · refine r_mkO ?_
      walk_at "g"
      exact mk1 (Ex.refl _) (fun H2 => ⟨n, rfl, hb⟩) (q2 (of_decide_eq_true hc))
    walk_at "g"
    exact q n1 (by have := of_decide_eq_false hc; omega)
def sp_marksE (T : Tp K mg) : Sp := fun vs H Q E => ∃ (n : Int) (a : Addr) (ms : List Int), vs = [.int n, .ref a] ∧ SqA K H a (ms.map V.int) ∧ ((∃ m ∈ ms, ¬ (0 ≤ m ∧ m < n)) → Rais H T.C_BadMachine "part" (.str "mark") E) ∧ ((∀ m ∈ ms, 0 ≤ m ∧ m < n) → Q .non H)
theorem ok_marksE (T : Tp K mg) (SO : SupOk P T.file) : FnOk P w K mg base (L2N.CX P w) 3 T.a_check_marks T.d_check_marks ["size", "marks"] (sp_marksE T) := by
  have G_BadMachine := ok_BadMachine (w := w) (base := base) T SO
  refine fok_N T.f_check_marks sc_check_marks (fun vs H Q E h => ?_) (fun cdv A outer s H vs Q E hr h => ?_)
  · obtain ⟨n, a, ms, rfl, _⟩ := h
    rfl
  · obtain ⟨n, a, ms, rfl, hS, q1, q⟩ := h
    refine ⟨_, (pss_one (ps_for PassesOwn.leaving rfl (pi_seq (pv 1)) (pg_name (i := 2) sc_check_marks.nd rfl (.inl rfl))
  (pss_one (ps_if (pt_not (pt_chain op_le op_lt pe_int (pv 2) (pv 0))) (pss_one (L2N.ps_raise rfl (L2N.takes_of rfl rfl rfl rfl) (pmk_oexN (CX := CX0) T.err_BadMachine.oex T.err_BadMachine.ini T.err_BadMachine.ti G_BadMachine (hr.mono (by decide)) T.err_BadMachine.binds .nil pass0 (by rfl) T.g_BadMachine (pa_cons pe_str pa_nil)))) pss_nil)))), ?_⟩
    refine for_seq rfl hS (fun i σ' H' => ∃ y, σ' = [some (.int n), some (.ref a), y] ∧ H' = H ∧ ∀ j m, j < i → ms[j]? = some m → 0 ≤ m ∧ m < n) ⟨_, rfl, rfl, fun j m hj => absurd hj (by omega)⟩ (fun j σ' H' _ ⟨_, _, e, _⟩ => by rw [e]; exact Ex.refl H) ?_ ?_
    · rintro j x σ' H' hx ⟨y, rfl, rfl, ih⟩
      rw [List.getElem?_map] at hx
      obtain ⟨m, hm, rfl⟩ := Option.map_eq_some_iff.mp hx
      have bad : ¬ (0 ≤ m ∧ m < n) → MkOK T.C_BadMachine (sp_err T.C_BadMachine ["part"] okBadMachine) [.str "mark"] H' E := fun ne => mk1 (Ex.refl _) (fun H2 => ⟨"mark", rfl, by decide +kernel⟩) (q1 ⟨m, List.mem_of_getElem? hm, ne⟩)
      refine gname1 ?_
      walk_at "g"
      refine ite_b (fun hc => ?_) (fun hc => ?_)
      · have m0 := of_decide_eq_true hc
        walk_at "g"
        cases hd : decide (m < n) with
        | true =>
          refine ite_f rfl ?_
          walk_at "g"
          refine ⟨_, rfl, rfl, fun k m' hk hm' => ?_⟩
          by_cases z : k < j
          · exact ih k m' z hm'
          · have e : k = j := by omega
            subst e
            rw [hm] at hm'
            cases hm'
            exact ⟨m0, of_decide_eq_true hd⟩
        | false =>
          refine ite_t rfl ?_
          refine r_mkO ?_
          walk_at "g"
          exact bad fun z => of_decide_eq_false hd z.2
      · walk_at "g"
        refine ite_t rfl ?_
        refine r_mkO ?_
        walk_at "g"
        exact bad fun z => of_decide_eq_false hc z.1
    · rintro σ' H' ⟨y, rfl, rfl, ih⟩
      refine q fun m hm => ?_
      obtain ⟨j, hj⟩ := List.getElem?_of_mem hm
      exact ih j m (by rw [List.length_map]; exact (List.getElem?_eq_some_iff.mp hj).1) hj
/-! ### asks -/
def letB (c : Nat) : Bool := decide (97 ≤ c) && decide (c ≤ 122)
def askB (x : Str) : Bool := decide ((1 : Int) ≤ x.length) && (decide ((x.length : Int) ≤ 8) && x.cps.toList.all letB)
theorem askB_ok (x : Str) : askB x = true ↔ AskOk x := by
  unfold askB AskOk letB
  rw [Bool.and_eq_true, Bool.and_eq_true, decide_eq_true_iff, decide_eq_true_iff, List.all_eq_true]
  constructor
  · rintro ⟨a, b, c⟩
    refine ⟨by omega, by omega, fun k hk => ?_⟩
    have := c k hk
    rw [Bool.and_eq_true, decide_eq_true_iff, decide_eq_true_iff] at this
    exact this
  · rintro ⟨a, b, c⟩
    refine ⟨by omega, by omega, fun k hk => ?_⟩
    rw [Bool.and_eq_true, decide_eq_true_iff, decide_eq_true_iff]
    exact c k hk
def lettV : V → V
  | .str s => .bl (letB (s.cps.toList.getD 0 0))
  | _ => .bl false
def sp_askB : Sp := fun vs H Q _ => ∃ x : Str, vs = [.str x] ∧ x.length ≤ 1000 ∧ ∀ H', Ex H H' → Q (.bl (askB x)) H'
theorem ok_askB (T : Tp K mg) : FnOk P w K mg base CX0 1 T.a_is_ask T.d_is_ask ["ask"] sp_askB := by
  refine T.f_is_ask.ok sc_is_ask (fun vs H Q E h => ?_) (fun cdv A outer s H vs Q E hr h => ?_)
  · obtain ⟨x, rfl, _⟩ := h
    rfl
  · obtain ⟨x, rfl, h2, q⟩ := h
    unfold askB at q
    refine ⟨_, (pss_one (ps_ret (pe_and (pe_chain op_le op_le pe_int (pe_callB c_len (by rfl) T.n_len (by rfl) (pa_cons (pv 0) pa_nil)) (pe_gi rfl T.k_LONGEST_ASK)) (pe_one (pe_callB (cr_all rfl) (by rfl) T.n_all (by rfl) (pa_cons (pe_lc (own := [("letter", 1)]) (g := gName 1) (tt := tYes) rfl sc_is_ask.nd (pi_str (pv 0)) (blkOk_by (N := N_is_ask) (sc := defScope s_is_ask) (by decide +kernel)) (fun _ _ _ _ _ => (pg_name (i := 1) sc_is_ask.nd rfl (.inl rfl))) (fun _ _ _ _ _ => pts_nil) (fun _ _ _ _ _ => (pe_chain op_le_str op_le_str pe_str (pv 1) pe_str))) pa_nil)))))), ?_⟩
    walk_at "g"
    refine len_s (sz_of (by omega)) ?_
    walk_at "g"
    cases c1 : decide ((1 : Int) ≤ x.length) with
    | false =>
      rw [c1] at q
      refine ite_f rfl ?_
      walk_at "g"
      refine ite_f rfl ?_
      exact q H (Ex.refl _)
    | true =>
      rw [c1, Bool.true_and] at q
      refine ite_t rfl ?_
      walk_at "g"
      cases c2 : decide ((x.length : Int) ≤ 8) with
      | false =>
        rw [c2] at q
        refine ite_f rfl ?_
        exact q H (Ex.refl _)
      | true =>
        rw [c2, Bool.true_and] at q
        refine ite_t rfl ?_
        walk_at "g"
        refine lc_s (z := x) (fun _ => true) lettV (fun R k => ⟨_, rfl, k⟩) (by omega) (fun _ => rfl) yes_t ?_ fun D H1 hD e1 hl1 => ?_
        · intro y hy _ H1 e1 R k
          obtain ⟨c, hc, rfl⟩ := List.mem_map.mp hy
          have k' : ∀ b, b = letB c → R (.bl b) H1 := fun b e => by rw [e]; exact k H1 (Ex.refl _)
          walk_at "g"
          refine ⟨_, _, rfl, rfl, _, rfl, ?_⟩
          have z1 : (!decide ([c] < [97])) = decide (97 ≤ c) := by
            rw [Bool.eq_iff_iff, decide_eq_true_iff, Bool.not_eq_true', decide_eq_false_iff_not, List.cons_lt_cons_iff]
            simp
          have z2 : (!decide ([122] < [c])) = decide (c ≤ 122) := by
            rw [Bool.eq_iff_iff, decide_eq_true_iff, Bool.not_eq_true', decide_eq_false_iff_not, List.cons_lt_cons_iff]
            simp
          refine ite_b (fun hc1 => ?_) (fun hc1 => ?_)
          · have y1 : decide (97 ≤ c) = true := by rw [← z1]; exact hc1
            walk_at "g"
            refine ⟨_, _, rfl, rfl, ?_⟩
            refine k' _ ?_
            unfold letB
            rw [y1, Bool.true_and]
            exact z2
          · have y1 : decide (97 ≤ c) = false := by rw [← z1]; exact hc1
            refine k' _ ?_
            unfold letB
            rw [y1, Bool.false_and]
        · walk_at "g"
          refine ⟨D, x.cps.toList.map letB, rfl, .inl (.inl ?_), ?_⟩
          · rw [hl1, filter_yes]
            unfold signsV
            rw [List.map_map, List.map_map]
            rfl
          · rw [List.all_map]
            exact q H1 e1
end

end K14

set_option Elab.async false
set_option linter.all false
set_option maxRecDepth 100000
set_option maxHeartbeats 2000000
namespace K14
open PySem PySem.Spec PyProof.Rows L2 Evl AE
local macro_rules | `(tactic| walk_at "c") => `(tactic| first | exact ⟨by decide, by decide⟩ | exact .inr ⟨by decide, by decide⟩ | exact .inl ⟨by decide, by decide⟩ | exact ⟨by decide, by decide, by decide⟩ | (show (0 : Int) < _; decide))
local macro_rules | `(tactic| walk_at "s") => `(tactic| first
  | (with_reducible refine r_var rfl ?_) | (with_reducible refine r_c ?_) | (with_reducible refine r_op ?_) | (with_reducible refine r_un ?_) | (with_reducible refine r_I0 ?_) | (with_reducible refine r_U ?_)
  | (with_reducible refine r_eq rfl ?_) | (with_reducible refine r_ne rfl ?_) | (with_reducible refine r_chain ?_) | (with_reducible refine r_test ?_) | (with_reducible refine r_tB ?_)
  | (with_reducible refine r_bl ?_) | (with_reducible refine r_and ?_) | (with_reducible refine r_or ?_) | (with_reducible refine r_not ?_) | (with_reducible refine r_nil ?_) | (with_reducible refine r_cons ?_)
  | (with_reducible refine r_tupK ?_) | (with_reducible refine r_lstK ?_) | (with_reducible refine r_cb ?_) | (with_reducible refine r_revL ?_) | (with_reducible refine r_ost ?_) | (with_reducible refine r_mkO ?_) | (with_reducible refine r_makeK ?_) | (with_reducible refine r_make ?_) | (with_reducible refine r_setdN ?_) | (with_reducible refine r_nget2 ?_) | (with_reducible refine r_nnew ?_) | (with_reducible refine r_call ?_) | (with_reducible refine r_seq ?_) | (with_reducible refine r_set ?_)
  | (with_reducible refine r_drop ?_) | (with_reducible refine r_ret ?_) | (with_reducible refine r_next ?_) | (with_reducible refine r_if ?_) | (with_reducible refine r_sl ?_) | (with_reducible refine r_nop ?_) | (with_reducible refine r_prt ?_) | (with_reducible refine r_some ?_)
  | (with_reducible refine add_int ?_) | (with_reducible refine int_i ?_) | (with_reducible refine r_forR1 ?_) | (with_reducible refine r_forR2 ?_) | (with_reducible refine r_meth ?_) | (with_reducible refine r_makeS ?_) | (with_reducible refine r_opS ?_) | (with_reducible refine r_makeRS ?_) | (with_reducible refine r_methH ?_) | (with_reducible refine r_callS ?_) | (with_reducible refine r_forL ?_) | (with_reducible refine r_andV ?_) | (with_reducible refine r_orV ?_) | (with_reducible refine r_notV ?_) | (with_reducible refine r_ifE ?_) | (with_reducible refine r_lcL ?_) | (with_reducible refine r_fld ?_) | (with_reducible refine r_get ?_) | (with_reducible refine r_din ?_) | (with_reducible refine r_dget2 ?_) | ((with_reducible refine r_I ?_ ?_); (walk_at "c")))
local macro_rules | `(tactic| walk_at "g") => `(tactic| repeat walk_at "s")
section
variable {P : Program} {w : World} {K : PySem.W.Frag} {mg : Str → Option Value} {base : Heap}
theorem fok_ND {x qual : Str} {st : Stmt} {f : Addr} {fd : FuncData} {N ps : List Str} {k : Nat} {sp : Sp} {dvs : List V} {kws : List (Str × V)} (F : FunD K x qual (defArgs st) (defBody st) (defScope st) dvs kws f fd) (S : FnScope N ps (defScope st)) (len : ∀ vs H Q E, sp vs H Q E → vs.length = ps.length)
    (run : ∀ (cdv : Value) (A : Around) (outer : List Env) (s : Shared) (H : Hp) (vs : List V) (Q : VK) (E : XK), Room k (A.deeper (envOfC qual (defScope st) s.heap.objs.size f cdv)) → sp vs H Q E → ∃ t, PSs (cxOf (L2N.CX P w) P w K mg base N qual (defScope st) f cdv A outer s H E) (defBody st) t ∧ t { nx := fun _ H' => Q .non H', rt := Q } (L2.start N vs) H) :
    FnOk P w K mg base (L2N.CX P w) (k + 1) f fd ps sp := by
  obtain ⟨oc, od, dV, kV, doc, pm, an, cdv, ct, osl, rfl, lk, hcd, _, _⟩ := F.ex
  exact fn_of lk hcd S len fun A outer s H vs Q E hr want => run cdv A outer s H vs Q E hr want
theorem okS_iff {n : Int} {s : StepD} : OkS n s ↔ (0 ≤ s.1 ∧ s.1 < n) ∧ AskOk s.2.1 ∧ (0 ≤ s.2.2 ∧ s.2.2 < n) :=
  ⟨fun o => ⟨⟨o.s0, o.s1⟩, ⟨o.a0, o.a1, o.al⟩, ⟨o.e0, o.e1⟩⟩, fun ⟨⟨a, b⟩, ⟨c, d, e⟩, ⟨f, g⟩⟩ => ⟨a, b, c, d, e, f, g⟩⟩
def sp_stepsE (T : Tp K mg) : Sp := fun vs H Q E => ∃ (n : Int) (a : Addr) (us : List V) (ss : List StepD), vs = [.int n, .ref a] ∧ SqA K H a us ∧ Tups H us (ss.map stepV) ∧ (∀ s ∈ ss, s.2.1.length ≤ 1000) ∧ ((∃ s ∈ ss, ¬ OkS n s) → Rais H T.C_BadMachine "part" (.str "step") E) ∧ ((∀ s ∈ ss, OkS n s) → ∀ H', Ex H H' → Q .non H')
theorem ok_stepsE (T : Tp K mg) (SO : SupOk P T.file) : FnOk P w K mg base (L2N.CX P w) 3 T.a_check_steps T.d_check_steps ["size", "steps"] (sp_stepsE T) := by
  have G_BadMachine := ok_BadMachine (w := w) (base := base) T SO
  have G_is_ask : FnOk P w K mg base CX0 1 T.a_is_ask T.d_is_ask ["ask"] sp_askB := ok_askB T
  refine fok_N T.f_check_steps sc_check_steps (fun vs H Q E h => ?_) (fun cdv A outer s H vs Q E hr h => ?_)
  · obtain ⟨n, a, us, ss, rfl, _⟩ := h
    rfl
  · obtain ⟨n, a, us, ss, rfl, hS, hT, hz, q1, q⟩ := h
    refine ⟨_, (pss_one (ps_for PassesOwn.leaving rfl (pi_seq (pv 1)) (pg_tup rfl (pgs_cons (pg_name (i := 2) sc_check_steps.nd rfl (.inl rfl)) (pgs_cons (pg_name (i := 3) sc_check_steps.nd rfl (.inl rfl)) (pgs_cons (pg_name (i := 4) sc_check_steps.nd rfl (.inl rfl)) pgs_nil))))
  (pss_one (ps_if (pt_not (PW.pt (pw_and (pt_chain op_le op_lt pe_int (pv 2) (pv 0)) (pw_and (pt_val (pe_call G_is_ask (hr.mono (by decide)) (by rfl) T.g_is_ask T.f_is_ask.kp T.b_is_ask .nil pass0 (pa_cons (pv 3) pa_nil))) (pw_and1 (pt_chain op_le op_lt pe_int (pv 4) (pv 0))))))) (pss_one (L2N.ps_raise rfl (L2N.takes_of rfl rfl rfl rfl) (pmk_oexN (CX := CX0) T.err_BadMachine.oex T.err_BadMachine.ini T.err_BadMachine.ti G_BadMachine (hr.mono (by decide)) T.err_BadMachine.binds .nil pass0 (by rfl) T.g_BadMachine (pa_cons pe_str pa_nil)))) pss_nil)))), ?_⟩
    refine for_seq rfl hS (fun i σ' H' => ∃ y2 y3 y4, σ' = [some (.int n), some (.ref a), y2, y3, y4] ∧ Ex H H' ∧ ∀ j s, j < i → ss[j]? = some s → OkS n s) ⟨_, _, _, rfl, Ex.refl H, fun j m hj => absurd hj (by omega)⟩ (fun j σ' H' _ ⟨_, _, _, _, e, _⟩ => e) ?_ ?_
    · rintro j x σ' H' hx ⟨y2, y3, y4, rfl, e1, ih⟩
      obtain ⟨z, hz', p, rfl, hp⟩ := hT.get hx
      rw [List.getElem?_map] at hz'
      obtain ⟨st, hst, rfl⟩ := Option.map_eq_some_iff.mp hz'
      have bad : ∀ H2, Ex H' H2 → ¬ OkS n st → MkOK T.C_BadMachine (sp_err T.C_BadMachine ["part"] okBadMachine) [.str "step"] H2 E := fun H2 e2 ne => mk1 (e1.trans e2) (fun H2 => ⟨"step", rfl, by decide +kernel⟩) (q1 ⟨st, List.mem_of_getElem? hst, ne⟩)
      refine ⟨p, stepV st, rfl, .inl (.inl (e1 _ _ hp)), rfl, _, _, rfl, _, _, rfl, _, _, rfl, rfl, ?_⟩
      show tIfS _ _ _ _ _ _
      walk_at "g"
      refine ite_b (fun c1 => ?_) (fun c1 => ?_)
      rotate_left
      · walk_at "g"
        refine ite_f rfl (ite_t rfl ?_)
        refine r_mkO ?_
        walk_at "g"
        exact bad H' (Ex.refl _) fun o => of_decide_eq_false c1 o.s0
      walk_at "g"
      refine ite_b (fun c2 => ?_) (fun c2 => ?_)
      rotate_left
      · refine ite_t rfl ?_
        refine r_mkO ?_
        walk_at "g"
        exact bad H' (Ex.refl _) fun o => of_decide_eq_false c2 o.s1
      walk_at "g"
      refine ⟨st.2.1, rfl, hz st (List.mem_of_getElem? hst), fun H2 e2 => ?_⟩
      walk_at "g"
      cases c3 : askB st.2.1 with
      | false =>
        refine ite_f rfl (ite_t rfl ?_)
        refine r_mkO ?_
        walk_at "g"
        exact bad H2 e2 fun o => by
          have z := (askB_ok st.2.1).mpr (okS_iff.mp o).2.1
          rw [c3] at z
          cases z
      | true =>
        refine ite_t rfl ?_
        walk_at "g"
        refine ite_b (fun c4 => ?_) (fun c4 => ?_)
        rotate_left
        · walk_at "g"
          refine ite_t rfl ?_
          refine r_mkO ?_
          walk_at "g"
          exact bad H2 e2 fun o => of_decide_eq_false c4 o.e0
        walk_at "g"
        cases c5 : decide (st.2.2 < n) with
        | false =>
          refine ite_t rfl ?_
          refine r_mkO ?_
          walk_at "g"
          exact bad H2 e2 fun o => of_decide_eq_false c5 o.e1
        | true =>
          refine ite_f rfl ?_
          walk_at "g"
          refine ⟨_, _, _, rfl, e1.trans e2, fun k m' hk hm' => ?_⟩
          by_cases z : k < j
          · exact ih k m' z hm'
          · have e : k = j := by omega
            subst e
            rw [hst] at hm'
            cases hm'
            exact okS_iff.mpr ⟨⟨of_decide_eq_true c1, of_decide_eq_true c2⟩, (askB_ok _).mp c3, ⟨of_decide_eq_true c4, of_decide_eq_true c5⟩⟩
    · rintro σ' H' ⟨y2, y3, y4, rfl, e1, ih⟩
      refine q (fun m hm => ?_) H' e1
      obtain ⟨j, hj⟩ := List.getElem?_of_mem hm
      exact ih j m (by rw [hT.len, List.length_map]; exact (List.getElem?_eq_some_iff.mp hj).1) hj
/-! ### a machine made, or refused -/
def sp_initE (T : Tp K mg) : Sp := fun vs H Q E => ∃ (x C dx am as : Addr) (n now : Int) (ms : List Int) (us : List V) (ss : List StepD), vs = [.ref x, .int n, .ref am, .ref as, .int now] ∧ H x = some (.ins C dx []) ∧ MCls K C ∧ n.natAbs < 10 ^ 9 ∧ now.natAbs < 10 ^ 9 ∧
  SqA K H am (ms.map V.int) ∧ ms.length ≤ 1000 ∧ SqA K H as us ∧ Tups H us (ss.map stepV) ∧ ss.length ≤ 1000 ∧ (∀ s ∈ ss, s.2.1.length ≤ 1000) ∧
  (n < 1 → Rais H T.C_BadMachine "part" (.str "size") E) ∧ (200 < n → Rais H T.C_TooLarge "size" (.int n) E) ∧
  (1 ≤ n → n ≤ 200 → ((∃ m ∈ ms, ¬ (0 ≤ m ∧ m < n)) → Rais H T.C_BadMachine "part" (.str "mark") E) ∧ ((∀ m ∈ ms, 0 ≤ m ∧ m < n) →
    ((∃ s ∈ ss, ¬ OkS n s) → Rais H T.C_BadMachine "part" (.str "step") E) ∧ ((∀ s ∈ ss, OkS n s) → ∀ rows : List StepD, rows.Pairwise ltS → (∀ s, s ∈ rows ↔ s ∈ ss) →
      (600 < rows.length → Rais H T.C_TooLarge "size" (.int rows.length) E) ∧ (rows.length ≤ 600 → ¬ (0 ≤ now ∧ now < n) → Rais H T.C_BadState "state" (.int now) E) ∧
      (rows.length ≤ 600 → 0 ≤ now → now < n → ∀ m H', Made n ms ss now m → MachAt H' x C m → Ch x H H' → Q .non H'))))
theorem ok_initE (T : Tp K mg) (SO : SupOk P T.file) : FnOk P w K mg base (L2N.CX P w) 4 T.a_Machine___init__ T.d_Machine___init__ ["self", "size", "marks", "steps", "now"] (sp_initE T) := by
  have G_check_size := ok_sizeE (w := w) (base := base) T SO
  have G_check_marks := ok_marksE (w := w) (base := base) T SO
  have G_check_steps := ok_stepsE (w := w) (base := base) T SO
  have G_TooLarge := ok_TooLarge (w := w) (base := base) T SO
  have G_BadState := ok_BadState (w := w) (base := base) T SO
  have G_ascending : FnOk P w K mg base CX0 1 T.a_ascending T.d_ascending ["steps"] (sp_asc K) := ok_asc T
  have G_ends_by_ask : FnOk P w K mg base CX0 1 T.a_ends_by_ask T.d_ends_by_ask ["steps"] (sp_ends K) := ok_ends T
  have G_pairs_by_state : FnOk P w K mg base CX0 1 T.a_pairs_by_state T.d_pairs_by_state ["steps"] (sp_pairs K) := ok_pairs T
  refine fok_ND T.f_Machine___init__ sc_Machine___init__ (fun vs H Q E h => ?_) (fun cdv A outer s H vs Q E hr h => ?_)
  · obtain ⟨x, C, dx, am, as, n, now, ms, us, ss, rfl, _⟩ := h
    rfl
  · obtain ⟨x, C, dx, am, as, n, now, ms, us, ss, rfl, hx, mc, nb, wb, hM, hMl, hS, hT, hSl, hz, q1, q2, q⟩ := h
    have hu := hu_of hr
    refine ⟨_, (pss_cons (ps_expr (pe_call G_check_size (hr.mono (by decide)) (by rfl) T.g_check_size T.f_check_size.kp T.b_check_size .nil (passN (L2N.takes_of rfl rfl rfl rfl)) (pa_cons (pv 1) pa_nil)))
  (pss_cons (ps_expr (pe_call G_check_marks (hr.mono (by decide)) (by rfl) T.g_check_marks T.f_check_marks.kp T.b_check_marks .nil (passN (L2N.takes_of rfl rfl rfl rfl)) (pa_cons (pv 1) (pa_cons (pv 2) pa_nil))))
  (pss_cons (ps_expr (pe_call G_check_steps (hr.mono (by decide)) (by rfl) T.g_check_steps T.f_check_steps.kp T.b_check_steps .nil (passN (L2N.takes_of rfl rfl rfl rfl)) (pa_cons (pv 1) (pa_cons (pv 3) pa_nil))))
  (pss_cons (ps_set (i := 5) sc_Machine___init__.nd rfl (.inl rfl) (pe_call G_ascending (hr.mono (by decide)) (by rfl) T.g_ascending T.f_ascending.kp T.b_ascending .nil pass0 (pa_cons (pv 3) pa_nil)))
  (pss_cons (ps_if (pt_cmpR op_gt (pe_callB c_len (by rfl) T.n_len (by rfl) (pa_cons (pv 5) pa_nil)) (pe_gi rfl T.k_MOST_STEPS) (nomark _)) (pss_one (L2N.ps_raise rfl (L2N.takes_of rfl rfl rfl rfl) (pmk_oexN (CX := CX0) T.err_TooLarge.oex T.err_TooLarge.ini T.err_TooLarge.ti G_TooLarge (hr.mono (by decide)) T.err_TooLarge.binds .nil pass0 (by rfl) T.g_TooLarge (pa_cons (pe_callB c_len (by rfl) T.n_len (by rfl) (pa_cons (pv 5) pa_nil)) pa_nil)))) pss_nil)
  (pss_cons (ps_if (pt_not (pt_chain op_le op_lt pe_int (pv 4) (pv 1))) (pss_one (L2N.ps_raise rfl (L2N.takes_of rfl rfl rfl rfl) (pmk_oexN (CX := CX0) T.err_BadState.oex T.err_BadState.ini T.err_BadState.ti G_BadState (hr.mono (by decide)) T.err_BadState.binds .nil pass0 (by rfl) T.g_BadState (pa_cons (pv 4) pa_nil)))) pss_nil)
  (pss_cons (ps_set (i := 6) sc_Machine___init__.nd rfl (.inr rfl) (pe_dc (own := [("mark", 7)]) (g := gName 7) (tt := tYes) rfl sc_Machine___init__.nd (pi_seq (pv 2)) (blkOk_by (N := N_Machine___init__) (sc := defScope s_Machine___init__) (by decide +kernel)) (fun _ _ _ _ _ => (pg_name (i := 7) sc_Machine___init__.nd rfl (.inl rfl))) (fun _ _ _ _ _ => pts_nil) (fun _ _ _ _ _ => (pv 7)) (fun _ _ _ _ _ => pe_bl)))
  (pss_cons (ps_fld (pv 0) (pv 1) rfl)
  (pss_cons (ps_fld (pv 0) (pe_callTy c_tuple (by rfl) T.n_tuple (by rfl) (pa_cons (pe_lc (own := [("state", 8)]) (g := gName 8) rfl sc_Machine___init__.nd (pi_range1 rfl T.n_range (pa_cons (pv 1) pa_nil)) (blkOk_by (N := N_Machine___init__) (sc := defScope s_Machine___init__) (by decide +kernel)) (fun _ _ _ _ _ => (pg_name (i := 8) sc_Machine___init__.nd rfl (.inl rfl))) (fun _ _ _ _ _ => (pts_one (pt_cmp (pc_din hu (pv 8) (pv 6))))) (fun _ _ _ _ _ => (pv 8))) pa_nil)) rfl)
  (pss_cons (ps_fld (pv 0) (pv 5) rfl)
  (pss_cons (ps_fld (pv 0) (pv 4) rfl)
  (pss_cons (ps_fld (pv 0) (pe_call G_ends_by_ask (hr.mono (by decide)) (by rfl) T.g_ends_by_ask T.f_ends_by_ask.kp T.b_ends_by_ask .nil pass0 (pa_cons (pv 5) pa_nil)) rfl)
  (pss_one (ps_fld (pv 0) (pe_call G_pairs_by_state (hr.mono (by decide)) (by rfl) T.g_pairs_by_state T.f_pairs_by_state.kp T.b_pairs_by_state .nil pass0 (pa_cons (pv 5) pa_nil)) rfl)))))))))))))), ?_⟩
    walk_at "g"
    refine ⟨n, rfl, nb, q1, q2, fun n1 n2 => ?_⟩
    obtain ⟨qm, q⟩ := q n1 n2
    walk_at "g"
    refine ⟨n, am, ms, rfl, hM, qm, fun hMok => ?_⟩
    obtain ⟨qs, q⟩ := q hMok
    walk_at "g"
    refine ⟨n, as, us, ss, rfl, hS, hT, hz, qs, fun hok H1 e1 => ?_⟩
    replace q := q hok
    walk_at "g"
    refine ⟨n, as, us, ss, rfl, hS.ex e1, hT.tx (tx_ex e1), n2, hok, by omega, fun rows ws pr H2 r1 r2 r3 hpr e2 hr2 tr => ?_⟩
    obtain ⟨q601, qnow, q⟩ := q rows r1 r2
    have wl : ws.length = rows.length := by rw [tr.len, List.length_map]
    have e12 := e1.trans e2
    walk_at "g"
    refine len_t (.inl (.inl hr2)) ?_
    walk_at "g"
    refine ite_b (fun hc => ?_) (fun hc => ?_)
    · have gt : 600 < rows.length := by have := of_decide_eq_true hc; omega
      refine r_mkO ?_
      walk_at "g"
      refine len_t (.inl (.inl hr2)) ?_
      walk_at "g"
      rw [wl]
      exact mk1 e12 (fun H2 => ⟨_, rfl, by omega⟩) (q601 gt)
    have le : rows.length ≤ 600 := by have := of_decide_eq_false hc; omega
    walk_at "g"
    refine ite_b (fun hc => ?_) (fun hc => ?_)
    rotate_left
    · walk_at "g"
      refine ite_t rfl ?_
      refine r_mkO ?_
      walk_at "g"
      exact mk1 e12 (fun H2 => ⟨_, rfl, wb⟩) (qnow le fun z => of_decide_eq_false hc z.1)
    have w0 := of_decide_eq_true hc
    walk_at "g"
    cases hc2 : decide (now < n) with
    | false =>
      refine ite_t rfl ?_
      refine r_mkO ?_
      walk_at "g"
      exact mk1 e12 (fun H2 => ⟨_, rfl, wb⟩) (qnow le fun z => of_decide_eq_false hc2 z.2)
    | true =>
    have w1 := of_decide_eq_true hc2
    replace q := q le w0 w1
    refine ite_f rfl ?_
    walk_at "g"
    -- marked = {mark: True for mark in marks}
    refine dc_seq rfl (hM.ex e12) (fun D j H3 => Ex H2 H3 ∧ H2 D = none ∧ ∃ kvs, H3 D = some (.dK kvs) ∧ kvs.length ≤ j ∧ ∀ k, (valV kvs k).isSome = true ↔ k ∈ (ms.take j).map Sum.inl)
      (fun D hD => ⟨Ex.new hD, hD, [], upd_same, Nat.le_refl _, fun k => ⟨fun h => (by cases h), fun h => (by cases h)⟩⟩) (fun D j H3 p => p.1) ?_ ?_
    · rintro D j y H3 hy ⟨e3, hD, kvs, h3, kl, ks⟩
      rw [List.getElem?_map] at hy
      obtain ⟨m, hm, rfl⟩ := Option.map_eq_some_iff.mp hy
      have hj : j < ms.length := (List.getElem?_eq_some_iff.mp hm).1
      refine ⟨rfl, yes_q (ite_t rfl ?_)⟩
      walk_at "g"
      refine ⟨kvs, .inl m, rfl, h3, sz_lt (by omega), ex_upd e3 hD, hD, _, upd_same, Nat.le_trans (len_put _ _ _) (by omega), fun k => ?_⟩
      rw [valV_put, List.take_add_one, hm, List.map_append]
      by_cases z : k = .inl m
      · rw [if_pos z, z]
        exact ⟨fun _ => List.mem_append_right _ (List.mem_singleton.mpr rfl), fun _ => rfl⟩
      · rw [if_neg z, ks k]
        exact ⟨fun h => List.mem_append_left _ h, fun h => (List.mem_append.mp h).elim id fun h => absurd (List.mem_singleton.mp h) z⟩
    · rintro D H3 ⟨e3, hD, kvs, h3, kl, ks⟩
      rw [List.length_map, List.take_length] at ks
      have e13 := e12.trans e3
      walk_at "g"
      -- self.size
      refine stf_go (e13 _ _ hx) mc.cl mc.n1 (by show 0 < 1000; decide) fun H4 c4 (x4 : H4 x = some (.ins C dx [("size", .int n)])) => ?_
      have D4 : H4 D = some (.dK kvs) := c4 _ _ (ne_of h3 (e13 _ _ hx) (by intro z; cases z)) h3
      walk_at "g"
      -- self.marks
      refine lc_r (n := n) (fun y => match y with | .int k => decide (k ∈ ms) | _ => false) (fun y => y) (fun R k => ⟨_, rfl, k⟩) ⟨by omega, by omega⟩ (fun _ => rfl) ?_ ?_ fun L5 H5 hL5 e5 l5 => ?_
      · intro y hy H5 e5 R k
        unfold intsV at hy
        obtain ⟨i, hi, rfl⟩ := List.mem_map.mp hy
        walk_at "g"
        refine ⟨D, _, rfl, DGet.k (k := Sum.inl (i : Int)) (e5 _ _ D4), _, rfl, ?_⟩
        have ee : (valV kvs (Sum.inl (i : Int))).isSome = decide ((i : Int) ∈ ms) := by
          rw [Bool.eq_iff_iff, ks, decide_eq_true_iff]
          constructor
          · intro h
            obtain ⟨z, hz, e⟩ := List.mem_map.mp h
            cases e
            exact hz
          · intro h
            exact List.mem_map.mpr ⟨_, h, rfl⟩
        rw [ee]
        exact k H5 (Ex.refl _)
      · intro y hy _ H5 e5 R k
        walk_at "g"
        exact k H5 (Ex.refl _)
      · walk_at "g"
        refine tup_l (.inl (.inl l5)) fun pm H6 hpm e6 t6 => ?_
        have e46 := e5.trans e6
        walk_at "g"
        refine stf_go (e46 _ _ x4) mc.cl mc.n2 (by show 1 < 1000; decide) fun H7 c7 (x7 : H7 x = some (.ins C dx [("size", .int n), ("marks", .ref pm)])) => ?_
        walk_at "g"
        refine stf_go x7 mc.cl mc.n3 (by show 2 < 1000; decide) fun H8 c8 (x8 : H8 x = some (.ins C dx [("size", .int n), ("marks", .ref pm), ("steps", .ref pr)])) => ?_
        walk_at "g"
        refine stf_go x8 mc.cl mc.n4 (by show 3 < 1000; decide) fun H9 c9 (x9 : H9 x = some (.ins C dx [("size", .int n), ("marks", .ref pm), ("steps", .ref pr), ("now", .int now)])) => ?_
        walk_at "g"
        have nx : ∀ {H' : Hp} {a : Addr} {ys : List V} {fs : List (Str × V)}, H' x = some (.ins C dx fs) → H' a = some (.tup ys) → a ≠ x := fun h1 h2 => ne_of h2 h1 (by intro z; cases z)
        have c69 : Ch x H6 H9 := Ch.trans c7 (Ch.trans c8 c9)
        have c29 : Ch x H2 H9 := Ch.trans (ch_ex e3) (Ch.trans c4 (Ch.trans (ch_ex e46) c69))
        have pr9 : H9 pr = some (.tup ws) := c29 _ _ (nx (e12 _ _ hx) hr2) hr2
        have tr9 : Tups H9 ws (rows.map stepV) := tr.tx (tx_ins (e12 _ _ hx) c29)
        refine ⟨pr, ws, rows, rfl, .inl (.inl pr9), tr9, by omega, fun de H10 hde e10 E10 => ?_⟩
        walk_at "g"
        refine stf_go (e10 _ _ x9) mc.cl mc.n5 (by show 4 < 1000; decide) fun H11 c11 (x11 : H11 x = some (.ins C dx [("size", .int n), ("marks", .ref pm), ("steps", .ref pr), ("now", .int now), ("_ends", .ref de)])) => ?_
        walk_at "g"
        have c911 : Ch x H9 H11 := Ch.trans (ch_ex e10) c11
        have pr11 : H11 pr = some (.tup ws) := c911 _ _ (nx x9 pr9) pr9
        have tr11 : Tups H11 ws (rows.map stepV) := tr9.tx (tx_ins x9 c911)
        refine ⟨pr, ws, rows, rfl, .inl (.inl pr11), tr11, by omega, fun dp H12 hdp e12' E12 => ?_⟩
        walk_at "g"
        refine stf_go (e12' _ _ x11) mc.cl mc.n6 (by show 5 < 1000; decide) fun H13 c13 (x13 : H13 x = some (.ins C dx [("size", .int n), ("marks", .ref pm), ("steps", .ref pr), ("now", .int now), ("_ends", .ref de), ("_pairs", .ref dp)])) => ?_
        have c1113 : Ch x H11 H13 := Ch.trans (ch_ex e12') c13
        have c613 : Ch x H6 H13 := Ch.trans c69 (Ch.trans c911 c1113)
        have t6' : H6 pm = some (.tup ((marksF n ms).map V.int)) := by
          rw [t6, List.map_id']
          unfold intsV marksF
          rw [List.filter_map, List.filter_map, List.map_map]
          rfl
        refine q ⟨n, marksF n ms, rows, now⟩ H13 ⟨rfl, rfl, r1, r2, r3, rfl⟩ ⟨dx, pm, pr, de, dp, ws, x13, ?_, ?_, ?_, ?_, ?_⟩ ?_
        · exact c613 _ _ (nx (e46 _ _ x4) t6') t6'
        · exact c1113 _ _ (nx x11 pr11) pr11
        · exact tr11.tx (tx_ins x11 c1113)
        · exact (E10.ch (e10 _ _ x9) c11).ch x11 c1113
        · exact E12.ch (e12' _ _ x11) c13
        · exact Ch.trans (ch_ex e12) (Ch.trans c29 (Ch.trans c911 c1113))
end

end K14

set_option Elab.async false
set_option linter.all false
set_option maxRecDepth 100000
set_option maxHeartbeats 2000000
/-! a list walked to its end while an exception is handled: a comprehension of int(..), sum -/
namespace AE
open PySem PySem.Spec PyProof.Rows L2 Evl HotX
section
variable {prog : Program} {w : World} {A : Around} {E : Value → Shared → Prop} {s : Shared}
/-- the list's end: the StopIteration that is made here stands in the handled one's context -/
theorem endHot {I L y : Addr} {k : Nat} {us : Array Value} {Q : Option Value → Shared → Prop} (hot : HotAt A y s.heap) (at_ : s.heap.IsListIter I L k) (ls : s.heap.IsList L us) (over : us[k]? = none) (nIy : I ≠ y)
    (q : ∀ h2, Heap.ExtBut I s.heap h2 → Q none { s with heap := h2 }) : wpAny (model prog w) A (pyNext (.ref I)) Q E s := by
  obtain ⟨oi, gi, ci, di⟩ := id at_
  obtain ⟨oL, gL, _, nL, dL⟩ := ls
  obtain ⟨hh, oy, vy, gy, dy, cy⟩ := hot
  unfold pyNext
  refine wpAny_bind (wpAny_attempt (wpAny_callSpecial?_slot (name := Str.ofString "__next__") at_.typeIs slot_listiter_next (wpAny_call_entry slot_listiter_next at_.typeIs entry_listiter_next ?_ (args_listiter_next _))))
  show wpAny _ _ (field (.ref I) 0 >>= _) _ _ s
  refine wpAny_bind (wpAny_field gi di (x := .ref L) rfl ?_)
  show wpAny _ _ (if (Value.ref L == Value.none) = true then _ else _) _ _ s
  rw [if_neg (show ¬ ((Value.ref L == Value.none) = true) by simp)]
  show wpAny _ _ (field (.ref I) 1 >>= _) _ _ s
  refine wpAny_bind (wpAny_field gi di (x := .int k 0) rfl ?_)
  show wpAny _ _ (seqItems? (.ref L) >>= _) _ _ s
  refine wpAny_bind (wpAny_seqItems gL dL ?_)
  simp only [Int.toNat_natCast, over]
  refine wpAny_bind (wpAny_rule (wpAny_bind (wpAny_setField gi di (by simp) (show wpAny _ _ (newExc (.type "StopIteration") [] >>= _) _ _ _ from wpAny_bind ?_))))
  simp only [newExc, newTuple]
  refine wpAny_bind (wpAny_newObj_type (wpAny_bind (m := firstArgMember _ _) (wpAny_of_eq (a := Value.none) (by first | rfl | (simp only [firstArgMember]; rfl)) (wpAny_newObj_type ?_ (by size_fits)))) (by size_fits))
  have gy2 := Heap.get?_push_of_some { cls := .type "tuple", data := .seq ([] : List Value).toArray } ((Heap.get?_update_other s.heap (Obj.mapFields (·.setIfInBounds 0 .none)) nIy).trans gy)
  refine raiseNew_hot ⟨hh, oy, vy, Heap.get?_push_of_some _ gy2, dy, cy⟩ (Nat.ne_of_lt (Heap.lt_size gy2)) (Heap.get?_push_size _ rfl) rfl (by first | (simp; done) | (simp; omega) | (simp only [Array.size_append]; simp; omega)) ?_
  refine wpAny_bind (wpAny_isInstance (T := "StopIteration") (b := true) ⟨_, Heap.get?_update_self _ (Heap.get?_push_size _ rfl) rfl, rfl⟩ isSubtype_stop (wpAny_pure (q _ fun b o nb e => ?_)))
  have e2 := (Heap.get?_update_other s.heap (Obj.mapFields (·.setIfInBounds 0 .none)) (Ne.symm nb)).trans e
  rw [Heap.get?_update_other _ _ (Nat.ne_of_gt (Heap.lt_size (Heap.get?_push_of_some _ e2)))]
  exact Heap.get?_push_of_some _ (Heap.get?_push_of_some _ e2)
def HotSt (A : Around) (I L y : Addr) (us : Array Value) (k : Nat) (h : Heap) : Prop := h.IsListIter I L k ∧ h.IsList L us ∧ HotAt A y h
theorem walksHot {I L y : Addr} {us : Array Value} (nLI : L ≠ I) (nIy : I ≠ y) : Walks prog w A I [I, L, y] [I] us.size (fun k v => us[k]? = some v) (HotSt A I L y us) where
  sub := fun b hb => List.mem_cons.mpr ((List.mem_cons.mp hb).imp id fun z => nomatch z)
  frame := fun k h h2 st up => ⟨st.1.at fun o e => up I (by simp) o e, st.2.1.at fun o e => up L (by simp) o e, st.2.2.1, st.2.2.2.elim fun o z => z.elim fun vs z => ⟨o, vs, up y (by simp) o z.1, z.2⟩⟩
  item := fun k s Q E lt st go => by
    refine wpAny_pyNext_list_item st.1 st.2.1 (x := us[k]) (by simp [lt]) fun h2 at2 sb => ?_
    refine go _ h2 s.toks (by simp [lt]) ⟨at2, st.2.1.extBut sb.extBut nLI, st.2.2.1, st.2.2.2.elim fun o z => z.elim fun vs z => ⟨o, vs, sb.extBut y o (Ne.symm nIy) z.1, z.2⟩⟩ fun b o nb e => sb.extBut b o (fun z => nb (by simp [z])) e
  done := fun s Q E st go => endHot st.2.2 st.1 st.2.1 (by simp) nIy fun h2 up => go h2 s.toks fun b o nb e => up b o (fun z => nb (by simp [z])) e
  self := fun _ _ _ _ st go => wpAny_pyIter_listiter st.1 go
/-- a list's iterator, its walk -/
theorem iterHot {L y : Addr} {us : Array Value} {Q : Value → Shared → Prop} (hot : HotAt A y s.heap) (ls : s.heap.IsList L us)
    (q : ∀ I s2, s2 = { s with heap := s.heap.push { cls := .type "list_iterator", data := .fields #[.ref L, .int 0 0] } } → I = s.heap.objs.size → Walks prog w A I [I, L, y] [I] us.size (fun k v => us[k]? = some v) (HotSt A I L y us) → HotSt A I L y us 0 s2.heap → (∀ b ∈ [I, L, y], b < s2.heap.objs.size) →
      (∀ {h2 : Heap}, (∀ b o, b ∉ [I] → s2.heap.get? b = some o → h2.get? b = some o) → ∀ b o, s.heap.get? b = some o → h2.get? b = some o) → Q (.ref I) s2) : wpAny (model prog w) A (pyIter (.ref L)) Q E s := by
  have lL : L < s.heap.objs.size := ls.elim fun _ z => Heap.lt_size z.1
  have ly : y < s.heap.objs.size := hot.2.elim fun _ z => z.elim fun _ z => Heap.lt_size z.1
  refine wpAny_pyIter_list ls (q _ _ rfl rfl (walksHot (Nat.ne_of_lt lL) (Nat.ne_of_gt ly)) ⟨⟨_, Heap.get?_push_size _ rfl, rfl, rfl⟩, ls.push _, hot.1, hot.2.elim fun o z => z.elim fun vs z => ⟨o, vs, Heap.get?_push_of_some _ z.1, z.2⟩⟩ (fun b hb => ?_) fun up b o e => up b o (fun z => ?_) (Heap.get?_push_of_some _ e))
  · show b < (s.heap.push _).objs.size
    rw [Heap.size_push]
    have z : b = s.heap.objs.size ∨ b = L ∨ b = y := by simpa using hb
    rcases z with z | z | z
    · exact z ▸ Nat.lt_succ_self _
    · exact z ▸ Nat.lt_succ_of_lt lL
    · exact z ▸ Nat.lt_succ_of_lt ly
  · have l := Heap.lt_size e
    have z : b = s.heap.objs.size := by simpa using z
    exact absurd (z ▸ l) (Nat.lt_irrefl _)
end
section
variable {X : Cx}
theorem cr_sumH (hc : L2H.HotC X) : CallR X (.builtin "sum") (rSum X.K) := by
  rintro pins s σ H vs us Q I r ⟨a, ns, rfl, sq, q⟩
  obtain ⟨its, rv, pl, _⟩ := I.list sq
  obtain ⟨y, hot⟩ := hc.at I
  rw [Vals.ref1 r]
  obtain ⟨xs, ex⟩ := rv.ints.allInts.items
  have hn : numsOf (intItems xs).toList = ns := by rw [← ex]; exact rv.ints.numsOf
  rw [nums_intItems] at hn
  refine call_sum_walkG (iterHot (A := X.A.in1) ⟨hot.1, hot.2⟩ pl.isList fun J s2 e2 eJ wk st lt old => ?_)
  refine ⟨J, _, _, _, _, _, numAt xs, rfl, wk, st, lt, fun k v hv => intItems_at (ex ▸ hv), fun h2 tk t up => ⟨.int ns.sum, H, ?_, ?_, q⟩⟩
  · subst e2
    exact I.kept (old up)
  · have sz : its.toArray.size = xs.size := by rw [ex]; simp [intItems]
    refine ⟨t, ?_⟩
    rw [sz, preSum_eq, List.take_of_length_le (by simp), hn]
def i01 (b : Bool) : Int := if b then 1 else 0
/-- [int(x) for x in a list of bools] -/
def tIntsH (K : PySem.W.Frag) (ti : TE) : TE := fun σ H Q => ti σ H fun v H1 => ∃ (a : Addr) (bs : List Bool), v = .ref a ∧ SqL K H1 a (bs.map V.bl) ∧ ∀ D, H1 D = none → Q (.ref D) (upd H1 D (.lst (bs.map fun b => V.int (i01 b))))
theorem pe_intsH {x : Str} {px p1 p2 p3 pos : Pos} {iter : Expr} {ti : TE} {sc : Scope} (hc : L2H.HotC X) (hi : PE X iter ti) (nf : ∀ y ∈ sc.names, y.2 ≠ .free) (nc : ∀ y ∈ sc.names, y.2 ≠ .cell) (kd : sc.kind = .function)
    (nl : ∀ y ∈ sc.names, y.2 = .local → sc.names.lookup y.1 = some .local) (hx : sc.names.lookup x = some .local) (gi : sc.names.lookup ("int" : Str) = some .globalImplicit) (hd : (x == ("__debug__" : Str)) = false := by decide) (hm : X.mg "int" = none) (hs : ∀ v, foldedSetIterable iter X.env v = pure v := by intro _; rfl) :
    PE X (.ListComp (.Call (.Name "int" p1) [.Name x p2] [] p3) [⟨.Name x px, iter, [], 0⟩] sc pos) (tIntsH X.K ti) := by
  refine ⟨fun pins s σ H Q I h => wpAny_ListComp_walk (fun _ => true) (fun v y => ∃ b, v = .bool b ∧ ∃ t, y = .int (i01 b) t) nf nc kd nl hx (thn (hi.run pins s σ H _ I h) fun u s1 ⟨v, H1, I1, rv, a, bs, ev, sq, q⟩ => ?_) hs⟩
  subst ev
  obtain rfl : u = Value.ref a := rv
  obtain ⟨its, rvs, pl, hz⟩ := I1.list sq
  obtain ⟨y, hot⟩ := hc.at I1
  have eb : its = bs.map Value.bool := Vals.bls rvs
  refine iterHot hot pl.isList fun J s2 e2 eJ wk st lt old => ⟨J, _, _, _, _, _, rfl, wk, ?_, st, lt, ⟨?_, ?_⟩, ?_⟩
  · have l := rvs.length
    show its.toArray.size ≤ sizeLine
    rw [List.size_toArray, ← l]
    exact hz
  · intro C k v s3 m3 E' hv hns hx3 up tk
    exact wpAny_pure ⟨rfl, s3.heap, s3.toks, rfl, fun _ _ e => e⟩
  · intro C k v s3 m3 E' hv _ hns hx3 up tk
    have hb : ∃ b : Bool, v = .bool b := by
      rw [eb, List.getElem?_toArray, List.getElem?_map] at hv
      obtain ⟨b, _, z⟩ := Option.map_eq_some_iff.mp hv
      exact ⟨b, z.symm⟩
    obtain ⟨b, rfl⟩ := hb
    subst e2
    have up3 : ∀ b o, s1.heap.get? b = some o → s3.heap.get? b = some o := old up
    obtain ⟨mb, h1, h2⟩ := I1.mod.blt
    refine wpAny_Call_Name_kw (Calls.Name_function_global (env := compEnv sc C X.env) kd gi (Calls.loadGlobal_builtin (mg := X.mg) (mb := mb) ?_ hm ?_ ((h2 "int" (by decide)).trans rfl) ?_))
    · show s3.heap.Ns X.env.globals X.mg
      rw [I.ok.glob]
      exact (I1.mod.glob.keeps I1.bk).keeps up3
    · show s3.heap.Ns X.env.builtins mb
      rw [I.ok.blt]
      exact (h1.keeps I1.bk).keeps up3
    · refine callWith_type1 (Calls.spliced_cons ?_) rfl rfl
      show wpAny _ _ (eval (.Name x p2) (compEnv sc C X.env)) _ _ _
      refine wpAny_Name ?_ hd
      exact wpAny_loadName_local kd hx hns hx3 (Calls.spliced_nil (call_int_bool ⟨⟨b, rfl, _, rfl⟩, s3.heap, _, rfl, fun _ _ e => e⟩))
  · intro D h2 tk ys vs nD lD pD lv pv pr up
    subst e2
    have up1 : ∀ b o, s1.heap.get? b = some o → h2.get? b = some o := old up
    have nD1 : s1.heap.get? D = none := by
      cases z : s1.heap.get? D with
      | none => rfl
      | some o =>
        have z2 := Heap.get?_push_of_some { cls := .type "list_iterator", data := .fields #[.ref a, .int 0 0] } z
        rw [nD] at z2
        cases z2
    have hn : H1 D = none := I1.hok.gone nD1
    have ev : vs = its := by
      refine List.ext_getElem? fun j => ?_
      cases z : vs[j]? with
      | some v =>
        have z2 := pv j v z
        rw [List.getElem?_toArray] at z2
        exact z2.symm
      | none =>
        have z2 := List.getElem?_eq_none_iff.mp z
        rw [lv, List.size_toArray] at z2
        exact (List.getElem?_eq_none_iff.mpr z2).symm
    rw [List.filter_eq_self.mpr (fun _ _ => rfl), ev, eb] at pr
    have rel : ∀ {l : List Bool} {us : List Value}, Paired (fun v y => ∃ b, v = Value.bool b ∧ ∃ t, y = Value.int (i01 b) t) (l.map Value.bool) us → Vals (l.map fun b => V.int (i01 b)) us := by
      intro l
      induction l with
      | nil =>
        intro us z
        cases z
        exact .nil
      | cons b l ih =>
        intro us z
        cases z with
        | cons h t =>
          obtain ⟨c, e, tt, e2⟩ := h
          cases e
          exact .cons ⟨tt, e2⟩ (ih t)
    obtain ⟨nn, eD⟩ := pD
    refine ⟨.ref D, _, I1.laidN (o := .lst (bs.map fun b => V.int (i01 b))) up1 nD1 hn ⟨?_, ys.toList, nn, rel pr, by rw [Array.toArray_toList]; exact eD⟩, rfl, q D hn⟩
    rw [List.length_map]
    rw [List.length_map] at hz
    exact hz
end
end AE
namespace AE
open PySem PySem.Spec PyProof.Rows L2 Evl
theorem ints_go {K : PySem.W.Frag} {i : Nat} {L : Addr} {bs : List Bool} {σ : L2.St} {H : Hp} {Q : VK} (v : σ[i]? = some (some (.ref L))) (h : H L = some (.lst (bs.map V.bl))) (q : ∀ D H1, H D = none → Ex H H1 → H1 D = some (.lst ((bs.map i01).map V.int)) → Q (.ref D) H1) : tIntsH K (tVar i) σ H Q :=
  ⟨_, v, L, bs, rfl, SqL.of h, fun D nD => q D _ nD (Ex.new nD) (by rw [upd_same, List.map_map]; rfl)⟩
theorem sum_go {K : PySem.W.Frag} {D : Addr} {ns : List Int} {H : Hp} {Q : VK} (h : H D = some (.lst (ns.map V.int))) (q : Q (.int ns.sum) H) : rSum K [.ref D] H Q := ⟨D, ns, rfl, SqL.of h, q⟩
end AE

set_option Elab.async false
set_option linter.all false
set_option maxRecDepth 100000
set_option maxHeartbeats 2000000
namespace K14
open PySem PySem.Spec PyProof.Rows L2 Evl AE
local macro_rules | `(tactic| walk_at "c") => `(tactic| first | exact ⟨by decide, by decide⟩ | exact .inr ⟨by decide, by decide⟩ | exact .inl ⟨by decide, by decide⟩ | exact ⟨by decide, by decide, by decide⟩ | (show (0 : Int) < _; decide))
local macro_rules | `(tactic| walk_at "s") => `(tactic| first
  | (with_reducible refine r_var rfl ?_) | (with_reducible refine r_c ?_) | (with_reducible refine r_op ?_) | (with_reducible refine r_un ?_) | (with_reducible refine r_I0 ?_) | (with_reducible refine r_U ?_)
  | (with_reducible refine r_eq rfl ?_) | (with_reducible refine r_ne rfl ?_) | (with_reducible refine r_chain ?_) | (with_reducible refine r_test ?_) | (with_reducible refine r_tB ?_)
  | (with_reducible refine r_bl ?_) | (with_reducible refine r_and ?_) | (with_reducible refine r_or ?_) | (with_reducible refine r_not ?_) | (with_reducible refine r_nil ?_) | (with_reducible refine r_cons ?_)
  | (with_reducible refine r_tupK ?_) | (with_reducible refine r_lstK ?_) | (with_reducible refine r_cb ?_) | (with_reducible refine r_revL ?_) | (with_reducible refine r_ost ?_) | (with_reducible refine r_mkO ?_) | (with_reducible refine r_makeK ?_) | (with_reducible refine r_make ?_) | (with_reducible refine r_setdN ?_) | (with_reducible refine r_nget2 ?_) | (with_reducible refine r_nnew ?_) | (with_reducible refine r_call ?_) | (with_reducible refine r_seq ?_) | (with_reducible refine r_set ?_)
  | (with_reducible refine r_drop ?_) | (with_reducible refine r_ret ?_) | (with_reducible refine r_next ?_) | (with_reducible refine r_if ?_) | (with_reducible refine r_sl ?_) | (with_reducible refine r_nop ?_) | (with_reducible refine r_prt ?_) | (with_reducible refine r_some ?_)
  | (with_reducible refine add_int ?_) | (with_reducible refine int_i ?_) | (with_reducible refine r_forR1 ?_) | (with_reducible refine r_forR2 ?_) | (with_reducible refine r_meth ?_) | (with_reducible refine r_makeS ?_) | (with_reducible refine r_opS ?_) | (with_reducible refine r_makeRS ?_) | (with_reducible refine r_methH ?_) | (with_reducible refine r_callS ?_) | (with_reducible refine r_forL ?_) | (with_reducible refine r_andV ?_) | (with_reducible refine r_orV ?_) | (with_reducible refine r_notV ?_) | (with_reducible refine r_ifE ?_) | (with_reducible refine r_lcL ?_) | (with_reducible refine r_fld ?_) | (with_reducible refine r_get ?_) | (with_reducible refine r_din ?_) | (with_reducible refine r_dget2 ?_) | ((with_reducible refine r_I ?_ ?_); (walk_at "c")))
local macro_rules | `(tactic| walk_at "g") => `(tactic| repeat walk_at "s")
section
variable {P : Program} {w : World} {K : PySem.W.Frag} {mg : Str → Option Value} {base : Heap}
/-- which of the three the caught error is -/
structure Knd (T : Tp K mg) (C : Addr) : Prop where
  ex : ExcC K C
  xf : XfC K C
  al : PySem.W.kitOne K (.ref C) (.ref T.C_AsksError) = some true
  ve : PySem.W.kitOne K (.ref C) (.type "ValueError") = some true
  one : ∃ b1 b2 b3 : Bool, PySem.W.kitOne K (.ref C) (.ref T.C_BadMachine) = some b1 ∧ PySem.W.kitOne K (.ref C) (.ref T.C_TooLarge) = some b2 ∧ PySem.W.kitOne K (.ref C) (.ref T.C_BadState) = some b3 ∧ i01 b1 + (i01 b2 + i01 b3) = 1
theorem knd_m (T : Tp K mg) : Knd T T.C_BadMachine := ⟨T.err_BadMachine.ex, T.err_BadMachine.xf, T.ik_BadMachine_AsksError, T.ik_BadMachine_V, true, false, false, T.ik_BadMachine_BadMachine, T.ik_BadMachine_TooLarge, T.ik_BadMachine_BadState, rfl⟩
theorem knd_l (T : Tp K mg) : Knd T T.C_TooLarge := ⟨T.err_TooLarge.ex, T.err_TooLarge.xf, T.ik_TooLarge_AsksError, T.ik_TooLarge_V, false, true, false, T.ik_TooLarge_BadMachine, T.ik_TooLarge_TooLarge, T.ik_TooLarge_BadState, rfl⟩
theorem knd_s (T : Tp K mg) : Knd T T.C_BadState := ⟨T.err_BadState.ex, T.err_BadState.xf, T.ik_BadState_AsksError, T.ik_BadState_V, false, false, true, T.ik_BadState_BadMachine, T.ik_BadState_TooLarge, T.ik_BadState_BadState, rfl⟩
def sp_kinds (T : Tp K mg) (a : Addr) (cls : Value) (d : Option Addr) : Sp := fun vs H Q _ => ∃ (C dd : Addr) (fs : List (Str × V)), vs = [.ref a] ∧ cls = .ref C ∧ Knd T C ∧ d = some dd ∧ H dd = some (.xd fs) ∧ ∀ H', Ex H H' → Q (.bl true) H'
theorem okP_kinds (T : Tp K mg) : FnP P w K mg base CX0 2 T.a__law_kinds T.d__law_kinds ["_law_e"] (sp_kinds T) := by
  refine fn_ofP T.f__law_kinds sc__law_kinds (fun a cls d vs H Q E h => ?_) (fun cdv A fr s H vs Q E p cls d hot hz hr h => ?_)
  · obtain ⟨C, dd, fs, rfl, _⟩ := h
    rfl
  · obtain ⟨C, dd, fs, rfl, rfl, kd, rfl, hd, q⟩ := h
    obtain ⟨ea, oe⟩ := p
    have hf : ∃ vs, oe.data = .fields vs := ⟨_, hot.2.choose_spec.1⟩
    have hex := kd.ex
    obtain ⟨b1, b2, b3, k1, k2, k3, one⟩ := kd.one
    refine ⟨_, (pss_cons (ps_set (i := 1) sc__law_kinds.nd rfl (.inl rfl) (pe_lst (pa_cons (pe_callB (call_isP (List.mem_singleton.mpr rfl) hex hz hf) (by rfl) T.n_isinstance (by rfl) (pa_cons (pv 0) (pa_cons (pe_glob rfl T.g_BadMachine (show RelV (.ref T.C_BadMachine) (.ref T.C_BadMachine) from rfl)) pa_nil))) (pa_cons (pe_callB (call_isP (List.mem_singleton.mpr rfl) hex hz hf) (by rfl) T.n_isinstance (by rfl) (pa_cons (pv 0) (pa_cons (pe_glob rfl T.g_TooLarge (show RelV (.ref T.C_TooLarge) (.ref T.C_TooLarge) from rfl)) pa_nil))) (pa_cons (pe_callB (call_isP (List.mem_singleton.mpr rfl) hex hz hf) (by rfl) T.n_isinstance (by rfl) (pa_cons (pv 0) (pa_cons (pe_glob rfl T.g_BadState (show RelV (.ref T.C_BadState) (.ref T.C_BadState) from rfl)) pa_nil))) pa_nil)))))
  (pss_one (ps_ret (pe_and (pe_callB (call_isP (List.mem_singleton.mpr rfl) hex hz hf) (by rfl) T.n_isinstance (by rfl) (pa_cons (pv 0) (pa_cons (pe_glob rfl T.g_AsksError (show RelV (.ref T.C_AsksError) (.ref T.C_AsksError) from rfl)) pa_nil))) (pe_and (pe_callB (call_isP (List.mem_singleton.mpr rfl) hex hz hf) (by rfl) T.n_isinstance (by rfl) (pa_cons (pv 0) (pa_cons (pe_bltn (by rfl) T.n_ValueError (by decide +kernel) (show RelV (.ty "ValueError") (.type "ValueError") from rfl)) pa_nil))) (pe_one (pe_cmpR op_eq (pe_callB (cr_sumH ⟨_, hot, List.mem_singleton.mpr rfl⟩) (by rfl) T.n_sum (by rfl) (pa_cons (pe_intsH ⟨_, hot, List.mem_singleton.mpr rfl⟩ (pv 1) (by decide +kernel) (by decide +kernel) rfl (by decide +kernel) rfl rfl rfl T.n_int) pa_nil)) pe_int (nomark _)))))))), ?_⟩
    walk_at "g"
    refine isx_go hd (fun _ z => z) k1 ?_
    walk_at "g"
    refine isx_go hd (fun _ z => z) k2 ?_
    walk_at "g"
    refine isx_go hd (fun _ z => z) k3 ?_
    walk_at "g"
    refine lst_go fun L H1 nL e1 hL => ?_
    have hd1 := e1 _ _ hd
    walk_at "g"
    refine isx_go hd1 (fun _ z => z) kd.al ⟨_, rfl, ite_t rfl ?_⟩
    walk_at "g"
    refine isx_go hd1 (fun _ z => z) kd.ve ⟨_, rfl, ite_t rfl ?_⟩
    walk_at "g"
    refine ints_go (bs := [b1, b2, b3]) rfl hL fun D H2 nD e2 hD => ?_
    walk_at "g"
    refine sum_go hD ?_
    walk_at "g"
    have hs : (List.map i01 [b1, b2, b3]).sum = 1 := by
      show i01 b1 + (i01 b2 + (i01 b3 + 0)) = 1
      omega
    rw [hs]
    exact q H2 (e1.trans e2)
end

end K14

set_option Elab.async false
set_option linter.all false
set_option maxRecDepth 100000
set_option maxHeartbeats 2000000
namespace K14
open PySem PySem.Spec PyProof.Rows L2 Evl AE
local macro_rules | `(tactic| walk_at "c") => `(tactic| first | exact ⟨by decide, by decide⟩ | exact .inr ⟨by decide, by decide⟩ | exact .inl ⟨by decide, by decide⟩ | exact ⟨by decide, by decide, by decide⟩ | (show (0 : Int) < _; decide))
local macro_rules | `(tactic| walk_at "s") => `(tactic| first
  | (with_reducible refine r_var rfl ?_) | (with_reducible refine r_c ?_) | (with_reducible refine r_op ?_) | (with_reducible refine r_un ?_) | (with_reducible refine r_I0 ?_) | (with_reducible refine r_U ?_)
  | (with_reducible refine r_eq rfl ?_) | (with_reducible refine r_ne rfl ?_) | (with_reducible refine r_chain ?_) | (with_reducible refine r_test ?_) | (with_reducible refine r_tB ?_)
  | (with_reducible refine r_bl ?_) | (with_reducible refine r_and ?_) | (with_reducible refine r_or ?_) | (with_reducible refine r_not ?_) | (with_reducible refine r_nil ?_) | (with_reducible refine r_cons ?_)
  | (with_reducible refine r_tupK ?_) | (with_reducible refine r_lstK ?_) | (with_reducible refine r_cb ?_) | (with_reducible refine r_revL ?_) | (with_reducible refine r_ost ?_) | (with_reducible refine r_mkO ?_) | (with_reducible refine r_makeK ?_) | (with_reducible refine r_make ?_) | (with_reducible refine r_setdN ?_) | (with_reducible refine r_nget2 ?_) | (with_reducible refine r_nnew ?_) | (with_reducible refine r_call ?_) | (with_reducible refine r_seq ?_) | (with_reducible refine r_set ?_)
  | (with_reducible refine r_drop ?_) | (with_reducible refine r_ret ?_) | (with_reducible refine r_next ?_) | (with_reducible refine r_if ?_) | (with_reducible refine r_sl ?_) | (with_reducible refine r_nop ?_) | (with_reducible refine r_prt ?_) | (with_reducible refine r_some ?_)
  | (with_reducible refine add_int ?_) | (with_reducible refine int_i ?_) | (with_reducible refine r_forR1 ?_) | (with_reducible refine r_forR2 ?_) | (with_reducible refine r_meth ?_) | (with_reducible refine r_makeS ?_) | (with_reducible refine r_opS ?_) | (with_reducible refine r_makeRS ?_) | (with_reducible refine r_methH ?_) | (with_reducible refine r_callS ?_) | (with_reducible refine r_forL ?_) | (with_reducible refine r_andV ?_) | (with_reducible refine r_orV ?_) | (with_reducible refine r_notV ?_) | (with_reducible refine r_ifE ?_) | (with_reducible refine r_lcL ?_) | (with_reducible refine r_fld ?_) | (with_reducible refine r_get ?_) | (with_reducible refine r_din ?_) | (with_reducible refine r_dget2 ?_) | ((with_reducible refine r_I ?_ ?_); (walk_at "c")))
local macro_rules | `(tactic| walk_at "g") => `(tactic| repeat walk_at "s")
section
variable {P : Program} {w : World} {K : PySem.W.Frag} {mg : Str → Option Value} {base : Heap}
theorem none_ex {H H' : Hp} {y : Addr} (e : Ex H H') (h : H' y = none) : H y = none := by
  cases z : H y with
  | none => rfl
  | some o =>
    rw [e _ _ z] at h
    cases h
def sp_whole : Sp := fun vs H Q _ => ∃ k : Int, vs = [.int k] ∧ Q (.bl true) H
theorem okH_whole (T : Tp K mg) : L2H.FnH P w K mg base CX0 1 T.a__law_whole T.d__law_whole ["_law_x"] sp_whole := by
  obtain ⟨oc, od, kV, doc, pm, an, cdv, ct, osl, hfd, lk, hcd⟩ := T.f__law_whole.ex
  rw [hfd]
  rw [hfd] at lk
  refine L2H.fn_ofH lk hcd sc__law_whole (fun vs H Q E h => ?_) (fun A outer s H vs Q E p hot hr h => ?_)
  · obtain ⟨k, rfl, _⟩ := h
    rfl
  · obtain ⟨k, rfl, q⟩ := h
    refine ⟨_, (pss_one (ps_ret (pe_and (pe_callB c_isinstance (by rfl) T.n_isinstance (by rfl) (pa_cons (pv 0) (pa_cons (pe_bltn (by rfl) T.n_int (by rfl) (show RelV (.ty "int") (.type "int") from rfl)) pa_nil))) (pe_one (pe_not (pe_callB c_isinstance (by rfl) T.n_isinstance (by rfl) (pa_cons (pv 0) (pa_cons (pe_bltn (by rfl) T.n_bool (by rfl) (show RelV (.ty "bool") (.type "bool") from rfl)) pa_nil)))))))), ?_⟩
    walk_at "g"
    refine ⟨_, _, _, _, true, rfl, .ty _, .base (.int k), rfl, ?_⟩
    walk_at "g"
    refine ite_t rfl ?_
    walk_at "g"
    refine ⟨_, _, _, _, false, rfl, .ty _, .base (.int k), rfl, ?_⟩
    walk_at "g"
    exact q
/-! ### what a making is to end in -/
def MadeW (n now : Int) (ms : List Int) (ss : List StepD) (fin : Str → V → Prop) : Prop :=
  (n < 1 → fin "machine" (.str "size")) ∧ (200 < n → fin "large" (.int n)) ∧
  (1 ≤ n → n ≤ 200 → ((∃ m ∈ ms, ¬ (0 ≤ m ∧ m < n)) → fin "machine" (.str "mark")) ∧ ((∀ m ∈ ms, 0 ≤ m ∧ m < n) →
    ((∃ s ∈ ss, ¬ OkS n s) → fin "machine" (.str "step")) ∧ ((∀ s ∈ ss, OkS n s) → ∀ rows : List StepD, rows.Pairwise ltS → (∀ s, s ∈ rows ↔ s ∈ ss) →
      (600 < rows.length → fin "large" (.int rows.length)) ∧ (rows.length ≤ 600 → ¬ (0 ≤ now ∧ now < n) → fin "state" (.int now)) ∧ (rows.length ≤ 600 → 0 ≤ now → now < n → fin "built" (.int n)))))
theorem made0 : MadeW 1 0 [] [] fun t _ => t = "built" := by
  refine ⟨fun z => absurd z (by decide), fun z => absurd z (by decide), fun _ _ => ⟨(fun ⟨_, z, _⟩ => nomatch z), fun _ => ⟨(fun ⟨_, z, _⟩ => nomatch z), fun _ rows _ r => ?_⟩⟩⟩
  have e : rows = [] := List.eq_nil_iff_forall_not_mem.mpr fun s hs => nomatch (r s).mp hs
  rw [e]
  exact ⟨fun z => absurd z (by decide), fun _ z => absurd ⟨by decide, by decide⟩ z, fun _ _ _ => rfl⟩
theorem init_go {T : Tp K mg} {x C dx am as : Addr} {n now : Int} {ms : List Int} {us : List V} {ss : List StepD} {H : Hp} {Q : VK} {E : XK} {fin : Str → V → Prop} {vs : List V} (ev : vs = [.ref x, .int n, .ref am, .ref as, .int now]) (hx : H x = some (.ins C dx [])) (mc : MCls K C) (nb : n.natAbs < 10 ^ 9) (wb : now.natAbs < 10 ^ 9)
    (hm : SqA K H am (ms.map V.int)) (hml : ms.length ≤ 1000) (hs : SqA K H as us) (ht : Tups H us (ss.map stepV)) (hsl : ss.length ≤ 1000) (hz : ∀ s ∈ ss, s.2.1.length ≤ 1000) (want : MadeW n now ms ss fin)
    (em : ∀ v, fin "machine" (.str v) → Rais H T.C_BadMachine "part" (.str v) E) (el : ∀ v, fin "large" (.int v) → Rais H T.C_TooLarge "size" (.int v) E) (es : ∀ v, fin "state" (.int v) → Rais H T.C_BadState "state" (.int v) E)
    (ok : fin "built" (.int n) → ∀ m H', m.size = n → MachAt H' x C m → Ch x H H' → Q .non H') : sp_initE T vs H Q E := by
  obtain ⟨w1, w2, w3⟩ := want
  refine ⟨x, C, dx, am, as, n, now, ms, us, ss, ev, hx, mc, nb, wb, hm, hml, hs, ht, hsl, hz, fun h => em _ (w1 h), fun h => el _ (w2 h), fun n1 n2 => ?_⟩
  obtain ⟨w4, w5⟩ := w3 n1 n2
  refine ⟨fun h => em _ (w4 h), fun h => ?_⟩
  obtain ⟨w6, w7⟩ := w5 h
  refine ⟨fun h => em _ (w6 h), fun h rows r1 r2 => ?_⟩
  obtain ⟨w8, w9, w10⟩ := w7 h rows r1 r2
  exact ⟨fun h => el _ (w8 h), fun h1 h2 => es _ (w9 h1 h2), fun h1 h2 h3 m H' md ma ch => ok (w10 h1 h2 h3) m H' md.1 ma ch⟩
def Fin (H : Hp) (Q : VK) (tag : Str) (v : V) : Prop := ∀ p H', H p = none → Ex H H' → H' p = some (.tup [.str tag, .bl true, v]) → Q (.ref p) H'
def sp_made (T : Tp K mg) : Sp := fun vs H Q _ => ∃ (c n now : Int) (am as : Addr) (ms : List Int) (us : List V) (ss : List StepD), vs = [.int c, .int n, .ref am, .ref as, .int now] ∧ n.natAbs < 10 ^ 9 ∧ now.natAbs < 10 ^ 9 ∧
  SqA K H am (ms.map V.int) ∧ ms.length ≤ 1000 ∧ SqA K H as us ∧ Tups H us (ss.map stepV) ∧ ss.length ≤ 1000 ∧ (∀ s ∈ ss, s.2.1.length ≤ 1000) ∧ MadeW n now ms ss (Fin H Q)
theorem ok_made (T : Tp K mg) (SO : SupOk P T.file) : FnOk P w K mg base CX0 7 T.a__law_made T.d__law_made ["_law_choice", "_law_size", "_law_marks", "_law_steps", "_law_here"] (sp_made T) := by
  have GP_kinds := okP_kinds (P := P) (w := w) (base := base) T
  have GH_whole : L2H.FnH P w K mg base CX0 1 T.a__law_whole T.d__law_whole ["_law_x"] sp_whole := okH_whole T
  have GR3 := fnR_of (ok_initE (w := w) (base := base) T SO) T.e_b T.e_vs
  have GR5 := fnR_of (ok_initE (w := w) (base := base) T SO) T.b_Machine___init__ .nil
  refine T.f__law_made.ok sc__law_made (fun vs H Q E h => ?_) (fun cdv A outer s H vs Q E hr h => ?_)
  · obtain ⟨c, n, now, am, as, ms, us, ss, rfl, _⟩ := h
    rfl
  · obtain ⟨c, n, now, am, as, ms, us, ss, rfl, nb, wb, hM, hMl, hS, hT, hSl, hz, want⟩ := h
    refine ⟨_, pss_cons (ps_try_manyA (i := 6) (Wout := fun _ _ _ _ => False) rfl rfl sc__law_made.nd rfl rfl takesN0
        (fun W pn xe tk _ => (pss_cons (ps_set (i := 5) sc__law_made.nd rfl (.inl rfl) (pe_makeRS T.mk_Service GR3 (hr.mono (by decide)) (by rfl) T.g_Service (L2N.passAt tk) (pa_cons pe_int (pa_cons (pe_lst pa_nil) (pa_cons (pe_lst pa_nil) pa_nil)))))
  (pss_one (ps_if (pt_cmpR op_eq (pv 0) pe_int (nomark _)) (pss_one (ps_set (i := 5) sc__law_made.nd rfl (.inl rfl) (pe_makeRS T.mk_Service GR5 (hr.mono (by decide)) (by rfl) T.g_Service (L2N.passAt tk) (pa_cons (pv 1) (pa_cons (pv 2) (pa_cons (pv 3) (pa_cons (pv 4) pa_nil))))))) (pss_one (ps_set (i := 5) sc__law_made.nd rfl (.inl rfl) (pe_makeRS T.mk_Pattern GR5 (hr.mono (by decide)) (by rfl) T.g_Pattern (L2N.passAt tk) (pa_cons (pv 1) (pa_cons (pv 2) (pa_cons (pv 3) (pa_cons (pv 4) pa_nil)))))))))))
        (HdsA.cons ⟨rfl, by decide, .inl T.g_BadMachine⟩ (fun a oe cls d pn hz hf => (pss_one (ps_ret (pe_tup (pa_cons pe_str (pa_cons (pe_callP GP_kinds (L2H.roomH_mark (hr.mono (by decide)) _) hz hf (by rfl) T.g__law_kinds T.f__law_kinds.kp T.b__law_kinds (fun σ => passH σ) (pa_cons (pv 6) pa_nil)) (pa_cons (pe_xf T.err_BadMachine.xf (T.err_BadMachine.no _ (by simp)) hz.zc hf (pv 6)) pa_nil))))))) (HdsA.cons ⟨rfl, by decide, .inl T.g_TooLarge⟩ (fun a oe cls d pn hz hf => (pss_one (ps_ret (pe_tup (pa_cons pe_str (pa_cons (pe_and (pe_callP GP_kinds (L2H.roomH_mark (hr.mono (by decide)) _) hz hf (by rfl) T.g__law_kinds T.f__law_kinds.kp T.b__law_kinds (fun σ => passH σ) (pa_cons (pv 6) pa_nil)) (pe_one (L2H.pe_callH GH_whole (L2H.roomH_mark (hr.mono (by decide)) _) (hotc hz hf) (by rfl) T.g__law_whole T.f__law_whole.kp T.b__law_whole (fun σ => passH σ) (pa_cons (pe_xf T.err_TooLarge.xf (T.err_TooLarge.no _ (by simp)) hz.zc hf (pv 6)) pa_nil)))) (pa_cons (pe_xf T.err_TooLarge.xf (T.err_TooLarge.no _ (by simp)) hz.zc hf (pv 6)) pa_nil))))))) (HdsA.cons ⟨rfl, by decide, .inl T.g_BadState⟩ (fun a oe cls d pn hz hf => (pss_one (ps_ret (pe_tup (pa_cons pe_str (pa_cons (pe_and (pe_callP GP_kinds (L2H.roomH_mark (hr.mono (by decide)) _) hz hf (by rfl) T.g__law_kinds T.f__law_kinds.kp T.b__law_kinds (fun σ => passH σ) (pa_cons (pv 6) pa_nil)) (pe_one (L2H.pe_callH GH_whole (L2H.roomH_mark (hr.mono (by decide)) _) (hotc hz hf) (by rfl) T.g__law_whole T.f__law_whole.kp T.b__law_whole (fun σ => passH σ) (pa_cons (pe_xf T.err_BadState.xf (T.err_BadState.no _ (by simp)) hz.zc hf (pv 6)) pa_nil)))) (pa_cons (pe_xf T.err_BadState.xf (T.err_BadState.no _ (by simp)) hz.zc hf (pv 6)) pa_nil))))))) HdsA.nil))))
      (pss_one (ps_ret (pe_tup (pa_cons pe_str (pa_cons (pe_callB c_isinstance (by rfl) T.n_isinstance (by rfl) (pa_cons (pv 5) (pa_cons (pe_glob rfl T.g_Machine (show RelV (.ref T.C_Machine) (.ref T.C_Machine) from rfl)) pa_nil))) (pa_cons (pe_fld (pv 5) rfl) pa_nil)))))), ?_⟩
    walk_at "g"
    refine lst_go fun L1 H1 n1 e1 h1 => ?_
    walk_at "g"
    refine lst_go fun L2 H2 n2 e2 h2 => ?_
    walk_at "g"
    intro x dx nx nd ne
    have f1 : Ex H2 (upd (upd H2 dx (.own x)) x (.ins T.C_Service dx [])) := (Ex.new nd).trans (Ex.new (by rw [upd_ne (Ne.symm ne)]; exact nx))
    have eA := (e1.trans e2).trans f1
    refine init_go (n := 1) (now := 0) (ms := []) (us := []) (ss := []) (fin := fun t _ => t = "built") rfl upd_same T.cf_Service (by decide) (by decide) (.inl (SqL.of (f1 _ _ (e2 _ _ h1)))) (Nat.zero_le _) (.inl (SqL.of (f1 _ _ h2))) .nil (Nat.zero_le _) (fun _ z => nomatch z) made0 (fun _ z => absurd z (by decide)) (fun _ z => absurd z (by decide)) (fun _ z => absurd z (by decide)) fun _ m H3 _ mA ch => ⟨rfl, ?_⟩
    have e3 : Ex H H3 := ex_ch eA (none_ex (e1.trans e2) nx) ch
    walk_at "g"
    by_cases hc : c = 0
    · refine ite_t (by rw [hc]; rfl) ?_
      walk_at "g"
      intro y dy ny ndy ney
      have f2 : Ex H3 (upd (upd H3 dy (.own y)) y (.ins T.C_Service dy [])) := (Ex.new ndy).trans (Ex.new (by rw [upd_ne (Ne.symm ney)]; exact ny))
      have eB := e3.trans f2
      refine init_go (n := n) (now := now) (ms := ms) (us := us) (ss := ss) rfl upd_same T.cf_Service nb wb (hM.ex eB) hMl (hS.ex eB) (hT.tx (tx_ex eB)) hSl hz want ?_ ?_ ?_ fun hfin m2 H4 es mB ch2 => ⟨rfl, ?_⟩
      · intro v hf d H5 e5 hd
        have eC := eB.trans e5
        refine ⟨true, T.err_BadMachine.te, fun _ a na => ?_, fun z => nomatch z⟩
        walk_at "g"
        refine ⟨_, d, _, rfl, rfl, knd_m T, rfl, hd, fun H6 e6 => ?_⟩
        walk_at "g"
        refine xf_go rfl (e6 _ _ hd) rfl ?_
        walk_at "g"
        refine ⟨sz_of (by show 3 ≤ 100000; decide), fun p hp => ?_⟩
        exact hf p _ (none_ex (eC.trans e6) hp) ((eC.trans e6).trans (Ex.new hp)) upd_same
      · intro v hf d H5 e5 hd
        have eC := eB.trans e5
        refine ⟨false, T.xm_TooLarge_BadMachine, (fun z => nomatch z), fun _ => ⟨true, T.err_TooLarge.te, fun _ a na => ?_, fun z => nomatch z⟩⟩
        walk_at "g"
        refine ⟨_, d, _, rfl, rfl, knd_l T, rfl, hd, fun H6 e6 => ?_⟩
        refine ⟨_, rfl, ite_t rfl ?_⟩
        walk_at "g"
        refine xf_go rfl (e6 _ _ hd) rfl ?_
        walk_at "g"
        refine ⟨v, rfl, ?_⟩
        walk_at "g"
        refine xf_go rfl (e6 _ _ hd) rfl ?_
        walk_at "g"
        refine ⟨sz_of (by show 3 ≤ 100000; decide), fun p hp => ?_⟩
        exact hf p _ (none_ex (eC.trans e6) hp) ((eC.trans e6).trans (Ex.new hp)) upd_same
      · intro v hf d H5 e5 hd
        have eC := eB.trans e5
        refine ⟨false, T.xm_BadState_BadMachine, (fun z => nomatch z), fun _ => ⟨false, T.xm_BadState_TooLarge, (fun z => nomatch z), fun _ => ⟨true, T.err_BadState.te, fun _ a na => ?_, fun z => nomatch z⟩⟩⟩
        walk_at "g"
        refine ⟨_, d, _, rfl, rfl, knd_s T, rfl, hd, fun H6 e6 => ?_⟩
        refine ⟨_, rfl, ite_t rfl ?_⟩
        walk_at "g"
        refine xf_go rfl (e6 _ _ hd) rfl ?_
        walk_at "g"
        refine ⟨v, rfl, ?_⟩
        walk_at "g"
        refine xf_go rfl (e6 _ _ hd) rfl ?_
        walk_at "g"
        refine ⟨sz_of (by show 3 ≤ 100000; decide), fun p hp => ?_⟩
        exact hf p _ (none_ex (eC.trans e6) hp) ((eC.trans e6).trans (Ex.new hp)) upd_same
      · obtain ⟨dm, pm, ps, de, dp, ws, k1, _⟩ := mB
        have e4 : Ex H H4 := ex_ch eB (none_ex e3 ny) ch2
        walk_at "g"
        refine ⟨_, _, _, _, true, rfl, .own _, .base (.ins k1 (T.cf_Service).cl (T.cc_Service).o1 (T.cc_Service).o2 (T.cc_Service).o3 (T.cc_Service).o4), T.is_Service, ?_⟩
        walk_at "g"
        refine gtf_go k1 (T.cf_Service).cl (T.cf_Service).n1 rfl ?_
        walk_at "g"
        rw [es]
        refine ⟨sz_of (by show 3 ≤ 100000; decide), fun p hp => ?_⟩
        exact hfin p _ (none_ex e4 hp) (e4.trans (Ex.new hp)) upd_same
    · refine ite_f (decide_eq_false fun z => hc (V.int.inj z)) ?_
      walk_at "g"
      intro y dy ny ndy ney
      have f2 : Ex H3 (upd (upd H3 dy (.own y)) y (.ins T.C_Pattern dy [])) := (Ex.new ndy).trans (Ex.new (by rw [upd_ne (Ne.symm ney)]; exact ny))
      have eB := e3.trans f2
      refine init_go (n := n) (now := now) (ms := ms) (us := us) (ss := ss) rfl upd_same T.cf_Pattern nb wb (hM.ex eB) hMl (hS.ex eB) (hT.tx (tx_ex eB)) hSl hz want ?_ ?_ ?_ fun hfin m2 H4 es mB ch2 => ⟨rfl, ?_⟩
      · intro v hf d H5 e5 hd
        have eC := eB.trans e5
        refine ⟨true, T.err_BadMachine.te, fun _ a na => ?_, fun z => nomatch z⟩
        walk_at "g"
        refine ⟨_, d, _, rfl, rfl, knd_m T, rfl, hd, fun H6 e6 => ?_⟩
        walk_at "g"
        refine xf_go rfl (e6 _ _ hd) rfl ?_
        walk_at "g"
        refine ⟨sz_of (by show 3 ≤ 100000; decide), fun p hp => ?_⟩
        exact hf p _ (none_ex (eC.trans e6) hp) ((eC.trans e6).trans (Ex.new hp)) upd_same
      · intro v hf d H5 e5 hd
        have eC := eB.trans e5
        refine ⟨false, T.xm_TooLarge_BadMachine, (fun z => nomatch z), fun _ => ⟨true, T.err_TooLarge.te, fun _ a na => ?_, fun z => nomatch z⟩⟩
        walk_at "g"
        refine ⟨_, d, _, rfl, rfl, knd_l T, rfl, hd, fun H6 e6 => ?_⟩
        refine ⟨_, rfl, ite_t rfl ?_⟩
        walk_at "g"
        refine xf_go rfl (e6 _ _ hd) rfl ?_
        walk_at "g"
        refine ⟨v, rfl, ?_⟩
        walk_at "g"
        refine xf_go rfl (e6 _ _ hd) rfl ?_
        walk_at "g"
        refine ⟨sz_of (by show 3 ≤ 100000; decide), fun p hp => ?_⟩
        exact hf p _ (none_ex (eC.trans e6) hp) ((eC.trans e6).trans (Ex.new hp)) upd_same
      · intro v hf d H5 e5 hd
        have eC := eB.trans e5
        refine ⟨false, T.xm_BadState_BadMachine, (fun z => nomatch z), fun _ => ⟨false, T.xm_BadState_TooLarge, (fun z => nomatch z), fun _ => ⟨true, T.err_BadState.te, fun _ a na => ?_, fun z => nomatch z⟩⟩⟩
        walk_at "g"
        refine ⟨_, d, _, rfl, rfl, knd_s T, rfl, hd, fun H6 e6 => ?_⟩
        refine ⟨_, rfl, ite_t rfl ?_⟩
        walk_at "g"
        refine xf_go rfl (e6 _ _ hd) rfl ?_
        walk_at "g"
        refine ⟨v, rfl, ?_⟩
        walk_at "g"
        refine xf_go rfl (e6 _ _ hd) rfl ?_
        walk_at "g"
        refine ⟨sz_of (by show 3 ≤ 100000; decide), fun p hp => ?_⟩
        exact hf p _ (none_ex (eC.trans e6) hp) ((eC.trans e6).trans (Ex.new hp)) upd_same
      · obtain ⟨dm, pm, ps, de, dp, ws, k1, _⟩ := mB
        have e4 : Ex H H4 := ex_ch eB (none_ex e3 ny) ch2
        walk_at "g"
        refine ⟨_, _, _, _, true, rfl, .own _, .base (.ins k1 (T.cf_Pattern).cl (T.cc_Pattern).o1 (T.cc_Pattern).o2 (T.cc_Pattern).o3 (T.cc_Pattern).o4), T.is_Pattern, ?_⟩
        walk_at "g"
        refine gtf_go k1 (T.cf_Pattern).cl (T.cf_Pattern).n1 rfl ?_
        walk_at "g"
        rw [es]
        refine ⟨sz_of (by show 3 ≤ 100000; decide), fun p hp => ?_⟩
        exact hfin p _ (none_ex e4 hp) (e4.trans (Ex.new hp)) upd_same
end

end K14

set_option Elab.async false
set_option linter.all false
set_option maxRecDepth 100000
set_option maxHeartbeats 2000000
/-! a text times an int -/
namespace AE
open PySem PySem.Spec PyProof.Rows L2 Evl
def timesS (z : Str) (k : Nat) : Str := ⟨(List.replicate k z.cps).foldl (· ++ ·) #[]⟩
theorem fold_list : ∀ (l : List (Array Nat)) (a : Array Nat), (l.foldl (· ++ ·) a).toList = a.toList ++ (l.map Array.toList).flatten
  | [], a => by simp
  | x :: l, a => by
    rw [List.foldl_cons, fold_list l (a ++ x), Array.toList_append, List.map_cons, List.flatten_cons, List.append_assoc]
theorem times_list (z : Str) (k : Nat) : (timesS z k).cps.toList = (List.replicate k z.cps.toList).flatten := by
  show ((List.replicate k z.cps).foldl (· ++ ·) #[]).toList = _
  rw [fold_list, List.map_replicate]
  rfl
theorem times_len (z : Str) (k : Nat) : (timesS z k).length = k * z.length := by
  have e := congrArg List.length (times_list z k)
  rw [Array.length_toList] at e
  show (timesS z k).cps.size = _
  rw [e, List.length_flatten, List.map_replicate, List.sum_replicate_nat, Array.length_toList]
  rfl
section
variable {X : Cx}
def rTimes : R2 := fun x y H Q => ∃ (z : Str) (k : Int), x = .str z ∧ y = .int k ∧ 2 ≤ k ∧ k ≤ 1000 ∧ 1 ≤ z.length ∧ z.length ≤ 1000 ∧ Q (.str (timesS z k.toNat)) H
theorem op_times : OpR X (binaryOp .Mult) rTimes := by
  rintro pins s σ H x y v u Q I rx ry ⟨z, k, rfl, rfl, k2, kb, z1, zb, q⟩
  obtain ⟨t, rfl⟩ := rx
  obtain ⟨t2, rfl⟩ := ry
  have c1 : ¬ k < 1 := by omega
  have c2 : (k == 1 || z.length == 0) = false := by
    rw [Bool.or_eq_false_iff]
    exact ⟨beq_eq_false_iff_ne.mpr (by omega), beq_eq_false_iff_ne.mpr (by omega)⟩
  have sz : z.length * k.toNat ≤ 1000000 := Nat.le_trans (Nat.mul_le_mul zb (show k.toNat ≤ 1000 by omega)) (by decide)
  refine PySem.P.mul_str ?_ (fun _ _ => ?_) (fun _ _ => ?_) ?_
  · rw [Bool.or_eq_false_iff]
    exact ⟨decide_eq_false (by omega), decide_eq_false (by omega)⟩
  · have : (1000 : Int) ≤ (2 ^ 63 - 1) / k := Int.le_ediv_of_mul_le (by omega) (by omega)
    omega
  · have big : 1000000 ≤ sizeLine := by decide
    exact decide_eq_false (by omega)
  · rw [if_neg c1, if_neg (by rw [c2]; decide)]
    have big : 1000000 ≤ sizeLine := by decide
    refine ⟨?_, .str (timesS z k.toNat), H, I.tok _, ⟨_, rfl⟩, q⟩
    show (timesS z k.toNat).length ≤ sizeLine
    rw [times_len, Nat.mul_comm]
    omega
end
end AE

set_option Elab.async false
set_option linter.all false
set_option maxRecDepth 100000
set_option maxHeartbeats 2000000
namespace K14
open PySem PySem.Spec PyProof.Rows L2 Evl AE
local macro_rules | `(tactic| walk_at "c") => `(tactic| first | exact ⟨by decide, by decide⟩ | exact .inr ⟨by decide, by decide⟩ | exact .inl ⟨by decide, by decide⟩ | exact ⟨by decide, by decide, by decide⟩ | (show (0 : Int) < _; decide))
local macro_rules | `(tactic| walk_at "s") => `(tactic| first
  | (with_reducible refine r_var rfl ?_) | (with_reducible refine r_c ?_) | (with_reducible refine r_op ?_) | (with_reducible refine r_un ?_) | (with_reducible refine r_I0 ?_) | (with_reducible refine r_U ?_)
  | (with_reducible refine r_eq rfl ?_) | (with_reducible refine r_ne rfl ?_) | (with_reducible refine r_chain ?_) | (with_reducible refine r_test ?_) | (with_reducible refine r_tB ?_)
  | (with_reducible refine r_bl ?_) | (with_reducible refine r_and ?_) | (with_reducible refine r_or ?_) | (with_reducible refine r_not ?_) | (with_reducible refine r_nil ?_) | (with_reducible refine r_cons ?_)
  | (with_reducible refine r_tupK ?_) | (with_reducible refine r_lstK ?_) | (with_reducible refine r_cb ?_) | (with_reducible refine r_revL ?_) | (with_reducible refine r_ost ?_) | (with_reducible refine r_mkO ?_) | (with_reducible refine r_makeK ?_) | (with_reducible refine r_make ?_) | (with_reducible refine r_setdN ?_) | (with_reducible refine r_nget2 ?_) | (with_reducible refine r_nnew ?_) | (with_reducible refine r_call ?_) | (with_reducible refine r_seq ?_) | (with_reducible refine r_set ?_)
  | (with_reducible refine r_drop ?_) | (with_reducible refine r_ret ?_) | (with_reducible refine r_next ?_) | (with_reducible refine r_if ?_) | (with_reducible refine r_sl ?_) | (with_reducible refine r_nop ?_) | (with_reducible refine r_prt ?_) | (with_reducible refine r_some ?_)
  | (with_reducible refine add_int ?_) | (with_reducible refine int_i ?_) | (with_reducible refine r_forR1 ?_) | (with_reducible refine r_forR2 ?_) | (with_reducible refine r_meth ?_) | (with_reducible refine r_makeS ?_) | (with_reducible refine r_opS ?_) | (with_reducible refine r_makeRS ?_) | (with_reducible refine r_methH ?_) | (with_reducible refine r_callS ?_) | (with_reducible refine r_forL ?_) | (with_reducible refine r_andV ?_) | (with_reducible refine r_orV ?_) | (with_reducible refine r_notV ?_) | (with_reducible refine r_ifE ?_) | (with_reducible refine r_lcL ?_) | (with_reducible refine r_fld ?_) | (with_reducible refine r_get ?_) | (with_reducible refine r_din ?_) | (with_reducible refine r_dget2 ?_) | ((with_reducible refine r_I ?_ ?_); (walk_at "c")))
local macro_rules | `(tactic| walk_at "g") => `(tactic| repeat walk_at "s")
section
variable {P : Program} {w : World} {K : PySem.W.Frag} {mg : Str → Option Value} {base : Heap}
theorem getD_lt {α : Type} {R : α → α → Prop} {l : List α} {z : α} (h : l.Pairwise R) {i j : Nat} (hij : i < j) (hj : j < l.length) : R (l.getD i z) (l.getD j z) := by
  rw [List.getD_eq_getElem?_getD, List.getD_eq_getElem?_getD, List.getElem?_eq_getElem hj, List.getElem?_eq_getElem (by omega)]
  exact List.pairwise_iff_getElem.mp h i j (by omega) hj hij
theorem getD_mem {α : Type} {l : List α} {z : α} {i : Nat} (hi : i < l.length) : l.getD i z ∈ l := by
  rw [List.getD_eq_getElem?_getD, List.getElem?_eq_getElem hi]
  exact List.getElem_mem hi
def AskLt (a b : Str) : Prop := a.cps.toList < b.cps.toList
theorem letC_inj {k i j : Nat} {r : Int} (hk : k < 6) (hi : i < 6) (hj : j < 6) (h : letC (r + ((k : Int) * 2 + 1) * i) = letC (r + ((k : Int) * 2 + 1) * j)) : i = j := by
  unfold letC at h
  have e : (r + ((k : Int) * 2 + 1) * i) % 26 = (r + ((k : Int) * 2 + 1) * j) % 26 := by omega
  clear h
  have ki : k = 0 ∨ k = 1 ∨ k = 2 ∨ k = 3 ∨ k = 4 ∨ k = 5 := by omega
  rcases ki with rfl | rfl | rfl | rfl | rfl | rfl <;> omega
theorem askL_inj {row : List Int} (hl : 13 ≤ row.length) (hb : ∀ x ∈ row, 0 ≤ x ∧ x < 64) {i j : Nat} (hi : i < 6) (hj : j < 6) (h : askL row i = askL row j) : i = j := by
  have wl := word_len hl
  unfold askL at h
  by_cases z : row.getD 8 0 % 2 = 0
  · rw [if_pos z, if_pos z] at h
    have e := congrArg List.length h
    rw [List.length_take, List.length_take] at e
    omega
  · rw [if_neg z, if_neg z] at h
    have p0 : 0 ≤ row.getD 10 0 % (row.getD 9 0 % 8 + 1) := by
      have : row.getD 9 0 % 8 + 1 ≠ 0 := by omega
      exact Int.emod_nonneg _ this
    have p1 : row.getD 10 0 % (row.getD 9 0 % 8 + 1) < row.getD 9 0 % 8 + 1 := Int.emod_lt_of_pos _ (by omega)
    generalize row.getD 10 0 % (row.getD 9 0 % 8 + 1) = p at p0 p1 h
    rw [List.append_assoc, List.append_assoc] at h
    have e := (List.cons.inj (List.append_cancel_left h)).1
    refine letC_inj (k := (row.getD 12 0 % 6).toNat) (r := row.getD 11 0) (by omega) hi hj ?_
    rw [show (((row.getD 12 0 % 6).toNat : Nat) : Int) = row.getD 12 0 % 6 by omega]
    exact e
theorem range_up (n : Nat) : (List.range n).Pairwise (· < ·) := List.pairwise_lt_range
theorem asks_nodup {row : List Int} (hl : 13 ≤ row.length) (hb : ∀ x ∈ row, 0 ≤ x ∧ x < 64) {many : Nat} (hm : many ≤ 6) : (asksF row many).Pairwise (· ≠ ·) := by
  unfold asksF
  rw [List.pairwise_map]
  refine (range_up _).imp_of_mem fun {a b} ha hb2 hab e => ?_
  have e1 : askL row a = askL row b := by
    have e2 := congrArg (fun (z : Str) => z.cps.toList) e
    simpa using e2
  have := askL_inj hl hb (by have := List.mem_range.mp ha; omega) (by have := List.mem_range.mp hb2; omega) e1
  omega
/-! ### a thing put into a list -/
def putF {α : Type} (xs : List α) (v : α) (k : Nat) : List α := xs.take k ++ [v] ++ xs.drop k
def sp_putin : Sp := fun vs H Q _ => ∃ (a : Addr) (xs : List V) (v : V) (d : Int), vs = [.ref a, v, .int d] ∧ H a = some (.lst xs) ∧ xs.length ≤ 1000 ∧ 0 ≤ d ∧
  ∀ p H' (k : Nat), H p = none → Ex H H' → H' p = some (.lst (putF xs v k)) → Q (.ref p) H'
theorem ok_putin (T : Tp K mg) : FnOk P w K mg base CX0 1 T.a__law_put_in T.d__law_put_in ["_law_rows", "_law_thing", "_law_digit"] sp_putin := by
  refine T.f__law_put_in.ok sc__law_put_in (fun vs H Q E h => ?_) (fun cdv A outer s H vs Q E hr h => ?_)
  · obtain ⟨a, xs, v, d, rfl, _⟩ := h
    rfl
  · obtain ⟨a, xs, v, d, rfl, ha, hl, d0, q⟩ := h
    refine ⟨_, (pss_cons (ps_set (i := 3) sc__law_put_in.nd rfl (.inl rfl) (pe_op op_mod (pe_callTy c_int (by rfl) T.n_int (by rfl) (pa_cons (pv 2) pa_nil)) (pe_op opAdd (pe_callB c_len (by rfl) T.n_len (by rfl) (pa_cons (pv 0) pa_nil)) pe_int)))
  (pss_one (ps_ret (pe_op opAdd (pe_op opAdd (pe_slice sl_list (pv 0) po_none (po_some (pv 3))) (pe_lst (pa_cons (pv 1) pa_nil))) (pe_slice sl_list (pv 0) (po_some (pv 3)) po_none))))), ?_⟩
    walk_at "g"
    refine len_l (.inl (.inl ha)) ?_
    walk_at "g"
    refine ⟨_, _, rfl, rfl, show (0 : Int) < _ by omega, ?_⟩
    obtain ⟨k, hk⟩ : ∃ k : Nat, d % ((xs.length : Int) + 1) = (k : Int) := ⟨(d % ((xs.length : Int) + 1)).toNat, by have := Int.emod_nonneg d (b := (xs.length : Int) + 1) (by omega); omega⟩
    walk_at "g"
    rw [hk]
    refine sl_l (.inl (.inl ha)) fun p1 n1 => ?_
    rw [cutV_to]
    have e1 : Ex H (upd H p1 (.lst (xs.take k))) := Ex.new n1
    have h1 : (upd H p1 (.lst (xs.take k))) p1 = some (.lst (xs.take k)) := upd_same
    generalize (upd H p1 (.lst (xs.take k))) = H1 at e1 h1
    walk_at "g"
    refine lst_go fun p2 H2 n2 e2 h2 => ?_
    have lt : (xs.take k).length ≤ 1000 := by rw [List.length_take]; omega
    have big : 3000 ≤ sizeLine := by decide
    refine add_lst (e2 _ _ h1) h2 (by show _ + 1 ≤ _; omega) fun p3 n3 => ?_
    have e3 : Ex H2 (upd H2 p3 (.lst (xs.take k ++ [v]))) := Ex.new n3
    have h3 : (upd H2 p3 (.lst (xs.take k ++ [v]))) p3 = some (.lst (xs.take k ++ [v])) := upd_same
    generalize (upd H2 p3 (.lst (xs.take k ++ [v]))) = H3 at e3 h3
    have e13 := (e1.trans e2).trans e3
    walk_at "g"
    rw [hk]
    refine sl_l (.inl (.inl (e13 _ _ ha))) fun p4 n4 => ?_
    rw [cutV_from]
    have e4 : Ex H3 (upd H3 p4 (.lst (xs.drop k))) := Ex.new n4
    have h4 : (upd H3 p4 (.lst (xs.drop k))) p4 = some (.lst (xs.drop k)) := upd_same
    generalize (upd H3 p4 (.lst (xs.drop k))) = H4 at e4 h4
    have ld : (xs.drop k).length ≤ 1000 := by rw [List.length_drop]; omega
    refine add_lst (e4 _ _ h3) h4 (by rw [List.length_append]; show _ + 1 + _ ≤ _; omega) fun p5 n5 => ?_
    exact q p5 _ k (none_ex (e13.trans e4) n5) ((e13.trans e4).trans (Ex.new n5)) upd_same
/-! ### a text that is no ask -/
def BadAsk (y : Str) : Prop := y.length ≤ 1000 ∧ (y.length < 1 ∨ 8 < y.length ∨ ∃ c ∈ y.cps.toList, ¬ (97 ≤ c ∧ c ≤ 122))
/-- the signs, by their numbers -/
def sg : Str := ⟨#[65, 66, 67, 68, 69, 70, 71, 72, 73, 74, 75, 76, 77, 78, 79, 80, 81, 82, 83, 84, 85, 86, 87, 88, 89, 90, 48, 49, 50, 51, 52, 53, 54, 55, 56, 57, 32, 33, 35, 38, 39, 40, 41, 42, 43, 44, 45, 46, 47, 58, 59, 60, 61, 62, 63, 64, 91, 93, 94, 95, 124, 126]⟩
theorem sg_bad : sg.cps.toList.all (fun c => !(decide (97 ≤ c) && decide (c ≤ 122))) = true := by decide +kernel
theorem ix_sg {H : Hp} {z : Str} {d : Int} {Q : VK} (hz : z = sg) (q : ∀ c, ¬ (97 ≤ c ∧ c ≤ 122) → Q (.str ⟨#[c]⟩) H) : rIx K (.str z) (.int (d % (z.length : Int))) H Q := by
  subst hz
  have e62 : (sg.length : Int) = 62 := by decide +kernel
  have l62 : sg.cps.toList.length = 62 := by decide +kernel
  obtain ⟨j, hj⟩ : ∃ j : Nat, d % (sg.length : Int) = (j : Int) := ⟨(d % 62).toNat, by rw [e62]; omega⟩
  have j62 : j < sg.cps.toList.length := by rw [e62] at hj; omega
  refine ix_s (c := sg.cps.toList[j]) (by decide) (by rw [hj]; exact atI_nat (List.getElem?_eq_getElem j62)) (q _ fun z => ?_)
  have b := List.all_eq_true.mp sg_bad _ (List.getElem_mem j62)
  simp only [decide_eq_true z.1, decide_eq_true z.2] at b
  cases b
theorem cutS_le (z : Str) (lo hi : Option Int) : (cutS z lo hi).length ≤ z.length := by
  unfold cutS
  show (List.toArray _).size ≤ _
  rw [List.size_toArray, List.length_take, List.length_drop]
  have : z.cps.toList.length = z.length := rfl
  omega
def sp_badask (K : PySem.W.Frag) : Sp := fun vs H Q _ => ∃ (a : Addr) (row : List Int) (x : Str), vs = [.ref a, .str x] ∧ SqL K H a (row.map V.int) ∧ row.length = 4 ∧ (∀ d ∈ row, 0 ≤ d ∧ d < 64) ∧ AskOk x ∧ ∀ H' y, Ex H H' → BadAsk y → Q (.str y) H'
theorem ok_badask (T : Tp K mg) : FnOk P w K mg base CX0 1 T.a__law_bad_ask T.d__law_bad_ask ["_law_row", "_law_ask"] (sp_badask K) := by
  refine T.f__law_bad_ask.ok sc__law_bad_ask (fun vs H Q E h => ?_) (fun cdv A outer s H vs Q E hr h => ?_)
  · obtain ⟨a, row, x, rfl, _⟩ := h
    rfl
  · obtain ⟨a, row, x, rfl, hS, hl, hb, ok, q⟩ := h
    obtain ⟨x1, x8, xc⟩ := ok
    have big : 3000 ≤ sizeLine := by decide
    refine ⟨_, (pss_cons (ps_if (pt_cmpR op_eq (pe_op op_mod (pe_callTy c_int (by rfl) T.n_int (by rfl) (pa_cons (pe_ix ix_seq (pv 0) pe_int (fun _ _ => rfl)) pa_nil)) pe_int) pe_int (nomark _)) (pss_one (ps_ret pe_str)) pss_nil)
  (pss_cons (ps_if (pt_cmpR op_eq (pe_op op_mod (pe_callTy c_int (by rfl) T.n_int (by rfl) (pa_cons (pe_ix ix_seq (pv 0) pe_int (fun _ _ => rfl)) pa_nil)) pe_int) pe_int (nomark _)) (pss_one (ps_ret (pe_slice sl_str (pe_op op_times (pv 1) pe_int) po_none (po_some pe_int)))) pss_nil)
  (pss_cons (ps_set (i := 2) sc__law_bad_ask.nd rfl (.inl rfl) pe_str)
  (pss_cons (ps_set (i := 3) sc__law_bad_ask.nd rfl (.inl rfl) (pe_op op_mod (pe_callTy c_int (by rfl) T.n_int (by rfl) (pa_cons (pe_ix ix_seq (pv 0) pe_int (fun _ _ => rfl)) pa_nil)) (pe_callB c_len (by rfl) T.n_len (by rfl) (pa_cons (pv 1) pa_nil))))
  (pss_one (ps_ret (pe_op opAdd (pe_op opAdd (pe_slice sl_str (pv 1) po_none (po_some (pv 3))) (pe_ix ix_seq (pv 2) (pe_op op_mod (pe_callTy c_int (by rfl) T.n_int (by rfl) (pa_cons (pe_ix ix_seq (pv 0) pe_int (fun _ _ => rfl)) pa_nil)) (pe_callB c_len (by rfl) T.n_len (by rfl) (pa_cons (pv 2) pa_nil))) (fun _ _ => rfl))) (pe_slice sl_str (pv 1) (po_some (pe_op opAdd (pv 3) pe_int)) po_none)))))))), ?_⟩
    walk_at "g"
    refine ix_l hS (row_at (j := 0) (by omega)) ?_
    walk_at "g"
    refine ite_b (fun hc => ?_) (fun hc => ?_)
    · walk_at "g"
      exact q H _ (Ex.refl _) ⟨by decide, .inl (by decide)⟩
    walk_at "g"
    refine ix_l hS (row_at (j := 0) (by omega)) ?_
    walk_at "g"
    refine ite_b (fun hc => ?_) (fun hc => ?_)
    · walk_at "g"
      refine ⟨x, 9, rfl, rfl, by decide, by decide, x1, by omega, ?_⟩
      walk_at "g"
      refine sl_s (by rw [times_len]; show 9 * _ ≤ _; omega) ?_
      rw [show (9 : Int) = ((9 : Nat) : Int) from rfl, cutS_to]
      refine q H _ (Ex.refl _) ?_
      have l9 : (Str.mk ((List.take 9 (timesS x 9).cps.toList).toArray)).length = 9 := by
        show (List.toArray _).size = 9
        have tl := times_len x 9
        have t2 : (timesS x 9).cps.toList.length = 9 * x.length := tl
        rw [List.size_toArray, List.length_take, t2]
        omega
      exact ⟨Nat.le_trans (Nat.le_of_eq l9) (by decide), .inr (.inl (Nat.lt_of_lt_of_eq (show 8 < 9 by decide) l9.symm))⟩
    walk_at "g"
    refine ix_l hS (row_at (j := 1) (by omega)) ?_
    walk_at "g"
    refine len_s (by omega) ?_
    walk_at "g"
    refine ⟨_, _, rfl, rfl, show (0 : Int) < _ by omega, ?_⟩
    have m0 := Int.emod_nonneg (row.getD 1 0) (b := (x.length : Int)) (by omega)
    have m1 := Int.emod_lt_of_pos (row.getD 1 0) (b := (x.length : Int)) (by omega)
    obtain ⟨k, hk⟩ : ∃ k : Nat, row.getD 1 0 % (x.length : Int) = (k : Int) := ⟨(row.getD 1 0 % (x.length : Int)).toNat, by omega⟩
    rw [hk] at m1
    walk_at "g"
    rw [hk]
    refine sl_s (by omega) ?_
    rw [cutS_to]
    walk_at "g"
    refine ix_l hS (row_at (j := 2) (by omega)) ?_
    walk_at "g"
    refine len_s (by decide) ?_
    walk_at "g"
    refine ix_sg (by decide +kernel) fun c hc2 => ?_
    have lt : (Str.mk ((List.take k x.cps.toList).toArray)).length ≤ 8 := by
      show (List.toArray _).size ≤ 8
      rw [List.size_toArray, List.length_take]
      have : x.cps.toList.length = x.length := rfl
      omega
    have l1 : (Str.mk #[c]).length = 1 := rfl
    refine add_str (by omega) ?_
    walk_at "g"
    rw [hk]
    refine sl_s (by omega) ?_
    have ls := cutS_le x (some ((k : Int) + 1)) none
    have la : ∀ (u v : Str), (u ++ v).length = u.length + v.length := fun u v => by
      show (u ++ v).cps.size = _
      rw [Str.cps_append, Array.size_append]
      rfl
    refine add_str (by rw [la]; omega) ?_
    refine q H _ (Ex.refl _) ⟨by rw [la, la]; omega, .inr (.inr ⟨c, ?_, hc2⟩)⟩
    rw [Str.cps_append, Str.cps_append, Array.toList_append, Array.toList_append]
    exact List.mem_append_left _ (List.mem_append_right _ (List.mem_singleton.mpr rfl))
/-! ### a step that is none -/
def sp_badstep (K : PySem.W.Frag) : Sp := fun vs H Q _ => ∃ (a : Addr) (row : List Int) (n : Int) (x : Str), vs = [.ref a, .int n, .str x] ∧ SqL K H a (row.map V.int) ∧ row.length = 8 ∧ (∀ d ∈ row, 0 ≤ d ∧ d < 64) ∧ 1 ≤ n ∧ n ≤ 200 ∧ AskOk x ∧
  ∀ p H' (s : StepD), H p = none → Ex H H' → H' p = some (.tup (stepV s)) → ¬ OkS n s → s.2.1.length ≤ 1000 → Q (.ref p) H'
theorem wrong_at {n r : Int} (h : 1 ≤ n) (hr : 0 ≤ r) {j : Nat} (hj : j < 4) : ∃ w : Int, ([V.int (-1), V.int n, V.int (n + r), V.int (-1 - r)] : List V)[j]? = some (.int w) ∧ ¬ (0 ≤ w ∧ w < n) := by
  match j, hj with
  | 0, _ => exact ⟨-1, rfl, by omega⟩
  | 1, _ => exact ⟨n, rfl, by omega⟩
  | 2, _ => exact ⟨n + r, rfl, by omega⟩
  | 3, _ => exact ⟨-1 - r, rfl, by omega⟩
theorem ok_badstep (T : Tp K mg) : FnOk P w K mg base CX0 2 T.a__law_bad_step T.d__law_bad_step ["_law_row", "_law_size", "_law_ask"] (sp_badstep K) := by
  have G__law_bad_ask : FnOk P w K mg base CX0 1 T.a__law_bad_ask T.d__law_bad_ask ["_law_row", "_law_ask"] (sp_badask K) := ok_badask T
  refine T.f__law_bad_step.ok sc__law_bad_step (fun vs H Q E h => ?_) (fun cdv A outer s H vs Q E hr h => ?_)
  · obtain ⟨a, row, n, x, rfl, _⟩ := h
    rfl
  · obtain ⟨a, row, n, x, rfl, hS, hl, hb, n1, n2, ok, q⟩ := h
    have nn : ∀ j, j < row.length → 0 ≤ row.getD j 0 := fun j hj => (hb _ (getD_mem (z := 0) hj)).1
    have xl : x.length ≤ 1000 := by have := ok.2.1; omega
    refine ⟨_, (pss_cons (ps_set (i := 3) sc__law_bad_step.nd rfl (.inl rfl) (pe_op op_mod (pe_callTy c_int (by rfl) T.n_int (by rfl) (pa_cons (pe_ix ix_seq (pv 0) pe_int (fun _ _ => rfl)) pa_nil)) (pv 1)))
  (pss_cons (ps_set (i := 4) sc__law_bad_step.nd rfl (.inl rfl) (pe_ix ix_seq (pe_lst (pa_cons (pe_un un_neg pe_int) (pa_cons (pv 1) (pa_cons (pe_op opAdd (pv 1) (pe_callTy c_int (by rfl) T.n_int (by rfl) (pa_cons (pe_ix ix_seq (pv 0) pe_int (fun _ _ => rfl)) pa_nil))) (pa_cons (pe_op op_sub (pe_un un_neg pe_int) (pe_callTy c_int (by rfl) T.n_int (by rfl) (pa_cons (pe_ix ix_seq (pv 0) pe_int (fun _ _ => rfl)) pa_nil))) pa_nil))))) (pe_op op_mod (pe_callTy c_int (by rfl) T.n_int (by rfl) (pa_cons (pe_ix ix_seq (pv 0) pe_int (fun _ _ => rfl)) pa_nil)) pe_int) (fun _ _ => rfl)))
  (pss_cons (ps_if (pt_cmpR op_eq (pe_op op_mod (pe_callTy c_int (by rfl) T.n_int (by rfl) (pa_cons (pe_ix ix_seq (pv 0) pe_int (fun _ _ => rfl)) pa_nil)) pe_int) pe_int (nomark _)) (pss_one (ps_ret (pe_tup (pa_cons (pv 4) (pa_cons (pv 2) (pa_cons (pv 3) pa_nil)))))) pss_nil)
  (pss_cons (ps_if (pt_cmpR op_eq (pe_op op_mod (pe_callTy c_int (by rfl) T.n_int (by rfl) (pa_cons (pe_ix ix_seq (pv 0) pe_int (fun _ _ => rfl)) pa_nil)) pe_int) pe_int (nomark _)) (pss_one (ps_ret (pe_tup (pa_cons (pv 3) (pa_cons (pv 2) (pa_cons (pv 4) pa_nil)))))) pss_nil)
  (pss_one (ps_ret (pe_tup (pa_cons (pv 3) (pa_cons (pe_call G__law_bad_ask (hr.mono (by decide)) (by rfl) T.g__law_bad_ask T.f__law_bad_ask.kp T.b__law_bad_ask .nil pass0 (pa_cons (pe_slice sl_list (pv 0) (po_some pe_int) po_none) (pa_cons (pv 2) pa_nil))) (pa_cons (pv 3) pa_nil)))))))))), ?_⟩
    walk_at "g"
    refine ix_l hS (row_at (j := 0) (by omega)) ?_
    walk_at "g"
    refine ⟨_, _, rfl, rfl, show (0 : Int) < _ by omega, ?_⟩
    have m0 := Int.emod_nonneg (row.getD 0 0) (b := n) (by omega)
    have m1 := Int.emod_lt_of_pos (row.getD 0 0) (b := n) (by omega)
    walk_at "g"
    refine ix_l hS (row_at (j := 1) (by omega)) ?_
    walk_at "g"
    refine ix_l hS (row_at (j := 1) (by omega)) ?_
    walk_at "g"
    refine lst_go fun L H1 nL e1 hL => ?_
    walk_at "g"
    refine ix_l (ex_l e1 hS) (row_at (j := 2) (by omega)) ?_
    walk_at "g"
    obtain ⟨j, hj⟩ : ∃ j : Nat, row.getD 2 0 % 4 = (j : Int) := ⟨(row.getD 2 0 % 4).toNat, by omega⟩
    have j4 : j < 4 := by omega
    obtain ⟨v, hv1, hv2⟩ := wrong_at n1 (nn 1 (by omega)) j4
    rw [hj]
    refine ix_l (.inl (.inl hL)) (atI_nat hv1) ?_
    walk_at "g"
    refine ix_l (ex_l e1 hS) (row_at (j := 3) (by omega)) ?_
    walk_at "g"
    refine ite_b (fun hc => ?_) (fun hc => ?_)
    · walk_at "g"
      refine ⟨sz_of (by show 3 ≤ 100000; decide), fun p hp => ?_⟩
      exact q p _ (v, x, row.getD 0 0 % n) (none_ex e1 hp) (e1.trans (Ex.new hp)) upd_same (fun z => hv2 ⟨z.s0, z.s1⟩) xl
    walk_at "g"
    refine ix_l (ex_l e1 hS) (row_at (j := 3) (by omega)) ?_
    walk_at "g"
    refine ite_b (fun hc => ?_) (fun hc => ?_)
    · walk_at "g"
      refine ⟨sz_of (by show 3 ≤ 100000; decide), fun p hp => ?_⟩
      exact q p _ (row.getD 0 0 % n, x, v) (none_ex e1 hp) (e1.trans (Ex.new hp)) upd_same (fun z => hv2 ⟨z.e0, z.e1⟩) xl
    walk_at "g"
    refine sl_l (ex_l e1 hS) fun p2 n2 => ?_
    rw [show (4 : Int) = ((4 : Nat) : Int) from rfl, cutV_from, ← List.map_drop]
    have e2 : Ex H1 (upd H1 p2 (.lst ((row.drop 4).map V.int))) := Ex.new n2
    have h2 : (upd H1 p2 (.lst ((row.drop 4).map V.int))) p2 = some (.lst ((row.drop 4).map V.int)) := upd_same
    generalize (upd H1 p2 (.lst ((row.drop 4).map V.int))) = H2 at e2 h2
    walk_at "g"
    refine ⟨p2, row.drop 4, x, rfl, .inl (.inl h2), by rw [List.length_drop]; omega, fun d hd => hb d (List.mem_of_mem_drop hd), ok, fun H3 y e3 bad => ?_⟩
    have e13 := (e1.trans e2).trans e3
    walk_at "g"
    refine ⟨sz_of (by show 3 ≤ 100000; decide), fun p hp => ?_⟩
    refine q p _ (row.getD 0 0 % n, y, row.getD 0 0 % n) (none_ex e13 hp) (e13.trans (Ex.new hp)) upd_same (fun z => ?_) bad.1
    rcases bad.2 with b | b | ⟨c, b1, b2⟩
    · have l0 : 1 ≤ y.length := z.a0
      omega
    · have l8 : y.length ≤ 8 := z.a1
      omega
    · exact b2 (z.al c b1)
end

end K14

set_option Elab.async false
set_option linter.all false
set_option maxRecDepth 100000
set_option maxHeartbeats 2000000
namespace K14
open PySem PySem.Spec PyProof.Rows L2 Evl AE
local macro_rules | `(tactic| walk_at "c") => `(tactic| first | exact ⟨by decide, by decide⟩ | exact .inr ⟨by decide, by decide⟩ | exact .inl ⟨by decide, by decide⟩ | exact ⟨by decide, by decide, by decide⟩ | (show (0 : Int) < _; decide))
local macro_rules | `(tactic| walk_at "s") => `(tactic| first
  | (with_reducible refine r_var rfl ?_) | (with_reducible refine r_c ?_) | (with_reducible refine r_op ?_) | (with_reducible refine r_un ?_) | (with_reducible refine r_I0 ?_) | (with_reducible refine r_U ?_)
  | (with_reducible refine r_eq rfl ?_) | (with_reducible refine r_ne rfl ?_) | (with_reducible refine r_chain ?_) | (with_reducible refine r_test ?_) | (with_reducible refine r_tB ?_)
  | (with_reducible refine r_bl ?_) | (with_reducible refine r_and ?_) | (with_reducible refine r_or ?_) | (with_reducible refine r_not ?_) | (with_reducible refine r_nil ?_) | (with_reducible refine r_cons ?_)
  | (with_reducible refine r_tupK ?_) | (with_reducible refine r_lstK ?_) | (with_reducible refine r_cb ?_) | (with_reducible refine r_revL ?_) | (with_reducible refine r_ost ?_) | (with_reducible refine r_mkO ?_) | (with_reducible refine r_makeK ?_) | (with_reducible refine r_make ?_) | (with_reducible refine r_setdN ?_) | (with_reducible refine r_nget2 ?_) | (with_reducible refine r_nnew ?_) | (with_reducible refine r_call ?_) | (with_reducible refine r_seq ?_) | (with_reducible refine r_set ?_)
  | (with_reducible refine r_drop ?_) | (with_reducible refine r_ret ?_) | (with_reducible refine r_next ?_) | (with_reducible refine r_if ?_) | (with_reducible refine r_sl ?_) | (with_reducible refine r_nop ?_) | (with_reducible refine r_prt ?_) | (with_reducible refine r_some ?_)
  | (with_reducible refine add_int ?_) | (with_reducible refine int_i ?_) | (with_reducible refine r_forR1 ?_) | (with_reducible refine r_forR2 ?_) | (with_reducible refine r_meth ?_) | (with_reducible refine r_makeS ?_) | (with_reducible refine r_opS ?_) | (with_reducible refine r_makeRS ?_) | (with_reducible refine r_methH ?_) | (with_reducible refine r_callS ?_) | (with_reducible refine r_forL ?_) | (with_reducible refine r_andV ?_) | (with_reducible refine r_orV ?_) | (with_reducible refine r_notV ?_) | (with_reducible refine r_ifE ?_) | (with_reducible refine r_lcL ?_) | (with_reducible refine r_fld ?_) | (with_reducible refine r_get ?_) | (with_reducible refine r_din ?_) | (with_reducible refine r_dget2 ?_) | ((with_reducible refine r_I ?_ ?_); (walk_at "c")))
local macro_rules | `(tactic| walk_at "g") => `(tactic| repeat walk_at "s")
section
variable {P : Program} {w : World} {K : PySem.W.Frag} {mg : Str → Option Value} {base : Heap}
theorem tups_drop {H : Hp} : ∀ (n : Nat) {vs : List V} {xs : List (List V)}, Tups H vs xs → Tups H (vs.drop n) (xs.drop n)
  | 0, _, _, t => t
  | _ + 1, _, _, .nil => .nil
  | n + 1, _, _, .cons _ t => tups_drop n t
theorem tups_take {H : Hp} : ∀ (n : Nat) {vs : List V} {xs : List (List V)}, Tups H vs xs → Tups H (vs.take n) (xs.take n)
  | 0, _, _, t => by rw [List.take_zero, List.take_zero]; exact .nil
  | _ + 1, _, _, .nil => .nil
  | n + 1, _, _, .cons h t => .cons h (tups_take n t)
/-! ### what is due -/
def dueF (F : List Int) (n here : Int) : Str × V :=
  if (1 : Int) ∈ F then ("machine", .str "size") else if (2 : Int) ∈ F then ("large", .int n) else if (3 : Int) ∈ F then ("machine", .str "mark") else if (4 : Int) ∈ F then ("machine", .str "step") else
  if (5 : Int) ∈ F then ("large", .int 601) else if (6 : Int) ∈ F then ("state", .int here) else ("built", .int n)
def sp_due : Sp := fun vs H Q _ => ∃ (a : Addr) (F : List Int) (n here : Int), vs = [.ref a, .int n, .int here] ∧ H a = some (.lst (F.map V.int)) ∧ ∀ p H', H p = none → Ex H H' → H' p = some (.tup [.str (dueF F n here).1, .bl true, (dueF F n here).2]) → Q (.ref p) H'
theorem in_go {a : Addr} {F : List Int} {H : Hp} {Q : VK} {k : Int} (ha : H a = some (.lst (F.map V.int))) (q : Q (.bl (decide (k ∈ F))) H) : rIn K false (.int k) (.ref a) H Q := by
  refine ⟨a, F.map V.int, rfl, .inl (.inl (.inl ha)), rfl, flat_ints _, ?_⟩
  rw [inV_int]
  exact q
theorem ok_due (T : Tp K mg) : FnOk P w K mg base CX0 1 T.a__law_due T.d__law_due ["_law_faults", "_law_size", "_law_here"] sp_due := by
  refine T.f__law_due.ok sc__law_due (fun vs H Q E h => ?_) (fun cdv A outer s H vs Q E hr h => ?_)
  · obtain ⟨a, F, n, here, rfl, _⟩ := h
    rfl
  · obtain ⟨a, F, n, here, rfl, ha, q⟩ := h
    refine ⟨_, (pss_cons (ps_if (pt_cmpR op_in_seq pe_int (pv 0) rfl) (pss_one (ps_ret (pe_tup (pa_cons pe_str (pa_cons pe_bl (pa_cons pe_str pa_nil)))))) pss_nil)
  (pss_cons (ps_if (pt_cmpR op_in_seq pe_int (pv 0) rfl) (pss_one (ps_ret (pe_tup (pa_cons pe_str (pa_cons pe_bl (pa_cons (pv 1) pa_nil)))))) pss_nil)
  (pss_cons (ps_if (pt_cmpR op_in_seq pe_int (pv 0) rfl) (pss_one (ps_ret (pe_tup (pa_cons pe_str (pa_cons pe_bl (pa_cons pe_str pa_nil)))))) pss_nil)
  (pss_cons (ps_if (pt_cmpR op_in_seq pe_int (pv 0) rfl) (pss_one (ps_ret (pe_tup (pa_cons pe_str (pa_cons pe_bl (pa_cons pe_str pa_nil)))))) pss_nil)
  (pss_cons (ps_if (pt_cmpR op_in_seq pe_int (pv 0) rfl) (pss_one (ps_ret (pe_tup (pa_cons pe_str (pa_cons pe_bl (pa_cons pe_int pa_nil)))))) pss_nil)
  (pss_cons (ps_if (pt_cmpR op_in_seq pe_int (pv 0) rfl) (pss_one (ps_ret (pe_tup (pa_cons pe_str (pa_cons pe_bl (pa_cons (pv 2) pa_nil)))))) pss_nil)
  (pss_one (ps_ret (pe_tup (pa_cons pe_str (pa_cons pe_bl (pa_cons (pv 1) pa_nil)))))))))))), ?_⟩
    walk_at "g"
    refine in_go ha ⟨_, rfl, ?_⟩
    by_cases c1 : (1 : Int) ∈ F
    · refine ite_t (decide_eq_true c1) ?_
      walk_at "g"
      refine ⟨sz_of (by show 3 ≤ 100000; decide), fun p hp => ?_⟩
      exact q p _ hp (Ex.new hp) (by rw [upd_same]; unfold dueF; rw [if_pos c1])
    refine ite_f (decide_eq_false c1) ?_
    walk_at "g"
    refine in_go ha ⟨_, rfl, ?_⟩
    by_cases c2 : (2 : Int) ∈ F
    · refine ite_t (decide_eq_true c2) ?_
      walk_at "g"
      refine ⟨sz_of (by show 3 ≤ 100000; decide), fun p hp => ?_⟩
      exact q p _ hp (Ex.new hp) (by rw [upd_same]; unfold dueF; rw [if_neg c1, if_pos c2])
    refine ite_f (decide_eq_false c2) ?_
    walk_at "g"
    refine in_go ha ⟨_, rfl, ?_⟩
    by_cases c3 : (3 : Int) ∈ F
    · refine ite_t (decide_eq_true c3) ?_
      walk_at "g"
      refine ⟨sz_of (by show 3 ≤ 100000; decide), fun p hp => ?_⟩
      exact q p _ hp (Ex.new hp) (by rw [upd_same]; unfold dueF; rw [if_neg c1, if_neg c2, if_pos c3])
    refine ite_f (decide_eq_false c3) ?_
    walk_at "g"
    refine in_go ha ⟨_, rfl, ?_⟩
    by_cases c4 : (4 : Int) ∈ F
    · refine ite_t (decide_eq_true c4) ?_
      walk_at "g"
      refine ⟨sz_of (by show 3 ≤ 100000; decide), fun p hp => ?_⟩
      exact q p _ hp (Ex.new hp) (by rw [upd_same]; unfold dueF; rw [if_neg c1, if_neg c2, if_neg c3, if_pos c4])
    refine ite_f (decide_eq_false c4) ?_
    walk_at "g"
    refine in_go ha ⟨_, rfl, ?_⟩
    by_cases c5 : (5 : Int) ∈ F
    · refine ite_t (decide_eq_true c5) ?_
      walk_at "g"
      refine ⟨sz_of (by show 3 ≤ 100000; decide), fun p hp => ?_⟩
      exact q p _ hp (Ex.new hp) (by rw [upd_same]; unfold dueF; rw [if_neg c1, if_neg c2, if_neg c3, if_neg c4, if_pos c5])
    refine ite_f (decide_eq_false c5) ?_
    walk_at "g"
    refine in_go ha ⟨_, rfl, ?_⟩
    by_cases c6 : (6 : Int) ∈ F
    · refine ite_t (decide_eq_true c6) ?_
      walk_at "g"
      refine ⟨sz_of (by show 3 ≤ 100000; decide), fun p hp => ?_⟩
      exact q p _ hp (Ex.new hp) (by rw [upd_same]; unfold dueF; rw [if_neg c1, if_neg c2, if_neg c3, if_neg c4, if_neg c5, if_pos c6])
    refine ite_f (decide_eq_false c6) ?_
    walk_at "g"
    refine ⟨sz_of (by show 3 ≤ 100000; decide), fun p hp => ?_⟩
    exact q p _ hp (Ex.new hp) (by rw [upd_same]; unfold dueF; rw [if_neg c1, if_neg c2, if_neg c3, if_neg c4, if_neg c5, if_neg c6])
/-! ### the parts -/
def marksP (row : List Int) (n : Int) (k : Nat) : List Int := (List.range k).map fun i => (row.getD (2 + i) 0 * 64 + i) % n
theorem strs_at {xs : List Str} {j : Nat} (h : j < xs.length) : atI (xs.map V.str) (j : Int) = some (.str (xs.getD j Str.empty)) := by
  refine atI_nat ?_
  rw [List.getElem?_map, List.getElem?_eq_getElem h, List.getD_eq_getElem?_getD, List.getElem?_eq_getElem h]
  rfl
def markV (row : List Int) (n : Int) : V → V := fun y => match y with
  | .int i => .int ((row.getD (2 + i.toNat) 0 * 64 + i) % n)
  | z => z
def sp_lparts (K : PySem.W.Frag) : Sp := fun vs H Q _ => ∃ (a b : Addr) (row : List Int) (asks : List Str), vs = [.ref a, .ref b] ∧ SqL K H a (row.map V.int) ∧ row.length = 24 ∧ (∀ d ∈ row, 0 ≤ d ∧ d < 64) ∧ SqL K H b (asks.map V.str) ∧ asks.length = 3 ∧ (∀ x ∈ asks, AskOk x) ∧
  ∀ (p m s : Addr) H' (n : Int) (ms : List Int) (us : List V) (ss : List StepD), H p = none → Ex H H' → H' p = some (.tup [.int n, .ref m, .ref s]) → H' m = some (.lst (ms.map V.int)) → H' s = some (.lst us) → Tups H' us (ss.map stepV) → 1 ≤ n → n ≤ 200 →
    (∀ k ∈ ms, 0 ≤ k ∧ k < n) → ms.length ≤ 4 → (∀ k ∈ ss, OkS n k) → ss.length ≤ 6 → Q (.ref p) H'
theorem ok_lparts (T : Tp K mg) : FnOk P w K mg base CX0 1 T.a__law_parts T.d__law_parts ["_law_row", "_law_asks_here"] (sp_lparts K) := by
  refine T.f__law_parts.ok sc__law_parts (fun vs H Q E h => ?_) (fun cdv A outer s H vs Q E hr h => ?_)
  · obtain ⟨a, b, row, asks, rfl, _⟩ := h
    rfl
  · obtain ⟨a, b, row, asks, rfl, hS, hl, hb, hA, al, aok, q⟩ := h
    have nn : ∀ j, j < row.length → 0 ≤ row.getD j 0 ∧ row.getD j 0 < 64 := fun j hj => hb _ (getD_mem (z := 0) hj)
    refine ⟨_, (pss_cons (ps_set (i := 2) sc__law_parts.nd rfl (.inr rfl) (pe_op opAdd pe_int (pe_op op_mod (pe_callTy c_int (by rfl) T.n_int (by rfl) (pa_cons (pe_op opAdd (pe_op op_mul (pe_ix ix_seq (pv 0) pe_int (fun _ _ => rfl)) pe_int) (pe_ix ix_seq (pv 0) pe_int (fun _ _ => rfl))) pa_nil)) pe_int)))
  (pss_cons (ps_setLc (i := 3) (own := [("_law_at", 4)]) (g := gName 4) (tt := tYes) rfl sc__law_parts.nd rfl rfl (sw_true rfl rfl rfl (by decide +kernel)) (pi_range1 rfl T.n_range (pa_cons (pe_op op_mod (pe_callTy c_int (by rfl) T.n_int (by rfl) (pa_cons (pe_ix ix_seq (pv 0) pe_int (fun _ _ => rfl)) pa_nil)) pe_int) pa_nil)) (blkOk_by (N := N__law_parts) (sc := defScope s__law_parts) (by decide +kernel)) (fun _ _ _ _ _ => (pg_name (i := 4) sc__law_parts.nd rfl (.inl rfl))) (fun _ _ _ _ _ => pts_nil) (fun _ _ _ _ _ => (pe_op op_mod (pe_callTy c_int (by rfl) T.n_int (by rfl) (pa_cons (pe_op (opAddK (K := K)) (pe_op op_mul (pe_ix (ix_seqK (K := K)) (pv 0) (pe_op (opAddK (K := K)) pe_int (pv 4)) (fun _ _ => rfl)) pe_int) (pv 4)) pa_nil)) (pv 2))))
  (pss_cons (ps_set (i := 5) sc__law_parts.nd rfl (.inl rfl) (pe_lst pa_nil))
  (pss_cons (ps_for PassesOwn.never rfl (pi_range1 rfl T.n_range (pa_cons (pe_op op_mod (pe_callTy c_int (by rfl) T.n_int (by rfl) (pa_cons (pe_ix ix_seq (pv 0) pe_int (fun _ _ => rfl)) pa_nil)) pe_int) pa_nil)) (pg_name (i := 4) sc__law_parts.nd rfl (.inl rfl))
  (pss_one (ps_expr (pe_bm PySem.F.plainAttrs_list PySem.F.slot_list_append PySem.F.type_list_append mt_append (pv 5) (pa_cons (pe_tup (pa_cons (pe_op op_mod (pe_callTy c_int (by rfl) T.n_int (by rfl) (pa_cons (pe_ix ix_seq (pv 0) (pe_op opAdd pe_int (pv 4)) (fun _ _ => rfl)) pa_nil)) (pv 2)) (pa_cons (pe_ix ix_seq (pv 1) (pe_op op_mod (pe_callTy c_int (by rfl) T.n_int (by rfl) (pa_cons (pv 4) pa_nil)) pe_int) (fun _ _ => rfl)) (pa_cons (pe_op op_mod (pe_callTy c_int (by rfl) T.n_int (by rfl) (pa_cons (pe_ix ix_seq (pv 0) (pe_op opAdd pe_int (pv 4)) (fun _ _ => rfl)) pa_nil)) (pv 2)) pa_nil)))) pa_nil)))))
  (pss_one (ps_ret (pe_tup (pa_cons (pv 2) (pa_cons (pv 3) (pa_cons (pv 5) pa_nil)))))))))), ?_⟩
    walk_at "g"
    refine ix_l hS (row_at (j := 0) (by omega)) ?_
    have r0 := nn 0 (by omega)
    have r1 := nn 1 (by omega)
    walk_at "g"
    refine ix_l hS (row_at (j := 1) (by omega)) ?_
    walk_at "g"
    have s1 : 1 ≤ 1 + (row.getD 0 0 * 64 + row.getD 1 0) % 200 := by omega
    have s2 : 1 + (row.getD 0 0 * 64 + row.getD 1 0) % 200 ≤ 200 := by omega
    generalize 1 + (row.getD 0 0 * 64 + row.getD 1 0) % 200 = n at s1 s2
    have r7 := nn 7 (by omega)
    obtain ⟨c, hc⟩ : ∃ c : Nat, row.getD 7 0 % 5 = (c : Int) := ⟨(row.getD 7 0 % 5).toNat, by omega⟩
    have c5 : c < 5 := by omega
    refine lc_r (n := row.getD 7 0 % 5) (fun _ => true) (markV row n) (fun R k => ?_) ⟨by omega, by omega⟩ (fun _ => rfl) yes_t ?_ fun D H1 hD e1 h1 => ?_
    · walk_at "g"
      refine ix_l hS (row_at (j := 7) (by omega)) ?_
      walk_at "g"
      exact k
    · intro y hy _ H1 e1 R k
      unfold intsV at hy
      obtain ⟨i, hi, rfl⟩ := List.mem_map.mp hy
      have i5 : i < 5 := by have := List.mem_range.mp hi; omega
      walk_at "g"
      refine ix_l (ex_l e1 hS) (i := 2 + (i : Int)) (by rw [show (2 : Int) + (i : Int) = ((2 + i : Nat) : Int) by omega]; exact row_at (j := 2 + i) (by omega)) ?_
      walk_at "g"
      refine ⟨_, _, rfl, rfl, show (0 : Int) < _ by omega, ?_⟩
      exact k H1 (Ex.refl _)
    rw [filter_yes, hc, Int.toNat_natCast] at h1
    have h1 : H1 D = some (.lst ((marksP row n c).map V.int)) := by
      rw [h1]
      unfold intsV marksP
      rw [List.map_map, List.map_map]
      rfl
    walk_at "g"
    refine lst_go fun L H2 nL e2 hL => ?_
    walk_at "g"
    refine ix_l (ex_l (e1.trans e2) hS) (row_at (j := 15) (by omega)) ?_
    have r15 := nn 15 (by omega)
    have nLH : H L = none := none_ex e1 nL
    walk_at "g"
    refine lr1_go (fun i σ' H' => ∃ y4 us ss, σ' = [some (.ref a), some (.ref b), some (.int n), some (.ref D), y4, some (.ref L)] ∧ Ex H1 H' ∧ H' L = some (.lst us) ∧ Tups H' us (List.map stepV ss) ∧ ss.length = i ∧ (∀ s ∈ ss, OkS n s))
      ⟨_, [], [], rfl, e2, hL, .nil, rfl, fun _ z => nomatch z⟩ ⟨by omega, by omega⟩ ?_ ?_
    · rintro i σ' H' hi ⟨y4, us, ss, rfl, e3, l3, t3, sl, sok⟩
      have i7 : i < 7 := by omega
      have e13 := e1.trans e3
      walk_at "g"
      refine r_app rfl l3 ?_
      walk_at "g"
      refine ix_l (ex_l e13 hS) (i := 8 + (i : Int)) (by rw [show (8 : Int) + (i : Int) = ((8 + i : Nat) : Int) by omega]; exact row_at (j := 8 + i) (by omega)) ?_
      walk_at "g"
      refine ⟨_, _, rfl, rfl, show (0 : Int) < _ by omega, ?_⟩
      have a0 := Int.emod_nonneg (row.getD (8 + i) 0) (b := n) (by omega)
      have a1 := Int.emod_lt_of_pos (row.getD (8 + i) 0) (b := n) (by omega)
      walk_at "g"
      have im : i % 3 < asks.length := by omega
      rw [show (i : Int) % 3 = ((i % 3 : Nat) : Int) by omega]
      refine ix_l (ex_l e13 hA) (strs_at im) ?_
      have xo := aok _ (getD_mem (z := Str.empty) im)
      walk_at "g"
      refine ix_l (ex_l e13 hS) (i := 9 + (i : Int)) (by rw [show (9 : Int) + (i : Int) = ((9 + i : Nat) : Int) by omega]; exact row_at (j := 9 + i) (by omega)) ?_
      walk_at "g"
      refine ⟨_, _, rfl, rfl, show (0 : Int) < _ by omega, ?_⟩
      have b0 := Int.emod_nonneg (row.getD (9 + i) 0) (b := n) (by omega)
      have b1 := Int.emod_lt_of_pos (row.getD (9 + i) 0) (b := n) (by omega)
      walk_at "g"
      refine ⟨sz_of (by show 3 ≤ 100000; decide), fun p hp => ?_⟩
      have lu : us.length = i := by rw [t3.len, List.length_map, sl]
      have e4 : Ex H' (upd H' p (.tup [.int (row.getD (8 + i) 0 % n), .str (asks.getD (i % 3) Str.empty), .int (row.getD (9 + i) 0 % n)])) := Ex.new hp
      have h4 : (upd H' p (.tup [.int (row.getD (8 + i) 0 % n), .str (asks.getD (i % 3) Str.empty), .int (row.getD (9 + i) 0 % n)])) p = some (.tup (stepV (row.getD (8 + i) 0 % n, asks.getD (i % 3) Str.empty, row.getD (9 + i) 0 % n))) := upd_same
      generalize (upd H' p (.tup [.int (row.getD (8 + i) 0 % n), .str (asks.getD (i % 3) Str.empty), .int (row.getD (9 + i) 0 % n)])) = H4 at e4 h4
      refine app_l (e4 _ _ l3) (sz_lt (by omega)) ?_
      walk_at "g"
      refine ⟨_, us ++ [.ref p], ss ++ [(row.getD (8 + i) 0 % n, asks.getD (i % 3) Str.empty, row.getD (9 + i) 0 % n)], rfl, ex_upd (e3.trans e4) nL, upd_same, ?_, by rw [List.length_append, sl]; rfl, fun s hs => ?_⟩
      · have tx4 : Tx H4 (upd H4 L (.lst (us ++ [.ref p]))) := tx_lst (e4 _ _ l3)
        rw [List.map_append]
        refine Tups.snoc ⟨p, rfl, ?_⟩ (t3.tx ((tx_ex e4).trans tx4))
        exact tx4 _ _ h4
      · rcases List.mem_append.mp hs with hs | hs
        · exact sok s hs
        · rw [List.mem_singleton.mp hs]
          exact ⟨a0, a1, xo.1, xo.2.1, xo.2.2, b0, b1⟩
    · rintro σ' H' ⟨y4, us, ss, rfl, e3, l3, t3, sl, sok⟩
      walk_at "g"
      refine ⟨sz_of (by show 3 ≤ 100000; decide), fun p hp => ?_⟩
      have e4 := (e1.trans e3).trans (Ex.new (o := .tup [.int n, .ref D, .ref L]) hp)
      have e5 := Ex.new (o := .tup [.int n, .ref D, .ref L]) hp
      refine q p D L _ n (marksP row n c) us ss (none_ex (e1.trans e3) hp) e4 upd_same (e5 _ _ (e3 _ _ h1)) (e5 _ _ l3) (t3.tx (tx_ex e5)) s1 s2 (fun k hk => ?_) (by unfold marksP; rw [List.length_map, List.length_range]; omega) sok (by rw [sl]; omega)
      unfold marksP at hk
      obtain ⟨i, _, rfl⟩ := List.mem_map.mp hk
      exact ⟨Int.emod_nonneg _ (by omega), Int.emod_lt_of_pos _ (by omega)⟩
end

end K14

set_option Elab.async false
set_option linter.all false
set_option maxRecDepth 100000
set_option maxHeartbeats 2000000
namespace K14
open PySem PySem.Spec PyProof.Rows L2 Evl AE
local macro_rules | `(tactic| walk_at "c") => `(tactic| first | exact ⟨by decide, by decide⟩ | exact .inr ⟨by decide, by decide⟩ | exact .inl ⟨by decide, by decide⟩ | exact ⟨by decide, by decide, by decide⟩ | (show (0 : Int) < _; decide))
local macro_rules | `(tactic| walk_at "s") => `(tactic| first
  | (with_reducible refine r_var rfl ?_) | (with_reducible refine r_c ?_) | (with_reducible refine r_op ?_) | (with_reducible refine r_un ?_) | (with_reducible refine r_I0 ?_) | (with_reducible refine r_U ?_)
  | (with_reducible refine r_eq rfl ?_) | (with_reducible refine r_ne rfl ?_) | (with_reducible refine r_chain ?_) | (with_reducible refine r_test ?_) | (with_reducible refine r_tB ?_)
  | (with_reducible refine r_bl ?_) | (with_reducible refine r_and ?_) | (with_reducible refine r_or ?_) | (with_reducible refine r_not ?_) | (with_reducible refine r_nil ?_) | (with_reducible refine r_cons ?_)
  | (with_reducible refine r_tupK ?_) | (with_reducible refine r_lstK ?_) | (with_reducible refine r_cb ?_) | (with_reducible refine r_revL ?_) | (with_reducible refine r_ost ?_) | (with_reducible refine r_mkO ?_) | (with_reducible refine r_makeK ?_) | (with_reducible refine r_make ?_) | (with_reducible refine r_setdN ?_) | (with_reducible refine r_nget2 ?_) | (with_reducible refine r_nnew ?_) | (with_reducible refine r_call ?_) | (with_reducible refine r_seq ?_) | (with_reducible refine r_set ?_)
  | (with_reducible refine r_drop ?_) | (with_reducible refine r_ret ?_) | (with_reducible refine r_next ?_) | (with_reducible refine r_if ?_) | (with_reducible refine r_sl ?_) | (with_reducible refine r_nop ?_) | (with_reducible refine r_prt ?_) | (with_reducible refine r_some ?_)
  | (with_reducible refine add_int ?_) | (with_reducible refine int_i ?_) | (with_reducible refine r_forR1 ?_) | (with_reducible refine r_forR2 ?_) | (with_reducible refine r_meth ?_) | (with_reducible refine r_makeS ?_) | (with_reducible refine r_opS ?_) | (with_reducible refine r_makeRS ?_) | (with_reducible refine r_methH ?_) | (with_reducible refine r_callS ?_) | (with_reducible refine r_forL ?_) | (with_reducible refine r_andV ?_) | (with_reducible refine r_orV ?_) | (with_reducible refine r_notV ?_) | (with_reducible refine r_ifE ?_) | (with_reducible refine r_lcL ?_) | (with_reducible refine r_fld ?_) | (with_reducible refine r_get ?_) | (with_reducible refine r_din ?_) | (with_reducible refine r_dget2 ?_) | ((with_reducible refine r_I ?_ ?_); (walk_at "c")))
local macro_rules | `(tactic| walk_at "g") => `(tactic| repeat walk_at "s")
section
variable {P : Program} {w : World} {K : PySem.W.Frag} {mg : Str → Option Value} {base : Heap}
/-! ### six hundred steps -/
def cellS (r : Int) (s : Nat) (x : Str) : StepD := ((s : Int), x, ((s : Int) * 3 + r) % 200)
def bigF (r : Int) (asks : List Str) (i : Nat) : List StepD := (List.range i).flatMap fun s => asks.map (cellS r s)
theorem big_snoc (r : Int) (asks : List Str) (i : Nat) : bigF r asks (i + 1) = bigF r asks i ++ asks.map (cellS r i) := by
  unfold bigF
  rw [List.range_succ, List.flatMap_append, List.flatMap_singleton]
theorem big_len (r : Int) (asks : List Str) : ∀ i, (bigF r asks i).length = i * asks.length
  | 0 => by unfold bigF; simp
  | i + 1 => by rw [big_snoc, List.length_append, List.length_map, big_len r asks i, Nat.succ_mul]
def sp_large (K : PySem.W.Frag) : Sp := fun vs H Q _ => ∃ (a b : Addr) (row : List Int) (asks : List Str), vs = [.ref a, .ref b] ∧ SqL K H a (row.map V.int) ∧ row.length = 24 ∧ (∀ d ∈ row, 0 ≤ d ∧ d < 64) ∧ SqL K H b (asks.map V.str) ∧ asks.length = 3 ∧
  ∀ (p : Addr) H' (us : List V) (ss : List StepD), H p = none → Ex H H' → H' p = some (.lst us) → Tups H' us (ss.map stepV) → ss.length ≤ 603 → (∀ s, s ∈ ss ↔ s ∈ bigF (row.getD 0 0) asks 200) → Q (.ref p) H'
theorem ok_large (T : Tp K mg) : FnOk P w K mg base CX0 1 T.a__law_large T.d__law_large ["_law_row", "_law_asks_here"] (sp_large K) := by
  refine T.f__law_large.ok sc__law_large (fun vs H Q E h => ?_) (fun cdv A outer s H vs Q E hr h => ?_)
  · obtain ⟨a, b, row, asks, rfl, _⟩ := h
    rfl
  · obtain ⟨a, b, row, asks, rfl, hS, hl, hb, hA, al, q⟩ := h
    have nn : ∀ j, j < row.length → 0 ≤ row.getD j 0 ∧ row.getD j 0 < 64 := fun j hj => hb _ (getD_mem (z := 0) hj)
    refine ⟨_, (pss_cons (ps_set (i := 2) sc__law_large.nd rfl (.inl rfl) (pe_lst pa_nil))
  (pss_cons (ps_for PassesOwn.never rfl (pi_range1 rfl T.n_range (pa_cons pe_int pa_nil)) (pg_name (i := 3) sc__law_large.nd rfl (.inl rfl))
  (pss_one (ps_for PassesOwn.never rfl (pi_list (pv 1)) (pg_name (i := 4) sc__law_large.nd rfl (.inl rfl))
  (pss_one (ps_expr (pe_bm PySem.F.plainAttrs_list PySem.F.slot_list_append PySem.F.type_list_append mt_append (pv 2) (pa_cons (pe_tup (pa_cons (pv 3) (pa_cons (pv 4) (pa_cons (pe_op op_mod (pe_callTy c_int (by rfl) T.n_int (by rfl) (pa_cons (pe_op opAdd (pe_op op_mul (pv 3) pe_int) (pe_ix ix_seq (pv 0) pe_int (fun _ _ => rfl))) pa_nil)) pe_int) pa_nil)))) pa_nil)))))))
  (pss_cons (ps_set (i := 5) sc__law_large.nd rfl (.inl rfl) (pe_op op_mul (pe_callTy c_int (by rfl) T.n_int (by rfl) (pa_cons (pe_ix ix_seq (pv 0) pe_int (fun _ _ => rfl)) pa_nil)) pe_int))
  (pss_one (ps_ret (pe_op opAdd (pe_op opAdd (pe_slice sl_list (pv 2) (po_some (pv 5)) po_none) (pe_slice sl_list (pv 2) po_none (po_some (pv 5)))) (pe_slice sl_list (pv 2) po_none (po_some (pe_op op_mod (pe_callTy c_int (by rfl) T.n_int (by rfl) (pa_cons (pe_ix ix_seq (pv 0) pe_int (fun _ _ => rfl)) pa_nil)) pe_int))))))))), ?_⟩
    walk_at "g"
    refine lst_go fun L H1 nL e1 hL => ?_
    walk_at "g"
    refine lr1_go (fun i σ' H' => ∃ y3 y4 y5 us, σ' = [some (.ref a), some (.ref b), some (.ref L), y3, y4, y5] ∧ Ex H H' ∧ H' L = some (.lst us) ∧ Tups H' us ((bigF (row.getD 0 0) asks i).map stepV))
      ⟨_, _, _, [], rfl, e1, hL, by unfold bigF; rw [List.range_zero, List.flatMap_nil]; exact .nil⟩ ⟨by decide, by decide⟩ ?_ ?_
    · rintro i σ' H' hi ⟨y3, y4, y5, us, rfl, e2, l2, t2⟩
      have i200 : i < 200 := by omega
      walk_at "g"
      refine ll_go (xs := asks.map V.str) (ex_l e2 hA) (fun j σ' H' => ∃ y4 y5 us, σ' = [some (.ref a), some (.ref b), some (.ref L), some (.int i), y4, y5] ∧ Ex H H' ∧ H' L = some (.lst us) ∧ Tups H' us ((bigF (row.getD 0 0) asks i ++ (asks.take j).map (cellS (row.getD 0 0) i)).map stepV))
        ⟨_, _, us, rfl, e2, l2, by rw [List.take_zero, List.map_nil, List.append_nil]; exact t2⟩ (fun j σ' H' _ z => by obtain ⟨_, _, _, _, e3, _⟩ := z; exact ex_l e3 hA) ?_ ?_
      · rintro j x σ' H' hj ⟨y4, y5, us, rfl, e3, l3, t3⟩
        rw [List.getElem?_map] at hj
        obtain ⟨x, hx, rfl⟩ := Option.map_eq_some_iff.mp hj
        have jl : j < asks.length := (List.getElem?_eq_some_iff.mp hx).1
        refine gname1 ?_
        refine r_drop (r_app rfl l3 ?_)
        walk_at "g"
        refine ix_l (ex_l e3 hS) (row_at (j := 0) (by omega)) ?_
        walk_at "g"
        refine ⟨sz_of (by show 3 ≤ 100000; decide), fun p hp => ?_⟩
        have lu : us.length = i * 3 + j := by rw [t3.len, List.length_map, List.length_append, List.length_map, List.length_take, big_len, al]; omega
        have e4 : Ex H' (upd H' p (.tup [.int i, .str x, .int (((i : Int) * 3 + row.getD 0 0) % 200)])) := Ex.new hp
        have h4 : (upd H' p (.tup [.int i, .str x, .int (((i : Int) * 3 + row.getD 0 0) % 200)])) p = some (.tup (stepV (cellS (row.getD 0 0) i x))) := upd_same
        generalize (upd H' p (.tup [.int i, .str x, .int (((i : Int) * 3 + row.getD 0 0) % 200)])) = H4 at e4 h4
        refine app_l (e4 _ _ l3) (sz_lt (by omega)) ?_
        walk_at "g"
        refine ⟨_, _, us ++ [.ref p], rfl, ex_upd (e3.trans e4) nL, upd_same, ?_⟩
        have tx4 : Tx H4 (upd H4 L (.lst (us ++ [.ref p]))) := tx_lst (e4 _ _ l3)
        have ea : bigF (row.getD 0 0) asks i ++ (asks.take (j + 1)).map (cellS (row.getD 0 0) i) = (bigF (row.getD 0 0) asks i ++ (asks.take j).map (cellS (row.getD 0 0) i)) ++ [cellS (row.getD 0 0) i x] := by
          rw [List.take_add_one, hx, List.map_append, ← List.append_assoc]
          rfl
        rw [ea, List.map_append]
        exact Tups.snoc ⟨p, rfl, tx4 _ _ h4⟩ (t3.tx ((tx_ex e4).trans tx4))
      · rintro σ' H' ⟨y4, y5, us, rfl, e3, l3, t3⟩
        rw [List.length_map, List.take_length, ← big_snoc] at t3
        walk_at "g"
        exact ⟨_, _, _, us, rfl, e3, l3, t3⟩
    · rintro σ' H' ⟨y3, y4, y5, us, rfl, e2, l2, t2⟩
      have t2 : Tups H' us ((bigF (row.getD 0 0) asks 200).map stepV) := t2
      have lb : (bigF (row.getD 0 0) asks 200).length = 600 := by rw [big_len, al]
      have lu : us.length = 600 := by rw [t2.len, List.length_map, lb]
      walk_at "g"
      refine ix_l (ex_l e2 hS) (row_at (j := 1) (by omega)) ?_
      have r1 := nn 1 (by omega)
      have r2 := nn 2 (by omega)
      obtain ⟨k, hk⟩ : ∃ k : Nat, row.getD 1 0 * 9 = (k : Int) := ⟨(row.getD 1 0 * 9).toNat, by omega⟩
      obtain ⟨c, hc⟩ : ∃ c : Nat, row.getD 2 0 % 4 = (c : Int) := ⟨(row.getD 2 0 % 4).toNat, by omega⟩
      walk_at "g"
      rw [hk]
      refine sl_l (.inl (.inl l2)) fun p1 n1 => ?_
      rw [cutV_from]
      have f1 : Ex H' (upd H' p1 (.lst (us.drop k))) := Ex.new n1
      have h1 : (upd H' p1 (.lst (us.drop k))) p1 = some (.lst (us.drop k)) := upd_same
      generalize (upd H' p1 (.lst (us.drop k))) = H1 at f1 h1
      walk_at "g"
      refine sl_l (.inl (.inl (f1 _ _ l2))) fun p2 n2 => ?_
      rw [cutV_to]
      have f2 : Ex H1 (upd H1 p2 (.lst (us.take k))) := Ex.new n2
      have h2 : (upd H1 p2 (.lst (us.take k))) p2 = some (.lst (us.take k)) := upd_same
      generalize (upd H1 p2 (.lst (us.take k))) = H2 at f2 h2
      have big : 3000 ≤ sizeLine := by decide
      refine add_lst (f2 _ _ h1) h2 (by rw [List.length_drop, List.length_take]; omega) fun p3 n3 => ?_
      have f3 : Ex H2 (upd H2 p3 (.lst (us.drop k ++ us.take k))) := Ex.new n3
      have h3 : (upd H2 p3 (.lst (us.drop k ++ us.take k))) p3 = some (.lst (us.drop k ++ us.take k)) := upd_same
      generalize (upd H2 p3 (.lst (us.drop k ++ us.take k))) = H3 at f3 h3
      have f13 := (f1.trans f2).trans f3
      walk_at "g"
      refine ix_l (ex_l (e2.trans f13) hS) (row_at (j := 2) (by omega)) ?_
      walk_at "g"
      rw [hc]
      refine sl_l (.inl (.inl (f13 _ _ l2))) fun p4 n4 => ?_
      rw [cutV_to]
      have f4 : Ex H3 (upd H3 p4 (.lst (us.take c))) := Ex.new n4
      have h4 : (upd H3 p4 (.lst (us.take c))) p4 = some (.lst (us.take c)) := upd_same
      generalize (upd H3 p4 (.lst (us.take c))) = H4 at f4 h4
      refine add_lst (f4 _ _ h3) h4 (by rw [List.length_append, List.length_drop, List.length_take, List.length_take]; omega) fun p5 n5 => ?_
      have f5 := Ex.new (o := .lst (us.drop k ++ us.take k ++ us.take c)) n5
      have eA := e2.trans (f13.trans f4)
      refine q p5 _ _ ((bigF (row.getD 0 0) asks 200).drop k ++ (bigF (row.getD 0 0) asks 200).take k ++ (bigF (row.getD 0 0) asks 200).take c) (none_ex eA n5) (eA.trans f5) upd_same ?_ ?_ fun s => ?_
      · rw [List.map_append, List.map_append, List.map_drop, List.map_take, List.map_take]
        have t5 := t2.tx (tx_ex ((f13.trans f4).trans f5))
        exact ((tups_drop k t5).app (tups_take k t5)).app (tups_take c t5)
      · rw [List.length_append, List.length_append, List.length_drop, List.length_take, List.length_take, lb]
        omega
      · rw [List.mem_append, List.mem_append]
        constructor
        · rintro ((h | h) | h)
          · exact List.mem_of_mem_drop h
          · exact List.mem_of_mem_take h
          · exact List.mem_of_mem_take h
        · intro h
          rw [← List.take_append_drop k (bigF (row.getD 0 0) asks 200), List.mem_append] at h
          exact .inl h.symm
end

end K14

set_option Elab.async false
set_option linter.all false
set_option maxRecDepth 100000
set_option maxHeartbeats 2000000
namespace K14
open PySem PySem.Spec PyProof.Rows L2 Evl AE
local macro_rules | `(tactic| walk_at "c") => `(tactic| first | exact ⟨by decide, by decide⟩ | exact .inr ⟨by decide, by decide⟩ | exact .inl ⟨by decide, by decide⟩ | exact ⟨by decide, by decide, by decide⟩ | (show (0 : Int) < _; decide))
local macro_rules | `(tactic| walk_at "s") => `(tactic| first
  | (with_reducible refine r_var rfl ?_) | (with_reducible refine r_c ?_) | (with_reducible refine r_op ?_) | (with_reducible refine r_un ?_) | (with_reducible refine r_I0 ?_) | (with_reducible refine r_U ?_)
  | (with_reducible refine r_eq rfl ?_) | (with_reducible refine r_ne rfl ?_) | (with_reducible refine r_chain ?_) | (with_reducible refine r_test ?_) | (with_reducible refine r_tB ?_)
  | (with_reducible refine r_bl ?_) | (with_reducible refine r_and ?_) | (with_reducible refine r_or ?_) | (with_reducible refine r_not ?_) | (with_reducible refine r_nil ?_) | (with_reducible refine r_cons ?_)
  | (with_reducible refine r_tupK ?_) | (with_reducible refine r_lstK ?_) | (with_reducible refine r_cb ?_) | (with_reducible refine r_revL ?_) | (with_reducible refine r_ost ?_) | (with_reducible refine r_mkO ?_) | (with_reducible refine r_makeK ?_) | (with_reducible refine r_make ?_) | (with_reducible refine r_setdN ?_) | (with_reducible refine r_nget2 ?_) | (with_reducible refine r_nnew ?_) | (with_reducible refine r_call ?_) | (with_reducible refine r_seq ?_) | (with_reducible refine r_set ?_)
  | (with_reducible refine r_drop ?_) | (with_reducible refine r_ret ?_) | (with_reducible refine r_next ?_) | (with_reducible refine r_if ?_) | (with_reducible refine r_sl ?_) | (with_reducible refine r_nop ?_) | (with_reducible refine r_prt ?_) | (with_reducible refine r_some ?_)
  | (with_reducible refine add_int ?_) | (with_reducible refine int_i ?_) | (with_reducible refine r_forR1 ?_) | (with_reducible refine r_forR2 ?_) | (with_reducible refine r_meth ?_) | (with_reducible refine r_makeS ?_) | (with_reducible refine r_opS ?_) | (with_reducible refine r_makeRS ?_) | (with_reducible refine r_methH ?_) | (with_reducible refine r_callS ?_) | (with_reducible refine r_forL ?_) | (with_reducible refine r_andV ?_) | (with_reducible refine r_orV ?_) | (with_reducible refine r_notV ?_) | (with_reducible refine r_ifE ?_) | (with_reducible refine r_lcL ?_) | (with_reducible refine r_fld ?_) | (with_reducible refine r_get ?_) | (with_reducible refine r_din ?_) | (with_reducible refine r_dget2 ?_) | ((with_reducible refine r_I ?_ ?_); (walk_at "c")))
local macro_rules | `(tactic| walk_at "g") => `(tactic| repeat walk_at "s")
section
variable {P : Program} {w : World} {K : PySem.W.Frag} {mg : Str → Option Value} {base : Heap}
/-! ### how many steps -/
theorem len_le : ∀ {l1 l2 : List StepD}, l1.Pairwise (· ≠ ·) → (∀ x ∈ l1, x ∈ l2) → l1.length ≤ l2.length
  | [], _, _, _ => Nat.zero_le _
  | a :: l, l2, nd, sub => by
    rw [List.pairwise_cons] at nd
    have ha := sub a (List.mem_cons_self ..)
    have ih := len_le (l2 := l2.erase a) nd.2 fun x hx => (List.mem_erase_of_ne (Ne.symm (nd.1 x hx))).mpr (sub x (List.mem_cons_of_mem _ hx))
    rw [List.length_erase_of_mem ha] at ih
    have := List.length_pos_of_mem ha
    rw [List.length_cons]
    omega
theorem lt_ne {rows : List StepD} (h : rows.Pairwise ltS) : rows.Pairwise (· ≠ ·) := h.imp fun {a b} (l : ltS a b) (e : a = b) => ltS_irrefl a (by rw [← e] at l; exact l)
theorem big_mem {r : Int} {asks : List Str} {s : StepD} : s ∈ bigF r asks 200 ↔ ∃ i, i < 200 ∧ ∃ x ∈ asks, s = cellS r i x := by
  unfold bigF
  rw [List.mem_flatMap]
  constructor
  · rintro ⟨i, hi, h⟩
    obtain ⟨x, hx, e⟩ := List.mem_map.mp h
    exact ⟨i, List.mem_range.mp hi, x, hx, e.symm⟩
  · rintro ⟨i, hi, x, hx, e⟩
    exact ⟨i, List.mem_range.mpr hi, List.mem_map.mpr ⟨x, hx, e.symm⟩⟩
theorem big_nodup {r : Int} {asks : List Str} (nd : asks.Pairwise (· ≠ ·)) : (bigF r asks 200).Pairwise (· ≠ ·) := by
  unfold bigF
  rw [List.pairwise_flatMap]
  refine ⟨fun i _ => ?_, (range_up 200).imp fun {i j} h x hx y hy e => ?_⟩
  · rw [List.pairwise_map]
    exact nd.imp fun {x y} ne e => ne (congrArg (fun (z : StepD) => z.2.1) e)
  · obtain ⟨u, _, rfl⟩ := List.mem_map.mp hx
    obtain ⟨v, _, rfl⟩ := List.mem_map.mp hy
    have z : (i : Int) = (j : Int) := congrArg (fun (z : StepD) => z.1) e
    omega
theorem big_ok {r : Int} {asks : List Str} (aok : ∀ x ∈ asks, AskOk x) {s : StepD} (h : s ∈ bigF r asks 200) : OkS 200 s := by
  obtain ⟨i, hi, x, hx, rfl⟩ := big_mem.mp h
  have o := aok x hx
  refine ⟨?_, ?_, o.1, o.2.1, o.2.2, ?_, ?_⟩
  · show 0 ≤ (i : Int); omega
  · show (i : Int) < 200; omega
  · show 0 ≤ ((i : Int) * 3 + r) % 200; omega
  · show ((i : Int) * 3 + r) % 200 < 200; omega
def extra (r : Int) (asks : List Str) : StepD := (7, asks.getD 0 Str.empty, (22 + r) % 200)
theorem extra_not {r : Int} {asks : List Str} : ¬ extra r asks ∈ bigF r asks 200 := fun h => by
  obtain ⟨i, hi, x, hx, e⟩ := big_mem.mp h
  have e1 : (7 : Int) = (i : Int) := congrArg (fun (z : StepD) => z.1) e
  have e2 : (22 + r) % 200 = ((i : Int) * 3 + r) % 200 := congrArg (fun (z : StepD) => z.2.2) e
  omega
theorem put_mem {α : Type} {xs : List α} {v s : α} {k : Nat} : s ∈ putF xs v k ↔ s = v ∨ s ∈ xs := by
  unfold putF
  rw [List.mem_append, List.mem_append, List.mem_singleton]
  constructor
  · rintro ((h | h) | h)
    · exact .inr (List.mem_of_mem_take h)
    · exact .inl h
    · exact .inr (List.mem_of_mem_drop h)
  · rintro (h | h)
    · exact .inl (.inr h)
    · rw [← List.take_append_drop k xs, List.mem_append] at h
      rcases h with h | h
      · exact .inl (.inl h)
      · exact .inr h
theorem put_len {α : Type} (xs : List α) (v : α) (k : Nat) : (putF xs v k).length = xs.length + 1 := by
  unfold putF
  rw [List.length_append, List.length_append, List.length_take, List.length_drop, List.length_singleton]
  omega
/-- before a step too many may come: at most 600 different -/
structure Sit (n r : Int) (asks : List Str) (F : List Int) (ss : List StepD) : Prop where
  n1 : 1 ≤ n
  n2 : n ≤ 200
  len : ss.length ≤ 603
  ok : ∀ s ∈ ss, OkS n s
  few : ss.length ≤ 600 ∨ ∀ s, s ∈ ss ↔ s ∈ bigF r asks 200
  five : (5 : Int) ∈ F → n = 200 ∧ ∀ s, s ∈ ss ↔ s ∈ bigF r asks 200
theorem Sit.le {n r : Int} {asks : List Str} {F : List Int} {ss rows : List StepD} (S : Sit n r asks F ss) (al : asks.length = 3) (up : rows.Pairwise ltS) (mem : ∀ s, s ∈ rows ↔ s ∈ ss) : rows.length ≤ 600 := by
  rcases S.few with h | h
  · exact Nat.le_trans (len_le (lt_ne up) fun x hx => (mem x).mp hx) h
  · have := len_le (l2 := bigF r asks 200) (lt_ne up) fun x hx => (h x).mp ((mem x).mp hx)
    rw [big_len, al] at this
    exact this
theorem sit_601 {r : Int} {asks : List Str} {ss rows : List StepD} {k : Nat} (al : asks.length = 3) (nd : asks.Pairwise (· ≠ ·)) (h : ∀ s, s ∈ ss ↔ s ∈ bigF r asks 200) (up : rows.Pairwise ltS) (mem : ∀ s, s ∈ rows ↔ s ∈ putF ss (extra r asks) k) : rows.length = 601 := by
  have le := len_le (l2 := extra r asks :: bigF r asks 200) (lt_ne up) fun x hx => by
    rcases put_mem.mp ((mem x).mp hx) with e | m
    · rw [e]; exact List.mem_cons_self ..
    · exact List.mem_cons_of_mem _ ((h x).mp m)
  have ge := len_le (l1 := extra r asks :: bigF r asks 200) (l2 := rows) (List.pairwise_cons.mpr ⟨fun y hy e => extra_not (by rw [e]; exact hy), big_nodup nd⟩) fun x hx => by
    rcases List.mem_cons.mp hx with e | m
    · exact (mem x).mpr (put_mem.mpr (.inl e))
    · exact (mem x).mpr (put_mem.mpr (.inr ((h x).mpr m)))
  rw [List.length_cons, big_len, al] at le ge
  omega
/-! ### what a making ends in is what is due -/
def due3 (F : List Int) (n now : Int) : Str × V :=
  if (3 : Int) ∈ F then ("machine", .str "mark") else if (4 : Int) ∈ F then ("machine", .str "step") else if (5 : Int) ∈ F then ("large", .int 601) else if (6 : Int) ∈ F then ("state", .int now) else ("built", .int n)
theorem due3_of {F : List Int} {n now : Int} (h1 : (1 : Int) ∉ F) (h2 : (2 : Int) ∉ F) : dueF F n now = due3 F n now := by
  unfold dueF due3
  rw [if_neg h1, if_neg h2]
theorem made_due {F : List Int} {n0 n now : Int} {ms : List Int} {ss : List StepD} (n1 : 1 ≤ n0) (n2 : n0 ≤ 200) (a1 : (1 : Int) ∈ F → n < 1) (a2 : (1 : Int) ∉ F → (2 : Int) ∈ F → 200 < n) (a3 : (1 : Int) ∉ F → (2 : Int) ∉ F → n = n0)
    (b1 : (3 : Int) ∈ F → ∃ m ∈ ms, ¬ (0 ≤ m ∧ m < n0)) (b2 : (3 : Int) ∉ F → ∀ m ∈ ms, 0 ≤ m ∧ m < n0) (c1 : (4 : Int) ∈ F → ∃ s ∈ ss, ¬ OkS n0 s) (c2 : (4 : Int) ∉ F → ∀ s ∈ ss, OkS n0 s)
    (d1 : (4 : Int) ∉ F → (5 : Int) ∈ F → ∀ rows : List StepD, rows.Pairwise ltS → (∀ s, s ∈ rows ↔ s ∈ ss) → rows.length = 601) (d2 : (4 : Int) ∉ F → (5 : Int) ∉ F → ∀ rows : List StepD, rows.Pairwise ltS → (∀ s, s ∈ rows ↔ s ∈ ss) → rows.length ≤ 600)
    (e1 : (6 : Int) ∈ F → ¬ (0 ≤ now ∧ now < n0)) (e2 : (6 : Int) ∉ F → 0 ≤ now ∧ now < n0) : MadeW n now ms ss fun t v => (t, v) = dueF F n now := by
  refine ⟨fun h => ?_, fun h => ?_, fun h1 h2 => ?_⟩
  · have z : (1 : Int) ∈ F := Classical.byContradiction fun z1 => by
      by_cases z2 : (2 : Int) ∈ F
      · have := a2 z1 z2; omega
      · have := a3 z1 z2; omega
    unfold dueF
    rw [if_pos z]
  · have z : (1 : Int) ∉ F := fun z1 => by have := a1 z1; omega
    have z2 : (2 : Int) ∈ F := Classical.byContradiction fun z2 => by have := a3 z z2; omega
    unfold dueF
    rw [if_neg z, if_pos z2]
  · have z : (1 : Int) ∉ F := fun z1 => by have := a1 z1; omega
    have z2 : (2 : Int) ∉ F := fun z2 => by have := a2 z z2; omega
    have en := a3 z z2
    subst en
    rw [due3_of z z2]
    unfold due3
    refine ⟨fun ⟨m, hm, bad⟩ => ?_, fun ok3 => ⟨fun ⟨s, hs, bad⟩ => ?_, fun ok4 rows up mem => ⟨fun gt => ?_, fun le bad => ?_, fun le w0 w1 => ?_⟩⟩⟩
    · have z3 : (3 : Int) ∈ F := Classical.byContradiction fun z3 => bad (b2 z3 m hm)
      rw [if_pos z3]
    all_goals have z3 : (3 : Int) ∉ F := fun z3 => (b1 z3).elim fun m hm => hm.2 (ok3 m hm.1)
    all_goals rw [if_neg z3]
    · have z4 : (4 : Int) ∈ F := Classical.byContradiction fun z4 => bad (c2 z4 s hs)
      rw [if_pos z4]
    all_goals have z4 : (4 : Int) ∉ F := fun z4 => (c1 z4).elim fun s hs => hs.2 (ok4 s hs.1)
    all_goals rw [if_neg z4]
    · have z5 : (5 : Int) ∈ F := Classical.byContradiction fun z5 => by have := d2 z4 z5 rows up mem; omega
      rw [if_pos z5, d1 z4 z5 rows up mem]
      rfl
    all_goals have z5 : (5 : Int) ∉ F := fun z5 => by have := d1 z4 z5 rows up mem; omega
    all_goals rw [if_neg z5]
    · have z6 : (6 : Int) ∈ F := Classical.byContradiction fun z6 => bad (e2 z6)
      rw [if_pos z6]
    · have z6 : (6 : Int) ∉ F := fun z6 => e1 z6 ⟨w0, w1⟩
      rw [if_neg z6]
end

end K14

set_option Elab.async false
set_option linter.all false
set_option maxRecDepth 100000
namespace K14
open PySem PySem.Spec PyProof.Rows L2 Evl AE
local macro_rules | `(tactic| walk_at "c") => `(tactic| first | exact ⟨by decide, by decide⟩ | exact .inr ⟨by decide, by decide⟩ | exact .inl ⟨by decide, by decide⟩ | exact ⟨by decide, by decide, by decide⟩ | (show (0 : Int) < _; decide))
local macro_rules | `(tactic| walk_at "s") => `(tactic| first
  | (with_reducible refine r_var rfl ?_) | (with_reducible refine r_c ?_) | (with_reducible refine r_op ?_) | (with_reducible refine r_un ?_) | (with_reducible refine r_I0 ?_) | (with_reducible refine r_U ?_)
  | (with_reducible refine r_eq rfl ?_) | (with_reducible refine r_ne rfl ?_) | (with_reducible refine r_chain ?_) | (with_reducible refine r_test ?_) | (with_reducible refine r_tB ?_)
  | (with_reducible refine r_bl ?_) | (with_reducible refine r_and ?_) | (with_reducible refine r_or ?_) | (with_reducible refine r_not ?_) | (with_reducible refine r_nil ?_) | (with_reducible refine r_cons ?_)
  | (with_reducible refine r_tup ?_) | (with_reducible refine r_lst ?_) | (with_reducible refine r_cb ?_) | (with_reducible refine r_call ?_) | (with_reducible refine r_seq ?_) | (with_reducible refine r_set ?_)
  | (with_reducible refine r_drop ?_) | (with_reducible refine r_ret ?_) | (with_reducible refine r_next ?_) | (with_reducible refine r_if ?_) | (with_reducible refine r_sl ?_) | (with_reducible refine r_nop ?_) | (with_reducible refine r_prt ?_) | (with_reducible refine r_some ?_)
  | (with_reducible refine add_int ?_) | (with_reducible refine int_i ?_) | (with_reducible refine r_forR1 ?_) | (with_reducible refine r_forL ?_) | ((with_reducible refine r_I ?_ ?_); (walk_at "c")))
local macro_rules | `(tactic| walk_at "g") => `(tactic| repeat walk_at "s")
section
variable {P : Program} {w : World} {K : PySem.W.Frag} {mg : Str → Option Value} {base : Heap}
def cellF (ns : List Int) (k : Int) : Int := ns.getD k.toNat 0
def sp_cell (K : PySem.W.Frag) : Sp := fun vs H Q _ => ∃ (a : Addr) (ns : List Int) (k : Int), vs = [.ref a, .int k] ∧ SqL K H a (ns.map V.int) ∧ 0 ≤ k ∧ Q (.int (cellF ns k)) H
theorem ok_cell (T : Tp K mg) : FnOk P w K mg base CX0 1 T.a__law_cell T.d__law_cell ["_law_script", "_law_k"] (sp_cell K) := by
  refine T.f__law_cell.ok sc__law_cell (fun vs H Q E h => ?_) (fun cdv A outer s H vs Q E hr h => ?_)
  · obtain ⟨a, ns, k, rfl, _⟩ := h
    rfl
  · obtain ⟨a, ns, k, rfl, hS, hk, q⟩ := h
    refine ⟨_, (pss_cons (ps_if (pt_cmpR op_lt (pv 1) (pe_callB c_len (by rfl) T.n_len (by rfl) (pa_cons (pv 0) pa_nil)) (nomark _)) (pss_one (ps_ret (pe_ix ix_seq (pv 0) (pv 1) (fun _ _ => rfl)))) pss_nil)
      (pss_one (ps_ret pe_int))), ?_⟩
    walk_at "g"
    refine len_l hS ?_
    walk_at "g"
    refine ite_b (fun hb => ?_) (fun hb => ?_)
    · walk_at "g"
      have hb' := of_decide_eq_true hb
      rw [List.length_map] at hb'
      have hk2 : k.toNat < ns.length := by omega
      refine ix_l (v := .int (cellF ns k)) hS ?_ q
      refine at_of (j := k.toNat) (by omega) ?_
      rw [List.getElem?_map, List.getElem?_eq_getElem hk2]
      unfold cellF
      rw [List.getD_eq_getElem?_getD, List.getElem?_eq_getElem hk2]
      rfl
    · walk_at "g"
      have hb' := of_decide_eq_false hb
      rw [List.length_map] at hb'
      have e : cellF ns k = 0 := by
        unfold cellF
        rw [List.getD_eq_getElem?_getD, List.getElem?_eq_none (by omega)]
        rfl
      rw [e] at q
      exact q
def restF : Nat → Int → List Int
  | 0, _ => []
  | n + 1, r => r % 64 :: restF n (r / 64)
def seedF : Nat → Int → Int → List Int
  | 0, _, _ => []
  | n + 1, t, s => (s * 48271 + t + 11) % 2147483647 / 65536 % 64 :: seedF n (t + 1) ((s * 48271 + t + 11) % 2147483647)
def drawsF (ns : List Int) (k many : Int) : List Int :=
  if 10 ^ 18 ≤ cellF ns k then restF many.toNat (cellF ns k - 10 ^ 18)
  else seedF many.toNat 0 ((cellF ns k * 7919 + k * 104729 + 12345) % 2147483647)
theorem restF_len : ∀ n r, (restF n r).length = n
  | 0, _ => rfl
  | n + 1, r => by show (restF n (r / 64)).length + 1 = n + 1; rw [restF_len n]
theorem seedF_len : ∀ n t s, (seedF n t s).length = n
  | 0, _, _ => rfl
  | n + 1, t, s => by show (seedF n _ _).length + 1 = n + 1; rw [seedF_len n]
theorem restF_bd : ∀ n r, ∀ x ∈ restF n r, 0 ≤ x ∧ x < 64
  | 0, _, x, h => by cases h
  | n + 1, r, x, h => by
    rcases List.mem_cons.mp h with rfl | h
    · omega
    · exact restF_bd n _ x h
theorem seedF_bd : ∀ n t s, ∀ x ∈ seedF n t s, 0 ≤ x ∧ x < 64
  | 0, _, _, x, h => by cases h
  | n + 1, t, s, x, h => by
    rcases List.mem_cons.mp h with rfl | h
    · omega
    · exact seedF_bd n _ _ x h
/-- the row after i turns, and the rest of it -/
def restN : Nat → Int → Int
  | 0, r => r
  | n + 1, r => restN n (r / 64)
theorem restF_snoc : ∀ n r, restF (n + 1) r = restF n r ++ [restN n r % 64]
  | 0, _ => rfl
  | n + 1, r => by
    show r % 64 :: restF (n + 1) (r / 64) = r % 64 :: (restF n (r / 64) ++ [restN n (r / 64) % 64])
    rw [restF_snoc n]
theorem restN_snoc : ∀ n r, restN (n + 1) r = restN n r / 64
  | 0, _ => rfl
  | n + 1, r => restN_snoc n (r / 64)
def seedN : Nat → Int → Int → Int
  | 0, _, s => s
  | n + 1, t, s => seedN n (t + 1) ((s * 48271 + t + 11) % 2147483647)
theorem seedN_snoc : ∀ (n : Nat) t s, seedN (n + 1) t s = (seedN n t s * 48271 + (t + n) + 11) % 2147483647
  | 0, t, s => by show (s * 48271 + t + 11) % 2147483647 = (s * 48271 + (t + (0 : Nat)) + 11) % 2147483647; congr 1; omega
  | n + 1, t, s => by
    show seedN (n + 1) (t + 1) _ = (seedN n (t + 1) _ * 48271 + (t + ((n + 1 : Nat) : Int)) + 11) % 2147483647
    rw [seedN_snoc n]
    congr 1
    omega
theorem seedF_snoc : ∀ (n : Nat) t s, seedF (n + 1) t s = seedF n t s ++ [(seedN n t s * 48271 + (t + n) + 11) % 2147483647 / 65536 % 64]
  | 0, t, s => by show [(s * 48271 + t + 11) % 2147483647 / 65536 % 64] = [(s * 48271 + (t + (0 : Nat)) + 11) % 2147483647 / 65536 % 64]; rw [show t + ((0 : Nat) : Int) = t by omega]
  | n + 1, t, s => by
    show _ :: seedF (n + 1) (t + 1) _ = _ :: (seedF n (t + 1) _ ++ [(seedN n (t + 1) _ * 48271 + (t + ((n + 1 : Nat) : Int)) + 11) % 2147483647 / 65536 % 64])
    rw [seedF_snoc n]
    congr 6
    omega
theorem draws_len (ns : List Int) (k many : Int) : (drawsF ns k many).length = many.toNat := by
  unfold drawsF
  split
  · exact restF_len _ _
  · exact seedF_len _ _ _
theorem draws_bd (ns : List Int) (k many : Int) : ∀ x ∈ drawsF ns k many, 0 ≤ x ∧ x < 64 := by
  unfold drawsF
  split
  · exact restF_bd _ _
  · exact seedF_bd _ _ _
def sp_draws (K : PySem.W.Frag) : Sp := fun vs H Q _ => ∃ (a : Addr) (ns : List Int) (k many : Int), vs = [.ref a, .int k, .int many] ∧ SqL K H a (ns.map V.int) ∧ 0 ≤ k ∧ 0 ≤ many ∧ many ≤ 1000 ∧
  ∀ p H', H p = none → Ex H H' → H' p = some (.lst ((drawsF ns k many).map V.int)) → Q (.ref p) H'
theorem ok_draws (T : Tp K mg) : FnOk P w K mg base CX0 2 T.a__law_draws T.d__law_draws ["_law_script", "_law_k", "_law_many"] (sp_draws K) := by
  have G__law_cell : FnOk P w K mg base CX0 1 T.a__law_cell T.d__law_cell ["_law_script", "_law_k"] (sp_cell K) := ok_cell T
  refine T.f__law_draws.ok sc__law_draws (fun vs H Q E h => ?_) (fun cdv A outer s H vs Q E hr h => ?_)
  · obtain ⟨a, ns, k, many, rfl, _⟩ := h
    rfl
  · obtain ⟨a, ns, k, many, rfl, hS, hk, hm, hm2, q⟩ := h
    refine ⟨_, (pss_cons (ps_set (i := 3) sc__law_draws.nd rfl (.inl rfl) (pe_call G__law_cell (hr.mono (by decide)) (by rfl) T.g__law_cell T.f__law_cell.kp T.b__law_cell .nil pass0 (pa_cons (pv 0) (pa_cons (pv 1) pa_nil))))
  (pss_cons (ps_set (i := 4) sc__law_draws.nd rfl (.inl rfl) (pe_lst pa_nil))
  (pss_cons (ps_if (pt_cmpR op_ge (pv 3) (pe_op op_pow pe_int pe_int) (nomark _)) (pss_cons (ps_set (i := 5) sc__law_draws.nd rfl (.inl rfl) (pe_op op_sub (pv 3) (pe_op op_pow pe_int pe_int)))
  (pss_cons (ps_for PassesOwn.never rfl (pi_range1 rfl T.n_range (pa_cons (pv 2) pa_nil)) (pg_name (i := 6) sc__law_draws.nd rfl (.inl rfl))
  (pss_cons (ps_expr (pe_bm PySem.F.plainAttrs_list PySem.F.slot_list_append PySem.F.type_list_append mt_append (pv 4) (pa_cons (pe_op op_mod (pe_callTy c_int (by rfl) T.n_int (by rfl) (pa_cons (pv 5) pa_nil)) pe_int) pa_nil)))
  (pss_one (ps_set (i := 5) sc__law_draws.nd rfl (.inl rfl) (pe_op op_fdiv (pv 5) pe_int)))))
  (pss_one (ps_ret (pv 4))))) pss_nil)
  (pss_cons (ps_set (i := 7) sc__law_draws.nd rfl (.inl rfl) (pe_op op_mod (pe_callTy c_int (by rfl) T.n_int (by rfl) (pa_cons (pe_op opAdd (pe_op opAdd (pe_op op_mul (pv 3) pe_int) (pe_op op_mul (pv 1) pe_int)) pe_int) pa_nil)) pe_int))
  (pss_cons (ps_for PassesOwn.never rfl (pi_range1 rfl T.n_range (pa_cons (pv 2) pa_nil)) (pg_name (i := 6) sc__law_draws.nd rfl (.inl rfl))
  (pss_cons (ps_set (i := 7) sc__law_draws.nd rfl (.inl rfl) (pe_op op_mod (pe_callTy c_int (by rfl) T.n_int (by rfl) (pa_cons (pe_op opAdd (pe_op opAdd (pe_op op_mul (pv 7) pe_int) (pv 6)) pe_int) pa_nil)) pe_int))
  (pss_one (ps_expr (pe_bm PySem.F.plainAttrs_list PySem.F.slot_list_append PySem.F.type_list_append mt_append (pv 4) (pa_cons (pe_op op_mod (pe_callTy c_int (by rfl) T.n_int (by rfl) (pa_cons (pe_op op_fdiv (pv 7) pe_int) pa_nil)) pe_int) pa_nil))))))
  (pss_one (ps_ret (pv 4)))))))), ?_⟩
    walk_at "g"
    refine ⟨a, ns, k, rfl, hS, hk, ?_⟩
    walk_at "g"
    refine ⟨by decide, fun l hl => ?_⟩
    have e1 : Ex H (upd H l (.lst [])) := Ex.new hl
    have l1 : (upd H l (.lst [])) l = some (.lst []) := upd_same
    generalize (upd H l (.lst [])) = H1 at e1 l1
    walk_at "g"
    refine ite_b (fun hb => ?_) (fun hb => ?_)
    · have hb' := of_decide_eq_true hb
      walk_at "g"
      refine lr1_go (fun i σ' H' => ∃ y, σ' = [some (.ref a), some (.int k), some (.int many), some (.int (cellF ns k)), some (.ref l), some (.int (restN i (cellF ns k - 10 ^ 18))), y, none] ∧ Ex H H' ∧ H' l = some (.lst ((restF i (cellF ns k - 10 ^ 18)).map V.int)))
        ⟨none, rfl, e1, l1⟩ ⟨hm, by omega⟩ ?_ ?_
      · rintro i σ' H' hi ⟨y, rfl, e2, l2⟩
        walk_at "g"
        refine r_app rfl l2 ?_
        walk_at "g"
        refine app_l l2 (by rw [List.length_map, restF_len]; exact sz_lt (by omega)) ?_
        walk_at "g"
        refine ⟨some (.int i), ?_, ex_upd e2 hl, ?_⟩
        · rw [restN_snoc]
          rfl
        · rw [upd_same, restF_snoc, List.map_append]
          rfl
      · rintro σ' H' ⟨y, rfl, e2, l2⟩
        walk_at "g"
        refine q l H' hl e2 ?_
        rw [l2]
        unfold drawsF
        rw [if_pos (show (10 : Int) ^ 18 ≤ cellF ns k from hb')]
    · have hb' := of_decide_eq_false hb
      walk_at "g"
      refine lr1_go (fun i σ' H' => ∃ y, σ' = [some (.ref a), some (.int k), some (.int many), some (.int (cellF ns k)), some (.ref l), none, y, some (.int (seedN i 0 ((cellF ns k * 7919 + k * 104729 + 12345) % 2147483647)))] ∧ Ex H H' ∧
        H' l = some (.lst ((seedF i 0 ((cellF ns k * 7919 + k * 104729 + 12345) % 2147483647)).map V.int)))
        ⟨none, rfl, e1, l1⟩ ⟨hm, by omega⟩ ?_ ?_
      · rintro i σ' H' hi ⟨y, rfl, e2, l2⟩
        walk_at "g"
        refine r_app rfl l2 ?_
        walk_at "g"
        refine app_l l2 (by rw [List.length_map, seedF_len]; exact sz_lt (by omega)) ?_
        walk_at "g"
        refine ⟨some (.int i), ?_, ex_upd e2 hl, ?_⟩
        · rw [seedN_snoc, Int.zero_add]
          rfl
        · rw [upd_same, seedF_snoc, List.map_append, Int.zero_add]
          rfl
      · rintro σ' H' ⟨y, rfl, e2, l2⟩
        walk_at "g"
        refine q l H' hl e2 ?_
        rw [l2]
        unfold drawsF
        rw [if_neg (show ¬ (10 : Int) ^ 18 ≤ cellF ns k from hb')]
end
end K14

set_option Elab.async false
set_option linter.all false
set_option maxRecDepth 100000
set_option maxHeartbeats 2000000
namespace K14
open PySem PySem.Spec PyProof.Rows L2 Evl AE
local macro_rules | `(tactic| walk_at "c") => `(tactic| first | exact ⟨by decide, by decide⟩ | exact .inr ⟨by decide, by decide⟩ | exact .inl ⟨by decide, by decide⟩ | exact ⟨by decide, by decide, by decide⟩ | (show (0 : Int) < _; decide))
local macro_rules | `(tactic| walk_at "s") => `(tactic| first
  | (with_reducible refine r_var rfl ?_) | (with_reducible refine r_c ?_) | (with_reducible refine r_op ?_) | (with_reducible refine r_un ?_) | (with_reducible refine r_I0 ?_) | (with_reducible refine r_U ?_)
  | (with_reducible refine r_eq rfl ?_) | (with_reducible refine r_ne rfl ?_) | (with_reducible refine r_chain ?_) | (with_reducible refine r_test ?_) | (with_reducible refine r_tB ?_)
  | (with_reducible refine r_bl ?_) | (with_reducible refine r_and ?_) | (with_reducible refine r_or ?_) | (with_reducible refine r_not ?_) | (with_reducible refine r_nil ?_) | (with_reducible refine r_cons ?_)
  | (with_reducible refine r_tupK ?_) | (with_reducible refine r_lstK ?_) | (with_reducible refine r_cb ?_) | (with_reducible refine r_revL ?_) | (with_reducible refine r_ost ?_) | (with_reducible refine r_mkO ?_) | (with_reducible refine r_makeK ?_) | (with_reducible refine r_make ?_) | (with_reducible refine r_setdN ?_) | (with_reducible refine r_nget2 ?_) | (with_reducible refine r_nnew ?_) | (with_reducible refine r_call ?_) | (with_reducible refine r_seq ?_) | (with_reducible refine r_set ?_)
  | (with_reducible refine r_drop ?_) | (with_reducible refine r_ret ?_) | (with_reducible refine r_next ?_) | (with_reducible refine r_if ?_) | (with_reducible refine r_sl ?_) | (with_reducible refine r_nop ?_) | (with_reducible refine r_prt ?_) | (with_reducible refine r_some ?_)
  | (with_reducible refine add_int ?_) | (with_reducible refine int_i ?_) | (with_reducible refine r_forR1 ?_) | (with_reducible refine r_forR2 ?_) | (with_reducible refine r_meth ?_) | (with_reducible refine r_makeS ?_) | (with_reducible refine r_opS ?_) | (with_reducible refine r_makeRS ?_) | (with_reducible refine r_methH ?_) | (with_reducible refine r_callS ?_) | (with_reducible refine r_forL ?_) | (with_reducible refine r_andV ?_) | (with_reducible refine r_orV ?_) | (with_reducible refine r_notV ?_) | (with_reducible refine r_ifE ?_) | (with_reducible refine r_lcL ?_) | (with_reducible refine r_fld ?_) | (with_reducible refine r_get ?_) | (with_reducible refine r_din ?_) | (with_reducible refine r_dget2 ?_) | ((with_reducible refine r_I ?_ ?_); (walk_at "c")))
local macro_rules | `(tactic| walk_at "g") => `(tactic| repeat walk_at "s")
section
variable {P : Program} {w : World} {K : PySem.W.Frag} {mg : Str → Option Value} {base : Heap}
theorem join_if {t : TT} {ts tu : TS} {D : Ends} {σ : L2.St} {H : Hp} (R : L2.St → Hp → Prop) (tail : ∀ σ' H', R σ' H' → D.nx σ' H') (body : ∀ D' : Ends, (∀ σ' H', R σ' H' → D'.nx σ' H') → tIfS t ts tu D' σ H) : tIfS t ts tu D σ H := body D tail
theorem r_asgT {te : TE} {g : TG} {D : Ends} {σ : L2.St} {H : Hp} (q : te σ H fun x H1 => g x σ H1 D.nx) : tAsg te g D σ H := q
theorem gtup3 {σ : L2.St} {H : Hp} {t : TGs} {p : Addr} {x y z : V} {Q : L2.St → Hp → Prop} (h : H p = some (.tup [x, y, z])) (q : t [x, y, z] σ H Q) : gTup K 3 t (.ref p) σ H Q := ⟨p, _, rfl, .inl (.inl h), rfl, q⟩
theorem gnames3 {σ : L2.St} {H : Hp} {i j k : Nat} {x y z : V} {Q : L2.St → Hp → Prop} (q : Q (((σ.set i (some x)).set j (some y)).set k (some z)) H) : gCons (gName i) (gCons (gName j) (gCons (gName k) gNil)) [x, y, z] σ H Q := ⟨x, [y, z], rfl, y, [z], rfl, z, [], rfl, rfl, q⟩
def codes : List Int := [0, 1, 2, 3, 4, 6, 0]
/-! ### what is told and what is due -/
theorem s1ok : PyData.strOk (Str.ofString "machine") = true := by decide +kernel
theorem s2ok : PyData.strOk (Str.ofString "large") = true := by decide +kernel
theorem s3ok : PyData.strOk (Str.ofString "state") = true := by decide +kernel
theorem s4ok : PyData.strOk (Str.ofString "built") = true := by decide +kernel
theorem s5ok : PyData.strOk (Str.ofString "size") = true := by decide +kernel
theorem s6ok : PyData.strOk (Str.ofString "mark") = true := by decide +kernel
theorem s7ok : PyData.strOk (Str.ofString "step") = true := by decide +kernel
theorem due_is (F : List Int) (n now : Int) : isSc (dueF F n now).2 = true ∧ SeqAt.shaped (.tuple [.str (dueF F n now).1, .bool true, scD (dueF F n now).2]) = true ∧
    PyData.eqv (.tuple [.str (dueF F n now).1, .bool true, scD (dueF F n now).2]) (.tuple [.str (dueF F n now).1, .bool true, scD (dueF F n now).2]) = true := by
  unfold dueF
  repeat' split
  all_goals refine ⟨rfl, ?_, ?_⟩
  all_goals simp [SeqAt.shaped, PyData.canLay0, PyData.canLayAll0, PyData.depth, PyData.depthAll, PyData.eqv, PyData.eqvAll, scD, s1ok, s2ok, s3ok, s4ok, s5ok, s6ok, s7ok]
theorem due_eq {K : PySem.W.Frag} {H : Hp} {p q : Addr} {F : List Int} {n now : Int} {Q : VK} (h1 : H p = some (.tup [.str (dueF F n now).1, .bl true, (dueF F n now).2])) (h2 : H q = some (.tup [.str (dueF F n now).1, .bl true, (dueF F n now).2])) (r : Q (.bl true) H) : rEqD K (.ref p) (.ref q) H Q := by
  obtain ⟨sc, sh, ev⟩ := due_is F n now
  have al : ([.str (dueF F n now).1, .bl true, (dueF F n now).2] : List V).all isSc = true := by rw [List.all_cons, List.all_cons, List.all_cons, sc]; rfl
  refine ⟨_, _, TupAt.dp ⟨p, rfl, h1⟩ al, TupAt.dp ⟨q, rfl, h2⟩ al, sh, sh, ?_⟩
  show Q (.bl (PyData.eqv (.tuple [.str (dueF F n now).1, .bool true, scD (dueF F n now).2]) (.tuple [.str (dueF F n now).1, .bool true, scD (dueF F n now).2]))) H
  rw [ev]
  exact r
theorem due_row {H : Hp} {p : Addr} {t : Str} {v : V} {d : Str × V} (e : (t, v) = d) (h : H p = some (.tup [.str t, .bl true, v])) : H p = some (.tup [.str d.1, .bl true, d.2]) := by
  rw [← e]
  exact h
theorem MadeW.imp {n now : Int} {ms : List Int} {ss : List StepD} {f g : Str → V → Prop} (h : MadeW n now ms ss f) (i : ∀ t v, f t v → g t v) : MadeW n now ms ss g := by
  obtain ⟨w1, w2, w3⟩ := h
  refine ⟨fun z => i _ _ (w1 z), fun z => i _ _ (w2 z), fun x y => ?_⟩
  obtain ⟨w4, w5⟩ := w3 x y
  refine ⟨fun z => i _ _ (w4 z), fun z => ?_⟩
  obtain ⟨w6, w7⟩ := w5 z
  refine ⟨fun z => i _ _ (w6 z), fun z rows r1 r2 => ?_⟩
  obtain ⟨w8, w9, w10⟩ := w7 z rows r1 r2
  exact ⟨fun z => i _ _ (w8 z), fun z1 z2 => i _ _ (w9 z1 z2), fun z1 z2 z3 => i _ _ (w10 z1 z2 z3)⟩
theorem put_ints (xs : List Int) (v : Int) (k : Nat) : putF (xs.map V.int) (V.int v) k = (putF xs v k).map V.int := by
  unfold putF
  rw [List.map_append, List.map_append, List.map_take, List.map_drop]
  rfl
theorem put_tups {H : Hp} {us : List V} {ss : List StepD} {u : V} {s : StepD} {k : Nat} (t : Tups H us (ss.map stepV)) (h : TupAt H u (stepV s)) : Tups H (putF us u k) ((putF ss s k).map stepV) := by
  unfold putF
  rw [List.map_append, List.map_append, List.map_take, List.map_drop]
  exact ((tups_take k t).app (.cons h .nil)).app (tups_drop k t)
theorem wrong3_at {n r : Int} (h : 1 ≤ n) (hr : 0 ≤ r) {j : Nat} (hj : j < 3) : ∃ w : Int, ([V.int (-1), V.int n, V.int (n + r)] : List V)[j]? = some (.int w) ∧ ¬ (0 ≤ w ∧ w < n) := by
  match j, hj with
  | 0, _ => exact ⟨-1, rfl, by omega⟩
  | 1, _ => exact ⟨n, rfl, by omega⟩
  | 2, _ => exact ⟨n + r, rfl, by omega⟩
theorem wrong3_bd {n r v : Int} {j : Nat} (hj : j < 3) (h : ([V.int (-1), V.int n, V.int (n + r)] : List V)[j]? = some (.int v)) : v = -1 ∨ v = n ∨ v = n + r := by
  match j, hj with
  | 0, _ => cases h; exact .inl rfl
  | 1, _ => cases h; exact .inr (.inl rfl)
  | 2, _ => cases h; exact .inr (.inr rfl)
def sp_law (K : PySem.W.Frag) : Sp := fun vs H Q _ => ∃ (a : Addr) (ns : List Int), vs = [.ref a] ∧ SqL K H a (ns.map V.int) ∧ ∀ H', Q (.bl true) H'
theorem ok_law (T : Tp K mg) (SO : SupOk P T.file) : FnOk P w K mg base CX0 10 T.a_law T.d_law ["_law_script"] (sp_law K) := by
  have G__law_draws : FnOk P w K mg base CX0 2 T.a__law_draws T.d__law_draws ["_law_script", "_law_k", "_law_many"] (sp_draws K) := ok_draws T
  have G__law_asks : FnOk P w K mg base CX0 1 T.a__law_asks T.d__law_asks ["_law_row", "_law_many"] (sp_asks K) := ok_asks T
  have G__law_parts : FnOk P w K mg base CX0 1 T.a__law_parts T.d__law_parts ["_law_row", "_law_asks_here"] (sp_lparts K) := ok_lparts T
  have G__law_large : FnOk P w K mg base CX0 1 T.a__law_large T.d__law_large ["_law_row", "_law_asks_here"] (sp_large K) := ok_large T
  have G__law_put_in : FnOk P w K mg base CX0 1 T.a__law_put_in T.d__law_put_in ["_law_rows", "_law_thing", "_law_digit"] sp_putin := ok_putin T
  have G__law_bad_step : FnOk P w K mg base CX0 2 T.a__law_bad_step T.d__law_bad_step ["_law_row", "_law_size", "_law_ask"] (sp_badstep K) := ok_badstep T
  have G__law_due : FnOk P w K mg base CX0 1 T.a__law_due T.d__law_due ["_law_faults", "_law_size", "_law_here"] sp_due := ok_due T
  have G__law_made := ok_made (w := w) (base := base) T SO
  refine T.f_law.ok sc_law (fun vs H Q E h => ?_) (fun cdv A outer s H vs Q E hr h => ?_)
  · obtain ⟨a, ns, rfl, _⟩ := h
    rfl
  · obtain ⟨a, ns, rfl, hS, q⟩ := h
    have hu64 := hu64_of hr
    refine ⟨_, (pss_cons (ps_set (i := 1) sc_law.nd rfl (.inl rfl) (pe_call G__law_draws (hr.mono (by decide)) (by rfl) T.g__law_draws T.f__law_draws.kp T.b__law_draws .nil pass0 (pa_cons (pv 0) (pa_cons pe_int (pa_cons pe_int pa_nil)))))
  (pss_cons (ps_set (i := 2) sc_law.nd rfl (.inl rfl) (pe_call G__law_asks (hr.mono (by decide)) (by rfl) T.g__law_asks T.f__law_asks.kp T.b__law_asks .nil pass0 (pa_cons (pe_call G__law_draws (hr.mono (by decide)) (by rfl) T.g__law_draws T.f__law_draws.kp T.b__law_draws .nil pass0 (pa_cons (pv 0) (pa_cons pe_int (pa_cons pe_int pa_nil)))) (pa_cons pe_int pa_nil))))
  (pss_cons (ps_asg (pe_call G__law_parts (hr.mono (by decide)) (by rfl) T.g__law_parts T.f__law_parts.kp T.b__law_parts .nil pass0 (pa_cons (pv 1) (pa_cons (pv 2) pa_nil))) (pg_tup (by rfl) (pgs_cons (pg_name (i := 3) sc_law.nd rfl (.inl rfl)) (pgs_cons (pg_name (i := 4) sc_law.nd rfl (.inl rfl)) (pgs_cons (pg_name (i := 5) sc_law.nd rfl (.inl rfl)) pgs_nil)))))
  (pss_cons (ps_set (i := 6) sc_law.nd rfl (.inl rfl) (pe_lst (pa_cons pe_int (pa_cons pe_int (pa_cons pe_int (pa_cons pe_int (pa_cons pe_int (pa_cons pe_int (pa_cons pe_int pa_nil)))))))))
  (pss_cons (ps_set (i := 7) sc_law.nd rfl (.inl rfl) (pe_lst (pa_cons (pe_ix ix_seq (pv 6) (pe_op op_mod (pe_callTy c_int (by rfl) T.n_int (by rfl) (pa_cons (pe_ix ix_seq (pv 1) pe_int (fun _ _ => rfl)) pa_nil)) pe_int) (fun _ _ => rfl)) (pa_cons (pe_ix ix_seq (pv 6) (pe_op op_mod (pe_callTy c_int (by rfl) T.n_int (by rfl) (pa_cons (pe_ix ix_seq (pv 1) pe_int (fun _ _ => rfl)) pa_nil)) pe_int) (fun _ _ => rfl)) pa_nil))))
  (pss_cons (ps_if (pt_cmpR op_eq (pe_op op_mod (pe_callTy c_int (by rfl) T.n_int (by rfl) (pa_cons (pe_ix ix_seq (pv 1) pe_int (fun _ _ => rfl)) pa_nil)) pe_int) pe_int (nomark _)) (pss_cons (ps_set (i := 3) sc_law.nd rfl (.inl rfl) pe_int)
  (pss_cons (ps_set (i := 5) sc_law.nd rfl (.inl rfl) (pe_call G__law_large (hr.mono (by decide)) (by rfl) T.g__law_large T.f__law_large.kp T.b__law_large .nil pass0 (pa_cons (pv 1) (pa_cons (pv 2) pa_nil))))
  (pss_one (ps_set (i := 7) sc_law.nd rfl (.inl rfl) (pe_lst (pa_cons (pe_ix ix_seq (pe_lst (pa_cons pe_int (pa_cons pe_int (pa_cons pe_int (pa_cons pe_int pa_nil))))) (pe_op op_mod (pe_callTy c_int (by rfl) T.n_int (by rfl) (pa_cons (pe_ix ix_seq (pv 1) pe_int (fun _ _ => rfl)) pa_nil)) pe_int) (fun _ _ => rfl)) (pa_cons (pe_ix ix_seq (pe_lst (pa_cons pe_int (pa_cons pe_int (pa_cons pe_int (pa_cons pe_int pa_nil))))) (pe_op op_mod (pe_callTy c_int (by rfl) T.n_int (by rfl) (pa_cons (pe_ix ix_seq (pv 1) pe_int (fun _ _ => rfl)) pa_nil)) pe_int) (fun _ _ => rfl)) pa_nil))))))) pss_nil)
  (pss_cons (ps_set (i := 8) sc_law.nd rfl (.inl rfl) (pe_op op_mod (pe_callTy c_int (by rfl) T.n_int (by rfl) (pa_cons (pe_op opAdd (pe_op op_mul (pe_ix ix_seq (pv 1) pe_int (fun _ _ => rfl)) pe_int) (pe_ix ix_seq (pv 1) pe_int (fun _ _ => rfl))) pa_nil)) (pv 3)))
  (pss_cons (ps_if (pt_cmpR op_in_seq pe_int (pv 7) rfl) (pss_one (ps_set (i := 4) sc_law.nd rfl (.inl rfl) (pe_call G__law_put_in (hr.mono (by decide)) (by rfl) T.g__law_put_in T.f__law_put_in.kp T.b__law_put_in .nil pass0 (pa_cons (pv 4) (pa_cons (pe_ix ix_seq (pe_lst (pa_cons (pe_un un_neg pe_int) (pa_cons (pv 3) (pa_cons (pe_op opAdd (pv 3) (pe_callTy c_int (by rfl) T.n_int (by rfl) (pa_cons (pe_ix ix_seq (pv 1) pe_int (fun _ _ => rfl)) pa_nil))) pa_nil)))) (pe_op op_mod (pe_callTy c_int (by rfl) T.n_int (by rfl) (pa_cons (pe_ix ix_seq (pv 1) pe_int (fun _ _ => rfl)) pa_nil)) pe_int) (fun _ _ => rfl)) (pa_cons (pe_ix ix_seq (pv 1) pe_int (fun _ _ => rfl)) pa_nil)))))) pss_nil)
  (pss_cons (ps_if (pt_cmpR op_in_seq pe_int (pv 7) rfl) (pss_one (ps_set (i := 5) sc_law.nd rfl (.inl rfl) (pe_call G__law_put_in (hr.mono (by decide)) (by rfl) T.g__law_put_in T.f__law_put_in.kp T.b__law_put_in .nil pass0 (pa_cons (pv 5) (pa_cons (pe_tup (pa_cons pe_int (pa_cons (pe_ix ix_seq (pv 2) pe_int (fun _ _ => rfl)) (pa_cons (pe_op op_mod (pe_callTy c_int (by rfl) T.n_int (by rfl) (pa_cons (pe_op opAdd pe_int (pe_ix ix_seq (pv 1) pe_int (fun _ _ => rfl))) pa_nil)) pe_int) pa_nil)))) (pa_cons (pe_ix ix_seq (pv 1) pe_int (fun _ _ => rfl)) pa_nil)))))) pss_nil)
  (pss_cons (ps_if (pt_cmpR op_in_seq pe_int (pv 7) rfl) (pss_one (ps_set (i := 5) sc_law.nd rfl (.inl rfl) (pe_call G__law_put_in (hr.mono (by decide)) (by rfl) T.g__law_put_in T.f__law_put_in.kp T.b__law_put_in .nil pass0 (pa_cons (pv 5) (pa_cons (pe_call G__law_bad_step (hr.mono (by decide)) (by rfl) T.g__law_bad_step T.f__law_bad_step.kp T.b__law_bad_step .nil pass0 (pa_cons (pe_call G__law_draws (hr.mono (by decide)) (by rfl) T.g__law_draws T.f__law_draws.kp T.b__law_draws .nil pass0 (pa_cons (pv 0) (pa_cons pe_int (pa_cons pe_int pa_nil)))) (pa_cons (pv 3) (pa_cons (pe_ix ix_seq (pv 2) pe_int (fun _ _ => rfl)) pa_nil)))) (pa_cons (pe_ix ix_seq (pv 1) pe_int (fun _ _ => rfl)) pa_nil)))))) pss_nil)
  (pss_cons (ps_if (pt_cmpR op_in_seq pe_int (pv 7) rfl) (pss_one (ps_set (i := 8) sc_law.nd rfl (.inl rfl) (pe_ix ix_seq (pe_lst (pa_cons (pe_un un_neg pe_int) (pa_cons (pv 3) (pa_cons (pe_op opAdd (pv 3) (pe_callTy c_int (by rfl) T.n_int (by rfl) (pa_cons (pe_ix ix_seq (pv 1) pe_int (fun _ _ => rfl)) pa_nil))) pa_nil)))) (pe_op op_mod (pe_callTy c_int (by rfl) T.n_int (by rfl) (pa_cons (pe_ix ix_seq (pv 1) pe_int (fun _ _ => rfl)) pa_nil)) pe_int) (fun _ _ => rfl)))) pss_nil)
  (pss_cons (ps_if (pt_cmpR op_in_seq pe_int (pv 7) rfl) (pss_one (ps_set (i := 3) sc_law.nd rfl (.inl rfl) (pe_op opAdd pe_int (pe_callTy c_int (by rfl) T.n_int (by rfl) (pa_cons (pe_op opAdd (pe_op op_mul (pe_ix ix_seq (pv 1) pe_int (fun _ _ => rfl)) pe_int) (pe_ix ix_seq (pv 1) pe_int (fun _ _ => rfl))) pa_nil))))) pss_nil)
  (pss_cons (ps_if (pt_cmpR op_in_seq pe_int (pv 7) rfl) (pss_one (ps_set (i := 3) sc_law.nd rfl (.inl rfl) (pe_un un_neg (pe_op op_mod (pe_callTy c_int (by rfl) T.n_int (by rfl) (pa_cons (pe_ix ix_seq (pv 1) pe_int (fun _ _ => rfl)) pa_nil)) pe_int)))) pss_nil)
  (pss_cons (ps_set (i := 9) sc_law.nd rfl (.inl rfl) (pe_call G__law_due (hr.mono (by decide)) (by rfl) T.g__law_due T.f__law_due.kp T.b__law_due .nil pass0 (pa_cons (pv 7) (pa_cons (pv 3) (pa_cons (pv 8) pa_nil)))))
  (pss_one (ps_ret (pe_and (pe_cmpR (op_eqD hu64) (pe_call G__law_made (hr.mono (by decide)) (by rfl) T.g__law_made T.f__law_made.kp T.b__law_made .nil pass0 (pa_cons pe_int (pa_cons (pv 3) (pa_cons (pv 4) (pa_cons (pv 5) (pa_cons (pv 8) pa_nil)))))) (pv 9) (nomark _)) (pe_one (pe_cmpR (op_eqD hu64) (pe_call G__law_made (hr.mono (by decide)) (by rfl) T.g__law_made T.f__law_made.kp T.b__law_made .nil pass0 (pa_cons pe_int (pa_cons (pv 3) (pa_cons (pv 4) (pa_cons (pv 5) (pa_cons (pv 8) pa_nil)))))) (pv 9) (nomark _)))))))))))))))))))), ?_⟩
    walk_at "g"
    refine ⟨a, ns, 0, 24, rfl, hS, by decide, by decide, by decide, fun pr H1 fr e1 t1 => ?_⟩
    have d1 : (drawsF ns 0 24).length = 24 := draws_len ns 0 24
    have bd := draws_bd ns 0 24
    generalize drawsF ns 0 24 = row at t1 d1 bd
    have nn : ∀ j, j < row.length → 0 ≤ row.getD j 0 ∧ row.getD j 0 < 64 := fun j hj => bd _ (getD_mem (z := 0) hj)
    walk_at "g"
    refine ⟨a, ns, 1, 13, rfl, ex_l e1 hS, by decide, by decide, by decide, fun pk H2 fk e2 t2 => ?_⟩
    walk_at "g"
    refine ⟨pk, drawsF ns 1 13, 3, rfl, .inl (.inl t2), draws_len ns 1 13, draws_bd ns 1 13, by decide, by decide, fun pA H3 fA e3 t3 => ?_⟩
    have al : (asksF (drawsF ns 1 13) (3 : Int).toNat).length = 3 := asks_len _ 3
    have aok := asks_ok (row := drawsF ns 1 13) (by rw [draws_len ns 1 13]; decide) (3 : Int).toNat
    have and_ := asks_nodup (row := drawsF ns 1 13) (by rw [draws_len ns 1 13]; decide) (draws_bd ns 1 13) (many := (3 : Int).toNat) (by decide)
    generalize asksF (drawsF ns 1 13) (3 : Int).toNat = asks at t3 al aok and_
    have e23 := e2.trans e3
    walk_at "g"
    refine r_asgT ?_
    walk_at "g"
    refine ⟨pr, pA, row, asks, rfl, .inl (.inl (e23 _ _ t1)), d1, bd, .inl (.inl t3), al, aok, fun pp pm ps H4 n ms us ss fp e4 t4 hm hs ht n1 n2 mok ml sok sl => ?_⟩
    refine gtup3 t4 (gnames3 ?_)
    walk_at "g"
    refine lst_go fun pc H5 nc e5 t5 => ?_
    have t5 : H5 pc = some (.lst (codes.map V.int)) := t5
    have eA := e4.trans e5
    have tr5 : H5 pr = some (.lst (row.map V.int)) := eA _ _ (e23 _ _ t1)
    have tA5 : H5 pA = some (.lst (asks.map V.str)) := eA _ _ t3
    have hm5 := e5 _ _ hm
    have hs5 := e5 _ _ hs
    have ht5 := ht.tx (tx_ex e5)
    walk_at "g"
    refine ix_l (.inl (.inl tr5)) (row_at (j := 16) (by omega)) ?_
    walk_at "g"
    obtain ⟨j1, hj1⟩ : ∃ j : Nat, row.getD 16 0 % 7 = (j : Int) := ⟨(row.getD 16 0 % 7).toNat, by omega⟩
    obtain ⟨j2, hj2⟩ : ∃ j : Nat, row.getD 17 0 % 7 = (j : Int) := ⟨(row.getD 17 0 % 7).toNat, by omega⟩
    have l1 : j1 < codes.length := by show j1 < 7; omega
    have l2 : j2 < codes.length := by show j2 < 7; omega
    rw [hj1]
    refine ix_l (.inl (.inl t5)) (row_at l1) ?_
    walk_at "g"
    refine ix_l (.inl (.inl tr5)) (row_at (j := 17) (by omega)) ?_
    walk_at "g"
    rw [hj2]
    refine ix_l (.inl (.inl t5)) (row_at l2) ?_
    walk_at "g"
    refine lst_go fun pf H6 nf e6 t6 => ?_
    have t6 : H6 pf = some (.lst ([codes.getD j1 0, codes.getD j2 0].map V.int)) := t6
    have c5 : ∀ x ∈ codes, x ≠ 5 := by decide
    have no5 : (5 : Int) ∉ [codes.getD j1 0, codes.getD j2 0] := fun z => by
      rcases List.mem_cons.mp z with z | z
      · exact c5 _ (getD_mem l1) z.symm
      · exact c5 _ (getD_mem l2) (List.mem_singleton.mp z).symm
    generalize [codes.getD j1 0, codes.getD j2 0] = F at t6 no5
    have tr6 := e6 _ _ tr5
    have tA6 := e6 _ _ tA5
    have hm6 := e6 _ _ hm5
    have hs6 := e6 _ _ hs5
    have ht6 := ht5.tx (tx_ex e6)
    have ex0 : Ex H1 H6 := (e23.trans eA).trans e6
    clear t5 e5 e6 t1 t2 t3 t4 hm hs ht hm5 hs5 ht5 tr5 tA5 eA e4 e23 e3 e2
    with_reducible refine r_seq ?_
    refine join_if (fun σ' H' => ∃ (n : Int) (pS pF : Addr) (us : List V) (ss : List StepD) (F : List Int), σ' = [some (.ref a), some (.ref pr), some (.ref pA), some (.int n), some (.ref pm), some (.ref pS), some (.ref pc), some (.ref pF), none, none] ∧ Ex H6 H' ∧ H' pF = some (.lst (F.map V.int)) ∧ H' pS = some (.lst us) ∧
      Tups H' us (ss.map stepV) ∧ Sit n (row.getD 0 0) asks F ss ∧ ∀ k ∈ ms, 0 ≤ k ∧ k < n) ?_ ?_
    rotate_left
    · intro D' tail
      walk_at "g"
      refine ix_l (.inl (.inl tr6)) (row_at (j := 18) (by omega)) ?_
      walk_at "g"
      refine ite_b (fun hc => ?_) (fun hc => ?_)
      · walk_at "g"
        refine ⟨pr, pA, row, asks, rfl, .inl (.inl tr6), d1, bd, .inl (.inl tA6), al, fun p H7 vs bs np e7 l7 t7 bl bm => ?_⟩
        walk_at "g"
        refine lst_go fun p8 H8 n8 e8 l8 => ?_
        have l8 : H8 p8 = some (.lst (([0, 5, 4, 6] : List Int).map V.int)) := l8
        obtain ⟨k1, hk1⟩ : ∃ j : Nat, row.getD 16 0 % 4 = (j : Int) := ⟨(row.getD 16 0 % 4).toNat, by omega⟩
        obtain ⟨k2, hk2⟩ : ∃ j : Nat, row.getD 17 0 % 4 = (j : Int) := ⟨(row.getD 17 0 % 4).toNat, by omega⟩
        have e78 := e7.trans e8
        walk_at "g"
        refine ix_l (.inl (.inl (e78 _ _ tr6))) (row_at (j := 16) (by omega)) ?_
        walk_at "g"
        rw [hk1]
        refine ix_l (.inl (.inl l8)) (row_at (row := [0, 5, 4, 6]) (show k1 < 4 by omega)) ?_
        walk_at "g"
        refine lst_go fun p9 H9 n9 e9 l9 => ?_
        have l9 : H9 p9 = some (.lst (([0, 5, 6, 0] : List Int).map V.int)) := l9
        have e79 := e78.trans e9
        walk_at "g"
        refine ix_l (.inl (.inl (e79 _ _ tr6))) (row_at (j := 17) (by omega)) ?_
        walk_at "g"
        rw [hk2]
        refine ix_l (.inl (.inl l9)) (row_at (row := [0, 5, 6, 0]) (show k2 < 4 by omega)) ?_
        walk_at "g"
        refine lst_go fun p10 H10 n10 e10 l10 => ?_
        have e710 := (e8.trans e9).trans e10
        walk_at "g"
        refine tail _ _ ⟨200, p, p10, vs, bs, [([0, 5, 4, 6] : List Int).getD k1 0, ([0, 5, 6, 0] : List Int).getD k2 0], rfl, e7.trans e710, l10, e710 _ _ l7, t7.tx (tx_ex e710), ⟨by decide, by decide, bl, fun s hs => big_ok aok ((bm s).mp hs), .inr bm, fun _ => ⟨rfl, bm⟩⟩, fun k hk => ?_⟩
        have := mok k hk
        omega
      · walk_at "g"
        exact tail _ _ ⟨n, ps, pf, us, ss, F, rfl, Ex.refl _, t6, hs6, ht6, ⟨n1, n2, by omega, sok, .inl (by omega), fun z => absurd z no5⟩, mok⟩
    rintro σ' H7 ⟨n, pS, pF, us, ss, F, rfl, e7, tF, tS, tT, S, mok⟩
    have tr7 := e7 _ _ tr6
    have tA7 := e7 _ _ tA6
    have tm7 := e7 _ _ hm6
    have n1 := S.n1
    have n2 := S.n2
    clear tr6 tA6 hm6 hs6 ht6 t6 no5
    walk_at "g"
    refine ix_l (.inl (.inl tr7)) (row_at (j := 19) (by omega)) ?_
    walk_at "g"
    refine ix_l (.inl (.inl tr7)) (row_at (j := 20) (by omega)) ?_
    walk_at "g"
    refine ⟨_, _, rfl, rfl, show (0 : Int) < _ by omega, ?_⟩
    have w0 := Int.emod_nonneg (row.getD 19 0 * 64 + row.getD 20 0) (b := n) (by omega)
    have w1 := Int.emod_lt_of_pos (row.getD 19 0 * 64 + row.getD 20 0) (b := n) (by omega)
    refine r_next ?_
    with_reducible refine r_seq ?_
    refine join_if (fun σ' H' => ∃ (u : Int) (pM : Addr) (ms' : List Int), σ' = [some (.ref a), some (.ref pr), some (.ref pA), some (.int n), some (.ref pM), some (.ref pS), some (.ref pc), some (.ref pF), some (.int u), none] ∧ Ex H7 H' ∧ 0 ≤ u ∧ u < n ∧ H' pM = some (.lst (ms'.map V.int)) ∧ ms'.length ≤ 5 ∧
      ((3 : Int) ∈ F → ∃ m ∈ ms', ¬ (0 ≤ m ∧ m < n)) ∧ ((3 : Int) ∉ F → ∀ m ∈ ms', 0 ≤ m ∧ m < n)) ?_ ?_
    rotate_left
    · intro D' tail
      walk_at "g"
      refine in_go tF ⟨_, rfl, ?_⟩
      by_cases c3 : (3 : Int) ∈ F
      · refine ite_t (decide_eq_true c3) ?_
        walk_at "g"
        refine ix_l (.inl (.inl tr7)) (row_at (j := 21) (by omega)) ?_
        walk_at "g"
        refine lst_go fun p8 H8 n8 e8 l8 => ?_
        walk_at "g"
        refine ix_l (.inl (.inl (e8 _ _ tr7))) (row_at (j := 22) (by omega)) ?_
        walk_at "g"
        obtain ⟨k1, hk1⟩ : ∃ j : Nat, row.getD 22 0 % 3 = (j : Int) := ⟨(row.getD 22 0 % 3).toNat, by omega⟩
        obtain ⟨v, hv1, hv2⟩ := wrong3_at n1 (nn 21 (by omega)).1 (show k1 < 3 by omega)
        rw [hk1]
        refine ix_l (.inl (.inl l8)) (atI_nat hv1) ?_
        walk_at "g"
        refine ix_l (.inl (.inl (e8 _ _ tr7))) (row_at (j := 23) (by omega)) ?_
        walk_at "g"
        refine ⟨pm, ms.map V.int, .int v, row.getD 23 0, rfl, e8 _ _ tm7, by rw [List.length_map]; omega, (nn 23 (by omega)).1, fun p9 H9 k n9 e9 l9 => ?_⟩
        rw [put_ints] at l9
        walk_at "g"
        exact tail _ _ ⟨_, p9, putF ms v k, rfl, e8.trans e9, w0, w1, l9, by rw [put_len]; omega, fun _ => ⟨v, put_mem.mpr (.inl rfl), hv2⟩, fun z => absurd c3 z⟩
      · refine ite_f (decide_eq_false c3) ?_
        walk_at "g"
        exact tail _ _ ⟨_, pm, ms, rfl, Ex.refl _, w0, w1, tm7, by omega, fun z => absurd z c3, fun _ => mok⟩
    rintro σ' H8 ⟨u, pM, ms', rfl, e8, u0, u1, tM, ml', b1, b2⟩
    have tr8 := e8 _ _ tr7
    have tA8 := e8 _ _ tA7
    have tF8 := e8 _ _ tF
    have tS8 := e8 _ _ tS
    have tT8 := tT.tx (tx_ex e8)
    clear w0 w1 tm7 tr7 tA7 tF tS tT mok
    have sl := S.len
    with_reducible refine r_seq ?_
    -- a step too many
    refine join_if (fun σ' H' => ∃ (pS : Addr) (us : List V) (ss' : List StepD), σ' = [some (.ref a), some (.ref pr), some (.ref pA), some (.int n), some (.ref pM), some (.ref pS), some (.ref pc), some (.ref pF), some (.int u), none] ∧ Ex H8 H' ∧ H' pS = some (.lst us) ∧ Tups H' us (ss'.map stepV) ∧ ss'.length ≤ 604 ∧ (∀ s ∈ ss', OkS n s) ∧
      ((5 : Int) ∈ F → ∀ rows : List StepD, rows.Pairwise ltS → (∀ s, s ∈ rows ↔ s ∈ ss') → rows.length = 601) ∧ ((5 : Int) ∉ F → ∀ rows : List StepD, rows.Pairwise ltS → (∀ s, s ∈ rows ↔ s ∈ ss') → rows.length ≤ 600)) ?_ ?_
    rotate_left
    · intro D' tail
      walk_at "g"
      refine in_go tF8 ⟨_, rfl, ?_⟩
      by_cases c5 : (5 : Int) ∈ F
      · obtain ⟨n200, bm⟩ := S.five c5
        refine ite_t (decide_eq_true c5) ?_
        walk_at "g"
        refine ix_l (.inl (.inl tA8)) (strs_at (j := 0) (by omega)) ?_
        walk_at "g"
        refine ix_l (.inl (.inl tr8)) (row_at (j := 0) (by omega)) ?_
        walk_at "g"
        refine ⟨sz_of (by show 3 ≤ 100000; decide), fun p hp => ?_⟩
        have e9 : Ex H8 (upd H8 p (.tup [.int 7, .str (asks.getD 0 Str.empty), .int ((22 + row.getD 0 0) % 200)])) := Ex.new hp
        have h9 : (upd H8 p (.tup [.int 7, .str (asks.getD 0 Str.empty), .int ((22 + row.getD 0 0) % 200)])) p = some (.tup (stepV (extra (row.getD 0 0) asks))) := upd_same
        generalize (upd H8 p (.tup [.int 7, .str (asks.getD 0 Str.empty), .int ((22 + row.getD 0 0) % 200)])) = H9 at e9 h9
        walk_at "g"
        refine ix_l (.inl (.inl (e9 _ _ tr8))) (row_at (j := 21) (by omega)) ?_
        walk_at "g"
        have lu : us.length = ss.length := by rw [tT8.len, List.length_map]
        refine ⟨pS, us, .ref p, row.getD 21 0, rfl, e9 _ _ tS8, by omega, (nn 21 (by omega)).1, fun p10 H10 k n10 e10 l10 => ?_⟩
        walk_at "g"
        refine tail _ _ ⟨p10, putF us (.ref p) k, putF ss (extra (row.getD 0 0) asks) k, rfl, e9.trans e10, l10, ?_, by rw [put_len]; omega, fun s hs => ?_, fun _ rows up mem => sit_601 al and_ bm up mem, fun z => absurd c5 z⟩
        · exact put_tups (tT8.tx (tx_ex (e9.trans e10))) ⟨p, rfl, e10 _ _ h9⟩
        · rcases put_mem.mp hs with rfl | h
          · have xo := aok _ (getD_mem (z := Str.empty) (show 0 < asks.length by omega))
            rw [n200]
            refine ⟨by show (0 : Int) ≤ 7; decide, by show (7 : Int) < 200; decide, xo.1, xo.2.1, xo.2.2, ?_, ?_⟩
            · show 0 ≤ (22 + row.getD 0 0) % 200
              omega
            · show (22 + row.getD 0 0) % 200 < 200
              omega
          · exact S.ok s h
      · refine ite_f (decide_eq_false c5) ?_
        walk_at "g"
        exact tail _ _ ⟨pS, us, ss, rfl, Ex.refl _, tS8, tT8, by omega, S.ok, fun z => absurd z c5, fun _ rows up mem => S.le al up mem⟩
    rintro σ' H9 ⟨pS, us, ss, rfl, e9, tS9, tT9, sl, sok, five, few⟩
    have tr9 := e9 _ _ tr8
    have tA9 := e9 _ _ tA8
    have tF9 := e9 _ _ tF8
    have tM9 := e9 _ _ tM
    clear tr8 tA8 tF8 tM tS8 tT8
    with_reducible refine r_seq ?_
    -- a step that is none
    refine join_if (fun σ' H' => ∃ (pS : Addr) (us : List V) (ss' : List StepD), σ' = [some (.ref a), some (.ref pr), some (.ref pA), some (.int n), some (.ref pM), some (.ref pS), some (.ref pc), some (.ref pF), some (.int u), none] ∧ Ex H9 H' ∧ H' pS = some (.lst us) ∧ Tups H' us (ss'.map stepV) ∧ ss'.length ≤ 605 ∧ (∀ s ∈ ss', s.2.1.length ≤ 1000) ∧
      ((4 : Int) ∈ F → ∃ s ∈ ss', ¬ OkS n s) ∧ ((4 : Int) ∉ F → (∀ s ∈ ss', OkS n s) ∧ ((5 : Int) ∈ F → ∀ rows : List StepD, rows.Pairwise ltS → (∀ s, s ∈ rows ↔ s ∈ ss') → rows.length = 601) ∧ ((5 : Int) ∉ F → ∀ rows : List StepD, rows.Pairwise ltS → (∀ s, s ∈ rows ↔ s ∈ ss') → rows.length ≤ 600))) ?_ ?_
    rotate_left
    · intro D' tail
      have short : ∀ s ∈ ss, s.2.1.length ≤ 1000 := fun s hs => by have := (sok s hs).a1; omega
      walk_at "g"
      refine in_go tF9 ⟨_, rfl, ?_⟩
      by_cases c4 : (4 : Int) ∈ F
      · refine ite_t (decide_eq_true c4) ?_
        walk_at "g"
        refine ⟨a, ns, 2, 8, rfl, ex_l ((((e1.trans (ex0.trans e7)).trans e8)).trans e9) hS, by decide, by decide, by decide, fun pd H10 n10 e10 t10 => ?_⟩
        walk_at "g"
        refine ix_l (.inl (.inl (e10 _ _ tA9))) (strs_at (j := 0) (by omega)) ?_
        walk_at "g"
        refine ⟨pd, drawsF ns 2 8, n, asks.getD 0 Str.empty, rfl, .inl (.inl t10), draws_len ns 2 8, draws_bd ns 2 8, n1, n2, aok _ (getD_mem (show 0 < asks.length by omega)), fun p H11 st n11 e11 h11 bad short1 => ?_⟩
        have eB := e10.trans e11
        walk_at "g"
        refine ix_l (.inl (.inl (eB _ _ tr9))) (row_at (j := 22) (by omega)) ?_
        walk_at "g"
        have lu : us.length = ss.length := by rw [tT9.len, List.length_map]
        refine ⟨pS, us, .ref p, row.getD 22 0, rfl, eB _ _ tS9, by omega, (nn 22 (by omega)).1, fun p12 H12 k n12 e12 l12 => ?_⟩
        walk_at "g"
        refine tail _ _ ⟨p12, putF us (.ref p) k, putF ss st k, rfl, eB.trans e12, l12, put_tups (tT9.tx (tx_ex (eB.trans e12))) ⟨p, rfl, e12 _ _ h11⟩, by rw [put_len]; omega, fun s hs => ?_, fun _ => ⟨st, put_mem.mpr (.inl rfl), bad⟩, fun z => absurd c4 z⟩
        rcases put_mem.mp hs with rfl | h
        · exact short1
        · exact short s h
      · refine ite_f (decide_eq_false c4) ?_
        walk_at "g"
        exact tail _ _ ⟨pS, us, ss, rfl, Ex.refl _, tS9, tT9, by omega, short, fun z => absurd z c4, fun _ => ⟨sok, five, few⟩⟩
    rintro σ' H10 ⟨pS, us, ss, rfl, e10, tS, tT, sl, short, c1, c2⟩
    have tr10 := e10 _ _ tr9
    have tF10 := e10 _ _ tF9
    have tM10 := e10 _ _ tM9
    clear tr9 tA9 tF9 tM9 tS9 tT9 sok five few
    with_reducible refine r_seq ?_
    -- a present state that is none
    refine join_if (fun σ' H' => ∃ (v : Int), σ' = [some (.ref a), some (.ref pr), some (.ref pA), some (.int n), some (.ref pM), some (.ref pS), some (.ref pc), some (.ref pF), some (.int v), none] ∧ Ex H10 H' ∧ v.natAbs < 10 ^ 9 ∧ ((6 : Int) ∈ F → ¬ (0 ≤ v ∧ v < n)) ∧ ((6 : Int) ∉ F → 0 ≤ v ∧ v < n)) ?_ ?_
    rotate_left
    · intro D' tail
      walk_at "g"
      refine in_go tF10 ⟨_, rfl, ?_⟩
      by_cases c6 : (6 : Int) ∈ F
      · refine ite_t (decide_eq_true c6) ?_
        walk_at "g"
        refine ix_l (.inl (.inl tr10)) (row_at (j := 21) (by omega)) ?_
        walk_at "g"
        refine lst_go fun p8 H11 n8 e11 l8 => ?_
        walk_at "g"
        refine ix_l (.inl (.inl (e11 _ _ tr10))) (row_at (j := 23) (by omega)) ?_
        walk_at "g"
        obtain ⟨k1, hk1⟩ : ∃ j : Nat, row.getD 23 0 % 3 = (j : Int) := ⟨(row.getD 23 0 % 3).toNat, by omega⟩
        obtain ⟨v, hv1, hv2⟩ := wrong3_at n1 (nn 21 (by omega)).1 (show k1 < 3 by omega)
        have r21 := nn 21 (by omega)
        have vb : v.natAbs < 10 ^ 9 := by
          have := wrong3_bd (show k1 < 3 by omega) hv1
          omega
        rw [hk1]
        refine ix_l (.inl (.inl l8)) (atI_nat hv1) ?_
        walk_at "g"
        exact tail _ _ ⟨v, rfl, e11, vb, fun _ => hv2, fun z => absurd c6 z⟩
      · refine ite_f (decide_eq_false c6) ?_
        walk_at "g"
        exact tail _ _ ⟨u, rfl, Ex.refl _, by omega, fun z => absurd z c6, fun _ => ⟨u0, u1⟩⟩
    rintro σ' H11 ⟨now, rfl, e11, nb, d1', d2'⟩
    have tr11 := e11 _ _ tr10
    have tF11 := e11 _ _ tF10
    have tM11 := e11 _ _ tM10
    have tS11 := e11 _ _ tS
    have tT11 := tT.tx (tx_ex e11)
    clear tr10 tF10 tM10 tS tT
    with_reducible refine r_seq ?_
    -- a size above
    refine join_if (fun σ' H' => ∃ (m : Int), σ' = [some (.ref a), some (.ref pr), some (.ref pA), some (.int m), some (.ref pM), some (.ref pS), some (.ref pc), some (.ref pF), some (.int now), none] ∧ H11 = H' ∧ m.natAbs < 10 ^ 9 ∧ ((2 : Int) ∈ F → 200 < m) ∧ ((2 : Int) ∉ F → m = n)) ?_ ?_
    rotate_left
    · intro D' tail
      walk_at "g"
      refine in_go tF11 ⟨_, rfl, ?_⟩
      by_cases c2 : (2 : Int) ∈ F
      · refine ite_t (decide_eq_true c2) ?_
        walk_at "g"
        refine ix_l (.inl (.inl tr11)) (row_at (j := 10) (by omega)) ?_
        walk_at "g"
        refine ix_l (.inl (.inl tr11)) (row_at (j := 11) (by omega)) ?_
        walk_at "g"
        have r10 := nn 10 (by omega)
        have r11 := nn 11 (by omega)
        exact tail _ _ ⟨201 + (row.getD 10 0 * 64 + row.getD 11 0), rfl, rfl, by omega, fun _ => by omega, fun z => absurd c2 z⟩
      · refine ite_f (decide_eq_false c2) ?_
        walk_at "g"
        exact tail _ _ ⟨n, rfl, rfl, by omega, fun z => absurd z c2, fun _ => rfl⟩
    rintro σ' H' ⟨m, rfl, rfl, mb, m1, m2⟩
    with_reducible refine r_seq ?_
    -- a size of 0 or less
    refine join_if (fun σ' H' => ∃ (z : Int), σ' = [some (.ref a), some (.ref pr), some (.ref pA), some (.int z), some (.ref pM), some (.ref pS), some (.ref pc), some (.ref pF), some (.int now), none] ∧ H11 = H' ∧ z.natAbs < 10 ^ 9 ∧ ((1 : Int) ∈ F → z < 1) ∧ ((1 : Int) ∉ F → z = m)) ?_ ?_
    rotate_left
    · intro D' tail
      walk_at "g"
      refine in_go tF11 ⟨_, rfl, ?_⟩
      by_cases c1 : (1 : Int) ∈ F
      · refine ite_t (decide_eq_true c1) ?_
        walk_at "g"
        refine ix_l (.inl (.inl tr11)) (row_at (j := 10) (by omega)) ?_
        walk_at "g"
        have r10 := nn 10 (by omega)
        exact tail _ _ ⟨-(row.getD 10 0 % 3), rfl, rfl, by omega, fun _ => by omega, fun z => absurd c1 z⟩
      · refine ite_f (decide_eq_false c1) ?_
        walk_at "g"
        exact tail _ _ ⟨m, rfl, rfl, mb, fun z => absurd z c1, fun _ => rfl⟩
    rintro σ' H' ⟨z, rfl, rfl, zb, z1, z2⟩
    have W := made_due (F := F) (n0 := n) (n := z) (now := now) (ms := ms') (ss := ss) n1 n2 z1 (fun h1 h2 => by have := z2 h1; have := m1 h2; omega) (fun h1 h2 => by have := z2 h1; have := m2 h2; omega) b1 b2 c1 (fun h => (c2 h).1) (fun h => (c2 h).2.1) (fun h => (c2 h).2.2) d1' d2'
    walk_at "g"
    refine ⟨pF, F, z, now, rfl, tF11, fun pd H12 nd e12 hd => ?_⟩
    walk_at "g"
    refine ⟨0, z, now, pM, pS, ms', us, ss, rfl, zb, nb, .inl (.inl (.inl (e12 _ _ tM11))), by omega, .inl (.inl (.inl (e12 _ _ tS11))), tT11.tx (tx_ex e12), by omega, short, W.imp fun t v et p H13 np e13 hp => ?_⟩
    have hp := due_row et hp
    walk_at "g"
    refine due_eq hp (e13 _ _ hd) ?_
    refine ⟨_, rfl, ite_t rfl ?_⟩
    walk_at "g"
    have e123 := e12.trans e13
    refine ⟨1, z, now, pM, pS, ms', us, ss, rfl, zb, nb, .inl (.inl (.inl (e123 _ _ tM11))), by omega, .inl (.inl (.inl (e123 _ _ tS11))), tT11.tx (tx_ex e123), by omega, short, W.imp fun t v et p H14 np e14 hp2 => ?_⟩
    have hp2 := due_row et hp2
    walk_at "g"
    refine due_eq hp2 ((e13.trans e14) _ _ hd) ?_
    exact q _
end

end K14

set_option Elab.async false
set_option linter.all false
set_option maxRecDepth 100000
set_option maxHeartbeats 4000000
namespace K14
open PySem PySem.Spec PyProof.Rows L2 Evl AE
theorem all_mk {l : PySem.W.OpenLaw} {w : World} {K : PySem.W.Frag} {h : Heap} {mg : Str → Option Value} {fa C_AsksError C_BadMachine C_TooLarge C_BadState C_Machine C_Service C_Pattern f0 f1 f2 f3 f4 f5 f6 f7 f8 f9 f10 f11 f12 f13 f14 f15 f16 f17 f18 f19 f20 D20 f21 f22 f23 f24 cc24 cda24 NE24 f25 cc25 cda25 NE25 f26 cc26 cda26 NE26 : Addr} (X : K.In h) (G : h.Ns mainGlobals mg) (hfa : mg "law" = some (.ref fa))
    {od0 an0 od1 an1 od2 an2 od3 an3 od4 an4 od5 an5 od6 an6 od7 an7 od8 an8 od9 an9 od10 an10 od11 an11 od12 an12 od13 an13 od14 an14 od15 an15 od16 an16 od17 an17 od18 an18 od19 an19 od20 an20 dD20 od21 an21 od22 an22 od23 an23 od24 an24 oy24 oz24 od25 an25 oy25 oz25 od26 an26 oy26 oz26 : Option Addr} {sl0 sl1 sl2 sl3 sl4 sl5 sl6 sl7 sl8 sl9 sl10 sl11 sl12 sl13 sl14 sl15 sl16 sl17 sl18 sl19 sl20 lD20 sl21 sl22 sl23 sl24 sy24 sz24 sl25 sy25 sz25 sl26 sy26 sz26 : Array (Option Value)} {oc0 dc0 pm0 cd0 ct0 kV0 oc1 dc1 pm1 cd1 ct1 kV1 oc2 dc2 pm2 cd2 ct2 kV2 oc3 dc3 pm3 cd3 ct3 kV3 oc4 dc4 pm4 cd4 ct4 kV4 oc5 dc5 pm5 cd5 ct5 kV5 oc6 dc6 pm6 cd6 ct6 kV6 oc7 dc7 pm7 cd7 ct7 kV7 oc8 dc8 pm8 cd8 ct8 kV8 oc9 dc9 pm9 cd9 ct9 kV9 oc10 dc10 pm10 cd10 ct10 kV10 oc11 dc11 pm11 cd11 ct11 kV11 oc12 dc12 pm12 cd12 ct12 kV12 oc13 dc13 pm13 cd13 ct13 kV13 oc14 dc14 pm14 cd14 ct14 kV14 oc15 dc15 pm15 cd15 ct15 kV15 oc16 dc16 pm16 cd16 ct16 kV16 oc17 dc17 pm17 cd17 ct17 kV17 oc18 dc18 pm18 cd18 ct18 kV18 oc19 dc19 pm19 cd19 ct19 kV19 oc20 dc20 pm20 cd20 ct20 oD20 kV20 oc21 dc21 pm21 cd21 ct21 kV21 oc22 dc22 pm22 cd22 ct22 kV22 oc23 dc23 pm23 cd23 ct23 kV23 oc24 dc24 pm24 ct24 kV24 cy24 cz24 oc25 dc25 pm25 ct25 kV25 cy25 cz25 oc26 dc26 pm26 ct26 kV26 cy26 cz26 : Value} {tD20 tk_MOST_STATES tk_MOST_STEPS tk_LONGEST_ASK : Tok} {nD20 : Nat} {nm24 qE24 : Str} {bs24 sub24 : List Value} {sn24 : List Str} {ab24 : Bool} {col24 : Option Bool} {dd24 : Option Addr} {m024 m124 m224 m324 m524 : Option Value} {vs24 : Array Value} {tf24 : Tok} {nm25 qE25 : Str} {bs25 sub25 : List Value} {sn25 : List Str} {ab25 : Bool} {col25 : Option Bool} {dd25 : Option Addr} {m025 m125 m225 m325 m525 : Option Value} {vs25 : Array Value} {tf25 : Tok} {nm26 qE26 : Str} {bs26 sub26 : List Value} {sn26 : List Str} {ab26 : Bool} {col26 : Option Bool} {dd26 : Option Addr} {m026 m126 m226 m326 m526 : Option Value} {vs26 : Array Value} {tf26 : Tok} {file : Str}
    (qAsksError : PySem.W.nsIn K mainGlobals "AsksError" = some (some (.ref C_AsksError)))
    (qBadMachine : PySem.W.nsIn K mainGlobals "BadMachine" = some (some (.ref C_BadMachine)))
    (qTooLarge : PySem.W.nsIn K mainGlobals "TooLarge" = some (some (.ref C_TooLarge)))
    (qBadState : PySem.W.nsIn K mainGlobals "BadState" = some (some (.ref C_BadState)))
    (qMachine : PySem.W.nsIn K mainGlobals "Machine" = some (some (.ref C_Machine)))
    (qService : PySem.W.nsIn K mainGlobals "Service" = some (some (.ref C_Service)))
    (qPattern : PySem.W.nsIn K mainGlobals "Pattern" = some (some (.ref C_Pattern)))
    (oE2 : PySem.W.specialIn K (.builtin "object.__class__") "__get__" = some (some (.builtin "getset_descriptor.__get__")))
    (oE3 : PySem.W.takesIn K (.builtin "object.__class__") = some true)
    (hth : PySem.W.nsIn K PySem.cStatics "thirdparty.any" = some none)
    (a0 : PySem.W.nsIn K mainGlobals "_law_cell" = some (some (.ref f0)))
    (l0 : K.lookup f0 = some ⟨oc0, od0, .func (PySem.W.fnOf "_law_cell" "_law_cell" (defArgs s__law_cell) (defBody s__law_cell) (defScope s__law_cell) .none kV0 dc0 pm0 an0 cd0 ct0), sl0⟩)
    (c0 : PySem.W.codeIn K cd0 "_law_cell" = true)
    (k0 : PySem.W.keepIn K (.ref f0) = true)
    (a1 : PySem.W.nsIn K mainGlobals "_law_draws" = some (some (.ref f1)))
    (l1 : K.lookup f1 = some ⟨oc1, od1, .func (PySem.W.fnOf "_law_draws" "_law_draws" (defArgs s__law_draws) (defBody s__law_draws) (defScope s__law_draws) .none kV1 dc1 pm1 an1 cd1 ct1), sl1⟩)
    (c1 : PySem.W.codeIn K cd1 "_law_draws" = true)
    (k1 : PySem.W.keepIn K (.ref f1) = true)
    (a2 : PySem.W.nsIn K mainGlobals "_law_asks" = some (some (.ref f2)))
    (l2 : K.lookup f2 = some ⟨oc2, od2, .func (PySem.W.fnOf "_law_asks" "_law_asks" (defArgs s__law_asks) (defBody s__law_asks) (defScope s__law_asks) .none kV2 dc2 pm2 an2 cd2 ct2), sl2⟩)
    (c2 : PySem.W.codeIn K cd2 "_law_asks" = true)
    (k2 : PySem.W.keepIn K (.ref f2) = true)
    (a3 : PySem.W.nsIn K mainGlobals "_law_whole" = some (some (.ref f3)))
    (l3 : K.lookup f3 = some ⟨oc3, od3, .func (PySem.W.fnOf "_law_whole" "_law_whole" (defArgs s__law_whole) (defBody s__law_whole) (defScope s__law_whole) .none kV3 dc3 pm3 an3 cd3 ct3), sl3⟩)
    (c3 : PySem.W.codeIn K cd3 "_law_whole" = true)
    (k3 : PySem.W.keepIn K (.ref f3) = true)
    (a4 : PySem.W.nsIn K mainGlobals "_law_kinds" = some (some (.ref f4)))
    (l4 : K.lookup f4 = some ⟨oc4, od4, .func (PySem.W.fnOf "_law_kinds" "_law_kinds" (defArgs s__law_kinds) (defBody s__law_kinds) (defScope s__law_kinds) .none kV4 dc4 pm4 an4 cd4 ct4), sl4⟩)
    (c4 : PySem.W.codeIn K cd4 "_law_kinds" = true)
    (k4 : PySem.W.keepIn K (.ref f4) = true)
    (a5 : PySem.W.nsIn K mainGlobals "_law_made" = some (some (.ref f5)))
    (l5 : K.lookup f5 = some ⟨oc5, od5, .func (PySem.W.fnOf "_law_made" "_law_made" (defArgs s__law_made) (defBody s__law_made) (defScope s__law_made) .none kV5 dc5 pm5 an5 cd5 ct5), sl5⟩)
    (c5 : PySem.W.codeIn K cd5 "_law_made" = true)
    (k5 : PySem.W.keepIn K (.ref f5) = true)
    (a6 : PySem.W.nsIn K mainGlobals "_law_put_in" = some (some (.ref f6)))
    (l6 : K.lookup f6 = some ⟨oc6, od6, .func (PySem.W.fnOf "_law_put_in" "_law_put_in" (defArgs s__law_put_in) (defBody s__law_put_in) (defScope s__law_put_in) .none kV6 dc6 pm6 an6 cd6 ct6), sl6⟩)
    (c6 : PySem.W.codeIn K cd6 "_law_put_in" = true)
    (k6 : PySem.W.keepIn K (.ref f6) = true)
    (a7 : PySem.W.nsIn K mainGlobals "_law_bad_ask" = some (some (.ref f7)))
    (l7 : K.lookup f7 = some ⟨oc7, od7, .func (PySem.W.fnOf "_law_bad_ask" "_law_bad_ask" (defArgs s__law_bad_ask) (defBody s__law_bad_ask) (defScope s__law_bad_ask) .none kV7 dc7 pm7 an7 cd7 ct7), sl7⟩)
    (c7 : PySem.W.codeIn K cd7 "_law_bad_ask" = true)
    (k7 : PySem.W.keepIn K (.ref f7) = true)
    (a8 : PySem.W.nsIn K mainGlobals "_law_bad_step" = some (some (.ref f8)))
    (l8 : K.lookup f8 = some ⟨oc8, od8, .func (PySem.W.fnOf "_law_bad_step" "_law_bad_step" (defArgs s__law_bad_step) (defBody s__law_bad_step) (defScope s__law_bad_step) .none kV8 dc8 pm8 an8 cd8 ct8), sl8⟩)
    (c8 : PySem.W.codeIn K cd8 "_law_bad_step" = true)
    (k8 : PySem.W.keepIn K (.ref f8) = true)
    (a9 : PySem.W.nsIn K mainGlobals "_law_parts" = some (some (.ref f9)))
    (l9 : K.lookup f9 = some ⟨oc9, od9, .func (PySem.W.fnOf "_law_parts" "_law_parts" (defArgs s__law_parts) (defBody s__law_parts) (defScope s__law_parts) .none kV9 dc9 pm9 an9 cd9 ct9), sl9⟩)
    (c9 : PySem.W.codeIn K cd9 "_law_parts" = true)
    (k9 : PySem.W.keepIn K (.ref f9) = true)
    (a10 : PySem.W.nsIn K mainGlobals "_law_large" = some (some (.ref f10)))
    (l10 : K.lookup f10 = some ⟨oc10, od10, .func (PySem.W.fnOf "_law_large" "_law_large" (defArgs s__law_large) (defBody s__law_large) (defScope s__law_large) .none kV10 dc10 pm10 an10 cd10 ct10), sl10⟩)
    (c10 : PySem.W.codeIn K cd10 "_law_large" = true)
    (k10 : PySem.W.keepIn K (.ref f10) = true)
    (a11 : PySem.W.nsIn K mainGlobals "_law_due" = some (some (.ref f11)))
    (l11 : K.lookup f11 = some ⟨oc11, od11, .func (PySem.W.fnOf "_law_due" "_law_due" (defArgs s__law_due) (defBody s__law_due) (defScope s__law_due) .none kV11 dc11 pm11 an11 cd11 ct11), sl11⟩)
    (c11 : PySem.W.codeIn K cd11 "_law_due" = true)
    (k11 : PySem.W.keepIn K (.ref f11) = true)
    (a12 : PySem.W.nsIn K mainGlobals "law" = some (some (.ref f12)))
    (l12 : K.lookup f12 = some ⟨oc12, od12, .func (PySem.W.fnOf "law" "law" (defArgs s_law) (defBody s_law) (defScope s_law) .none kV12 dc12 pm12 an12 cd12 ct12), sl12⟩)
    (c12 : PySem.W.codeIn K cd12 "law" = true)
    (k12 : PySem.W.keepIn K (.ref f12) = true)
    (a13 : PySem.W.nsIn K mainGlobals "check_size" = some (some (.ref f13)))
    (l13 : K.lookup f13 = some ⟨oc13, od13, .func (PySem.W.fnOf "check_size" "check_size" (defArgs s_check_size) (defBody s_check_size) (defScope s_check_size) .none kV13 dc13 pm13 an13 cd13 ct13), sl13⟩)
    (c13 : PySem.W.codeIn K cd13 "check_size" = true)
    (k13 : PySem.W.keepIn K (.ref f13) = true)
    (a14 : PySem.W.nsIn K mainGlobals "check_marks" = some (some (.ref f14)))
    (l14 : K.lookup f14 = some ⟨oc14, od14, .func (PySem.W.fnOf "check_marks" "check_marks" (defArgs s_check_marks) (defBody s_check_marks) (defScope s_check_marks) .none kV14 dc14 pm14 an14 cd14 ct14), sl14⟩)
    (c14 : PySem.W.codeIn K cd14 "check_marks" = true)
    (k14 : PySem.W.keepIn K (.ref f14) = true)
    (a15 : PySem.W.nsIn K mainGlobals "check_steps" = some (some (.ref f15)))
    (l15 : K.lookup f15 = some ⟨oc15, od15, .func (PySem.W.fnOf "check_steps" "check_steps" (defArgs s_check_steps) (defBody s_check_steps) (defScope s_check_steps) .none kV15 dc15 pm15 an15 cd15 ct15), sl15⟩)
    (c15 : PySem.W.codeIn K cd15 "check_steps" = true)
    (k15 : PySem.W.keepIn K (.ref f15) = true)
    (a16 : PySem.W.nsIn K mainGlobals "is_ask" = some (some (.ref f16)))
    (l16 : K.lookup f16 = some ⟨oc16, od16, .func (PySem.W.fnOf "is_ask" "is_ask" (defArgs s_is_ask) (defBody s_is_ask) (defScope s_is_ask) .none kV16 dc16 pm16 an16 cd16 ct16), sl16⟩)
    (c16 : PySem.W.codeIn K cd16 "is_ask" = true)
    (k16 : PySem.W.keepIn K (.ref f16) = true)
    (a17 : PySem.W.nsIn K mainGlobals "ascending" = some (some (.ref f17)))
    (l17 : K.lookup f17 = some ⟨oc17, od17, .func (PySem.W.fnOf "ascending" "ascending" (defArgs s_ascending) (defBody s_ascending) (defScope s_ascending) .none kV17 dc17 pm17 an17 cd17 ct17), sl17⟩)
    (c17 : PySem.W.codeIn K cd17 "ascending" = true)
    (k17 : PySem.W.keepIn K (.ref f17) = true)
    (a18 : PySem.W.nsIn K mainGlobals "ends_by_ask" = some (some (.ref f18)))
    (l18 : K.lookup f18 = some ⟨oc18, od18, .func (PySem.W.fnOf "ends_by_ask" "ends_by_ask" (defArgs s_ends_by_ask) (defBody s_ends_by_ask) (defScope s_ends_by_ask) .none kV18 dc18 pm18 an18 cd18 ct18), sl18⟩)
    (c18 : PySem.W.codeIn K cd18 "ends_by_ask" = true)
    (k18 : PySem.W.keepIn K (.ref f18) = true)
    (a19 : PySem.W.nsIn K mainGlobals "pairs_by_state" = some (some (.ref f19)))
    (l19 : K.lookup f19 = some ⟨oc19, od19, .func (PySem.W.fnOf "pairs_by_state" "pairs_by_state" (defArgs s_pairs_by_state) (defBody s_pairs_by_state) (defScope s_pairs_by_state) .none kV19 dc19 pm19 an19 cd19 ct19), sl19⟩)
    (c19 : PySem.W.codeIn K cd19 "pairs_by_state" = true)
    (k19 : PySem.W.keepIn K (.ref f19) = true)
    (inService : PySem.W.findIn K (.ref C_Service) "__init__" = some (some (.ref f20)))
    (inPattern : PySem.W.findIn K (.ref C_Pattern) "__init__" = some (some (.ref f20)))
    (i20 : PySem.W.isFn K (.ref f20) = true)
    (l20 : K.lookup f20 = some ⟨oc20, od20, .func (PySem.W.fnOf "__init__" "Machine.__init__" (defArgs s_Machine___init__) (defBody s_Machine___init__) (defScope s_Machine___init__) (.ref D20) kV20 dc20 pm20 an20 cd20 ct20), sl20⟩)
    (c20 : PySem.W.codeIn K cd20 "Machine.__init__" = true)
    (k20 : PySem.W.keepIn K (.ref f20) = true)
    (z20 : K.lookup D20 = some ⟨oD20, dD20, .seq #[.int 0 tD20] nD20, lD20⟩)
    (meService__getitem__ : PySem.W.findIn K (.ref C_Service) "__getitem__" = some (some (.ref f21)))
    (mePattern__getitem__ : PySem.W.findIn K (.ref C_Pattern) "__getitem__" = some (some (.ref f21)))
    (i21 : PySem.W.isFn K (.ref f21) = true)
    (l21 : K.lookup f21 = some ⟨oc21, od21, .func (PySem.W.fnOf "__getitem__" "Machine.__getitem__" (defArgs s_Machine___getitem__) (defBody s_Machine___getitem__) (defScope s_Machine___getitem__) .none kV21 dc21 pm21 an21 cd21 ct21), sl21⟩)
    (c21 : PySem.W.codeIn K cd21 "Machine.__getitem__" = true)
    (k21 : PySem.W.keepIn K (.ref f21) = true)
    (meServiceends_at : PySem.W.findIn K (.ref C_Service) "ends_at" = some (some (.ref f22)))
    (mePatternends_at : PySem.W.findIn K (.ref C_Pattern) "ends_at" = some (some (.ref f22)))
    (i22 : PySem.W.isFn K (.ref f22) = true)
    (l22 : K.lookup f22 = some ⟨oc22, od22, .func (PySem.W.fnOf "ends_at" "Machine.ends_at" (defArgs s_Machine_ends_at) (defBody s_Machine_ends_at) (defScope s_Machine_ends_at) .none kV22 dc22 pm22 an22 cd22 ct22), sl22⟩)
    (c22 : PySem.W.codeIn K cd22 "Machine.ends_at" = true)
    (k22 : PySem.W.keepIn K (.ref f22) = true)
    (meService__bool__ : PySem.W.findIn K (.ref C_Service) "__bool__" = some (some (.ref f23)))
    (mePattern__bool__ : PySem.W.findIn K (.ref C_Pattern) "__bool__" = some (some (.ref f23)))
    (i23 : PySem.W.isFn K (.ref f23) = true)
    (l23 : K.lookup f23 = some ⟨oc23, od23, .func (PySem.W.fnOf "__bool__" "Machine.__bool__" (defArgs s_Machine___bool__) (defBody s_Machine___bool__) (defScope s_Machine___bool__) .none kV23 dc23 pm23 an23 cd23 ct23), sl23⟩)
    (c23 : PySem.W.codeIn K cd23 "Machine.__bool__" = true)
    (k23 : PySem.W.keepIn K (.ref f23) = true)
    (xL24 : K.lookup C_BadMachine = some (excClassObj nm24 qE24 C_BadMachine NE24 bs24 [.ref C_AsksError, .type "ValueError", .type "Exception", .type "BaseException", .type "object"] true sn24 sub24 ab24 col24 dd24 m024 m124 m224 m324 m524 "ValueError.__new__"))
    (sa24 : PySem.W.findIn K (.ref C_BadMachine) "__setattr__" = some (some (.builtin "object.__setattr__")))
    (ga24 : PySem.W.findIn K (.ref C_BadMachine) "__getattribute__" = some (some (.builtin "BaseException.__getattribute__")))
    (hc24 : PySem.W.findIn K (.ref C_BadMachine) "__class__" = some (some (.builtin "object.__class__")))
    (gg24 : PySem.W.findIn K (.ref C_BadMachine) "__getattr__" = some none)
    (nb240 : PySem.W.findIn K (.ref C_BadMachine) "part" = some none)
    (in24 : PySem.W.findIn K (.ref C_BadMachine) "__init__" = some (some (.ref f24)))
    (ti24 : PySem.W.typeIn K (.ref f24) = some (.type "function"))
    (l24 : K.lookup f24 = some ⟨oc24, od24, .func (PySem.W.ksFn "__init__" "BadMachine.__init__" (defArgs s_BadMachine___init__) (defBody s_BadMachine___init__) (defScope s_BadMachine___init__) .none kV24 dc24 pm24 an24 (.ref cda24) ct24 cc24), sl24⟩)
    (c24 : PySem.W.codeIn K (.ref cda24) "BadMachine.__init__" = true)
    (k24 : PySem.W.keepIn K (.ref f24) = true)
    (ce24 : K.lookup cc24 = some ⟨cy24, oy24, .cell (some (.ref C_BadMachine)), sy24⟩)
    (ta24 : K.lookup cda24 = some ⟨cz24, oz24, .fields vs24, sz24⟩)
    (vf24 : vs24[2]? = some (.str file tf24))
    (kC24 : PySem.W.keepIn K (.ref C_BadMachine) = true)
    (eC24 : PySem.W.subIn K (.ref C_BadMachine) (.type "BaseException") = some true)
    (ve24 : PySem.W.subIn K (.ref C_BadMachine) (.type "ValueError") = some true)
    (tC24 : PySem.W.typeIn K (.ref C_BadMachine) = some (.type "type"))
    (hD24 : PySem.W.hasDictIn K C_BadMachine = true)
    (iC24 : PySem.W.isClsIn K C_BadMachine = true)
    (sC24 : PySem.W.subIn K (.ref C_BadMachine) (.ref C_BadMachine) = some true)
    (al24 : PySem.W.ks_superIn K C_BadMachine C_BadMachine "__init__" = some (some (.builtin "ValueError.__init__")))
    (mr24 : PySem.W.mroIn K C_BadMachine (.ref C_BadMachine) = some true)
    (mo24 : PySem.W.mroIn K C_BadMachine (.type "object") = some true)
    (xL25 : K.lookup C_TooLarge = some (excClassObj nm25 qE25 C_TooLarge NE25 bs25 [.ref C_AsksError, .type "ValueError", .type "Exception", .type "BaseException", .type "object"] true sn25 sub25 ab25 col25 dd25 m025 m125 m225 m325 m525 "ValueError.__new__"))
    (sa25 : PySem.W.findIn K (.ref C_TooLarge) "__setattr__" = some (some (.builtin "object.__setattr__")))
    (ga25 : PySem.W.findIn K (.ref C_TooLarge) "__getattribute__" = some (some (.builtin "BaseException.__getattribute__")))
    (hc25 : PySem.W.findIn K (.ref C_TooLarge) "__class__" = some (some (.builtin "object.__class__")))
    (gg25 : PySem.W.findIn K (.ref C_TooLarge) "__getattr__" = some none)
    (nb250 : PySem.W.findIn K (.ref C_TooLarge) "size" = some none)
    (in25 : PySem.W.findIn K (.ref C_TooLarge) "__init__" = some (some (.ref f25)))
    (ti25 : PySem.W.typeIn K (.ref f25) = some (.type "function"))
    (l25 : K.lookup f25 = some ⟨oc25, od25, .func (PySem.W.ksFn "__init__" "TooLarge.__init__" (defArgs s_TooLarge___init__) (defBody s_TooLarge___init__) (defScope s_TooLarge___init__) .none kV25 dc25 pm25 an25 (.ref cda25) ct25 cc25), sl25⟩)
    (c25 : PySem.W.codeIn K (.ref cda25) "TooLarge.__init__" = true)
    (k25 : PySem.W.keepIn K (.ref f25) = true)
    (ce25 : K.lookup cc25 = some ⟨cy25, oy25, .cell (some (.ref C_TooLarge)), sy25⟩)
    (ta25 : K.lookup cda25 = some ⟨cz25, oz25, .fields vs25, sz25⟩)
    (vf25 : vs25[2]? = some (.str file tf25))
    (kC25 : PySem.W.keepIn K (.ref C_TooLarge) = true)
    (eC25 : PySem.W.subIn K (.ref C_TooLarge) (.type "BaseException") = some true)
    (ve25 : PySem.W.subIn K (.ref C_TooLarge) (.type "ValueError") = some true)
    (tC25 : PySem.W.typeIn K (.ref C_TooLarge) = some (.type "type"))
    (hD25 : PySem.W.hasDictIn K C_TooLarge = true)
    (iC25 : PySem.W.isClsIn K C_TooLarge = true)
    (sC25 : PySem.W.subIn K (.ref C_TooLarge) (.ref C_TooLarge) = some true)
    (al25 : PySem.W.ks_superIn K C_TooLarge C_TooLarge "__init__" = some (some (.builtin "ValueError.__init__")))
    (mr25 : PySem.W.mroIn K C_TooLarge (.ref C_TooLarge) = some true)
    (mo25 : PySem.W.mroIn K C_TooLarge (.type "object") = some true)
    (xL26 : K.lookup C_BadState = some (excClassObj nm26 qE26 C_BadState NE26 bs26 [.ref C_AsksError, .type "ValueError", .type "Exception", .type "BaseException", .type "object"] true sn26 sub26 ab26 col26 dd26 m026 m126 m226 m326 m526 "ValueError.__new__"))
    (sa26 : PySem.W.findIn K (.ref C_BadState) "__setattr__" = some (some (.builtin "object.__setattr__")))
    (ga26 : PySem.W.findIn K (.ref C_BadState) "__getattribute__" = some (some (.builtin "BaseException.__getattribute__")))
    (hc26 : PySem.W.findIn K (.ref C_BadState) "__class__" = some (some (.builtin "object.__class__")))
    (gg26 : PySem.W.findIn K (.ref C_BadState) "__getattr__" = some none)
    (nb260 : PySem.W.findIn K (.ref C_BadState) "state" = some none)
    (in26 : PySem.W.findIn K (.ref C_BadState) "__init__" = some (some (.ref f26)))
    (ti26 : PySem.W.typeIn K (.ref f26) = some (.type "function"))
    (l26 : K.lookup f26 = some ⟨oc26, od26, .func (PySem.W.ksFn "__init__" "BadState.__init__" (defArgs s_BadState___init__) (defBody s_BadState___init__) (defScope s_BadState___init__) .none kV26 dc26 pm26 an26 (.ref cda26) ct26 cc26), sl26⟩)
    (c26 : PySem.W.codeIn K (.ref cda26) "BadState.__init__" = true)
    (k26 : PySem.W.keepIn K (.ref f26) = true)
    (ce26 : K.lookup cc26 = some ⟨cy26, oy26, .cell (some (.ref C_BadState)), sy26⟩)
    (ta26 : K.lookup cda26 = some ⟨cz26, oz26, .fields vs26, sz26⟩)
    (vf26 : vs26[2]? = some (.str file tf26))
    (kC26 : PySem.W.keepIn K (.ref C_BadState) = true)
    (eC26 : PySem.W.subIn K (.ref C_BadState) (.type "BaseException") = some true)
    (ve26 : PySem.W.subIn K (.ref C_BadState) (.type "ValueError") = some true)
    (tC26 : PySem.W.typeIn K (.ref C_BadState) = some (.type "type"))
    (hD26 : PySem.W.hasDictIn K C_BadState = true)
    (iC26 : PySem.W.isClsIn K C_BadState = true)
    (sC26 : PySem.W.subIn K (.ref C_BadState) (.ref C_BadState) = some true)
    (al26 : PySem.W.ks_superIn K C_BadState C_BadState "__init__" = some (some (.builtin "ValueError.__init__")))
    (mr26 : PySem.W.mroIn K C_BadState (.ref C_BadState) = some true)
    (mo26 : PySem.W.mroIn K C_BadState (.type "object") = some true)
    (xMOST_STATES : PySem.W.nsIn K mainGlobals "MOST_STATES" = some (some (.int (200) tk_MOST_STATES)))
    (xMOST_STEPS : PySem.W.nsIn K mainGlobals "MOST_STEPS" = some (some (.int (600) tk_MOST_STEPS)))
    (xLONGEST_ASK : PySem.W.nsIn K mainGlobals "LONGEST_ASK" = some (some (.int (8) tk_LONGEST_ASK)))
    (n_len : PySem.W.nsIn K mainGlobals "len" = some none)
    (n_int : PySem.W.nsIn K mainGlobals "int" = some none)
    (n_range : PySem.W.nsIn K mainGlobals "range" = some none)
    (n_isinstance : PySem.W.nsIn K mainGlobals "isinstance" = some none)
    (n_bool : PySem.W.nsIn K mainGlobals "bool" = some none)
    (n_list : PySem.W.nsIn K mainGlobals "list" = some none)
    (n_tuple : PySem.W.nsIn K mainGlobals "tuple" = some none)
    (n_all : PySem.W.nsIn K mainGlobals "all" = some none)
    (n_sorted : PySem.W.nsIn K mainGlobals "sorted" = some none)
    (n_str : PySem.W.nsIn K mainGlobals "str" = some none)
    (n_sum : PySem.W.nsIn K mainGlobals "sum" = some none)
    (n_super : PySem.W.nsIn K mainGlobals "super" = some none)
    (n_ValueError : PySem.W.nsIn K mainGlobals "ValueError" = some none)
    (pgService : PySem.W.plainGet K C_Service Str.empty = true)
    (hdService : PySem.W.hasDictIn K C_Service = true)
    (poService : PySem.W.plainOver K C_Service = true)
    (saService : PySem.W.findIn K (.ref C_Service) "__setattr__" = some (some (.builtin "object.__setattr__")))
    (naService0 : PySem.W.findIn K (.ref C_Service) "size" = some none)
    (naService1 : PySem.W.findIn K (.ref C_Service) "marks" = some none)
    (naService2 : PySem.W.findIn K (.ref C_Service) "steps" = some none)
    (naService3 : PySem.W.findIn K (.ref C_Service) "now" = some none)
    (naService4 : PySem.W.findIn K (.ref C_Service) "_ends" = some none)
    (naService5 : PySem.W.findIn K (.ref C_Service) "_pairs" = some none)
    (mkService : PySem.W.makesIn K C_Service = true)
    (kcService : PySem.W.keepIn K (.ref C_Service) = true)
    (isServiceMachine : PySem.W.kitOne K (.ref C_Service) (.ref C_Machine) = some true)
    (pgPattern : PySem.W.plainGet K C_Pattern Str.empty = true)
    (hdPattern : PySem.W.hasDictIn K C_Pattern = true)
    (poPattern : PySem.W.plainOver K C_Pattern = true)
    (saPattern : PySem.W.findIn K (.ref C_Pattern) "__setattr__" = some (some (.builtin "object.__setattr__")))
    (naPattern0 : PySem.W.findIn K (.ref C_Pattern) "size" = some none)
    (naPattern1 : PySem.W.findIn K (.ref C_Pattern) "marks" = some none)
    (naPattern2 : PySem.W.findIn K (.ref C_Pattern) "steps" = some none)
    (naPattern3 : PySem.W.findIn K (.ref C_Pattern) "now" = some none)
    (naPattern4 : PySem.W.findIn K (.ref C_Pattern) "_ends" = some none)
    (naPattern5 : PySem.W.findIn K (.ref C_Pattern) "_pairs" = some none)
    (mkPattern : PySem.W.makesIn K C_Pattern = true)
    (kcPattern : PySem.W.keepIn K (.ref C_Pattern) = true)
    (isPatternMachine : PySem.W.kitOne K (.ref C_Pattern) (.ref C_Machine) = some true)
    (fgi : PySem.W.fnIn K f21 = true)
    (o1Service : PySem.W.findIn K (.ref C_Service) "__class__" = some (some (.builtin "object.__class__")))
    (o4Service : PySem.W.mroIn K C_Service (.type "object") = some true)
    (o1Pattern : PySem.W.findIn K (.ref C_Pattern) "__class__" = some (some (.builtin "object.__class__")))
    (o4Pattern : PySem.W.mroIn K C_Pattern (.type "object") = some true)
    (ktBadMachineAsksError : PySem.W.kitOne K (.ref C_BadMachine) (.ref C_AsksError) = some true)
    (ktBadMachineTooLarge : PySem.W.kitOne K (.ref C_BadMachine) (.ref C_TooLarge) = some false)
    (ktBadMachineBadState : PySem.W.kitOne K (.ref C_BadMachine) (.ref C_BadState) = some false)
    (ktBadMachineV : PySem.W.kitOne K (.ref C_BadMachine) (.type "ValueError") = some true)
    (xmBadMachineTooLarge : PySem.W.subIn K (.ref C_BadMachine) (.ref C_TooLarge) = some false)
    (xmBadMachineBadState : PySem.W.subIn K (.ref C_BadMachine) (.ref C_BadState) = some false)
    (ktTooLargeAsksError : PySem.W.kitOne K (.ref C_TooLarge) (.ref C_AsksError) = some true)
    (ktTooLargeBadMachine : PySem.W.kitOne K (.ref C_TooLarge) (.ref C_BadMachine) = some false)
    (ktTooLargeBadState : PySem.W.kitOne K (.ref C_TooLarge) (.ref C_BadState) = some false)
    (ktTooLargeV : PySem.W.kitOne K (.ref C_TooLarge) (.type "ValueError") = some true)
    (xmTooLargeBadMachine : PySem.W.subIn K (.ref C_TooLarge) (.ref C_BadMachine) = some false)
    (xmTooLargeBadState : PySem.W.subIn K (.ref C_TooLarge) (.ref C_BadState) = some false)
    (ktBadStateAsksError : PySem.W.kitOne K (.ref C_BadState) (.ref C_AsksError) = some true)
    (ktBadStateBadMachine : PySem.W.kitOne K (.ref C_BadState) (.ref C_BadMachine) = some false)
    (ktBadStateTooLarge : PySem.W.kitOne K (.ref C_BadState) (.ref C_TooLarge) = some false)
    (ktBadStateV : PySem.W.kitOne K (.ref C_BadState) (.type "ValueError") = some true)
    (xmBadStateBadMachine : PySem.W.subIn K (.ref C_BadState) (.ref C_BadMachine) = some false)
    (xmBadStateTooLarge : PySem.W.subIn K (.ref C_BadState) (.ref C_TooLarge) = some false)
    (SO : SupOk l.prog file) :
    ∃ fd : FuncData, (∀ (s : Shared) (v : Value), BindsTo s fd ⟨[v], []⟩ [("_law_script", v)]) ∧ ∀ base : Heap, K.In base → base.Ns mainGlobals mg → FnOk l.prog w K mg base CX0 10 fa fd ["_law_script"] (sp_law K) := by
  have e := hfa.symm.trans (PySem.W.mg_of X G a12)
  cases e
  have F0 := fun_mk (st := s__law_cell) l0 c0 k0
  have B0 := F0.binds (ps := ["_law_script", "_law_k"]) fun _ _ _ _ _ _ us hl => match us, hl with | [_, _], _ => rfl
  have F1 := fun_mk (st := s__law_draws) l1 c1 k1
  have B1 := F1.binds (ps := ["_law_script", "_law_k", "_law_many"]) fun _ _ _ _ _ _ us hl => match us, hl with | [_, _, _], _ => rfl
  have F2 := fun_mk (st := s__law_asks) l2 c2 k2
  have B2 := F2.binds (ps := ["_law_row", "_law_many"]) fun _ _ _ _ _ _ us hl => match us, hl with | [_, _], _ => rfl
  have F3 := fun_mk (st := s__law_whole) l3 c3 k3
  have B3 := F3.binds (ps := ["_law_x"]) fun _ _ _ _ _ _ us hl => match us, hl with | [_], _ => rfl
  have F4 := fun_mk (st := s__law_kinds) l4 c4 k4
  have B4 := F4.binds (ps := ["_law_e"]) fun _ _ _ _ _ _ us hl => match us, hl with | [_], _ => rfl
  have F5 := fun_mk (st := s__law_made) l5 c5 k5
  have B5 := F5.binds (ps := ["_law_choice", "_law_size", "_law_marks", "_law_steps", "_law_here"]) fun _ _ _ _ _ _ us hl => match us, hl with | [_, _, _, _, _], _ => rfl
  have F6 := fun_mk (st := s__law_put_in) l6 c6 k6
  have B6 := F6.binds (ps := ["_law_rows", "_law_thing", "_law_digit"]) fun _ _ _ _ _ _ us hl => match us, hl with | [_, _, _], _ => rfl
  have F7 := fun_mk (st := s__law_bad_ask) l7 c7 k7
  have B7 := F7.binds (ps := ["_law_row", "_law_ask"]) fun _ _ _ _ _ _ us hl => match us, hl with | [_, _], _ => rfl
  have F8 := fun_mk (st := s__law_bad_step) l8 c8 k8
  have B8 := F8.binds (ps := ["_law_row", "_law_size", "_law_ask"]) fun _ _ _ _ _ _ us hl => match us, hl with | [_, _, _], _ => rfl
  have F9 := fun_mk (st := s__law_parts) l9 c9 k9
  have B9 := F9.binds (ps := ["_law_row", "_law_asks_here"]) fun _ _ _ _ _ _ us hl => match us, hl with | [_, _], _ => rfl
  have F10 := fun_mk (st := s__law_large) l10 c10 k10
  have B10 := F10.binds (ps := ["_law_row", "_law_asks_here"]) fun _ _ _ _ _ _ us hl => match us, hl with | [_, _], _ => rfl
  have F11 := fun_mk (st := s__law_due) l11 c11 k11
  have B11 := F11.binds (ps := ["_law_faults", "_law_size", "_law_here"]) fun _ _ _ _ _ _ us hl => match us, hl with | [_, _, _], _ => rfl
  have F12 := fun_mk (st := s_law) l12 c12 k12
  have B12 := F12.binds (ps := ["_law_script"]) fun _ _ _ _ _ _ us hl => match us, hl with | [_], _ => rfl
  have F13 := fun_mk (st := s_check_size) l13 c13 k13
  have B13 := F13.binds (ps := ["size"]) fun _ _ _ _ _ _ us hl => match us, hl with | [_], _ => rfl
  have F14 := fun_mk (st := s_check_marks) l14 c14 k14
  have B14 := F14.binds (ps := ["size", "marks"]) fun _ _ _ _ _ _ us hl => match us, hl with | [_, _], _ => rfl
  have F15 := fun_mk (st := s_check_steps) l15 c15 k15
  have B15 := F15.binds (ps := ["size", "steps"]) fun _ _ _ _ _ _ us hl => match us, hl with | [_, _], _ => rfl
  have F16 := fun_mk (st := s_is_ask) l16 c16 k16
  have B16 := F16.binds (ps := ["ask"]) fun _ _ _ _ _ _ us hl => match us, hl with | [_], _ => rfl
  have F17 := fun_mk (st := s_ascending) l17 c17 k17
  have B17 := F17.binds (ps := ["steps"]) fun _ _ _ _ _ _ us hl => match us, hl with | [_], _ => rfl
  have F18 := fun_mk (st := s_ends_by_ask) l18 c18 k18
  have B18 := F18.binds (ps := ["steps"]) fun _ _ _ _ _ _ us hl => match us, hl with | [_], _ => rfl
  have F19 := fun_mk (st := s_pairs_by_state) l19 c19 k19
  have B19 := F19.binds (ps := ["steps"]) fun _ _ _ _ _ _ us hl => match us, hl with | [_], _ => rfl
  have F20 : FunD K "__init__" "Machine.__init__" (defArgs s_Machine___init__) (defBody s_Machine___init__) (defScope s_Machine___init__) [.int 0] [] f20 (PySem.W.fnOf "__init__" "Machine.__init__" (defArgs s_Machine___init__) (defBody s_Machine___init__) (defScope s_Machine___init__) (.ref D20) kV20 dc20 pm20 an20 cd20 ct20) := ⟨⟨_, _, _, _, _, _, _, _, _, _, rfl, l20, c20, .inr ⟨(by intro z; cases z), _, _, [.int 0 tD20], nD20, rfl, z20, rfl, .cons ⟨tD20, rfl⟩ .nil⟩, .inl rfl⟩, k20⟩
  have F21 := fun_mk (st := s_Machine___getitem__) l21 c21 k21
  have B21 := F21.binds (ps := ["self", "at"]) fun _ _ _ _ _ _ us hl => match us, hl with | [_, _], _ => rfl
  have F22 := fun_mk (st := s_Machine_ends_at) l22 c22 k22
  have B22 := F22.binds (ps := ["self", "state", "ask"]) fun _ _ _ _ _ _ us hl => match us, hl with | [_, _, _], _ => rfl
  have F23 := fun_mk (st := s_Machine___bool__) l23 c23 k23
  have B23 := F23.binds (ps := ["self"]) fun _ _ _ _ _ _ us hl => match us, hl with | [_], _ => rfl
  have E24 : ErrT K C_BadMachine "BadMachine.__init__" s_BadMachine___init__ f24 (PySem.W.ksFn "__init__" "BadMachine.__init__" (defArgs s_BadMachine___init__) (defBody s_BadMachine___init__) (defScope s_BadMachine___init__) .none kV24 dc24 pm24 an24 (.ref cda24) ct24 cc24) file ["self", "part"] ["part"] := { oex := ⟨⟨_, _, _, _, _, _, _, _, _, _, _, _, _, _, _, xL24, rfl⟩, sa24, eC24, tC24, kC24⟩, cc := cc24, cda := cda24, fn := ⟨⟨_, _, _, _, _, _, _, _, rfl, l24⟩, c24, ⟨_, ce24, rfl⟩, ⟨_, _, _, ta24, rfl, vf24⟩, k24⟩, xf := ⟨ga24, gg24, eC24, hD24⟩, ex := ⟨ga24, gg24, eC24, hD24, hc24, oE2, oE3, mo24⟩, no := by simp only [List.forall_mem_cons]; exact ⟨nb240, fun _ h => nomatch h⟩, ini := in24, ti := ti24, te := exm_selfE eC24 iC24 tC24 sC24, al := al24, ve := ve24, mr := mr24, bd := fun us hl => match us, hl with | [_, _], _ => rfl }
  have E25 : ErrT K C_TooLarge "TooLarge.__init__" s_TooLarge___init__ f25 (PySem.W.ksFn "__init__" "TooLarge.__init__" (defArgs s_TooLarge___init__) (defBody s_TooLarge___init__) (defScope s_TooLarge___init__) .none kV25 dc25 pm25 an25 (.ref cda25) ct25 cc25) file ["self", "size"] ["size"] := { oex := ⟨⟨_, _, _, _, _, _, _, _, _, _, _, _, _, _, _, xL25, rfl⟩, sa25, eC25, tC25, kC25⟩, cc := cc25, cda := cda25, fn := ⟨⟨_, _, _, _, _, _, _, _, rfl, l25⟩, c25, ⟨_, ce25, rfl⟩, ⟨_, _, _, ta25, rfl, vf25⟩, k25⟩, xf := ⟨ga25, gg25, eC25, hD25⟩, ex := ⟨ga25, gg25, eC25, hD25, hc25, oE2, oE3, mo25⟩, no := by simp only [List.forall_mem_cons]; exact ⟨nb250, fun _ h => nomatch h⟩, ini := in25, ti := ti25, te := exm_selfE eC25 iC25 tC25 sC25, al := al25, ve := ve25, mr := mr25, bd := fun us hl => match us, hl with | [_, _], _ => rfl }
  have E26 : ErrT K C_BadState "BadState.__init__" s_BadState___init__ f26 (PySem.W.ksFn "__init__" "BadState.__init__" (defArgs s_BadState___init__) (defBody s_BadState___init__) (defScope s_BadState___init__) .none kV26 dc26 pm26 an26 (.ref cda26) ct26 cc26) file ["self", "state"] ["state"] := { oex := ⟨⟨_, _, _, _, _, _, _, _, _, _, _, _, _, _, _, xL26, rfl⟩, sa26, eC26, tC26, kC26⟩, cc := cc26, cda := cda26, fn := ⟨⟨_, _, _, _, _, _, _, _, rfl, l26⟩, c26, ⟨_, ce26, rfl⟩, ⟨_, _, _, ta26, rfl, vf26⟩, k26⟩, xf := ⟨ga26, gg26, eC26, hD26⟩, ex := ⟨ga26, gg26, eC26, hD26, hc26, oE2, oE3, mo26⟩, no := by simp only [List.forall_mem_cons]; exact ⟨nb260, fun _ h => nomatch h⟩, ini := in26, ti := ti26, te := exm_selfE eC26 iC26 tC26 sC26, al := al26, ve := ve26, mr := mr26, bd := fun us hl => match us, hl with | [_, _], _ => rfl }
  obtain ⟨_, BIv, BI⟩ := F20.binds1 (ps := ["self", "size", "marks", "steps", "now"]) 5 1 (by intro z; cases z) rfl fun T kV doc pm an cdv ct us its hu hi => by
      obtain ⟨u1, u2, u3, u4, u5, rfl⟩ : ∃ u1 u2 u3 u4 u5, us = [u1, u2, u3, u4, u5] := match us, hu with | [u1, u2, u3, u4, u5], _ => ⟨u1, u2, u3, u4, u5, rfl⟩
      obtain ⟨v1, rfl⟩ : ∃ v1, its = [v1] := match its, hi with | [v1], _ => ⟨v1, rfl⟩
      exact ⟨_, rfl, rfl⟩
  cases BIv
  obtain ⟨eds, evs, eb⟩ := F20.binds1 (ps := ["self", "size", "marks", "steps", "now"]) 4 0 (by intro z; cases z) rfl fun T kV doc pm an cdv ct us its hu hi => by
      obtain ⟨u1, u2, u3, u4, rfl⟩ : ∃ u1 u2 u3 u4, us = [u1, u2, u3, u4] := match us, hu with | [u1, u2, u3, u4], _ => ⟨u1, u2, u3, u4, rfl⟩
      obtain ⟨v1, rfl⟩ : ∃ v1, its = [v1] := match its, hi with | [v1], _ => ⟨v1, rfl⟩
      exact ⟨_, rfl, rfl⟩
  obtain ⟨T, T1, T2, T3⟩ : ∃ T : Tp K mg, T.a_law = fa ∧ T.d_law = PySem.W.fnOf "law" "law" (defArgs s_law) (defBody s_law) (defScope s_law) .none kV12 dc12 pm12 an12 cd12 ct12 ∧ T.file = file := ⟨{ C_AsksError := C_AsksError, g_AsksError := PySem.W.mg_of X G qAsksError, C_BadMachine := C_BadMachine, g_BadMachine := PySem.W.mg_of X G qBadMachine, C_TooLarge := C_TooLarge, g_TooLarge := PySem.W.mg_of X G qTooLarge, C_BadState := C_BadState, g_BadState := PySem.W.mg_of X G qBadState, C_Machine := C_Machine, g_Machine := PySem.W.mg_of X G qMachine, C_Service := C_Service, g_Service := PySem.W.mg_of X G qService, C_Pattern := C_Pattern, g_Pattern := PySem.W.mg_of X G qPattern, file := file, hth := hth, a__law_cell := f0, d__law_cell := PySem.W.fnOf "_law_cell" "_law_cell" (defArgs s__law_cell) (defBody s__law_cell) (defScope s__law_cell) .none kV0 dc0 pm0 an0 cd0 ct0, b__law_cell := B0, f__law_cell := F0, g__law_cell := PySem.W.mg_of X G a0, a__law_draws := f1, d__law_draws := PySem.W.fnOf "_law_draws" "_law_draws" (defArgs s__law_draws) (defBody s__law_draws) (defScope s__law_draws) .none kV1 dc1 pm1 an1 cd1 ct1, b__law_draws := B1, f__law_draws := F1, g__law_draws := PySem.W.mg_of X G a1, a__law_asks := f2, d__law_asks := PySem.W.fnOf "_law_asks" "_law_asks" (defArgs s__law_asks) (defBody s__law_asks) (defScope s__law_asks) .none kV2 dc2 pm2 an2 cd2 ct2, b__law_asks := B2, f__law_asks := F2, g__law_asks := PySem.W.mg_of X G a2, a__law_whole := f3, d__law_whole := PySem.W.fnOf "_law_whole" "_law_whole" (defArgs s__law_whole) (defBody s__law_whole) (defScope s__law_whole) .none kV3 dc3 pm3 an3 cd3 ct3, b__law_whole := B3, f__law_whole := F3, g__law_whole := PySem.W.mg_of X G a3, a__law_kinds := f4, d__law_kinds := PySem.W.fnOf "_law_kinds" "_law_kinds" (defArgs s__law_kinds) (defBody s__law_kinds) (defScope s__law_kinds) .none kV4 dc4 pm4 an4 cd4 ct4, b__law_kinds := B4, f__law_kinds := F4, g__law_kinds := PySem.W.mg_of X G a4, a__law_made := f5, d__law_made := PySem.W.fnOf "_law_made" "_law_made" (defArgs s__law_made) (defBody s__law_made) (defScope s__law_made) .none kV5 dc5 pm5 an5 cd5 ct5, b__law_made := B5, f__law_made := F5, g__law_made := PySem.W.mg_of X G a5, a__law_put_in := f6, d__law_put_in := PySem.W.fnOf "_law_put_in" "_law_put_in" (defArgs s__law_put_in) (defBody s__law_put_in) (defScope s__law_put_in) .none kV6 dc6 pm6 an6 cd6 ct6, b__law_put_in := B6, f__law_put_in := F6, g__law_put_in := PySem.W.mg_of X G a6, a__law_bad_ask := f7, d__law_bad_ask := PySem.W.fnOf "_law_bad_ask" "_law_bad_ask" (defArgs s__law_bad_ask) (defBody s__law_bad_ask) (defScope s__law_bad_ask) .none kV7 dc7 pm7 an7 cd7 ct7, b__law_bad_ask := B7, f__law_bad_ask := F7, g__law_bad_ask := PySem.W.mg_of X G a7, a__law_bad_step := f8, d__law_bad_step := PySem.W.fnOf "_law_bad_step" "_law_bad_step" (defArgs s__law_bad_step) (defBody s__law_bad_step) (defScope s__law_bad_step) .none kV8 dc8 pm8 an8 cd8 ct8, b__law_bad_step := B8, f__law_bad_step := F8, g__law_bad_step := PySem.W.mg_of X G a8, a__law_parts := f9, d__law_parts := PySem.W.fnOf "_law_parts" "_law_parts" (defArgs s__law_parts) (defBody s__law_parts) (defScope s__law_parts) .none kV9 dc9 pm9 an9 cd9 ct9, b__law_parts := B9, f__law_parts := F9, g__law_parts := PySem.W.mg_of X G a9, a__law_large := f10, d__law_large := PySem.W.fnOf "_law_large" "_law_large" (defArgs s__law_large) (defBody s__law_large) (defScope s__law_large) .none kV10 dc10 pm10 an10 cd10 ct10, b__law_large := B10, f__law_large := F10, g__law_large := PySem.W.mg_of X G a10, a__law_due := f11, d__law_due := PySem.W.fnOf "_law_due" "_law_due" (defArgs s__law_due) (defBody s__law_due) (defScope s__law_due) .none kV11 dc11 pm11 an11 cd11 ct11, b__law_due := B11, f__law_due := F11, g__law_due := PySem.W.mg_of X G a11, a_law := fa, d_law := PySem.W.fnOf "law" "law" (defArgs s_law) (defBody s_law) (defScope s_law) .none kV12 dc12 pm12 an12 cd12 ct12, b_law := B12, f_law := F12, g_law := PySem.W.mg_of X G a12, a_check_size := f13, d_check_size := PySem.W.fnOf "check_size" "check_size" (defArgs s_check_size) (defBody s_check_size) (defScope s_check_size) .none kV13 dc13 pm13 an13 cd13 ct13, b_check_size := B13, f_check_size := F13, g_check_size := PySem.W.mg_of X G a13, a_check_marks := f14, d_check_marks := PySem.W.fnOf "check_marks" "check_marks" (defArgs s_check_marks) (defBody s_check_marks) (defScope s_check_marks) .none kV14 dc14 pm14 an14 cd14 ct14, b_check_marks := B14, f_check_marks := F14, g_check_marks := PySem.W.mg_of X G a14, a_check_steps := f15, d_check_steps := PySem.W.fnOf "check_steps" "check_steps" (defArgs s_check_steps) (defBody s_check_steps) (defScope s_check_steps) .none kV15 dc15 pm15 an15 cd15 ct15, b_check_steps := B15, f_check_steps := F15, g_check_steps := PySem.W.mg_of X G a15, a_is_ask := f16, d_is_ask := PySem.W.fnOf "is_ask" "is_ask" (defArgs s_is_ask) (defBody s_is_ask) (defScope s_is_ask) .none kV16 dc16 pm16 an16 cd16 ct16, b_is_ask := B16, f_is_ask := F16, g_is_ask := PySem.W.mg_of X G a16, a_ascending := f17, d_ascending := PySem.W.fnOf "ascending" "ascending" (defArgs s_ascending) (defBody s_ascending) (defScope s_ascending) .none kV17 dc17 pm17 an17 cd17 ct17, b_ascending := B17, f_ascending := F17, g_ascending := PySem.W.mg_of X G a17, a_ends_by_ask := f18, d_ends_by_ask := PySem.W.fnOf "ends_by_ask" "ends_by_ask" (defArgs s_ends_by_ask) (defBody s_ends_by_ask) (defScope s_ends_by_ask) .none kV18 dc18 pm18 an18 cd18 ct18, b_ends_by_ask := B18, f_ends_by_ask := F18, g_ends_by_ask := PySem.W.mg_of X G a18, a_pairs_by_state := f19, d_pairs_by_state := PySem.W.fnOf "pairs_by_state" "pairs_by_state" (defArgs s_pairs_by_state) (defBody s_pairs_by_state) (defScope s_pairs_by_state) .none kV19 dc19 pm19 an19 cd19 ct19, b_pairs_by_state := B19, f_pairs_by_state := F19, g_pairs_by_state := PySem.W.mg_of X G a19, a_Machine___init__ := f20, d_Machine___init__ := PySem.W.fnOf "__init__" "Machine.__init__" (defArgs s_Machine___init__) (defBody s_Machine___init__) (defScope s_Machine___init__) (.ref D20) kV20 dc20 pm20 an20 cd20 ct20, f_Machine___init__ := F20, a_Machine___getitem__ := f21, d_Machine___getitem__ := PySem.W.fnOf "__getitem__" "Machine.__getitem__" (defArgs s_Machine___getitem__) (defBody s_Machine___getitem__) (defScope s_Machine___getitem__) .none kV21 dc21 pm21 an21 cd21 ct21, b_Machine___getitem__ := B21, f_Machine___getitem__ := F21, a_Machine_ends_at := f22, d_Machine_ends_at := PySem.W.fnOf "ends_at" "Machine.ends_at" (defArgs s_Machine_ends_at) (defBody s_Machine_ends_at) (defScope s_Machine_ends_at) .none kV22 dc22 pm22 an22 cd22 ct22, b_Machine_ends_at := B22, f_Machine_ends_at := F22, a_Machine___bool__ := f23, d_Machine___bool__ := PySem.W.fnOf "__bool__" "Machine.__bool__" (defArgs s_Machine___bool__) (defBody s_Machine___bool__) (defScope s_Machine___bool__) .none kV23 dc23 pm23 an23 cd23 ct23, b_Machine___bool__ := B23, f_Machine___bool__ := F23, a_BadMachine___init__ := f24, d_BadMachine___init__ := PySem.W.ksFn "__init__" "BadMachine.__init__" (defArgs s_BadMachine___init__) (defBody s_BadMachine___init__) (defScope s_BadMachine___init__) .none kV24 dc24 pm24 an24 (.ref cda24) ct24 cc24, err_BadMachine := E24, a_TooLarge___init__ := f25, d_TooLarge___init__ := PySem.W.ksFn "__init__" "TooLarge.__init__" (defArgs s_TooLarge___init__) (defBody s_TooLarge___init__) (defScope s_TooLarge___init__) .none kV25 dc25 pm25 an25 (.ref cda25) ct25 cc25, err_TooLarge := E25, a_BadState___init__ := f26, d_BadState___init__ := PySem.W.ksFn "__init__" "BadState.__init__" (defArgs s_BadState___init__) (defBody s_BadState___init__) (defScope s_BadState___init__) .none kV26 dc26 pm26 an26 (.ref cda26) ct26 cc26, err_BadState := E26, t_MOST_STATES := tk_MOST_STATES, k_MOST_STATES := PySem.W.mg_of X G xMOST_STATES, t_MOST_STEPS := tk_MOST_STEPS, k_MOST_STEPS := PySem.W.mg_of X G xMOST_STEPS, t_LONGEST_ASK := tk_LONGEST_ASK, k_LONGEST_ASK := PySem.W.mg_of X G xLONGEST_ASK, n_len := PySem.W.mg_none_of X G n_len, n_int := PySem.W.mg_none_of X G n_int, n_range := PySem.W.mg_none_of X G n_range, n_isinstance := PySem.W.mg_none_of X G n_isinstance, n_bool := PySem.W.mg_none_of X G n_bool, n_list := PySem.W.mg_none_of X G n_list, n_tuple := PySem.W.mg_none_of X G n_tuple, n_all := PySem.W.mg_none_of X G n_all, n_sorted := PySem.W.mg_none_of X G n_sorted, n_str := PySem.W.mg_none_of X G n_str, n_sum := PySem.W.mg_none_of X G n_sum, n_super := PySem.W.mg_none_of X G n_super, n_ValueError := PySem.W.mg_none_of X G n_ValueError, cl_Service := ⟨pgService, hdService, poService, saService⟩, na_Service_size := naService0, na_Service_marks := naService1, na_Service_steps := naService2, na_Service_now := naService3, na_Service__ends := naService4, na_Service__pairs := naService5, mk_Service := ⟨mkService, inService, i20, kcService⟩, me_Service___getitem__ := ⟨meService__getitem__, i21, k21⟩, me_Service___bool__ := ⟨meService__bool__, i23, k23⟩, me_Service_ends_at := ⟨meServiceends_at, i22, k22⟩, is_Service_Machine := isServiceMachine, cl_Pattern := ⟨pgPattern, hdPattern, poPattern, saPattern⟩, na_Pattern_size := naPattern0, na_Pattern_marks := naPattern1, na_Pattern_steps := naPattern2, na_Pattern_now := naPattern3, na_Pattern__ends := naPattern4, na_Pattern__pairs := naPattern5, mk_Pattern := ⟨mkPattern, inPattern, i20, kcPattern⟩, me_Pattern___getitem__ := ⟨mePattern__getitem__, i21, k21⟩, me_Pattern___bool__ := ⟨mePattern__bool__, i23, k23⟩, me_Pattern_ends_at := ⟨mePatternends_at, i22, k22⟩, is_Pattern_Machine := isPatternMachine, b_Machine___init__ := BI, fn_gi := fgi, e_ds := eds, e_vs := evs, e_b := eb, cf_Service := ⟨⟨pgService, hdService, poService, saService⟩, naService0, naService1, naService2, naService3, naService4, naService5⟩, cc_Service := ⟨o1Service, oE2, oE3, o4Service⟩, gi_Service := ⟨meService__getitem__, i21, k21⟩, ea_Service := ⟨meServiceends_at, i22, k22⟩, is_Service := isServiceMachine, cf_Pattern := ⟨⟨pgPattern, hdPattern, poPattern, saPattern⟩, naPattern0, naPattern1, naPattern2, naPattern3, naPattern4, naPattern5⟩, cc_Pattern := ⟨o1Pattern, oE2, oE3, o4Pattern⟩, gi_Pattern := ⟨mePattern__getitem__, i21, k21⟩, ea_Pattern := ⟨mePatternends_at, i22, k22⟩, is_Pattern := isPatternMachine, ik_BadMachine_AsksError := ktBadMachineAsksError, ik_BadMachine_BadMachine := if_pos (beq_self_eq_true _), ik_BadMachine_TooLarge := ktBadMachineTooLarge, ik_BadMachine_BadState := ktBadMachineBadState, ik_BadMachine_V := ktBadMachineV, xm_BadMachine_TooLarge := exm_otherE eC25 iC25 tC25 xmBadMachineTooLarge, xm_BadMachine_BadState := exm_otherE eC26 iC26 tC26 xmBadMachineBadState, ik_TooLarge_AsksError := ktTooLargeAsksError, ik_TooLarge_BadMachine := ktTooLargeBadMachine, ik_TooLarge_TooLarge := if_pos (beq_self_eq_true _), ik_TooLarge_BadState := ktTooLargeBadState, ik_TooLarge_V := ktTooLargeV, xm_TooLarge_BadMachine := exm_otherE eC24 iC24 tC24 xmTooLargeBadMachine, xm_TooLarge_BadState := exm_otherE eC26 iC26 tC26 xmTooLargeBadState, ik_BadState_AsksError := ktBadStateAsksError, ik_BadState_BadMachine := ktBadStateBadMachine, ik_BadState_TooLarge := ktBadStateTooLarge, ik_BadState_BadState := if_pos (beq_self_eq_true _), ik_BadState_V := ktBadStateV, xm_BadState_BadMachine := exm_otherE eC24 iC24 tC24 xmBadStateBadMachine, xm_BadState_TooLarge := exm_otherE eC25 iC25 tC25 xmBadStateTooLarge }, rfl, rfl, rfl⟩
  refine ⟨PySem.W.fnOf "law" "law" (defArgs s_law) (defBody s_law) (defScope s_law) .none kV12 dc12 pm12 an12 cd12 ct12, fun s v => .of_eq rfl, fun base _ _ => ?_⟩
  have z := ok_law (P := l.prog) (w := w) (base := base) T (by rw [T3]; exact SO)
  rw [T1, T2] at z
  exact z
theorem walk {l : PySem.W.OpenLaw} {q : Program} {loose : List Str} {XP : (Str → Option Value) → Heap → Prop} {YP : World → Heap → Prop} {d : DefRec} {K : Params → PySem.W.Frag} (hn : l.most = some 63) (hdf : d.params.defaults = [])
    (hY : ∀ (w : World) (h : Heap), YP w h → (K w.params).In h)
    (F : ∀ (w : World) (mg : Str → Option Value) (fa : Addr) (h : Heap), (K w.params).In h → h.Ns mainGlobals mg → mg d.name = some (.ref fa) →
      ∃ fd : FuncData, (∀ (s : Shared) (u : Value), BindsTo s fd ⟨[u], []⟩ [("_law_script", u)]) ∧ ∀ base : Heap, (K w.params).In base → base.Ns mainGlobals mg → FnOk l.prog w (K w.params) mg base CX0 10 fa fd ["_law_script"] (sp_law (K w.params))) :
    PySem.W.WalkO q loose XP YP l.row.toRowW d [] (fun f vs => PySem.call f vs) :=
  L2.walk_of (n := 63) (k := 10) (x := "_law_script") (CX := fun _ => CX0) (sp := fun w => sp_law (K w.params)) hn (by decide) hdf ⟨rfl, by decide, by decide⟩ hY F (fun _ _ a ns hl _ hS => ⟨a, ns, rfl, hS, fun _ => rfl⟩) fun _ _ _ _ _ z => z
end K14

set_option Elab.async false
set_option linter.all false
open PySem PySem.W PyProof.Rows
set_option maxRecDepth 100000 in
set_option maxHeartbeats 0 in
theorem PySem.Challenge.cw_askshanded_k14_machines_refused_holds : PySem.Challenge.rw_askshanded_k14_machines_refused.Holds := by
  w_on; o_law; k_head; (case hw => w_witness2)
  k_fill
  refine K14.walk (l := PySem.Challenge.rw_askshanded_k14_machines_refused) rfl rfl (fun w h Y => PySem.W.kIn_of Y) ?F
  case F =>
    intro w mg fa h KX G hmg
    refine' K14.all_mk KX G hmg ?qAsksError ?qBadMachine ?qTooLarge ?qBadState ?qMachine ?qService ?qPattern ?oE2 ?oE3 ?hth ?a0 ?l0 ?c0 ?k0 ?a1 ?l1 ?c1 ?k1 ?a2 ?l2 ?c2 ?k2 ?a3 ?l3 ?c3 ?k3 ?a4 ?l4 ?c4 ?k4 ?a5 ?l5 ?c5 ?k5 ?a6 ?l6 ?c6 ?k6 ?a7 ?l7 ?c7 ?k7 ?a8 ?l8 ?c8 ?k8 ?a9 ?l9 ?c9 ?k9 ?a10 ?l10 ?c10 ?k10 ?a11 ?l11 ?c11 ?k11 ?a12 ?l12 ?c12 ?k12 ?a13 ?l13 ?c13 ?k13 ?a14 ?l14 ?c14 ?k14 ?a15 ?l15 ?c15 ?k15 ?a16 ?l16 ?c16 ?k16 ?a17 ?l17 ?c17 ?k17 ?a18 ?l18 ?c18 ?k18 ?a19 ?l19 ?c19 ?k19 ?inService ?inPattern ?i20 ?l20 ?c20 ?k20 ?z20 ?meService__getitem__ ?mePattern__getitem__ ?i21 ?l21 ?c21 ?k21 ?meServiceends_at ?mePatternends_at ?i22 ?l22 ?c22 ?k22 ?meService__bool__ ?mePattern__bool__ ?i23 ?l23 ?c23 ?k23 ?xL24 ?sa24 ?ga24 ?hc24 ?gg24 ?nb240 ?in24 ?ti24 ?l24 ?c24 ?k24 ?ce24 ?ta24 ?vf24 ?kC24 ?eC24 ?ve24 ?tC24 ?hD24 ?iC24 ?sC24 ?al24 ?mr24 ?mo24 ?xL25 ?sa25 ?ga25 ?hc25 ?gg25 ?nb250 ?in25 ?ti25 ?l25 ?c25 ?k25 ?ce25 ?ta25 ?vf25 ?kC25 ?eC25 ?ve25 ?tC25 ?hD25 ?iC25 ?sC25 ?al25 ?mr25 ?mo25 ?xL26 ?sa26 ?ga26 ?hc26 ?gg26 ?nb260 ?in26 ?ti26 ?l26 ?c26 ?k26 ?ce26 ?ta26 ?vf26 ?kC26 ?eC26 ?ve26 ?tC26 ?hD26 ?iC26 ?sC26 ?al26 ?mr26 ?mo26 ?xMOST_STATES ?xMOST_STEPS ?xLONGEST_ASK ?n_len ?n_int ?n_range ?n_isinstance ?n_bool ?n_list ?n_tuple ?n_all ?n_sorted ?n_str ?n_sum ?n_super ?n_ValueError ?pgService ?hdService ?poService ?saService ?naService0 ?naService1 ?naService2 ?naService3 ?naService4 ?naService5 ?mkService ?kcService ?isServiceMachine ?pgPattern ?hdPattern ?poPattern ?saPattern ?naPattern0 ?naPattern1 ?naPattern2 ?naPattern3 ?naPattern4 ?naPattern5 ?mkPattern ?kcPattern ?isPatternMachine ?fgi ?o1Service ?o4Service ?o1Pattern ?o4Pattern ?ktBadMachineAsksError ?ktBadMachineTooLarge ?ktBadMachineBadState ?ktBadMachineV ?xmBadMachineTooLarge ?xmBadMachineBadState ?ktTooLargeAsksError ?ktTooLargeBadMachine ?ktTooLargeBadState ?ktTooLargeV ?xmTooLargeBadMachine ?xmTooLargeBadState ?ktBadStateAsksError ?ktBadStateBadMachine ?ktBadStateTooLarge ?ktBadStateV ?xmBadStateBadMachine ?xmBadStateTooLarge ?SO
    (case qAsksError => k_is); (case qBadMachine => k_is); (case qTooLarge => k_is); (case qBadState => k_is); (case qMachine => k_is); (case qService => k_is); (case qPattern => k_is); (case oE2 => k_is)
    (case oE3 => k_is); (case hth => k_is); (case a0 => k_is); (case l0 => k_is); (case c0 => k_is); (case k0 => k_is); (case a1 => k_is); (case l1 => k_is)
    (case c1 => k_is); (case k1 => k_is); (case a2 => k_is); (case l2 => k_is); (case c2 => k_is); (case k2 => k_is); (case a3 => k_is); (case l3 => k_is)
    (case c3 => k_is); (case k3 => k_is); (case a4 => k_is); (case l4 => k_is); (case c4 => k_is); (case k4 => k_is); (case a5 => k_is); (case l5 => k_is)
    (case c5 => k_is); (case k5 => k_is); (case a6 => k_is); (case l6 => k_is); (case c6 => k_is); (case k6 => k_is); (case a7 => k_is); (case l7 => k_is)
    (case c7 => k_is); (case k7 => k_is); (case a8 => k_is); (case l8 => k_is); (case c8 => k_is); (case k8 => k_is); (case a9 => k_is); (case l9 => k_is)
    (case c9 => k_is); (case k9 => k_is); (case a10 => k_is); (case l10 => k_is); (case c10 => k_is); (case k10 => k_is); (case a11 => k_is); (case l11 => k_is)
    (case c11 => k_is); (case k11 => k_is); (case a12 => k_is); (case l12 => k_is); (case c12 => k_is); (case k12 => k_is); (case a13 => k_is); (case l13 => k_is)
    (case c13 => k_is); (case k13 => k_is); (case a14 => k_is); (case l14 => k_is); (case c14 => k_is); (case k14 => k_is); (case a15 => k_is); (case l15 => k_is)
    (case c15 => k_is); (case k15 => k_is); (case a16 => k_is); (case l16 => k_is); (case c16 => k_is); (case k16 => k_is); (case a17 => k_is); (case l17 => k_is)
    (case c17 => k_is); (case k17 => k_is); (case a18 => k_is); (case l18 => k_is); (case c18 => k_is); (case k18 => k_is); (case a19 => k_is); (case l19 => k_is)
    (case c19 => k_is); (case k19 => k_is); (case inService => k_is); (case inPattern => k_is); (case i20 => k_is); (case l20 => k_is); (case c20 => k_is); (case k20 => k_is)
    (case z20 => k_is); (case meService__getitem__ => k_is); (case mePattern__getitem__ => k_is); (case i21 => k_is); (case l21 => k_is); (case c21 => k_is); (case k21 => k_is); (case meServiceends_at => k_is)
    (case mePatternends_at => k_is); (case i22 => k_is); (case l22 => k_is); (case c22 => k_is); (case k22 => k_is); (case meService__bool__ => k_is); (case mePattern__bool__ => k_is); (case i23 => k_is)
    (case l23 => k_is); (case c23 => k_is); (case k23 => k_is); (case xL24 => k_is); (case sa24 => k_is); (case ga24 => k_is); (case hc24 => k_is); (case gg24 => k_is)
    (case nb240 => k_is); (case in24 => k_is); (case ti24 => k_is); (case l24 => k_is); (case c24 => k_is); (case k24 => k_is); (case ce24 => k_is); (case ta24 => k_is)
    (case vf24 => rfl); (case kC24 => k_is); (case eC24 => first | rfl | k_is); (case ve24 => first | rfl | k_is); (case tC24 => k_is); (case hD24 => k_is); (case iC24 => k_is); (case sC24 => first | rfl | k_is)
    (case al24 => ks_is); (case mr24 => k_is); (case mo24 => k_is); (case xL25 => k_is); (case sa25 => k_is); (case ga25 => k_is); (case hc25 => k_is); (case gg25 => k_is)
    (case nb250 => k_is); (case in25 => k_is); (case ti25 => k_is); (case l25 => k_is); (case c25 => k_is); (case k25 => k_is); (case ce25 => k_is); (case ta25 => k_is)
    (case vf25 => rfl); (case kC25 => k_is); (case eC25 => first | rfl | k_is); (case ve25 => first | rfl | k_is); (case tC25 => k_is); (case hD25 => k_is); (case iC25 => k_is); (case sC25 => first | rfl | k_is)
    (case al25 => ks_is); (case mr25 => k_is); (case mo25 => k_is); (case xL26 => k_is); (case sa26 => k_is); (case ga26 => k_is); (case hc26 => k_is); (case gg26 => k_is)
    (case nb260 => k_is); (case in26 => k_is); (case ti26 => k_is); (case l26 => k_is); (case c26 => k_is); (case k26 => k_is); (case ce26 => k_is); (case ta26 => k_is)
    (case vf26 => rfl); (case kC26 => k_is); (case eC26 => first | rfl | k_is); (case ve26 => first | rfl | k_is); (case tC26 => k_is); (case hD26 => k_is); (case iC26 => k_is); (case sC26 => first | rfl | k_is)
    (case al26 => ks_is); (case mr26 => k_is); (case mo26 => k_is); (case xMOST_STATES => k_is); (case xMOST_STEPS => k_is); (case xLONGEST_ASK => k_is); (case n_len => k_is); (case n_int => k_is)
    (case n_range => k_is); (case n_isinstance => k_is); (case n_bool => k_is); (case n_list => k_is); (case n_tuple => k_is); (case n_all => k_is); (case n_sorted => k_is); (case n_str => k_is)
    (case n_sum => k_is); (case n_super => k_is); (case n_ValueError => k_is); (case pgService => k_is); (case hdService => k_is); (case poService => k_is); (case saService => k_is); (case naService0 => k_is)
    (case naService1 => k_is); (case naService2 => k_is); (case naService3 => k_is); (case naService4 => k_is); (case naService5 => k_is); (case mkService => k_is); (case kcService => k_is); (case isServiceMachine => kit_is)
    (case pgPattern => k_is); (case hdPattern => k_is); (case poPattern => k_is); (case saPattern => k_is); (case naPattern0 => k_is); (case naPattern1 => k_is); (case naPattern2 => k_is); (case naPattern3 => k_is)
    (case naPattern4 => k_is); (case naPattern5 => k_is); (case mkPattern => k_is); (case kcPattern => k_is); (case isPatternMachine => kit_is); (case fgi => k_is); (case o1Service => k_is); (case o4Service => k_is)
    (case o1Pattern => k_is); (case o4Pattern => k_is); (case ktBadMachineAsksError => kit_is); (case ktBadMachineTooLarge => kit_is); (case ktBadMachineBadState => kit_is); (case ktBadMachineV => kit_is); (case xmBadMachineTooLarge => first | rfl | k_is); (case xmBadMachineBadState => first | rfl | k_is)
    (case ktTooLargeAsksError => kit_is); (case ktTooLargeBadMachine => kit_is); (case ktTooLargeBadState => kit_is); (case ktTooLargeV => kit_is); (case xmTooLargeBadMachine => first | rfl | k_is); (case xmTooLargeBadState => first | rfl | k_is); (case ktBadStateAsksError => kit_is); (case ktBadStateBadMachine => kit_is)
    (case ktBadStateTooLarge => kit_is); (case ktBadStateV => kit_is); (case xmBadStateBadMachine => first | rfl | k_is); (case xmBadStateTooLarge => first | rfl | k_is)
    (case SO => exact ⟨by decide +kernel, by decide +kernel⟩)
