import PyProof.Rows.All
import Wide.All
import OpenK.AllK
import Wide.FinOn
import HandS.ForMost
import HandS.Evl
import HandS.Deep
import HandS.DeepEq
import HandS.DictComp
import HandS.FStr
import HandS.SetKeys
import HandS.IsInst
import HandS.DictTup
import HandS.RaiseMore
import HandS.Defaults
import HandS.Wide
import HandS.Flow
import HandS.Style
import HandS.Conv
import KE.KxField
import PyProof.DictMoreH
import PyProof.Rows.SortShellAny
import HandS.Walk
import PyProof.DictRoadsH
import PyProof.EqKinds
import PyProof.TupleKey
import PyProof.FactsAll.NoneType
import PyProof.Conv_bool
import KE.KFromBytes
import HandS.OwnIter
import HandS.IterNext
import HandS.IterVal
import PyProof.CollectIter
import HandS.ExcOwn
import OpenK.KOps
import HandS.Star
import HandS.MakeKwOnly
import PySem.Challenge.RW_askshanded_k10_a_dealer_of_rows
set_option Elab.async false
set_option linter.all false
set_option maxRecDepth 100000
namespace AE
open PySem PySem.Spec PyProof.Rows L2 Evl

/-! ### heaps: what stays -/
def Tx (H H' : Hp) : Prop := ∀ a xs, H a = some (.tup xs) → H' a = some (.tup xs)
def Ch (l : Addr) (H H' : Hp) : Prop := ∀ a o, a ≠ l → H a = some o → H' a = some o
theorem Tx.refl (H : Hp) : Tx H H := fun _ _ h => h
theorem Tx.trans {H H1 H2 : Hp} (a : Tx H H1) (b : Tx H1 H2) : Tx H H2 := fun c o h => b c o (a c o h)
theorem tx_ex {H H' : Hp} (e : Ex H H') : Tx H H' := fun _ _ h => e _ _ h
theorem ch_upd {H : Hp} {l : Addr} {o : HO} : Ch l H (upd H l o) := fun a u ha h => by rw [upd_ne ha]; exact h
theorem tx_ch {H H' : Hp} {l : Addr} {xs : List V} (hl : H l = some (.lst xs)) (c : Ch l H H') : Tx H H' := fun a ys h =>
  c a _ (fun e => by subst e; rw [hl] at h; cases h) h
theorem ex_ch {H0 H H' : Hp} {l : Addr} (e : Ex H0 H) (hl : H0 l = none) (c : Ch l H H') : Ex H0 H' := fun a o h =>
  c a o (fun z => by subst z; rw [hl] at h; cases h) (e a o h)
theorem ex_upd {H0 H : Hp} {l : Addr} {o : HO} (e : Ex H0 H) (hl : H0 l = none) : Ex H0 (upd H l o) := ex_ch e hl ch_upd

/-! ### data -/
mutual
theorem dp_ex {K : PySem.W.Frag} {H H' : Hp} (e : Ex H H') : ∀ {v : V} {d : PyData}, Dp K H v d → Dp K H' v d
  | _, _, .non => .non
  | _, _, .bl b => .bl b
  | _, _, .int i => .int i
  | _, _, .str x => .str x
  | _, _, .lst h t => .lst (ex_l e h) (dpa_ex e t)
  | _, _, .tup h t => .tup (ex_t e h) (dpa_ex e t)
theorem dpa_ex {K : PySem.W.Frag} {H H' : Hp} (e : Ex H H') : ∀ {vs : List V} {ds : List PyData}, DpAll K H vs ds → DpAll K H' vs ds
  | _, _, .nil => .nil
  | _, _, .cons h t => .cons (dp_ex e h) (dpa_ex e t)
end
mutual
def flatD : PyData → Bool
  | .list _ => false
  | .dict _ => false
  | .tuple xs => flatDs xs
  | _ => true
def flatDs : List PyData → Bool
  | [] => true
  | x :: r => flatD x && flatDs r
end
theorem sqt_tx {K : PySem.W.Frag} {H H' : Hp} {a : Addr} {xs : List V} (e : Tx H H') (hf : ∀ o, H a ≠ some (.frz o (.tup xs))) (h : SqT K H a xs) : SqT K H' a xs := by
  rcases h with (h | ⟨o, h⟩) | h
  · exact .inl (.inl (e _ _ h))
  · exact absurd h (hf o)
  · exact .inr h
/-- a tuple of scalars, tracked -/
def TupAt (H : Hp) (v : V) (xs : List V) : Prop := ∃ a, v = .ref a ∧ H a = some (.tup xs)
theorem TupAt.tx {H H' : Hp} {v : V} {xs : List V} (e : Tx H H') (h : TupAt H v xs) : TupAt H' v xs := by
  obtain ⟨a, rfl, h⟩ := h
  exact ⟨a, rfl, e _ _ h⟩
/-- scalars as data -/
def scD : V → PyData
  | .int i => .int i
  | .str x => .str x
  | .bl b => .bool b
  | _ => .none
def isSc : V → Bool
  | .int _ => true
  | .str _ => true
  | .bl _ => true
  | .non => true
  | _ => false
theorem dp_sc {K : PySem.W.Frag} {H : Hp} : ∀ {v : V}, isSc v = true → Dp K H v (scD v)
  | .int i, _ => .int i
  | .str x, _ => .str x
  | .bl b, _ => .bl b
  | .non, _ => .non
theorem dpa_sc {K : PySem.W.Frag} {H : Hp} : ∀ {vs : List V}, vs.all isSc = true → DpAll K H vs (vs.map scD)
  | [], _ => .nil
  | v :: vs, h => by
    rw [List.all_cons, Bool.and_eq_true] at h
    exact .cons (dp_sc h.1) (dpa_sc h.2)
theorem TupAt.dp {K : PySem.W.Frag} {H : Hp} {v : V} {xs : List V} (h : TupAt H v xs) (s : xs.all isSc = true) : Dp K H v (.tuple (xs.map scD)) := by
  obtain ⟨a, rfl, h⟩ := h
  exact .tup (.inl (.inl h)) (dpa_sc s)
/-- a row of tuples of scalars -/
inductive Tups (H : Hp) : List V → List (List V) → Prop
  | nil : Tups H [] []
  | cons {v : V} {vs : List V} {x : List V} {xs : List (List V)} : TupAt H v x → Tups H vs xs → Tups H (v :: vs) (x :: xs)
theorem Tups.tx {H H' : Hp} (e : Tx H H') : ∀ {vs : List V} {xs : List (List V)}, Tups H vs xs → Tups H' vs xs
  | _, _, .nil => .nil
  | _, _, .cons h t => .cons (h.tx e) (t.tx e)
theorem Tups.len {H : Hp} : ∀ {vs : List V} {xs : List (List V)}, Tups H vs xs → vs.length = xs.length
  | _, _, .nil => rfl
  | _, _, .cons _ t => by rw [List.length_cons, List.length_cons, t.len]
theorem Tups.snoc {H : Hp} {v : V} {x : List V} (hv : TupAt H v x) : ∀ {vs : List V} {xs : List (List V)}, Tups H vs xs → Tups H (vs ++ [v]) (xs ++ [x])
  | _, _, .nil => .cons hv .nil
  | _, _, .cons h t => .cons h (t.snoc hv)
theorem Tups.app {H : Hp} : ∀ {vs ws : List V} {xs ys : List (List V)}, Tups H vs xs → Tups H ws ys → Tups H (vs ++ ws) (xs ++ ys)
  | _, _, _, _, .nil, t => t
  | _, _, _, _, .cons h r, t => .cons h (r.app t)
theorem Tups.get {H : Hp} : ∀ {vs : List V} {xs : List (List V)} {i : Nat} {v : V}, Tups H vs xs → vs[i]? = some v → ∃ x, xs[i]? = some x ∧ TupAt H v x
  | _, _, 0, _, .cons h _, e => by
    have e' := Option.some.inj e
    exact ⟨_, rfl, e' ▸ h⟩
  | _, _, i + 1, v, .cons _ t, e => by
    obtain ⟨x, h1, h2⟩ := Tups.get (i := i) (v := v) t (by simpa using e)
    exact ⟨x, by simpa using h1, h2⟩
theorem Tups.dp {K : PySem.W.Frag} {H : Hp} : ∀ {vs : List V} {xs : List (List V)}, Tups H vs xs → (∀ x ∈ xs, x.all isSc = true) → DpAll K H vs (xs.map fun x => .tuple (x.map scD))
  | _, _, .nil, _ => .nil
  | _, _, .cons h t, s => .cons (h.dp (s _ (List.mem_cons_self ..))) (t.dp fun x hx => s x (List.mem_cons_of_mem _ hx))

/-! ### readings, a step at a time -/
section
variable {K : PySem.W.Frag} {σ : L2.St} {H : Hp} {Q : VK} {D : Ends} {ta tb te tc : TE} {t u : TT} {x y v : V} {QB : Bool → Hp → Prop} {QA : List V → Hp → Prop} {ts tu tz : TS} {r r' : R2}
theorem r_var {i : Nat} (h : σ[i]? = some (some v)) (q : Q v H) : tVar i σ H Q := ⟨v, h, q⟩
theorem r_c (q : Q v H) : tC v σ H Q := q
theorem r_op (q : ta σ H fun x H1 => tb σ H1 fun y H2 => r x y H2 Q) : tOp r ta tb σ H Q := q
theorem r_un {f : V → Hp → VK → Prop} (q : ta σ H fun x H1 => f x H1 Q) : tUn f ta σ H Q := q
theorem r_I0 {g : Int → Int → V} {i j : Int} (q : Q (g i j) H) : rI0 g (.int i) (.int j) H Q := ⟨i, j, rfl, rfl, q⟩
theorem r_I {C : Int → Int → Prop} {g : Int → Int → V} {i j : Int} (c : C i j) (q : Q (g i j) H) : rI C g (.int i) (.int j) H Q := ⟨i, j, rfl, rfl, c, q⟩
theorem r_U {g : Int → V} {i : Int} (q : Q (g i) H) : rU g (.int i) H Q := ⟨i, rfl, q⟩
theorem r_eq (c : scal x y = true) (q : Q (.bl (decide (x = y))) H) : rEq x y H Q := ⟨c, q⟩
theorem r_ne (c : scal x y = true) (q : Q (.bl (!decide (x = y))) H) : rNe x y H Q := ⟨c, q⟩
theorem r_chain (q : ta σ H fun x H1 => tb σ H1 fun y H2 => r x y H2 fun z H3 => ∃ k, z = .bl k ∧ (if k = true then tc σ H3 fun w' H4 => r' y w' H4 Q else Q (.bl false) H3)) : tChain r r' ta tb tc σ H Q := q
theorem r_test (q : te σ H fun x H' => ∃ k, x = .bl k ∧ QB k H') : tTest te σ H QB := q
theorem r_tB (q : te σ H fun x H' => ∃ k, x = .bl k ∧ QB k H') : tB te σ H QB := q
theorem r_bl {b : Bool} {R : Bool → Prop} (q : R b) : ∃ k, V.bl b = .bl k ∧ R k := ⟨b, rfl, q⟩
theorem r_and (q : t σ H fun c H1 => if c = true then u σ H1 QB else QB false H1) : tAnd t u σ H QB := q
theorem r_or (q : t σ H fun c H1 => if c = true then QB true H1 else u σ H1 QB) : tOr t u σ H QB := q
theorem r_not (q : t σ H fun c H1 => QB (!c) H1) : tNot t σ H QB := q
theorem r_nil (q : QA [] H) : tNil σ H QA := q
theorem r_cons {tr : TA} (q : ta σ H fun x H1 => tr σ H1 fun xs H2 => QA (x :: xs) H2) : tCons ta tr σ H QA := q
theorem r_tup {tr : TA} (q : tr σ H fun xs H1 => xs.length ≤ sizeLine ∧ ∀ p, H1 p = none → Q (.ref p) (upd H1 p (.tup xs))) : tTup tr σ H Q := q
theorem r_lst {tr : TA} (q : tr σ H fun xs H1 => xs.length ≤ sizeLine ∧ ∀ p, H1 p = none → Q (.ref p) (upd H1 p (.lst xs))) : tLst tr σ H Q := q
theorem r_cb {f : List V → Hp → VK → Prop} {tr : TA} (q : tr σ H fun vs H1 => f vs H1 Q) : tCB f tr σ H Q := q
theorem r_call {sp : Sp} {dvs : List V} {E : XK} {tr : TA} (q : tr σ H fun vs H1 => sp (vs ++ dvs) H1 Q E) : tCall sp dvs E tr σ H Q := q
theorem r_seq (q : ts { D with nx := tz D } σ H) : tSeq ts tz D σ H := q
theorem r_set {i : Nat} (q : te σ H fun x H1 => D.nx (σ.set i (some x)) H1) : tAsg te (gName i) D σ H := q
theorem r_drop (q : te σ H fun _ H1 => D.nx σ H1) : tDrop te D σ H := q
theorem r_ret (q : te σ H D.rt) : tRet te D σ H := q
theorem r_next (q : D.nx σ H) : tNext D σ H := q
theorem r_if (q : t σ H fun b H1 => if b = true then ts D σ H1 else tu D σ H1) : tIfS t ts tu D σ H := q
theorem ite_t {b : Bool} {A B : Prop} (h : b = true) (q : A) : if b = true then A else B := by rw [if_pos h]; exact q
theorem ite_f {b : Bool} {A B : Prop} (h : b = false) (q : B) : if b = true then A else B := by rw [if_neg (by rw [h]; decide)]; exact q
theorem ite_b {b : Bool} {A B : Prop} (h1 : b = true → A) (h2 : b = false → B) : if b = true then A else B := by
  cases b with
  | true => rw [if_pos rfl]; exact h1 rfl
  | false => rw [if_neg (by decide)]; exact h2 rfl
end
end AE

set_option Elab.async false
set_option linter.all false
set_option maxRecDepth 100000
namespace AE
open PySem PySem.Spec PyProof.Rows L2 Evl
section
variable {X : Cx}
def rAddS0 : R2 := fun x y H Q => ∃ i j, x = .str i ∧ y = .str j ∧ i.length + j.length ≤ sizeLine ∧ Q (.str (i ++ j)) H
def rAddA (K : PySem.W.Frag) : R2 := fun x y H Q => rI0 (fun i j => .int (i + j)) x y H Q ∨ (rAddS0 x y H Q ∨ (rCat x y H Q ∨ rCatT K x y H Q))
theorem opAdd : OpR X (binaryOp .Add) (rAddA X.K) := OpR.or op_add (OpR.or op_add_str (OpR.or op_cat op_catT))
def cLen (K : PySem.W.Frag) : List V → Hp → VK → Prop := fun xs H Q => (∃ p ys, xs = [.ref p] ∧ (SqL K H p ys ∨ SqT K H p ys) ∧ Q (.int ys.length) H) ∨ (∃ z, xs = [.str z] ∧ z.length ≤ sizeLine ∧ Q (.int z.length) H)
theorem c_len : CallR X (.builtin "len") (cLen X.K) := CallR.or call_len_seq call_len_str
def cInt : List V → Hp → VK → Prop := fun xs H Q => (∃ i, xs = [.int i] ∧ Q (.int i) H) ∨ ∃ k, xs = [.bl k] ∧ Q (.int (if k then 1 else 0)) H
theorem c_int : CallR X (.type "int") cInt := call_int1
def cList (K : PySem.W.Frag) : List V → Hp → VK → Prop := fun xs H Q => ∃ p ys, xs = [.ref p] ∧ (SqL K H p ys ∨ SqT K H p ys) ∧ ∀ l, H l = none → Q (.ref l) (upd H l (.lst ys))
theorem c_list : CallR X (.type "list") (cList X.K) := call_list_of
def cTup (K : PySem.W.Frag) : List V → Hp → VK → Prop := fun xs H Q => ∃ p ys, xs = [.ref p] ∧ ((SqL K H p ys ∧ ∀ l, H l = none → Q (.ref l) (upd H l (.tup ys))) ∨ (SqT K H p ys ∧ Q (.ref p) H))
theorem c_tuple : CallR X (.type "tuple") (cTup X.K) := call_tuple_of
theorem c_isinstance : CallR X (.builtin "isinstance") (rIsi X.K) := call_isi
def rLe1 : R2 := rI0 fun i j => .bl (decide (i ≤ j))
end
section
variable {K : PySem.W.Frag} {σ : L2.St} {H : Hp} {Q : VK} {D : Ends} {ta tb te tc : TE} {t u : TT} {x y v : V} {ts tu tz : TS} {QB : Bool → Hp → Prop} {QA : List V → Hp → Prop}
theorem add_int {i j : Int} (q : Q (.int (i + j)) H) : rAddA K (.int i) (.int j) H Q := .inl ⟨i, j, rfl, rfl, q⟩
theorem add_str {i j : Str} (l : i.length + j.length ≤ sizeLine) (q : Q (.str (i ++ j)) H) : rAddA K (.str i) (.str j) H Q := .inr (.inl ⟨i, j, rfl, rfl, l, q⟩)
theorem add_lst {a b : Addr} {xs ys : List V} (ha : H a = some (.lst xs)) (hb : H b = some (.lst ys)) (l : xs.length + ys.length ≤ sizeLine) (q : ∀ p, H p = none → Q (.ref p) (upd H p (.lst (xs ++ ys)))) : rAddA K (.ref a) (.ref b) H Q :=
  .inr (.inr (.inl ⟨a, b, xs, ys, rfl, rfl, ha, hb, l, q⟩))
theorem len_l {p : Addr} {ys : List V} (h : SqL K H p ys) (q : Q (.int ys.length) H) : cLen K [.ref p] H Q := .inl ⟨p, ys, rfl, .inl h, q⟩
theorem len_t {p : Addr} {ys : List V} (h : SqT K H p ys) (q : Q (.int ys.length) H) : cLen K [.ref p] H Q := .inl ⟨p, ys, rfl, .inr h, q⟩
theorem len_s {z : Str} (h : z.length ≤ sizeLine) (q : Q (.int z.length) H) : cLen K [.str z] H Q := .inr ⟨z, rfl, h, q⟩
theorem int_i {i : Int} (q : Q (.int i) H) : cInt [.int i] H Q := .inl ⟨i, rfl, q⟩
theorem ix_l {p : Addr} {xs : List V} {i : Int} (h : SqL K H p xs) (e : atI xs i = some v) (q : Q v H) : rIx K (.ref p) (.int i) H Q := .inl ⟨p, xs, i, v, rfl, rfl, h, e, q⟩
theorem ix_t {p : Addr} {xs : List V} {i : Int} (h : SqT K H p xs) (e : atI xs i = some v) (q : Q v H) : rIx K (.ref p) (.int i) H Q := .inr (.inl ⟨p, xs, i, v, rfl, rfl, h, e, q⟩)
theorem ix_s {z : Str} {i : Int} {c : Nat} (l : z.length ≤ sizeLine) (e : atI z.cps.toList i = some c) (q : Q (.str ⟨#[c]⟩) H) : rIx K (.str z) (.int i) H Q := .inr (.inr ⟨z, i, c, rfl, rfl, l, e, q⟩)
theorem sl_l {p : Addr} {xs : List V} {lo hi : Option Int} (h : SqL K H p xs) (q : ∀ l, H l = none → Q (.ref l) (upd H l (.lst (cutV xs lo hi)))) : rSlL K (.ref p) lo hi H Q := ⟨p, xs, rfl, h, q⟩
theorem sl_s {z : Str} {lo hi : Option Int} (h : z.length ≤ sizeLine) (q : Q (.str (cutS z lo hi)) H) : rSlS (.str z) lo hi H Q := ⟨z, rfl, h, q⟩
theorem r_sl {r : V → Option Int → Option Int → Hp → VK → Prop} {tl th : TO} (q : te σ H fun x H1 => tl σ H1 fun l H2 => th σ H2 fun u H3 => r x l u H3 Q) : tSl r te tl th σ H Q := q
theorem r_nop {QO : Option Int → Hp → Prop} (q : QO none H) : tNoPart σ H QO := q
theorem r_prt {QO : Option Int → Hp → Prop} (q : te σ H fun x H1 => ∃ i, x = .int i ∧ QO (some i) H1) : tPart te σ H QO := q
theorem r_some {R : Int → Prop} {i : Int} (q : R i) : ∃ j, V.int i = .int j ∧ R j := ⟨i, rfl, q⟩
theorem r_app {i : Nat} {l : Addr} {xs : List V} (h0 : σ[i]? = some (some (.ref l))) (h : H l = some (.lst xs)) (q : te σ H fun y H2 => rAppend (.ref l) [y] H2 Q) : tBM K "list" rAppend (tVar i) (tCons te tNil) σ H Q :=
  ⟨_, h0, .inl ⟨rfl, _, .inl (.inl h)⟩, q⟩
theorem app_l {l : Addr} {xs : List V} (h : H l = some (.lst xs)) (z : xs.length < sizeLine) (q : Q .non (upd H l (.lst (xs ++ [y])))) : rAppend (.ref l) [y] H Q := ⟨l, xs, y, rfl, rfl, h, z, q⟩
/-! loops -/
def LR1 (i : Nat) (tb : TS) (D : Ends) (σ : L2.St) : List V → Hp → Prop := fun vs H1 => ∃ j : Int, vs = [.int j] ∧ -(2 ^ 62) ≤ j ∧ j < 2 ^ 62 ∧
  ∃ W : Nat → Nat → L2.St → Hp → Prop, (∃ m, W 0 m σ H1) ∧ ∀ i' m σ H, W i' m σ H → ((Itr 0 j.toNat).stop i' H ∧ D.nx σ H) ∨ ((Itr 0 j.toNat).go i' H ∧ ∃ N : L2.St → Hp → Prop, (∀ σ' H', N σ' H' → ∃ m', m' < m ∧ W (i' + 1) m' σ' H') ∧
    ∀ x H', (Itr 0 j.toNat).yld i' H x H' → gName i x σ H' fun σ2 H2 => tb { D with nx := N, ct := N, bk := D.nx } σ2 H2)
theorem r_forR1 {ta : TA} {i : Nat} (q : ta σ H (LR1 i tz D σ)) : tFor (iRng1 ta) (gName i) tz D σ H := q
theorem lr1_go {i : Nat} {n : Int} (Pv : Nat → L2.St → Hp → Prop) (h0 : Pv 0 σ H) (hn : 0 ≤ n ∧ n ≤ 100000000)
    (hs : ∀ (k : Nat) σ' H', (k : Int) < n → Pv k σ' H' → tz { D with nx := Pv (k + 1), ct := Pv (k + 1), bk := D.nx } (σ'.set i (some (.int (k : Int)))) H')
    (hd : ∀ σ' H', Pv n.toNat σ' H' → D.nx σ' H') : LR1 i tz D σ [.int n] H :=
  ⟨n, rfl, by omega, by omega, for_range (lo := 0) (n := n.toNat) Pv h0 (fun k σ' H' hk p => by
    have q := hs k σ' H' (by omega) p
    show gName i (.int (0 + (k : Int))) σ' H' _
    rw [Int.zero_add]
    exact q) hd⟩
def LL (K : PySem.W.Frag) (g : TG) (tb : TS) (D : Ends) (σ : L2.St) : V → Hp → Prop := fun x H1 => ∃ a, x = .ref a ∧ (∃ xs, SqL K H1 a xs) ∧
  ∃ W : Nat → Nat → L2.St → Hp → Prop, (∃ m, W 0 m σ H1) ∧ ∀ i m σ H, W i m σ H → ((Itl K a).stop i H ∧ D.nx σ H) ∨ ((Itl K a).go i H ∧ ∃ N : L2.St → Hp → Prop, (∀ σ' H', N σ' H' → ∃ m', m' < m ∧ W (i + 1) m' σ' H') ∧
    ∀ x H', (Itl K a).yld i H x H' → g x σ H' fun σ2 H2 => tb { D with nx := N, ct := N, bk := D.nx } σ2 H2)
theorem r_forL {g : TG} (q : te σ H (LL K g tz D σ)) : tFor (iList K te) g tz D σ H := q
theorem ll_go {g : TG} {a : Addr} {xs : List V} (hx : SqL K H a xs) (Pv : Nat → L2.St → Hp → Prop) (h0 : Pv 0 σ H) (hl : ∀ i σ' H', i ≤ xs.length → Pv i σ' H' → SqL K H' a xs)
    (hs : ∀ i x σ' H', xs[i]? = some x → Pv i σ' H' → g x σ' H' fun σ2 H2 => tz { D with nx := Pv (i + 1), ct := Pv (i + 1), bk := D.nx } σ2 H2)
    (hd : ∀ σ' H', Pv xs.length σ' H' → D.nx σ' H') : LL K g tz D σ (.ref a) H :=
  ⟨a, rfl, ⟨xs, hx⟩, for_list Pv h0 hl hs hd⟩
end
end AE

set_option Elab.async false
set_option linter.all false
set_option maxRecDepth 100000
namespace AE
open PySem PySem.Spec PyProof.Rows L2 Evl
open PySem.W
open Builtin
/-- a number below 1000 as three signs -/
def p3 (a : Int) : Str := ⟨#[48 + (a / 100).toNat, 48 + (a / 10 % 10).toNat, 48 + (a % 10).toNat]⟩
set_option maxHeartbeats 4000000 in
theorem run03 (n : Fin 200) {t : Tok} : ∀ u, Meets («int.__format__» ⟨[.int (n.val : Int) t, .str "03d" u], []⟩) (fun _ R s => ∀ t' k, R (.ok (.ret (.str (p3 (n.val : Int)) t'))) { s with toks := k }) := by
  intro u
  apply KPc.meets_of
  intro _ _ _ _ _ _ hq
  unfold Builtin.«int.__format__»
  refine wpAny_bind (wpAny_of_eq (a := (_, _)) rfl ?_)
  refine wpAny_bind (wpAny_of_eq (a := _) rfl ?_)
  kxf_if
  refine wpAny_bind (wpAny_typeNameOf (T := "str") (typeIs_str _ _ _) (by decide) fun _ => ?_)
  refine wpAny_bind (wpAny_of_eq (a := some _) rfl ?_)
  kxf_if
  kxf_if
  refine wpAny_bind (wpAny_typeNameOfCut_int ?_)
  (repeat kxf_if)
  have hd : ((n.val : Int)).natAbs.log2 < 1920 := by
    have h2 : (n.val : Int).natAbs < 2 ^ 1920 := Nat.lt_of_lt_of_le (show (n.val : Int).natAbs < 1024 by have := n.isLt; omega) (by decide +kernel)
    by_cases hz : (n.val : Int).natAbs = 0
    · rw [hz]; decide
    · exact (Nat.log2_lt hz).mpr h2
  refine wpAny_bind (wpAny_of_eq (PySem.overDigitLimit_small hd) ?_)
  (repeat kxf_if)
  refine KXf.ret_text (T := p3 (n.val : Int)) ?_ ?_ hq
  · clear hq hd
    revert n
    decide +kernel
  · clear hq hd
    revert n
    decide +kernel
theorem fmt03 {prog : Program} {w : World} {A : Around} {E : Value → Shared → Prop} {s : Shared} {a : Int} {t : Tok} {Q : Value → Shared → Prop} (h0 : 0 ≤ a) (h1 : a < 200) (h : ∀ t' k, Q (.str (p3 a) t') { s with toks := k }) :
    wpAny (model prog w) A (formatField (.int a t) "03d") Q E s := by
  have e : a = (((⟨a.toNat, by omega⟩ : Fin 200).val : Nat) : Int) := by show a = (a.toNat : Int); omega
  rw [e]
  rw [e] at h
  exact KXf.field_int rfl (by decide +kernel) (by decide +kernel) (run03 _) h
end AE

set_option Elab.async false
set_option linter.all false
set_option maxRecDepth 100000
namespace AE
open PySem PySem.Spec PyProof.Rows L2 Evl
open PySem.W
open Builtin
/-- a text filled up with blanks to eight signs -/
def pad8 (x : Str) : Str := ⟨x.cps ++ Array.replicate (8 - x.length) 32⟩
set_option maxHeartbeats 4000000 in
theorem runl8 (x : Str) {t : Tok} (hx : x.length ≤ 8) : ∀ u, Meets («str.__format__» ⟨[.str x t, .str "<8" u], []⟩) (fun _ R s => ∀ t' k, R (.ok (.ret (.str (pad8 x) t'))) { s with toks := k }) := by
  intro u
  apply KPc.meets_of
  intro _ _ _ _ _ _ hq
  unfold Builtin.«str.__format__»
  refine wpAny_bind (wpAny_of_eq (a := (_, _, _)) rfl ?_)
  refine wpAny_bind (wpAny_of_eq (a := some _) rfl ?_)
  kxf_if
  kxf_if
  refine wpAny_bind (KXf.cut_str ?_)
  have hp : Float.parseFormatSpec (PySem.Str.ofString "<8").cps.toList "str" 60 = .ok { fill := 32, align := 60, width := some 8 } := by with_unfolding_all rfl
  have hs : Str.strField x { fill := 32, align := 60, width := some 8 } "str" = .ok (if 8 ≤ x.length then none else some (Str.padded (Str.strSub x 0 x.length) 0 (8 - (Str.strSub x 0 x.length).length) 32)) := by
    unfold Str.strField
    by_cases h : 8 ≤ x.length
    · simp [h]
      rfl
    · simp [h]
      rfl
  rw [hp]
  have hb : (PySem.Str.ofString "<8").cps.back? = some 56 := by decide +kernel
  have ht : Str.tooLong 8 = false := by decide +kernel
  simp only [bind, Except.bind, pure, Except.pure, hb, Option.isNone_none, Option.getD_some, ht, hs]
  simp only [show (true && (some 56 == some (0 : Nat))) = false by decide, Bool.false_eq_true, if_false, Option.getD_some, ht, hs]
  have hxl : (Str.strSub x 0 x.length) = x := by
    show (⟨x.cps.extract 0 x.cps.size⟩ : Str) = x
    rw [Array.extract_size]
  by_cases h : 8 ≤ x.length
  · rw [if_pos h]
    have e : x = pad8 x := by
      show x = ⟨x.cps ++ Array.replicate (8 - x.length) 32⟩
      rw [Nat.sub_eq_zero_of_le h]
      show x = ⟨x.cps ++ #[]⟩
      rw [Array.append_empty]
    exact wpAny_bind (wpAny_rule (KXf.ret_same e hq))
  · rw [if_neg h, hxl]
    refine KXf.ret_text ?_ ?_ hq
    · show (⟨Array.replicate 0 32 ++ x.cps ++ Array.replicate (8 - x.length) 32⟩ : Str) = ⟨x.cps ++ Array.replicate (8 - x.length) 32⟩
      rw [show (Array.replicate 0 32 : Array Nat) = #[] from rfl, Array.empty_append]
    · show (Array.replicate 0 32 ++ x.cps ++ Array.replicate (8 - x.length) 32).size ≤ sizeLine
      rw [Array.size_append, Array.size_append, Array.size_replicate, Array.size_replicate]
      have h2 : x.cps.size ≤ 8 := hx
      exact sz_of (by omega)
theorem fmtl8 {prog : Program} {w : World} {A : Around} {E : Value → Shared → Prop} {s : Shared} {x : Str} {t : Tok} {Q : Value → Shared → Prop} (hx : x.length ≤ 8) (h : ∀ t' k, Q (.str (pad8 x) t') { s with toks := k }) :
    wpAny (model prog w) A (formatField (.str x t) "<8") Q E s :=
  KXf.field_str rfl rfl (by decide +kernel) (by decide +kernel) (runl8 x hx) h
/-! the f-string's parts -/
section
variable {X : Cx}
def tF03 (te : TE) : TE := fun σ H Q => te σ H fun x H1 => ∃ i : Int, x = .int i ∧ 0 ≤ i ∧ i < 200 ∧ Q (.str (p3 i)) H1
def tFl8 (te : TE) : TE := fun σ H Q => te σ H fun x H1 => ∃ y : Str, x = .str y ∧ y.length ≤ 8 ∧ Q (.str (pad8 y)) H1
theorem pe_fmtS_03d {e : Expr} {te : TE} {pos p2 p3' : Pos} {j : Nat} (he : PE X e te) : PE X (.FormattedValue e (-1) (some (.JoinedStr [.Constant (.str "03d") j p2] p3')) pos) (tF03 te) := by
  refine ⟨fun pins s σ H Q I h => wpAny_FormattedValue_spec (thn (he.run pins s σ H _ I h) fun v s1 hv => ?_)⟩
  obtain ⟨x, H1, I1, r1, i, rfl, h0, h1, q⟩ := hv
  obtain ⟨t, rfl⟩ := r1
  refine wpAny_JoinedStr_one (Calls.Constant_str ⟨_, _, rfl, fmt03 h0 h1 fun t' k => ⟨.str (p3 i), H1, I1.tok _, ⟨_, rfl⟩, q⟩⟩)
theorem pe_fmtS_l8 {e : Expr} {te : TE} {pos p2 p3' : Pos} {j : Nat} (he : PE X e te) : PE X (.FormattedValue e (-1) (some (.JoinedStr [.Constant (.str "<8") j p2] p3')) pos) (tFl8 te) := by
  refine ⟨fun pins s σ H Q I h => wpAny_FormattedValue_spec (thn (he.run pins s σ H _ I h) fun v s1 hv => ?_)⟩
  obtain ⟨x, H1, I1, r1, y, rfl, h0, q⟩ := hv
  obtain ⟨t, rfl⟩ := r1
  refine wpAny_JoinedStr_one (Calls.Constant_str ⟨_, _, rfl, fmtl8 h0 fun t' k => ⟨.str (pad8 y), H1, I1.tok _, ⟨_, rfl⟩, q⟩⟩)
end
end AE

set_option Elab.async false
set_option linter.all false
set_option maxRecDepth 100000
set_option maxHeartbeats 2000000
namespace AE
open PySem PySem.Spec PyProof.Rows L2 Evl
section
variable {X : Cx} {pins : List (Addr × Obj)} {σ : L2.St} {H : Hp} {s : Shared}
/-- a store into a dict with tuple keys, as a comprehension makes it -/
theorem put_t {D b : Addr} {kvs : List (List Key × V)} {ks : List Key} {v : V} {r : Value} {Q : Unit → Shared → Prop} {Er : Value → Shared → Prop} {A : Around} (hu : A.units < cLine) (I : Inv X pins σ H s) (hD : H D = some (.dT kvs)) (hb : H b = some (.tup (ks.map kV))) (hl : kvs.length < sizeLine)
    (rv : RelV v r) (h : ∀ s1, Inv X pins σ (upd H D (.dT (putK kvs ks v))) s1 → Q () s1) : wpAny (model X.prog X.w) A (dictSet D (.ref b) r) Q Er s := by
  obtain ⟨_, hd, xs, rel, dd⟩ := dt_of I.hok hD
  have hx : xs.length ≤ sizeLine := by
    have e := Paired.length rel
    omega
  have hz : (putK kvs ks v).length ≤ sizeLine := Nat.le_trans (length_putK kvs ks v) (by omega)
  refine wpAny_dictSet_heap (knd := tupleKind (mixKind X.prog X.w)) (hsz := hx) hu (key_of I.hok hb) dd fun h1 dd1 hs => h _ ?_
  obtain ⟨q, es, ep, hq, k2, k3, k4, _, k5⟩ := dd1
  exact d_write I (by rw [hD]; trivial) hs ⟨q, hq⟩ ⟨hz, hd, _, (rel.put ks hb rv).keeps fun c ys ec => by rw [upd_ne (ne_of ec hD (by intro z; cases z))]; exact ec, q, es, ep, hq, k2, k3, k4, k5⟩
/-- the stores of a comprehension whose keys are tuples -/
def sT (D : Addr) : V → V → Hp → (Hp → Prop) → Prop := fun y z H R => ∃ (kvs : List (List Key × V)) (ks : List Key) (b : Addr), y = .ref b ∧ H b = some (.tup (ks.map kV)) ∧ H D = some (.dT kvs) ∧ kvs.length < sizeLine ∧ R (upd H D (.dT (putK kvs ks z)))
def tDcT (wi : TI) (g : TG) (tt : TT) (tk tv : TE) (vs : List Nat) : TE := fun σ H Q => wi σ H fun J Ha => ∀ D, Ha D = none → ∃ W : Nat → Nat → Hp → Prop, (∃ m, W 0 m (upd Ha D (.dT []))) ∧ ∀ i m Hb, W i m Hb →
  (J.stop i Hb ∧ Q (.ref D) Hb) ∨ (J.go i Hb ∧ ∃ Nx : Hp → Prop, (∀ Hc, Nx Hc → ∃ m1, m1 < m ∧ W (i + 1) m1 Hc) ∧ ∀ x Hc, J.yld i Hb x Hc → g x (wipe σ vs) Hc fun σa Hd => wipe σa vs = wipe σ vs ∧ tt σa Hd fun b He =>
    if b = true then tk σa He fun y Hf => tv σa Hf fun z Hg => sT D y z Hg Nx else Nx He)
theorem pe_dcT {kx vx tg iter : Expr} {ifs : List Expr} {scope : Scope} {own : List (Str × Nat)} {pos : Pos} {wi : TI} {g : TG} {tt : TT} {tk tv : TE} (hu : X.A.units < cLine) (hc : X.calm = true) (hN : X.N.Nodup) (hi : PI X tg iter wi) (ok : BlkOk X.N X.env.scope scope own)
    (hg : ∀ s0 H0 C cl fp, PG (X.blk s0 H0 scope (compEnvC scope cl C X.env) fp) tg g) (ht : ∀ s0 H0 C cl fp, PTs (X.blk s0 H0 scope (compEnvC scope cl C X.env) fp) ifs tt)
    (hk : ∀ s0 H0 C cl fp, PE (X.blk s0 H0 scope (compEnvC scope cl C X.env) fp) kx tk) (he : ∀ s0 H0 C cl fp, PE (X.blk s0 H0 scope (compEnvC scope cl C X.env) fp) vx tv)
    (hs : ∀ x, foldedSetIterable iter X.env x = pure x := by intro _; rfl) : PE X (.DictComp kx vx [⟨tg, iter, ifs, 0⟩] scope pos) (tDcT wi g tt tk tv (own.map (·.2))) := by
  refine ⟨fun pins s σ H Q I h => ?_⟩
  rw [arm_eval_DictComp]
  have free : ∀ y ∈ scope.names, y.2 = .free → ∃ c, X.env.cells.lookup y.1 = some c := fun y hy e => by
    rcases ok.free y hy e with z | z
    · exact I.ok.has _ (.inl z)
    · exact I.ok.has _ (.inr z)
  refine wpAny_comprehension_free (use := none) rfl hs (closure_ok free) ok.kind (fun y hy e => by rw [ok.uniq y hy, e]) (thn (hi.run pins s σ H _ I h) fun xv sa hx => thn hx fun itv sb hb => ?_)
  obtain ⟨it, fp, tn, J, Hb, e, Ib, T, stb, fb, q⟩ := hb
  subst e
  refine wpAny_newObj_type (newEnv_comp ?_)
  generalize hDe : sb.heap.objs.size = D
  obtain ⟨W, ⟨m0, w0⟩, turn⟩ := q D (Ib.hok.fresh (Nat.le_of_eq hDe))
  generalize hsc : ({ sb with heap := sb.heap.push { cls := .type "dict", data := .dict #[] } } : Shared) = sc
  have hsc' : sc.heap = sb.heap.push { cls := .type "dict", data := .dict #[] } := by rw [← hsc]
  have Ic : Inv X pins σ (upd Hb D (.dT [])) sc := by
    rw [← hsc]
    refine Ib.laid (t' := sb.toks) (fun _ _ e => Heap.get?_push_of_some _ e) (Nat.le_of_eq hDe) ?_
    rw [← hDe]
    exact dt_empty sb.heap Ib.big
  have old : ∀ b ∈ fp, b < sb.heap.objs.size := fun b hb => by
    obtain ⟨_, z, _⟩ := T.obj _ _ stb b hb
    exact Heap.lt_size z
  have fc : ∀ b ∈ fp, FpOk X pins (upd Hb D (.dT [])) b ∧ b < sc.heap.objs.size := fun b hb => by
    have z := old b hb
    refine ⟨⟨by rw [upd_ne (by rw [← hDe]; exact Nat.ne_of_lt z)]; exact (fb b hb).1, (fb b hb).2⟩, ?_⟩
    rw [hsc', Heap.size_push]
    exact Nat.lt_succ_of_lt z
  have stc : tn 0 sc.heap := T.keep _ _ _ stb fun b _ o e => by rw [hsc']; exact Heap.get?_push_of_some _ e
  have Id := block_start Ic ok hN fc
  have pg := hg sc (upd Hb D (.dT [])) sc.heap.objs.size (cellsFrom (sc.heap.objs.size + 1) scope.names (cloFrom X.env.cells scope.names [])) fp
  have pt := ht sc (upd Hb D (.dT [])) sc.heap.objs.size (cellsFrom (sc.heap.objs.size + 1) scope.names (cloFrom X.env.cells scope.names [])) fp
  have pk := hk sc (upd Hb D (.dT [])) sc.heap.objs.size (cellsFrom (sc.heap.objs.size + 1) scope.names (cloFrom X.env.cells scope.names [])) fp
  have pv := he sc (upd Hb D (.dT [])) sc.heap.objs.size (cellsFrom (sc.heap.objs.size + 1) scope.names (cloFrom X.env.cells scope.names [])) fp
  show codeAny _ _ (.compStart (.DictComp kx vx [⟨tg, iter, ifs, 0⟩] scope pos) 0 (.ref it) (.ref D) (compEnvC scope (cellsFrom (sc.heap.objs.size + 1) scope.names (cloFrom X.env.cells scope.names [])) sc.heap.objs.size X.env)) _ { sc with heap := pushCells (sc.heap.push { cls := .type "dict", data := .dict #[] }) scope.names }
  have nfp : ∀ b ∈ fp, (upd Hb D (.dT [])) b = none := fun b hb => (fc b hb).1.1
  generalize hce : compEnvC scope (cellsFrom (sc.heap.objs.size + 1) scope.names (cloFrom X.env.cells scope.names [])) sc.heap.objs.size X.env = ce at Id pg pt pk pv ⊢
  have cL : ce.locals = sc.heap.objs.size := by subst hce; rfl
  generalize hHc : upd Hb D (.dT []) = Hc at Ic Id pg pt pk pv w0 nfp fc
  generalize hsd : ({ sc with heap := pushCells (sc.heap.push { cls := .type "dict", data := .dict #[] }) scope.names } : Shared) = sd at Id ⊢
  have std : tn 0 sd.heap := T.keep _ _ _ stc fun b _ o e => by rw [← hsd]; exact pushCells_keeps _ _ _ _ (Heap.get?_push_of_some _ e)
  have stat : ∀ {σ1 : L2.St} {H1 : Hp} {s1 : Shared}, Inv (X.blk sc Hc scope ce fp) [] σ1 H1 s1 → (∀ b ∈ fp, H1 b = none) → ∀ b ∈ fp, FpOk (X.blk sc Hc scope ce fp) [] H1 b := fun {σ1 H1 s1} J1 nn b hb =>
    ⟨nn b hb, (J1.ok.exf b hb).1, J1.ok.exfs b hb, .inl hb, fun x c e => (J1.ok.exf b hb).2 x c e, fun p hp => absurd (show p ∈ ([] : List (Addr × Obj)) ++ [] from hp) (by simp)⟩
  refine codeAny_compStart_dict ?_ (T.self X.A 0 _ _ _ std ?_)
  all_goals
    refine compLoop_anyD (fun n s1 => ∃ i H1, Inv (X.blk sc Hc scope ce fp) [] (wipe σ (own.map (·.2))) H1 s1 ∧ tn i s1.heap ∧ (∀ b ∈ fp, H1 b = none) ∧ W i n H1) ?_ m0 ⟨0, Hc, Id, std, nfp, w0⟩
    rintro n s5 ⟨i, H5, I5, st5, n5, w5⟩
    rcases turn i n H5 w5 with ⟨stop, fine⟩ | ⟨go, Nx, less, step⟩
    · refine thnF (T.done (X.blk sc Hc scope ce fp) rfl rfl rfl hc i [] s5 _ H5 (fun _ _ => False) I5 (stat I5 n5) st5 stop) fun r s6 ⟨hr, I6⟩ => ?_
      subst hr
      have I7 : Inv X pins σ H5 s6 := Ic.call' (ch := fp) I6.os I6.base I6.hok I6.bare fun b hb => ⟨(fc b hb).1.2.2.2.1, (fc b hb).1.2.1, (fc b hb).1.2.2.2.2.1, (fc b hb).1.2.2.2.2.2⟩
      have nC : H5 sc.heap.objs.size = none := by
        rw [← cL]
        exact I6.free
      obtain ⟨mm, hmm, _⟩ := I6.loc
      have hm2 : s6.heap.Ns ce.locals mm := hmm
      rw [cL] at hm2
      refine ⟨mm, hm2, fun h2 sb2 => ?_⟩
      obtain ⟨f0, f1, _, f3, f4, f5⟩ := Ic.fpOk (Nat.le_refl _) nC
      exact ⟨.ref D, H5, I7.turned (t' := s6.toks) (fun b o hb e => (sb2.2 b hb).trans e) f0 f1 f3 f4 f5, rfl, fine⟩
    · refine thnF (T.item (X.blk sc Hc scope ce fp) rfl rfl rfl hc i [] s5 _ H5 (fun _ _ => False) I5 (stat I5 n5) st5 go) fun r s6 ⟨u, hr, more⟩ => ?_
      subst hr
      refine thnF more fun _ s7 ⟨x, H7, I7, rx, yx, st7, n7⟩ => ?_
      refine thnF (pg.run _ s7 _ H7 x u _ (I7.pinned (stat I7 n7) (T.obj _ _ st7)) rx (step x H7 yx)) fun _ s8 ⟨σ8, H8, I8, hw, q8⟩ => ?_
      have back : ∀ {s1 : Shared} {H1 : Hp}, Inv (X.blk sc Hc scope ce fp) ([] ++ pinsAt fp s7.heap) σ8 H1 s1 → Nx H1 → ∃ m, m < n ∧ ∃ i H1, Inv (X.blk sc Hc scope ce fp) [] (wipe σ (own.map (·.2))) H1 s1 ∧ tn i s1.heap ∧ (∀ b ∈ fp, H1 b = none) ∧ W i m H1 := fun {s1 H1} J1 nx => by
        obtain ⟨m1, l1, w1⟩ := less H1 nx
        have keep : ∀ b ∈ fp, ∀ o, s7.heap.get? b = some o → s1.heap.get? b = some o ∧ H1 b = none := fun b hb o e => by
          have z := J1.pin (b, o) (List.mem_append_right _ (List.mem_append_right _ (mem_pinsAt hb e)))
          exact ⟨z.1, z.2.1⟩
        refine ⟨m1, l1, i + 1, H1, (J1.unpinned (pins := [])).weak (by rw [← hw, wipe_length]) (fun j v e => ?_), T.keep _ _ _ st7 fun b hb o e => (keep b hb o e).1, fun b hb => ?_, w1⟩
        · rw [← hw] at e
          exact (wipe_some e).1
        · obtain ⟨o, e, _⟩ := T.obj _ _ st7 b hb
          exact (keep b hb o e).2
      refine thnF (pt.run _ s8 σ8 H8 _ I8 q8) fun b s9 ⟨H9, I9, q9⟩ => ?_
      cases b
      · simp only [Bool.false_eq_true, if_false] at q9 ⊢
        exact back I9 q9
      · simp only [if_true] at q9 ⊢
        refine thnF (pk.run _ s9 σ8 H9 _ I9 q9) fun z s10 ⟨yk, H10, I10, rk, q10⟩ => ?_
        refine thnF (pv.run _ s10 σ8 H10 _ I10 q10) fun z2 s11 ⟨yv, H11, I11, rz, kvs, ks, kb, ek, eb, eD, l11, nx⟩ => ?_
        subst ek
        cases rk
        exact put_t (X := X.blk sc Hc scope ce fp) hu I11 eD eb l11 rz fun s12 I12 => back I12 nx
end
end AE

set_option Elab.async false
set_option linter.all false
set_option maxRecDepth 100000
set_option maxHeartbeats 2000000
namespace AE
open PySem PySem.Spec PyProof.Rows L2 Evl
section
variable {X : Cx} {pins : List (Addr × Obj)} {σ : L2.St} {H : Hp} {s : Shared}
theorem setd_t {D b : Addr} {kvs : List (List Key × V)} {ks : List Key} {v : V} {r : Value} {Q : Value → Shared → Prop} {Er : Value → Shared → Prop} {A : Around} (hu : A.units + 1 < cLine) (I : Inv X pins σ H s) (hD : H D = some (.dT kvs)) (hb : H b = some (.tup (ks.map kV))) (hl : kvs.length < sizeLine)
    (rv : RelV v r) (h1 : ∀ x, valV kvs ks = some x → ∀ w1 s1, Inv X pins σ H s1 → RelV x w1 → Q w1 s1) (h2 : valV kvs ks = none → ∀ s1, Inv X pins σ (upd H D (.dT (putK kvs ks v))) s1 → Q r s1) :
    wpAny (model X.prog X.w) A (call (.builtin "dict.setdefault") [.ref D, .ref b, r]) Q Er s := by
  obtain ⟨_, hd, xs, rel, dd⟩ := dt_of I.hok hD
  have hx : xs.length ≤ sizeLine := by
    have e := Paired.length rel
    omega
  have hz : (putK kvs ks v).length ≤ sizeLine := Nat.le_trans (length_putK kvs ks v) (by omega)
  refine call_setdefault_heap (knd := tupleKind (mixKind X.prog X.w)) (hsz := hx) (tupleKind_room_in1 hu) (key_of I.hok hb) hd dd (fun p hp => ?_) fun hn h' dd1 hs => ?_
  · have q := rel.val ks
    rw [hp] at q
    cases q0 : valV kvs ks with
    | none => rw [q0] at q; exact q.elim
    | some x => rw [q0] at q; exact h1 x q0 _ _ (I.tok _) q
  · have q := rel.val ks
    rw [hn] at q
    cases q0 : valV kvs ks with
    | some x => rw [q0] at q; exact q.elim
    | none =>
      refine h2 q0 _ ?_
      obtain ⟨q, es, ep, hq, k2, k3, k4, _, k5⟩ := dd1
      exact d_write I (by rw [hD]; trivial) hs ⟨q, hq⟩ ⟨hz, hd, _, (rel.put ks hb rv).keeps fun c ys ec => by rw [upd_ne (ne_of ec hD (by intro z; cases z))]; exact ec, q, es, ep, hq, k2, k3, k4, k5⟩
end
def tSetdT (td ty tx : TE) : TE := fun σ H Q => td σ H fun x Ha => ∃ a, x = .ref a ∧ IsD Ha a ∧ ty σ Ha fun y Hb => tx σ Hb fun z Hc => ∃ (kvs : List (List Key × V)) (k : List Key) (b : Addr), Hc a = some (.dT kvs) ∧ y = .ref b ∧ Hc b = some (.tup (k.map kV)) ∧ kvs.length < sizeLine ∧
  (∀ v, valV kvs k = some v → Q v Hc) ∧ (valV kvs k = none → Q z (upd Hc a (.dT (putK kvs k z))))
section
variable {X : Cx} {o e f : Expr} {td ty tx : TE} {apos cpos : Pos}
theorem pe_setdT (hu : X.A.units + 1 < cLine) (ho : PE X o td) (he : PE X e ty) (hf : PE X f tx) (m : M2 X o "setdefault" apos e f cpos) : PE X (.Call (.Attribute o "setdefault" apos) [e, f] [] cpos) (tSetdT td ty tx) := by
  refine ⟨fun pins s σ H Q I h => ?_⟩
  refine wpAny_Call_method m.base m.few m.line PySem.F.plainAttrs_dict PySem.F.slot_dict_setdefault PySem.F.type_dict_setdefault (thn (ho.run pins s σ H _ I h) fun u sa ⟨x, Ha, Ia, rx, a, ex, d, q1⟩ => ?_)
  subst ex
  cases rx
  obtain ⟨t1, t2, _⟩ := isD_at Ia d
  refine ⟨t1, t2, ?_⟩
  rw [m.trees]
  refine Calls.callWith_builtin rfl (Calls.evalArgs_plain (Calls.spliced_cons (thn (he.run pins sa σ Ha _ Ia q1) fun iv sb ⟨y, Hb, Ib, ry, q2⟩ => Calls.spliced_cons (thn (hf.run pins sb σ Hb _ Ib q2) fun fv sc hc => Calls.spliced_nil ?_))))
  obtain ⟨z, Hc, Ic, rz, kvs, k, b, ea, ey, eb, hl, q3, q4⟩ := hc
  subst ey
  cases ry
  exact setd_t hu Ic ea eb hl rz (fun v hv w1 s1 I1 r1 => ⟨v, _, I1, r1, q3 v hv⟩) fun hn s1 I1 => ⟨z, _, I1, rz, q4 hn⟩
end
/-! sorted texts of any number -/
section
variable {X : Cx}
def rSortA (K : PySem.W.Frag) : List V → Hp → VK → Prop := fun vs H Q => ∃ (a : Addr) (xs : List Str), vs = [V.ref a] ∧ SqL K H a (xs.map V.str) ∧ xs.length ≤ sizeLine ∧
  ∀ (ys : List Str) (p : Addr), ys.Perm xs → sortedS ys = true → H p = none → Q (.ref p) (upd H p (.lst (ys.map V.str)))
theorem c_sorted : CallR X (.builtin "sorted") (rSortA X.K) := by
  rintro pins s σ H vs us Q I r ⟨a, xs, rfl, hs, hz, q⟩
  obtain ⟨its, rv, hl, _⟩ := I.list hs
  rw [Vals.ref1 r]
  have n0 := rv.length
  rw [List.length_map] at n0
  refine sorted_strsAny hl.isList rv.strs (by omega) fun out ys g1 g2 g3 => ?_
  obtain ⟨ep, hat⟩ := PyProof.Rows.sortedAll_at s.heap its out
  have nz : (ys.map V.str).length ≤ sizeLine := by
    rw [List.length_map, g2.length_eq]
    exact hz
  refine ⟨.ref _, upd H (s.heap.objs.size + 1) (.lst (ys.map V.str)), ?_, rfl, q ys _ g2 g3 (I.hok.fresh (Nat.le_succ _))⟩
  exact I.laid (t' := s.toks) (fun _ _ => PyProof.Rows.sortedAll_old) (Nat.le_succ _) ⟨nz, out.toList, ep, vals_of_strs g1, hat⟩
def rStr : List V → Hp → VK → Prop := fun xs H Q => ∃ a, xs = [.str a] ∧ Q (.str a) H
theorem c_str : CallR X (.type "str") rStr := SkE.call_str_str
end
end AE

set_option Elab.async false
set_option linter.all false
set_option maxRecDepth 100000
namespace AE
open PySem PySem.Spec PyProof.Rows L2 Evl
/-! ### steps and their order -/
abbrev StepD := Int × Str × Int
def stepV (s : StepD) : List V := [.int s.1, .str s.2.1, .int s.2.2]
theorem stepV_sc (s : StepD) : (stepV s).all isSc = true := rfl
def ltS (a b : StepD) : Prop := a.1 < b.1 ∨ (a.1 = b.1 ∧ (a.2.1.cps.toList < b.2.1.cps.toList ∨ (a.2.1 = b.2.1 ∧ a.2.2 < b.2.2)))
structure OkS (n : Int) (s : StepD) : Prop where
  s0 : 0 ≤ s.1
  s1 : s.1 < n
  a0 : 1 ≤ s.2.1.length
  a1 : s.2.1.length ≤ 8
  al : ∀ c ∈ s.2.1.cps.toList, 97 ≤ c ∧ c ≤ 122
  e0 : 0 ≤ s.2.2
  e1 : s.2.2 < n
def keyS (s : StepD) : Str := ((Str.empty ++ p3 s.1) ++ pad8 s.2.1) ++ p3 s.2.2
theorem lex_app {a b x y : List Nat} (h : a < b) (l : a.length = b.length) : a ++ x < b ++ y := by
  induction a generalizing b with
  | nil =>
    cases b with
    | nil => exact absurd h (by simp)
    | cons _ _ => cases l
  | cons p r ih =>
    cases b with
    | nil => cases l
    | cons q t =>
      rw [List.cons_append, List.cons_append, List.cons_lt_cons_iff]
      rw [List.cons_lt_cons_iff] at h
      rcases h with h | ⟨h, k⟩
      · exact .inl h
      · exact .inr ⟨h, ih k (by simpa using l)⟩
theorem lex_pre {a x y : List Nat} (h : x < y) : a ++ x < a ++ y := by
  induction a with
  | nil => exact h
  | cons p r ih =>
    rw [List.cons_append, List.cons_append, List.cons_lt_cons_iff]
    exact .inr ⟨rfl, ih⟩
def d3 (a : Int) : List Nat := [48 + (a / 100).toNat, 48 + (a / 10 % 10).toNat, 48 + (a % 10).toNat]
def padL (x : Str) : List Nat := x.cps.toList ++ List.replicate (8 - x.length) 32
theorem key_list (s : StepD) : (keyS s).cps.toList = d3 s.1 ++ (padL s.2.1 ++ d3 s.2.2) := by
  unfold keyS
  rw [Str.cps_append, Str.cps_append, Str.cps_append]
  simp [Str.empty, p3, pad8, d3, padL]
theorem d3_lt {a b : Int} (h0 : 0 ≤ a) (h1 : b < 1000) (h : a < b) : d3 a < d3 b := by
  unfold d3
  rw [List.cons_lt_cons_iff, List.cons_lt_cons_iff, List.cons_lt_cons_iff]
  by_cases h2 : a / 100 < b / 100
  · exact .inl (by omega)
  · refine .inr ⟨by omega, ?_⟩
    by_cases h3 : a / 10 % 10 < b / 10 % 10
    · exact .inl (by omega)
    · exact .inr ⟨by omega, .inl (by omega)⟩
theorem pad_lt {x y : List Nat} (hx : ∀ c ∈ x, 97 ≤ c) (hy : ∀ c ∈ y, 97 ≤ c) (lx : x.length ≤ 8) (ly : y.length ≤ 8) (h : x < y) : x ++ List.replicate (8 - x.length) 32 < y ++ List.replicate (8 - y.length) 32 := by
  generalize 8 = m at lx ly
  induction x generalizing y m with
  | nil =>
    cases y with
    | nil => exact absurd h (by simp)
    | cons q t =>
      cases m with
      | zero => cases ly
      | succ m =>
        show List.replicate (m + 1) 32 < q :: (t ++ _)
        rw [List.replicate_succ, List.cons_lt_cons_iff]
        have := hy q (List.mem_cons_self ..)
        exact .inl (by omega)
  | cons p r ih =>
    cases y with
    | nil => exact absurd h (by simp)
    | cons q t =>
      rw [List.cons_lt_cons_iff] at h
      rw [List.cons_append, List.cons_append, List.cons_lt_cons_iff]
      rcases h with h | ⟨h, k⟩
      · exact .inl h
      · refine .inr ⟨h, ?_⟩
        cases m with
        | zero => cases ly
        | succ m =>
          have e := ih (y := t) (fun c hc => hx c (List.mem_cons_of_mem _ hc)) (fun c hc => hy c (List.mem_cons_of_mem _ hc)) k m (by simpa using lx) (by simpa using ly)
          rw [List.length_cons, List.length_cons, Nat.add_sub_add_right, Nat.add_sub_add_right]
          exact e
theorem key_lt {n : Int} (hn : n ≤ 200) {a b : StepD} (oa : OkS n a) (ob : OkS n b) (h : ltS a b) : (keyS a).cps.toList < (keyS b).cps.toList := by
  rw [key_list, key_list]
  have := oa.s1; have := ob.s1; have := oa.e1; have := ob.e1
  rcases h with h | ⟨e, h | ⟨e2, h⟩⟩
  · exact lex_app (d3_lt oa.s0 (by omega) h) rfl
  · rw [e]
    refine lex_pre (lex_app (pad_lt (fun c hc => (oa.al c hc).1) (fun c hc => (ob.al c hc).1) oa.a1 ob.a1 h) ?_)
    have la := oa.a1
    have lb := ob.a1
    have ea : a.2.1.cps.toList.length = a.2.1.length := rfl
    have eb : b.2.1.cps.toList.length = b.2.1.length := rfl
    unfold padL
    rw [List.length_append, List.length_append, List.length_replicate, List.length_replicate, ea, eb]
    omega
  · rw [e, e2]
    exact lex_pre (lex_pre (d3_lt oa.e0 (by omega) h))
theorem ltS_irrefl (a : StepD) : ¬ ltS a a := by
  rintro (h | ⟨_, h | ⟨_, h⟩⟩)
  · exact absurd h (by omega)
  · exact List.lt_irrefl _ h
  · exact absurd h (by omega)
theorem ltS_trans {a b c : StepD} (h : ltS a b) (k : ltS b c) : ltS a c := by
  rcases h with h | ⟨e, h | ⟨e2, h⟩⟩
  · rcases k with k | ⟨f, k⟩
    · exact .inl (by omega)
    · exact .inl (by omega)
  · rcases k with k | ⟨f, k | ⟨f2, k⟩⟩
    · exact .inl (by omega)
    · exact .inr ⟨by omega, .inl (List.lt_trans h k)⟩
    · exact .inr ⟨by omega, .inl (by rw [← f2]; exact h)⟩
  · rcases k with k | ⟨f, k | ⟨f2, k⟩⟩
    · exact .inl (by omega)
    · exact .inr ⟨by omega, .inl (by rw [e2]; exact k)⟩
    · exact .inr ⟨by omega, .inr ⟨e2.trans f2, by omega⟩⟩
theorem ltS_tri (a b : StepD) : ltS a b ∨ a = b ∨ ltS b a := by
  rcases Int.lt_trichotomy a.1 b.1 with h | h | h
  · exact .inl (.inl h)
  · by_cases h2 : a.2.1.cps.toList < b.2.1.cps.toList
    · exact .inl (.inr ⟨h, .inl h2⟩)
    · by_cases h3 : b.2.1.cps.toList < a.2.1.cps.toList
      · exact .inr (.inr (.inr ⟨h.symm, .inl h3⟩))
      · have e : a.2.1.cps.toList = b.2.1.cps.toList := List.le_antisymm (List.not_lt.mp h3) (List.not_lt.mp h2)
        have e2 : a.2.1 = b.2.1 := Str.ext' (Array.toList_inj.mp e)
        rcases Int.lt_trichotomy a.2.2 b.2.2 with h4 | h4 | h4
        · exact .inl (.inr ⟨h, .inr ⟨e2, h4⟩⟩)
        · exact .inr (.inl (by
            obtain ⟨x, y, z⟩ := a
            obtain ⟨x', y', z'⟩ := b
            simp only at h e2 h4
            rw [h, e2, h4]))
        · exact .inr (.inr (.inr ⟨h.symm, .inr ⟨e2.symm, h4⟩⟩))
  · exact .inr (.inr (.inl h))
theorem key_inj {n : Int} (hn : n ≤ 200) {a b : StepD} (oa : OkS n a) (ob : OkS n b) (h : keyS a = keyS b) : a = b := by
  rcases ltS_tri a b with k | k | k
  · exact absurd (key_lt hn oa ob k) (by rw [h]; exact List.lt_irrefl _)
  · exact k
  · exact absurd (key_lt hn ob oa k) (by rw [h]; exact List.lt_irrefl _)
/-- two rising rows of the same steps are one -/
theorem rows_eq : ∀ {xs ys : List StepD}, xs.Pairwise ltS → ys.Pairwise ltS → (∀ s, s ∈ xs ↔ s ∈ ys) → xs = ys
  | [], [], _, _, _ => rfl
  | [], y :: ys, _, _, h => absurd ((h y).mpr (List.mem_cons_self ..)) (by simp)
  | x :: xs, [], _, _, h => absurd ((h x).mp (List.mem_cons_self ..)) (by simp)
  | x :: xs, y :: ys, hx, hy, h => by
    rw [List.pairwise_cons] at hx hy
    have e : x = y := by
      rcases List.mem_cons.mp ((h x).mp (List.mem_cons_self ..)) with e | m
      · exact e
      · rcases List.mem_cons.mp ((h y).mpr (List.mem_cons_self ..)) with e | m2
        · exact e.symm
        · exact absurd (ltS_trans (hx.1 y m2) (hy.1 x m)) (ltS_irrefl _)
    subst e
    rw [rows_eq hx.2 hy.2 fun s => ⟨fun m => ?_, fun m => ?_⟩]
    · rcases List.mem_cons.mp ((h s).mp (List.mem_cons_of_mem _ m)) with e | m2
      · subst e
        exact absurd (hx.1 s m) (ltS_irrefl _)
      · exact m2
    · rcases List.mem_cons.mp ((h s).mpr (List.mem_cons_of_mem _ m)) with e | m2
      · subst e
        exact absurd (hy.1 s m) (ltS_irrefl _)
      · exact m2
end AE

set_option Elab.async false
set_option linter.all false
set_option maxRecDepth 100000
namespace AE
open PySem PySem.Spec PyProof.Rows L2 Evl
section
variable {X : Cx}
theorem pe_gi {x : Str} {i : Int} {t : Tok} {pos : Pos} (hg : Gl X x) (hm : X.mg x = some (.int i t)) (hd : (x == ("__debug__" : Str)) = false := by decide) : PE X (.Name x pos) (tC (.int i)) := pe_glob hg hm ⟨t, rfl⟩ hd
def SqA (K : PySem.W.Frag) (H : Hp) (a : Addr) (xs : List V) : Prop := SqL K H a xs ∨ SqT K H a xs
theorem SqA.ex {K : PySem.W.Frag} {H H' : Hp} {a : Addr} {xs : List V} (e : Ex H H') (h : SqA K H a xs) : SqA K H' a xs := h.imp (ex_l e) (ex_t e)
def iSeq (K : PySem.W.Frag) (te : TE) : TI := fun σ H R => iList K te σ H R ∨ iTup K te σ H R
theorem pi_seq {tg l : Expr} {tl : TE} (h : PE X l tl) : PI X tg l (iSeq X.K tl) := by
  refine ⟨fun pins s σ H R I q => ?_⟩
  rcases q with q | q
  · exact (pi_list h).run pins s σ H R I q
  · exact (pi_tup h).run pins s σ H R I q
end
section
variable {K : PySem.W.Frag} {σ : L2.St} {H : Hp} {Q : VK} {D : Ends} {te tk tv : TE} {t : TT} {tz : TS} {g : TG} {i : Nat} {a : Addr} {xs : List V}
/-- a for over the list or tuple in slot i -/
theorem for_seq (h0 : σ[i]? = some (some (.ref a))) (hx : SqA K H a xs) (Pv : Nat → L2.St → Hp → Prop) (hP : Pv 0 σ H) (hl : ∀ j σ' H', j ≤ xs.length → Pv j σ' H' → Ex H H')
    (hs : ∀ j x σ' H', xs[j]? = some x → Pv j σ' H' → g x σ' H' fun σ2 H2 => tz { D with nx := Pv (j + 1), ct := Pv (j + 1), bk := D.nx } σ2 H2)
    (hd : ∀ σ' H', Pv xs.length σ' H' → D.nx σ' H') : tFor (iSeq K (tVar i)) g tz D σ H := by
  rcases hx with hx | hx
  · exact .inl ⟨_, h0, a, rfl, ⟨xs, hx⟩, for_list Pv hP (fun j σ' H' hj p => ex_l (hl j σ' H' hj p) hx) hs hd⟩
  · exact .inr ⟨_, h0, a, rfl, ⟨xs, hx⟩, for_tup Pv hP (fun j σ' H' hj p => ex_t (hl j σ' H' hj p) hx) hs hd⟩
theorem for_t (h0 : σ[i]? = some (some (.ref a))) (hx : SqT K H a xs) (Pv : Nat → L2.St → Hp → Prop) (hP : Pv 0 σ H) (hl : ∀ j σ' H', j ≤ xs.length → Pv j σ' H' → SqT K H' a xs)
    (hs : ∀ j x σ' H', xs[j]? = some x → Pv j σ' H' → g x σ' H' fun σ2 H2 => tz { D with nx := Pv (j + 1), ct := Pv (j + 1), bk := D.nx } σ2 H2)
    (hd : ∀ σ' H', Pv xs.length σ' H' → D.nx σ' H') : tFor (iTup K (tVar i)) g tz D σ H :=
  ⟨_, h0, a, rfl, ⟨xs, hx⟩, for_tup Pv hP hl hs hd⟩
/-- the walk of a dict comprehension, keys ints or texts, over a list or tuple in slot i -/
theorem dc_seq {vs : List Nat} (h0 : σ[i]? = some (some (.ref a))) (hx : SqA K H a xs) (Pv : Addr → Nat → Hp → Prop) (hP : ∀ D, H D = none → Pv D 0 (upd H D (.dK []))) (hl : ∀ D j H', Pv D j H' → Ex H H')
    (hs : ∀ D j x H', xs[j]? = some x → Pv D j H' → g x (wipe σ vs) H' fun σ2 H2 => wipe σ2 vs = wipe σ vs ∧ t σ2 H2 fun b H3 =>
      if b = true then tk σ2 H3 fun y H4 => tv σ2 H4 fun z H5 => ∃ kvs k, y = kV k ∧ H5 D = some (.dK kvs) ∧ kvs.length < sizeLine ∧ Pv D (j + 1) (upd H5 D (.dK (putK kvs k z))) else Pv D (j + 1) H3)
    (hd : ∀ D H', Pv D xs.length H' → Q (.ref D) H') : tDc (iSeq K (tVar i)) g t tk tv vs σ H Q := by
  rcases hx with hx | hx
  · refine .inl ⟨_, h0, a, rfl, ⟨xs, hx⟩, fun D hD => ?_⟩
    refine ⟨fun j m H' => m = xs.length - j ∧ j ≤ xs.length ∧ Pv D j H', ⟨xs.length, by simp, Nat.zero_le _, hP D hD⟩, ?_⟩
    rintro j m H' ⟨rfl, hj, p⟩
    have q := ex_l (hl D j H' p) hx
    by_cases hlt : j < xs.length
    · refine .inr ⟨⟨xs, xs[j], q, by simp [hlt]⟩, Pv D (j + 1), fun H2 p2 => ⟨xs.length - (j + 1), by omega, rfl, hlt, p2⟩, fun x H2 y => ?_⟩
      obtain ⟨e, y⟩ := y
      subst e
      exact hs D j x _ (y xs q) p
    · have e : j = xs.length := by omega
      subst e
      exact .inl ⟨⟨xs, q, Nat.le_refl _⟩, hd D H' p⟩
  · exact .inr ⟨_, h0, a, rfl, ⟨xs, hx⟩, fun D hD => dc_tup (Pv D) (hP D hD) (fun j H' _ p => ex_t (hl D j H' p) hx) (hs D) (hd D)⟩
end
end AE

set_option Elab.async false
set_option linter.all false
set_option maxRecDepth 100000
namespace AE
open PySem PySem.Spec PyProof.Rows L2 Evl
section
variable {K : PySem.W.Frag} {σ : L2.St} {H : Hp} {Q : VK} {ta tb te : TE} {t : TT} {i j : Nat} {a : Addr} {xs : List V} {x y v : V} {J : It} {n : Nat} {G : Hp → Prop}
theorem r_andV (q : ta σ H fun x H1 => ∃ c, x = .bl c ∧ if c = true then tb σ H1 Q else Q (.bl false) H1) : tAndV ta tb σ H Q := q
theorem r_orV (q : ta σ H fun x H1 => ∃ c, x = .bl c ∧ if c = true then Q (.bl true) H1 else tb σ H1 Q) : tOrV ta tb σ H Q := q
theorem r_notV (q : ta σ H fun x H1 => ∃ c, x = .bl c ∧ Q (.bl (!c)) H1) : tNotV ta σ H Q := q
theorem r_ifE (q : t σ H fun c H1 => if c = true then ta σ H1 Q else tb σ H1 Q) : tIf t ta tb σ H Q := q
/-- a comprehension whose tests and items are values: what is made -/
theorem lcp {vs : List Nat} (w : Walk J n G (YAt xs)) (hn : n = xs.length) (hz : xs.length ≤ 1000000) {D : Addr} (hD : H D = none) (hG : ∀ H', Ex H H' → G H') (hw : ∀ x, wipe ((wipe σ vs).set j (some x)) vs = wipe σ vs) (p : V → Bool) (f : V → V)
    (ht : ∀ x ∈ xs, ∀ H1, Ex H H1 → ∀ R : Bool → Hp → Prop, (∀ H2, Ex H1 H2 → R (p x) H2) → t ((wipe σ vs).set j (some x)) H1 R)
    (he : ∀ x ∈ xs, p x = true → ∀ H1, Ex H H1 → ∀ R : VK, (∀ H2, Ex H1 H2 → R (f x) H2) → te ((wipe σ vs).set j (some x)) H1 R)
    {Qd : Hp → Prop} (k : ∀ H1, Ex H H1 → H1 D = some (.lst ((xs.filter p).map f)) → Qd H1) :
    ∃ W : Nat → Nat → Hp → Prop, (∃ m, W 0 m (upd H D (.lst []))) ∧ ∀ i m Ha, W i m Ha →
      (J.stop i Ha ∧ Qd Ha) ∨ (J.go i Ha ∧ ∃ Nx : Hp → Prop, (∀ Hb, Nx Hb → ∃ m', m' < m ∧ W (i + 1) m' Hb) ∧ ∀ x Hb, J.yld i Ha x Hb → gName j x (wipe σ vs) Hb fun σ2 Hc => wipe σ2 vs = wipe σ vs ∧ t σ2 Hc fun b Hd =>
        if b = true then te σ2 Hd fun y He => ∃ acc, He D = some (.lst acc) ∧ acc.length < sizeLine ∧ Nx (upd He D (.lst (acc ++ [y]))) else Nx Hd) := by
  have fl : ∀ m, ((xs.take m).filter p).length ≤ 1000000 := fun m => by
    have := List.length_filter_le p (xs.take m)
    have := List.length_take_le m xs
    have : (xs.take m).length ≤ xs.length := by rw [List.length_take]; omega
    omega
  refine lc_it w (fun m Ha => Ex H Ha ∧ Ha D = some (.lst (((xs.take m).filter p).map f))) ⟨Ex.new hD, upd_same⟩ (fun m Ha _ z => hG Ha z.1) ?_ fun Ha z => ?_
  · rintro m y Ha Hb hm ⟨e1, e2⟩ ⟨rfl, hy⟩
    have hin : y ∈ xs := List.mem_of_getElem? hy
    refine ⟨hw y, ht y hin Hb e1 _ fun Hc e3 => ?_⟩
    have tk : xs.take (m + 1) = xs.take m ++ [y] := by
      rw [List.take_add_one, hy]
      rfl
    cases hp : p y with
    | true =>
      refine ite_t rfl (he y hin hp Hc (e1.trans e3) _ fun Hd e4 => ?_)
      refine ⟨_, e4 _ _ (e3 _ _ e2), by rw [List.length_map]; exact sz_lt' (fl m), ex_upd ((e1.trans e3).trans e4) hD, ?_⟩
      rw [upd_same, tk, List.filter_append, List.filter_cons, if_pos hp, List.map_append]
      rfl
    | false =>
      refine ite_f rfl ⟨e1.trans e3, ?_⟩
      rw [e3 _ _ e2, tk, List.filter_append, List.filter_cons, if_neg (by rw [hp]; decide), List.filter_nil, List.append_nil]
  · refine k Ha z.1 ?_
    rw [z.2, hn, List.take_length]
where
  sz_lt' {n : Nat} (h : n ≤ 1000000) : n < sizeLine := Nat.lt_of_le_of_lt h (by decide)
/-- over a list that is read in slot i -/
theorem lc_l {vs : List Nat} (p : V → Bool) (f : V → V) (hv : ∀ R : VK, R (.ref a) H → ta σ H R) (hx : SqL K H a xs) (hz : xs.length ≤ 1000000) (hw : ∀ x, wipe ((wipe σ vs).set j (some x)) vs = wipe σ vs)
    (ht : ∀ x ∈ xs, ∀ H1, Ex H H1 → ∀ R : Bool → Hp → Prop, (∀ H2, Ex H1 H2 → R (p x) H2) → t ((wipe σ vs).set j (some x)) H1 R)
    (he : ∀ x ∈ xs, p x = true → ∀ H1, Ex H H1 → ∀ R : VK, (∀ H2, Ex H1 H2 → R (f x) H2) → te ((wipe σ vs).set j (some x)) H1 R)
    (k : ∀ D H1, H D = none → Ex H H1 → H1 D = some (.lst ((xs.filter p).map f)) → Q (.ref D) H1) : tLc (iList K ta) (gName j) t te vs σ H Q :=
  hv _ ⟨a, rfl, ⟨xs, hx⟩, fun D hD => lcp (walk_list (K := K) (a := a) (xs := xs)) rfl hz hD (fun _ e => ex_l e hx) hw p f ht he fun H1 e h => k D H1 hD e h⟩
theorem lc_t {vs : List Nat} (p : V → Bool) (f : V → V) (hv : ∀ R : VK, R (.ref a) H → ta σ H R) (hx : SqT K H a xs) (hz : xs.length ≤ 1000000) (hw : ∀ x, wipe ((wipe σ vs).set j (some x)) vs = wipe σ vs)
    (ht : ∀ x ∈ xs, ∀ H1, Ex H H1 → ∀ R : Bool → Hp → Prop, (∀ H2, Ex H1 H2 → R (p x) H2) → t ((wipe σ vs).set j (some x)) H1 R)
    (he : ∀ x ∈ xs, p x = true → ∀ H1, Ex H H1 → ∀ R : VK, (∀ H2, Ex H1 H2 → R (f x) H2) → te ((wipe σ vs).set j (some x)) H1 R)
    (k : ∀ D H1, H D = none → Ex H H1 → H1 D = some (.lst ((xs.filter p).map f)) → Q (.ref D) H1) : tLc (iTup K ta) (gName j) t te vs σ H Q :=
  hv _ ⟨a, rfl, ⟨xs, hx⟩, fun D hD => lcp (walk_tup (K := K) (a := a) (xs := xs)) rfl hz hD (fun _ e => ex_t e hx) hw p f ht he fun H1 e h => k D H1 hD e h⟩
def signsV (z : Str) : List V := z.cps.toList.map fun c => .str ⟨#[c]⟩
theorem lc_s {vs : List Nat} {z : Str} (p : V → Bool) (f : V → V) (hv : ∀ R : VK, R (.str z) H → ta σ H R) (hz : z.length ≤ 1000000) (hw : ∀ x, wipe ((wipe σ vs).set j (some x)) vs = wipe σ vs)
    (ht : ∀ x ∈ signsV z, ∀ H1, Ex H H1 → ∀ R : Bool → Hp → Prop, (∀ H2, Ex H1 H2 → R (p x) H2) → t ((wipe σ vs).set j (some x)) H1 R)
    (he : ∀ x ∈ signsV z, p x = true → ∀ H1, Ex H H1 → ∀ R : VK, (∀ H2, Ex H1 H2 → R (f x) H2) → te ((wipe σ vs).set j (some x)) H1 R)
    (k : ∀ D H1, H D = none → Ex H H1 → H1 D = some (.lst (((signsV z).filter p).map f)) → Q (.ref D) H1) : tLc (iStr ta) (gName j) t te vs σ H Q := by
  have ln : (signsV z).length = z.cps.size := by unfold signsV; rw [List.length_map, Array.length_toList]
  refine hv _ ⟨z, rfl, fun D hD => lcp (xs := signsV z) (walk_str.mono (G' := fun _ => True) (fun _ h => h) fun i Ha x Hb _ _ y => ?_) ln.symm (by rw [ln]; exact hz) hD (fun _ _ => trivial) hw p f ht he fun H1 e h => k D H1 hD e h⟩
  obtain ⟨e, c, hc, rfl⟩ := y
  refine ⟨e, ?_⟩
  unfold signsV
  rw [List.getElem?_map, Array.getElem?_toList, hc]
  rfl
def intsV (n : Nat) : List V := (List.range n).map fun (k : Nat) => V.int (k : Int)
theorem lc_r {vs : List Nat} {tn : TA} {n : Int} (p : V → Bool) (f : V → V) (hv : ∀ R : List V → Hp → Prop, R [.int n] H → tn σ H R) (hz : 0 ≤ n ∧ n ≤ 1000000) (hw : ∀ x, wipe ((wipe σ vs).set j (some x)) vs = wipe σ vs)
    (ht : ∀ x ∈ intsV n.toNat, ∀ H1, Ex H H1 → ∀ R : Bool → Hp → Prop, (∀ H2, Ex H1 H2 → R (p x) H2) → t ((wipe σ vs).set j (some x)) H1 R)
    (he : ∀ x ∈ intsV n.toNat, p x = true → ∀ H1, Ex H H1 → ∀ R : VK, (∀ H2, Ex H1 H2 → R (f x) H2) → te ((wipe σ vs).set j (some x)) H1 R)
    (k : ∀ D H1, H D = none → Ex H H1 → H1 D = some (.lst (((intsV n.toNat).filter p).map f)) → Q (.ref D) H1) : tLc (iRng1 tn) (gName j) t te vs σ H Q := by
  have ln : (intsV n.toNat).length = n.toNat := by unfold intsV; rw [List.length_map, List.length_range]
  refine hv _ ⟨n, rfl, by omega, by omega, fun D hD => lcp (xs := intsV n.toNat) ((walk_range (lo := 0) (n := n.toNat)).mono (G' := fun _ => True) (fun _ h => h) fun i Ha x Hb hi _ y => ?_) ln.symm (by rw [ln]; omega) hD (fun _ _ => trivial) hw p f ht he fun H1 e h => k D H1 hD e h⟩
  obtain ⟨e, rfl⟩ := y
  refine ⟨e, ?_⟩
  unfold intsV
  rw [List.getElem?_map, List.getElem?_range hi]
  show some (V.int (i : Int)) = some (V.int (0 + (i : Int)))
  rw [Int.zero_add]
theorem yes_t {xs : List V} {vs : List Nat} : ∀ x ∈ xs, ∀ H1, Ex H H1 → ∀ R : Bool → Hp → Prop, (∀ H2, Ex H1 H2 → R ((fun _ => true) x) H2) → tYes ((wipe σ vs).set j (some x)) H1 R := fun _ _ H1 _ _ k => k H1 (Ex.refl H1)
theorem filter_yes (l : List V) : l.filter (fun _ => true) = l := List.filter_eq_self.mpr fun _ _ => rfl
end
end AE

set_option Elab.async false
set_option linter.all false
set_option maxRecDepth 100000
namespace AE
open PySem PySem.Spec PyProof.Rows L2 Evl
section
variable {κ : Type} [DecidableEq κ]
theorem keys_put (kvs : List (κ × V)) (k : κ) (v : V) : (putK kvs k v).map (·.1) = if k ∈ kvs.map (·.1) then kvs.map (·.1) else kvs.map (·.1) ++ [k] := by
  unfold putK
  by_cases h : (kvs.any fun kv => decide (kv.1 = k)) = true
  · have m : k ∈ kvs.map (·.1) := by
      obtain ⟨p, hp, e⟩ := List.any_eq_true.mp h
      exact List.mem_map.mpr ⟨p, hp, of_decide_eq_true e⟩
    rw [if_pos h, if_pos m, List.map_map]
    refine List.map_congr_left fun p hp => ?_
    show (if p.1 = k then (p.1, v) else p).1 = p.1
    split <;> rfl
  · have m : ¬ k ∈ kvs.map (·.1) := fun m => by
      obtain ⟨p, hp, e⟩ := List.mem_map.mp m
      exact h (List.any_eq_true.mpr ⟨p, hp, decide_eq_true e⟩)
    rw [if_neg h, if_neg m, List.map_append]
    rfl
theorem nd_put {kvs : List (κ × V)} (k : κ) (v : V) (h : (kvs.map (·.1)).Nodup) : ((putK kvs k v).map (·.1)).Nodup := by
  rw [keys_put]
  split
  · exact h
  · rename_i m
    exact nd_snoc h m
theorem val_some {kvs : List (κ × V)} {k : κ} : (valV kvs k).isSome = true ↔ k ∈ kvs.map (·.1) := by
  rw [← valV_any]
  constructor
  · intro h
    obtain ⟨p, hp, e⟩ := List.any_eq_true.mp h
    exact List.mem_map.mpr ⟨p, hp, of_decide_eq_true e⟩
  · intro h
    obtain ⟨p, hp, e⟩ := List.mem_map.mp h
    exact List.any_eq_true.mpr ⟨p, hp, decide_eq_true e⟩
theorem len_put (kvs : List (κ × V)) (k : κ) (v : V) : (putK kvs k v).length ≤ kvs.length + 1 := length_putK kvs k v
end
theorem tx_dk {H : Hp} {D : Addr} {kvs : List (Key × V)} {o : HO} (h : H D = some (.dK kvs)) : Tx H (upd H D o) := fun a xs e => by
  rw [upd_ne (ne_of e h (by intro z; cases z))]
  exact e
theorem tx_dt {H : Hp} {D : Addr} {kvs : List (List Key × V)} {o : HO} (h : H D = some (.dT kvs)) : Tx H (upd H D o) := fun a xs e => by
  rw [upd_ne (ne_of e h (by intro z; cases z))]
  exact e
theorem tx_lst {H : Hp} {D : Addr} {ys : List V} {o : HO} (h : H D = some (.lst ys)) : Tx H (upd H D o) := fun a xs e => by
  rw [upd_ne (ne_of e h (by intro z; cases z))]
  exact e
section
variable {K : PySem.W.Frag} {σ : L2.St} {H : Hp} {Q : VK} {ta tb te : TE} {t : TT} {i j : Nat} {d : Addr} {kvs : List (Key × V)}
/-- back from under the lock -/
theorem ex_lock {H H1 : Hp} {d : Addr} {od : Obj} {u : HO} (h : H d = some u) (e : Ex (upd H d (.frz od u)) H1) : Ex H (upd H1 d u) := fun a o ha => by
  by_cases z : a = d
  · subst z
    rw [upd_same]
    rw [h] at ha
    exact ha
  · rw [upd_ne z]
    exact e a o (by rw [upd_ne z]; exact ha)
/-- [e for k in d], the items values -/
theorem lc_k {vs : List Nat} (f : V → V) (hv : ∀ H1, ∀ R : VK, R (.ref d) H1 → ta σ H1 R) (hd : H d = some (.dK kvs)) (hz : kvs.length ≤ 1000000) (hw : ∀ x, wipe ((wipe σ vs).set j (some x)) vs = wipe σ vs)
    (he : ∀ x ∈ kvs.map (fun kv => kV kv.1), ∀ H1, ∀ R : VK, R (f x) H1 → te ((wipe σ vs).set j (some x)) H1 R)
    (k : ∀ D H1, H D = none → Ex H H1 → H1 D = some (.lst ((kvs.map fun kv => kV kv.1).map f)) → Q (.ref D) H1) : tLockE (tLc (iKeys ta) (gName j) tYes te vs) σ H Q := by
  refine ⟨d, .dK kvs, hd, trivial, fun od => hv _ _ ⟨d, od, rfl, .inl ⟨kvs, upd_same, fun D hD => ?_⟩⟩⟩
  have hDd : D ≠ d := fun z => by subst z; rw [upd_same] at hD; cases hD
  have hD0 : H D = none := by rw [upd_ne hDd] at hD; exact hD
  refine lcp (H := upd H d (.frz od (.dK kvs))) (xs := kvs.map fun kv => kV kv.1) ((walk_keys (d := d) (o := od) (kvs := kvs)).mono (G' := fun Ha => Ha d = some (.frz od (.dK kvs))) (fun _ h => h) fun i Ha x Hb _ _ y => ?_) (List.length_map ..).symm (by rw [List.length_map]; exact hz) hD
    (fun Ha e => e d _ upd_same) hw (fun _ => true) f yes_t (fun x hx _ H1 e R k => he x hx H1 R (k H1 (Ex.refl H1))) fun H1 e h => ⟨e d _ upd_same, ?_⟩
  · obtain ⟨e, kk, v, hk, rfl⟩ := y
    refine ⟨e, ?_⟩
    rw [List.getElem?_map, hk]
    rfl
  · refine k D _ hD0 (ex_lock hd e) ?_
    rw [upd_ne hDd, h, filter_yes]
end
section
variable {K : PySem.W.Frag} {σ : L2.St} {H : Hp} {Q : VK} {ta tb te : TE} {t : TT} {i j : Nat} {a : Addr} {xs : List V}
theorem js_nil {acc : Str} {R : Str → Hp → Prop} (q : R acc H) : tJs [] acc σ H R := q
theorem yes_q {R : Bool → Hp → Prop} (q : R true H) : tYes σ H R := q
/-- what a comprehension over a list asks once the list is known -/
def LcL (K : PySem.W.Frag) (j : Nat) (t : TT) (te : TE) (vs : List Nat) (σ : L2.St) (Q : VK) : VK := fun x Ha => ∃ a, x = .ref a ∧ (∃ xs, SqL K Ha a xs) ∧ ∀ D, Ha D = none → ∃ W : Nat → Nat → Hp → Prop, (∃ m, W 0 m (upd Ha D (.lst []))) ∧ ∀ i m Hb, W i m Hb →
  ((Itl K a).stop i Hb ∧ Q (.ref D) Hb) ∨ ((Itl K a).go i Hb ∧ ∃ Nx : Hp → Prop, (∀ Hc, Nx Hc → ∃ m', m' < m ∧ W (i + 1) m' Hc) ∧ ∀ x Hc, (Itl K a).yld i Hb x Hc → gName j x (wipe σ vs) Hc fun σ2 Hd => wipe σ2 vs = wipe σ vs ∧ t σ2 Hd fun b He =>
    if b = true then te σ2 He fun y Hf => ∃ acc, Hf D = some (.lst acc) ∧ acc.length < sizeLine ∧ Nx (upd Hf D (.lst (acc ++ [y]))) else Nx He)
theorem r_lcL {vs : List Nat} (q : ta σ H (LcL K j t te vs σ Q)) : tLc (iList K ta) (gName j) t te vs σ H Q := q
theorem lcl_go {vs : List Nat} (p : V → Bool) (f : V → V) (hx : SqL K H a xs) (hz : xs.length ≤ 1000000) (hw : ∀ x, wipe ((wipe σ vs).set j (some x)) vs = wipe σ vs)
    (ht : ∀ x ∈ xs, ∀ H1, Ex H H1 → ∀ R : Bool → Hp → Prop, (∀ H2, Ex H1 H2 → R (p x) H2) → t ((wipe σ vs).set j (some x)) H1 R)
    (he : ∀ x ∈ xs, p x = true → ∀ H1, Ex H H1 → ∀ R : VK, (∀ H2, Ex H1 H2 → R (f x) H2) → te ((wipe σ vs).set j (some x)) H1 R)
    (k : ∀ D H1, H D = none → Ex H H1 → H1 D = some (.lst ((xs.filter p).map f)) → Q (.ref D) H1) : LcL K j t te vs σ Q (.ref a) H :=
  ⟨a, rfl, ⟨xs, hx⟩, fun D hD => lcp (walk_list (K := K) (a := a) (xs := xs)) rfl hz hD (fun _ e => ex_l e hx) hw p f ht he fun H1 e h => k D H1 hD e h⟩
end
/-! strings in order -/
theorem ltCps_eq : ∀ (a b : List Nat), ltCps a b = decide (a < b)
  | [], [] => by simp [ltCps]
  | [], b :: t => by simp [ltCps]
  | a :: r, [] => by simp [ltCps]
  | a :: r, b :: t => by
    unfold ltCps
    rw [ltCps_eq r t]
    by_cases h : a < b
    · simp [h, List.cons_lt_cons_iff]
    · by_cases h2 : a = b
      · subst h2
        simp [List.cons_lt_cons_iff]
      · simp [h, h2, List.cons_lt_cons_iff]
theorem sorted_pw : ∀ {ys : List Str}, sortedS ys = true → ys.Pairwise fun a b => ¬ b.cps.toList < a.cps.toList
  | [], _ => .nil
  | [y], _ => by simp
  | x :: y :: r, h => by
    have h1 : risingS x (y :: r) = true := h
    unfold risingS at h1
    rw [Bool.and_eq_true, ltCps_eq] at h1
    have ih := sorted_pw (ys := y :: r) h1.2
    have h2 : ¬ y.cps.toList < x.cps.toList := by simpa using h1.1
    rw [List.pairwise_cons]
    refine ⟨fun z hz => ?_, ih⟩
    rcases List.mem_cons.mp hz with rfl | hz
    · exact h2
    · rw [List.pairwise_cons] at ih
      exact fun q => List.not_lt.mpr (List.le_trans (List.not_lt.mp h2) (List.not_lt.mp (ih.1 z hz))) q
end AE

set_option Elab.async false
set_option linter.all false
set_option maxRecDepth 100000
namespace AE
open PySem PySem.Spec PyProof.Rows L2 Evl
section
variable {J : It} {n : Nat} {G : Hp → Prop} {Y : Nat → Hp → V → Hp → Prop} {g : TG} {t : TT} {tk tv te : TE} {vs : List Nat} {σ : L2.St} {H : Hp} {D : Addr} {Qd : Hp → Prop}
/-- a dict comprehension over any walk: keys tuples -/
theorem dcT_it (w : Walk J n G Y) (Pv : Nat → Hp → Prop) (h0 : Pv 0 (upd H D (.dT []))) (hG : ∀ i Ha, i ≤ n → Pv i Ha → G Ha)
    (hs : ∀ i x Ha Hb, i < n → Pv i Ha → Y i Ha x Hb → g x (wipe σ vs) Hb fun σ2 Hc => wipe σ2 vs = wipe σ vs ∧ t σ2 Hc fun b Hd =>
      if b = true then tk σ2 Hd fun y He => tv σ2 He fun z Hf => sT D y z Hf (Pv (i + 1)) else Pv (i + 1) Hd) (hd : ∀ Ha, Pv n Ha → Qd Ha) :
    ∃ W : Nat → Nat → Hp → Prop, (∃ m, W 0 m (upd H D (.dT []))) ∧ ∀ i m Ha, W i m Ha →
      (J.stop i Ha ∧ Qd Ha) ∨ (J.go i Ha ∧ ∃ Nx : Hp → Prop, (∀ Hb, Nx Hb → ∃ m1, m1 < m ∧ W (i + 1) m1 Hb) ∧ ∀ x Hb, J.yld i Ha x Hb → g x (wipe σ vs) Hb fun σ2 Hc => wipe σ2 vs = wipe σ vs ∧ t σ2 Hc fun b Hd =>
        if b = true then tk σ2 Hd fun y He => tv σ2 He fun z Hf => sT D y z Hf Nx else Nx Hd) := by
  refine ⟨fun i m Ha => m + i = n ∧ Pv i Ha, ⟨n, by omega, h0⟩, ?_⟩
  rintro i m Ha ⟨hm, p⟩
  have q := hG i Ha (by omega) p
  by_cases hlt : i < n
  · exact .inr ⟨w.goes i Ha hlt q, Pv (i + 1), fun Hb p1 => ⟨m - 1, by omega, by omega, p1⟩, fun x Hb y => hs i x Ha Hb hlt p (w.yields i Ha x Hb hlt q y)⟩
  · obtain rfl : i = n := by omega
    exact .inl ⟨w.stops Ha q, hd Ha p⟩
/-- .. keys ints or texts -/
theorem dcK_it (w : Walk J n G Y) (Pv : Nat → Hp → Prop) (h0 : Pv 0 (upd H D (.dK []))) (hG : ∀ i Ha, i ≤ n → Pv i Ha → G Ha)
    (hs : ∀ i x Ha Hb, i < n → Pv i Ha → Y i Ha x Hb → g x (wipe σ vs) Hb fun σ2 Hc => wipe σ2 vs = wipe σ vs ∧ t σ2 Hc fun b Hd =>
      if b = true then tk σ2 Hd fun y He => tv σ2 He fun z Hf => ∃ kvs k, y = kV k ∧ Hf D = some (.dK kvs) ∧ kvs.length < sizeLine ∧ Pv (i + 1) (upd Hf D (.dK (putK kvs k z))) else Pv (i + 1) Hd) (hd : ∀ Ha, Pv n Ha → Qd Ha) :
    ∃ W : Nat → Nat → Hp → Prop, (∃ m, W 0 m (upd H D (.dK []))) ∧ ∀ i m Ha, W i m Ha →
      (J.stop i Ha ∧ Qd Ha) ∨ (J.go i Ha ∧ ∃ Nx : Hp → Prop, (∀ Hb, Nx Hb → ∃ m1, m1 < m ∧ W (i + 1) m1 Hb) ∧ ∀ x Hb, J.yld i Ha x Hb → g x (wipe σ vs) Hb fun σ2 Hc => wipe σ2 vs = wipe σ vs ∧ t σ2 Hc fun b Hd =>
        if b = true then tk σ2 Hd fun y He => tv σ2 He fun z Hf => ∃ kvs k, y = kV k ∧ Hf D = some (.dK kvs) ∧ kvs.length < sizeLine ∧ Nx (upd Hf D (.dK (putK kvs k z))) else Nx Hd) := by
  refine ⟨fun i m Ha => m + i = n ∧ Pv i Ha, ⟨n, by omega, h0⟩, ?_⟩
  rintro i m Ha ⟨hm, p⟩
  have q := hG i Ha (by omega) p
  by_cases hlt : i < n
  · exact .inr ⟨w.goes i Ha hlt q, Pv (i + 1), fun Hb p1 => ⟨m - 1, by omega, by omega, p1⟩, fun x Hb y => hs i x Ha Hb hlt p (w.yields i Ha x Hb hlt q y)⟩
  · obtain rfl : i = n := by omega
    exact .inl ⟨w.stops Ha q, hd Ha p⟩
end
/-! ### rows grouped -/
/-- a dict of lists: at each key the list of the values that f gives of the row's members with that key -/
structure Grp {κ : Type} [DecidableEq κ] (H0 H : Hp) (kvs : List (κ × V)) (G : κ → List V) : Prop where
  nd : (kvs.map (·.1)).Nodup
  val : ∀ k v, valV kvs k = some v → ∃ l, v = .ref l ∧ H l = some (.lst (G k)) ∧ H0 l = none ∧ G k ≠ []
  has : ∀ k, G k ≠ [] → (valV kvs k).isSome = true
  inj : ∀ k k' l, valV kvs k = some (.ref l) → valV kvs k' = some (.ref l) → k = k'
section
variable {κ : Type} [DecidableEq κ] {H0 H H' : Hp} {kvs : List (κ × V)} {G : κ → List V}
theorem Grp.nil (h : ∀ k, G k = []) : Grp H0 H ([] : List (κ × V)) G := ⟨List.nodup_nil, fun _ _ h => (by cases h), fun k e => absurd (h k) e, fun _ _ _ h => (by cases h)⟩
theorem Grp.mono (g : Grp H0 H kvs G) (e : ∀ l xs, H l = some (.lst xs) → H' l = some (.lst xs)) : Grp H0 H' kvs G :=
  ⟨g.nd, fun k v h => by obtain ⟨l, a, b, c⟩ := g.val k v h; exact ⟨l, a, e l _ b, c⟩, g.has, g.inj⟩
/-- one more at a key that is there -/
theorem Grp.more {k : κ} {l : Addr} {x : V} (g : Grp H0 H kvs G) (h : valV kvs k = some (.ref l)) (e : ∀ a xs, a ≠ l → H a = some (.lst xs) → H' a = some (.lst xs)) (hl : H' l = some (.lst (G k ++ [x]))) : Grp H0 H' kvs fun k' => if k' = k then G k ++ [x] else G k' := by
  obtain ⟨l1, e1, _, h0, _⟩ := g.val k _ h
  cases e1
  refine ⟨g.nd, fun k' v hv => ?_, fun k' hk => ?_, g.inj⟩
  · obtain ⟨l2, rfl, h2, h3, h4⟩ := g.val k' v hv
    by_cases z : k' = k
    · subst z
      rw [h] at hv
      cases hv
      exact ⟨l, rfl, by rw [if_pos rfl]; exact hl, h3, by rw [if_pos rfl]; simp⟩
    · refine ⟨l2, rfl, ?_, h3, by rw [if_neg z]; exact h4⟩
      rw [if_neg z]
      exact e _ _ (fun q => z (g.inj k' k l (by rw [hv, q]) h)) h2
  · by_cases z : k' = k
    · subst z
      rw [h]
      rfl
    · rw [if_neg z] at hk
      exact g.has k' hk
/-- a new key -/
theorem Grp.new {k : κ} {l : Addr} {x : V} (g : Grp H0 H kvs G) (h : valV kvs k = none) (hn : H l = none) (hl0 : H0 l = none) (e : ∀ a xs, a ≠ l → H a = some (.lst xs) → H' a = some (.lst xs)) (hl : H' l = some (.lst [x])) : Grp H0 H' (putK kvs k (.ref l)) fun k' => if k' = k then G k ++ [x] else G k' := by
  have gk : G k = [] := by
    by_cases z : G k = []
    · exact z
    · have := g.has k z
      rw [h] at this
      cases this
  refine ⟨nd_put _ _ g.nd, fun k' v hv => ?_, fun k' hk => ?_, fun a b m ha hb => ?_⟩
  · rw [valV_put] at hv
    by_cases z : k' = k
    · subst z
      rw [if_pos rfl] at hv
      cases hv
      exact ⟨l, rfl, by rw [if_pos rfl, gk]; exact hl, hl0, by rw [if_pos rfl]; simp⟩
    · rw [if_neg z] at hv
      obtain ⟨l2, rfl, h2, h3, h4⟩ := g.val k' v hv
      exact ⟨l2, rfl, by rw [if_neg z]; exact e _ _ (fun q => by rw [q, hn] at h2; cases h2) h2, h3, by rw [if_neg z]; exact h4⟩
  · rw [valV_put]
    by_cases z : k' = k
    · rw [if_pos z]
      rfl
    · rw [if_neg z] at hk ⊢
      exact g.has k' hk
  · have old : ∀ c, valV kvs c = some (.ref m) → m ≠ l := fun c hc q => by
      obtain ⟨l2, e2, h2, _⟩ := g.val c _ hc
      cases e2
      rw [q, hn] at h2
      cases h2
    rw [valV_put] at ha hb
    by_cases za : a = k
    · by_cases zb : b = k
      · rw [za, zb]
      · rw [if_pos za] at ha
        rw [if_neg zb] at hb
        cases ha
        exact absurd rfl (old b hb)
    · rw [if_neg za] at ha
      by_cases zb : b = k
      · rw [if_pos zb] at hb
        cases hb
        exact absurd rfl (old a ha)
      · rw [if_neg zb] at hb
        exact g.inj a b m ha hb
/-- the same, each list a tuple: what a machine keeps -/
def GrpT (H : Hp) (kvs : List (κ × V)) (G : κ → List V) : Prop := ∀ k, (G k = [] → valV kvs k = none) ∧ (G k ≠ [] → ∃ p, valV kvs k = some (.ref p) ∧ H p = some (.tup (G k)))
theorem GrpT.tx {kvs : List (κ × V)} (e : Tx H H') (g : GrpT H kvs G) : GrpT H' kvs G := fun k => ⟨(g k).1, fun h => by obtain ⟨p, a, b⟩ := (g k).2 h; exact ⟨p, a, e _ _ b⟩⟩
end
def endsF (rows : List StepD) (k : List Key) : List V := (rows.filter fun s => decide ([.inl s.1, .inr s.2.1] = k)).map fun s => .int s.2.2
theorem endsF_snoc (rows : List StepD) (s : StepD) (k : List Key) : endsF (rows ++ [s]) k = if k = [.inl s.1, .inr s.2.1] then endsF rows [.inl s.1, .inr s.2.1] ++ [.int s.2.2] else endsF rows k := by
  unfold endsF
  rw [List.filter_append, List.map_append]
  by_cases h : k = [.inl s.1, .inr s.2.1]
  · rw [if_pos h, h, List.filter_cons, if_pos (decide_eq_true rfl)]
    rfl
  · rw [if_neg h, List.filter_cons, if_neg (by rw [decide_eq_false (fun q => h q.symm)]; decide)]
    simp
end AE

set_option Elab.async false
set_option linter.all false
set_option maxRecDepth 100000
namespace AE
open PySem PySem.Spec PyProof.Rows L2 Evl
/-! the rules that speak of the written part, told for a block -/
section
variable {X : Cx} {K : PySem.W.Frag}
theorem opAddK (h : X.K = K := by rfl) : OpR X (binaryOp .Add) (rAddA K) := by subst h; exact opAdd
theorem c_lenK (h : X.K = K := by rfl) : CallR X (.builtin "len") (cLen K) := by subst h; exact c_len
theorem c_listK (h : X.K = K := by rfl) : CallR X (.type "list") (cList K) := by subst h; exact c_list
theorem c_tupleK (h : X.K = K := by rfl) : CallR X (.type "tuple") (cTup K) := by subst h; exact c_tuple
theorem c_isinstanceK (h : X.K = K := by rfl) : CallR X (.builtin "isinstance") (rIsi K) := by subst h; exact c_isinstance
theorem ix_seqK (h : X.K = K := by rfl) : IxR X (rIx K) := by subst h; exact ix_seq
theorem sl_listK (h : X.K = K := by rfl) : SlR X (rSlL K) := by subst h; exact sl_list
theorem op_in_seqK (h : X.K = K := by rfl) : OpR X (compareOp .In) (rIn K false) := by subst h; exact op_in_seq
theorem op_notIn_seqK (h : X.K = K := by rfl) : OpR X (compareOp .NotIn) (rIn K true) := by subst h; exact op_notIn_seq
theorem op_inDK (hu : X.A.units + 65 < cLine) (h : X.K = K := by rfl) : OpR X (compareOp .In) (rInD K) := by subst h; exact op_inD hu
theorem op_eqDK (hu : X.A.units + 64 < cLine) (h : X.K = K := by rfl) : OpR X (compareOp .Eq) (rEqD K) := by subst h; exact op_eqD hu
theorem op_neDK (hu : X.A.units + 64 < cLine) (h : X.K = K := by rfl) : OpR X (compareOp .NotEq) (rNeD K) := by subst h; exact op_neD hu
theorem pe_fldK {e : Expr} {ta : TE} {f : Str} {pos : Pos} (he : PE X e ta) (hb : attributeBase e f X.env (eval e X.env) = eval e X.env) (h : X.K = K := by rfl) : PE X (.Attribute e f pos) (tFld K ta f) := by subst h; exact pe_fld he hb
end
end AE

set_option Elab.async false
set_option linter.all false
set_option maxRecDepth 100000
namespace AE
open PySem PySem.Spec PyProof.Rows L2 Evl
section
variable {K : PySem.W.Frag} {σ : L2.St} {H H0 : Hp} {Q : VK} {d : Addr} {i j : Nat} {vs : List Nat}
theorem grp_tupT {kvs : List (List Key × V)} {G : List Key → List V} (hi : σ[i]? = some (some (.ref d))) (hi2 : ∀ x, ((wipe σ vs).set j (some x))[i]? = some (some (.ref d))) (hj : ∀ x, ((wipe σ vs).set j (some x))[j]? = some (some x))
    (hw : ∀ x, wipe ((wipe σ vs).set j (some x)) vs = wipe σ vs) (hd : H d = some (.dT kvs)) (g : Grp H0 H kvs G) (kl : kvs.length ≤ 1000)
    (k : ∀ p H1, H p = none → Ex H H1 → (∃ k2, H1 p = some (.dT k2) ∧ GrpT H1 k2 G) → Q (.ref p) H1) :
    tLockE (tDcT (iKeys (tVar i)) (gName j) tYes (tVar j) (tCB (cTup K) (tCons (tDGet (tVar i) (tVar j)) tNil)) vs) σ H Q := by
  refine ⟨d, .dT kvs, hd, trivial, fun od => ⟨_, hi, d, od, rfl, .inr ⟨kvs, upd_same, fun D hD => ?_⟩⟩⟩
  have hDd : D ≠ d := fun z => by subst z; rw [upd_same] at hD; cases hD
  have hD0 : H D = none := by rw [upd_ne hDd] at hD; exact hD
  have old : ∀ {Ha : Hp} {a : Addr} {o : HO}, Ex (upd H d (.frz od (.dT kvs))) Ha → a ≠ d → H a = some o → Ha a = some o := fun e z h => e _ _ (by rw [upd_ne z]; exact h)
  refine dcT_it (walk_keysT (d := d) (o := od) (kvs := kvs)) (fun m Ha => Ex (upd H d (.frz od (.dT kvs))) Ha ∧ ∃ k2, Ha D = some (.dT k2) ∧ k2.length ≤ m ∧ (∀ k v, valV k2 k = some v → ∃ p, v = .ref p ∧ Ha p = some (.tup (G k)) ∧ G k ≠ []) ∧ ∀ kv ∈ kvs.take m, (valV k2 kv.1).isSome = true)
    ⟨Ex.new hD, [], upd_same, Nat.le_refl _, fun _ _ h => (by cases h), fun _ h => (by cases h)⟩ (fun m Ha _ p => p.1 d _ upd_same) ?_ ?_
  · rintro m x Ha Hb hm ⟨e, k2, hk2, kl2, val, has⟩ ⟨rfl, kk, v0, q, hkv, rfl, hq⟩
    have fz := e d _ upd_same
    refine ⟨hw _, yes_q (ite_t rfl ⟨_, hj _, ?_⟩)⟩
    obtain ⟨v, hv⟩ := Option.isSome_iff_exists.mp (val_some.mpr (List.mem_map.mpr ⟨(kk, v0), List.mem_of_getElem? hkv, rfl⟩))
    obtain ⟨l, rfl, hl, hl0, ne⟩ := g.val kk v hv
    have ld : l ≠ d := ne_of hl hd (by intro z; cases z)
    refine ⟨_, hi2 _, _, hj _, d, .ref l, rfl, .inr ⟨kvs, kk, q, .inr ⟨od, fz⟩, rfl, hq, hv.symm⟩, l, G kk, rfl, .inl ⟨.inl (.inl (old e ld hl)), fun p hp => ?_⟩⟩
    have hqp : q ≠ p := ne_of_none hq hp
    have hDp : D ≠ p := ne_of_none hk2 hp
    have hk3 : (upd Hb p (.tup (G kk))) D = some (.dT k2) := by rw [upd_ne hDp]; exact hk2
    refine ⟨k2, kk, q, rfl, by rw [upd_ne hqp]; exact hq, hk3, sz_lt (by omega), ex_upd (e.trans (Ex.new hp)) hD, _, upd_same, Nat.le_trans (len_put _ _ _) (by omega), fun k' v' h' => ?_, fun kv hkv' => ?_⟩
    · rw [valV_put] at h'
      by_cases z : k' = kk
      · rw [if_pos z] at h'
        cases h'
        exact ⟨p, rfl, by rw [upd_ne hDp.symm, upd_same, z], by rw [z]; exact ne⟩
      · rw [if_neg z] at h'
        obtain ⟨p', a1, a2, a3⟩ := val k' v' h'
        refine ⟨p', a1, tx_dt hk3 _ _ (Ex.new hp _ _ a2), a3⟩
    · rw [valV_put]
      by_cases z : kv.1 = kk
      · rw [if_pos z]
        rfl
      · rw [if_neg z]
        rw [List.take_add_one, hkv] at hkv'
        rcases List.mem_append.mp hkv' with h | h
        · exact has kv h
        · exact absurd (by rw [List.mem_singleton.mp h]) z
  · rintro Ha ⟨e, k2, hk2, kl2, val, has⟩
    rw [List.take_length] at has
    refine ⟨e d _ upd_same, k D _ hD0 (ex_lock hd e) ⟨k2, by rw [upd_ne hDd]; exact hk2, fun k' => ⟨fun z => ?_, fun z => ?_⟩⟩⟩
    · cases hh : valV k2 k' with
      | none => rfl
      | some v =>
        obtain ⟨_, _, _, n⟩ := val k' v hh
        exact absurd z n
    · obtain ⟨kv, hkv, rfl⟩ := List.mem_map.mp (val_some.mp (g.has k' z))
      obtain ⟨v, hv⟩ := Option.isSome_iff_exists.mp (has kv hkv)
      obtain ⟨p, rfl, hp, _⟩ := val _ v hv
      exact ⟨p, hv, by rw [upd_ne (fun z => by subst z; rw [e _ _ upd_same] at hp; cases hp)]; exact hp⟩
theorem grp_tupK {kvs : List (Key × V)} {G : Key → List V} (hu : True) (hi : σ[i]? = some (some (.ref d))) (hi2 : ∀ x, ((wipe σ vs).set j (some x))[i]? = some (some (.ref d))) (hj : ∀ x, ((wipe σ vs).set j (some x))[j]? = some (some x))
    (hw : ∀ x, wipe ((wipe σ vs).set j (some x)) vs = wipe σ vs) (hd : H d = some (.dK kvs)) (g : Grp H0 H kvs G) (kl : kvs.length ≤ 1000)
    (k : ∀ p H1, H p = none → Ex H H1 → (∃ k2, H1 p = some (.dK k2) ∧ GrpT H1 k2 G) → Q (.ref p) H1) :
    tLockE (tDc (iKeys (tVar i)) (gName j) tYes (tVar j) (tCB (cTup K) (tCons (tDGet (tVar i) (tVar j)) tNil)) vs) σ H Q := by
  refine ⟨d, .dK kvs, hd, trivial, fun od => ⟨_, hi, d, od, rfl, .inl ⟨kvs, upd_same, fun D hD => ?_⟩⟩⟩
  have hDd : D ≠ d := fun z => by subst z; rw [upd_same] at hD; cases hD
  have hD0 : H D = none := by rw [upd_ne hDd] at hD; exact hD
  have old : ∀ {Ha : Hp} {a : Addr} {o : HO}, Ex (upd H d (.frz od (.dK kvs))) Ha → a ≠ d → H a = some o → Ha a = some o := fun e z h => e _ _ (by rw [upd_ne z]; exact h)
  refine dcK_it (walk_keys (d := d) (o := od) (kvs := kvs)) (fun m Ha => Ex (upd H d (.frz od (.dK kvs))) Ha ∧ ∃ k2, Ha D = some (.dK k2) ∧ k2.length ≤ m ∧ (∀ k v, valV k2 k = some v → ∃ p, v = .ref p ∧ Ha p = some (.tup (G k)) ∧ G k ≠ []) ∧ ∀ kv ∈ kvs.take m, (valV k2 kv.1).isSome = true)
    ⟨Ex.new hD, [], upd_same, Nat.le_refl _, fun _ _ h => (by cases h), fun _ h => (by cases h)⟩ (fun m Ha _ p => p.1 d _ upd_same) ?_ ?_
  · rintro m x Ha Hb hm ⟨e, k2, hk2, kl2, val, has⟩ ⟨rfl, kk, v0, hkv, rfl⟩
    have fz := e d _ upd_same
    refine ⟨hw _, yes_q (ite_t rfl ⟨_, hj _, ?_⟩)⟩
    obtain ⟨v, hv⟩ := Option.isSome_iff_exists.mp (val_some.mpr (List.mem_map.mpr ⟨(kk, v0), List.mem_of_getElem? hkv, rfl⟩))
    obtain ⟨l, rfl, hl, hl0, ne⟩ := g.val kk v hv
    have ld : l ≠ d := ne_of hl hd (by intro z; cases z)
    refine ⟨_, hi2 _, _, hj _, d, .ref l, rfl, .inl ⟨kvs, kk, .inr ⟨od, fz⟩, rfl, hv.symm⟩, l, G kk, rfl, .inl ⟨.inl (.inl (old e ld hl)), fun p hp => ?_⟩⟩
    have hDp : D ≠ p := ne_of_none hk2 hp
    have hk3 : (upd Hb p (.tup (G kk))) D = some (.dK k2) := by rw [upd_ne hDp]; exact hk2
    refine ⟨k2, kk, rfl, hk3, sz_lt (by omega), ex_upd (e.trans (Ex.new hp)) hD, _, upd_same, Nat.le_trans (len_put _ _ _) (by omega), fun k' v' h' => ?_, fun kv hkv' => ?_⟩
    · rw [valV_put] at h'
      by_cases z : k' = kk
      · rw [if_pos z] at h'
        cases h'
        exact ⟨p, rfl, by rw [upd_ne hDp.symm, upd_same, z], by rw [z]; exact ne⟩
      · rw [if_neg z] at h'
        obtain ⟨p', a1, a2, a3⟩ := val k' v' h'
        exact ⟨p', a1, tx_dk hk3 _ _ (Ex.new hp _ _ a2), a3⟩
    · rw [valV_put]
      by_cases z : kv.1 = kk
      · rw [if_pos z]
        rfl
      · rw [if_neg z]
        rw [List.take_add_one, hkv] at hkv'
        rcases List.mem_append.mp hkv' with h | h
        · exact has kv h
        · exact absurd (by rw [List.mem_singleton.mp h]) z
  · rintro Ha ⟨e, k2, hk2, kl2, val, has⟩
    rw [List.take_length] at has
    refine ⟨e d _ upd_same, k D _ hD0 (ex_lock hd e) ⟨k2, by rw [upd_ne hDd]; exact hk2, fun k' => ⟨fun z => ?_, fun z => ?_⟩⟩⟩
    · cases hh : valV k2 k' with
      | none => rfl
      | some v =>
        obtain ⟨_, _, _, n⟩ := val k' v hh
        exact absurd z n
    · obtain ⟨kv, hkv, rfl⟩ := List.mem_map.mp (val_some.mp (g.has k' z))
      obtain ⟨v, hv⟩ := Option.isSome_iff_exists.mp (has kv hkv)
      obtain ⟨p, rfl, hp, _⟩ := val _ v hv
      exact ⟨p, hv, by rw [upd_ne (fun z => by subst z; rw [e _ _ upd_same] at hp; cases hp)]; exact hp⟩
end
/-- pairs of a state -/
def pairD (s : StepD) : List V := [.str s.2.1, .int s.2.2]
end AE

set_option Elab.async false
set_option linter.all false
set_option maxRecDepth 100000
namespace AE
open PySem PySem.Spec PyProof.Rows L2 Evl
section
variable {K : PySem.W.Frag} {σ : L2.St} {H : Hp} {Q : VK} {D : Ends} {ta tv : TE} {f : Str} {a C dx : Addr} {fs : List (Str × V)} {v : V} {i : Nat}
def StF (K : PySem.W.Frag) (f : Str) (x y : V) (H : Hp) (R : Hp → Prop) : Prop := ∃ a C dx fs, x = .ref a ∧ H a = some (.ins C dx fs) ∧ Cls K C ∧ NoAttr K C f ∧ fs.length < 1000 ∧ R (upd H a (.ins C dx (putF f y fs)))
theorem r_fld (q : tv σ H fun y H1 => ta σ H1 fun x H2 => StF K f x y H2 (D.nx σ)) : sFld K ta tv f D σ H := q
theorem stf_go {R : Hp → Prop} (h : H a = some (.ins C dx fs)) (c : Cls K C) (n : NoAttr K C f) (l : fs.length < 1000) (q : ∀ H1, Ch a H H1 → H1 a = some (.ins C dx (putF f v fs)) → R H1) : StF K f (.ref a) v H R :=
  ⟨a, C, dx, fs, rfl, h, c, n, l, q _ ch_upd upd_same⟩
def GtF (K : PySem.W.Frag) (f : Str) (x : V) (H : Hp) (Q : VK) : Prop := ∃ a C dx fs v, x = .ref a ∧ H a = some (.ins C dx fs) ∧ Cls K C ∧ NoAttr K C f ∧ fs.lookup f = some v ∧ Q v H
theorem r_get (q : ta σ H fun x H1 => GtF K f x H1 Q) : tFld K ta f σ H Q := q
theorem gtf_go (h : H a = some (.ins C dx fs)) (c : Cls K C) (n : NoAttr K C f) (e : fs.lookup f = some v) (q : Q v H) : GtF K f (.ref a) H Q := ⟨a, C, dx, fs, v, rfl, h, c, n, e, q⟩
theorem r_dget2 {td ty tx : TE} (q : td σ H fun x H1 => ∃ a, x = .ref a ∧ IsD H1 a ∧ ty σ H1 fun y H2 => tx σ H2 fun z H3 => ∃ o, DGet H3 a y o ∧ Q (o.getD z) H3) : tDGet2 td ty tx σ H Q := q
/-- k in d, by what stands there -/
theorem r_din {td ty : TE} (q : ty σ H fun y H1 => td σ H1 fun x H2 => ∃ a o, x = .ref a ∧ DGet H2 a y o ∧ Q (.bl o.isSome) H2) : tDIn ty td σ H Q := q
theorem tup_l {p : Addr} {xs : List V} (h : SqL K H p xs) (q : ∀ l H1, H l = none → Ex H H1 → H1 l = some (.tup xs) → Q (.ref l) H1) : cTup K [.ref p] H Q := ⟨p, xs, rfl, .inl ⟨h, fun l hl => q l _ hl (Ex.new hl) upd_same⟩⟩
theorem list_s {p : Addr} {xs : List V} (h : SqL K H p xs ∨ SqT K H p xs) (q : ∀ l H1, H l = none → Ex H H1 → H1 l = some (.lst xs) → Q (.ref l) H1) : cList K [.ref p] H Q := ⟨p, xs, rfl, h, fun l hl => q l _ hl (Ex.new hl) upd_same⟩
end
end AE

set_option Elab.async false
set_option linter.all false
set_option maxRecDepth 100000
/-! keys of dicts that are nested tuples of None, ints and texts -/
namespace PySem
open Sem (wp)
open SeqAt
inductive NK where
  | non | int (i : Int) | str (x : Str) | tup (ks : List NK)
mutual
def NK.decEq : (a b : NK) → Decidable (a = b)
  | .non, .non => Decidable.isTrue rfl
  | .non, .int _ => Decidable.isFalse (fun z => nomatch z)
  | .non, .str _ => Decidable.isFalse (fun z => nomatch z)
  | .non, .tup _ => Decidable.isFalse (fun z => nomatch z)
  | .int i, .int j => if h : i = j then Decidable.isTrue (by rw [h]) else Decidable.isFalse (fun z => h (NK.int.inj z))
  | .int _, .non => Decidable.isFalse (fun z => nomatch z)
  | .int _, .str _ => Decidable.isFalse (fun z => nomatch z)
  | .int _, .tup _ => Decidable.isFalse (fun z => nomatch z)
  | .str x, .str y => if h : x = y then Decidable.isTrue (by rw [h]) else Decidable.isFalse (fun z => h (NK.str.inj z))
  | .str _, .non => Decidable.isFalse (fun z => nomatch z)
  | .str _, .int _ => Decidable.isFalse (fun z => nomatch z)
  | .str _, .tup _ => Decidable.isFalse (fun z => nomatch z)
  | .tup xs, .tup ys => match NK.decEqs xs ys with
    | Decidable.isTrue h => Decidable.isTrue (by rw [h])
    | Decidable.isFalse h => Decidable.isFalse (fun z => h (NK.tup.inj z))
  | .tup _, .non => Decidable.isFalse (fun z => nomatch z)
  | .tup _, .int _ => Decidable.isFalse (fun z => nomatch z)
  | .tup _, .str _ => Decidable.isFalse (fun z => nomatch z)
def NK.decEqs : (a b : List NK) → Decidable (a = b)
  | [], [] => Decidable.isTrue rfl
  | [], _ :: _ => Decidable.isFalse (fun z => nomatch z)
  | _ :: _, [] => Decidable.isFalse (fun z => nomatch z)
  | x :: xs, y :: ys => match NK.decEq x y, NK.decEqs xs ys with
    | Decidable.isTrue h, Decidable.isTrue h' => Decidable.isTrue (by rw [h, h'])
    | Decidable.isFalse h, _ => Decidable.isFalse (fun z => h (List.cons.inj z).1)
    | _, Decidable.isFalse h => Decidable.isFalse (fun z => h (List.cons.inj z).2)
end
instance : DecidableEq NK := NK.decEq
mutual
def NK.depth : NK → Nat
  | .tup ks => NK.depths ks + 1
  | _ => 0
def NK.depths : List NK → Nat
  | [] => 0
  | k :: ks => max (NK.depth k) (NK.depths ks)
end
mutual
def NK.hash (w : World) : NK → Int
  | .non => 4238894112
  | .int i => hashInt i
  | .str x => hashStr w x
  | .tup ks => reduceHash (Builtin.Tuple.tupleHashOf (NK.hashes w ks))
def NK.hashes (w : World) : List NK → List Int
  | [] => []
  | k :: ks => NK.hash w k :: NK.hashes w ks
end
mutual
def NK.draws : NK → Nat
  | .tup ks => NK.drawss ks + 1
  | _ => 1
def NK.drawss : List NK → Nat
  | [] => 0
  | k :: ks => NK.draws k + NK.drawss ks
end
mutual
inductive IsNK (h : Heap) : NK → Value → Prop
  | non : IsNK h .non .none
  | int (i : Int) (t : Tok) : IsNK h (.int i) (.int i t)
  | str (x : Str) (t : Tok) : IsNK h (.str x) (.str x t)
  | tup {a : Addr} {vs : Array Value} {ks : List NK} : h.IsTuple a vs → IsNKs h ks vs.toList → IsNK h (.tup ks) (.ref a)
inductive IsNKs (h : Heap) : List NK → List Value → Prop
  | nil : IsNKs h [] []
  | cons {k : NK} {v : Value} {ks : List NK} {vs : List Value} : IsNK h k v → IsNKs h ks vs → IsNKs h (k :: ks) (v :: vs)
end
theorem IsNKs.len {h : Heap} : ∀ {ks : List NK} {vs : List Value}, IsNKs h ks vs → ks.length = vs.length
  | _, _, .nil => rfl
  | _, _, .cons _ t => by rw [List.length_cons, List.length_cons, t.len]
theorem istup_same {h : Heap} {a : Addr} {xs ys : Array Value} (x : h.IsTuple a xs) (y : h.IsTuple a ys) : xs = ys := by
  obtain ⟨o, ho, _, n, hd⟩ := x
  obtain ⟨o', ho', _, n', hd'⟩ := y
  obtain rfl : o = o' := Option.some.inj (ho.symm.trans ho')
  rw [hd] at hd'
  injection hd'
mutual
theorem IsNK.inj {h : Heap} : ∀ (x y : NK) (v : Value), IsNK h x v → IsNK h y v → x = y
  | .non, _, _, .non, r => by cases r; rfl
  | .int _, _, _, .int _ _, r => by cases r; rfl
  | .str _, _, _, .str _ _, r => by cases r; rfl
  | .tup ks, y, _, .tup ha hi, r => by
    cases r with
    | tup hb hj =>
      have e := istup_same ha hb
      subst e
      rw [IsNKs.inj ks _ _ hi hj]
theorem IsNKs.inj {h : Heap} : ∀ (xs ys : List NK) (vs : List Value), IsNKs h xs vs → IsNKs h ys vs → xs = ys
  | [], _, _, .nil, r => by cases r; rfl
  | x :: xs, _, _, .cons h1 h2, r => by
    cases r with
    | cons k1 k2 => rw [IsNK.inj x _ _ h1 k1, IsNKs.inj xs _ _ h2 k2]
end
theorem istup_keeps {h h' : Heap} {a d : Addr} {vs : Array Value} {o : Obj} {es ep} (x : h.IsTuple a vs) (ho : h.get? d = some o) (hd : o.data = .dict es ep) (hs : Heap.SameBut d h h') : h'.IsTuple a vs := by
  obtain ⟨o', ho', hc, n, hd'⟩ := x
  have hne : a ≠ d := by
    rintro rfl
    obtain rfl : o' = o := Option.some.inj (ho'.symm.trans ho)
    rw [hd] at hd'; exact nomatch hd'
  exact ⟨o', (hs.2 a hne).trans ho', hc, n, hd'⟩
mutual
theorem IsNK.keeps {h h' : Heap} {d : Addr} {o : Obj} {es ep} (ho : h.get? d = some o) (hd : o.data = .dict es ep) (hs : Heap.SameBut d h h') : ∀ (k : NK) (v : Value), IsNK h k v → IsNK h' k v
  | .non, _, .non => .non
  | .int _, _, .int i t => .int i t
  | .str _, _, .str x t => .str x t
  | .tup ks, _, .tup ha hi => .tup (istup_keeps ha ho hd hs) (IsNKs.keeps ho hd hs ks _ hi)
theorem IsNKs.keeps {h h' : Heap} {d : Addr} {o : Obj} {es ep} (ho : h.get? d = some o) (hd : o.data = .dict es ep) (hs : Heap.SameBut d h h') : ∀ (ks : List NK) (vs : List Value), IsNKs h ks vs → IsNKs h' ks vs
  | [], _, .nil => .nil
  | k :: ks, _, .cons a b => .cons (IsNK.keeps ho hd hs k _ a) (IsNKs.keeps ho hd hs ks _ b)
end
section
variable {prog : Program} {w : World}
/-! equality -/
def nkPair (xs ys : List NK) (j : Nat) : Bool := decide (xs.getD j .non = ys.getD j .non)
theorem nk_all : ∀ xs ys : List NK, ((List.range (min xs.length ys.length)).all (nkPair xs ys) && xs.length == ys.length) = decide (xs = ys)
  | [], [] => by simp
  | [], y :: ys => by simp
  | x :: xs, [] => by simp
  | x :: xs, y :: ys => by
    have ih := nk_all xs ys
    have e : (List.range (min (x :: xs).length (y :: ys).length)).all (nkPair (x :: xs) (y :: ys)) = (decide (x = y) && (List.range (min xs.length ys.length)).all (nkPair xs ys)) := by
      rw [show min (x :: xs).length (y :: ys).length = min xs.length ys.length + 1 by simp only [List.length_cons]; omega, List.range_succ_eq_map, List.all_cons, List.all_map]
      rfl
    rw [e]
    have e2 : ((x :: xs).length == (y :: ys).length) = (xs.length == ys.length) := by simp
    rw [e2, Bool.and_assoc, ih]
    by_cases h : x = y <;> by_cases h2 : xs = ys <;> simp [h, h2]
theorem nk_head {u x y : Nat} {xs ys : Nat} (hu : u + min (max x xs) (max y ys) < cLine) : u + min x y < cLine := by omega
theorem nk_tail {u x y : Nat} {xs ys : Nat} (hu : u + min (max x xs) (max y ys) < cLine) : u + min xs ys < cLine := by omega
mutual
theorem nk_eqAt : ∀ (x y : NK) (A : Around) (s : Shared) (a b : Value), IsNK s.heap x a → IsNK s.heap y b → A.units + min x.depth y.depth < cLine → EqAt A s a b (decide (x = y))
  | .non, y, A, s, _, _, ra, rb, hu => by
    cases ra
    cases rb with
    | non => rw [decide_eq_true rfl]; exact EqAt.same _
    | int i t => exact EqAt.none_int i t
    | str i t => exact EqAt.none_str i t
    | tup k1 k2 => exact EqAt.none_tuple k1 (by omega)
  | .int i, y, A, s, _, _, ra, rb, hu => by
    cases ra with
    | int _ t =>
      cases rb with
      | non => exact EqAt.int_none i t
      | int j u =>
        have e : decide ((NK.int i) = NK.int j) = (i == j) := by
          by_cases h : i = j
          · subst h; simp
          · rw [decide_eq_false (fun z => h (NK.int.inj z))]; exact (beq_eq_false_iff_ne.mpr h).symm
        rw [e]
        exact EqAt.int_int i t j u
      | str j u => exact EqAt.int_str i t j u
      | tup k1 k2 => exact EqAt.int_tuple i t k1 (by omega)
  | .str i, y, A, s, _, _, ra, rb, hu => by
    cases ra with
    | str _ t =>
      cases rb with
      | non => exact EqAt.str_none i t
      | int j u => exact EqAt.str_int i t j u
      | str j u =>
        have e : decide ((NK.str i) = NK.str j) = (i == j) := by
          by_cases h : i = j
          · subst h; simp
          · rw [decide_eq_false (fun z => h (NK.str.inj z))]; exact (beq_eq_false_iff_ne.mpr h).symm
        rw [e]
        exact EqAt.str_str i t j u
      | tup k1 k2 => exact EqAt.str_tuple i t k1 (by omega)
  | .tup xs, y, A, s, _, _, ra, rb, hu => by
    cases ra with
    | @tup l vs _ h1 h2 =>
      have hd : NK.depth (.tup xs) = NK.depths xs + 1 := by rw [NK.depth]
      cases rb with
      | non => exact EqAt.tuple_none h1 (by omega)
      | int j u => exact EqAt.tuple_int j u h1 (by omega)
      | str j u => exact EqAt.tuple_str j u h1 (by omega)
      | @tup l' vs' ys k1 k2 =>
        have hd' : NK.depth (.tup ys) = NK.depths ys + 1 := by rw [NK.depth]
        have n1 : vs.size = xs.length := by have := h2.len; simpa using this.symm
        have n2 : vs'.size = ys.length := by have := k2.len; simpa using this.symm
        by_cases hll : l = l'
        · subst hll
          have e : NK.tup xs = NK.tup ys := IsNK.inj _ _ _ (.tup h1 h2) (.tup k1 k2)
          rw [e, decide_eq_true rfl]
          exact EqAt.same _
        · have e : decide (NK.tup xs = NK.tup ys) = decide (xs = ys) := by
            by_cases h : xs = ys
            · subst h; simp
            · rw [decide_eq_false h, decide_eq_false (fun z => h (NK.tup.inj z))]
          rw [e, ← nk_all xs ys, ← n1, ← n2]
          refine EqAt.of_refs hll (RcAt.tuples h1 k1 (by omega) fun j j1 j2 => ?_)
          have := nk_eqAts xs ys A.in1 s vs.toList vs'.toList h2 k2 (by show A.units + 1 + _ < _; omega) j (by simpa using j1) (by simpa using j2)
          simpa using this
theorem nk_eqAts : ∀ (xs ys : List NK) (A : Around) (s : Shared) (vs ws : List Value), IsNKs s.heap xs vs → IsNKs s.heap ys ws → A.units + min (NK.depths xs) (NK.depths ys) < cLine →
    ∀ j (h1 : j < vs.length) (h2 : j < ws.length), EqAt A s vs[j] ws[j] (nkPair xs ys j)
  | [], _, _, _, _, _, ra, _, _, j, h1, _ => by cases ra; exact absurd h1 (Nat.not_lt_zero _)
  | _ :: _, [], _, _, _, _, _, rb, _, j, _, h2 => by cases rb; exact absurd h2 (Nat.not_lt_zero _)
  | x :: xs, y :: ys, A, s, _, _, ra, rb, hu, j, h1, h2 => by
    have d1 : NK.depths (x :: xs) = max x.depth (NK.depths xs) := by rw [NK.depths]
    have d2 : NK.depths (y :: ys) = max y.depth (NK.depths ys) := by rw [NK.depths]
    rw [d1, d2] at hu
    cases ra with
    | cons r rs =>
      cases rb with
      | cons r' rs' =>
        cases j with
        | zero => exact nk_eqAt x y A s _ _ r r' (nk_head hu)
        | succ j => exact nk_eqAts xs ys A s _ _ rs rs' (nk_tail hu) j (Nat.lt_of_succ_lt_succ h1) (Nat.lt_of_succ_lt_succ h2)
end

/-! the hash -/
theorem nk_depth_mem {k : NK} : ∀ {ks : List NK}, k ∈ ks → k.depth ≤ NK.depths ks
  | x :: xs, h => by
    rw [NK.depths]
    rcases List.mem_cons.mp h with rfl | h
    · omega
    · have := nk_depth_mem h
      omega
theorem nk_hashes_snoc (k : NK) : ∀ ks : List NK, NK.hashes w (ks ++ [k]) = NK.hashes w ks ++ [NK.hash w k]
  | [] => by simp [NK.hashes]
  | x :: xs => by rw [List.cons_append, NK.hashes, NK.hashes, nk_hashes_snoc k xs, List.cons_append]
theorem nk_drawss_snoc (k : NK) : ∀ ks : List NK, NK.drawss (ks ++ [k]) = NK.drawss ks + NK.draws k
  | [] => by simp [NK.drawss]
  | x :: xs => by rw [List.cons_append, NK.drawss, NK.drawss, nk_drawss_snoc k xs, Nat.add_assoc]
theorem nk_hash : ∀ (k : NK) (A : Around) (E : Value → Shared → Prop) (s : Shared) (v : Value) (Q : Int → Shared → Prop), IsNK s.heap k v → A.units + k.depth < cLine + 1 → Q (k.hash w) { s with toks := s.toks + k.draws } → wpAny (model prog w) A (pyHash v) Q E s
  | .non, A, E, s, _, Q, r, hu, h => by
    cases r
    have hT : s.TypeIs .none "NoneType" := rfl
    unfold pyHash
    have hv : [Value.none].any Value.onHeap = false := rfl
    refine wpAny_bind ?_
    rw [cRoomFor, if_neg (by rw [hv]; exact Bool.false_ne_true)]; refine wpAny_pure ?_
    refine wpAny_bind (wpAny_specialOf hT F.slot_NoneType_hash.lookup ?_)
    show wpAny _ _ (if (some (Value.builtin "NoneType.__hash__") == some Value.none) = true then _ else _) Q E s
    rw [if_neg (by rw [beq_builtin_none]; exact Bool.false_ne_true)]
    refine wpAny_bind (wpAny_specialOf hT F.slot_NoneType_hash.lookup ?_)
    show wpAny _ _ (callSpecialIfBoundUnlessNone? .none "__hash__" _ >>= _) Q E s
    refine wpAny_bind (wpAny_callSpecialIfBoundUnlessNone?_slot hT F.slot_NoneType_hash (wpAny_call_entry F.slot_NoneType_hash hT F.entry_NoneType_hash
      (show wpAny _ _ (do ret (← mkInt 4238894112)) _ _ s from wpAny_ret_mkInt ?_) (F.args_NoneType_hash_1 _)))
    show wpAny _ _ (if (decide (-(2 : Int) ^ 63 ≤ 4238894112) && decide ((4238894112 : Int) < 2 ^ 63)) = true then _ else _) Q E _
    rw [if_pos (by decide)]
    exact wpAny_pure (by simpa [NK.draws, NK.hash] using h)
  | .int i, A, E, s, _, Q, r, hu, h => by
    cases r
    exact wpAny_pyHash_int h
  | .str x, A, E, s, _, Q, r, hu, h => by
    cases r
    exact wpAny_pyHash_str h
  | .tup ks, A, E, s, _, Q, r, hu, h => by
    cases r with
    | @tup a vs _ hk hi =>
      have hT : s.TypeIs (.ref a) "tuple" := let ⟨o, ho, hc, _⟩ := hk; ⟨o, ho, hc⟩
      obtain ⟨o, ho, _, n, hd⟩ := hk
      unfold pyHash
      first | unfold pyHashByItsType | skip
      have hd1 : NK.depth (.tup ks) = NK.depths ks + 1 := by rw [NK.depth]
      refine wpAny_bind (wpAny_cRoomFor_or (.inr (by omega)) ?_)
      refine wpAny_bind (wpAny_specialOf hT F.slot_tuple_hash.lookup ?_)
      show wpAny _ _ (if (some (Value.builtin "tuple.__hash__") == some Value.none) = true then _ else _) Q E s
      rw [if_neg (by rw [beq_builtin_none]; exact Bool.false_ne_true)]
      refine wpAny_bind (wpAny_specialOf hT F.slot_tuple_hash.lookup ?_)
      show wpAny _ _ (callSpecialIfBoundUnlessNone? (.ref a) "__hash__" _ >>= _) Q E s
      refine wpAny_bind (wpAny_callSpecialIfBoundUnlessNone?_slot hT F.slot_tuple_hash (wpAny_call_entry F.slot_tuple_hash hT F.entry_tuple_hash ?_ (F.args_tuple_hash_1 _)))
      show wpAny _ _ (Builtin.Tuple.tupleItemsOf (.ref a) >>= _) _ _ s
      refine wpAny_bind (wpAny_tupleItemsOf ho hd ?_)
      refine wpAny_bind ?_
      rw [← Array.forIn_toList]
      refine wpAny_forIn_list _
        (fun rest (b : Array Int) s' => ∃ done left, ks = done ++ left ∧ IsNKs s.heap left rest ∧ b.toList = NK.hashes w done ∧ s' = { s with toks := s.toks + NK.drawss done })
        _ ?_ ?_ _ _ ⟨[], ks, rfl, hi, rfl, rfl⟩
      · rintro x rest b s' ⟨done, left, hks, hl, hb, rfl⟩
        cases hl with
        | @cons k _ ks' _ h1 hl' =>
          have hm : k ∈ ks := by rw [hks]; simp
          have hdk : k.depth ≤ NK.depths ks := nk_depth_mem hm
          refine wpAny_bind (nk_hash k A.in1 _ _ x _ h1 (by show A.units + 1 + _ < _; omega) ?_)
          first
            | exact wpAny_pure ⟨done ++ [k], ks', by rw [hks]; simp, hl', by simp [hb, nk_hashes_snoc], by simp [nk_drawss_snoc, Nat.add_assoc]⟩
            | exact wpAny_bind (wpAny_pure (wpAny_pure ⟨done ++ [k], ks', by rw [hks]; simp, hl', by simp [hb, nk_hashes_snoc], by simp [nk_drawss_snoc, Nat.add_assoc]⟩))
      · rintro b s' ⟨done, left, hks, hl, hb, rfl⟩
        cases hl
        rw [List.append_nil] at hks
        subst hks
        show wpAny _ _ (retInt (Builtin.Tuple.tupleHashOf b.toList)) _ _ _
        rw [hb]
        refine wpAny_ret_mkInt ?_
        show wpAny _ _ (if (decide (-(2 : Int) ^ 63 ≤ Builtin.Tuple.tupleHashOf (NK.hashes w ks)) && decide (Builtin.Tuple.tupleHashOf (NK.hashes w ks) < 2 ^ 63)) = true then _ else _) Q E _
        rw [NK.hash, NK.draws] at h
        unfold reduceHash at h
        by_cases hr : (decide (-(2 : Int) ^ 63 ≤ Builtin.Tuple.tupleHashOf (NK.hashes w ks)) && decide (Builtin.Tuple.tupleHashOf (NK.hashes w ks) < 2 ^ 63)) = true
        · rw [if_pos hr]
          rw [if_pos hr] at h
          exact wpAny_pure (by simpa [Nat.add_assoc] using h)
        · rw [if_neg hr]
          rw [if_neg hr] at h
          exact wpAny_bind (wpAny_rule (wpAny_pure (by simpa [Nat.add_assoc] using h)))
  termination_by k => sizeOf k
  decreasing_by
    have := List.sizeOf_lt_of_mem hm
    simp only [NK.tup.sizeOf_spec]
    omega
/-! no own == within -/
theorem nk_quiet : ∀ (n : Nat) (k : NK) (v : Value) {A : Around} {E : Value → Shared → Prop} {s : Shared} {Q : Bool → Shared → Prop}, IsNK s.heap k v → k.depth ≤ n → Q true s → wpAny (model prog w) A (eqIsQuiet n v) Q E s
  | n, .non, _, A, E, s, Q, .non, _, h => by rw [eqIsQuiet_byValue _ rfl]; exact wpAny_pure h
  | n, .int _, _, A, E, s, Q, .int _ _, _, h => by rw [eqIsQuiet_byValue _ rfl]; exact wpAny_pure h
  | n, .str _, _, A, E, s, Q, .str _ _, _, h => by rw [eqIsQuiet_byValue _ rfl]; exact wpAny_pure h
  | 0, .tup ks, _, A, E, s, Q, _, hd, h => by rw [NK.depth] at hd; omega
  | n + 1, .tup ks, _, A, E, s, Q, .tup hk hi, hd, h => by
    rw [NK.depth] at hd
    obtain ⟨o, ho, hc, m, hda⟩ := hk
    have hT : s.TypeIs (.ref _) "tuple" := ⟨o, ho, hc⟩
    unfold eqIsQuiet
    refine wpAny_bind (wpAny_specialOf hT F.slot_tuple_eq.lookup ?_)
    show wpAny _ _ (isInstance (.ref _) (.type "tuple") >>= _) _ _ s
    refine wpAny_bind (wpAny_isInstance hT isSubtype_tuple_tuple ?_)
    simp only [Bool.not_true, Bool.false_eq_true, if_false]
    refine wpAny_bind (wpAny_seqItems ho hda ?_)
    refine wpAny_bind ?_
    show wpAny _ _ (forIn _ _ _) _ _ s
    rw [← Array.forIn_toList]
    refine wpAny_forIn_list _ (fun rest r s' => r.1 = none ∧ s' = s ∧ ∃ left, IsNKs s.heap left rest ∧ NK.depths left ≤ n) _ ?_ ?_ _ _ ⟨rfl, rfl, ks, hi, by omega⟩
    · rintro v rest r s' ⟨hr, rfl, left, hl, hdl⟩
      cases hl with
      | @cons k _ ks' _ h1 hl' =>
        rw [NK.depths] at hdl
        refine wpAny_bind (nk_quiet n k v h1 (by omega) ?_)
        simp only [Bool.not_true, Bool.false_eq_true, if_false]
        exact wpAny_pure ⟨rfl, rfl, ks', hl', by omega⟩
    · rintro ⟨r1, r2⟩ s' ⟨hr, rfl, _⟩
      simp only at hr
      subst hr
      exact wpAny_pure h
/-- the kind of such keys -/
def nkKind (prog : Program) (w : World) : HeapKind prog w NK where
  is := fun h k a => k.depth ≤ 8 ∧ IsNK h k (.ref a)
  hash := NK.hash w
  draws := NK.draws
  room := fun A => A.units + 8 < cLine
  inj := fun hx hy => IsNK.inj _ _ _ hx.2 hy.2
  keeps := fun x ho hd hs => ⟨x.1, IsNK.keeps ho hd hs _ _ x.2⟩
  pyHash := fun hu hk h => nk_hash _ _ _ _ _ _ hk.2 (by have := hk.1; omega) h
  eqBool := fun hu hx hy h => nk_eqAt _ _ _ _ _ _ hx.2 hy.2 (by have := hx.1; omega) _ _ _ _ h
  quiet := fun hk h => nk_quiet 8 _ _ hk.2 hk.1 h
end
end PySem

set_option Elab.async false
set_option linter.all false
set_option maxRecDepth 100000
/-! dicts with nested tuples as keys, in the layer -/
namespace AE
open PySem PySem.Spec PyProof.Rows L2 Evl
mutual
/-- the value v is the key k, by tracked tuples -/
inductive NAt (H : Hp) : V → NK → Prop
  | non : NAt H .non .non
  | int (i : Int) : NAt H (.int i) (.int i)
  | str (x : Str) : NAt H (.str x) (.str x)
  | tup {a : Addr} {xs : List V} {ks : List NK} : H a = some (.tup xs) → NAts H xs ks → NAt H (.ref a) (.tup ks)
inductive NAts (H : Hp) : List V → List NK → Prop
  | nil : NAts H [] []
  | cons {v : V} {k : NK} {vs : List V} {ks : List NK} : NAt H v k → NAts H vs ks → NAts H (v :: vs) (k :: ks)
end
def TxN (H H' : Hp) : Prop := ∀ a xs, H a = some (.tup xs) → H' a = some (.tup xs)
mutual
theorem NAt.tx {H H' : Hp} (e : TxN H H') : ∀ {v : V} {k : NK}, NAt H v k → NAt H' v k
  | _, _, .non => .non
  | _, _, .int i => .int i
  | _, _, .str x => .str x
  | _, _, .tup h t => .tup (e _ _ h) (NAts.tx e t)
theorem NAts.tx {H H' : Hp} (e : TxN H H') : ∀ {vs : List V} {ks : List NK}, NAts H vs ks → NAts H' vs ks
  | _, _, .nil => .nil
  | _, _, .cons h t => .cons (NAt.tx e h) (NAts.tx e t)
end
/-- one dict: its entries in order: key, where the key stands, value -/
abbrev NE := NK × Addr × V
def valN (kvs : List NE) (k : NK) : Option V := (kvs.find? fun x => decide (x.1 = k)).map (·.2.2)
def putN (kvs : List NE) (k : NK) (a : Addr) (v : V) : List NE :=
  if (valN kvs k).isSome then kvs.map (fun x => if x.1 = k then (x.1, x.2.1, v) else x) else kvs ++ [(k, a, v)]
def dropN (kvs : List NE) (k : NK) : List NE := kvs.filter fun x => !decide (x.1 = k)
abbrev NR : List NE → List (NK × Addr × Value) → Prop := Paired fun p q => p.1 = q.1 ∧ p.2.1 = q.2.1 ∧ RelV p.2.2 q.2.2
def entryN (w : World) (x : NK × Addr × Value) : DictEntry := ⟨NK.hash w x.1, .ref x.2.1, x.2.2⟩
def DN (w : World) (a : Addr) (kvs : List NE) (h : Heap) : Prop :=
  kvs.length ≤ sizeLine ∧ (a == sysModules) = false ∧ ∃ xs : List (NK × Addr × Value), NR kvs xs ∧
    ∃ o es ep, h.get? a = some o ∧ o.ExactDict ∧ o.data = .dict es ep ∧ es.toList = xs.map (entryN w) ∧ (xs.map (·.1)).Nodup
def dN (w : World) (a : Addr) (kvs : List NE) : HO := .ext (DN w a kvs)
/-- the keys stand as they are said to -/
def KeyOk (H : Hp) (e : NE) : Prop := e.1.depth ≤ 8 ∧ NAt H (.ref e.2.1) e.1
def KeysOk (H : Hp) (kvs : List NE) : Prop := ∀ e ∈ kvs, KeyOk H e
theorem KeysOk.tx {H H' : Hp} {kvs : List NE} (e : TxN H H') (h : KeysOk H kvs) : KeysOk H' kvs := fun x hx => ⟨(h x hx).1, (h x hx).2.tx e⟩
theorem NR.val {kvs : List NE} {xs : List (NK × Addr × Value)} (r : NR kvs xs) (k : NK) : RelO (valN kvs k) ((atKey xs k).map (·.2)) := by
  unfold valN atKey
  induction r with
  | nil => exact True.intro
  | @cons p q ps qs h t ih =>
    rw [List.find?_cons, List.find?_cons, ← h.1]
    by_cases e : p.1 = k
    · rw [decide_eq_true e]
      exact h.2.2
    · rw [decide_eq_false e]
      exact ih
theorem NR.keys {kvs : List NE} {xs : List (NK × Addr × Value)} (r : NR kvs xs) : kvs.map (·.1) = xs.map (·.1) := by
  induction r with
  | nil => rfl
  | cons h t ih => rw [List.map_cons, List.map_cons, h.1, ih]
theorem NR.repl {v : V} {u : Value} (ry : RelV v u) (k : NK) : ∀ {kvs : List NE} {xs : List (NK × Addr × Value)}, NR kvs xs → NR (kvs.map fun x => if x.1 = k then (x.1, x.2.1, v) else x) (xs.map (putAt k u))
  | _, _, .nil => .nil
  | _, _, .cons (a := p) (b := q) h t => by
    rw [List.map_cons, List.map_cons]
    refine .cons ?_ (NR.repl ry k t)
    unfold putAt
    rw [← h.1]
    by_cases e : p.1 = k
    · rw [if_pos e, if_pos e]; exact ⟨rfl, h.2.1, ry⟩
    · rw [if_neg e, if_neg e]; exact h
theorem NR.put {kvs : List NE} {xs : List (NK × Addr × Value)} (r : NR kvs xs) (k : NK) (a : Addr) {v : V} {u : Value} (ry : RelV v u) : NR (putN kvs k a v) (storedH xs k a u) := by
  have e : (valN kvs k).isSome = (atKey xs k).isSome := by
    rw [(r.val k).isSome_eq, Option.isSome_map]
  unfold putN storedH
  rw [e]
  by_cases q : (atKey xs k).isSome = true
  · rw [if_pos q, if_pos q]; exact r.repl ry k
  · rw [if_neg q, if_neg q]; exact Paired.snoc r ⟨rfl, rfl, ry⟩
theorem length_putN (kvs : List NE) (k : NK) (a : Addr) (v : V) : (putN kvs k a v).length ≤ kvs.length + 1 := by
  unfold putN
  split
  · rw [List.length_map]; omega
  · rw [List.length_append]; exact Nat.le_refl _
section
variable {P : Program} {w : World} {H : Hp} {h : Heap} {a : Addr}
mutual
theorem nat_is (ok : HOk P w H h) : ∀ {v : V} {k : NK} {u : Value}, NAt H v k → RelV v u → IsNK h k u
  | _, _, _, .non, r => by cases r; exact .non
  | _, _, _, .int i, r => by obtain ⟨t, rfl⟩ := r; exact .int i t
  | _, _, _, .str x, r => by obtain ⟨t, rfl⟩ := r; exact .str x t
  | _, _, _, .tup (a := a) (xs := xs) (ks := ks) ha t, r => by
    cases r
    obtain ⟨_, its, rv, hT⟩ := (show ObjOk P w H h a (.tup xs) from ok a _ ha)
    exact .tup hT (by simpa using nats_is ok t rv)
theorem nats_is (ok : HOk P w H h) : ∀ {vs : List V} {ks : List NK} {us : List Value}, NAts H vs ks → Vals vs us → IsNKs h ks us
  | _, _, _, .nil, .nil => .nil
  | _, _, _, .cons hv ht, .cons r rs => .cons (nat_is ok hv r) (nats_is ok ht rs)
end
theorem key_is (ok : HOk P w H h) {e : NE} (k : KeyOk H e) : (nkKind P w).is h e.1 e.2.1 := ⟨k.1, nat_is ok k.2 rfl⟩
theorem dn_stable (w : World) (a : Addr) (kvs : List NE) : ∀ h1 h2 : Heap, DN w a kvs h1 → (∀ o, h1.get? a = some o → h2.get? a = some o) → DN w a kvs h2 := by
  rintro h1 h2 ⟨z, y, xs, r, o, es, ep, ho, rest⟩ st
  exact ⟨z, y, xs, r, o, es, ep, st _ ho, rest⟩
theorem dn_ok {kvs : List NE} (d : DN w a kvs h) : ObjOk P w H h a (dN w a kvs) := by
  refine ⟨d, ?_, dn_stable w a kvs⟩
  obtain ⟨_, _, _, _, o, _, _, ho, _⟩ := d
  exact ⟨o, ho⟩
theorem dn_rd {kvs : List NE} (ok : HOk P w H h) (e : Rd H a (dN w a kvs)) (hk : KeysOk H kvs) : kvs.length ≤ sizeLine ∧ (a == sysModules) = false ∧
    ∃ xs, NR kvs xs ∧ h.DictOfH (nkKind P w) a xs := by
  have q := e.ok ok
  obtain ⟨⟨z, y, xs, r, o, es, ep, ho, hx, hd, he, hn⟩, _⟩ := q
  refine ⟨z, y, xs, r, o, es, ep, ho, hx, hd, he, fun x hx => ?_, hn⟩
  have all : ∀ {l : List NE} {m : List (NK × Addr × Value)}, KeysOk H l → NR l m → ∀ x ∈ m, (nkKind P w).is h x.1 x.2.1 := by
    intro l m hk q
    induction q with
    | nil => intro x hx; exact nomatch hx
    | @cons p q ps qs hq t ih =>
      intro x hx
      rcases List.mem_cons.mp hx with e | hx
      · subst e
        have := key_is ok (hk p (List.mem_cons_self ..))
        rw [hq.1, hq.2.1] at this
        exact this
      · exact ih (fun e he => hk e (List.mem_cons_of_mem _ he)) x hx
  exact all hk r x hx
end
/-- a read of the dict at a by the key y -/
def NGet (w : World) (H : Hp) (a : Addr) (y : V) (o : Option V) : Prop := ∃ kvs k b, Rd H a (dN w a kvs) ∧ KeysOk H kvs ∧ y = .ref b ∧ k.depth ≤ 8 ∧ NAt H (.ref b) k ∧ o = valN kvs k
def NPut (w : World) (H : Hp) (a : Addr) (y v : V) (H' : Hp) : Prop := ∃ kvs k b, H a = some (dN w a kvs) ∧ KeysOk H kvs ∧ y = .ref b ∧ k.depth ≤ 8 ∧ NAt H (.ref b) k ∧ kvs.length < sizeLine ∧ H' = upd H a (dN w a (putN kvs k b v))
theorem nk_room {P : Program} {w : World} {A : Around} (hu : A.units + 64 < cLine) : (nkKind P w).room A.in1 := by
  show A.units + 1 + 8 < cLine
  omega
section
variable {X : Cx} {pins : List (Addr × Obj)} {σ : L2.St} {H : Hp} {s : Shared} {a : Addr} {y v d : V} {u r : Value} {o : Option V} {A : Around} {E : Value → Shared → Prop}
theorem n_getItem {Q : Value → Shared → Prop} (hu : A.units + 64 < cLine) (I : Inv X pins σ H s) (g : NGet X.w H a y (some v)) (ry : RelV y u) (h : ∀ w' s', Inv X pins σ H s' → RelV v w' → Q w' s') :
    wpAny (model X.prog X.w) A (getItem (.ref a) u) Q E s := by
  obtain ⟨kvs, k, b, e, hk, ey, dk, eb, l⟩ := g
  subst ey
  cases (show u = Value.ref b from ry)
  obtain ⟨z, hd, xs, rel, dd⟩ := dn_rd I.hok e hk
  obtain ⟨w', hw, rw'⟩ := RelO.some_of (v := v) (o := (atKey xs k).map (·.2)) (by rw [l]; exact rel.val k)
  obtain ⟨p, hp, hp2⟩ := Option.map_eq_some_iff.mp hw
  refine wpAny_getItem_heap (nk_room hu) ⟨dk, nat_is I.hok eb rfl⟩ dd hp ?_
  rw [hp2]
  exact h w' _ (I.tok _) rw'
theorem n_in {Q : Value → Shared → Prop} (hu : A.units + 64 < cLine) (I : Inv X pins σ H s) (g : NGet X.w H a y o) (ry : RelV y u) (h : ∀ s', Inv X pins σ H s' → Q (.bool o.isSome) s') :
    wpAny (model X.prog X.w) A (compareOp .In u (.ref a)) Q E s := by
  obtain ⟨kvs, k, b, e, hk, ey, dk, eb, l⟩ := g
  subst ey
  cases (show u = Value.ref b from ry)
  obtain ⟨z, hd, xs, rel, dd⟩ := dn_rd I.hok e hk
  refine wpAny_in_heap (nk_room hu) ⟨dk, nat_is I.hok eb rfl⟩ hd dd ?_
  have q := (rel.val k).isSome_eq
  rw [Option.isSome_map] at q
  rw [← q, ← l]
  exact h _ (I.tok _)
theorem n_notIn {Q : Value → Shared → Prop} (hu : A.units + 64 < cLine) (I : Inv X pins σ H s) (g : NGet X.w H a y o) (ry : RelV y u) (h : ∀ s', Inv X pins σ H s' → Q (.bool (!o.isSome)) s') :
    wpAny (model X.prog X.w) A (compareOp .NotIn u (.ref a)) Q E s := by
  obtain ⟨kvs, k, b, e, hk, ey, dk, eb, l⟩ := g
  subst ey
  cases (show u = Value.ref b from ry)
  obtain ⟨z, hd, xs, rel, dd⟩ := dn_rd I.hok e hk
  refine wpAny_notIn_heap (nk_room hu) ⟨dk, nat_is I.hok eb rfl⟩ hd dd ?_
  have q := (rel.val k).isSome_eq
  rw [Option.isSome_map] at q
  rw [← q, ← l]
  exact h _ (I.tok _)
theorem dn_after {X : Cx} {h' : Heap} {kvs : List NE} {xs : List (NK × Addr × Value)} {H' : Hp} (z : kvs.length ≤ sizeLine) (hd : (a == sysModules) = false) (r : NR kvs xs) (dd : h'.DictOfH (nkKind X.prog X.w) a xs) : ObjOk X.prog X.w H' h' a (dN X.w a kvs) := by
  obtain ⟨q, es, ep, hq, h2, h3, h4, _, h5⟩ := dd
  exact dn_ok ⟨z, hd, xs, r, q, es, ep, hq, h2, h3, h4, h5⟩
theorem n_setItem {H' : Hp} {Q : Unit → Shared → Prop} (hu : A.units + 64 < cLine) (I : Inv X pins σ H s) (g : NPut X.w H a y v H') (ry : RelV y u) (rv : RelV v r) (h : ∀ s', Inv X pins σ H' s' → Q () s') :
    wpAny (model X.prog X.w) A (setItem (.ref a) u r) Q E s := by
  obtain ⟨kvs, k, b, e, hk, ey, dk, eb, l, eH⟩ := g
  subst ey eH
  cases (show u = Value.ref b from ry)
  obtain ⟨z, hd, xs, rel, dd⟩ := dn_rd I.hok (.inl e) hk
  have hz : xs.length ≤ sizeLine := by rw [← Paired.length rel]; exact z
  have hl : (putN kvs k b v).length ≤ sizeLine := by have := length_putN kvs k b v; omega
  refine wpAny_setItem_heap (hsz := hz) (nk_room hu) ⟨dk, nat_is I.hok eb rfl⟩ dd fun h' dd' hs => h _ ?_
  have he : ∃ q, h'.get? a = some q := let ⟨q, _, _, hq, _⟩ := dd'; ⟨q, hq⟩
  exact d_write I (by rw [e]; exact True.intro) hs he (dn_after hl hd (rel.put k b rv) dd')
theorem n_get2 {Q : Value → Shared → Prop} (hu : A.units + 64 < cLine) (I : Inv X pins σ H s) (g : NGet X.w H a y o) (ry : RelV y u) (rd : RelV d r) (h : ∀ w' s', Inv X pins σ H s' → RelV (o.getD d) w' → Q w' s') :
    wpAny (model X.prog X.w) A (call (.builtin "dict.get") [.ref a, u, r]) Q E s := by
  obtain ⟨kvs, k, b, e, hk, ey, dk, eb, l⟩ := g
  subst ey
  cases (show u = Value.ref b from ry)
  obtain ⟨z, hd, xs, rel, dd⟩ := dn_rd I.hok e hk
  refine call_meetsIn PySem.F.slot_dict_get dd.typeIs PySem.F.entry_dict_get (PySem.F.args_dict_get_3 _ _ _) (meetsH_dict_get_default (nkKind X.prog X.w) a b hd r) ⟨nk_room hu, k, xs, ⟨dk, nat_is I.hok eb rfl⟩, dd, h _ _ (I.tok _) ?_⟩
  rw [l]
  exact (rel.val k).getD rd
theorem n_setd {kvs : List NE} {k : NK} {b : Addr} {Q : Value → Shared → Prop} (hu : A.units + 64 < cLine) (I : Inv X pins σ H s) (hD : H a = some (dN X.w a kvs)) (hk : KeysOk H kvs) (dk : k.depth ≤ 8) (eb : NAt H (.ref b) k) (hl : kvs.length < sizeLine)
    (rv : RelV v r) (h1 : ∀ x, valN kvs k = some x → ∀ w1 s1, Inv X pins σ H s1 → RelV x w1 → Q w1 s1) (h2 : valN kvs k = none → ∀ s1, Inv X pins σ (upd H a (dN X.w a (putN kvs k b v))) s1 → Q r s1) :
    wpAny (model X.prog X.w) A (call (.builtin "dict.setdefault") [.ref a, .ref b, r]) Q E s := by
  obtain ⟨_, hd, xs, rel, dd⟩ := dn_rd I.hok (.inl hD) hk
  have hx : xs.length ≤ sizeLine := by
    have e := Paired.length rel
    omega
  have hz : (putN kvs k b v).length ≤ sizeLine := Nat.le_trans (length_putN kvs k b v) (by omega)
  refine call_setdefault_heap (knd := nkKind X.prog X.w) (hsz := hx) (nk_room hu) ⟨dk, nat_is I.hok eb rfl⟩ hd dd (fun p hp => ?_) fun hn h' dd1 hs => ?_
  · have q := rel.val k
    rw [hp] at q
    cases q0 : valN kvs k with
    | none => rw [q0] at q; exact q.elim
    | some x => rw [q0] at q; exact h1 x q0 _ _ (I.tok _) q
  · have q := rel.val k
    rw [hn] at q
    cases q0 : valN kvs k with
    | some x => rw [q0] at q; exact q.elim
    | none =>
      refine h2 q0 _ ?_
      have he : ∃ q, h'.get? a = some q := let ⟨q, _, _, hq, _⟩ := dd1; ⟨q, hq⟩
      exact d_write I (by rw [hD]; trivial) hs he (dn_after hz hd (rel.put k b rv) dd1)
end
/-- a is a dict of this kind -/
def IsN (w : World) (H : Hp) (a : Addr) : Prop := ∃ kvs, Rd H a (dN w a kvs)
theorem isN_at {X : Cx} {pins : List (Addr × Obj)} {σ : L2.St} {H : Hp} {s : Shared} {a : Addr} (I : Inv X pins σ H s) (d : IsN X.w H a) :
    s.TypeIs (.ref a) "dict" ∧ (∀ b, Value.ref a = .ref b → ∃ ob, s.heap.get? b = some ob ∧ ob.dict = none) ∧ (a == sysModules) = false := by
  obtain ⟨kvs, e⟩ := d
  obtain ⟨⟨z, hd, xs, r, o, es, ep, ho, hx, _⟩, _⟩ := e.ok I.hok
  refine ⟨⟨o, ho, hx.1⟩, fun b q => ?_, hd⟩
  cases q
  exact ⟨o, ho, hx.2.1⟩
def tNNew (w : World) : TE := fun _ H Q => ∀ p, H p = none → Q (.ref p) (upd H p (dN w p []))
def tNGet (w : World) (td ty : TE) : TE := fun σ H Q => td σ H fun x H1 => ty σ H1 fun y H2 => ∃ a v, x = .ref a ∧ NGet w H2 a y (some v) ∧ Q v H2
def tNIn (w : World) (ty td : TE) : TE := fun σ H Q => ty σ H fun y H1 => td σ H1 fun x H2 => ∃ a o, x = .ref a ∧ NGet w H2 a y o ∧ Q (.bl o.isSome) H2
def tNNotIn (w : World) (ty td : TE) : TE := fun σ H Q => ty σ H fun y H1 => td σ H1 fun x H2 => ∃ a o, x = .ref a ∧ NGet w H2 a y o ∧ Q (.bl (!o.isSome)) H2
def sNPut (w : World) (td ty tv : TE) : TS := fun D σ H => tv σ H fun v H1 => td σ H1 fun x H2 => ty σ H2 fun y H3 => ∃ a H4, x = .ref a ∧ NPut w H3 a y v H4 ∧ D.nx σ H4
def tNGet2 (w : World) (td ty tx : TE) : TE := fun σ H Q => td σ H fun x H1 => ∃ a, x = .ref a ∧ IsN w H1 a ∧ ty σ H1 fun y H2 => tx σ H2 fun z H3 => ∃ o, NGet w H3 a y o ∧ Q (o.getD z) H3
def tSetdN (w : World) (td ty tx : TE) : TE := fun σ H Q => td σ H fun x Ha => ∃ a, x = .ref a ∧ IsN w Ha a ∧ ty σ Ha fun y Hb => tx σ Hb fun z Hc => ∃ (kvs : List NE) (k : NK) (b : Addr), Hc a = some (dN w a kvs) ∧ KeysOk Hc kvs ∧ y = .ref b ∧ k.depth ≤ 8 ∧ NAt Hc (.ref b) k ∧ kvs.length < sizeLine ∧
  (∀ v, valN kvs k = some v → Q v Hc) ∧ (valN kvs k = none → Q z (upd Hc a (dN w a (putN kvs k b z))))
section
variable {X : Cx} {o i e f value : Expr} {pos pos' tpos apos cpos : Pos} {td ty tv tx : TE}
theorem pe_nnew : PE X (.Dict [] [] pos) (tNNew X.w) := ⟨fun pins s σ H Q I h =>
  wpAny_Dict_empty ⟨.ref s.heap.objs.size, _, I.laid (a := s.heap.objs.size) (o := dN X.w s.heap.objs.size []) (t' := s.toks) (fun _ _ q => Heap.get?_push_of_some _ q) (Nat.le_refl _)
    (dn_ok ⟨Nat.zero_le _, beq_eq_false_iff_ne.mpr (Ne.symm (Nat.ne_of_lt I.big)), [], .nil, _, #[], 0, Heap.get?_push_size _ rfl, ⟨rfl, rfl, rfl⟩, rfl, rfl, List.nodup_nil⟩), rfl, h _ (I.hok.fresh (Nat.le_refl _))⟩⟩
theorem pe_nget (hu : X.A.units + 64 < cLine) (ho : PE X o td) (hi : PE X i ty) (hs : NoSl i) : PE X (.Subscript o i pos) (tNGet X.w td ty) := by
  refine ⟨fun pins s σ H Q I h => ?_⟩
  refine subD_of PySem.F.slot_dict_getitem.lookup hs (thn (ho.run pins s σ H _ I h) fun u s1 ⟨x, H1, I1, rx, q1⟩ => thn (hi.run pins s1 σ H1 _ I1 q1) fun iv s2 ⟨y, H2, I2, ry, a, v, ex, g, q2⟩ => ?_)
  subst ex
  obtain rfl : u = Value.ref a := rx
  have dd := isN_at I2 (let ⟨kvs, _, _, e, _⟩ := g; ⟨kvs, e⟩)
  exact ⟨dd.1, n_getItem hu I2 g ry fun w' s3 I3 rw' => ⟨v, H2, I3, rw', q2⟩⟩
theorem pc_nin (hu : X.A.units + 64 < cLine) (hi : PE X i ty) (ho : PE X o td) : PC X .In i o (tNIn X.w ty td) := by
  refine ⟨fun pins s σ H Q I h => ?_⟩
  refine thn (hi.run pins s σ H _ I h) fun iv s1 ⟨y, H1, I1, ry, q1⟩ => thn (ho.run pins s1 σ H1 _ I1 q1) fun u s2 ⟨x, H2, I2, rx, a, ov, ex, g, q2⟩ => ?_
  subst ex
  obtain rfl : u = Value.ref a := rx
  exact n_in hu I2 g ry fun s3 I3 => ⟨.bl ov.isSome, H2, I3, rfl, q2⟩
theorem pc_nnotin (hu : X.A.units + 64 < cLine) (hi : PE X i ty) (ho : PE X o td) : PC X .NotIn i o (tNNotIn X.w ty td) := by
  refine ⟨fun pins s σ H Q I h => ?_⟩
  refine thn (hi.run pins s σ H _ I h) fun iv s1 ⟨y, H1, I1, ry, q1⟩ => thn (ho.run pins s1 σ H1 _ I1 q1) fun u s2 ⟨x, H2, I2, rx, a, ov, ex, g, q2⟩ => ?_
  subst ex
  obtain rfl : u = Value.ref a := rx
  exact n_notIn hu I2 g ry fun s3 I3 => ⟨.bl (!ov.isSome), H2, I3, rfl, q2⟩
theorem ps_nput (hu : X.A.units + 64 < cLine) (ho : PE X o td) (hi : PE X i ty) (hv : PE X value tv) (hs : swapsWith value (some (.Subscript o i pos')) pos.line X.env = pure false) :
    PS X (.Assign [.Subscript o i pos'] value pos) (sNPut X.w td ty tv) := by
  refine ⟨fun pins s σ H D I h => ?_⟩
  refine wpAny_Assign_Subscript (thn (hv.run pins s σ H _ I h) fun r s1 ⟨v, H1, I1, rv, q1⟩ => thn (ho.run pins s1 σ H1 _ I1 q1) fun u s2 ⟨x, H2, I2, rx, q2⟩ => thn (hi.run pins s2 σ H2 _ I2 q2) fun iv s3 ⟨y, H3, I3, ry, a, H4, ex, g, q3⟩ => ?_) hs
  subst ex
  obtain rfl : u = Value.ref a := rx
  exact n_setItem hu I3 g ry rv fun s4 I4 => ⟨σ, H4, I4, q3⟩
theorem pe_nget2 (hu : X.A.units + 64 < cLine) (ho : PE X o td) (he : PE X e ty) (hf : PE X f tx) (m : M2 X o "get" apos e f cpos) : PE X (.Call (.Attribute o "get" apos) [e, f] [] cpos) (tNGet2 X.w td ty tx) := by
  refine ⟨fun pins s σ H Q I h => ?_⟩
  refine wpAny_Call_method m.base m.few m.line PySem.F.plainAttrs_dict PySem.F.slot_dict_get PySem.F.type_dict_get (thn (ho.run pins s σ H _ I h) fun u s1 ⟨x, H1, I1, rx, a, ex, d, q1⟩ => ?_)
  subst ex
  obtain rfl : u = Value.ref a := rx
  obtain ⟨t1, t2, _⟩ := isN_at I1 d
  refine ⟨t1, t2, ?_⟩
  rw [m.trees]
  refine Calls.callWith_builtin rfl (Calls.evalArgs_plain (Calls.spliced_cons (thn (he.run pins s1 σ H1 _ I1 q1) fun iv s2 ⟨y, H2, I2, ry, q2⟩ =>
    Calls.spliced_cons (thn (hf.run pins s2 σ H2 _ I2 q2) fun fv s3 ⟨z, H3, I3, rz, ov, g, q3⟩ => Calls.spliced_nil ?_))))
  exact n_get2 hu I3 g ry rz fun w' s4 I4 rw' => ⟨_, H3, I4, rw', q3⟩
theorem pe_setdN (hu : X.A.units + 64 < cLine) (ho : PE X o td) (he : PE X e ty) (hf : PE X f tx) (m : M2 X o "setdefault" apos e f cpos) : PE X (.Call (.Attribute o "setdefault" apos) [e, f] [] cpos) (tSetdN X.w td ty tx) := by
  refine ⟨fun pins s σ H Q I h => ?_⟩
  refine wpAny_Call_method m.base m.few m.line PySem.F.plainAttrs_dict PySem.F.slot_dict_setdefault PySem.F.type_dict_setdefault (thn (ho.run pins s σ H _ I h) fun u sa ⟨x, Ha, Ia, rx, a, ex, d, q1⟩ => ?_)
  subst ex
  cases rx
  obtain ⟨t1, t2, _⟩ := isN_at Ia d
  refine ⟨t1, t2, ?_⟩
  rw [m.trees]
  refine Calls.callWith_builtin rfl (Calls.evalArgs_plain (Calls.spliced_cons (thn (he.run pins sa σ Ha _ Ia q1) fun iv sb ⟨y, Hb, Ib, ry, q2⟩ => Calls.spliced_cons (thn (hf.run pins sb σ Hb _ Ib q2) fun fv sc hc => Calls.spliced_nil ?_))))
  obtain ⟨z, Hc, Ic, rz, kvs, k, b, ea, hk, ey, dk, eb, hl, q3, q4⟩ := hc
  subst ey
  cases ry
  exact n_setd hu Ic ea hk dk eb hl rz (fun v hv w1 s1 I1 r1 => ⟨v, _, I1, r1, q3 v hv⟩) fun hn s1 I1 => ⟨z, _, I1, rz, q4 hn⟩
end
end AE

set_option Elab.async false
set_option linter.all false
set_option maxRecDepth 100000
set_option maxHeartbeats 2000000
namespace AE
open PySem PySem.Spec PyProof.Rows L2 Evl
/-! ### own operators -/
section
variable {prog : Program} {w : World} {A : Around} {E : Value → Shared → Prop} {s : Shared} {K : PySem.W.Frag} {x C f : Addr} {ox : Obj} {odd : Option Obj}
theorem truthy_at {M : Model} {Q : Bool → Shared → Prop} (X : K.In s.heap) (I : PySem.W.InstAt s.heap x ox C odd) (hs : PySem.W.findIn K (.ref C) "__bool__" = some (some (.ref f))) (hf : PySem.W.isFn K (.ref f) = true)
    (h : wpAny M A (call (.ref f) [.ref x]) (fun r s1 => ∃ b, r = Value.bool b ∧ Q b s1) E s) : wpAny M A (truthy (.ref x)) Q E s := by
  unfold truthy
  refine wpAny_bind (m := callSpecial? (.ref x) (Str.ofString "__bool__")) (PySem.W.special_fn X I hs (beq_iff_eq.mp hf) (wpAny_mono h (fun r s1 hr => ?_) fun _ _ y => y))
  obtain ⟨b, rfl, q⟩ := hr
  exact wpAny_pure q
/-- bool(x) by an own __bool__ -/
theorem bool_at {Q : Value → Shared → Prop} (X : K.In s.heap) (I : PySem.W.InstAt s.heap x ox C odd) (hs : PySem.W.findIn K (.ref C) "__bool__" = some (some (.ref f))) (hf : PySem.W.isFn K (.ref f) = true)
    (h : wpAny (model prog w) A.in1.in1 (call (.ref f) [.ref x]) (fun r s1 => ∃ b, r = Value.bool b ∧ Q (.bool b) s1) E s) : wpAny (model prog w) A (call (.type "bool") [.ref x]) Q E s := by
  refine callType_codes (T := "bool") (Bi := Builtin.«object.__init__») (Q₁ := fun r s1 => ∃ b, r = Value.bool b ∧ Q r s1) PySem.F.called_bool (PySem.F.typeCall_bool_1 _) PySem.F.entry_object_init ?_ ?_
  · refine codeAny_of_tree ?_
    show wpAny _ A.in1.in1 (do checkBuiltinCall "bool.__new__" ⟨[.type "bool", .ref x], []⟩; again (.builtin "bool.__new__" ⟨[.type "bool", .ref x], []⟩)) _ _ s
    refine wpAny_bind (wpAny_of_eq (PySem.F.newCall_bool_1 _) (wpAny_pure ⟨plainId_quiet (by decide +kernel) _, codeAny_builtin PySem.F.entry_bool_new ?_⟩))
    rw [Around.under_plainId (by decide +kernel) _]
    unfold Builtin.«bool.__new__»
    refine wpAny_bind (wpAny_of_eq (a := true) (by kernel_rfl) ?_)
    refine PySem.W.KFB.if_not rfl ?_
    refine wpAny_bind (wpAny_of_eq (a := true) (by rw [isSubtype_type]; kernel_rfl) ?_)
    refine PySem.W.KFB.if_not rfl ?_
    refine wpAny_bind (wpAny_of_eq (a := [Value.ref x]) (by rfl) ?_)
    refine wpAny_bind (truthy_at X I hs hf (wpAny_mono h (fun r s1 hr => ?_) fun _ _ y => y))
    obtain ⟨b, rfl, q⟩ := hr
    exact ⟨b, rfl, wpAny_pure ⟨b, rfl, q⟩⟩
  · rintro obj s1 ⟨b, rfl, q⟩
    exact ⟨rfl, PySem.F.args_object_init_2 _ _, object_init_meets PySem.F.called_bool.init.lookup PySem.F.called_bool.made (by decide) prog w A.in1 _ s1 ⟨rfl, rfl, q⟩⟩
end
section
variable {X : Cx} {pins : List (Addr × Obj)} {σ : L2.St} {H : Hp} {s : Shared} {f C : Addr} {fd : FuncData} {ps : List Str} {sp : Sp} {CX : CXT} {k : Nat} {Q : VK} {E : XK} {vs : List V} {us : List Value}
/-- a call of a def somewhat deeper -/
theorem run_deep {A : Around} (F : FnOk X.prog X.w X.K X.mg X.base CX k f fd ps sp) (hr : Room k A) (e0 : Env0 X.prog X.w X.K X.mg X.base A X.stack s H) (hb : Binds X.K fd ps []) (hx : Passes CX X E)
    (I : Inv X pins σ H s) (r : Vals vs us) (h : sp vs H Q E) : wpAny (model X.prog X.w) A (call (.ref f) us) (EP X pins σ Q) X.xe s := by
  have hl : (us ++ []).length = ps.length := by
    rw [List.append_nil, ← r.length]
    exact F.len _ _ _ _ h
  have bb := hb s us I.kIn hl
  rw [List.append_nil] at bb
  refine wpAny_call (codeAny_mono (F.run A X.stack s H ⟨us, []⟩ us vs Q E hr e0 bb r h) fun r s' hq => ?_)
  cases r with
  | error e => exact hx pins σ H s e s' I hq
  | ok fl =>
    cases fl with
    | ret u => exact I.after hq
    | next => exact False.elim hq
    | brk => exact False.elim hq
    | cont => exact False.elim hq
theorem inst_in {dx : Addr} {fs : List (Str × V)} {a : Addr} (I : Inv X pins σ H s) (h : H a = some (.ins C dx fs)) : ∃ od, PySem.W.InstAt s.heap a (PySem.W.instObj C dx) C (some od) := by
  obtain ⟨_, _, _, e, mA, hn, _⟩ := I.hok a _ h
  obtain ⟨o, _, _, e2, _⟩ := id hn
  exact ⟨o, e, rfl, rfl, e2⟩
/-- bool(o) -/
def rBoolO (C : Addr) (sp : Sp) (E : XK) : List V → Hp → VK → Prop := fun xs H Q => ∃ a dx fs, xs = [.ref a] ∧ H a = some (.ins C dx fs) ∧ sp [.ref a] H (fun v H1 => ∃ b, v = .bl b ∧ Q (.bl b) H1) E
theorem c_boolO (hs : Meth X.K C "__bool__" f) (F : FnOk X.prog X.w X.K X.mg X.base CX k f fd ps sp) (hr : Room (k + 2) X.A) (hb : Binds X.K fd ps []) (hx : Passes CX X E) : CallR X (.type "bool") (rBoolO C sp E) := by
  rintro pins s σ H xs us Q I r ⟨a, dx, fs, rfl, ha, q⟩
  cases r with
  | cons ra rt =>
    cases rt
    cases ra
    obtain ⟨od, J⟩ := inst_in I ha
    refine bool_at I.kIn J hs.at_ hs.fn (wpAny_mono (run_deep (vs := [.ref a]) F (show Room (k + 1) X.A.in1 from Room.in1 hr).in1 I.env0.in1.in1 hb hx I (.cons rfl .nil) q) (fun r s1 hr => ?_) fun _ _ y => y)
    obtain ⟨v, H1, I1, rv, b, rfl, q1⟩ := hr
    exact ⟨b, rv, .bl b, H1, I1, rfl, q1⟩
/-- o[i] -/
def tIxO (C : Addr) (sp : Sp) (E : XK) (ta tb : TE) : TE := fun σ H Q => ta σ H fun x H1 => tb σ H1 fun y H2 => ∃ a dx fs, x = .ref a ∧ H2 a = some (.ins C dx fs) ∧ sp [.ref a, y] H2 Q E
theorem pe_ixO {a b : Expr} {ta tb : TE} {pos : Pos} (hs : Meth X.K C "__getitem__" f) (hfn : PySem.W.fnIn X.K f = true) (F : FnOk X.prog X.w X.K X.mg X.base CX k f fd ps sp) (hr : Room (k + 1) X.A) (hb : Binds X.K fd ps []) (hx : Passes CX X E)
    (pa : PE X a ta) (pb : PE X b tb) (hsl : ∀ v u, subscripted b true v u = runValue (.builtin "lifetime.subscript" ⟨[v, u], []⟩) := by intro _ _; with_unfolding_all rfl) : PE X (.Subscript a b pos) (tIxO C sp E ta tb) := by
  refine ⟨fun pins s σ H Q I h => Subscript_ (binT pa pb I h fun v u s2 x y H2 I2 rx ry q => ?_)⟩
  obtain ⟨p, dx, fs, rfl, hp, q⟩ := q
  cases rx
  obtain ⟨od, J⟩ := inst_in I2 hp
  obtain ⟨m, hF⟩ := I2.fr
  exact PySem.W.sub_K hF I2.ok.mod.kin J hs.at_ hfn hs.fn (run_deep (vs := [.ref p, y]) F hr.in1 I2.env0.in1 hb hx I2 (.cons rfl (.cons ry .nil)) q) (hsl _ _)
end
end AE

set_option Elab.async false
set_option linter.all false
set_option maxRecDepth 100000
namespace AE
open PySem PySem.Spec PyProof.Rows L2 Evl
/-! slices from the front -/
theorem cutV_to (xs : List V) (k : Nat) : cutV xs none (some (k : Int)) = xs.take k := by
  unfold cutV
  rw [HT.sIx_none, HT.sIx_nat, List.drop_zero, Nat.sub_zero, List.take_eq_take_iff]
  omega
theorem cutV_from (xs : List V) (k : Nat) : cutV xs (some (k : Int)) none = xs.drop k := by
  unfold cutV
  rw [HT.sIx_none, HT.sIx_nat]
  by_cases h : k ≤ xs.length
  · rw [Nat.min_eq_left h]
    exact List.take_of_length_le (by rw [List.length_drop]; omega)
  · rw [Nat.min_eq_right (by omega), List.drop_length, List.drop_of_length_le (by omega), List.take_nil]
theorem cutV_mid (xs : List V) (a b : Nat) : cutV xs (some (a : Int)) (some (b : Int)) = (xs.take b).drop a := by
  unfold cutV
  rw [HT.sIx_nat, HT.sIx_nat, List.drop_take]
  by_cases h : a ≤ xs.length
  · rw [Nat.min_eq_left h, List.take_eq_take_iff, List.length_drop]
    omega
  · rw [List.drop_of_length_le (by omega), List.drop_of_length_le (by omega)]
    simp
theorem cutS_to (z : Str) (k : Nat) : cutS z none (some (k : Int)) = ⟨(z.cps.toList.take k).toArray⟩ := by
  unfold cutS
  have e : z.length = z.cps.toList.length := rfl
  rw [HT.sIx_none, HT.sIx_nat, List.drop_zero, Nat.sub_zero, e]
  congr 2
  rw [List.take_eq_take_iff]
  omega
theorem cutS_mid (z : Str) (a b : Nat) : cutS z (some (a : Int)) (some (b : Int)) = ⟨((z.cps.toList.take b).drop a).toArray⟩ := by
  unfold cutS
  have e : z.length = z.cps.toList.length := rfl
  rw [HT.sIx_nat, HT.sIx_nat, List.drop_take, e]
  congr 2
  by_cases h : a ≤ z.cps.toList.length
  · rw [Nat.min_eq_left h, List.take_eq_take_iff, List.length_drop]
    omega
  · rw [List.drop_of_length_le (by omega), List.drop_of_length_le (by omega)]
    simp
theorem join_signs : ∀ l : List Nat, Txt.join (Str.ofString "") (l.map fun c => ⟨#[c]⟩) = ⟨l.toArray⟩ := by
  have h : ∀ (l : List Nat), Str.join (Str.ofString "") (l.map fun c => (⟨#[c]⟩ : Str)) = ⟨l.toArray⟩ := by
    intro l
    induction l with
    | nil => rfl
    | cons c r ih =>
      cases r with
      | nil => rfl
      | cons d r =>
        have e : Str.join (Str.ofString "") ((c :: d :: r).map fun c => (⟨#[c]⟩ : Str)) = (⟨#[c]⟩ : Str) ++ Str.ofString "" ++ Str.join (Str.ofString "") ((d :: r).map fun c => (⟨#[c]⟩ : Str)) := rfl
        rw [e, ih]
        refine Str.ext' ?_
        rw [Str.cps_append, Str.cps_append]
        simp [Str.ofString]
        rfl
  intro l
  rw [← h l]
  show Builtin.Str.glued _ _ = _
  exact StrLaws.glued_eq_join _ _
end AE

set_option Elab.async false
set_option linter.all false
set_option maxRecDepth 100000
namespace AE
open PySem PySem.Spec PyProof.Rows L2 Evl
/-! ### xs[::2], xs[1::2] -/
def slIdx (lo : Option Int) (n : Nat) : List Nat := sliceRange (sliceBounds lo none (some 2) n).fst (sliceBounds lo none (some 2) n).snd.fst (sliceBounds lo none (some 2) n).snd.snd
def everyL {α : Type} (lo : Option Int) (xs : List α) : List α := (slIdx lo xs.length).filterMap fun i => xs[i]?
theorem every_map {α β : Type} (f : α → β) (lo : Option Int) (xs : List α) : everyL lo (xs.map f) = (everyL lo xs).map f := by
  unfold everyL
  rw [List.length_map, List.map_filterMap]
  congr 1
  funext i
  rw [List.getElem?_map]
theorem idx0 (n : Nat) : slIdx none n = (List.range ((n + 1) / 2)).map fun k => 2 * k := by
  unfold slIdx
  have e : sliceBounds none none (some 2) n = ((0 : Int), (n : Int), (2 : Int)) := rfl
  rw [e]
  unfold sliceRange
  by_cases h : (0 : Int) < n
  · simp only [show ((2 : Int) > 0) from by decide, if_true, h]
    rw [show (((n : Int) - 0 + 2 - 1) / 2).toNat = (n + 1) / 2 by omega]
    apply List.map_congr_left
    intro k hk
    omega
  · have z : n = 0 := by omega
    subst z
    rfl
theorem idx1 (n : Nat) : slIdx (some 1) n = (List.range (n / 2)).map fun k => 2 * k + 1 := by
  by_cases h : 1 ≤ n
  · have e : sliceBounds (some 1) none (some 2) n = ((1 : Int), (n : Int), (2 : Int)) := by
      show (max 0 (min (1 : Int) (n : Int)), ((n : Int), (2 : Int))) = _
      rw [show max 0 (min (1 : Int) (n : Int)) = 1 by omega]
    unfold slIdx
    rw [e]
    unfold sliceRange
    by_cases h2 : (1 : Int) < n
    · simp only [show ((2 : Int) > 0) from by decide, if_true, h2]
      rw [show (((n : Int) - 1 + 2 - 1) / 2).toNat = n / 2 by omega]
      apply List.map_congr_left
      intro k hk
      omega
    · have z : n = 1 := by omega
      subst z
      rfl
  · have z : n = 0 := by omega
    subst z
    rfl
theorem every_mem {α : Type} (xs : List α) (v : α) : v ∈ everyL none xs ++ everyL (some 1) xs ↔ v ∈ xs := by
  unfold everyL
  rw [idx0, idx1, List.mem_append, List.mem_filterMap, List.mem_filterMap]
  constructor
  · rintro (⟨i, _, h⟩ | ⟨i, _, h⟩)
    · exact List.mem_of_getElem? h
    · exact List.mem_of_getElem? h
  · intro h
    obtain ⟨i, hi, e⟩ := List.getElem_of_mem h
    have e' : xs[i]? = some v := by rw [List.getElem?_eq_getElem hi, e]
    by_cases z : i % 2 = 0
    · exact .inl ⟨i, List.mem_map.mpr ⟨i / 2, List.mem_range.mpr (by omega), by omega⟩, e'⟩
    · exact .inr ⟨i, List.mem_map.mpr ⟨i / 2, List.mem_range.mpr (by omega), by omega⟩, e'⟩
theorem every_len0 {α : Type} (xs : List α) : (everyL none xs).length ≤ (xs.length + 1) / 2 := by
  unfold everyL
  refine Nat.le_trans (List.length_filterMap_le _ _) ?_
  rw [idx0, List.length_map, List.length_range]
  exact Nat.le_refl _
theorem every_len1 {α : Type} (xs : List α) : (everyL (some 1) xs).length ≤ xs.length / 2 := by
  unfold everyL
  refine Nat.le_trans (List.length_filterMap_le _ _) ?_
  rw [idx1, List.length_map, List.length_range]
  exact Nat.le_refl _
theorem vals_pick {xs : List V} {its : List Value} (r : Vals xs its) : ∀ l : List Nat, Vals (l.filterMap fun i => xs[i]?) (l.filterMap fun i => its[i]?)
  | [] => .nil
  | i :: l => by
    have t := vals_pick r l
    cases e : xs[i]? with
    | none =>
      have e2 : its[i]? = none := by
        rw [List.getElem?_eq_none_iff] at e ⊢
        rw [← r.length]
        exact e
      rw [List.filterMap_cons_none e, List.filterMap_cons_none e2]
      exact t
    | some v =>
      obtain ⟨u, hu, rv⟩ := r.get e
      rw [List.filterMap_cons_some e, List.filterMap_cons_some hu]
      exact .cons rv t
theorem tups_pick {H : Hp} {us : List V} {xs : List (List V)} (t : Tups H us xs) : ∀ l : List Nat, Tups H (l.filterMap fun i => us[i]?) (l.filterMap fun i => xs[i]?)
  | [] => .nil
  | i :: l => by
    have r := tups_pick t l
    cases e : us[i]? with
    | none =>
      have e2 : xs[i]? = none := by
        rw [List.getElem?_eq_none_iff] at e ⊢
        rw [← t.len]
        exact e
      rw [List.filterMap_cons_none e, List.filterMap_cons_none e2]
      exact r
    | some v =>
      obtain ⟨u, hu, rv⟩ := t.get e
      rw [List.filterMap_cons_some e, List.filterMap_cons_some hu]
      exact .cons rv r
theorem tups_every {H : Hp} {us : List V} {xs : List (List V)} (lo : Option Int) (t : Tups H us xs) : Tups H (everyL lo us) (everyL lo xs) := by
  unfold everyL
  rw [t.len]
  exact tups_pick t _
theorem idx0_len (n : Nat) : (slIdx none n).length ≤ n := by
  rw [idx0, List.length_map, List.length_range]
  omega
theorem idx1_len (n : Nat) : (slIdx (some 1) n).length ≤ n := by
  rw [idx1, List.length_map, List.length_range]
  omega
def tStepL (K : PySem.W.Frag) (lo : Option Int) (te : TE) : TE := fun σ H Q => te σ H fun x H1 => ∃ a xs, x = .ref a ∧ SqL K H1 a xs ∧ ∀ p, H1 p = none → Q (.ref p) (upd H1 p (.lst (everyL lo xs)))
section
variable {X : Cx}
theorem pe_stepL {e : Expr} {te : TE} {k : Nat} {p1 p3 pos : Pos} {lo : Option Expr} {tl : TO} {l0 : Option Int} (he : PE X e te) (hl : PO X lo tl)
    (hl0 : ∀ σ H, tl σ H fun o H2 => o = l0 ∧ H2 = H) (hn : ∀ n, (slIdx l0 n).length ≤ n)
    (hw : ∀ v u : Value, subscripted (.Slice lo none (some (.Constant (.int 2) k p1)) p3) false v u = operate [v, u] (getItem v u) := by intro v u; with_unfolding_all rfl) :
    PE X (.Subscript e (.Slice lo none (some (.Constant (.int 2) k p1)) p3) pos) (tStepL X.K l0 te) := by
  refine ⟨fun pins s σ H Q I h => ?_⟩
  refine Subscript_ (thn (he.run pins s σ H _ I h) fun v s1 ⟨x, H1, I1, r1, q1⟩ => ?_)
  obtain ⟨a, xs, ex, hx, q⟩ := q1
  subst ex
  cases r1
  have hst : PO X (some (.Constant (.int 2) k p1)) (tPart (tC (.int 2))) := po_some pe_int
  refine wpAny_Slice (thn (hl.run pins s1 σ H1 (fun o H2 => o = l0 ∧ H2 = H1) I1 (hl0 σ H1)) fun vl s2 ⟨l, H2, I2, pl, el, e2⟩ => ?_)
  subst el e2
  refine thn (po_none.run pins s2 σ H2 (fun o H3 => o = none ∧ H3 = H2) I2 ⟨rfl, rfl⟩) fun vu s3 ⟨u, H3, I3, pu, eu, e3⟩ => ?_
  subst eu e3
  refine thn (hst.run pins s3 σ H3 (fun o H4 => o = some 2 ∧ H4 = H3) I3 ⟨2, rfl, rfl, rfl⟩) fun vs s4 ⟨o, H4, I4, ps, eo, e4⟩ => ?_
  subst eo e4
  have I5 : Inv X pins σ H4 { s4 with heap := s4.heap.push { cls := .type "slice", data := .fields #[vl, vu, vs] } } := I4.kept (t' := s4.toks) fun b ob q => Heap.get?_push_of_some _ q
  obtain ⟨its, r, ht, hz⟩ := I5.list hx
  have hlen := r.length
  show wpAny (model X.prog X.w) X.A (subscriptTail e (.Slice lo none (some (.Constant (.int 2) k p1)) p3) (.ref a) (.ref s4.heap.objs.size)) (EP X pins σ Q) X.xe { s4 with heap := s4.heap.push { cls := .type "slice", data := .fields #[vl, vu, vs] } }
  refine tail_any (ops := [.ref a, .ref s4.heap.objs.size]) ht.isList.typeIs (PySem.slot_list_getitem.lookup) ?_ (hw _ _)
  refine wpAny_getItem_list_slice ht.isList (Heap.IsSliceOf.new _ vl vu vs) pl pu ps (by decide) ?_ (by rw [List.size_toArray]; omega)
  have pk : slicePick its.toArray l none (some 2) = ((slIdx l xs.length).filterMap fun i => its[i]?).toArray := by
    unfold slicePick slIdx
    rw [List.size_toArray, ← hlen]
    congr 1
    congr 1
    funext i
    simp
  rw [pk]
  have hln : (everyL l xs).length ≤ sizeLine := Nat.le_trans (List.length_filterMap_le _ _) (Nat.le_trans (hn _) hz)
  refine ⟨.ref _, _, I5.laid (t' := s4.toks) (o := .lst (everyL l xs)) (fun b ob q => Heap.get?_push_of_some _ q) (Nat.le_refl _) ?_, rfl, q _ (I5.hok.fresh (Nat.le_refl _))⟩
  exact ⟨hln, _, 0, vals_pick r _, Heap.get?_push_size _ rfl⟩
end
end AE

set_option Elab.async false
set_option linter.all false
set_option maxRecDepth 100000
namespace AE
open PySem PySem.Spec PyProof.Rows L2 Evl
/-! ### a walk over an object whose __iter__ gives a tuple's iterator -/
def ttObj (b : Addr) : Obj := { cls := .type "tuple_iterator", data := .fields #[.ref b, .int 0 0] }
def TtO (b it : Addr) : HO := .ext fun h => h.get? it = some (ttObj b)
theorem ttO_ok {P : Program} {w : World} {H : Hp} {h : Heap} {b it : Addr} (e : h.get? it = some (ttObj b)) : ObjOk P w H h it (TtO b it) := ⟨e, ⟨_, e⟩, fun h1 h2 q k => k _ q⟩
def rIterT (K : PySem.W.Frag) : List V → Hp → VK → Prop := fun xs H Q => ∃ (b : Addr) (zs : List V), xs = [.ref b] ∧ SqT K H b zs ∧ ∀ it, H it = none → (∀ z o, H z = some o → z < it) → Q (.ref it) (upd H it (TtO b it))
section
variable {X : Cx}
theorem call_iterT : CallR X (.builtin "iter") (rIterT X.K) := by
  intro pins s σ H xs us Q I r h
  obtain ⟨l, zs, rfl, hq, q⟩ := h
  obtain rfl := Vals.ref1 r
  obtain ⟨its, rv, p, hz⟩ := I.tuple hq
  refine Calls.call_function_entry (by decide +kernel) (by decide +kernel) PySem.W.kdk_entry_iter (PySem.W.kdk_args_iter _) ?_
  unfold Builtin.«iter»
  refine wpAny_bind (m := someArgs "iter" 1 2 _) (wpAny_of_eq (a := [Value.ref l]) (by first | rfl | kernel_rfl!) ?_)
  show wpAny _ _ (pyIter (.ref l) >>= _) _ _ _
  refine wpAny_bind (wpAny_pyIter_tuple (show s.heap.IsTuple l its.toArray from p) ?_)
  refine wpAny_pure ⟨_, rfl, ?_⟩
  refine ⟨.ref s.heap.objs.size, _, I.laid (t' := s.toks) (o := TtO l s.heap.objs.size) (fun b u e => Heap.get?_push_of_some _ e) (Nat.le_refl _) (ttO_ok (Heap.get?_push_size _ rfl)), rfl, q _ (I.hok.fresh (Nat.le_refl _)) fun z o e => ?_⟩
  exact (I.hok z o e).lt
def cListN (K : PySem.W.Frag) (n : Nat) : List V → Hp → VK → Prop := fun xs H Q => ∃ a zs, xs = [.ref a] ∧ (SqL K H a zs ∨ SqT K H a zs) ∧ ∀ l, H l = none → n ≤ l → Q (.ref l) (upd H l (.lst zs))
/-- list(xs): a thing that is younger than the call -/
theorem c_listN : CallR X (.type "list") (cListN X.K X.s_0.heap.objs.size) := by
  intro pins s σ H xs us Q I r h
  obtain ⟨a, zs, rfl, hq, q⟩ := h
  obtain ⟨w1, rfl, rw1⟩ := vals1 r
  cases rw1
  have done : ∀ (its : List Value), Vals zs its → zs.length ≤ sizeLine → ∀ (h2 : Heap) (n2 : Nat), (∀ b ob, s.heap.get? b = some ob → h2.get? b = some ob) →
      h2.get? s.heap.objs.size = some { cls := .type "list", dict := none, data := .seq its.toArray n2, slots := #[] } → EP X pins σ Q (.ref s.heap.objs.size) { s with heap := h2 } := fun its rz sz h2 n2 keep at2 =>
    ⟨.ref s.heap.objs.size, _, I.laid (t' := s.toks) keep (Nat.le_refl _) (show ObjOk X.prog X.w _ h2 _ (.lst zs) from ⟨sz, its, n2, rz, at2⟩), rfl, q _ (I.hok.fresh (Nat.le_refl _)) I.sz⟩
  rcases hq with hq | hq
  · obtain ⟨its, rz, pl, sz⟩ := I.list hq
    have ln := rz.length
    obtain ⟨ob, h1, h2, m, h3⟩ := pl.isList
    exact call_list_seq a (.inl rfl) h1 h2 h3 (fun h' c' kp e => done its rz sz h' c' kp e) (by rw [List.size_toArray, ← ln]; exact sz)
  · obtain ⟨its, rz, pl, sz⟩ := I.tuple hq
    have ln := rz.length
    obtain ⟨ob, h1, h2, m, h3⟩ := pl
    exact call_list_seq a (.inr rfl) h1 h2 h3 (fun h' c' kp e => done its rz sz h' c' kp e) (by rw [List.size_toArray, ← ln]; exact sz)
structure ItM (K : PySem.W.Frag) (C f : Addr) : Prop where
  it : PySem.W.findIn K (.ref C) "__iter__" = some (some (.ref f))
  fn : PySem.W.isFn K (.ref f) = true
def iOwnT (K : PySem.W.Frag) (C : Addr) (sp : Sp) (E : XK) (n : Nat) (te : TE) : TI := fun σ H R => te σ H fun x H1 => ∃ a dx fs, x = .ref a ∧ H1 a = some (.ins C dx fs) ∧ (∃ z o, H1 z = some o ∧ n ≤ z) ∧
  sp [.ref a] H1 (fun v H2 => ∃ it b, v = .ref it ∧ H2 = upd H1 it (TtO b it) ∧ H1 it = none ∧ (∀ z o, H1 z = some o → z < it) ∧ (∃ xs, SqT K H1 b xs) ∧ R (Itt K b) H1) E
theorem look_tn : typeLookup (.type "tuple_iterator") "__next__" = pure (some (.builtin "tuple_iterator.__next__")) := by rw [typeLookup_type, builtinLookup_eq_fast]; kernel_rfl
theorem pi_ownT {CX : CXT} {k : Nat} {f C : Addr} {fd : FuncData} {ps : List Str} {sp : Sp} {E : XK} {tg e : Expr} {te : TE} (M : ItM X.K C f) (F : FnOk X.prog X.w X.K X.mg X.base CX k f fd ps sp) (hr : Room k X.A) (hb : Binds X.K fd ps []) (hx : Passes CX X E)
    (he : PE X e te) : PI X tg e (iOwnT X.K C sp E X.s_0.heap.objs.size te) := by
  refine ⟨fun pins s σ H R I h => ?_⟩
  refine thn (he.run pins s σ H _ I h) fun v s1 ⟨x, H1, I1, r1, q1⟩ => ?_
  obtain ⟨a, dx, fs, rfl, ha, ⟨z, o, hz, hn⟩, hsp⟩ := q1
  cases r1
  obtain ⟨od, J⟩ := inst_in I1 ha
  obtain ⟨m, hF⟩ := I1.fr
  refine PySem.W.owit_iter hF I1.ok.mod.kin J M.it M.fn ?_
  refine wpAny_mono (run_deep (vs := [.ref a]) F hr I1.env0 hb hx I1 (.cons rfl .nil) hsp) (fun u s2 hq => ?_) fun _ _ z => z
  obtain ⟨y, H2, I2, r2, it, b, rfl, rfl, h0, hlt, hxs, hR⟩ := hq
  cases r2
  have hget : s2.heap.get? it = some (ttObj b) := (I2.hok it _ upd_same).1
  have hT : s2.TypeIs (.ref it) "tuple_iterator" := ⟨_, hget, rfl⟩
  unfold PySem.W.OwitIt
  refine wpAny_specialOf (name := Str.ofString "__next__") hT look_tn ?_
  have hle : X.s_0.heap.objs.size ≤ it := Nat.le_of_lt (Nat.lt_of_le_of_lt hn (hlt z o hz))
  have I3 := ItX.inv_drop I2 upd_same
  have f3 := ItX.inv_fp I2 (u := TtO b it) upd_same hle
  rw [ItX.dropH_upd h0] at I3 f3
  refine ⟨it, [it], _, _, H1, rfl, I3, turn_tuple b it, ⟨_, hget, rfl, rfl⟩, fun c hc => ?_, hR⟩
  have e : c = it := by simpa using hc
  subst e
  exact f3
end
end AE

set_option Elab.async false
set_option linter.all false
set_option maxRecDepth 100000
namespace AE
open PySem PySem.Spec PyProof.Rows L2 Evl
/-! ### o[i] = v by an own __setitem__; what it may let out stands at the slots -/
section
variable {X : Cx} {pins : List (Addr × Obj)} {σ : L2.St} {H : Hp} {s : Shared} {f C : Addr} {fd : FuncData} {ps : List Str} {sp : Sp} {CX : CXT} {k : Nat} {Q : VK} {E : L2.St → XK} {vs : List V} {us : List Value}
theorem run_deepS {A : Around} (F : FnOk X.prog X.w X.K X.mg X.base CX k f fd ps sp) (hr : Room k A) (e0 : Env0 X.prog X.w X.K X.mg X.base A X.stack s H) (hb : Binds X.K fd ps []) (hx : PassesAt CX X σ (E σ))
    (I : Inv X pins σ H s) (r : Vals vs us) (h : sp vs H Q (E σ)) : wpAny (model X.prog X.w) A (call (.ref f) us) (EP X pins σ Q) X.xe s := by
  have hl : (us ++ []).length = ps.length := by
    rw [List.append_nil, ← r.length]
    exact F.len _ _ _ _ h
  have bb := hb s us I.kIn hl
  rw [List.append_nil] at bb
  refine wpAny_call (codeAny_mono (F.run A X.stack s H ⟨us, []⟩ us vs Q (E σ) hr e0 bb r h) fun r s' hq => ?_)
  cases r with
  | error e => exact hx pins H s e s' I hq
  | ok fl =>
    cases fl with
    | ret u => exact I.after hq
    | next => exact False.elim hq
    | brk => exact False.elim hq
    | cont => exact False.elim hq
def tSetO (C : Addr) (sp : Sp) (E : L2.St → XK) (tv to ti : TE) : TS := fun D σ H => tv σ H fun v H1 => to σ H1 fun x H2 => ti σ H2 fun y H3 => ∃ a dx fs, x = .ref a ∧ H3 a = some (.ins C dx fs) ∧ sp [.ref a, y, v] H3 (fun _ H4 => D.nx σ H4) (E σ)
theorem ps_setO {o i value : Expr} {tv to ti : TE} {pos' pos : Pos} (hs : Meth X.K C "__setitem__" f) (hq : PySem.W.noSeq X.K C = true) (F : FnOk X.prog X.w X.K X.mg X.base CX k f fd ps sp) (hr : Room k X.A) (hb : Binds X.K fd ps []) (hx : ∀ σ, PassesAt CX X σ (E σ))
    (hv : PE X value tv) (ho : PE X o to) (hi : PE X i ti) (hsw : swapsWith value (some (.Subscript o i pos')) pos.line X.env = pure false := by rfl) : PS X (.Assign [.Subscript o i pos'] value pos) (tSetO C sp E tv to ti) := by
  refine ⟨fun pins s σ H D I h => ?_⟩
  refine wpAny_Assign_Subscript (thn (hv.run pins s σ H _ I h) fun r s1 ⟨v, H1, I1, rv, q1⟩ => thn (ho.run pins s1 σ H1 _ I1 q1) fun u s2 ⟨x, H2, I2, rx, q2⟩ => thn (hi.run pins s2 σ H2 _ I2 q2) fun iv s3 ⟨y, H3, I3, ry, q3⟩ => ?_) hsw
  obtain ⟨a, dx, fs, rfl, ha, hsp⟩ := q3
  cases rx
  obtain ⟨od, J⟩ := inst_in I3 ha
  obtain ⟨m, hF⟩ := I3.fr
  refine PySem.W.ksp_setItem hF I3.ok.mod.kin J hq hs.at_ hs.fn ?_
  refine wpAny_mono (run_deepS (vs := [.ref a, y, v]) F hr I3.env0 hb (hx σ) I3 (.cons rfl (.cons ry (.cons rv .nil))) hsp) (fun u2 s4 hq4 => ?_) fun _ _ z => z
  obtain ⟨z, H4, I4, rz, q4⟩ := hq4
  exact ⟨σ, H4, I4, q4⟩
def rLenO (C : Addr) (sp : Sp) (E : XK) : List V → Hp → VK → Prop := fun xs H Q => ∃ a dx fs, xs = [.ref a] ∧ H a = some (.ins C dx fs) ∧ sp [.ref a] H (fun v H1 => ∃ n : Int, v = .int n ∧ 0 ≤ n ∧ n < 2 ^ 63 ∧ Q (.int n) H1) E
theorem c_lenO {E : XK} (hs : Meth X.K C "__len__" f) (F : FnOk X.prog X.w X.K X.mg X.base CX k f fd ps sp) (hr : Room (k + 1) X.A) (hb : Binds X.K fd ps []) (hx : Passes CX X E) : CallR X (.builtin "len") (rLenO C sp E) := by
  rintro pins s σ H xs us Q I r ⟨a, dx, fs, rfl, ha, q⟩
  cases r with
  | cons ra rt =>
    cases rt
    cases ra
    obtain ⟨od, J⟩ := inst_in I ha
    obtain ⟨m, hF⟩ := I.fr
    refine PySem.W.len_K hF I.ok.mod.kin J hs.at_ hs.fn (wpAny_mono (run_deep (vs := [.ref a]) F hr.in1 I.env0.in1 hb hx I (.cons rfl .nil) q) (fun r s1 hr => ?_) fun _ _ y => y)
    obtain ⟨v, H1, I1, rv, n, rfl, n0, n1, q1⟩ := hr
    obtain ⟨t, rfl⟩ := rv
    exact ⟨⟨n0, n1⟩, .int n, H1, I1.tok _, ⟨_, rfl⟩, q1⟩
/-- C() by a promise on rows -/
theorem pe_makeR0 {E : XK} {x : Str} {p pos : Pos} (M : Mk X.K C f) (F : FnR X.prog X.w X.K X.mg X.base CX k f sp) (hr : Room (k + 1) X.A) (hg : Gl X x) (hm : X.mg x = some (.ref C)) (hx : Passes CX X E) (hdb : (x == ("__debug__" : Str)) = false := by decide) :
    PE X (.Call (.Name x p) [] [] pos) (StX.tMakeR C sp E tNil) := by
  refine ⟨fun pins s σ H Q I h => ?_⟩
  refine wpAny_Call_Name_kw (ld_glob I hg hm ?_ hdb)
  exact PySem.W.callWith_K0 I.kIn M.kp (StX.run_makeR (us := []) M F hr hx I .nil h)
end
end AE

set_option Elab.async false
set_option linter.all false
set_option maxRecDepth 100000
/-! == of such values -/
namespace AE
open PySem PySem.Spec PyProof.Rows L2 Evl
theorem txn_ex {H H' : Hp} (e : Ex H H') : TxN H H' := fun a xs h => e _ _ h
mutual
def toD : NK → PyData
  | .non => .none
  | .int i => .int i
  | .str x => .str x
  | .tup ks => .tuple (toDs ks)
def toDs : List NK → List PyData
  | [] => []
  | k :: ks => toD k :: toDs ks
end
mutual
/-- its texts are of signs that stand -/
def okN : NK → Bool
  | .str x => PyData.strOk x
  | .tup ks => okNs ks
  | _ => true
def okNs : List NK → Bool
  | [] => true
  | k :: ks => okN k && okNs ks
end
theorem toDs_len : ∀ ks : List NK, (toDs ks).length = ks.length
  | [] => rfl
  | k :: ks => by rw [toDs, List.length_cons, List.length_cons, toDs_len ks]
theorem toDs_map : ∀ ks : List NK, toDs ks = ks.map toD
  | [] => rfl
  | k :: ks => by rw [toDs, List.map_cons, toDs_map ks]
theorem okNs_all : ∀ ks : List NK, okNs ks = ks.all okN
  | [] => rfl
  | k :: ks => by rw [okNs, List.all_cons, okNs_all ks]
mutual
theorem toD_lay : ∀ k : NK, okN k = true → (toD k).canLay0 = true
  | .non, _ => rfl
  | .int i, _ => rfl
  | .str x, h => by rw [okN] at h; rw [toD, PyData.canLay0]; exact h
  | .tup ks, h => by rw [okN] at h; rw [toD, PyData.canLay0]; exact toDs_lay ks h
theorem toDs_lay : ∀ ks : List NK, okNs ks = true → PyData.canLayAll0 (toDs ks) = true
  | [], _ => rfl
  | k :: ks, h => by
    rw [okNs, Bool.and_eq_true] at h
    rw [toDs, PyData.canLayAll0, toD_lay k h.1, toDs_lay ks h.2]
    rfl
end
mutual
theorem toD_depth : ∀ k : NK, (toD k).depth = k.depth
  | .non => by rw [toD, PyData.depth, NK.depth]; exact fun _ z => nomatch z
  | .int i => by rw [toD, PyData.depth, NK.depth]; exact fun _ z => nomatch z
  | .str x => by rw [toD, PyData.depth, NK.depth]; exact fun _ z => nomatch z
  | .tup ks => by rw [toD, PyData.depth, NK.depth, toDs_depth ks]
theorem toDs_depth : ∀ ks : List NK, PyData.depthAll (toDs ks) = NK.depths ks
  | [] => by rw [toDs, PyData.depthAll, NK.depths]
  | k :: ks => by rw [toDs, PyData.depthAll, NK.depths, toD_depth k, toDs_depth ks]
end
mutual
theorem toD_eqv : ∀ a b : NK, PyData.eqv (toD a) (toD b) = decide (a = b)
  | .non, .non => by simp [toD, PyData.eqv]
  | .non, .int _ => by simp [toD, PyData.eqv]
  | .non, .str _ => by simp [toD, PyData.eqv]
  | .non, .tup _ => by simp [toD, PyData.eqv]
  | .int i, .non => by simp [toD, PyData.eqv]
  | .int i, .int j => by
    simp only [toD, PyData.eqv, NK.int.injEq]
    by_cases h : i = j
    · subst h; simp
    · rw [decide_eq_false h]; exact beq_eq_false_iff_ne.mpr h
  | .int i, .str _ => by simp [toD, PyData.eqv]
  | .int i, .tup _ => by simp [toD, PyData.eqv]
  | .str i, .non => by simp [toD, PyData.eqv]
  | .str i, .int j => by simp [toD, PyData.eqv]
  | .str i, .str j => by
    simp only [toD, PyData.eqv, NK.str.injEq]
    by_cases h : i = j
    · subst h; simp
    · rw [decide_eq_false h]; exact beq_eq_false_iff_ne.mpr h
  | .str i, .tup _ => by simp [toD, PyData.eqv]
  | .tup ks, .non => by simp [toD, PyData.eqv]
  | .tup ks, .int j => by simp [toD, PyData.eqv]
  | .tup ks, .str j => by simp [toD, PyData.eqv]
  | .tup ks, .tup js => by
    simp only [toD, PyData.eqv, NK.tup.injEq]
    exact toDs_eqv ks js
theorem toDs_eqv : ∀ a b : List NK, PyData.eqvAll (toDs a) (toDs b) = decide (a = b)
  | [], [] => by simp [toDs, PyData.eqvAll]
  | [], _ :: _ => by simp [toDs, PyData.eqvAll]
  | _ :: _, [] => by simp [toDs, PyData.eqvAll]
  | x :: xs, y :: ys => by
    simp only [toDs, PyData.eqvAll, List.cons.injEq, Bool.decide_and, toD_eqv x y, toDs_eqv xs ys]
end
mutual
theorem nat_dp {K : PySem.W.Frag} {H : Hp} : ∀ {v : V} {k : NK}, NAt H v k → Dp K H v (toD k)
  | _, _, .non => by rw [toD]; exact .non
  | _, _, .int i => by rw [toD]; exact .int i
  | _, _, .str x => by rw [toD]; exact .str x
  | _, _, .tup h t => by rw [toD]; exact .tup (.inl (.inl h)) (nats_dp t)
theorem nats_dp {K : PySem.W.Frag} {H : Hp} : ∀ {vs : List V} {ks : List NK}, NAts H vs ks → DpAll K H vs (toDs ks)
  | _, _, .nil => by rw [toDs]; exact .nil
  | _, _, .cons h t => by rw [toDs]; exact .cons (nat_dp h) (nats_dp t)
end
theorem shp {k : NK} (o : okN k = true) (d : k.depth ≤ 64) : SeqAt.shaped (toD k) = true := by
  simp [SeqAt.shaped, toD_lay k o, toD_depth, d]
theorem shps {ks : List NK} (o : okNs ks = true) (d : NK.depths ks ≤ 63) : SeqAt.shaped (.list (toDs ks)) = true := by
  simp [SeqAt.shaped, PyData.canLay0, toDs_lay ks o, PyData.depth, toDs_depth, d]
theorem shpt {ks : List NK} (o : okNs ks = true) (d : NK.depths ks ≤ 63) : SeqAt.shaped (.tuple (toDs ks)) = true := by
  simp [SeqAt.shaped, PyData.canLay0, toDs_lay ks o, PyData.depth, toDs_depth, d]
section
variable {K : PySem.W.Frag} {H : Hp} {Q : VK} {x y : V} {a b : NK}
theorem r_eqN (hx : NAt H x a) (hy : NAt H y b) (o1 : okN a = true) (o2 : okN b = true) (d1 : a.depth ≤ 64) (d2 : b.depth ≤ 64) (q : Q (.bl (decide (a = b))) H) : rEqD K x y H Q :=
  ⟨_, _, nat_dp hx, nat_dp hy, shp o1 d1, shp o2 d2, by rw [toD_eqv]; exact q⟩
theorem r_neN (hx : NAt H x a) (hy : NAt H y b) (o1 : okN a = true) (o2 : okN b = true) (d1 : a.depth ≤ 64) (d2 : b.depth ≤ 64) (q : Q (.bl (!decide (a = b))) H) : rNeD K x y H Q :=
  ⟨_, _, nat_dp hx, nat_dp hy, shp o1 d1, shp o2 d2, by rw [toD_eqv]; exact q⟩
theorem r_eqL {p r : Addr} {xs ys : List V} {as bs : List NK} (hp : SqL K H p xs) (hr : SqL K H r ys) (hx : NAts H xs as) (hy : NAts H ys bs) (o1 : okNs as = true) (o2 : okNs bs = true) (d1 : NK.depths as ≤ 63) (d2 : NK.depths bs ≤ 63) (q : Q (.bl (decide (as = bs))) H) : rEqD K (.ref p) (.ref r) H Q :=
  ⟨_, _, .lst hp (nats_dp hx), .lst hr (nats_dp hy), shps o1 d1, shps o2 d2, by rw [show PyData.eqv (.list (toDs as)) (.list (toDs bs)) = PyData.eqvAll (toDs as) (toDs bs) by simp [PyData.eqv], toDs_eqv]; exact q⟩
theorem r_neL {p r : Addr} {xs ys : List V} {as bs : List NK} (hp : SqL K H p xs) (hr : SqL K H r ys) (hx : NAts H xs as) (hy : NAts H ys bs) (o1 : okNs as = true) (o2 : okNs bs = true) (d1 : NK.depths as ≤ 63) (d2 : NK.depths bs ≤ 63) (q : Q (.bl (!decide (as = bs))) H) : rNeD K (.ref p) (.ref r) H Q :=
  ⟨_, _, .lst hp (nats_dp hx), .lst hr (nats_dp hy), shps o1 d1, shps o2 d2, by rw [show PyData.eqv (.list (toDs as)) (.list (toDs bs)) = PyData.eqvAll (toDs as) (toDs bs) by simp [PyData.eqv], toDs_eqv]; exact q⟩
end
/-! rows of such values -/
theorem NAts.app {H : Hp} : ∀ {vs ws : List V} {ks ls : List NK}, NAts H vs ks → NAts H ws ls → NAts H (vs ++ ws) (ks ++ ls)
  | _, _, _, _, .nil, t => t
  | _, _, _, _, .cons h r, t => .cons h (r.app t)
theorem NAts.snoc {H : Hp} {v : V} {k : NK} {vs : List V} {ks : List NK} (t : NAts H vs ks) (h : NAt H v k) : NAts H (vs ++ [v]) (ks ++ [k]) := t.app (.cons h .nil)
theorem NAts.len {H : Hp} : ∀ {vs : List V} {ks : List NK}, NAts H vs ks → vs.length = ks.length
  | _, _, .nil => rfl
  | _, _, .cons _ t => by rw [List.length_cons, List.length_cons, t.len]
theorem NAts.get {H : Hp} : ∀ {vs : List V} {ks : List NK} {i : Nat} {v : V}, NAts H vs ks → vs[i]? = some v → ∃ k, ks[i]? = some k ∧ NAt H v k
  | _, _, 0, _, .cons h _, e => by
    have e' := Option.some.inj e
    exact ⟨_, rfl, e' ▸ h⟩
  | _, _, i + 1, v, .cons _ t, e => by
    obtain ⟨x, h1, h2⟩ := NAts.get (i := i) (v := v) t (by simpa using e)
    exact ⟨x, by simpa using h1, h2⟩
theorem NAts.rev {H : Hp} : ∀ {vs : List V} {ks : List NK}, NAts H vs ks → NAts H vs.reverse ks.reverse
  | _, _, .nil => .nil
  | _, _, .cons h t => by rw [List.reverse_cons, List.reverse_cons]; exact t.rev.snoc h
theorem NAt.new {H : Hp} {p : Addr} {xs : List V} {ks : List NK} (hp : H p = none) (t : NAts H xs ks) : NAt (upd H p (.tup xs)) (.ref p) (.tup ks) :=
  .tup upd_same (t.tx fun a ys h => by rw [upd_ne (ne_of_none h hp)]; exact h)
theorem NAt.tupOf {H : Hp} {v : V} {ks : List NK} (h : NAt H v (.tup ks)) : ∃ a xs, v = .ref a ∧ H a = some (.tup xs) ∧ NAts H xs ks := by
  cases h with
  | tup h t => exact ⟨_, _, rfl, h, t⟩
theorem NAts.cons_inv {H : Hp} {xs : List V} {k : NK} {ks : List NK} (h : NAts H xs (k :: ks)) : ∃ v vs, xs = v :: vs ∧ NAt H v k ∧ NAts H vs ks := by
  cases h with
  | cons h t => exact ⟨_, _, rfl, h, t⟩
theorem NAts.nil_inv {H : Hp} {xs : List V} (h : NAts H xs []) : xs = [] := by
  cases h
  rfl
theorem NAt.int_inv {H : Hp} {v : V} {i : Int} (h : NAt H v (.int i)) : v = .int i := by
  cases h
  rfl
theorem NAt.str_inv {H : Hp} {v : V} {i : Str} (h : NAt H v (.str i)) : v = .str i := by
  cases h
  rfl
theorem NAt.non_inv {H : Hp} {v : V} (h : NAt H v .non) : v = .non := by
  cases h
  rfl
theorem NAts.inv2 {H : Hp} {xs : List V} {a b : NK} (h : NAts H xs [a, b]) : ∃ u v, xs = [u, v] ∧ NAt H u a ∧ NAt H v b := by
  obtain ⟨u, r, rfl, h1, h⟩ := h.cons_inv
  obtain ⟨v, r, rfl, h2, h⟩ := h.cons_inv
  rw [h.nil_inv]
  exact ⟨_, _, rfl, h1, h2⟩
theorem NAts.inv3 {H : Hp} {xs : List V} {a b c : NK} (h : NAts H xs [a, b, c]) : ∃ u v z, xs = [u, v, z] ∧ NAt H u a ∧ NAt H v b ∧ NAt H z c := by
  obtain ⟨u, r, rfl, h1, h⟩ := h.cons_inv
  obtain ⟨v, z, rfl, h2, h3⟩ := h.inv2
  exact ⟨_, _, _, rfl, h1, h2, h3⟩
/-! a new tuple, a new list -/
def TupK (Q : VK) (xs : List V) (H : Hp) : Prop := xs.length ≤ sizeLine ∧ ∀ p, H p = none → Q (.ref p) (upd H p (.tup xs))
def LstK (Q : VK) (xs : List V) (H : Hp) : Prop := xs.length ≤ sizeLine ∧ ∀ p, H p = none → Q (.ref p) (upd H p (.lst xs))
section
variable {H : Hp} {Q : VK} {xs : List V} {ks : List NK} {σ : L2.St} {tr : TA}
theorem r_tupK (q : tr σ H fun xs H1 => TupK Q xs H1) : tTup tr σ H Q := q
theorem r_lstK (q : tr σ H fun xs H1 => LstK Q xs H1) : tLst tr σ H Q := q
theorem tup_go (hx : NAts H xs ks) (q : ∀ p H1, H p = none → Ex H H1 → NAt H1 (.ref p) (.tup ks) → H1 p = some (.tup xs) → Q (.ref p) H1) (n : xs.length ≤ 100000 := by first | exact Nat.le_of_ble_eq_true rfl | (simp only [List.length_map, List.length_cons, List.length_nil]; omega)) : TupK Q xs H :=
  ⟨sz_of n, fun p hp => q p _ hp (Ex.new hp) (NAt.new hp hx) upd_same⟩
theorem tup_go' (q : ∀ p H1, H p = none → Ex H H1 → H1 p = some (.tup xs) → Q (.ref p) H1) (n : xs.length ≤ 100000 := by first | exact Nat.le_of_ble_eq_true rfl | (simp only [List.length_map, List.length_cons, List.length_nil]; omega)) : TupK Q xs H :=
  ⟨sz_of n, fun p hp => q p _ hp (Ex.new hp) upd_same⟩
theorem lst_go (q : ∀ p H1, H p = none → Ex H H1 → H1 p = some (.lst xs) → Q (.ref p) H1) (n : xs.length ≤ 100000 := by first | exact Nat.le_of_ble_eq_true rfl | (simp only [List.length_map, List.length_cons, List.length_nil]; omega)) : LstK Q xs H :=
  ⟨sz_of n, fun p hp => q p _ hp (Ex.new hp) upd_same⟩
end
/-! xs[::-1]; an object made -/
section
variable {K : PySem.W.Frag} {H : Hp} {Q : VK} {σ : L2.St} {te : TE} {t tk : TA} {C : Addr} {sp : Sp} {E : XK} {dvs : List V} {n m : Nat} {gV : List V → List V → List V}
def RevK (K : PySem.W.Frag) (x : V) (H : Hp) (Q : VK) : Prop := ∃ a xs, x = .ref a ∧ SqL K H a xs ∧ ∀ p, H p = none → Q (.ref p) (upd H p (.lst xs.reverse))
theorem r_revL (q : te σ H fun x H1 => RevK K x H1 Q) : tRevL K te σ H Q := q
theorem rev_go {a : Addr} {xs : List V} (h : SqL K H a xs) (q : ∀ p H1, H p = none → Ex H H1 → H1 p = some (.lst xs.reverse) → Q (.ref p) H1) : RevK K (.ref a) H Q := ⟨a, xs, rfl, h, fun p hp => q p _ hp (Ex.new hp) upd_same⟩
def MkI (C : Addr) (f : Addr → List V) (sp : Sp) (E : XK) (H : Hp) (Q : VK) : Prop := ∀ x dx, H x = none → H dx = none → dx ≠ x → sp (f x) (upd (upd H dx (.own x)) x (.ins C dx [])) (fun v H3 => v = .non ∧ Q (.ref x) H3) E
theorem r_makeK (q : t σ H fun vs H1 => tk σ H1 fun zs H2 => vs.length = n ∧ zs.length = m ∧ MkI C (fun x => gV (.ref x :: vs) zs) sp E H2 Q) : tMakeK C n m sp gV E t tk σ H Q := q
theorem r_make (q : t σ H fun vs H1 => MkI C (fun x => .ref x :: (vs ++ dvs)) sp E H1 Q) : tMake C sp dvs E t σ H Q := q
theorem mki_go {f : Addr → List V} (q : ∀ x dx H1, H x = none → Ex H H1 → H1 x = some (.ins C dx []) → sp (f x) H1 (fun v H3 => v = .non ∧ Q (.ref x) H3) E) : MkI C f sp E H Q := fun x dx nx ndx ne => by
  have e1 : Ex H (upd H dx (.own x)) := Ex.new ndx
  have n2 : (upd H dx (.own x)) x = none := by rw [upd_ne (Ne.symm ne)]; exact nx
  exact q x dx _ nx (e1.trans (Ex.new n2)) upd_same
theorem ex_made {H1 H' : Hp} {x : Addr} (nx : H x = none) (e : Ex H H1) (c : Ch x H1 H') : Ex H H' := fun b o hb => c b o (ne_of_none hb nx) (e b o hb)
end
/-! two ways that meet again -/
theorem join_ite {b : Bool} {ts tu : TS} {D : Ends} {σ : L2.St} {H : Hp} (R : L2.St → Hp → Prop) (tail : ∀ σ' H', R σ' H' → D.nx σ' H') (body : ∀ D' : Ends, (∀ σ' H', R σ' H' → D'.nx σ' H') → if b = true then ts D' σ H else tu D' σ H) : if b = true then ts D σ H else tu D σ H := body D tail
/-! dicts of this kind, by steps -/
section
variable {w : World} {σ : L2.St} {H : Hp} {Q : VK} {D : Ends} {td ty tx tv : TE}
def SetdK (w : World) (a : Addr) (y z : V) (H : Hp) (Q : VK) : Prop := ∃ (kvs : List NE) (k : NK) (b : Addr), H a = some (dN w a kvs) ∧ KeysOk H kvs ∧ y = .ref b ∧ k.depth ≤ 8 ∧ NAt H (.ref b) k ∧ kvs.length < sizeLine ∧
  (∀ v, valN kvs k = some v → Q v H) ∧ (valN kvs k = none → Q z (upd H a (dN w a (putN kvs k b z))))
theorem r_setdN (q : td σ H fun x Ha => ∃ a, x = .ref a ∧ IsN w Ha a ∧ ty σ Ha fun y Hb => tx σ Hb fun z Hc => SetdK w a y z Hc Q) : tSetdN w td ty tx σ H Q := q
theorem setd_go {a b : Addr} {kvs : List NE} {k : NK} {z : V} (h : H a = some (dN w a kvs)) (hk : KeysOk H kvs) (hb : NAt H (.ref b) k) (d : k.depth ≤ 8) (l : kvs.length < 100000)
    (q1 : ∀ v, valN kvs k = some v → Q v H) (q2 : valN kvs k = none → ∀ H1, Ch a H H1 → H1 a = some (dN w a (kvs ++ [(k, b, z)])) → KeysOk H1 (kvs ++ [(k, b, z)]) → Q z H1) : SetdK w a (.ref b) z H Q :=
  ⟨kvs, k, b, h, hk, rfl, d, hb, by have := @sz_of 100000 (by decide); omega, q1, fun hn => by
    have e : putN kvs k b z = kvs ++ [(k, b, z)] := by unfold putN; rw [hn]; rfl
    rw [e]
    refine q2 hn _ ch_upd upd_same fun x hx => ?_
    have tx : TxN H (upd H a (dN w a (kvs ++ [(k, b, z)]))) := fun c ys ec => by rw [upd_ne (ne_of ec h (by intro z; cases z))]; exact ec
    rcases List.mem_append.mp hx with hx | hx
    · exact ⟨(hk x hx).1, (hk x hx).2.tx tx⟩
    · rw [List.mem_singleton.mp hx]
      exact ⟨d, hb.tx tx⟩⟩
def NGetK (w : World) (a : Addr) (y z : V) (H : Hp) (Q : VK) : Prop := ∃ o, NGet w H a y o ∧ Q (o.getD z) H
theorem r_nget2 (q : td σ H fun x H1 => ∃ a, x = .ref a ∧ IsN w H1 a ∧ ty σ H1 fun y H2 => tx σ H2 fun z H3 => NGetK w a y z H3 Q) : tNGet2 w td ty tx σ H Q := q
theorem nget_go {a b : Addr} {kvs : List NE} {k : NK} {z : V} (h : H a = some (dN w a kvs)) (hk : KeysOk H kvs) (hb : NAt H (.ref b) k) (d : k.depth ≤ 8) (q : Q ((valN kvs k).getD z) H) : NGetK w a (.ref b) z H Q :=
  ⟨_, ⟨kvs, k, b, .inl h, hk, rfl, d, hb, rfl⟩, q⟩
theorem isN_of {a : Addr} {kvs : List NE} (h : H a = some (dN w a kvs)) : IsN w H a := ⟨kvs, .inl h⟩
def NNewK (w : World) (H : Hp) (Q : VK) : Prop := ∀ p, H p = none → Q (.ref p) (upd H p (dN w p []))
theorem r_nnew (q : NNewK w H Q) : tNNew w σ H Q := q
theorem nnew_go (q : ∀ p H1, H p = none → Ex H H1 → H1 p = some (dN w p []) → Q (.ref p) H1) : NNewK w H Q := fun p hp => q p _ hp (Ex.new hp) upd_same
theorem valN_snoc (kvs : List NE) (k k' : NK) (b : Addr) (v : V) : valN (kvs ++ [(k, b, v)]) k' = (valN kvs k').or (if k = k' then some v else none) := by
  unfold valN
  rw [List.find?_append, List.find?_cons, List.find?_nil]
  by_cases h : k = k'
  · rw [if_pos h, decide_eq_true h]
    cases kvs.find? (fun x => decide (x.1 = k')) <;> rfl
  · rw [if_neg h, decide_eq_false h]
    cases kvs.find? (fun x => decide (x.1 = k')) <;> rfl
end
/-! heaps -/
theorem ex_txn {H H' : Hp} (e : Ex H H') : TxN H H' := fun _ _ h => e _ _ h
end AE

set_option Elab.async false
set_option linter.all false
set_option maxRecDepth 100000
namespace K10
open PySem PySem.Spec PyProof.Rows L2 Evl AE
def topS (i : Nat) : Stmt := PySem.Challenge.pw_askshanded_k10_a_dealer_of_rows.main.body.getD i (.Pass ⟨0, 0, 0, 0⟩)
abbrev s__law_cell : Stmt := topS 3
abbrev N__law_cell : List Str := ["_law_script", "_law_k"]
theorem sc__law_cell : FnScope N__law_cell ["_law_script", "_law_k"] (defScope s__law_cell) := ⟨rfl, rfl, rfl, by decide +kernel, rfl, by decide +kernel, by decide +kernel⟩
abbrev s__law_draws : Stmt := topS 4
abbrev N__law_draws : List Str := ["_law_script", "_law_k", "_law_many", "_law_cell_here", "_law_row", "_law_rest", "_law_turn", "_law_seed"]
theorem sc__law_draws : FnScope N__law_draws ["_law_script", "_law_k", "_law_many"] (defScope s__law_draws) := ⟨rfl, rfl, rfl, by decide +kernel, rfl, by decide +kernel, by decide +kernel⟩
abbrev s__law_asks : Stmt := topS 5
abbrev N__law_asks : List Str := ["_law_row", "_law_many", "_law_letters", "_law_word", "_law_digit", "_law_asks_here", "_law_at", "_law_size", "_law_place", "_law_jump", "_law_letter"]
theorem sc__law_asks : FnScope N__law_asks ["_law_row", "_law_many"] (defScope s__law_asks) := ⟨rfl, rfl, rfl, by decide +kernel, rfl, by decide +kernel, by decide +kernel⟩
abbrev s__law_whole : Stmt := topS 6
abbrev N__law_whole : List Str := ["_law_x"]
theorem sc__law_whole : FnScope N__law_whole ["_law_x"] (defScope s__law_whole) := ⟨rfl, rfl, rfl, by decide +kernel, rfl, by decide +kernel, by decide +kernel⟩
abbrev s__law_standing : Stmt := topS 7
abbrev N__law_standing : List Str := ["_law_digit", "_law_asks_here", "_law_known"]
theorem sc__law_standing : FnScope N__law_standing ["_law_digit", "_law_asks_here"] (defScope s__law_standing) := ⟨rfl, rfl, rfl, by decide +kernel, rfl, by decide +kernel, by decide +kernel⟩
abbrev s__law_step : Stmt := topS 8
abbrev N__law_step : List Str := ["_law_digit", "_law_asks_here"]
theorem sc__law_step : FnScope N__law_step ["_law_digit", "_law_asks_here"] (defScope s__law_step) := ⟨rfl, rfl, rfl, by decide +kernel, rfl, by decide +kernel, by decide +kernel⟩
abbrev s__law_due : Stmt := topS 9
abbrev N__law_due : List Str := ["_law_rows", "_law_standing_here", "_law_step_here", "_law_spare_due", "_law_row"]
theorem sc__law_due : FnScope N__law_due ["_law_rows", "_law_standing_here", "_law_step_here", "_law_spare_due"] (defScope s__law_due) := ⟨rfl, rfl, rfl, by decide +kernel, rfl, by decide +kernel, by decide +kernel⟩
abbrev s__law_dealer_holds : Stmt := topS 10
abbrev N__law_dealer_holds : List Str := ["_law_dealer", "_law_rows", "_law_asks_here", "_law_spare_due", "_law_digit", "_law_other", "_law_standing_here", "_law_step_here", "_law_found"]
theorem sc__law_dealer_holds : FnScope N__law_dealer_holds ["_law_dealer", "_law_rows", "_law_asks_here", "_law_spare_due"] (defScope s__law_dealer_holds) := ⟨rfl, rfl, rfl, by decide +kernel, rfl, by decide +kernel, by decide +kernel⟩
abbrev s_law : Stmt := topS 11
abbrev N_law : List Str := ["_law_script", "_law_shape", "_law_asks_here", "_law_rows", "_law_at", "_law_row", "_law_first", "_law_second", "_law_wanted", "_law_dealer", "_law_other"]
theorem sc_law : FnScope N_law ["_law_script"] (defScope s_law) := ⟨rfl, rfl, rfl, by decide +kernel, rfl, by decide +kernel, by decide +kernel⟩
abbrev s_Dealer___init__ : Stmt := inClass (topS 1) 0
abbrev N_Dealer___init__ : List Str := ["self", "rows", "spare", "standing", "step", "number"]
theorem sc_Dealer___init__ : FnScope N_Dealer___init__ ["self", "rows", "spare"] (defScope s_Dealer___init__) := ⟨rfl, rfl, rfl, by decide +kernel, rfl, by decide +kernel, by decide +kernel⟩
abbrev s_Dealer___call__ : Stmt := inClass (topS 1) 1
abbrev N_Dealer___call__ : List Str := ["self", "standing", "step"]
theorem sc_Dealer___call__ : FnScope N_Dealer___call__ ["self", "standing", "step"] (defScope s_Dealer___call__) := ⟨rfl, rfl, rfl, by decide +kernel, rfl, by decide +kernel, by decide +kernel⟩

/-- what the top leaves -/
structure Tp (K : PySem.W.Frag) (mg : Str → Option Value) where
  C_Dealer : Addr
  g_Dealer : mg "Dealer" = some (.ref C_Dealer)
  a__law_cell : Addr
  d__law_cell : FuncData
  f__law_cell : Fun K "_law_cell" "_law_cell" s__law_cell a__law_cell d__law_cell
  b__law_cell : Binds K d__law_cell ["_law_script", "_law_k"] []
  g__law_cell : mg "_law_cell" = some (.ref a__law_cell)
  a__law_draws : Addr
  d__law_draws : FuncData
  f__law_draws : Fun K "_law_draws" "_law_draws" s__law_draws a__law_draws d__law_draws
  b__law_draws : Binds K d__law_draws ["_law_script", "_law_k", "_law_many"] []
  g__law_draws : mg "_law_draws" = some (.ref a__law_draws)
  a__law_asks : Addr
  d__law_asks : FuncData
  f__law_asks : Fun K "_law_asks" "_law_asks" s__law_asks a__law_asks d__law_asks
  b__law_asks : Binds K d__law_asks ["_law_row", "_law_many"] []
  g__law_asks : mg "_law_asks" = some (.ref a__law_asks)
  a__law_whole : Addr
  d__law_whole : FuncData
  f__law_whole : Fun K "_law_whole" "_law_whole" s__law_whole a__law_whole d__law_whole
  b__law_whole : Binds K d__law_whole ["_law_x"] []
  g__law_whole : mg "_law_whole" = some (.ref a__law_whole)
  a__law_standing : Addr
  d__law_standing : FuncData
  f__law_standing : Fun K "_law_standing" "_law_standing" s__law_standing a__law_standing d__law_standing
  b__law_standing : Binds K d__law_standing ["_law_digit", "_law_asks_here"] []
  g__law_standing : mg "_law_standing" = some (.ref a__law_standing)
  a__law_step : Addr
  d__law_step : FuncData
  f__law_step : Fun K "_law_step" "_law_step" s__law_step a__law_step d__law_step
  b__law_step : Binds K d__law_step ["_law_digit", "_law_asks_here"] []
  g__law_step : mg "_law_step" = some (.ref a__law_step)
  a__law_due : Addr
  d__law_due : FuncData
  f__law_due : Fun K "_law_due" "_law_due" s__law_due a__law_due d__law_due
  b__law_due : Binds K d__law_due ["_law_rows", "_law_standing_here", "_law_step_here", "_law_spare_due"] []
  g__law_due : mg "_law_due" = some (.ref a__law_due)
  a__law_dealer_holds : Addr
  d__law_dealer_holds : FuncData
  f__law_dealer_holds : Fun K "_law_dealer_holds" "_law_dealer_holds" s__law_dealer_holds a__law_dealer_holds d__law_dealer_holds
  b__law_dealer_holds : Binds K d__law_dealer_holds ["_law_dealer", "_law_rows", "_law_asks_here", "_law_spare_due"] []
  g__law_dealer_holds : mg "_law_dealer_holds" = some (.ref a__law_dealer_holds)
  a_law : Addr
  d_law : FuncData
  f_law : Fun K "law" "law" s_law a_law d_law
  b_law : Binds K d_law ["_law_script"] []
  g_law : mg "law" = some (.ref a_law)
  a_Dealer___init__ : Addr
  d_Dealer___init__ : FuncData
  f_Dealer___init__ : FunD K "__init__" "Dealer.__init__" (defArgs s_Dealer___init__) (defBody s_Dealer___init__) (defScope s_Dealer___init__) [] [("spare", .int 0)] a_Dealer___init__ d_Dealer___init__
  a_Dealer___call__ : Addr
  d_Dealer___call__ : FuncData
  f_Dealer___call__ : Fun K "__call__" "Dealer.__call__" s_Dealer___call__ a_Dealer___call__ d_Dealer___call__
  b_Dealer___call__ : Binds K d_Dealer___call__ ["self", "standing", "step"] []
  n_len : mg "len" = none
  n_int : mg "int" = none
  n_range : mg "range" = none
  n_isinstance : mg "isinstance" = none
  n_bool : mg "bool" = none
  n_list : mg "list" = none
  cl_Dealer : Cls K C_Dealer
  na_Dealer__numbers : NoAttr K C_Dealer "_numbers"
  na_Dealer__spare : NoAttr K C_Dealer "_spare"
  mk_Dealer : Mk K C_Dealer a_Dealer___init__
  me_Dealer___call__ : Meth K C_Dealer "__call__" a_Dealer___call__
  co_Dealer : StX.CallO K C_Dealer a_Dealer___call__
  e_ds : List Value
  e_vs : Vals [V.int 0] e_ds
  e_b : Binds K d_Dealer___init__ ["self", "rows", "spare"] e_ds
  e_kn : KBn K d_Dealer___init__ ["self", "rows", "spare"] 2 ["spare"] (fun us ws => us ++ ws) (fun vs zs => vs ++ zs)
end K10

set_option Elab.async false
set_option linter.all false
set_option maxRecDepth 100000
namespace K10
open PySem PySem.Spec PyProof.Rows L2 Evl AE
local macro_rules | `(tactic| walk_at "c") => `(tactic| first | exact ⟨by decide, by decide⟩ | exact .inr ⟨by decide, by decide⟩ | exact .inl ⟨by decide, by decide⟩ | exact ⟨by decide, by decide, by decide⟩ | (show (0 : Int) < _; decide))
local macro_rules | `(tactic| walk_at "s") => `(tactic| first
  | (with_reducible refine r_var rfl ?_) | (with_reducible refine r_c ?_) | (with_reducible refine r_op ?_) | (with_reducible refine r_un ?_) | (with_reducible refine r_I0 ?_) | (with_reducible refine r_U ?_)
  | (with_reducible refine r_eq rfl ?_) | (with_reducible refine r_ne rfl ?_) | (with_reducible refine r_chain ?_) | (with_reducible refine r_test ?_) | (with_reducible refine r_tB ?_)
  | (with_reducible refine r_bl ?_) | (with_reducible refine r_and ?_) | (with_reducible refine r_or ?_) | (with_reducible refine r_not ?_) | (with_reducible refine r_nil ?_) | (with_reducible refine r_cons ?_)
  | (with_reducible refine r_tup ?_) | (with_reducible refine r_lst ?_) | (with_reducible refine r_cb ?_) | (with_reducible refine r_call ?_) | (with_reducible refine r_seq ?_) | (with_reducible refine r_set ?_)
  | (with_reducible refine r_drop ?_) | (with_reducible refine r_ret ?_) | (with_reducible refine r_next ?_) | (with_reducible refine r_if ?_) | (with_reducible refine r_sl ?_) | (with_reducible refine r_nop ?_) | (with_reducible refine r_prt ?_) | (with_reducible refine r_some ?_)
  | (with_reducible refine add_int ?_) | (with_reducible refine int_i ?_) | (with_reducible refine r_forR1 ?_) | (with_reducible refine r_forL ?_) | ((with_reducible refine r_I ?_ ?_); (walk_at "c")))
local macro_rules | `(tactic| walk_at "g") => `(tactic| repeat walk_at "s")
section
variable {P : Program} {w : World} {K : PySem.W.Frag} {mg : Str → Option Value} {base : Heap}
def cellF (ns : List Int) (k : Int) : Int := ns.getD k.toNat 0
def sp_cell (K : PySem.W.Frag) : Sp := fun vs H Q _ => ∃ (a : Addr) (ns : List Int) (k : Int), vs = [.ref a, .int k] ∧ SqL K H a (ns.map V.int) ∧ 0 ≤ k ∧ Q (.int (cellF ns k)) H
theorem ok_cell (T : Tp K mg) : FnOk P w K mg base CX0 1 T.a__law_cell T.d__law_cell ["_law_script", "_law_k"] (sp_cell K) := by
  refine T.f__law_cell.ok sc__law_cell (fun vs H Q E h => ?_) (fun cdv A outer s H vs Q E hr h => ?_)
  · obtain ⟨a, ns, k, rfl, _⟩ := h
    rfl
  · obtain ⟨a, ns, k, rfl, hS, hk, q⟩ := h
    refine ⟨_, (pss_cons (ps_if (pt_cmpR op_lt (pv 1) (pe_callB c_len (by rfl) T.n_len (by rfl) (pa_cons (pv 0) pa_nil)) (nomark _)) (pss_one (ps_ret (pe_ix ix_seq (pv 0) (pv 1) (fun _ _ => rfl)))) pss_nil)
      (pss_one (ps_ret pe_int))), ?_⟩
    walk_at "g"
    refine len_l hS ?_
    walk_at "g"
    refine ite_b (fun hb => ?_) (fun hb => ?_)
    · walk_at "g"
      have hb' := of_decide_eq_true hb
      rw [List.length_map] at hb'
      have hk2 : k.toNat < ns.length := by omega
      refine ix_l (v := .int (cellF ns k)) hS ?_ q
      refine at_of (j := k.toNat) (by omega) ?_
      rw [List.getElem?_map, List.getElem?_eq_getElem hk2]
      unfold cellF
      rw [List.getD_eq_getElem?_getD, List.getElem?_eq_getElem hk2]
      rfl
    · walk_at "g"
      have hb' := of_decide_eq_false hb
      rw [List.length_map] at hb'
      have e : cellF ns k = 0 := by
        unfold cellF
        rw [List.getD_eq_getElem?_getD, List.getElem?_eq_none (by omega)]
        rfl
      rw [e] at q
      exact q
def restF : Nat → Int → List Int
  | 0, _ => []
  | n + 1, r => r % 64 :: restF n (r / 64)
def seedF : Nat → Int → Int → List Int
  | 0, _, _ => []
  | n + 1, t, s => (s * 48271 + t + 11) % 2147483647 / 65536 % 64 :: seedF n (t + 1) ((s * 48271 + t + 11) % 2147483647)
def drawsF (ns : List Int) (k many : Int) : List Int :=
  if 10 ^ 18 ≤ cellF ns k then restF many.toNat (cellF ns k - 10 ^ 18)
  else seedF many.toNat 0 ((cellF ns k * 7919 + k * 104729 + 12345) % 2147483647)
theorem restF_len : ∀ n r, (restF n r).length = n
  | 0, _ => rfl
  | n + 1, r => by show (restF n (r / 64)).length + 1 = n + 1; rw [restF_len n]
theorem seedF_len : ∀ n t s, (seedF n t s).length = n
  | 0, _, _ => rfl
  | n + 1, t, s => by show (seedF n _ _).length + 1 = n + 1; rw [seedF_len n]
theorem restF_bd : ∀ n r, ∀ x ∈ restF n r, 0 ≤ x ∧ x < 64
  | 0, _, x, h => by cases h
  | n + 1, r, x, h => by
    rcases List.mem_cons.mp h with rfl | h
    · omega
    · exact restF_bd n _ x h
theorem seedF_bd : ∀ n t s, ∀ x ∈ seedF n t s, 0 ≤ x ∧ x < 64
  | 0, _, _, x, h => by cases h
  | n + 1, t, s, x, h => by
    rcases List.mem_cons.mp h with rfl | h
    · omega
    · exact seedF_bd n _ _ x h
/-- the row after i turns, and the rest of it -/
def restN : Nat → Int → Int
  | 0, r => r
  | n + 1, r => restN n (r / 64)
theorem restF_snoc : ∀ n r, restF (n + 1) r = restF n r ++ [restN n r % 64]
  | 0, _ => rfl
  | n + 1, r => by
    show r % 64 :: restF (n + 1) (r / 64) = r % 64 :: (restF n (r / 64) ++ [restN n (r / 64) % 64])
    rw [restF_snoc n]
theorem restN_snoc : ∀ n r, restN (n + 1) r = restN n r / 64
  | 0, _ => rfl
  | n + 1, r => restN_snoc n (r / 64)
def seedN : Nat → Int → Int → Int
  | 0, _, s => s
  | n + 1, t, s => seedN n (t + 1) ((s * 48271 + t + 11) % 2147483647)
theorem seedN_snoc : ∀ (n : Nat) t s, seedN (n + 1) t s = (seedN n t s * 48271 + (t + n) + 11) % 2147483647
  | 0, t, s => by show (s * 48271 + t + 11) % 2147483647 = (s * 48271 + (t + (0 : Nat)) + 11) % 2147483647; congr 1; omega
  | n + 1, t, s => by
    show seedN (n + 1) (t + 1) _ = (seedN n (t + 1) _ * 48271 + (t + ((n + 1 : Nat) : Int)) + 11) % 2147483647
    rw [seedN_snoc n]
    congr 1
    omega
theorem seedF_snoc : ∀ (n : Nat) t s, seedF (n + 1) t s = seedF n t s ++ [(seedN n t s * 48271 + (t + n) + 11) % 2147483647 / 65536 % 64]
  | 0, t, s => by show [(s * 48271 + t + 11) % 2147483647 / 65536 % 64] = [(s * 48271 + (t + (0 : Nat)) + 11) % 2147483647 / 65536 % 64]; rw [show t + ((0 : Nat) : Int) = t by omega]
  | n + 1, t, s => by
    show _ :: seedF (n + 1) (t + 1) _ = _ :: (seedF n (t + 1) _ ++ [(seedN n (t + 1) _ * 48271 + (t + ((n + 1 : Nat) : Int)) + 11) % 2147483647 / 65536 % 64])
    rw [seedF_snoc n]
    congr 6
    omega
theorem draws_len (ns : List Int) (k many : Int) : (drawsF ns k many).length = many.toNat := by
  unfold drawsF
  split
  · exact restF_len _ _
  · exact seedF_len _ _ _
theorem draws_bd (ns : List Int) (k many : Int) : ∀ x ∈ drawsF ns k many, 0 ≤ x ∧ x < 64 := by
  unfold drawsF
  split
  · exact restF_bd _ _
  · exact seedF_bd _ _ _
def sp_draws (K : PySem.W.Frag) : Sp := fun vs H Q _ => ∃ (a : Addr) (ns : List Int) (k many : Int), vs = [.ref a, .int k, .int many] ∧ SqL K H a (ns.map V.int) ∧ 0 ≤ k ∧ 0 ≤ many ∧ many ≤ 1000 ∧
  ∀ p H', H p = none → Ex H H' → H' p = some (.lst ((drawsF ns k many).map V.int)) → Q (.ref p) H'
theorem ok_draws (T : Tp K mg) : FnOk P w K mg base CX0 2 T.a__law_draws T.d__law_draws ["_law_script", "_law_k", "_law_many"] (sp_draws K) := by
  have G__law_cell : FnOk P w K mg base CX0 1 T.a__law_cell T.d__law_cell ["_law_script", "_law_k"] (sp_cell K) := ok_cell T
  refine T.f__law_draws.ok sc__law_draws (fun vs H Q E h => ?_) (fun cdv A outer s H vs Q E hr h => ?_)
  · obtain ⟨a, ns, k, many, rfl, _⟩ := h
    rfl
  · obtain ⟨a, ns, k, many, rfl, hS, hk, hm, hm2, q⟩ := h
    refine ⟨_, (pss_cons (ps_set (i := 3) sc__law_draws.nd rfl (.inl rfl) (pe_call G__law_cell (hr.mono (by decide)) (by rfl) T.g__law_cell T.f__law_cell.kp T.b__law_cell .nil pass0 (pa_cons (pv 0) (pa_cons (pv 1) pa_nil))))
  (pss_cons (ps_set (i := 4) sc__law_draws.nd rfl (.inl rfl) (pe_lst pa_nil))
  (pss_cons (ps_if (pt_cmpR op_ge (pv 3) (pe_op op_pow pe_int pe_int) (nomark _)) (pss_cons (ps_set (i := 5) sc__law_draws.nd rfl (.inl rfl) (pe_op op_sub (pv 3) (pe_op op_pow pe_int pe_int)))
  (pss_cons (ps_for PassesOwn.never rfl (pi_range1 rfl T.n_range (pa_cons (pv 2) pa_nil)) (pg_name (i := 6) sc__law_draws.nd rfl (.inl rfl))
  (pss_cons (ps_expr (pe_bm PySem.F.plainAttrs_list PySem.F.slot_list_append PySem.F.type_list_append mt_append (pv 4) (pa_cons (pe_op op_mod (pe_callTy c_int (by rfl) T.n_int (by rfl) (pa_cons (pv 5) pa_nil)) pe_int) pa_nil)))
  (pss_one (ps_set (i := 5) sc__law_draws.nd rfl (.inl rfl) (pe_op op_fdiv (pv 5) pe_int)))))
  (pss_one (ps_ret (pv 4))))) pss_nil)
  (pss_cons (ps_set (i := 7) sc__law_draws.nd rfl (.inl rfl) (pe_op op_mod (pe_callTy c_int (by rfl) T.n_int (by rfl) (pa_cons (pe_op opAdd (pe_op opAdd (pe_op op_mul (pv 3) pe_int) (pe_op op_mul (pv 1) pe_int)) pe_int) pa_nil)) pe_int))
  (pss_cons (ps_for PassesOwn.never rfl (pi_range1 rfl T.n_range (pa_cons (pv 2) pa_nil)) (pg_name (i := 6) sc__law_draws.nd rfl (.inl rfl))
  (pss_cons (ps_set (i := 7) sc__law_draws.nd rfl (.inl rfl) (pe_op op_mod (pe_callTy c_int (by rfl) T.n_int (by rfl) (pa_cons (pe_op opAdd (pe_op opAdd (pe_op op_mul (pv 7) pe_int) (pv 6)) pe_int) pa_nil)) pe_int))
  (pss_one (ps_expr (pe_bm PySem.F.plainAttrs_list PySem.F.slot_list_append PySem.F.type_list_append mt_append (pv 4) (pa_cons (pe_op op_mod (pe_callTy c_int (by rfl) T.n_int (by rfl) (pa_cons (pe_op op_fdiv (pv 7) pe_int) pa_nil)) pe_int) pa_nil))))))
  (pss_one (ps_ret (pv 4)))))))), ?_⟩
    walk_at "g"
    refine ⟨a, ns, k, rfl, hS, hk, ?_⟩
    walk_at "g"
    refine ⟨by decide, fun l hl => ?_⟩
    have e1 : Ex H (upd H l (.lst [])) := Ex.new hl
    have l1 : (upd H l (.lst [])) l = some (.lst []) := upd_same
    generalize (upd H l (.lst [])) = H1 at e1 l1
    walk_at "g"
    refine ite_b (fun hb => ?_) (fun hb => ?_)
    · have hb' := of_decide_eq_true hb
      walk_at "g"
      refine lr1_go (fun i σ' H' => ∃ y, σ' = [some (.ref a), some (.int k), some (.int many), some (.int (cellF ns k)), some (.ref l), some (.int (restN i (cellF ns k - 10 ^ 18))), y, none] ∧ Ex H H' ∧ H' l = some (.lst ((restF i (cellF ns k - 10 ^ 18)).map V.int)))
        ⟨none, rfl, e1, l1⟩ ⟨hm, by omega⟩ ?_ ?_
      · rintro i σ' H' hi ⟨y, rfl, e2, l2⟩
        walk_at "g"
        refine r_app rfl l2 ?_
        walk_at "g"
        refine app_l l2 (by rw [List.length_map, restF_len]; exact sz_lt (by omega)) ?_
        walk_at "g"
        refine ⟨some (.int i), ?_, ex_upd e2 hl, ?_⟩
        · rw [restN_snoc]
          rfl
        · rw [upd_same, restF_snoc, List.map_append]
          rfl
      · rintro σ' H' ⟨y, rfl, e2, l2⟩
        walk_at "g"
        refine q l H' hl e2 ?_
        rw [l2]
        unfold drawsF
        rw [if_pos (show (10 : Int) ^ 18 ≤ cellF ns k from hb')]
    · have hb' := of_decide_eq_false hb
      walk_at "g"
      refine lr1_go (fun i σ' H' => ∃ y, σ' = [some (.ref a), some (.int k), some (.int many), some (.int (cellF ns k)), some (.ref l), none, y, some (.int (seedN i 0 ((cellF ns k * 7919 + k * 104729 + 12345) % 2147483647)))] ∧ Ex H H' ∧
        H' l = some (.lst ((seedF i 0 ((cellF ns k * 7919 + k * 104729 + 12345) % 2147483647)).map V.int)))
        ⟨none, rfl, e1, l1⟩ ⟨hm, by omega⟩ ?_ ?_
      · rintro i σ' H' hi ⟨y, rfl, e2, l2⟩
        walk_at "g"
        refine r_app rfl l2 ?_
        walk_at "g"
        refine app_l l2 (by rw [List.length_map, seedF_len]; exact sz_lt (by omega)) ?_
        walk_at "g"
        refine ⟨some (.int i), ?_, ex_upd e2 hl, ?_⟩
        · rw [seedN_snoc, Int.zero_add]
          rfl
        · rw [upd_same, seedF_snoc, List.map_append, Int.zero_add]
          rfl
      · rintro σ' H' ⟨y, rfl, e2, l2⟩
        walk_at "g"
        refine q l H' hl e2 ?_
        rw [l2]
        unfold drawsF
        rw [if_neg (show ¬ (10 : Int) ^ 18 ≤ cellF ns k from hb')]
end
end K10

set_option Elab.async false
set_option linter.all false
set_option maxRecDepth 100000
set_option maxHeartbeats 2000000
namespace K10
open PySem PySem.Spec PyProof.Rows L2 Evl AE
local macro_rules | `(tactic| walk_at "c") => `(tactic| first | exact ⟨by decide, by decide⟩ | exact .inr ⟨by decide, by decide⟩ | exact .inl ⟨by decide, by decide⟩ | exact ⟨by decide, by decide, by decide⟩ | (show (0 : Int) < _; decide))
local macro_rules | `(tactic| walk_at "s") => `(tactic| first
  | (with_reducible refine r_var rfl ?_) | (with_reducible refine r_c ?_) | (with_reducible refine r_op ?_) | (with_reducible refine r_un ?_) | (with_reducible refine r_I0 ?_) | (with_reducible refine r_U ?_)
  | (with_reducible refine r_eq rfl ?_) | (with_reducible refine r_ne rfl ?_) | (with_reducible refine r_chain ?_) | (with_reducible refine r_test ?_) | (with_reducible refine r_tB ?_)
  | (with_reducible refine r_bl ?_) | (with_reducible refine r_and ?_) | (with_reducible refine r_or ?_) | (with_reducible refine r_not ?_) | (with_reducible refine r_nil ?_) | (with_reducible refine r_cons ?_)
  | (with_reducible refine r_tupK ?_) | (with_reducible refine r_lstK ?_) | (with_reducible refine r_cb ?_) | (with_reducible refine r_revL ?_) | (with_reducible refine r_makeK ?_) | (with_reducible refine r_make ?_) | (with_reducible refine r_setdN ?_) | (with_reducible refine r_nget2 ?_) | (with_reducible refine r_nnew ?_) | (with_reducible refine r_call ?_) | (with_reducible refine r_seq ?_) | (with_reducible refine r_set ?_)
  | (with_reducible refine r_drop ?_) | (with_reducible refine r_ret ?_) | (with_reducible refine r_next ?_) | (with_reducible refine r_if ?_) | (with_reducible refine r_sl ?_) | (with_reducible refine r_nop ?_) | (with_reducible refine r_prt ?_) | (with_reducible refine r_some ?_)
  | (with_reducible refine add_int ?_) | (with_reducible refine int_i ?_) | (with_reducible refine r_forR1 ?_) | (with_reducible refine r_forL ?_) | (with_reducible refine r_andV ?_) | (with_reducible refine r_orV ?_) | (with_reducible refine r_notV ?_) | (with_reducible refine r_ifE ?_) | (with_reducible refine r_lcL ?_) | (with_reducible refine r_fld ?_) | (with_reducible refine r_get ?_) | (with_reducible refine r_din ?_) | (with_reducible refine r_dget2 ?_) | ((with_reducible refine r_I ?_ ?_); (walk_at "c")))
local macro_rules | `(tactic| walk_at "g") => `(tactic| repeat walk_at "s")
section
variable {P : Program} {w : World} {K : PySem.W.Frag} {mg : Str → Option Value} {base : Heap}
/-! ### standings and steps as keys -/
def knK (as : List Str) (d : Int) : NK :=
  if d % 3 = 1 then .tup [.tup [.str (as.getD 0 Str.empty), .int 1]]
  else if d % 3 = 2 then .tup [.tup [.str (as.getD 1 Str.empty), .int 0], .tup [.str (as.getD 0 Str.empty), .int 1]]
  else .tup []
def stK (as : List Str) (d : Int) : NK := .tup [.int (d / 3 % 2), .tup [.int (d / 6 % 2), .int (d / 12 % 3 - 1)], knK as d]
def spK (as : List Str) (d : Int) : NK := if d % 6 = 0 then .non else .tup [.str (as.getD (d % 2).toNat Str.empty), .int (d / 2 % 2)]
theorem knK_ok {as : List Str} (h : ∀ x ∈ as, PyData.strOk x = true) (h2 : as.length = 2) (d : Int) : okN (knK as d) = true ∧ (knK as d).depth ≤ 2 := by
  match as, h2 with
  | [a, b], _ =>
    have ha := h a (by simp)
    have hb := h b (by simp)
    unfold knK
    split
    · simp [okN, okNs, NK.depth, NK.depths, ha]
    · split
      · simp [okN, okNs, NK.depth, NK.depths, ha, hb]
      · simp [okN, okNs, NK.depth, NK.depths]
theorem stK_ok {as : List Str} (h : ∀ x ∈ as, PyData.strOk x = true) (h2 : as.length = 2) (d : Int) : okN (stK as d) = true ∧ (stK as d).depth ≤ 3 := by
  obtain ⟨h3, h4⟩ := knK_ok h h2 d
  unfold stK
  simp only [okN, okNs, NK.depth, NK.depths, h3]
  refine ⟨rfl, ?_⟩
  omega
theorem spK_ok {as : List Str} (h : ∀ x ∈ as, PyData.strOk x = true) (h2 : as.length = 2) (d : Int) : okN (spK as d) = true ∧ (spK as d).depth ≤ 1 := by
  match as, h2 with
  | [a, b], _ =>
    have ha := h a (by simp)
    have hb := h b (by simp)
    unfold spK
    split
    · simp [okN, NK.depth]
    · have : (d % 2).toNat = 0 ∨ (d % 2).toNat = 1 := by omega
      rcases this with e | e <;> rw [e] <;> simp [okN, okNs, NK.depth, NK.depths, ha, hb]
/-! ### an item of the list of asks -/
theorem strs_at {as : List Str} {j : Nat} (h : j < as.length) : atI (as.map V.str) (j : Int) = some (.str (as.getD j Str.empty)) := by
  refine atI_nat ?_
  rw [List.getElem?_map, List.getElem?_eq_getElem h, List.getD_eq_getElem?_getD, List.getElem?_eq_getElem h]
  rfl
def sp_standing (K : PySem.W.Frag) : Sp := fun vs H Q _ => ∃ (a : Addr) (as : List Str) (d : Int), vs = [.int d, .ref a] ∧ SqL K H a (as.map V.str) ∧ as.length = 2 ∧
  ∀ v H', Ex H H' → NAt H' v (stK as d) → Q v H'
theorem ok_standing (T : Tp K mg) : FnOk P w K mg base CX0 1 T.a__law_standing T.d__law_standing ["_law_digit", "_law_asks_here"] (sp_standing K) := by
  refine T.f__law_standing.ok sc__law_standing (fun vs H Q E h => ?_) (fun cdv A outer s H vs Q E hr h => ?_)
  · obtain ⟨a, as, d, rfl, _⟩ := h
    rfl
  · obtain ⟨a, as, d, rfl, hS, hl, q⟩ := h
    refine ⟨_, (pss_cons (ps_set (i := 2) sc__law_standing.nd rfl (.inl rfl) (pe_tup pa_nil))
  (pss_cons (ps_if (pt_cmpR op_eq (pe_op op_mod (pe_callTy c_int (by rfl) T.n_int (by rfl) (pa_cons (pv 0) pa_nil)) pe_int) pe_int (nomark _)) (pss_one (ps_set (i := 2) sc__law_standing.nd rfl (.inl rfl) (pe_tup (pa_cons (pe_tup (pa_cons (pe_ix ix_seq (pv 1) pe_int (fun _ _ => rfl)) (pa_cons pe_int pa_nil))) pa_nil)))) pss_nil)
  (pss_cons (ps_if (pt_cmpR op_eq (pe_op op_mod (pe_callTy c_int (by rfl) T.n_int (by rfl) (pa_cons (pv 0) pa_nil)) pe_int) pe_int (nomark _)) (pss_one (ps_set (i := 2) sc__law_standing.nd rfl (.inl rfl) (pe_tup (pa_cons (pe_tup (pa_cons (pe_ix ix_seq (pv 1) pe_int (fun _ _ => rfl)) (pa_cons pe_int pa_nil))) (pa_cons (pe_tup (pa_cons (pe_ix ix_seq (pv 1) pe_int (fun _ _ => rfl)) (pa_cons pe_int pa_nil))) pa_nil))))) pss_nil)
  (pss_one (ps_ret (pe_tup (pa_cons (pe_op op_mod (pe_op op_fdiv (pe_callTy c_int (by rfl) T.n_int (by rfl) (pa_cons (pv 0) pa_nil)) pe_int) pe_int) (pa_cons (pe_tup (pa_cons (pe_op op_mod (pe_op op_fdiv (pe_callTy c_int (by rfl) T.n_int (by rfl) (pa_cons (pv 0) pa_nil)) pe_int) pe_int) (pa_cons (pe_op op_sub (pe_op op_mod (pe_op op_fdiv (pe_callTy c_int (by rfl) T.n_int (by rfl) (pa_cons (pv 0) pa_nil)) pe_int) pe_int) pe_int) pa_nil))) (pa_cons (pv 2) pa_nil))))))))), ?_⟩
    walk_at "g"
    refine tup_go .nil fun p0 H0 n0 e0 t0 k0 => ?_
    have sp := strs_at (as := as) (j := 0) (by omega)
    have sq := strs_at (as := as) (j := 1) (by omega)
    walk_at "g"
    refine ite_b (fun hc => ?_) (fun hc => ?_)
    · have z : d % 3 = 1 := V.int.inj (of_decide_eq_true hc)
      walk_at "g"
      refine ix_l (ex_l e0 hS) sp ?_
      walk_at "g"
      refine tup_go (.cons (.str _) (.cons (.int 1) .nil)) fun p1 H1 n1 e1 t1 k1 => ?_
      walk_at "g"
      refine tup_go (.cons t1 .nil) fun p2 H2 n2 e2 t2 k2 => ?_
      walk_at "g"
      refine ite_f (by rw [z]; decide) ?_
      walk_at "g"
      refine tup_go (.cons (.int _) (.cons (.int _) .nil)) fun p3 H3 n3 e3 t3 k3 => ?_
      walk_at "g"
      refine tup_go (.cons (.int _) (.cons t3 (.cons (t2.tx (txn_ex e3)) .nil))) fun p4 H4 n4 e4 t4 k4 => ?_
      refine q _ _ (e0.trans (e1.trans (e2.trans (e3.trans e4)))) ?_
      have : knK as d = .tup [.tup [.str (as.getD 0 Str.empty), .int 1]] := by unfold knK; rw [if_pos z]
      unfold stK
      rw [this]
      exact t4
    · have z : ¬ d % 3 = 1 := fun q0 => of_decide_eq_false hc (congrArg V.int q0)
      walk_at "g"
      refine ite_b (fun hc => ?_) (fun hc => ?_)
      · have z2 : d % 3 = 2 := V.int.inj (of_decide_eq_true hc)
        walk_at "g"
        refine ix_l (ex_l e0 hS) sq ?_
        walk_at "g"
        refine tup_go (.cons (.str _) (.cons (.int 0) .nil)) fun p1 H1 n1 e1 t1 k1 => ?_
        walk_at "g"
        refine ix_l (ex_l (e0.trans e1) hS) sp ?_
        walk_at "g"
        refine tup_go (.cons (.str _) (.cons (.int 1) .nil)) fun p1' H1' n1' e1' t1' k1' => ?_
        walk_at "g"
        refine tup_go (.cons (t1.tx (txn_ex e1')) (.cons t1' .nil)) fun p2 H2 n2 e2 t2 k2 => ?_
        walk_at "g"
        refine tup_go (.cons (.int _) (.cons (.int _) .nil)) fun p3 H3 n3 e3 t3 k3 => ?_
        walk_at "g"
        refine tup_go (.cons (.int _) (.cons t3 (.cons (t2.tx (txn_ex e3)) .nil))) fun p4 H4 n4 e4 t4 k4 => ?_
        refine q _ _ (e0.trans (e1.trans (e1'.trans (e2.trans (e3.trans e4))))) ?_
        have : knK as d = .tup [.tup [.str (as.getD 1 Str.empty), .int 0], .tup [.str (as.getD 0 Str.empty), .int 1]] := by unfold knK; rw [if_neg z, if_pos z2]
        unfold stK
        rw [this]
        exact t4
      · have z2 : ¬ d % 3 = 2 := fun q0 => of_decide_eq_false hc (congrArg V.int q0)
        walk_at "g"
        refine tup_go (.cons (.int _) (.cons (.int _) .nil)) fun p3 H3 n3 e3 t3 k3 => ?_
        walk_at "g"
        refine tup_go (.cons (.int _) (.cons t3 (.cons (t0.tx (txn_ex e3)) .nil))) fun p4 H4 n4 e4 t4 k4 => ?_
        refine q _ _ (e0.trans (e3.trans e4)) ?_
        have : knK as d = .tup [] := by unfold knK; rw [if_neg z, if_neg z2]
        unfold stK
        rw [this]
        exact t4
def sp_step (K : PySem.W.Frag) : Sp := fun vs H Q _ => ∃ (a : Addr) (as : List Str) (d : Int), vs = [.int d, .ref a] ∧ SqL K H a (as.map V.str) ∧ as.length = 2 ∧
  ∀ v H', Ex H H' → NAt H' v (spK as d) → Q v H'
theorem ok_step (T : Tp K mg) : FnOk P w K mg base CX0 1 T.a__law_step T.d__law_step ["_law_digit", "_law_asks_here"] (sp_step K) := by
  refine T.f__law_step.ok sc__law_step (fun vs H Q E h => ?_) (fun cdv A outer s H vs Q E hr h => ?_)
  · obtain ⟨a, as, d, rfl, _⟩ := h
    rfl
  · obtain ⟨a, as, d, rfl, hS, hl, q⟩ := h
    refine ⟨_, (pss_cons (ps_if (pt_cmpR op_eq (pe_op op_mod (pe_callTy c_int (by rfl) T.n_int (by rfl) (pa_cons (pv 0) pa_nil)) pe_int) pe_int (nomark _)) (pss_one (ps_ret pe_non)) pss_nil)
  (pss_one (ps_ret (pe_tup (pa_cons (pe_ix ix_seq (pv 1) (pe_op op_mod (pe_callTy c_int (by rfl) T.n_int (by rfl) (pa_cons (pv 0) pa_nil)) pe_int) (fun _ _ => rfl)) (pa_cons (pe_op op_mod (pe_op op_fdiv (pe_callTy c_int (by rfl) T.n_int (by rfl) (pa_cons (pv 0) pa_nil)) pe_int) pe_int) pa_nil)))))), ?_⟩
    walk_at "g"
    refine ite_b (fun hc => ?_) (fun hc => ?_)
    · have z : d % 6 = 0 := V.int.inj (of_decide_eq_true hc)
      walk_at "g"
      refine q _ _ (Ex.refl _) ?_
      unfold spK
      rw [if_pos z]
      exact .non
    · have z : ¬ d % 6 = 0 := fun q0 => of_decide_eq_false hc (congrArg V.int q0)
      walk_at "g"
      have hj : (d % 2).toNat < as.length := by omega
      have sp := strs_at hj
      rw [show (((d % 2).toNat : Nat) : Int) = d % 2 by omega] at sp
      refine ix_l hS sp ?_
      walk_at "g"
      refine tup_go (.cons (.str _) (.cons (.int _) .nil)) fun p4 H4 n4 e4 t4 k4 => ?_
      refine q _ _ e4 ?_
      unfold spK
      rw [if_neg z]
      exact t4
end

end K10

set_option Elab.async false
set_option linter.all false
set_option maxRecDepth 100000
set_option maxHeartbeats 2000000
namespace K10
open PySem PySem.Spec PyProof.Rows L2 Evl AE
local macro_rules | `(tactic| walk_at "c") => `(tactic| first | exact ⟨by decide, by decide⟩ | exact .inr ⟨by decide, by decide⟩ | exact .inl ⟨by decide, by decide⟩ | exact ⟨by decide, by decide, by decide⟩ | (show (0 : Int) < _; decide))
local macro_rules | `(tactic| walk_at "s") => `(tactic| first
  | (with_reducible refine r_var rfl ?_) | (with_reducible refine r_c ?_) | (with_reducible refine r_op ?_) | (with_reducible refine r_un ?_) | (with_reducible refine r_I0 ?_) | (with_reducible refine r_U ?_)
  | (with_reducible refine r_eq rfl ?_) | (with_reducible refine r_ne rfl ?_) | (with_reducible refine r_chain ?_) | (with_reducible refine r_test ?_) | (with_reducible refine r_tB ?_)
  | (with_reducible refine r_bl ?_) | (with_reducible refine r_and ?_) | (with_reducible refine r_or ?_) | (with_reducible refine r_not ?_) | (with_reducible refine r_nil ?_) | (with_reducible refine r_cons ?_)
  | (with_reducible refine r_tupK ?_) | (with_reducible refine r_lstK ?_) | (with_reducible refine r_cb ?_) | (with_reducible refine r_revL ?_) | (with_reducible refine r_makeK ?_) | (with_reducible refine r_make ?_) | (with_reducible refine r_setdN ?_) | (with_reducible refine r_nget2 ?_) | (with_reducible refine r_nnew ?_) | (with_reducible refine r_call ?_) | (with_reducible refine r_seq ?_) | (with_reducible refine r_set ?_)
  | (with_reducible refine r_drop ?_) | (with_reducible refine r_ret ?_) | (with_reducible refine r_next ?_) | (with_reducible refine r_if ?_) | (with_reducible refine r_sl ?_) | (with_reducible refine r_nop ?_) | (with_reducible refine r_prt ?_) | (with_reducible refine r_some ?_)
  | (with_reducible refine add_int ?_) | (with_reducible refine int_i ?_) | (with_reducible refine r_forR1 ?_) | (with_reducible refine r_forL ?_) | (with_reducible refine r_andV ?_) | (with_reducible refine r_orV ?_) | (with_reducible refine r_notV ?_) | (with_reducible refine r_ifE ?_) | (with_reducible refine r_lcL ?_) | (with_reducible refine r_fld ?_) | (with_reducible refine r_get ?_) | (with_reducible refine r_din ?_) | (with_reducible refine r_dget2 ?_) | ((with_reducible refine r_I ?_ ?_); (walk_at "c")))
local macro_rules | `(tactic| walk_at "g") => `(tactic| repeat walk_at "s")
section
variable {P : Program} {w : World} {K : PySem.W.Frag} {mg : Str → Option Value} {base : Heap}
def sp_whole : Sp := fun vs H Q _ => ∃ k : Int, vs = [.int k] ∧ Q (.bl true) H
theorem ok_whole (T : Tp K mg) : FnOk P w K mg base CX0 1 T.a__law_whole T.d__law_whole ["_law_x"] sp_whole := by
  refine T.f__law_whole.ok sc__law_whole (fun vs H Q E h => ?_) (fun cdv A outer s H vs Q E hr h => ?_)
  · obtain ⟨k, rfl, _⟩ := h
    rfl
  · obtain ⟨k, rfl, q⟩ := h
    refine ⟨_, (pss_one (ps_ret (pe_and (pe_callB c_isinstance (by rfl) T.n_isinstance (by rfl) (pa_cons (pv 0) (pa_cons (pe_bltn (by rfl) T.n_int (by rfl) (show RelV (.ty "int") (.type "int") from rfl)) pa_nil))) (pe_one (pe_not (pe_callB c_isinstance (by rfl) T.n_isinstance (by rfl) (pa_cons (pv 0) (pa_cons (pe_bltn (by rfl) T.n_bool (by rfl) (show RelV (.ty "bool") (.type "bool") from rfl)) pa_nil)))))))), ?_⟩
    walk_at "g"
    refine ⟨_, _, _, _, true, rfl, .ty _, .base (.int k), rfl, ?_⟩
    walk_at "g"
    refine ite_t rfl ?_
    walk_at "g"
    refine ⟨_, _, _, _, false, rfl, .ty _, .base (.int k), rfl, ?_⟩
    walk_at "g"
    exact q
/-! ### rows -/
abbrev RowD := NK × NK × Int
def rowK (r : RowD) : NK := .tup [r.1, r.2.1, .int r.2.2]
def hitR (s t : NK) (r : RowD) : Bool := decide (r.1 = s) && decide (r.2.1 = t)
def firstN (R : List RowD) (s t : NK) : Option Int := (R.find? (hitR s t)).map (·.2.2)
def RowOk (r : RowD) : Prop := okN r.1 = true ∧ r.1.depth ≤ 5 ∧ okN r.2.1 = true ∧ r.2.1.depth ≤ 5
theorem firstN_snoc (R : List RowD) (r : RowD) (s t : NK) : firstN (R ++ [r]) s t = (firstN R s t).or (if r.1 = s ∧ r.2.1 = t then some r.2.2 else none) := by
  unfold firstN
  rw [List.find?_append, List.find?_cons, List.find?_nil]
  by_cases h : r.1 = s ∧ r.2.1 = t
  · rw [if_pos h, show hitR s t r = true by unfold hitR; rw [decide_eq_true h.1, decide_eq_true h.2]; rfl]
    cases R.find? (hitR s t) <;> rfl
  · rw [if_neg h, show hitR s t r = false by unfold hitR; rw [← Bool.decide_and, decide_eq_false h]]
    cases R.find? (hitR s t) <;> rfl
theorem key_eq (s t s' t' : NK) : (NK.tup [s, t] = NK.tup [s', t']) = (s = s' ∧ t = t') := by simp
theorem pair_depth {s t : NK} (h : s.depth ≤ 5) (h' : t.depth ≤ 5) : (NK.tup [s, t]).depth ≤ 8 := by
  simp only [NK.depth, NK.depths]
  omega
/-- a dealer of rows -/
def DealAt (w : World) (H : Hp) (x C : Addr) (R : List RowD) (sp : Int) : Prop := ∃ dx D kvs, H x = some (.ins C dx [("_numbers", .ref D), ("_spare", .int sp)]) ∧ H D = some (dN w D kvs) ∧ KeysOk H kvs ∧
  ∀ s t, valN kvs (.tup [s, t]) = (firstN R s t).map V.int
theorem DealAt.ex {H H' : Hp} {x C : Addr} {R : List RowD} {sp : Int} (e : Ex H H') (h : DealAt w H x C R sp) : DealAt w H' x C R sp := by
  obtain ⟨dx, D, kvs, a, b, c, d⟩ := h
  exact ⟨dx, D, kvs, e _ _ a, e _ _ b, c.tx (txn_ex e), d⟩
theorem DealAt.ch {H H' : Hp} {x C l : Addr} {R : List RowD} {sp : Int} {xs : List V} (hl : H l = some (.lst xs)) (c : Ch l H H') (h : DealAt w H x C R sp) : DealAt w H' x C R sp := by
  obtain ⟨dx, D, kvs, h1, h2, h3, h4⟩ := h
  exact ⟨dx, D, kvs, c _ _ (ne_of h1 hl (by intro z; cases z)) h1, c _ _ (ne_of h2 hl (by intro z; cases z)) h2, h3.tx fun b ys hb => c _ _ (ne_of hb hl (by intro z; cases z)) hb, h4⟩
def sp_init (w : World) (C : Addr) : Sp := fun vs H Q _ => ∃ (x dx a : Addr) (us : List V) (R : List RowD) (sp : Int), vs = [.ref x, .ref a, .int sp] ∧ H x = some (.ins C dx []) ∧ H a = some (.lst us) ∧ NAts H us (R.map rowK) ∧ R.length ≤ 100 ∧ (∀ r ∈ R, RowOk r) ∧
  ∀ H', Ch x H H' → DealAt w H' x C R sp → Q .non H'
theorem ok_init (T : Tp K mg) : FnOk P w K mg base CX0 1 T.a_Dealer___init__ T.d_Dealer___init__ ["self", "rows", "spare"] (sp_init w T.C_Dealer) := by
  refine T.f_Dealer___init__.ok sc_Dealer___init__ (fun vs H Q E h => ?_) (fun cdv A outer s H vs Q E hr h => ?_)
  · obtain ⟨x, dx, a, us, R, sp, rfl, _⟩ := h
    rfl
  · obtain ⟨x, dx, a, us, R, sp, rfl, hx, ha, hR, hl, hok, q⟩ := h
    have hu64 := hr.units
    have ul : us.length = R.length := by rw [hR.len, List.length_map]
    refine ⟨_, PSs.nox (pss_cons (ps_fld (pv 0) (pe_nnew (X := _)) rfl)
  (pss_cons (ps_for PassesOwn.never rfl (pi_list (pv 1)) (pg_tup (by rfl) (pgs_cons (pg_name (i := 3) sc_Dealer___init__.nd rfl (.inl rfl)) (pgs_cons (pg_name (i := 4) sc_Dealer___init__.nd rfl (.inl rfl)) (pgs_cons (pg_name (i := 5) sc_Dealer___init__.nd rfl (.inl rfl)) pgs_nil))))
  (pss_one (ps_expr (pe_setdN hu64 (pe_fld (pv 0) rfl) (pe_tup (pa_cons (pv 3) (pa_cons (pv 4) pa_nil))) (pv 5) ⟨rfl, rfl, rfl, rfl⟩))))
  (pss_one (ps_fld (pv 0) (pv 2) rfl)))), ?_⟩
    walk_at "g"
    refine (nnew_go fun D H1 nD e1 hD => ?_)
    walk_at "g"
    refine stf_go (e1 _ _ hx) T.cl_Dealer T.na_Dealer__numbers (by decide) fun H2 c2 h2 => ?_
    have D2 : H2 D = some (dN w D []) := c2 _ _ (fun e => by subst e; rw [hx] at nD; cases nD) hD
    have c02 : Ch x H H2 := fun b o hb hbo => c2 b o hb (e1 _ _ hbo)
    walk_at "g"
    refine ll_go (xs := us) (.inl (.inl (c02 _ _ (ne_of ha hx (by intro z; cases z)) ha))) (fun i σ' H' => ∃ y3 y4 y5 kvs, σ' = [some (.ref x), some (.ref a), some (.int sp), y3, y4, y5] ∧ Ch x H H' ∧ H' x = some (.ins T.C_Dealer dx [("_numbers", .ref D)]) ∧ H' D = some (dN w D kvs) ∧ KeysOk H' kvs ∧ kvs.length ≤ i ∧
      ∀ s t, valN kvs (.tup [s, t]) = (firstN (R.take i) s t).map V.int) ?_ ?_ ?_ ?_
    · exact ⟨_, _, _, [], rfl, c02, h2, D2, (fun _ h => nomatch h), Nat.le_refl _, (fun s t => rfl)⟩
    · rintro i σ' H' hi ⟨y3, y4, y5, kvs, rfl, c', _⟩
      exact .inl (.inl (c' _ _ (ne_of ha hx (by intro z; cases z)) ha))
    · rintro i v σ' H' hv ⟨y3, y4, y5, kvs, rfl, c', hx', hD', hk', hkl, hval⟩
      have hi : i < us.length := (List.getElem?_eq_some_iff.mp hv).1
      obtain ⟨k, hk, hvk⟩ := hR.get hv
      rw [List.getElem?_map] at hk
      obtain ⟨r, hr1, rfl⟩ := Option.map_eq_some_iff.mp hk
      have tx : TxN H H' := fun b ys hb => c' b _ (ne_of hb hx (by intro z; cases z)) hb
      obtain ⟨b, xs, rfl, hb, hxs⟩ := (hvk.tx tx).tupOf
      obtain ⟨s1, s2, s3, s4⟩ := hok r (List.mem_of_getElem? hr1)
      obtain ⟨z1, z2, z3, rfl, n1, n2, n3⟩ := hxs.inv3
      rw [n3.int_inv] at hb
      refine ⟨b, _, rfl, .inl (.inl hb), rfl, _, _, rfl, _, _, rfl, _, _, rfl, rfl, ?_⟩
      walk_at "g"
      refine gtf_go hx' T.cl_Dealer T.na_Dealer__numbers rfl ?_
      refine ⟨D, rfl, isN_of hD', ?_⟩
      walk_at "g"
      refine tup_go (.cons n1 (.cons n2 .nil)) fun p H1 np e1 t1 k1 => ?_
      walk_at "g"
      have c1 : Ch x H H1 := fun c o hc hco => e1 _ _ (c' c o hc hco)
      have nx : D ≠ x := ne_of hD' hx' (by intro z; cases z)
      have step : R.take (i + 1) = R.take i ++ [r] := by rw [List.take_add_one, hr1]; rfl
      refine setd_go (e1 _ _ hD') (hk'.tx (txn_ex e1)) t1 (pair_depth s2 s4) (by omega) (fun v hv0 => ?_) fun hn H2 c2 h2 k2 => ?_
      · walk_at "g"
        refine ⟨_, _, _, kvs, rfl, c1, e1 _ _ hx', e1 _ _ hD', hk'.tx (txn_ex e1), by omega, fun s t => ?_⟩
        rw [hval, step, firstN_snoc]
        by_cases e : r.1 = s ∧ r.2.1 = t
        · have := hval r.1 r.2.1
          rw [hv0] at this
          rw [← e.1, ← e.2]
          cases q0 : firstN (R.take i) r.1 r.2.1 with
          | none => rw [q0] at this; cases this
          | some _ => rfl
        · rw [if_neg e, Option.or_none]
      · walk_at "g"
        refine ⟨_, _, _, _, rfl, fun c o hc hco => c2 c o (ne_of_none hco nD) (c1 c o hc hco), c2 _ _ (Ne.symm nx) (e1 _ _ hx'), h2, k2, by rw [List.length_append]; simp only [List.length_cons, List.length_nil]; omega, fun s t => ?_⟩
        · rw [valN_snoc, hval, step, firstN_snoc]
          by_cases e : r.1 = s ∧ r.2.1 = t
          · rw [if_pos e, if_pos (by rw [e.1, e.2])]
            cases firstN (R.take i) s t <;> rfl
          · rw [if_neg e, if_neg (by rw [key_eq]; exact e), Option.or_none, Option.or_none]
    · rintro σ' H' ⟨y3, y4, y5, kvs, rfl, c', hx', hD', hk', hkl, hval⟩
      walk_at "g"
      refine stf_go hx' T.cl_Dealer T.na_Dealer__spare (by show 1 < 1000; decide) fun H3 c3 h3 => ?_
      rw [ul, List.take_length] at hval
      have nx : D ≠ x := ne_of hD' hx' (by intro z; cases z)
      refine q H3 (fun b o hb hbo => c3 b o hb (c' b o hb hbo)) ⟨dx, D, kvs, h3, c3 _ _ nx hD', hk'.tx fun b ys hb => c3 b _ (ne_of hb hx' (by intro z; cases z)) hb, hval⟩
def sp_deal (w : World) (C : Addr) : Sp := fun vs H Q _ => ∃ (x : Addr) (s t : V) (ks kt : NK) (R : List RowD) (sp : Int), vs = [.ref x, s, t] ∧ DealAt w H x C R sp ∧ NAt H s ks ∧ NAt H t kt ∧ ks.depth ≤ 5 ∧ kt.depth ≤ 5 ∧
  ∀ H', Ex H H' → Q (.int ((firstN R ks kt).getD sp)) H'
theorem ok_deal (T : Tp K mg) : FnOk P w K mg base CX0 1 T.a_Dealer___call__ T.d_Dealer___call__ ["self", "standing", "step"] (sp_deal w T.C_Dealer) := by
  refine T.f_Dealer___call__.ok sc_Dealer___call__ (fun vs H Q E h => ?_) (fun cdv A outer s H vs Q E hr h => ?_)
  · obtain ⟨x, s, t, ks, kt, R, sp, rfl, _⟩ := h
    rfl
  · obtain ⟨x, s, t, ks, kt, R, sp, rfl, ⟨dx, D, kvs, hx, hD, hk, hv⟩, hs, ht, d1, d2, q⟩ := h
    have hu64 := hr.units
    refine ⟨_, (pss_one (ps_ret (pe_nget2 hu64 (pe_fld (pv 0) rfl) (pe_tup (pa_cons (pv 1) (pa_cons (pv 2) pa_nil))) (pe_fld (pv 0) rfl) ⟨rfl, rfl, rfl, rfl⟩))), ?_⟩
    walk_at "g"
    refine gtf_go hx T.cl_Dealer T.na_Dealer__numbers rfl ?_
    refine ⟨D, rfl, isN_of hD, ?_⟩
    walk_at "g"
    refine tup_go (.cons hs (.cons ht .nil)) fun p H1 np e1 t1 k1 => ?_
    walk_at "g"
    refine gtf_go (e1 _ _ hx) T.cl_Dealer T.na_Dealer__spare rfl ?_
    refine nget_go (e1 _ _ hD) (hk.tx (txn_ex e1)) t1 (pair_depth d1 d2) ?_
    rw [hv]
    have e : ((firstN R ks kt).map V.int).getD (.int sp) = .int ((firstN R ks kt).getD sp) := by
      cases firstN R ks kt <;> rfl
    rw [e]
    exact q H1 e1
def dueF (R : List RowD) (s t : NK) (sp : Int) : Int := (firstN R s t).getD sp
def sp_due (K : PySem.W.Frag) : Sp := fun vs H Q _ => ∃ (a : Addr) (us : List V) (R : List RowD) (s t : V) (ks kt : NK) (sp : Int), vs = [.ref a, s, t, .int sp] ∧ SqL K H a us ∧ NAts H us (R.map rowK) ∧ (∀ r ∈ R, RowOk r) ∧ NAt H s ks ∧ NAt H t kt ∧ RowOk (ks, kt, 0) ∧
  Q (.int (dueF R ks kt sp)) H
theorem ok_due (T : Tp K mg) : FnOk P w K mg base CX0 1 T.a__law_due T.d__law_due ["_law_rows", "_law_standing_here", "_law_step_here", "_law_spare_due"] (sp_due K) := by
  refine T.f__law_due.ok sc__law_due (fun vs H Q E h => ?_) (fun cdv A outer s H vs Q E hr h => ?_)
  · obtain ⟨a, us, R, s, t, ks, kt, sp, rfl, _⟩ := h
    rfl
  · obtain ⟨a, us, R, s, t, ks, kt, sp, rfl, ha, hR, hok, hs, ht, ⟨o1, d1, o2, d2⟩, q⟩ := h
    have hu64 := hr.units
    have d1' : ks.depth ≤ 5 := d1
    have d2' : kt.depth ≤ 5 := d2
    have ul : us.length = R.length := by rw [hR.len, List.length_map]
    refine ⟨_, (pss_cons (ps_for PassesOwn.never rfl (pi_list (pv 0)) (pg_name (i := 4) sc__law_due.nd rfl (.inl rfl))
  (pss_one (ps_if (PW.pt (pw_and (pt_cmpR (op_eqD hu64) (pe_ix ix_seq (pv 4) pe_int (fun _ _ => rfl)) (pv 1) (nomark _)) (pw_and1 (pt_cmpR (op_eqD hu64) (pe_ix ix_seq (pv 4) pe_int (fun _ _ => rfl)) (pv 2) (nomark _))))) (pss_one (ps_ret (pe_ix ix_seq (pv 4) pe_int (fun _ _ => rfl)))) pss_nil)))
  (pss_one (ps_ret (pv 3)))), ?_⟩
    walk_at "g"
    refine ll_go (xs := us) ha (fun i σ' H' => ∃ y4, σ' = [some (.ref a), some s, some t, some (.int sp), y4] ∧ H' = H ∧ firstN (R.take i) ks kt = none) ?_ ?_ ?_ ?_
    · exact ⟨_, rfl, rfl, rfl⟩
    · rintro i σ' H' hi ⟨y4, rfl, rfl, _⟩
      exact ha
    · rintro i v σ' H' hv ⟨y4, rfl, rfl, hn⟩
      obtain ⟨k, hk, hvk⟩ := hR.get hv
      rw [List.getElem?_map] at hk
      obtain ⟨r, hr1, rfl⟩ := Option.map_eq_some_iff.mp hk
      obtain ⟨b, xs, rfl, hb, hxs⟩ := hvk.tupOf
      obtain ⟨s1, s2, s3, s4⟩ := hok r (List.mem_of_getElem? hr1)
      obtain ⟨z1, z2, z3, rfl, n1, n2, n3⟩ := hxs.inv3
      rw [n3.int_inv] at hb
      have step : R.take (i + 1) = R.take i ++ [r] := by rw [List.take_add_one, hr1]; rfl
      have hlt : i < R.length := by
        have := (List.getElem?_eq_some_iff.mp hr1).1
        exact this
      show tIfS _ _ _ _ _ _
      walk_at "g"
      refine ix_t (v := z1) (.inl (.inl hb)) rfl ?_
      walk_at "g"
      refine r_eqN n1 hs s1 o1 (by omega) (by omega) ?_
      walk_at "g"
      refine ite_b (fun h1 => ?_) (fun h1 => ?_)
      · have e1 : r.1 = ks := of_decide_eq_true h1
        walk_at "g"
        refine ix_t (v := z2) (.inl (.inl hb)) rfl ?_
        walk_at "g"
        refine r_eqN n2 ht s3 o2 (by omega) (by omega) ?_
        walk_at "g"
        refine ite_b (fun h2 => ?_) (fun h2 => ?_)
        · have e2 : r.2.1 = kt := of_decide_eq_true h2
          walk_at "g"
          refine ix_t (v := .int r.2.2) (.inl (.inl hb)) rfl ?_
          have fe : dueF R ks kt sp = r.2.2 := by
            unfold dueF
            have : firstN R ks kt = some r.2.2 := by
              rw [← List.take_append_drop (i + 1) R, step]
              unfold firstN
              unfold firstN at hn
              rw [List.append_assoc, List.find?_append, Option.map_eq_none_iff.mp hn, List.cons_append, List.find?_cons, show hitR ks kt r = true by unfold hitR; rw [decide_eq_true e1, decide_eq_true e2]; rfl]
              rfl
            rw [this]
            rfl
          rw [← fe]
          exact q
        · have e2 : ¬ r.2.1 = kt := of_decide_eq_false h2
          walk_at "g"
          exact ⟨_, rfl, rfl, by rw [step, firstN_snoc, hn, if_neg (fun z => e2 z.2)]; rfl⟩
      · have e1 : ¬ r.1 = ks := of_decide_eq_false h1
        walk_at "g"
        refine ite_f rfl ?_
        walk_at "g"
        exact ⟨_, rfl, rfl, by rw [step, firstN_snoc, hn, if_neg (fun z => e1 z.1)]; rfl⟩
    · rintro σ' H' ⟨y4, rfl, rfl, hn⟩
      rw [ul, List.take_length] at hn
      walk_at "g"
      have fe : dueF R ks kt sp = sp := by unfold dueF; rw [hn]; rfl
      rw [← fe]
      exact q
end

end K10

set_option Elab.async false
set_option linter.all false
set_option maxRecDepth 100000
namespace K10
open PySem PySem.Spec PyProof.Rows L2 Evl AE
local macro_rules | `(tactic| walk_at "c") => `(tactic| first | exact ⟨by decide, by decide⟩ | exact .inr ⟨by decide, by decide⟩ | exact .inl ⟨by decide, by decide⟩ | exact ⟨by decide, by decide, by decide⟩ | (show (0 : Int) < _; decide))
local macro_rules | `(tactic| walk_at "s") => `(tactic| first
  | (with_reducible refine r_var rfl ?_) | (with_reducible refine r_c ?_) | (with_reducible refine r_op ?_) | (with_reducible refine r_un ?_) | (with_reducible refine r_I0 ?_) | (with_reducible refine r_U ?_)
  | (with_reducible refine r_eq rfl ?_) | (with_reducible refine r_ne rfl ?_) | (with_reducible refine r_chain ?_) | (with_reducible refine r_test ?_) | (with_reducible refine r_tB ?_)
  | (with_reducible refine r_bl ?_) | (with_reducible refine r_and ?_) | (with_reducible refine r_or ?_) | (with_reducible refine r_not ?_) | (with_reducible refine r_nil ?_) | (with_reducible refine r_cons ?_)
  | (with_reducible refine r_tup ?_) | (with_reducible refine r_lst ?_) | (with_reducible refine r_cb ?_) | (with_reducible refine r_call ?_) | (with_reducible refine r_seq ?_) | (with_reducible refine r_set ?_)
  | (with_reducible refine r_drop ?_) | (with_reducible refine r_ret ?_) | (with_reducible refine r_next ?_) | (with_reducible refine r_if ?_) | (with_reducible refine r_sl ?_) | (with_reducible refine r_nop ?_) | (with_reducible refine r_prt ?_) | (with_reducible refine r_some ?_)
  | (with_reducible refine add_int ?_) | (with_reducible refine int_i ?_) | (with_reducible refine r_forR1 ?_) | (with_reducible refine r_forL ?_) | (with_reducible refine r_andV ?_) | (with_reducible refine r_orV ?_) | (with_reducible refine r_notV ?_) | (with_reducible refine r_ifE ?_) | (with_reducible refine r_lcL ?_) | (with_reducible refine r_fld ?_) | (with_reducible refine r_get ?_) | (with_reducible refine r_din ?_) | (with_reducible refine r_dget2 ?_) | ((with_reducible refine r_I ?_ ?_); (walk_at "c")))
local macro_rules | `(tactic| walk_at "g") => `(tactic| repeat walk_at "s")
section
variable {P : Program} {w : World} {K : PySem.W.Frag} {mg : Str → Option Value} {base : Heap}
/-! ### asks -/
def letC (d : Int) : Nat := 97 + (d % 26).toNat
def wordL (row : List Int) : List Nat := (row.take 8).map letC
def ltrs : Str := "abcdefghijklmnopqrstuvwxyz"
theorem ltrs_at : ∀ i : Fin 26, ltrs.cps.toList[i.val]? = some (97 + i.val) := by decide +kernel
theorem ltrs_len : ltrs.length = 26 := by decide +kernel
theorem ltrs_ix (d : Int) : atI ltrs.cps.toList (d % 26) = some (letC d) := by
  have h1 : (d % 26).toNat < 26 := by omega
  have h0 : d % 26 = (((d % 26).toNat : Nat) : Int) := by omega
  rw [h0]
  exact atI_nat (ltrs_at ⟨_, h1⟩)
def letV : V → V
  | .int d => .str ⟨#[letC d]⟩
  | v => v
theorem let_map : ∀ l : List Int, ((l.map V.int).filter fun _ => true).map letV = ((l.map letC).map fun c => (⟨#[c]⟩ : Str)).map V.str := fun l => by
  rw [filter_yes, List.map_map, List.map_map, List.map_map]
  rfl
theorem sum_signs : ∀ l : List Nat, ((l.map fun c => (⟨#[c]⟩ : Str)).map fun x => x.length).sum = l.length
  | [] => rfl
  | c :: l => by
    rw [List.map_cons, List.map_cons, List.sum_cons, sum_signs l]
    show 1 + l.length = l.length + 1
    omega
/-- the i-th ask of a row -/
def askL (row : List Int) (i : Nat) : List Nat :=
  if row.getD 8 0 % 2 = 0 then (wordL row).take ((row.getD 9 0 + 3 * i) % 8 + 1).toNat
  else (wordL row).take (row.getD 10 0 % (row.getD 9 0 % 8 + 1)).toNat ++ [letC (row.getD 11 0 + (row.getD 12 0 % 6 * 2 + 1) * i)] ++
    ((wordL row).take (row.getD 9 0 % 8 + 1).toNat).drop ((row.getD 10 0 % (row.getD 9 0 % 8 + 1)).toNat + 1)
def asksF (row : List Int) (many : Nat) : List Str := (List.range many).map fun i => ⟨(askL row i).toArray⟩
def AskOk (x : Str) : Prop := 1 ≤ x.length ∧ x.length ≤ 8 ∧ ∀ c ∈ x.cps.toList, 97 ≤ c ∧ c ≤ 122
theorem letC_ok (d : Int) : 97 ≤ letC d ∧ letC d ≤ 122 := by unfold letC; omega
theorem word_ok (row : List Int) : ∀ c ∈ wordL row, 97 ≤ c ∧ c ≤ 122 := fun c hc => by
  obtain ⟨d, _, rfl⟩ := List.mem_map.mp hc
  exact letC_ok d
theorem word_len {row : List Int} (h : 13 ≤ row.length) : (wordL row).length = 8 := by
  unfold wordL
  rw [List.length_map, List.length_take]
  omega
theorem ask_ok {row : List Int} (h : 13 ≤ row.length) (i : Nat) : 1 ≤ (askL row i).length ∧ (askL row i).length ≤ 8 ∧ ∀ c ∈ askL row i, 97 ≤ c ∧ c ≤ 122 := by
  have wl := word_len h
  unfold askL
  by_cases z : row.getD 8 0 % 2 = 0
  · rw [if_pos z]
    refine ⟨by rw [List.length_take]; omega, by rw [List.length_take]; omega, fun c hc => word_ok row c (List.mem_of_mem_take hc)⟩
  · rw [if_neg z]
    have p0 : 0 ≤ row.getD 10 0 % (row.getD 9 0 % 8 + 1) := by
      have : row.getD 9 0 % 8 + 1 ≠ 0 := by omega
      exact Int.emod_nonneg _ this
    have p1 : row.getD 10 0 % (row.getD 9 0 % 8 + 1) < row.getD 9 0 % 8 + 1 := Int.emod_lt_of_pos _ (by omega)
    generalize row.getD 10 0 % (row.getD 9 0 % 8 + 1) = p at p0 p1
    refine ⟨by simp only [List.length_append, List.length_take, List.length_drop, List.length_cons, List.length_nil]; omega, by simp only [List.length_append, List.length_take, List.length_drop, List.length_cons, List.length_nil]; omega, fun c hc => ?_⟩
    rcases List.mem_append.mp hc with hc | hc
    · rcases List.mem_append.mp hc with hc | hc
      · exact word_ok row c (List.mem_of_mem_take hc)
      · rw [List.mem_singleton.mp hc]
        exact letC_ok _
    · exact word_ok row c (List.mem_of_mem_take (List.mem_of_mem_drop hc))
theorem asks_ok {row : List Int} (h : 13 ≤ row.length) (many : Nat) : ∀ x ∈ asksF row many, AskOk x := fun x hx => by
  obtain ⟨i, _, rfl⟩ := List.mem_map.mp hx
  obtain ⟨a, b, c⟩ := ask_ok h i
  exact ⟨by show 1 ≤ (askL row i).toArray.size; rw [List.size_toArray]; exact a, by show (askL row i).toArray.size ≤ 8; rw [List.size_toArray]; exact b, fun d hd => c d (by simpa using hd)⟩
theorem asks_len (row : List Int) (many : Nat) : (asksF row many).length = many := by
  unfold asksF
  rw [List.length_map, List.length_range]
theorem asks_snoc (row : List Int) (n : Nat) : (asksF row (n + 1)).map V.str = (asksF row n).map V.str ++ [.str ⟨(askL row n).toArray⟩] := by
  unfold asksF
  rw [List.range_succ, List.map_append, List.map_append]
  rfl
theorem cutS_toI (z : List Nat) {n : Int} (h : 0 ≤ n) : cutS ⟨z.toArray⟩ none (some n) = ⟨(z.take n.toNat).toArray⟩ := by
  have e : n = (n.toNat : Int) := by omega
  conv => lhs; rw [e]
  exact cutS_to _ _
theorem cutS_midI (z : List Nat) {a b : Int} (h : 0 ≤ a) (h2 : 0 ≤ b) : cutS ⟨z.toArray⟩ (some a) (some b) = ⟨((z.take b.toNat).drop a.toNat).toArray⟩ := by
  have e : a = (a.toNat : Int) := by omega
  have e2 : b = (b.toNat : Int) := by omega
  conv => lhs; rw [e, e2]
  exact cutS_mid _ _ _
theorem app_codes (a b : List Nat) : (⟨a.toArray⟩ : Str) ++ (⟨b.toArray⟩ : Str) = ⟨(a ++ b).toArray⟩ := by
  refine Str.ext' ?_
  rw [Str.cps_append]
  simp
def sp_asks (K : PySem.W.Frag) : Sp := fun vs H Q _ => ∃ (a : Addr) (row : List Int) (many : Int), vs = [.ref a, .int many] ∧ SqL K H a (row.map V.int) ∧ row.length = 13 ∧ (∀ x ∈ row, 0 ≤ x ∧ x < 64) ∧ 0 ≤ many ∧ many ≤ 8 ∧
  ∀ p H', H p = none → Ex H H' → H' p = some (.lst ((asksF row many.toNat).map V.str)) → Q (.ref p) H'
theorem row_at {row : List Int} {j : Nat} (h : j < row.length) : atI (row.map V.int) (j : Int) = some (.int (row.getD j 0)) := by
  refine atI_nat ?_
  rw [List.getElem?_map, List.getElem?_eq_getElem h, List.getD_eq_getElem?_getD, List.getElem?_eq_getElem h]
  rfl
theorem ok_asks (T : Tp K mg) : FnOk P w K mg base CX0 1 T.a__law_asks T.d__law_asks ["_law_row", "_law_many"] (sp_asks K) := by
  refine T.f__law_asks.ok sc__law_asks (fun vs H Q E h => ?_) (fun cdv A outer s H vs Q E hr h => ?_)
  · obtain ⟨a, row, many, rfl, _⟩ := h
    rfl
  · obtain ⟨a, row, many, rfl, hS, hlen, hb, h0, h1, q⟩ := h
    refine ⟨_, (pss_cons (ps_set (i := 2) sc__law_asks.nd rfl (.inr rfl) pe_str)
  (pss_cons (ps_set (i := 3) sc__law_asks.nd rfl (.inl rfl) (pe_join pe_str (pe_lc (own := [("_law_digit", 4)]) (g := gName 4) (tt := tYes) rfl sc__law_asks.nd (pi_list (pe_slice sl_list (pv 0) po_none (po_some pe_int))) (blkOk_by (N := N__law_asks) (sc := defScope s__law_asks) (by decide +kernel)) (fun _ _ _ _ _ => (pg_name (i := 4) sc__law_asks.nd rfl (.inl rfl))) (fun _ _ _ _ _ => pts_nil) (fun _ _ _ _ _ => (pe_ix (ix_seqK (K := K)) (pv 2) (pe_op op_mod (pe_callTy c_int (by rfl) T.n_int (by rfl) (pa_cons (pv 4) pa_nil)) pe_int) (fun _ _ => rfl))))))
  (pss_cons (ps_set (i := 5) sc__law_asks.nd rfl (.inl rfl) (pe_lst pa_nil))
  (pss_cons (ps_for PassesOwn.never rfl (pi_range1 rfl T.n_range (pa_cons (pv 1) pa_nil)) (pg_name (i := 6) sc__law_asks.nd rfl (.inl rfl))
  (pss_cons (ps_set (i := 7) sc__law_asks.nd rfl (.inl rfl) (pe_op opAdd (pe_op op_mod (pe_callTy c_int (by rfl) T.n_int (by rfl) (pa_cons (pe_op opAdd (pe_ix ix_seq (pv 0) pe_int (fun _ _ => rfl)) (pe_op op_mul pe_int (pv 6))) pa_nil)) pe_int) pe_int))
  (pss_one (ps_if (pt_cmpR op_eq (pe_op op_mod (pe_callTy c_int (by rfl) T.n_int (by rfl) (pa_cons (pe_ix ix_seq (pv 0) pe_int (fun _ _ => rfl)) pa_nil)) pe_int) pe_int (nomark _)) (pss_one (ps_expr (pe_bm PySem.F.plainAttrs_list PySem.F.slot_list_append PySem.F.type_list_append mt_append (pv 5) (pa_cons (pe_slice sl_str (pv 3) po_none (po_some (pv 7))) pa_nil)))) (pss_cons (ps_set (i := 7) sc__law_asks.nd rfl (.inl rfl) (pe_op opAdd (pe_op op_mod (pe_callTy c_int (by rfl) T.n_int (by rfl) (pa_cons (pe_ix ix_seq (pv 0) pe_int (fun _ _ => rfl)) pa_nil)) pe_int) pe_int))
  (pss_cons (ps_set (i := 8) sc__law_asks.nd rfl (.inl rfl) (pe_op op_mod (pe_callTy c_int (by rfl) T.n_int (by rfl) (pa_cons (pe_ix ix_seq (pv 0) pe_int (fun _ _ => rfl)) pa_nil)) (pv 7)))
  (pss_cons (ps_set (i := 9) sc__law_asks.nd rfl (.inl rfl) (pe_op opAdd (pe_op op_mul (pe_op op_mod (pe_callTy c_int (by rfl) T.n_int (by rfl) (pa_cons (pe_ix ix_seq (pv 0) pe_int (fun _ _ => rfl)) pa_nil)) pe_int) pe_int) pe_int))
  (pss_cons (ps_set (i := 10) sc__law_asks.nd rfl (.inl rfl) (pe_ix ix_seq (pv 2) (pe_op op_mod (pe_callTy c_int (by rfl) T.n_int (by rfl) (pa_cons (pe_op opAdd (pe_ix ix_seq (pv 0) pe_int (fun _ _ => rfl)) (pe_op op_mul (pv 9) (pv 6))) pa_nil)) pe_int) (fun _ _ => rfl)))
  (pss_one (ps_expr (pe_bm PySem.F.plainAttrs_list PySem.F.slot_list_append PySem.F.type_list_append mt_append (pv 5) (pa_cons (pe_op opAdd (pe_op opAdd (pe_slice sl_str (pv 3) po_none (po_some (pv 8))) (pv 10)) (pe_slice sl_str (pv 3) (po_some (pe_op opAdd (pv 8) pe_int)) (po_some (pv 7)))) pa_nil))))))))))))
  (pss_one (ps_ret (pv 5))))))), ?_⟩
    walk_at "g"
    refine ⟨⟨_, rfl⟩, ?_⟩
    walk_at "g"
    refine sl_l hS fun l8 hl8 => ?_
    rw [show ((8 : Int)) = ((8 : Nat) : Int) from rfl, cutV_to, ← List.map_take]
    refine lcl_go (xs := (row.take 8).map V.int) (fun _ => true) letV (.inl (.inl upd_same)) ?_ (fun _ => rfl) ?_ ?_ ?_
    · rw [List.length_map, List.length_take]; omega
    · exact yes_t
    · intro x hx _ H1 e1 R k
      obtain ⟨d, _, rfl⟩ := List.mem_map.mp hx
      walk_at "g"
      exact ix_s (c := letC d) (by decide) (ltrs_ix d) (k H1 (Ex.refl _))
    · intro D H1 hD e1 hl1
      rw [let_map] at hl1
      refine ⟨_, D, (wordL row).map fun c => ⟨#[c]⟩, rfl, rfl, .inl (.inl (.inl hl1)), ?_, ?_⟩
      · rw [sum_signs, List.length_map, word_len (by omega)]
        decide
      rw [join_signs]
      have e2 : Ex H H1 := (Ex.new hl8).trans e1
      walk_at "g"
      refine ⟨sz_of (by show 0 ≤ 100000; decide), fun l hl => ?_⟩
      have e3 : Ex H (upd H1 l (.lst [])) := e2.trans (Ex.new hl)
      have l3 : (upd H1 l (.lst [])) l = some (.lst []) := upd_same
      have hl0 : H l = none := fresh_back e2 hl
      generalize (upd H1 l (.lst [])) = H3 at e3 l3
      walk_at "g"
      refine lr1_go (fun i σ' H' => ∃ y6 y7 y8 y9 y10, σ' = [some (.ref a), some (.int many), some (.str (Str.ofString "abcdefghijklmnopqrstuvwxyz")), some (.str ⟨(wordL row).toArray⟩), none, some (.ref l), y6, y7, y8, y9, y10] ∧ Ex H H' ∧ H' l = some (.lst ((asksF row i).map V.str)))
        ⟨_, _, _, _, _, rfl, e3, l3⟩ ⟨h0, by omega⟩ ?_ ?_
      · rintro i σ' H' hi ⟨y6, y7, y8, y9, y10, rfl, e4, l4⟩
        walk_at "g"
        refine ix_l (ex_l e4 hS) (row_at (j := 9) (by omega)) ?_
        walk_at "g"
        refine ix_l (ex_l e4 hS) (row_at (j := 8) (by omega)) ?_
        walk_at "g"
        have ln := asks_len row i
        have lz : ((asksF row i).map V.str).length < sizeLine := by rw [List.length_map, ln]; exact sz_lt (by omega)
        have wz : (⟨(wordL row).toArray⟩ : Str).length ≤ sizeLine := by
          show (wordL row).toArray.size ≤ _
          rw [List.size_toArray, word_len (by omega)]
          decide
        refine ite_b (fun hc => ?_) (fun hc => ?_)
        · have z : row.getD 8 0 % 2 = 0 := V.int.inj (of_decide_eq_true hc)
          have ea : askL row i = (wordL row).take ((row.getD 9 0 + 3 * i) % 8 + 1).toNat := by unfold askL; rw [if_pos z]
          refine r_drop (r_app rfl l4 ?_)
          walk_at "g"
          refine sl_s wz ?_
          rw [show ((8 : Nat) : Int) = 8 from rfl, cutS_toI _ (by omega), ← ea]
          refine app_l l4 lz ?_
          walk_at "g"
          exact ⟨_, _, _, _, _, rfl, ex_upd e4 hl0, by rw [upd_same, asks_snoc]⟩
        · have z : ¬ row.getD 8 0 % 2 = 0 := fun q0 => of_decide_eq_false hc (congrArg V.int q0)
          walk_at "g"
          refine ix_l (ex_l e4 hS) (row_at (j := 9) (by omega)) ?_
          walk_at "g"
          refine ix_l (ex_l e4 hS) (row_at (j := 10) (by omega)) ?_
          walk_at "g"
          refine ⟨_, _, rfl, rfl, show (0 : Int) < _ by omega, ?_⟩
          walk_at "g"
          refine ix_l (ex_l e4 hS) (row_at (j := 12) (by omega)) ?_
          walk_at "g"
          refine ix_l (ex_l e4 hS) (row_at (j := 11) (by omega)) ?_
          walk_at "g"
          refine r_I (.inr ⟨by omega, by omega⟩) ?_
          walk_at "g"
          refine ix_s (c := letC (row.getD 11 0 + (row.getD 12 0 % 6 * 2 + 1) * i)) (by decide) (ltrs_ix _) ?_
          walk_at "g"
          refine r_drop (r_app rfl l4 ?_)
          walk_at "g"
          refine sl_s wz ?_
          have p0 : 0 ≤ row.getD 10 0 % (row.getD 9 0 % 8 + 1) := by
            have : row.getD 9 0 % 8 + 1 ≠ 0 := by omega
            exact Int.emod_nonneg _ this
          have p1 : row.getD 10 0 % (row.getD 9 0 % 8 + 1) < row.getD 9 0 % 8 + 1 := Int.emod_lt_of_pos _ (by omega)
          rw [show ((8 : Nat) : Int) = 8 from rfl]
          show tVar 10 _ _ _
          rw [cutS_toI _ p0]
          walk_at "g"
          refine add_str ?_ ?_
          · show (List.toArray _).size + 1 ≤ _
            rw [List.size_toArray, List.length_take, word_len (by omega)]
            have := @sz_of 100 (by decide)
            omega
          walk_at "g"
          refine sl_s wz ?_
          rw [cutS_midI _ (by omega) (by omega), show (⟨#[letC (row.getD 11 0 + (row.getD 12 0 % 6 * 2 + 1) * ↑i)]⟩ : Str) = ⟨[letC (row.getD 11 0 + (row.getD 12 0 % 6 * 2 + 1) * ↑i)].toArray⟩ from rfl, app_codes]
          refine add_str ?_ ?_
          · show (List.toArray _).size + (List.toArray _).size ≤ _
            rw [List.size_toArray, List.size_toArray]
            simp only [List.length_append, List.length_take, List.length_drop, List.length_cons, List.length_nil]
            have := @sz_of 100 (by decide)
            have := word_len (row := row) (by omega)
            omega
          rw [app_codes]
          walk_at "g"
          refine app_l l4 lz ?_
          walk_at "g"
          refine ⟨_, _, _, _, _, rfl, ex_upd e4 hl0, ?_⟩
          rw [upd_same, asks_snoc]
          have ea : askL row i = (wordL row).take (row.getD 10 0 % (row.getD 9 0 % 8 + 1)).toNat ++ [letC (row.getD 11 0 + (row.getD 12 0 % 6 * 2 + 1) * i)] ++
              ((wordL row).take (row.getD 9 0 % 8 + 1).toNat).drop ((row.getD 10 0 % (row.getD 9 0 % 8 + 1)).toNat + 1) := by unfold askL; rw [if_neg z]
          rw [ea, show (row.getD 10 0 % (row.getD 9 0 % 8 + 1) + 1).toNat = (row.getD 10 0 % (row.getD 9 0 % 8 + 1)).toNat + 1 by omega]
      · rintro σ' H' ⟨y6, y7, y8, y9, y10, rfl, e4, l4⟩
        walk_at "g"
        exact q l H' hl0 e4 l4
end
end K10

set_option Elab.async false
set_option linter.all false
set_option maxRecDepth 100000
set_option maxHeartbeats 2000000
namespace K10
open PySem PySem.Spec PyProof.Rows L2 Evl AE
local macro_rules | `(tactic| walk_at "c") => `(tactic| first | exact ⟨by decide, by decide⟩ | exact .inr ⟨by decide, by decide⟩ | exact .inl ⟨by decide, by decide⟩ | exact ⟨by decide, by decide, by decide⟩ | (show (0 : Int) < _; decide))
local macro_rules | `(tactic| walk_at "s") => `(tactic| first
  | (with_reducible refine r_var rfl ?_) | (with_reducible refine r_c ?_) | (with_reducible refine r_op ?_) | (with_reducible refine r_un ?_) | (with_reducible refine r_I0 ?_) | (with_reducible refine r_U ?_)
  | (with_reducible refine r_eq rfl ?_) | (with_reducible refine r_ne rfl ?_) | (with_reducible refine r_chain ?_) | (with_reducible refine r_test ?_) | (with_reducible refine r_tB ?_)
  | (with_reducible refine r_bl ?_) | (with_reducible refine r_and ?_) | (with_reducible refine r_or ?_) | (with_reducible refine r_not ?_) | (with_reducible refine r_nil ?_) | (with_reducible refine r_cons ?_)
  | (with_reducible refine r_tupK ?_) | (with_reducible refine r_lstK ?_) | (with_reducible refine r_cb ?_) | (with_reducible refine r_revL ?_) | (with_reducible refine r_makeK ?_) | (with_reducible refine r_make ?_) | (with_reducible refine r_setdN ?_) | (with_reducible refine r_nget2 ?_) | (with_reducible refine r_nnew ?_) | (with_reducible refine r_call ?_) | (with_reducible refine r_seq ?_) | (with_reducible refine r_set ?_)
  | (with_reducible refine r_drop ?_) | (with_reducible refine r_ret ?_) | (with_reducible refine r_next ?_) | (with_reducible refine r_if ?_) | (with_reducible refine r_sl ?_) | (with_reducible refine r_nop ?_) | (with_reducible refine r_prt ?_) | (with_reducible refine r_some ?_)
  | (with_reducible refine add_int ?_) | (with_reducible refine int_i ?_) | (with_reducible refine r_forR1 ?_) | (with_reducible refine r_forL ?_) | (with_reducible refine r_andV ?_) | (with_reducible refine r_orV ?_) | (with_reducible refine r_notV ?_) | (with_reducible refine r_ifE ?_) | (with_reducible refine r_lcL ?_) | (with_reducible refine r_fld ?_) | (with_reducible refine r_get ?_) | (with_reducible refine r_din ?_) | (with_reducible refine r_dget2 ?_) | ((with_reducible refine r_I ?_ ?_); (walk_at "c")))
local macro_rules | `(tactic| walk_at "g") => `(tactic| repeat walk_at "s")
section
variable {P : Program} {w : World} {K : PySem.W.Frag} {mg : Str → Option Value} {base : Heap}
theorem RG_of (T : Tp K mg) : FnR P w K mg base CX0 1 T.a_Dealer___call__ (sp_deal w T.C_Dealer) :=
  ((ok_deal (P := P) (w := w) (base := base) T).raw T.b_Dealer___call__ .nil).imp fun vs H Q E h => by
    rw [List.append_nil]
    exact h
structure AsksOk (as : List Str) : Prop where
  n : as.length = 2
  ok : ∀ x ∈ as, PyData.strOk x = true
theorem AsksOk.row {as : List Str} (h : AsksOk as) (d e n : Int) : RowOk (stK as d, spK as e, n) := by
  obtain ⟨h1, h2⟩ := stK_ok h.ok h.n d
  obtain ⟨h3, h4⟩ := spK_ok h.ok h.n e
  exact ⟨h1, by show (stK as d).depth ≤ 5; omega, h3, by show (spK as e).depth ≤ 5; omega⟩
def sp_holds (w : World) (K : PySem.W.Frag) (C : Addr) : Sp := fun vs H Q _ => ∃ (x a b : Addr) (us : List V) (R : List RowD) (as : List Str) (sp : Int), vs = [.ref x, .ref a, .ref b, .int sp] ∧ DealAt w H x C R sp ∧ SqL K H a us ∧ NAts H us (R.map rowK) ∧ (∀ r ∈ R, RowOk r) ∧
  SqL K H b (as.map V.str) ∧ AsksOk as ∧ ∀ H', Ex H H' → Q (.bl true) H'
theorem ok_holds (T : Tp K mg) : FnOk P w K mg base CX0 3 T.a__law_dealer_holds T.d__law_dealer_holds ["_law_dealer", "_law_rows", "_law_asks_here", "_law_spare_due"] (sp_holds w K T.C_Dealer) := by
  have RG_call : FnR P w K mg base CX0 1 T.a_Dealer___call__ (sp_deal w T.C_Dealer) := RG_of T
  have G__law_whole : FnOk P w K mg base CX0 1 T.a__law_whole T.d__law_whole ["_law_x"] sp_whole := ok_whole T
  have G__law_standing : FnOk P w K mg base CX0 1 T.a__law_standing T.d__law_standing ["_law_digit", "_law_asks_here"] (sp_standing K) := ok_standing T
  have G__law_step : FnOk P w K mg base CX0 1 T.a__law_step T.d__law_step ["_law_digit", "_law_asks_here"] (sp_step K) := ok_step T
  have G__law_due : FnOk P w K mg base CX0 1 T.a__law_due T.d__law_due ["_law_rows", "_law_standing_here", "_law_step_here", "_law_spare_due"] (sp_due K) := ok_due T
  refine T.f__law_dealer_holds.ok sc__law_dealer_holds (fun vs H Q E h => ?_) (fun cdv A outer s H vs Q E hr h => ?_)
  · obtain ⟨x, a, b, us, R, as, sp, rfl, _⟩ := h
    rfl
  · obtain ⟨x, a, b, us, R, as, sp, rfl, hD, ha, hR, hok, hb, has, q⟩ := h
    refine ⟨_, (pss_cons (ps_for PassesOwn.never rfl (pi_range1 rfl T.n_range (pa_cons pe_int pa_nil)) (pg_name (i := 4) sc__law_dealer_holds.nd rfl (.inl rfl))
  (pss_one (ps_for PassesOwn.never rfl (pi_range1 rfl T.n_range (pa_cons pe_int pa_nil)) (pg_name (i := 5) sc__law_dealer_holds.nd rfl (.inl rfl))
  (pss_cons (ps_set (i := 6) sc__law_dealer_holds.nd rfl (.inl rfl) (pe_call G__law_standing (hr.mono (by decide)) (by rfl) T.g__law_standing T.f__law_standing.kp T.b__law_standing .nil pass0 (pa_cons (pv 4) (pa_cons (pv 2) pa_nil))))
  (pss_cons (ps_set (i := 7) sc__law_dealer_holds.nd rfl (.inl rfl) (pe_call G__law_step (hr.mono (by decide)) (by rfl) T.g__law_step T.f__law_step.kp T.b__law_step .nil pass0 (pa_cons (pv 5) (pa_cons (pv 2) pa_nil))))
  (pss_cons (ps_set (i := 8) sc__law_dealer_holds.nd rfl (.inl rfl) (StX.pe_callO (pv 0) T.co_Dealer RG_call (hr.mono (by decide)) pass0 (pa_cons (pv 6) (pa_cons (pv 7) pa_nil))))
  (pss_one (ps_if (PW.pt (pw_or (pt_not (pt_val (pe_call G__law_whole (hr.mono (by decide)) (by rfl) T.g__law_whole T.f__law_whole.kp T.b__law_whole .nil pass0 (pa_cons (pv 8) pa_nil)))) (pw_or1 (pt_cmpR op_ne (pv 8) (pe_call G__law_due (hr.mono (by decide)) (by rfl) T.g__law_due T.f__law_due.kp T.b__law_due .nil pass0 (pa_cons (pv 1) (pa_cons (pv 6) (pa_cons (pv 7) (pa_cons (pv 3) pa_nil))))) (nomark _))))) (pss_one (ps_ret pe_bl)) pss_nil))))))))
  (pss_one (ps_ret pe_bl))), ?_⟩
    walk_at "g"
    refine lr1_go (n := 36) (fun i σ' H' => ∃ y4 y5 y6 y7 y8, σ' = [some (.ref x), some (.ref a), some (.ref b), some (.int sp), y4, y5, y6, y7, y8] ∧ Ex H H') ⟨_, _, _, _, _, rfl, Ex.refl _⟩ (by decide) ?_ ?_
    · rintro i σ' H1 hi ⟨y4, y5, y6, y7, y8, rfl, e1⟩
      walk_at "g"
      refine lr1_go (n := 6) (fun j σ' H' => ∃ y5 y6 y7 y8, σ' = [some (.ref x), some (.ref a), some (.ref b), some (.int sp), some (.int i), y5, y6, y7, y8] ∧ Ex H H') ⟨_, _, _, _, rfl, e1⟩ (by decide) ?_ ?_
      · rintro j σ' H2 hj ⟨y5, y6, y7, y8, rfl, e2⟩
        walk_at "g"
        refine ⟨b, as, i, rfl, ex_l e2 hb, has.n, fun vs H3 e3 n3 => ?_⟩
        walk_at "g"
        refine ⟨b, as, j, rfl, ex_l (e2.trans e3) hb, has.n, fun vt H4 e4 n4 => ?_⟩
        have E4 := e2.trans (e3.trans e4)
        obtain ⟨r1, r2, r3, r4⟩ := has.row i j 0
        walk_at "g"
        refine ⟨_, rfl, x, rfl, ?_⟩
        walk_at "g"
        obtain ⟨dx, D, kvs, q1, q2, q3, q4⟩ := hD.ex E4
        refine ⟨.inr ⟨_, _, q1⟩, x, vs, vt, _, _, R, sp, rfl, ⟨dx, D, kvs, q1, q2, q3, q4⟩, n3.tx (txn_ex e4), n4, r2, r4, fun H5 e5 => ?_⟩
        walk_at "g"
        refine ⟨_, rfl, ?_⟩
        walk_at "g"
        refine ite_f rfl ?_
        walk_at "g"
        refine ⟨a, us, R, vs, vt, _, _, sp, rfl, ex_l (E4.trans e5) ha, ?_, hok, n3.tx (txn_ex (e4.trans e5)), n4.tx (txn_ex e5), ⟨r1, r2, r3, r4⟩, ?_⟩
        · exact hR.tx (txn_ex (E4.trans e5))
        walk_at "g"
        refine ite_f (by unfold dueF; rw [decide_eq_true rfl]; rfl) ?_
        walk_at "g"
        exact ⟨_, _, _, _, rfl, E4.trans e5⟩
      · rintro σ' H2 ⟨y5, y6, y7, y8, rfl, e2⟩
        exact ⟨_, _, _, _, _, rfl, e2⟩
    · rintro σ' H' ⟨y4, y5, y6, y7, y8, rfl, e'⟩
      walk_at "g"
      exact q H' e'
/-! ### the law -/
theorem getD_bd {l : List Int} {j : Nat} (h : j < l.length) (b : ∀ x ∈ l, 0 ≤ x ∧ x < 64) : 0 ≤ l.getD j 0 ∧ l.getD j 0 < 64 := by
  rw [List.getD_eq_getElem?_getD, List.getElem?_eq_getElem h]
  exact b _ (List.getElem_mem h)
def rowOf (ns : List Int) (as : List Str) (i : Nat) : RowD :=
  (stK as ((drawsF ns (2 + i) 3).getD 0 0), spK as ((drawsF ns (2 + i) 3).getD 1 0), (drawsF ns (2 + i) 3).getD 2 0 % 12 - 2)
def rowsF (ns : List Int) (as : List Str) (n : Nat) : List RowD := (List.range n).map (rowOf ns as)
theorem rowsF_snoc (ns : List Int) (as : List Str) (n : Nat) : (rowsF ns as (n + 1)).map rowK = (rowsF ns as n).map rowK ++ [rowK (rowOf ns as n)] := by
  unfold rowsF
  rw [List.range_succ, List.map_append, List.map_append]
  rfl
theorem rowsF_len (ns : List Int) (as : List Str) (n : Nat) : (rowsF ns as n).length = n := by
  unfold rowsF
  rw [List.length_map, List.length_range]
theorem rowsF_ok {as : List Str} (h : AsksOk as) (ns : List Int) (n : Nat) : ∀ r ∈ rowsF ns as n, RowOk r := fun r hr => by
  obtain ⟨i, _, rfl⟩ := List.mem_map.mp hr
  exact h.row _ _ _
theorem okNs_rows : ∀ {R : List RowD}, (∀ r ∈ R, RowOk r) → okNs (R.map rowK) = true ∧ NK.depths (R.map rowK) ≤ 6
  | [], _ => ⟨rfl, by rw [List.map_nil, NK.depths]; omega⟩
  | r :: R, h => by
    obtain ⟨h1, h2⟩ := okNs_rows fun x hx => h x (List.mem_cons_of_mem _ hx)
    obtain ⟨s1, s2, s3, s4⟩ := h r (List.mem_cons_self ..)
    rw [List.map_cons, okNs, NK.depths]
    refine ⟨?_, ?_⟩
    · rw [h1]
      simp [rowK, okN, okNs, s1, s3]
    · have : (rowK r).depth ≤ 6 := by
        simp only [rowK, NK.depth, NK.depths]
        omega
      omega
theorem ask_strOk {x : Str} (h : ∀ c ∈ x.cps.toList, 97 ≤ c ∧ c ≤ 122) : PyData.strOk x = true := by
  show x.cps.all (fun c => decide (c < 1114112)) = true
  rw [← Array.all_toList, List.all_eq_true]
  intro c hc
  have := h c hc
  exact decide_eq_true (by omega)
def sp_law (K : PySem.W.Frag) : Sp := fun vs H Q _ => ∃ (a : Addr) (ns : List Int), vs = [.ref a] ∧ SqL K H a (ns.map V.int) ∧ ∀ H', Q (.bl true) H'
theorem ok_law (T : Tp K mg) : FnOk P w K mg base CX0 6 T.a_law T.d_law ["_law_script"] (sp_law K) := by
  have G__law_draws : FnOk P w K mg base CX0 2 T.a__law_draws T.d__law_draws ["_law_script", "_law_k", "_law_many"] (sp_draws K) := ok_draws T
  have G__law_asks : FnOk P w K mg base CX0 1 T.a__law_asks T.d__law_asks ["_law_row", "_law_many"] (sp_asks K) := ok_asks T
  have G__law_standing : FnOk P w K mg base CX0 1 T.a__law_standing T.d__law_standing ["_law_digit", "_law_asks_here"] (sp_standing K) := ok_standing T
  have G__law_step : FnOk P w K mg base CX0 1 T.a__law_step T.d__law_step ["_law_digit", "_law_asks_here"] (sp_step K) := ok_step T
  have G__law_dealer_holds : FnOk P w K mg base CX0 3 T.a__law_dealer_holds T.d__law_dealer_holds ["_law_dealer", "_law_rows", "_law_asks_here", "_law_spare_due"] (sp_holds w K T.C_Dealer) := ok_holds T
  have G___init__ : FnOk P w K mg base CX0 1 T.a_Dealer___init__ T.d_Dealer___init__ ["self", "rows", "spare"] (sp_init w T.C_Dealer) := ok_init T
  refine T.f_law.ok sc_law (fun vs H Q E h => ?_) (fun cdv A outer s H vs Q E hr h => ?_)
  · obtain ⟨a, ns, rfl, _⟩ := h
    rfl
  · obtain ⟨a, ns, rfl, hS, q⟩ := h
    have hu64 := hr.units
    refine ⟨_, (pss_cons (ps_set (i := 1) sc_law.nd rfl (.inl rfl) (pe_call G__law_draws (hr.mono (by decide)) (by rfl) T.g__law_draws T.f__law_draws.kp T.b__law_draws .nil pass0 (pa_cons (pv 0) (pa_cons pe_int (pa_cons pe_int pa_nil)))))
  (pss_cons (ps_set (i := 2) sc_law.nd rfl (.inl rfl) (pe_call G__law_asks (hr.mono (by decide)) (by rfl) T.g__law_asks T.f__law_asks.kp T.b__law_asks .nil pass0 (pa_cons (pe_call G__law_draws (hr.mono (by decide)) (by rfl) T.g__law_draws T.f__law_draws.kp T.b__law_draws .nil pass0 (pa_cons (pv 0) (pa_cons pe_int (pa_cons pe_int pa_nil)))) (pa_cons pe_int pa_nil))))
  (pss_cons (ps_set (i := 3) sc_law.nd rfl (.inl rfl) (pe_lst pa_nil))
  (pss_cons (ps_for PassesOwn.never rfl (pi_range1 rfl T.n_range (pa_cons (pe_op op_mod (pe_callTy c_int (by rfl) T.n_int (by rfl) (pa_cons (pe_ix ix_seq (pv 1) pe_int (fun _ _ => rfl)) pa_nil)) pe_int) pa_nil)) (pg_name (i := 4) sc_law.nd rfl (.inl rfl))
  (pss_cons (ps_set (i := 5) sc_law.nd rfl (.inl rfl) (pe_call G__law_draws (hr.mono (by decide)) (by rfl) T.g__law_draws T.f__law_draws.kp T.b__law_draws .nil pass0 (pa_cons (pv 0) (pa_cons (pe_op opAdd pe_int (pv 4)) (pa_cons pe_int pa_nil)))))
  (pss_one (ps_expr (pe_bm PySem.F.plainAttrs_list PySem.F.slot_list_append PySem.F.type_list_append mt_append (pv 3) (pa_cons (pe_tup (pa_cons (pe_call G__law_standing (hr.mono (by decide)) (by rfl) T.g__law_standing T.f__law_standing.kp T.b__law_standing .nil pass0 (pa_cons (pe_ix ix_seq (pv 5) pe_int (fun _ _ => rfl)) (pa_cons (pv 2) pa_nil))) (pa_cons (pe_call G__law_step (hr.mono (by decide)) (by rfl) T.g__law_step T.f__law_step.kp T.b__law_step .nil pass0 (pa_cons (pe_ix ix_seq (pv 5) pe_int (fun _ _ => rfl)) (pa_cons (pv 2) pa_nil))) (pa_cons (pe_op op_sub (pe_op op_mod (pe_callTy c_int (by rfl) T.n_int (by rfl) (pa_cons (pe_ix ix_seq (pv 5) pe_int (fun _ _ => rfl)) pa_nil)) pe_int) pe_int) pa_nil)))) pa_nil))))))
  (pss_cons (ps_set (i := 6) sc_law.nd rfl (.inl rfl) (pe_callTy c_list (by rfl) T.n_list (by rfl) (pa_cons (pv 3) pa_nil)))
  (pss_cons (ps_set (i := 7) sc_law.nd rfl (.inl rfl) (pe_revL (pv 3)))
  (pss_cons (ps_set (i := 8) sc_law.nd rfl (.inl rfl) (pe_op op_sub (pe_op op_mod (pe_callTy c_int (by rfl) T.n_int (by rfl) (pa_cons (pe_ix ix_seq (pv 1) pe_int (fun _ _ => rfl)) pa_nil)) pe_int) pe_int))
  (pss_cons (ps_set (i := 9) sc_law.nd rfl (.inl rfl) (pe_makeK (n := 1) T.mk_Dealer G___init__ (hr.mono (by decide)) (by rfl) T.g_Dealer T.e_kn pass0 (pa_cons (pv 6) pa_nil) (pk_cons (pv 8) pk_nil)))
  (pss_cons (ps_if (pt_cmpR op_eq (pe_op op_mod (pe_callTy c_int (by rfl) T.n_int (by rfl) (pa_cons (pe_ix ix_seq (pv 1) pe_int (fun _ _ => rfl)) pa_nil)) pe_int) pe_int (nomark _)) (pss_cons (ps_set (i := 8) sc_law.nd rfl (.inl rfl) pe_int)
  (pss_one (ps_set (i := 9) sc_law.nd rfl (.inl rfl) (pe_make T.mk_Dealer G___init__ (hr.mono (by decide)) (by rfl) T.g_Dealer T.e_b T.e_vs pass0 (pa_cons (pv 6) pa_nil))))) pss_nil)
  (pss_cons (ps_set (i := 10) sc_law.nd rfl (.inl rfl) (pe_makeK (n := 1) T.mk_Dealer G___init__ (hr.mono (by decide)) (by rfl) T.g_Dealer T.e_kn pass0 (pa_cons (pv 7) pa_nil) (pk_cons pe_int pk_nil)))
  (pss_cons (ps_if (PW.pt (pw_or (pt_cmpR (op_neD hu64) (pv 6) (pv 3) (nomark _)) (pw_or1 (pt_not (pt_val (pe_call G__law_dealer_holds (hr.mono (by decide)) (by rfl) T.g__law_dealer_holds T.f__law_dealer_holds.kp T.b__law_dealer_holds .nil pass0 (pa_cons (pv 9) (pa_cons (pv 3) (pa_cons (pv 2) (pa_cons (pv 8) pa_nil)))))))))) (pss_one (ps_ret pe_bl)) pss_nil)
  (pss_cons (ps_expr (pe_bm PySem.F.plainAttrs_list PySem.F.slot_list_append PySem.F.type_list_append mt_append (pv 6) (pa_cons (pe_tup (pa_cons (pe_call G__law_standing (hr.mono (by decide)) (by rfl) T.g__law_standing T.f__law_standing.kp T.b__law_standing .nil pass0 (pa_cons pe_int (pa_cons (pv 2) pa_nil))) (pa_cons pe_non (pa_cons pe_int pa_nil)))) pa_nil)))
  (pss_cons (ps_expr (pe_bm0 PySem.F.plainAttrs_list PySem.F.slot_list_reverse PySem.F.type_list_reverse mt_reverse (pv 6)))
  (pss_one (ps_ret (pe_and (pe_call G__law_dealer_holds (hr.mono (by decide)) (by rfl) T.g__law_dealer_holds T.f__law_dealer_holds.kp T.b__law_dealer_holds .nil pass0 (pa_cons (pv 9) (pa_cons (pv 3) (pa_cons (pv 2) (pa_cons (pv 8) pa_nil))))) (pe_one (pe_call G__law_dealer_holds (hr.mono (by decide)) (by rfl) T.g__law_dealer_holds T.f__law_dealer_holds.kp T.b__law_dealer_holds .nil pass0 (pa_cons (pv 10) (pa_cons (pe_revL (pv 3)) (pa_cons (pv 2) (pa_cons pe_int pa_nil)))))))))))))))))))))), ?_⟩
    walk_at "g"
    refine ⟨a, ns, 0, 6, rfl, hS, by decide, by decide, by decide, fun p1 H1 n1 e1 h1 => ?_⟩
    walk_at "g"
    refine ⟨a, ns, 1, 13, rfl, ex_l e1 hS, by decide, by decide, by decide, fun p2 H2 n2 e2 h2 => ?_⟩
    walk_at "g"
    refine ⟨p2, _, 2, rfl, .inl (.inl h2), draws_len _ _ _, draws_bd _ _ _, by decide, by decide, fun p3 H3 n3 e3 h3 => ?_⟩
    have has : AsksOk (asksF (drawsF ns 1 13) (Int.toNat 2)) := ⟨asks_len _ _, fun x hx => ask_strOk (asks_ok (by rw [draws_len]; decide) 2 x hx).2.2⟩
    generalize asksF (drawsF ns 1 13) (Int.toNat 2) = as at h3 has
    walk_at "g"
    refine lst_go fun l H4 n4 e4 h4 => ?_
    have l1 : (drawsF ns 0 6).length = 6 := draws_len ns 0 6
    have b1 := draws_bd ns 0 6
    have E14 : Ex H1 H4 := e2.trans (e3.trans e4)
    walk_at "g"
    refine ix_l (.inl (.inl (E14 _ _ h1))) (row_at (j := 0) (by omega)) ?_
    walk_at "g"
    have c0 := getD_bd (j := 0) (by omega) b1
    generalize (drawsF ns 0 6).getD 0 0 = d0 at c0
    have E04 : Ex H H4 := e1.trans E14
    have P4 : H4 p3 = some (.lst (as.map V.str)) := e4 _ _ h3
    have nl3 : p3 ≠ l := ne_of_none h3 n4
    have hl0 : ∀ b o, H3 b = some o → b ≠ l := fun b o hb => ne_of_none hb n4
    refine lr1_go (n := d0 % 13) (fun i σ' H' => ∃ y4 y5 us, σ' = [some (.ref a), some (.ref p1), some (.ref p3), some (.ref l), y4, y5, none, none, none, none, none] ∧ Ex H3 H' ∧ H' l = some (.lst us) ∧ NAts H' us ((rowsF ns as i).map rowK))
      ⟨_, _, [], rfl, e4, h4, .nil⟩ (by omega) ?_ ?_
    · rintro i σ' H5 hi ⟨y4, y5, us, rfl, e5, h5, n5⟩
      walk_at "g"
      refine ⟨a, ns, _, 3, rfl, ex_l (e1.trans (e2.trans (e3.trans e5))) hS, by omega, by decide, by decide, fun p6 H6 n6 e6 h6 => ?_⟩
      have l6 : (drawsF ns (2 + i) 3).length = 3 := draws_len ns _ 3
      walk_at "g"
      refine r_app rfl (e6 _ _ h5) ?_
      walk_at "g"
      refine ix_l (.inl (.inl h6)) (row_at (j := 0) (by omega)) ?_
      walk_at "g"
      refine ⟨p3, as, _, rfl, .inl (.inl (e6 _ _ (e5 _ _ h3))), has.n, fun v1 H7 e7 k1 => ?_⟩
      walk_at "g"
      refine ix_l (.inl (.inl (e7 _ _ h6))) (row_at (j := 1) (by omega)) ?_
      walk_at "g"
      refine ⟨p3, as, _, rfl, .inl (.inl (e7 _ _ (e6 _ _ (e5 _ _ h3)))), has.n, fun v2 H8 e8 k2 => ?_⟩
      walk_at "g"
      refine ix_l (.inl (.inl (e8 _ _ (e7 _ _ h6)))) (row_at (j := 2) (by omega)) ?_
      walk_at "g"
      refine tup_go (.cons (k1.tx (txn_ex e8)) (.cons k2 (.cons (.int _) .nil))) fun p9 H9 n9 e9 t9 k9 => ?_
      have E9 : Ex H5 H9 := e6.trans (e7.trans (e8.trans e9))
      have ul : us.length = i := by rw [n5.len, List.length_map, rowsF_len]
      refine app_l (E9 _ _ h5) (sz_lt (by omega)) ?_
      walk_at "g"
      have tx : TxN H9 (upd H9 l (.lst (us ++ [V.ref p9]))) := fun c ys hc => by rw [upd_ne (ne_of hc (E9 _ _ h5) (by intro z; cases z))]; exact hc
      refine ⟨_, _, us ++ [.ref p9], rfl, fun c o hc => ?_, upd_same, ?_⟩
      · rw [upd_ne (hl0 c o hc)]
        exact E9 _ _ (e5 _ _ hc)
      · rw [rowsF_snoc]
        exact ((n5.tx (txn_ex E9)).tx tx).snoc (t9.tx tx)
    · rintro σ' H5 ⟨y4, y5, us, rfl, e5, h5, n5⟩
      have hok := rowsF_ok has ns (d0 % 13).toNat
      have hRl := rowsF_len ns as (d0 % 13).toNat
      generalize rowsF ns as (d0 % 13).toNat = R at n5 hok hRl
      have e35 : Ex H1 H5 := e2.trans (e3.trans e5)
      have ul : us.length = R.length := by rw [n5.len, List.length_map]
      obtain ⟨oR, dR⟩ := okNs_rows hok
      have hokr : ∀ r ∈ R.reverse, RowOk r := fun r hr => hok r (List.mem_reverse.mp hr)
      walk_at "g"
      refine list_s (.inl (.inl (.inl h5))) fun p6 H6 n6 e6 h6 => ?_
      walk_at "g"
      refine rev_go (.inl (.inl (e6 _ _ h5))) fun p7 H7 n7 e7 h7 => ?_
      have e17 := e35.trans (e6.trans e7)
      walk_at "g"
      refine ix_l (.inl (.inl (e17 _ _ h1))) (row_at (j := 1) (by omega)) ?_
      walk_at "g"
      generalize hwant : (drawsF ns 0 6).getD 1 0 % 8 - 1 = want
      refine ⟨rfl, rfl, mki_go fun x dx H8 nx e8 hx8 => ?_⟩
      have n57 : NAts H7 us (R.map rowK) := n5.tx (txn_ex (e6.trans e7))
      have h67 := e7 _ _ h6
      refine ⟨x, dx, p6, us, R, want, rfl, hx8, e8 _ _ h67, n57.tx (txn_ex e8), by omega, hok, fun H9 c9 D9 => ⟨rfl, ?_⟩⟩
      have e79 : Ex H7 H9 := ex_made nx e8 c9
      walk_at "g"
      refine ix_l (.inl (.inl ((e17.trans e79) _ _ h1))) (row_at (j := 2) (by omega)) ?_
      walk_at "g"
      refine join_ite (fun σ' H' => ∃ x sp, σ' = [some (.ref a), some (.ref p1), some (.ref p3), some (.ref l), y4, y5, some (.ref p6), some (.ref p7), some (.int sp), some (.ref x), none] ∧ Ex H7 H' ∧ DealAt w H' x T.C_Dealer R sp) ?_ fun D' tl => ?_
      · rintro σ' Ha ⟨x, sp, rfl, ea, Da⟩
        walk_at "g"
        refine ⟨rfl, rfl, mki_go fun y dy Hb ny eb hyb => ?_⟩
        refine ⟨y, dy, p7, us.reverse, R.reverse, 7, rfl, hyb, eb _ _ (ea _ _ h7), by rw [List.map_reverse]; exact (n57.tx (txn_ex (ea.trans eb))).rev, by rw [List.length_reverse]; omega, hokr, fun Hc cc Dc => ⟨rfl, ?_⟩⟩
        have e7c : Ex H7 Hc := ea.trans (ex_made ny eb cc)
        have eac : Ex Ha Hc := ex_made ny eb cc
        have n7c : NAts Hc us (R.map rowK) := n57.tx (txn_ex e7c)
        have h5c : Hc l = some (.lst us) := e7c _ _ (e7 _ _ (e6 _ _ h5))
        have h6c : Hc p6 = some (.lst us) := e7c _ _ h67
        have h3c : Hc p3 = some (.lst (as.map V.str)) := e7c _ _ ((e6.trans e7) _ _ (e5 _ _ h3))
        walk_at "g"
        refine r_neL (.inl (.inl h6c)) (.inl (.inl h5c)) n7c n7c oR oR (by omega) (by omega) ?_
        walk_at "g"
        refine ite_f (by rw [decide_eq_true rfl]; rfl) ?_
        walk_at "g"
        refine ⟨x, l, p3, us, R, as, sp, rfl, Da.ex eac, .inl (.inl h5c), n7c, hok, .inl (.inl h3c), has, fun Hd ed => ?_⟩
        walk_at "g"
        refine ite_f rfl ?_
        walk_at "g"
        refine r_app rfl (ed _ _ h6c) ?_
        walk_at "g"
        refine ⟨p3, as, 0, rfl, .inl (.inl (ed _ _ h3c)), has.n, fun v1 He ee k1 => ?_⟩
        walk_at "g"
        refine tup_go (.cons k1 (.cons .non (.cons (.int _) .nil))) fun p9 Hf nf ef tf kf => ?_
        have edf : Ex Hc Hf := ed.trans (ee.trans ef)
        refine app_l (edf _ _ h6c) (sz_lt (by omega)) ?_
        walk_at "g"
        have cg : Ch p6 Hf (upd Hf p6 (.lst (us ++ [V.ref p9]))) := ch_upd
        have g6 : (upd Hf p6 (.lst (us ++ [V.ref p9]))) p6 = some (.lst (us ++ [V.ref p9])) := upd_same
        generalize (upd Hf p6 (.lst (us ++ [V.ref p9]))) = Hg at cg g6
        refine ⟨_, rfl, .inl ⟨rfl, _, .inl (.inl g6)⟩, p6, _, rfl, rfl, g6, ?_⟩
        have ch' : Ch p6 Hf (upd Hg p6 (.lst (us ++ [V.ref p9]).reverse)) := fun b o hb hbo => ch_upd b o hb (cg b o hb hbo)
        generalize (upd Hg p6 (.lst (us ++ [V.ref p9]).reverse)) = Hh at ch'
        have D1 := ((Da.ex eac).ex edf).ch (edf _ _ h6c) ch'
        have D2 := (Dc.ex edf).ch (edf _ _ h6c) ch'
        have nl6 : l ≠ p6 := ne_of_none h5 n6
        have n36 : p3 ≠ p6 := ne_of_none (e5 _ _ h3) n6
        have l9 : Hh l = some (.lst us) := ch' _ _ nl6 (edf _ _ h5c)
        have l3 : Hh p3 = some (.lst (as.map V.str)) := ch' _ _ n36 (edf _ _ h3c)
        have txh : TxN Hc Hh := fun b ys hb => ch' _ _ (ne_of (edf _ _ hb) (edf _ _ h6c) (by intro z; cases z)) (edf _ _ hb)
        walk_at "g"
        refine ⟨x, l, p3, us, R, as, sp, rfl, D1, .inl (.inl l9), n7c.tx txh, hok, .inl (.inl l3), has, fun Hi ei => ?_⟩
        refine ⟨true, rfl, ?_⟩
        rw [if_pos rfl]
        walk_at "g"
        refine rev_go (.inl (.inl (ei _ _ l9))) fun pr Hj nj ej hj => ?_
        walk_at "g"
        refine ⟨y, pr, p3, us.reverse, R.reverse, as, 7, rfl, D2.ex (ei.trans ej), .inl (.inl hj), by rw [List.map_reverse]; exact ((n7c.tx txh).tx (txn_ex (ei.trans ej))).rev, hokr, .inl (.inl (ej _ _ (ei _ _ l3))), has, fun Hk ek => ?_⟩
        exact q Hk
      · refine ite_b (fun hc => ?_) (fun hc => ?_)
        · walk_at "g"
          refine mki_go fun x' dx' H10 nx' e10 hx10 => ?_
          refine ⟨x', dx', p6, us, R, 0, rfl, hx10, (e79.trans e10) _ _ h67, n57.tx (txn_ex (e79.trans e10)), by omega, hok, fun H11 c11 D11 => ⟨rfl, ?_⟩⟩
          have e711 : Ex H7 H11 := e79.trans (ex_made nx' e10 c11)
          walk_at "g"
          exact tl _ _ ⟨_, _, rfl, e711, D11⟩
        · walk_at "g"
          exact tl _ _ ⟨_, _, rfl, e79, D9⟩
end

end K10

set_option Elab.async false
set_option linter.all false
set_option maxRecDepth 100000
set_option maxHeartbeats 4000000
namespace K10
open PySem PySem.Spec PyProof.Rows L2 Evl AE
theorem all_mk {l : PySem.W.OpenLaw} {w : World} {K : PySem.W.Frag} {h : Heap} {mg : Str → Option Value} {fa C_Dealer f0 f1 f2 f3 f4 f5 f6 f7 f8 f9 W9 f10 : Addr} (X : K.In h) (G : h.Ns mainGlobals mg) (hfa : mg "law" = some (.ref fa))
    {od0 an0 od1 an1 od2 an2 od3 an3 od4 an4 od5 an5 od6 an6 od7 an7 od8 an8 od9 an9 od10 an10 : Option Addr} {sl0 sl1 sl2 sl3 sl4 sl5 sl6 sl7 sl8 sl9 sl10 : Array (Option Value)} {oc0 dc0 pm0 cd0 ct0 kV0 oc1 dc1 pm1 cd1 ct1 kV1 oc2 dc2 pm2 cd2 ct2 kV2 oc3 dc3 pm3 cd3 ct3 kV3 oc4 dc4 pm4 cd4 ct4 kV4 oc5 dc5 pm5 cd5 ct5 kV5 oc6 dc6 pm6 cd6 ct6 kV6 oc7 dc7 pm7 cd7 ct7 kV7 oc8 dc8 pm8 cd8 ct8 kV8 oc9 dc9 pm9 cd9 ct9 oc10 dc10 pm10 cd10 ct10 kV10 : Value} {tW90 : Tok}
    (qDealer : PySem.W.nsIn K mainGlobals "Dealer" = some (some (.ref C_Dealer)))
    (a0 : PySem.W.nsIn K mainGlobals "_law_cell" = some (some (.ref f0)))
    (l0 : K.lookup f0 = some ⟨oc0, od0, .func (PySem.W.fnOf "_law_cell" "_law_cell" (defArgs s__law_cell) (defBody s__law_cell) (defScope s__law_cell) .none kV0 dc0 pm0 an0 cd0 ct0), sl0⟩)
    (c0 : PySem.W.codeIn K cd0 "_law_cell" = true)
    (k0 : PySem.W.keepIn K (.ref f0) = true)
    (a1 : PySem.W.nsIn K mainGlobals "_law_draws" = some (some (.ref f1)))
    (l1 : K.lookup f1 = some ⟨oc1, od1, .func (PySem.W.fnOf "_law_draws" "_law_draws" (defArgs s__law_draws) (defBody s__law_draws) (defScope s__law_draws) .none kV1 dc1 pm1 an1 cd1 ct1), sl1⟩)
    (c1 : PySem.W.codeIn K cd1 "_law_draws" = true)
    (k1 : PySem.W.keepIn K (.ref f1) = true)
    (a2 : PySem.W.nsIn K mainGlobals "_law_asks" = some (some (.ref f2)))
    (l2 : K.lookup f2 = some ⟨oc2, od2, .func (PySem.W.fnOf "_law_asks" "_law_asks" (defArgs s__law_asks) (defBody s__law_asks) (defScope s__law_asks) .none kV2 dc2 pm2 an2 cd2 ct2), sl2⟩)
    (c2 : PySem.W.codeIn K cd2 "_law_asks" = true)
    (k2 : PySem.W.keepIn K (.ref f2) = true)
    (a3 : PySem.W.nsIn K mainGlobals "_law_whole" = some (some (.ref f3)))
    (l3 : K.lookup f3 = some ⟨oc3, od3, .func (PySem.W.fnOf "_law_whole" "_law_whole" (defArgs s__law_whole) (defBody s__law_whole) (defScope s__law_whole) .none kV3 dc3 pm3 an3 cd3 ct3), sl3⟩)
    (c3 : PySem.W.codeIn K cd3 "_law_whole" = true)
    (k3 : PySem.W.keepIn K (.ref f3) = true)
    (a4 : PySem.W.nsIn K mainGlobals "_law_standing" = some (some (.ref f4)))
    (l4 : K.lookup f4 = some ⟨oc4, od4, .func (PySem.W.fnOf "_law_standing" "_law_standing" (defArgs s__law_standing) (defBody s__law_standing) (defScope s__law_standing) .none kV4 dc4 pm4 an4 cd4 ct4), sl4⟩)
    (c4 : PySem.W.codeIn K cd4 "_law_standing" = true)
    (k4 : PySem.W.keepIn K (.ref f4) = true)
    (a5 : PySem.W.nsIn K mainGlobals "_law_step" = some (some (.ref f5)))
    (l5 : K.lookup f5 = some ⟨oc5, od5, .func (PySem.W.fnOf "_law_step" "_law_step" (defArgs s__law_step) (defBody s__law_step) (defScope s__law_step) .none kV5 dc5 pm5 an5 cd5 ct5), sl5⟩)
    (c5 : PySem.W.codeIn K cd5 "_law_step" = true)
    (k5 : PySem.W.keepIn K (.ref f5) = true)
    (a6 : PySem.W.nsIn K mainGlobals "_law_due" = some (some (.ref f6)))
    (l6 : K.lookup f6 = some ⟨oc6, od6, .func (PySem.W.fnOf "_law_due" "_law_due" (defArgs s__law_due) (defBody s__law_due) (defScope s__law_due) .none kV6 dc6 pm6 an6 cd6 ct6), sl6⟩)
    (c6 : PySem.W.codeIn K cd6 "_law_due" = true)
    (k6 : PySem.W.keepIn K (.ref f6) = true)
    (a7 : PySem.W.nsIn K mainGlobals "_law_dealer_holds" = some (some (.ref f7)))
    (l7 : K.lookup f7 = some ⟨oc7, od7, .func (PySem.W.fnOf "_law_dealer_holds" "_law_dealer_holds" (defArgs s__law_dealer_holds) (defBody s__law_dealer_holds) (defScope s__law_dealer_holds) .none kV7 dc7 pm7 an7 cd7 ct7), sl7⟩)
    (c7 : PySem.W.codeIn K cd7 "_law_dealer_holds" = true)
    (k7 : PySem.W.keepIn K (.ref f7) = true)
    (a8 : PySem.W.nsIn K mainGlobals "law" = some (some (.ref f8)))
    (l8 : K.lookup f8 = some ⟨oc8, od8, .func (PySem.W.fnOf "law" "law" (defArgs s_law) (defBody s_law) (defScope s_law) .none kV8 dc8 pm8 an8 cd8 ct8), sl8⟩)
    (c8 : PySem.W.codeIn K cd8 "law" = true)
    (k8 : PySem.W.keepIn K (.ref f8) = true)
    (inDealer : PySem.W.findIn K (.ref C_Dealer) "__init__" = some (some (.ref f9)))
    (i9 : PySem.W.isFn K (.ref f9) = true)
    (l9 : K.lookup f9 = some ⟨oc9, od9, .func (PySem.W.fnOf "__init__" "Dealer.__init__" (defArgs s_Dealer___init__) (defBody s_Dealer___init__) (defScope s_Dealer___init__) .none (.ref W9) dc9 pm9 an9 cd9 ct9), sl9⟩)
    (c9 : PySem.W.codeIn K cd9 "Dealer.__init__" = true)
    (k9 : PySem.W.keepIn K (.ref f9) = true)
    (w90 : PySem.W.nsIn K W9 "spare" = some (some (.int 0 tW90)))
    (meDealer__call__ : PySem.W.findIn K (.ref C_Dealer) "__call__" = some (some (.ref f10)))
    (i10 : PySem.W.isFn K (.ref f10) = true)
    (l10 : K.lookup f10 = some ⟨oc10, od10, .func (PySem.W.fnOf "__call__" "Dealer.__call__" (defArgs s_Dealer___call__) (defBody s_Dealer___call__) (defScope s_Dealer___call__) .none kV10 dc10 pm10 an10 cd10 ct10), sl10⟩)
    (c10 : PySem.W.codeIn K cd10 "Dealer.__call__" = true)
    (k10 : PySem.W.keepIn K (.ref f10) = true)
    (n_len : PySem.W.nsIn K mainGlobals "len" = some none)
    (n_int : PySem.W.nsIn K mainGlobals "int" = some none)
    (n_range : PySem.W.nsIn K mainGlobals "range" = some none)
    (n_isinstance : PySem.W.nsIn K mainGlobals "isinstance" = some none)
    (n_bool : PySem.W.nsIn K mainGlobals "bool" = some none)
    (n_list : PySem.W.nsIn K mainGlobals "list" = some none)
    (pgDealer : PySem.W.plainGet K C_Dealer Str.empty = true)
    (hdDealer : PySem.W.hasDictIn K C_Dealer = true)
    (poDealer : PySem.W.plainOver K C_Dealer = true)
    (saDealer : PySem.W.findIn K (.ref C_Dealer) "__setattr__" = some (some (.builtin "object.__setattr__")))
    (naDealer0 : PySem.W.findIn K (.ref C_Dealer) "_numbers" = some none)
    (naDealer1 : PySem.W.findIn K (.ref C_Dealer) "_spare" = some none)
    (mkDealer : PySem.W.makesIn K C_Dealer = true)
    (kcDealer : PySem.W.keepIn K (.ref C_Dealer) = true)
    (fi10 : PySem.W.fnIn K f10 = true) :
    ∃ fd : FuncData, (∀ (s : Shared) (v : Value), BindsTo s fd ⟨[v], []⟩ [("_law_script", v)]) ∧ ∀ base : Heap, K.In base → base.Ns mainGlobals mg → FnOk l.prog w K mg base CX0 6 fa fd ["_law_script"] (sp_law K) := by
  have e := hfa.symm.trans (PySem.W.mg_of X G a8)
  cases e
  have F0 := fun_mk (st := s__law_cell) l0 c0 k0
  have B0 := F0.binds (ps := ["_law_script", "_law_k"]) fun _ _ _ _ _ _ us hl => match us, hl with | [_, _], _ => rfl
  have F1 := fun_mk (st := s__law_draws) l1 c1 k1
  have B1 := F1.binds (ps := ["_law_script", "_law_k", "_law_many"]) fun _ _ _ _ _ _ us hl => match us, hl with | [_, _, _], _ => rfl
  have F2 := fun_mk (st := s__law_asks) l2 c2 k2
  have B2 := F2.binds (ps := ["_law_row", "_law_many"]) fun _ _ _ _ _ _ us hl => match us, hl with | [_, _], _ => rfl
  have F3 := fun_mk (st := s__law_whole) l3 c3 k3
  have B3 := F3.binds (ps := ["_law_x"]) fun _ _ _ _ _ _ us hl => match us, hl with | [_], _ => rfl
  have F4 := fun_mk (st := s__law_standing) l4 c4 k4
  have B4 := F4.binds (ps := ["_law_digit", "_law_asks_here"]) fun _ _ _ _ _ _ us hl => match us, hl with | [_, _], _ => rfl
  have F5 := fun_mk (st := s__law_step) l5 c5 k5
  have B5 := F5.binds (ps := ["_law_digit", "_law_asks_here"]) fun _ _ _ _ _ _ us hl => match us, hl with | [_, _], _ => rfl
  have F6 := fun_mk (st := s__law_due) l6 c6 k6
  have B6 := F6.binds (ps := ["_law_rows", "_law_standing_here", "_law_step_here", "_law_spare_due"]) fun _ _ _ _ _ _ us hl => match us, hl with | [_, _, _, _], _ => rfl
  have F7 := fun_mk (st := s__law_dealer_holds) l7 c7 k7
  have B7 := F7.binds (ps := ["_law_dealer", "_law_rows", "_law_asks_here", "_law_spare_due"]) fun _ _ _ _ _ _ us hl => match us, hl with | [_, _, _, _], _ => rfl
  have F8 := fun_mk (st := s_law) l8 c8 k8
  have B8 := F8.binds (ps := ["_law_script"]) fun _ _ _ _ _ _ us hl => match us, hl with | [_], _ => rfl
  have F9 : FunD K "__init__" "Dealer.__init__" (defArgs s_Dealer___init__) (defBody s_Dealer___init__) (defScope s_Dealer___init__) [] [("spare", .int 0)] f9 (PySem.W.fnOf "__init__" "Dealer.__init__" (defArgs s_Dealer___init__) (defBody s_Dealer___init__) (defScope s_Dealer___init__) .none (.ref W9) dc9 pm9 an9 cd9 ct9) := ⟨⟨_, _, _, _, _, _, _, _, _, _, rfl, l9, c9, .inl ⟨rfl, rfl⟩, .inr ⟨_, rfl, by simp only [List.forall_mem_cons]; exact ⟨⟨_, w90, ⟨_, rfl⟩⟩, fun _ h => nomatch h⟩⟩⟩, k9⟩
  have F10 := fun_mk (st := s_Dealer___call__) l10 c10 k10
  have B10 := F10.binds (ps := ["self", "standing", "step"]) fun _ _ _ _ _ _ us hl => match us, hl with | [_, _, _], _ => rfl
  obtain ⟨kds, kvs, kb⟩ := F9.binds0 (ps := ["self", "rows", "spare"]) 2 (by intro z; cases z) rfl fun D doc pm an cdv ct us ks hu hk => by
      obtain ⟨u0, u1, rfl⟩ : ∃ u0 u1, us = [u0, u1] := match us, hu with | [u0, u1], _ => ⟨u0, u1, rfl⟩
      obtain ⟨v0, rfl⟩ : ∃ v0, ks = [v0] := match ks, hk with | [v0], _ => ⟨v0, rfl⟩
      exact ⟨_, _, _, _, _, _, rfl, rfl, rfl⟩
  obtain ⟨_, kkn⟩ := FunD.kbinds0 F9 (ps := ["self", "rows", "spare"]) 2 ["spare"] [] (fun us _ ws => us ++ ws) (by intro z; cases z) (fun _ h => nomatch h) (fun r1 _ r2 => r1.append r2) fun D doc pm an cdv ct us mv ws hu hm hw => by
      obtain ⟨u0, u1, rfl⟩ : ∃ u0 u1, us = [u0, u1] := match us, hu with | [u0, u1], _ => ⟨u0, u1, rfl⟩
      obtain ⟨w0, rfl⟩ : ∃ w0, ws = [w0] := match ws, hw with | [w0], _ => ⟨w0, rfl⟩
      obtain rfl : mv = [] := match mv, hm with | [], _ => rfl
      rfl
  obtain ⟨T, T1, T2⟩ : ∃ T : Tp K mg, T.a_law = fa ∧ T.d_law = PySem.W.fnOf "law" "law" (defArgs s_law) (defBody s_law) (defScope s_law) .none kV8 dc8 pm8 an8 cd8 ct8 := ⟨{ C_Dealer := C_Dealer, g_Dealer := PySem.W.mg_of X G qDealer, a__law_cell := f0, d__law_cell := PySem.W.fnOf "_law_cell" "_law_cell" (defArgs s__law_cell) (defBody s__law_cell) (defScope s__law_cell) .none kV0 dc0 pm0 an0 cd0 ct0, b__law_cell := B0, f__law_cell := F0, g__law_cell := PySem.W.mg_of X G a0, a__law_draws := f1, d__law_draws := PySem.W.fnOf "_law_draws" "_law_draws" (defArgs s__law_draws) (defBody s__law_draws) (defScope s__law_draws) .none kV1 dc1 pm1 an1 cd1 ct1, b__law_draws := B1, f__law_draws := F1, g__law_draws := PySem.W.mg_of X G a1, a__law_asks := f2, d__law_asks := PySem.W.fnOf "_law_asks" "_law_asks" (defArgs s__law_asks) (defBody s__law_asks) (defScope s__law_asks) .none kV2 dc2 pm2 an2 cd2 ct2, b__law_asks := B2, f__law_asks := F2, g__law_asks := PySem.W.mg_of X G a2, a__law_whole := f3, d__law_whole := PySem.W.fnOf "_law_whole" "_law_whole" (defArgs s__law_whole) (defBody s__law_whole) (defScope s__law_whole) .none kV3 dc3 pm3 an3 cd3 ct3, b__law_whole := B3, f__law_whole := F3, g__law_whole := PySem.W.mg_of X G a3, a__law_standing := f4, d__law_standing := PySem.W.fnOf "_law_standing" "_law_standing" (defArgs s__law_standing) (defBody s__law_standing) (defScope s__law_standing) .none kV4 dc4 pm4 an4 cd4 ct4, b__law_standing := B4, f__law_standing := F4, g__law_standing := PySem.W.mg_of X G a4, a__law_step := f5, d__law_step := PySem.W.fnOf "_law_step" "_law_step" (defArgs s__law_step) (defBody s__law_step) (defScope s__law_step) .none kV5 dc5 pm5 an5 cd5 ct5, b__law_step := B5, f__law_step := F5, g__law_step := PySem.W.mg_of X G a5, a__law_due := f6, d__law_due := PySem.W.fnOf "_law_due" "_law_due" (defArgs s__law_due) (defBody s__law_due) (defScope s__law_due) .none kV6 dc6 pm6 an6 cd6 ct6, b__law_due := B6, f__law_due := F6, g__law_due := PySem.W.mg_of X G a6, a__law_dealer_holds := f7, d__law_dealer_holds := PySem.W.fnOf "_law_dealer_holds" "_law_dealer_holds" (defArgs s__law_dealer_holds) (defBody s__law_dealer_holds) (defScope s__law_dealer_holds) .none kV7 dc7 pm7 an7 cd7 ct7, b__law_dealer_holds := B7, f__law_dealer_holds := F7, g__law_dealer_holds := PySem.W.mg_of X G a7, a_law := fa, d_law := PySem.W.fnOf "law" "law" (defArgs s_law) (defBody s_law) (defScope s_law) .none kV8 dc8 pm8 an8 cd8 ct8, b_law := B8, f_law := F8, g_law := PySem.W.mg_of X G a8, a_Dealer___init__ := f9, d_Dealer___init__ := PySem.W.fnOf "__init__" "Dealer.__init__" (defArgs s_Dealer___init__) (defBody s_Dealer___init__) (defScope s_Dealer___init__) .none (.ref W9) dc9 pm9 an9 cd9 ct9, f_Dealer___init__ := F9, a_Dealer___call__ := f10, d_Dealer___call__ := PySem.W.fnOf "__call__" "Dealer.__call__" (defArgs s_Dealer___call__) (defBody s_Dealer___call__) (defScope s_Dealer___call__) .none kV10 dc10 pm10 an10 cd10 ct10, b_Dealer___call__ := B10, f_Dealer___call__ := F10, n_len := PySem.W.mg_none_of X G n_len, n_int := PySem.W.mg_none_of X G n_int, n_range := PySem.W.mg_none_of X G n_range, n_isinstance := PySem.W.mg_none_of X G n_isinstance, n_bool := PySem.W.mg_none_of X G n_bool, n_list := PySem.W.mg_none_of X G n_list, cl_Dealer := ⟨pgDealer, hdDealer, poDealer, saDealer⟩, na_Dealer__numbers := naDealer0, na_Dealer__spare := naDealer1, mk_Dealer := ⟨mkDealer, inDealer, i9, kcDealer⟩, me_Dealer___call__ := ⟨meDealer__call__, i10, k10⟩, co_Dealer := ⟨meDealer__call__, i10, fi10⟩, e_ds := kds, e_vs := kvs, e_b := kb, e_kn := kkn }, rfl, rfl⟩
  refine ⟨PySem.W.fnOf "law" "law" (defArgs s_law) (defBody s_law) (defScope s_law) .none kV8 dc8 pm8 an8 cd8 ct8, fun s v => .of_eq rfl, fun base _ _ => ?_⟩
  have z := ok_law (P := l.prog) (w := w) (base := base) T
  rw [T1, T2] at z
  exact z
theorem walk {l : PySem.W.OpenLaw} {q : Program} {loose : List Str} {XP : (Str → Option Value) → Heap → Prop} {YP : World → Heap → Prop} {d : DefRec} {K : Params → PySem.W.Frag} (hn : l.most = some 63) (hdf : d.params.defaults = [])
    (hY : ∀ (w : World) (h : Heap), YP w h → (K w.params).In h)
    (F : ∀ (w : World) (mg : Str → Option Value) (fa : Addr) (h : Heap), (K w.params).In h → h.Ns mainGlobals mg → mg d.name = some (.ref fa) →
      ∃ fd : FuncData, (∀ (s : Shared) (u : Value), BindsTo s fd ⟨[u], []⟩ [("_law_script", u)]) ∧ ∀ base : Heap, (K w.params).In base → base.Ns mainGlobals mg → FnOk l.prog w (K w.params) mg base CX0 6 fa fd ["_law_script"] (sp_law (K w.params))) :
    PySem.W.WalkO q loose XP YP l.row.toRowW d [] (fun f vs => PySem.call f vs) :=
  L2.walk_of (n := 63) (k := 6) (x := "_law_script") (CX := fun _ => CX0) (sp := fun w => sp_law (K w.params)) hn (by decide) hdf ⟨rfl, by decide, by decide⟩ hY F (fun _ _ a ns hl _ hS => ⟨a, ns, rfl, hS, fun _ => rfl⟩) fun _ _ _ _ _ z => z
end K10

set_option Elab.async false
set_option linter.all false
open PySem PySem.W PyProof.Rows
set_option maxRecDepth 100000 in
set_option maxHeartbeats 0 in
theorem PySem.Challenge.cw_askshanded_k10_a_dealer_of_rows_holds : PySem.Challenge.rw_askshanded_k10_a_dealer_of_rows.Holds := by
  w_on; o_law; k_head; (case hw => w_witness2)
  k_fill
  refine K10.walk (l := PySem.Challenge.rw_askshanded_k10_a_dealer_of_rows) rfl rfl (fun w h Y => PySem.W.kIn_of Y) ?F
  case F =>
    intro w mg fa h KX G hmg
    refine' K10.all_mk KX G hmg ?qDealer ?a0 ?l0 ?c0 ?k0 ?a1 ?l1 ?c1 ?k1 ?a2 ?l2 ?c2 ?k2 ?a3 ?l3 ?c3 ?k3 ?a4 ?l4 ?c4 ?k4 ?a5 ?l5 ?c5 ?k5 ?a6 ?l6 ?c6 ?k6 ?a7 ?l7 ?c7 ?k7 ?a8 ?l8 ?c8 ?k8 ?inDealer ?i9 ?l9 ?c9 ?k9 ?w90 ?meDealer__call__ ?i10 ?l10 ?c10 ?k10 ?n_len ?n_int ?n_range ?n_isinstance ?n_bool ?n_list ?pgDealer ?hdDealer ?poDealer ?saDealer ?naDealer0 ?naDealer1 ?mkDealer ?kcDealer ?fi10
    (case qDealer => k_is); (case a0 => k_is); (case l0 => k_is); (case c0 => k_is); (case k0 => k_is); (case a1 => k_is); (case l1 => k_is); (case c1 => k_is)
    (case k1 => k_is); (case a2 => k_is); (case l2 => k_is); (case c2 => k_is); (case k2 => k_is); (case a3 => k_is); (case l3 => k_is); (case c3 => k_is)
    (case k3 => k_is); (case a4 => k_is); (case l4 => k_is); (case c4 => k_is); (case k4 => k_is); (case a5 => k_is); (case l5 => k_is); (case c5 => k_is)
    (case k5 => k_is); (case a6 => k_is); (case l6 => k_is); (case c6 => k_is); (case k6 => k_is); (case a7 => k_is); (case l7 => k_is); (case c7 => k_is)
    (case k7 => k_is); (case a8 => k_is); (case l8 => k_is); (case c8 => k_is); (case k8 => k_is); (case inDealer => k_is); (case i9 => k_is); (case l9 => k_is)
    (case c9 => k_is); (case k9 => k_is); (case w90 => k_is); (case meDealer__call__ => k_is); (case i10 => k_is); (case l10 => k_is); (case c10 => k_is); (case k10 => k_is)
    (case n_len => k_is); (case n_int => k_is); (case n_range => k_is); (case n_isinstance => k_is); (case n_bool => k_is); (case n_list => k_is); (case pgDealer => k_is); (case hdDealer => k_is)
    (case poDealer => k_is); (case saDealer => k_is); (case naDealer0 => k_is); (case naDealer1 => k_is); (case mkDealer => k_is); (case kcDealer => k_is); (case fi10 => k_is)
