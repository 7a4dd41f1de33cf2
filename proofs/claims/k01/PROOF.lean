import PyProof.Rows.All
import Wide.All
import OpenK.AllK
import Wide.FinOn
import HandS.ForMost
import HandS.Evl
import HandS.Deep
import HandS.DeepEq
import HandS.DictComp
import HandS.FStr
import HandS.SetKeys
import HandS.IsInst
import HandS.DictTup
import HandS.RaiseMore
import HandS.Defaults
import HandS.Wide
import HandS.Flow
import HandS.Style
import HandS.Conv
import KE.KxField
import PyProof.DictMoreH
import PyProof.Rows.SortShellAny
import HandS.Walk
import PyProof.Conv_bool
import KE.KFromBytes
import HandS.OwnIter
import HandS.IterNext
import HandS.IterVal
import PyProof.CollectIter
import PySem.Challenge.RW_askshanded_k01_machine_parts
import HandS.MakeKw
set_option Elab.async false
set_option linter.all false
set_option maxRecDepth 100000
namespace AE
open PySem PySem.Spec PyProof.Rows L2 Evl

/-! ### heaps: what stays -/
def Tx (H H' : Hp) : Prop := ∀ a xs, H a = some (.tup xs) → H' a = some (.tup xs)
def Ch (l : Addr) (H H' : Hp) : Prop := ∀ a o, a ≠ l → H a = some o → H' a = some o
theorem Tx.refl (H : Hp) : Tx H H := fun _ _ h => h
theorem Tx.trans {H H1 H2 : Hp} (a : Tx H H1) (b : Tx H1 H2) : Tx H H2 := fun c o h => b c o (a c o h)
theorem tx_ex {H H' : Hp} (e : Ex H H') : Tx H H' := fun _ _ h => e _ _ h
theorem ch_upd {H : Hp} {l : Addr} {o : HO} : Ch l H (upd H l o) := fun a u ha h => by rw [upd_ne ha]; exact h
theorem tx_ch {H H' : Hp} {l : Addr} {xs : List V} (hl : H l = some (.lst xs)) (c : Ch l H H') : Tx H H' := fun a ys h =>
  c a _ (fun e => by subst e; rw [hl] at h; cases h) h
theorem ex_ch {H0 H H' : Hp} {l : Addr} (e : Ex H0 H) (hl : H0 l = none) (c : Ch l H H') : Ex H0 H' := fun a o h =>
  c a o (fun z => by subst z; rw [hl] at h; cases h) (e a o h)
theorem ex_upd {H0 H : Hp} {l : Addr} {o : HO} (e : Ex H0 H) (hl : H0 l = none) : Ex H0 (upd H l o) := ex_ch e hl ch_upd

/-! ### data -/
mutual
theorem dp_ex {K : PySem.W.Frag} {H H' : Hp} (e : Ex H H') : ∀ {v : V} {d : PyData}, Dp K H v d → Dp K H' v d
  | _, _, .non => .non
  | _, _, .bl b => .bl b
  | _, _, .int i => .int i
  | _, _, .str x => .str x
  | _, _, .lst h t => .lst (ex_l e h) (dpa_ex e t)
  | _, _, .tup h t => .tup (ex_t e h) (dpa_ex e t)
theorem dpa_ex {K : PySem.W.Frag} {H H' : Hp} (e : Ex H H') : ∀ {vs : List V} {ds : List PyData}, DpAll K H vs ds → DpAll K H' vs ds
  | _, _, .nil => .nil
  | _, _, .cons h t => .cons (dp_ex e h) (dpa_ex e t)
end
mutual
def flatD : PyData → Bool
  | .list _ => false
  | .dict _ => false
  | .tuple xs => flatDs xs
  | _ => true
def flatDs : List PyData → Bool
  | [] => true
  | x :: r => flatD x && flatDs r
end
theorem sqt_tx {K : PySem.W.Frag} {H H' : Hp} {a : Addr} {xs : List V} (e : Tx H H') (hf : ∀ o, H a ≠ some (.frz o (.tup xs))) (h : SqT K H a xs) : SqT K H' a xs := by
  rcases h with (h | ⟨o, h⟩) | h
  · exact .inl (.inl (e _ _ h))
  · exact absurd h (hf o)
  · exact .inr h
/-- a tuple of scalars, tracked -/
def TupAt (H : Hp) (v : V) (xs : List V) : Prop := ∃ a, v = .ref a ∧ H a = some (.tup xs)
theorem TupAt.tx {H H' : Hp} {v : V} {xs : List V} (e : Tx H H') (h : TupAt H v xs) : TupAt H' v xs := by
  obtain ⟨a, rfl, h⟩ := h
  exact ⟨a, rfl, e _ _ h⟩
/-- scalars as data -/
def scD : V → PyData
  | .int i => .int i
  | .str x => .str x
  | .bl b => .bool b
  | _ => .none
def isSc : V → Bool
  | .int _ => true
  | .str _ => true
  | .bl _ => true
  | .non => true
  | _ => false
theorem dp_sc {K : PySem.W.Frag} {H : Hp} : ∀ {v : V}, isSc v = true → Dp K H v (scD v)
  | .int i, _ => .int i
  | .str x, _ => .str x
  | .bl b, _ => .bl b
  | .non, _ => .non
theorem dpa_sc {K : PySem.W.Frag} {H : Hp} : ∀ {vs : List V}, vs.all isSc = true → DpAll K H vs (vs.map scD)
  | [], _ => .nil
  | v :: vs, h => by
    rw [List.all_cons, Bool.and_eq_true] at h
    exact .cons (dp_sc h.1) (dpa_sc h.2)
theorem TupAt.dp {K : PySem.W.Frag} {H : Hp} {v : V} {xs : List V} (h : TupAt H v xs) (s : xs.all isSc = true) : Dp K H v (.tuple (xs.map scD)) := by
  obtain ⟨a, rfl, h⟩ := h
  exact .tup (.inl (.inl h)) (dpa_sc s)
/-- a row of tuples of scalars -/
inductive Tups (H : Hp) : List V → List (List V) → Prop
  | nil : Tups H [] []
  | cons {v : V} {vs : List V} {x : List V} {xs : List (List V)} : TupAt H v x → Tups H vs xs → Tups H (v :: vs) (x :: xs)
theorem Tups.tx {H H' : Hp} (e : Tx H H') : ∀ {vs : List V} {xs : List (List V)}, Tups H vs xs → Tups H' vs xs
  | _, _, .nil => .nil
  | _, _, .cons h t => .cons (h.tx e) (t.tx e)
theorem Tups.len {H : Hp} : ∀ {vs : List V} {xs : List (List V)}, Tups H vs xs → vs.length = xs.length
  | _, _, .nil => rfl
  | _, _, .cons _ t => by rw [List.length_cons, List.length_cons, t.len]
theorem Tups.snoc {H : Hp} {v : V} {x : List V} (hv : TupAt H v x) : ∀ {vs : List V} {xs : List (List V)}, Tups H vs xs → Tups H (vs ++ [v]) (xs ++ [x])
  | _, _, .nil => .cons hv .nil
  | _, _, .cons h t => .cons h (t.snoc hv)
theorem Tups.app {H : Hp} : ∀ {vs ws : List V} {xs ys : List (List V)}, Tups H vs xs → Tups H ws ys → Tups H (vs ++ ws) (xs ++ ys)
  | _, _, _, _, .nil, t => t
  | _, _, _, _, .cons h r, t => .cons h (r.app t)
theorem Tups.get {H : Hp} : ∀ {vs : List V} {xs : List (List V)} {i : Nat} {v : V}, Tups H vs xs → vs[i]? = some v → ∃ x, xs[i]? = some x ∧ TupAt H v x
  | _, _, 0, _, .cons h _, e => by
    have e' := Option.some.inj e
    exact ⟨_, rfl, e' ▸ h⟩
  | _, _, i + 1, v, .cons _ t, e => by
    obtain ⟨x, h1, h2⟩ := Tups.get (i := i) (v := v) t (by simpa using e)
    exact ⟨x, by simpa using h1, h2⟩
theorem Tups.dp {K : PySem.W.Frag} {H : Hp} : ∀ {vs : List V} {xs : List (List V)}, Tups H vs xs → (∀ x ∈ xs, x.all isSc = true) → DpAll K H vs (xs.map fun x => .tuple (x.map scD))
  | _, _, .nil, _ => .nil
  | _, _, .cons h t, s => .cons (h.dp (s _ (List.mem_cons_self ..))) (t.dp fun x hx => s x (List.mem_cons_of_mem _ hx))

/-! ### readings, a step at a time -/
section
variable {K : PySem.W.Frag} {σ : L2.St} {H : Hp} {Q : VK} {D : Ends} {ta tb te tc : TE} {t u : TT} {x y v : V} {QB : Bool → Hp → Prop} {QA : List V → Hp → Prop} {ts tu tz : TS} {r r' : R2}
theorem r_var {i : Nat} (h : σ[i]? = some (some v)) (q : Q v H) : tVar i σ H Q := ⟨v, h, q⟩
theorem r_c (q : Q v H) : tC v σ H Q := q
theorem r_op (q : ta σ H fun x H1 => tb σ H1 fun y H2 => r x y H2 Q) : tOp r ta tb σ H Q := q
theorem r_un {f : V → Hp → VK → Prop} (q : ta σ H fun x H1 => f x H1 Q) : tUn f ta σ H Q := q
theorem r_I0 {g : Int → Int → V} {i j : Int} (q : Q (g i j) H) : rI0 g (.int i) (.int j) H Q := ⟨i, j, rfl, rfl, q⟩
theorem r_I {C : Int → Int → Prop} {g : Int → Int → V} {i j : Int} (c : C i j) (q : Q (g i j) H) : rI C g (.int i) (.int j) H Q := ⟨i, j, rfl, rfl, c, q⟩
theorem r_U {g : Int → V} {i : Int} (q : Q (g i) H) : rU g (.int i) H Q := ⟨i, rfl, q⟩
theorem r_eq (c : scal x y = true) (q : Q (.bl (decide (x = y))) H) : rEq x y H Q := ⟨c, q⟩
theorem r_ne (c : scal x y = true) (q : Q (.bl (!decide (x = y))) H) : rNe x y H Q := ⟨c, q⟩
theorem r_chain (q : ta σ H fun x H1 => tb σ H1 fun y H2 => r x y H2 fun z H3 => ∃ k, z = .bl k ∧ (if k = true then tc σ H3 fun w' H4 => r' y w' H4 Q else Q (.bl false) H3)) : tChain r r' ta tb tc σ H Q := q
theorem r_test (q : te σ H fun x H' => ∃ k, x = .bl k ∧ QB k H') : tTest te σ H QB := q
theorem r_tB (q : te σ H fun x H' => ∃ k, x = .bl k ∧ QB k H') : tB te σ H QB := q
theorem r_bl {b : Bool} {R : Bool → Prop} (q : R b) : ∃ k, V.bl b = .bl k ∧ R k := ⟨b, rfl, q⟩
theorem r_and (q : t σ H fun c H1 => if c = true then u σ H1 QB else QB false H1) : tAnd t u σ H QB := q
theorem r_or (q : t σ H fun c H1 => if c = true then QB true H1 else u σ H1 QB) : tOr t u σ H QB := q
theorem r_not (q : t σ H fun c H1 => QB (!c) H1) : tNot t σ H QB := q
theorem r_nil (q : QA [] H) : tNil σ H QA := q
theorem r_cons {tr : TA} (q : ta σ H fun x H1 => tr σ H1 fun xs H2 => QA (x :: xs) H2) : tCons ta tr σ H QA := q
theorem r_tup {tr : TA} (q : tr σ H fun xs H1 => xs.length ≤ sizeLine ∧ ∀ p, H1 p = none → Q (.ref p) (upd H1 p (.tup xs))) : tTup tr σ H Q := q
theorem r_lst {tr : TA} (q : tr σ H fun xs H1 => xs.length ≤ sizeLine ∧ ∀ p, H1 p = none → Q (.ref p) (upd H1 p (.lst xs))) : tLst tr σ H Q := q
theorem r_cb {f : List V → Hp → VK → Prop} {tr : TA} (q : tr σ H fun vs H1 => f vs H1 Q) : tCB f tr σ H Q := q
theorem r_call {sp : Sp} {dvs : List V} {E : XK} {tr : TA} (q : tr σ H fun vs H1 => sp (vs ++ dvs) H1 Q E) : tCall sp dvs E tr σ H Q := q
theorem r_seq (q : ts { D with nx := tz D } σ H) : tSeq ts tz D σ H := q
theorem r_set {i : Nat} (q : te σ H fun x H1 => D.nx (σ.set i (some x)) H1) : tAsg te (gName i) D σ H := q
theorem r_drop (q : te σ H fun _ H1 => D.nx σ H1) : tDrop te D σ H := q
theorem r_ret (q : te σ H D.rt) : tRet te D σ H := q
theorem r_next (q : D.nx σ H) : tNext D σ H := q
theorem r_if (q : t σ H fun b H1 => if b = true then ts D σ H1 else tu D σ H1) : tIfS t ts tu D σ H := q
theorem ite_t {b : Bool} {A B : Prop} (h : b = true) (q : A) : if b = true then A else B := by rw [if_pos h]; exact q
theorem ite_f {b : Bool} {A B : Prop} (h : b = false) (q : B) : if b = true then A else B := by rw [if_neg (by rw [h]; decide)]; exact q
theorem ite_b {b : Bool} {A B : Prop} (h1 : b = true → A) (h2 : b = false → B) : if b = true then A else B := by
  cases b with
  | true => rw [if_pos rfl]; exact h1 rfl
  | false => rw [if_neg (by decide)]; exact h2 rfl
end
end AE

set_option Elab.async false
set_option linter.all false
set_option maxRecDepth 100000
namespace AE
open PySem PySem.Spec PyProof.Rows L2 Evl
section
variable {X : Cx}
def rAddS0 : R2 := fun x y H Q => ∃ i j, x = .str i ∧ y = .str j ∧ i.length + j.length ≤ sizeLine ∧ Q (.str (i ++ j)) H
def rAddA (K : PySem.W.Frag) : R2 := fun x y H Q => rI0 (fun i j => .int (i + j)) x y H Q ∨ (rAddS0 x y H Q ∨ (rCat x y H Q ∨ rCatT K x y H Q))
theorem opAdd : OpR X (binaryOp .Add) (rAddA X.K) := OpR.or op_add (OpR.or op_add_str (OpR.or op_cat op_catT))
def cLen (K : PySem.W.Frag) : List V → Hp → VK → Prop := fun xs H Q => (∃ p ys, xs = [.ref p] ∧ (SqL K H p ys ∨ SqT K H p ys) ∧ Q (.int ys.length) H) ∨ (∃ z, xs = [.str z] ∧ z.length ≤ sizeLine ∧ Q (.int z.length) H)
theorem c_len : CallR X (.builtin "len") (cLen X.K) := CallR.or call_len_seq call_len_str
def cInt : List V → Hp → VK → Prop := fun xs H Q => (∃ i, xs = [.int i] ∧ Q (.int i) H) ∨ ∃ k, xs = [.bl k] ∧ Q (.int (if k then 1 else 0)) H
theorem c_int : CallR X (.type "int") cInt := call_int1
def cList (K : PySem.W.Frag) : List V → Hp → VK → Prop := fun xs H Q => ∃ p ys, xs = [.ref p] ∧ (SqL K H p ys ∨ SqT K H p ys) ∧ ∀ l, H l = none → Q (.ref l) (upd H l (.lst ys))
theorem c_list : CallR X (.type "list") (cList X.K) := call_list_of
def cTup (K : PySem.W.Frag) : List V → Hp → VK → Prop := fun xs H Q => ∃ p ys, xs = [.ref p] ∧ ((SqL K H p ys ∧ ∀ l, H l = none → Q (.ref l) (upd H l (.tup ys))) ∨ (SqT K H p ys ∧ Q (.ref p) H))
theorem c_tuple : CallR X (.type "tuple") (cTup X.K) := call_tuple_of
theorem c_isinstance : CallR X (.builtin "isinstance") (rIsi X.K) := call_isi
def rLe1 : R2 := rI0 fun i j => .bl (decide (i ≤ j))
end
section
variable {K : PySem.W.Frag} {σ : L2.St} {H : Hp} {Q : VK} {D : Ends} {ta tb te tc : TE} {t u : TT} {x y v : V} {ts tu tz : TS} {QB : Bool → Hp → Prop} {QA : List V → Hp → Prop}
theorem add_int {i j : Int} (q : Q (.int (i + j)) H) : rAddA K (.int i) (.int j) H Q := .inl ⟨i, j, rfl, rfl, q⟩
theorem add_str {i j : Str} (l : i.length + j.length ≤ sizeLine) (q : Q (.str (i ++ j)) H) : rAddA K (.str i) (.str j) H Q := .inr (.inl ⟨i, j, rfl, rfl, l, q⟩)
theorem add_lst {a b : Addr} {xs ys : List V} (ha : H a = some (.lst xs)) (hb : H b = some (.lst ys)) (l : xs.length + ys.length ≤ sizeLine) (q : ∀ p, H p = none → Q (.ref p) (upd H p (.lst (xs ++ ys)))) : rAddA K (.ref a) (.ref b) H Q :=
  .inr (.inr (.inl ⟨a, b, xs, ys, rfl, rfl, ha, hb, l, q⟩))
theorem len_l {p : Addr} {ys : List V} (h : SqL K H p ys) (q : Q (.int ys.length) H) : cLen K [.ref p] H Q := .inl ⟨p, ys, rfl, .inl h, q⟩
theorem len_t {p : Addr} {ys : List V} (h : SqT K H p ys) (q : Q (.int ys.length) H) : cLen K [.ref p] H Q := .inl ⟨p, ys, rfl, .inr h, q⟩
theorem len_s {z : Str} (h : z.length ≤ sizeLine) (q : Q (.int z.length) H) : cLen K [.str z] H Q := .inr ⟨z, rfl, h, q⟩
theorem int_i {i : Int} (q : Q (.int i) H) : cInt [.int i] H Q := .inl ⟨i, rfl, q⟩
theorem ix_l {p : Addr} {xs : List V} {i : Int} (h : SqL K H p xs) (e : atI xs i = some v) (q : Q v H) : rIx K (.ref p) (.int i) H Q := .inl ⟨p, xs, i, v, rfl, rfl, h, e, q⟩
theorem ix_t {p : Addr} {xs : List V} {i : Int} (h : SqT K H p xs) (e : atI xs i = some v) (q : Q v H) : rIx K (.ref p) (.int i) H Q := .inr (.inl ⟨p, xs, i, v, rfl, rfl, h, e, q⟩)
theorem ix_s {z : Str} {i : Int} {c : Nat} (l : z.length ≤ sizeLine) (e : atI z.cps.toList i = some c) (q : Q (.str ⟨#[c]⟩) H) : rIx K (.str z) (.int i) H Q := .inr (.inr ⟨z, i, c, rfl, rfl, l, e, q⟩)
theorem sl_l {p : Addr} {xs : List V} {lo hi : Option Int} (h : SqL K H p xs) (q : ∀ l, H l = none → Q (.ref l) (upd H l (.lst (cutV xs lo hi)))) : rSlL K (.ref p) lo hi H Q := ⟨p, xs, rfl, h, q⟩
theorem sl_s {z : Str} {lo hi : Option Int} (h : z.length ≤ sizeLine) (q : Q (.str (cutS z lo hi)) H) : rSlS (.str z) lo hi H Q := ⟨z, rfl, h, q⟩
theorem r_sl {r : V → Option Int → Option Int → Hp → VK → Prop} {tl th : TO} (q : te σ H fun x H1 => tl σ H1 fun l H2 => th σ H2 fun u H3 => r x l u H3 Q) : tSl r te tl th σ H Q := q
theorem r_nop {QO : Option Int → Hp → Prop} (q : QO none H) : tNoPart σ H QO := q
theorem r_prt {QO : Option Int → Hp → Prop} (q : te σ H fun x H1 => ∃ i, x = .int i ∧ QO (some i) H1) : tPart te σ H QO := q
theorem r_some {R : Int → Prop} {i : Int} (q : R i) : ∃ j, V.int i = .int j ∧ R j := ⟨i, rfl, q⟩
theorem r_app {i : Nat} {l : Addr} {xs : List V} (h0 : σ[i]? = some (some (.ref l))) (h : H l = some (.lst xs)) (q : te σ H fun y H2 => rAppend (.ref l) [y] H2 Q) : tBM K "list" rAppend (tVar i) (tCons te tNil) σ H Q :=
  ⟨_, h0, .inl ⟨rfl, _, .inl (.inl h)⟩, q⟩
theorem app_l {l : Addr} {xs : List V} (h : H l = some (.lst xs)) (z : xs.length < sizeLine) (q : Q .non (upd H l (.lst (xs ++ [y])))) : rAppend (.ref l) [y] H Q := ⟨l, xs, y, rfl, rfl, h, z, q⟩
/-! loops -/
def LR1 (i : Nat) (tb : TS) (D : Ends) (σ : L2.St) : List V → Hp → Prop := fun vs H1 => ∃ j : Int, vs = [.int j] ∧ -(2 ^ 62) ≤ j ∧ j < 2 ^ 62 ∧
  ∃ W : Nat → Nat → L2.St → Hp → Prop, (∃ m, W 0 m σ H1) ∧ ∀ i' m σ H, W i' m σ H → ((Itr 0 j.toNat).stop i' H ∧ D.nx σ H) ∨ ((Itr 0 j.toNat).go i' H ∧ ∃ N : L2.St → Hp → Prop, (∀ σ' H', N σ' H' → ∃ m', m' < m ∧ W (i' + 1) m' σ' H') ∧
    ∀ x H', (Itr 0 j.toNat).yld i' H x H' → gName i x σ H' fun σ2 H2 => tb { D with nx := N, ct := N, bk := D.nx } σ2 H2)
theorem r_forR1 {ta : TA} {i : Nat} (q : ta σ H (LR1 i tz D σ)) : tFor (iRng1 ta) (gName i) tz D σ H := q
theorem lr1_go {i : Nat} {n : Int} (Pv : Nat → L2.St → Hp → Prop) (h0 : Pv 0 σ H) (hn : 0 ≤ n ∧ n ≤ 100000000)
    (hs : ∀ (k : Nat) σ' H', (k : Int) < n → Pv k σ' H' → tz { D with nx := Pv (k + 1), ct := Pv (k + 1), bk := D.nx } (σ'.set i (some (.int (k : Int)))) H')
    (hd : ∀ σ' H', Pv n.toNat σ' H' → D.nx σ' H') : LR1 i tz D σ [.int n] H :=
  ⟨n, rfl, by omega, by omega, for_range (lo := 0) (n := n.toNat) Pv h0 (fun k σ' H' hk p => by
    have q := hs k σ' H' (by omega) p
    show gName i (.int (0 + (k : Int))) σ' H' _
    rw [Int.zero_add]
    exact q) hd⟩
def LL (K : PySem.W.Frag) (g : TG) (tb : TS) (D : Ends) (σ : L2.St) : V → Hp → Prop := fun x H1 => ∃ a, x = .ref a ∧ (∃ xs, SqL K H1 a xs) ∧
  ∃ W : Nat → Nat → L2.St → Hp → Prop, (∃ m, W 0 m σ H1) ∧ ∀ i m σ H, W i m σ H → ((Itl K a).stop i H ∧ D.nx σ H) ∨ ((Itl K a).go i H ∧ ∃ N : L2.St → Hp → Prop, (∀ σ' H', N σ' H' → ∃ m', m' < m ∧ W (i + 1) m' σ' H') ∧
    ∀ x H', (Itl K a).yld i H x H' → g x σ H' fun σ2 H2 => tb { D with nx := N, ct := N, bk := D.nx } σ2 H2)
theorem r_forL {g : TG} (q : te σ H (LL K g tz D σ)) : tFor (iList K te) g tz D σ H := q
theorem ll_go {g : TG} {a : Addr} {xs : List V} (hx : SqL K H a xs) (Pv : Nat → L2.St → Hp → Prop) (h0 : Pv 0 σ H) (hl : ∀ i σ' H', i ≤ xs.length → Pv i σ' H' → SqL K H' a xs)
    (hs : ∀ i x σ' H', xs[i]? = some x → Pv i σ' H' → g x σ' H' fun σ2 H2 => tz { D with nx := Pv (i + 1), ct := Pv (i + 1), bk := D.nx } σ2 H2)
    (hd : ∀ σ' H', Pv xs.length σ' H' → D.nx σ' H') : LL K g tz D σ (.ref a) H :=
  ⟨a, rfl, ⟨xs, hx⟩, for_list Pv h0 hl hs hd⟩
end
end AE

set_option Elab.async false
set_option linter.all false
set_option maxRecDepth 100000
namespace AE
open PySem PySem.Spec PyProof.Rows L2 Evl
open PySem.W
open Builtin
/-- a number below 1000 as three signs -/
def p3 (a : Int) : Str := ⟨#[48 + (a / 100).toNat, 48 + (a / 10 % 10).toNat, 48 + (a % 10).toNat]⟩
set_option maxHeartbeats 4000000 in
theorem run03 (n : Fin 200) {t : Tok} : ∀ u, Meets («int.__format__» ⟨[.int (n.val : Int) t, .str "03d" u], []⟩) (fun _ R s => ∀ t' k, R (.ok (.ret (.str (p3 (n.val : Int)) t'))) { s with toks := k }) := by
  intro u
  apply KPc.meets_of
  intro _ _ _ _ _ _ hq
  unfold Builtin.«int.__format__»
  refine wpAny_bind (wpAny_of_eq (a := (_, _)) rfl ?_)
  refine wpAny_bind (wpAny_of_eq (a := _) rfl ?_)
  kxf_if
  refine wpAny_bind (wpAny_typeNameOf (T := "str") (typeIs_str _ _ _) (by decide) fun _ => ?_)
  refine wpAny_bind (wpAny_of_eq (a := some _) rfl ?_)
  kxf_if
  kxf_if
  refine wpAny_bind (wpAny_typeNameOfCut_int ?_)
  (repeat kxf_if)
  have hd : ((n.val : Int)).natAbs.log2 < 1920 := by
    have h2 : (n.val : Int).natAbs < 2 ^ 1920 := Nat.lt_of_lt_of_le (show (n.val : Int).natAbs < 1024 by have := n.isLt; omega) (by decide +kernel)
    by_cases hz : (n.val : Int).natAbs = 0
    · rw [hz]; decide
    · exact (Nat.log2_lt hz).mpr h2
  refine wpAny_bind (wpAny_of_eq (PySem.overDigitLimit_small hd) ?_)
  (repeat kxf_if)
  refine KXf.ret_text (T := p3 (n.val : Int)) ?_ ?_ hq
  · clear hq hd
    revert n
    decide +kernel
  · clear hq hd
    revert n
    decide +kernel
theorem fmt03 {prog : Program} {w : World} {A : Around} {E : Value → Shared → Prop} {s : Shared} {a : Int} {t : Tok} {Q : Value → Shared → Prop} (h0 : 0 ≤ a) (h1 : a < 200) (h : ∀ t' k, Q (.str (p3 a) t') { s with toks := k }) :
    wpAny (model prog w) A (formatField (.int a t) "03d") Q E s := by
  have e : a = (((⟨a.toNat, by omega⟩ : Fin 200).val : Nat) : Int) := by show a = (a.toNat : Int); omega
  rw [e]
  rw [e] at h
  exact KXf.field_int rfl (by decide +kernel) (by decide +kernel) (run03 _) h
end AE

set_option Elab.async false
set_option linter.all false
set_option maxRecDepth 100000
namespace AE
open PySem PySem.Spec PyProof.Rows L2 Evl
open PySem.W
open Builtin
/-- a text filled up with blanks to eight signs -/
def pad8 (x : Str) : Str := ⟨x.cps ++ Array.replicate (8 - x.length) 32⟩
set_option maxHeartbeats 4000000 in
theorem runl8 (x : Str) {t : Tok} (hx : x.length ≤ 8) : ∀ u, Meets («str.__format__» ⟨[.str x t, .str "<8" u], []⟩) (fun _ R s => ∀ t' k, R (.ok (.ret (.str (pad8 x) t'))) { s with toks := k }) := by
  intro u
  apply KPc.meets_of
  intro _ _ _ _ _ _ hq
  unfold Builtin.«str.__format__»
  refine wpAny_bind (wpAny_of_eq (a := (_, _, _)) rfl ?_)
  refine wpAny_bind (wpAny_of_eq (a := some _) rfl ?_)
  kxf_if
  kxf_if
  refine wpAny_bind (KXf.cut_str ?_)
  have hp : Float.parseFormatSpec (PySem.Str.ofString "<8").cps.toList "str" 60 = .ok { fill := 32, align := 60, width := some 8 } := by with_unfolding_all rfl
  have hs : Str.strField x { fill := 32, align := 60, width := some 8 } "str" = .ok (if 8 ≤ x.length then none else some (Str.padded (Str.strSub x 0 x.length) 0 (8 - (Str.strSub x 0 x.length).length) 32)) := by
    unfold Str.strField
    by_cases h : 8 ≤ x.length
    · simp [h]
      rfl
    · simp [h]
      rfl
  rw [hp]
  have hb : (PySem.Str.ofString "<8").cps.back? = some 56 := by decide +kernel
  have ht : Str.tooLong 8 = false := by decide +kernel
  simp only [bind, Except.bind, pure, Except.pure, hb, Option.isNone_none, Option.getD_some, ht, hs]
  simp only [show (true && (some 56 == some (0 : Nat))) = false by decide, Bool.false_eq_true, if_false, Option.getD_some, ht, hs]
  have hxl : (Str.strSub x 0 x.length) = x := by
    show (⟨x.cps.extract 0 x.cps.size⟩ : Str) = x
    rw [Array.extract_size]
  by_cases h : 8 ≤ x.length
  · rw [if_pos h]
    have e : x = pad8 x := by
      show x = ⟨x.cps ++ Array.replicate (8 - x.length) 32⟩
      rw [Nat.sub_eq_zero_of_le h]
      show x = ⟨x.cps ++ #[]⟩
      rw [Array.append_empty]
    exact wpAny_bind (wpAny_rule (KXf.ret_same e hq))
  · rw [if_neg h, hxl]
    refine KXf.ret_text ?_ ?_ hq
    · show (⟨Array.replicate 0 32 ++ x.cps ++ Array.replicate (8 - x.length) 32⟩ : Str) = ⟨x.cps ++ Array.replicate (8 - x.length) 32⟩
      rw [show (Array.replicate 0 32 : Array Nat) = #[] from rfl, Array.empty_append]
    · show (Array.replicate 0 32 ++ x.cps ++ Array.replicate (8 - x.length) 32).size ≤ sizeLine
      rw [Array.size_append, Array.size_append, Array.size_replicate, Array.size_replicate]
      have h2 : x.cps.size ≤ 8 := hx
      exact sz_of (by omega)
theorem fmtl8 {prog : Program} {w : World} {A : Around} {E : Value → Shared → Prop} {s : Shared} {x : Str} {t : Tok} {Q : Value → Shared → Prop} (hx : x.length ≤ 8) (h : ∀ t' k, Q (.str (pad8 x) t') { s with toks := k }) :
    wpAny (model prog w) A (formatField (.str x t) "<8") Q E s :=
  KXf.field_str rfl rfl (by decide +kernel) (by decide +kernel) (runl8 x hx) h
/-! the f-string's parts -/
section
variable {X : Cx}
def tF03 (te : TE) : TE := fun σ H Q => te σ H fun x H1 => ∃ i : Int, x = .int i ∧ 0 ≤ i ∧ i < 200 ∧ Q (.str (p3 i)) H1
def tFl8 (te : TE) : TE := fun σ H Q => te σ H fun x H1 => ∃ y : Str, x = .str y ∧ y.length ≤ 8 ∧ Q (.str (pad8 y)) H1
theorem pe_fmtS_03d {e : Expr} {te : TE} {pos p2 p3' : Pos} {j : Nat} (he : PE X e te) : PE X (.FormattedValue e (-1) (some (.JoinedStr [.Constant (.str "03d") j p2] p3')) pos) (tF03 te) := by
  refine ⟨fun pins s σ H Q I h => wpAny_FormattedValue_spec (thn (he.run pins s σ H _ I h) fun v s1 hv => ?_)⟩
  obtain ⟨x, H1, I1, r1, i, rfl, h0, h1, q⟩ := hv
  obtain ⟨t, rfl⟩ := r1
  refine wpAny_JoinedStr_one (Calls.Constant_str ⟨_, _, rfl, fmt03 h0 h1 fun t' k => ⟨.str (p3 i), H1, I1.tok _, ⟨_, rfl⟩, q⟩⟩)
theorem pe_fmtS_l8 {e : Expr} {te : TE} {pos p2 p3' : Pos} {j : Nat} (he : PE X e te) : PE X (.FormattedValue e (-1) (some (.JoinedStr [.Constant (.str "<8") j p2] p3')) pos) (tFl8 te) := by
  refine ⟨fun pins s σ H Q I h => wpAny_FormattedValue_spec (thn (he.run pins s σ H _ I h) fun v s1 hv => ?_)⟩
  obtain ⟨x, H1, I1, r1, y, rfl, h0, q⟩ := hv
  obtain ⟨t, rfl⟩ := r1
  refine wpAny_JoinedStr_one (Calls.Constant_str ⟨_, _, rfl, fmtl8 h0 fun t' k => ⟨.str (pad8 y), H1, I1.tok _, ⟨_, rfl⟩, q⟩⟩)
end
end AE

set_option Elab.async false
set_option linter.all false
set_option maxRecDepth 100000
set_option maxHeartbeats 2000000
namespace AE
open PySem PySem.Spec PyProof.Rows L2 Evl
section
variable {X : Cx} {pins : List (Addr × Obj)} {σ : L2.St} {H : Hp} {s : Shared}
/-- a store into a dict with tuple keys, as a comprehension makes it -/
theorem put_t {D b : Addr} {kvs : List (List Key × V)} {ks : List Key} {v : V} {r : Value} {Q : Unit → Shared → Prop} {Er : Value → Shared → Prop} {A : Around} (hu : A.units < cLine) (I : Inv X pins σ H s) (hD : H D = some (.dT kvs)) (hb : H b = some (.tup (ks.map kV))) (hl : kvs.length < sizeLine)
    (rv : RelV v r) (h : ∀ s1, Inv X pins σ (upd H D (.dT (putK kvs ks v))) s1 → Q () s1) : wpAny (model X.prog X.w) A (dictSet D (.ref b) r) Q Er s := by
  obtain ⟨_, hd, xs, rel, dd⟩ := dt_of I.hok hD
  have hx : xs.length ≤ sizeLine := by
    have e := Paired.length rel
    omega
  have hz : (putK kvs ks v).length ≤ sizeLine := Nat.le_trans (length_putK kvs ks v) (by omega)
  refine wpAny_dictSet_heap (knd := tupleKind (mixKind X.prog X.w)) (hsz := hx) hu (key_of I.hok hb) dd fun h1 dd1 hs => h _ ?_
  obtain ⟨q, es, ep, hq, k2, k3, k4, _, k5⟩ := dd1
  exact d_write I (by rw [hD]; trivial) hs ⟨q, hq⟩ ⟨hz, hd, _, (rel.put ks hb rv).keeps fun c ys ec => by rw [upd_ne (ne_of ec hD (by intro z; cases z))]; exact ec, q, es, ep, hq, k2, k3, k4, k5⟩
/-- the stores of a comprehension whose keys are tuples -/
def sT (D : Addr) : V → V → Hp → (Hp → Prop) → Prop := fun y z H R => ∃ (kvs : List (List Key × V)) (ks : List Key) (b : Addr), y = .ref b ∧ H b = some (.tup (ks.map kV)) ∧ H D = some (.dT kvs) ∧ kvs.length < sizeLine ∧ R (upd H D (.dT (putK kvs ks z)))
def tDcT (wi : TI) (g : TG) (tt : TT) (tk tv : TE) (vs : List Nat) : TE := fun σ H Q => wi σ H fun J Ha => ∀ D, Ha D = none → ∃ W : Nat → Nat → Hp → Prop, (∃ m, W 0 m (upd Ha D (.dT []))) ∧ ∀ i m Hb, W i m Hb →
  (J.stop i Hb ∧ Q (.ref D) Hb) ∨ (J.go i Hb ∧ ∃ Nx : Hp → Prop, (∀ Hc, Nx Hc → ∃ m1, m1 < m ∧ W (i + 1) m1 Hc) ∧ ∀ x Hc, J.yld i Hb x Hc → g x (wipe σ vs) Hc fun σa Hd => wipe σa vs = wipe σ vs ∧ tt σa Hd fun b He =>
    if b = true then tk σa He fun y Hf => tv σa Hf fun z Hg => sT D y z Hg Nx else Nx He)
theorem pe_dcT {kx vx tg iter : Expr} {ifs : List Expr} {scope : Scope} {own : List (Str × Nat)} {pos : Pos} {wi : TI} {g : TG} {tt : TT} {tk tv : TE} (hu : X.A.units < cLine) (hc : X.calm = true) (hN : X.N.Nodup) (hi : PI X tg iter wi) (ok : BlkOk X.N X.env.scope scope own)
    (hg : ∀ s0 H0 C cl fp, PG (X.blk s0 H0 scope (compEnvC scope cl C X.env) fp) tg g) (ht : ∀ s0 H0 C cl fp, PTs (X.blk s0 H0 scope (compEnvC scope cl C X.env) fp) ifs tt)
    (hk : ∀ s0 H0 C cl fp, PE (X.blk s0 H0 scope (compEnvC scope cl C X.env) fp) kx tk) (he : ∀ s0 H0 C cl fp, PE (X.blk s0 H0 scope (compEnvC scope cl C X.env) fp) vx tv)
    (hs : ∀ x, foldedSetIterable iter X.env x = pure x := by intro _; rfl) : PE X (.DictComp kx vx [⟨tg, iter, ifs, 0⟩] scope pos) (tDcT wi g tt tk tv (own.map (·.2))) := by
  refine ⟨fun pins s σ H Q I h => ?_⟩
  rw [arm_eval_DictComp]
  have free : ∀ y ∈ scope.names, y.2 = .free → ∃ c, X.env.cells.lookup y.1 = some c := fun y hy e => by
    rcases ok.free y hy e with z | z
    · exact I.ok.has _ (.inl z)
    · exact I.ok.has _ (.inr z)
  refine wpAny_comprehension_free (use := none) rfl hs (closure_ok free) ok.kind (fun y hy e => by rw [ok.uniq y hy, e]) (thn (hi.run pins s σ H _ I h) fun xv sa hx => thn hx fun itv sb hb => ?_)
  obtain ⟨it, fp, tn, J, Hb, e, Ib, T, stb, fb, q⟩ := hb
  subst e
  refine wpAny_newObj_type (newEnv_comp ?_)
  generalize hDe : sb.heap.objs.size = D
  obtain ⟨W, ⟨m0, w0⟩, turn⟩ := q D (Ib.hok.fresh (Nat.le_of_eq hDe))
  generalize hsc : ({ sb with heap := sb.heap.push { cls := .type "dict", data := .dict #[] } } : Shared) = sc
  have hsc' : sc.heap = sb.heap.push { cls := .type "dict", data := .dict #[] } := by rw [← hsc]
  have Ic : Inv X pins σ (upd Hb D (.dT [])) sc := by
    rw [← hsc]
    refine Ib.laid (t' := sb.toks) (fun _ _ e => Heap.get?_push_of_some _ e) (Nat.le_of_eq hDe) ?_
    rw [← hDe]
    exact dt_empty sb.heap Ib.big
  have old : ∀ b ∈ fp, b < sb.heap.objs.size := fun b hb => by
    obtain ⟨_, z, _⟩ := T.obj _ _ stb b hb
    exact Heap.lt_size z
  have fc : ∀ b ∈ fp, FpOk X pins (upd Hb D (.dT [])) b ∧ b < sc.heap.objs.size := fun b hb => by
    have z := old b hb
    refine ⟨⟨by rw [upd_ne (by rw [← hDe]; exact Nat.ne_of_lt z)]; exact (fb b hb).1, (fb b hb).2⟩, ?_⟩
    rw [hsc', Heap.size_push]
    exact Nat.lt_succ_of_lt z
  have stc : tn 0 sc.heap := T.keep _ _ _ stb fun b _ o e => by rw [hsc']; exact Heap.get?_push_of_some _ e
  have Id := block_start Ic ok hN fc
  have pg := hg sc (upd Hb D (.dT [])) sc.heap.objs.size (cellsFrom (sc.heap.objs.size + 1) scope.names (cloFrom X.env.cells scope.names [])) fp
  have pt := ht sc (upd Hb D (.dT [])) sc.heap.objs.size (cellsFrom (sc.heap.objs.size + 1) scope.names (cloFrom X.env.cells scope.names [])) fp
  have pk := hk sc (upd Hb D (.dT [])) sc.heap.objs.size (cellsFrom (sc.heap.objs.size + 1) scope.names (cloFrom X.env.cells scope.names [])) fp
  have pv := he sc (upd Hb D (.dT [])) sc.heap.objs.size (cellsFrom (sc.heap.objs.size + 1) scope.names (cloFrom X.env.cells scope.names [])) fp
  show codeAny _ _ (.compStart (.DictComp kx vx [⟨tg, iter, ifs, 0⟩] scope pos) 0 (.ref it) (.ref D) (compEnvC scope (cellsFrom (sc.heap.objs.size + 1) scope.names (cloFrom X.env.cells scope.names [])) sc.heap.objs.size X.env)) _ { sc with heap := pushCells (sc.heap.push { cls := .type "dict", data := .dict #[] }) scope.names }
  have nfp : ∀ b ∈ fp, (upd Hb D (.dT [])) b = none := fun b hb => (fc b hb).1.1
  generalize hce : compEnvC scope (cellsFrom (sc.heap.objs.size + 1) scope.names (cloFrom X.env.cells scope.names [])) sc.heap.objs.size X.env = ce at Id pg pt pk pv ⊢
  have cL : ce.locals = sc.heap.objs.size := by subst hce; rfl
  generalize hHc : upd Hb D (.dT []) = Hc at Ic Id pg pt pk pv w0 nfp fc
  generalize hsd : ({ sc with heap := pushCells (sc.heap.push { cls := .type "dict", data := .dict #[] }) scope.names } : Shared) = sd at Id ⊢
  have std : tn 0 sd.heap := T.keep _ _ _ stc fun b _ o e => by rw [← hsd]; exact pushCells_keeps _ _ _ _ (Heap.get?_push_of_some _ e)
  have stat : ∀ {σ1 : L2.St} {H1 : Hp} {s1 : Shared}, Inv (X.blk sc Hc scope ce fp) [] σ1 H1 s1 → (∀ b ∈ fp, H1 b = none) → ∀ b ∈ fp, FpOk (X.blk sc Hc scope ce fp) [] H1 b := fun {σ1 H1 s1} J1 nn b hb =>
    ⟨nn b hb, (J1.ok.exf b hb).1, J1.ok.exfs b hb, .inl hb, fun x c e => (J1.ok.exf b hb).2 x c e, fun p hp => absurd (show p ∈ ([] : List (Addr × Obj)) ++ [] from hp) (by simp)⟩
  refine codeAny_compStart_dict ?_ (T.self X.A 0 _ _ _ std ?_)
  all_goals
    refine compLoop_anyD (fun n s1 => ∃ i H1, Inv (X.blk sc Hc scope ce fp) [] (wipe σ (own.map (·.2))) H1 s1 ∧ tn i s1.heap ∧ (∀ b ∈ fp, H1 b = none) ∧ W i n H1) ?_ m0 ⟨0, Hc, Id, std, nfp, w0⟩
    rintro n s5 ⟨i, H5, I5, st5, n5, w5⟩
    rcases turn i n H5 w5 with ⟨stop, fine⟩ | ⟨go, Nx, less, step⟩
    · refine thnF (T.done (X.blk sc Hc scope ce fp) rfl rfl rfl hc i [] s5 _ H5 (fun _ _ => False) I5 (stat I5 n5) st5 stop) fun r s6 ⟨hr, I6⟩ => ?_
      subst hr
      have I7 : Inv X pins σ H5 s6 := Ic.call' (ch := fp) I6.os I6.base I6.hok I6.bare fun b hb => ⟨(fc b hb).1.2.2.2.1, (fc b hb).1.2.1, (fc b hb).1.2.2.2.2.1, (fc b hb).1.2.2.2.2.2⟩
      have nC : H5 sc.heap.objs.size = none := by
        rw [← cL]
        exact I6.free
      obtain ⟨mm, hmm, _⟩ := I6.loc
      have hm2 : s6.heap.Ns ce.locals mm := hmm
      rw [cL] at hm2
      refine ⟨mm, hm2, fun h2 sb2 => ?_⟩
      obtain ⟨f0, f1, _, f3, f4, f5⟩ := Ic.fpOk (Nat.le_refl _) nC
      exact ⟨.ref D, H5, I7.turned (t' := s6.toks) (fun b o hb e => (sb2.2 b hb).trans e) f0 f1 f3 f4 f5, rfl, fine⟩
    · refine thnF (T.item (X.blk sc Hc scope ce fp) rfl rfl rfl hc i [] s5 _ H5 (fun _ _ => False) I5 (stat I5 n5) st5 go) fun r s6 ⟨u, hr, more⟩ => ?_
      subst hr
      refine thnF more fun _ s7 ⟨x, H7, I7, rx, yx, st7, n7⟩ => ?_
      refine thnF (pg.run _ s7 _ H7 x u _ (I7.pinned (stat I7 n7) (T.obj _ _ st7)) rx (step x H7 yx)) fun _ s8 ⟨σ8, H8, I8, hw, q8⟩ => ?_
      have back : ∀ {s1 : Shared} {H1 : Hp}, Inv (X.blk sc Hc scope ce fp) ([] ++ pinsAt fp s7.heap) σ8 H1 s1 → Nx H1 → ∃ m, m < n ∧ ∃ i H1, Inv (X.blk sc Hc scope ce fp) [] (wipe σ (own.map (·.2))) H1 s1 ∧ tn i s1.heap ∧ (∀ b ∈ fp, H1 b = none) ∧ W i m H1 := fun {s1 H1} J1 nx => by
        obtain ⟨m1, l1, w1⟩ := less H1 nx
        have keep : ∀ b ∈ fp, ∀ o, s7.heap.get? b = some o → s1.heap.get? b = some o ∧ H1 b = none := fun b hb o e => by
          have z := J1.pin (b, o) (List.mem_append_right _ (List.mem_append_right _ (mem_pinsAt hb e)))
          exact ⟨z.1, z.2.1⟩
        refine ⟨m1, l1, i + 1, H1, (J1.unpinned (pins := [])).weak (by rw [← hw, wipe_length]) (fun j v e => ?_), T.keep _ _ _ st7 fun b hb o e => (keep b hb o e).1, fun b hb => ?_, w1⟩
        · rw [← hw] at e
          exact (wipe_some e).1
        · obtain ⟨o, e, _⟩ := T.obj _ _ st7 b hb
          exact (keep b hb o e).2
      refine thnF (pt.run _ s8 σ8 H8 _ I8 q8) fun b s9 ⟨H9, I9, q9⟩ => ?_
      cases b
      · simp only [Bool.false_eq_true, if_false] at q9 ⊢
        exact back I9 q9
      · simp only [if_true] at q9 ⊢
        refine thnF (pk.run _ s9 σ8 H9 _ I9 q9) fun z s10 ⟨yk, H10, I10, rk, q10⟩ => ?_
        refine thnF (pv.run _ s10 σ8 H10 _ I10 q10) fun z2 s11 ⟨yv, H11, I11, rz, kvs, ks, kb, ek, eb, eD, l11, nx⟩ => ?_
        subst ek
        cases rk
        exact put_t (X := X.blk sc Hc scope ce fp) hu I11 eD eb l11 rz fun s12 I12 => back I12 nx
end
end AE

set_option Elab.async false
set_option linter.all false
set_option maxRecDepth 100000
set_option maxHeartbeats 2000000
namespace AE
open PySem PySem.Spec PyProof.Rows L2 Evl
section
variable {X : Cx} {pins : List (Addr × Obj)} {σ : L2.St} {H : Hp} {s : Shared}
theorem setd_t {D b : Addr} {kvs : List (List Key × V)} {ks : List Key} {v : V} {r : Value} {Q : Value → Shared → Prop} {Er : Value → Shared → Prop} {A : Around} (hu : A.units + 1 < cLine) (I : Inv X pins σ H s) (hD : H D = some (.dT kvs)) (hb : H b = some (.tup (ks.map kV))) (hl : kvs.length < sizeLine)
    (rv : RelV v r) (h1 : ∀ x, valV kvs ks = some x → ∀ w1 s1, Inv X pins σ H s1 → RelV x w1 → Q w1 s1) (h2 : valV kvs ks = none → ∀ s1, Inv X pins σ (upd H D (.dT (putK kvs ks v))) s1 → Q r s1) :
    wpAny (model X.prog X.w) A (call (.builtin "dict.setdefault") [.ref D, .ref b, r]) Q Er s := by
  obtain ⟨_, hd, xs, rel, dd⟩ := dt_of I.hok hD
  have hx : xs.length ≤ sizeLine := by
    have e := Paired.length rel
    omega
  have hz : (putK kvs ks v).length ≤ sizeLine := Nat.le_trans (length_putK kvs ks v) (by omega)
  refine call_setdefault_heap (knd := tupleKind (mixKind X.prog X.w)) (hsz := hx) (tupleKind_room_in1 hu) (key_of I.hok hb) hd dd (fun p hp => ?_) fun hn h' dd1 hs => ?_
  · have q := rel.val ks
    rw [hp] at q
    cases q0 : valV kvs ks with
    | none => rw [q0] at q; exact q.elim
    | some x => rw [q0] at q; exact h1 x q0 _ _ (I.tok _) q
  · have q := rel.val ks
    rw [hn] at q
    cases q0 : valV kvs ks with
    | some x => rw [q0] at q; exact q.elim
    | none =>
      refine h2 q0 _ ?_
      obtain ⟨q, es, ep, hq, k2, k3, k4, _, k5⟩ := dd1
      exact d_write I (by rw [hD]; trivial) hs ⟨q, hq⟩ ⟨hz, hd, _, (rel.put ks hb rv).keeps fun c ys ec => by rw [upd_ne (ne_of ec hD (by intro z; cases z))]; exact ec, q, es, ep, hq, k2, k3, k4, k5⟩
end
def tSetdT (td ty tx : TE) : TE := fun σ H Q => td σ H fun x Ha => ∃ a, x = .ref a ∧ IsD Ha a ∧ ty σ Ha fun y Hb => tx σ Hb fun z Hc => ∃ (kvs : List (List Key × V)) (k : List Key) (b : Addr), Hc a = some (.dT kvs) ∧ y = .ref b ∧ Hc b = some (.tup (k.map kV)) ∧ kvs.length < sizeLine ∧
  (∀ v, valV kvs k = some v → Q v Hc) ∧ (valV kvs k = none → Q z (upd Hc a (.dT (putK kvs k z))))
section
variable {X : Cx} {o e f : Expr} {td ty tx : TE} {apos cpos : Pos}
theorem pe_setdT (hu : X.A.units + 1 < cLine) (ho : PE X o td) (he : PE X e ty) (hf : PE X f tx) (m : M2 X o "setdefault" apos e f cpos) : PE X (.Call (.Attribute o "setdefault" apos) [e, f] [] cpos) (tSetdT td ty tx) := by
  refine ⟨fun pins s σ H Q I h => ?_⟩
  refine wpAny_Call_method m.base m.few m.line PySem.F.plainAttrs_dict PySem.F.slot_dict_setdefault PySem.F.type_dict_setdefault (thn (ho.run pins s σ H _ I h) fun u sa ⟨x, Ha, Ia, rx, a, ex, d, q1⟩ => ?_)
  subst ex
  cases rx
  obtain ⟨t1, t2, _⟩ := isD_at Ia d
  refine ⟨t1, t2, ?_⟩
  rw [m.trees]
  refine Calls.callWith_builtin rfl (Calls.evalArgs_plain (Calls.spliced_cons (thn (he.run pins sa σ Ha _ Ia q1) fun iv sb ⟨y, Hb, Ib, ry, q2⟩ => Calls.spliced_cons (thn (hf.run pins sb σ Hb _ Ib q2) fun fv sc hc => Calls.spliced_nil ?_))))
  obtain ⟨z, Hc, Ic, rz, kvs, k, b, ea, ey, eb, hl, q3, q4⟩ := hc
  subst ey
  cases ry
  exact setd_t hu Ic ea eb hl rz (fun v hv w1 s1 I1 r1 => ⟨v, _, I1, r1, q3 v hv⟩) fun hn s1 I1 => ⟨z, _, I1, rz, q4 hn⟩
end
/-! sorted texts of any number -/
section
variable {X : Cx}
def rSortA (K : PySem.W.Frag) : List V → Hp → VK → Prop := fun vs H Q => ∃ (a : Addr) (xs : List Str), vs = [V.ref a] ∧ SqL K H a (xs.map V.str) ∧ xs.length ≤ sizeLine ∧
  ∀ (ys : List Str) (p : Addr), ys.Perm xs → sortedS ys = true → H p = none → Q (.ref p) (upd H p (.lst (ys.map V.str)))
theorem c_sorted : CallR X (.builtin "sorted") (rSortA X.K) := by
  rintro pins s σ H vs us Q I r ⟨a, xs, rfl, hs, hz, q⟩
  obtain ⟨its, rv, hl, _⟩ := I.list hs
  rw [Vals.ref1 r]
  have n0 := rv.length
  rw [List.length_map] at n0
  refine sorted_strsAny hl.isList rv.strs (by omega) fun out ys g1 g2 g3 => ?_
  obtain ⟨ep, hat⟩ := PyProof.Rows.sortedAll_at s.heap its out
  have nz : (ys.map V.str).length ≤ sizeLine := by
    rw [List.length_map, g2.length_eq]
    exact hz
  refine ⟨.ref _, upd H (s.heap.objs.size + 1) (.lst (ys.map V.str)), ?_, rfl, q ys _ g2 g3 (I.hok.fresh (Nat.le_succ _))⟩
  exact I.laid (t' := s.toks) (fun _ _ => PyProof.Rows.sortedAll_old) (Nat.le_succ _) ⟨nz, out.toList, ep, vals_of_strs g1, hat⟩
def rStr : List V → Hp → VK → Prop := fun xs H Q => ∃ a, xs = [.str a] ∧ Q (.str a) H
theorem c_str : CallR X (.type "str") rStr := SkE.call_str_str
end
end AE

set_option Elab.async false
set_option linter.all false
set_option maxRecDepth 100000
namespace AE
open PySem PySem.Spec PyProof.Rows L2 Evl
/-! ### steps and their order -/
abbrev StepD := Int × Str × Int
def stepV (s : StepD) : List V := [.int s.1, .str s.2.1, .int s.2.2]
theorem stepV_sc (s : StepD) : (stepV s).all isSc = true := rfl
def ltS (a b : StepD) : Prop := a.1 < b.1 ∨ (a.1 = b.1 ∧ (a.2.1.cps.toList < b.2.1.cps.toList ∨ (a.2.1 = b.2.1 ∧ a.2.2 < b.2.2)))
structure OkS (n : Int) (s : StepD) : Prop where
  s0 : 0 ≤ s.1
  s1 : s.1 < n
  a0 : 1 ≤ s.2.1.length
  a1 : s.2.1.length ≤ 8
  al : ∀ c ∈ s.2.1.cps.toList, 97 ≤ c ∧ c ≤ 122
  e0 : 0 ≤ s.2.2
  e1 : s.2.2 < n
def keyS (s : StepD) : Str := ((Str.empty ++ p3 s.1) ++ pad8 s.2.1) ++ p3 s.2.2
theorem lex_app {a b x y : List Nat} (h : a < b) (l : a.length = b.length) : a ++ x < b ++ y := by
  induction a generalizing b with
  | nil =>
    cases b with
    | nil => exact absurd h (by simp)
    | cons _ _ => cases l
  | cons p r ih =>
    cases b with
    | nil => cases l
    | cons q t =>
      rw [List.cons_append, List.cons_append, List.cons_lt_cons_iff]
      rw [List.cons_lt_cons_iff] at h
      rcases h with h | ⟨h, k⟩
      · exact .inl h
      · exact .inr ⟨h, ih k (by simpa using l)⟩
theorem lex_pre {a x y : List Nat} (h : x < y) : a ++ x < a ++ y := by
  induction a with
  | nil => exact h
  | cons p r ih =>
    rw [List.cons_append, List.cons_append, List.cons_lt_cons_iff]
    exact .inr ⟨rfl, ih⟩
def d3 (a : Int) : List Nat := [48 + (a / 100).toNat, 48 + (a / 10 % 10).toNat, 48 + (a % 10).toNat]
def padL (x : Str) : List Nat := x.cps.toList ++ List.replicate (8 - x.length) 32
theorem key_list (s : StepD) : (keyS s).cps.toList = d3 s.1 ++ (padL s.2.1 ++ d3 s.2.2) := by
  unfold keyS
  rw [Str.cps_append, Str.cps_append, Str.cps_append]
  simp [Str.empty, p3, pad8, d3, padL]
theorem d3_lt {a b : Int} (h0 : 0 ≤ a) (h1 : b < 1000) (h : a < b) : d3 a < d3 b := by
  unfold d3
  rw [List.cons_lt_cons_iff, List.cons_lt_cons_iff, List.cons_lt_cons_iff]
  by_cases h2 : a / 100 < b / 100
  · exact .inl (by omega)
  · refine .inr ⟨by omega, ?_⟩
    by_cases h3 : a / 10 % 10 < b / 10 % 10
    · exact .inl (by omega)
    · exact .inr ⟨by omega, .inl (by omega)⟩
theorem pad_lt {x y : List Nat} (hx : ∀ c ∈ x, 97 ≤ c) (hy : ∀ c ∈ y, 97 ≤ c) (lx : x.length ≤ 8) (ly : y.length ≤ 8) (h : x < y) : x ++ List.replicate (8 - x.length) 32 < y ++ List.replicate (8 - y.length) 32 := by
  generalize 8 = m at lx ly
  induction x generalizing y m with
  | nil =>
    cases y with
    | nil => exact absurd h (by simp)
    | cons q t =>
      cases m with
      | zero => cases ly
      | succ m =>
        show List.replicate (m + 1) 32 < q :: (t ++ _)
        rw [List.replicate_succ, List.cons_lt_cons_iff]
        have := hy q (List.mem_cons_self ..)
        exact .inl (by omega)
  | cons p r ih =>
    cases y with
    | nil => exact absurd h (by simp)
    | cons q t =>
      rw [List.cons_lt_cons_iff] at h
      rw [List.cons_append, List.cons_append, List.cons_lt_cons_iff]
      rcases h with h | ⟨h, k⟩
      · exact .inl h
      · refine .inr ⟨h, ?_⟩
        cases m with
        | zero => cases ly
        | succ m =>
          have e := ih (y := t) (fun c hc => hx c (List.mem_cons_of_mem _ hc)) (fun c hc => hy c (List.mem_cons_of_mem _ hc)) k m (by simpa using lx) (by simpa using ly)
          rw [List.length_cons, List.length_cons, Nat.add_sub_add_right, Nat.add_sub_add_right]
          exact e
theorem key_lt {n : Int} (hn : n ≤ 200) {a b : StepD} (oa : OkS n a) (ob : OkS n b) (h : ltS a b) : (keyS a).cps.toList < (keyS b).cps.toList := by
  rw [key_list, key_list]
  have := oa.s1; have := ob.s1; have := oa.e1; have := ob.e1
  rcases h with h | ⟨e, h | ⟨e2, h⟩⟩
  · exact lex_app (d3_lt oa.s0 (by omega) h) rfl
  · rw [e]
    refine lex_pre (lex_app (pad_lt (fun c hc => (oa.al c hc).1) (fun c hc => (ob.al c hc).1) oa.a1 ob.a1 h) ?_)
    have la := oa.a1
    have lb := ob.a1
    have ea : a.2.1.cps.toList.length = a.2.1.length := rfl
    have eb : b.2.1.cps.toList.length = b.2.1.length := rfl
    unfold padL
    rw [List.length_append, List.length_append, List.length_replicate, List.length_replicate, ea, eb]
    omega
  · rw [e, e2]
    exact lex_pre (lex_pre (d3_lt oa.e0 (by omega) h))
theorem ltS_irrefl (a : StepD) : ¬ ltS a a := by
  rintro (h | ⟨_, h | ⟨_, h⟩⟩)
  · exact absurd h (by omega)
  · exact List.lt_irrefl _ h
  · exact absurd h (by omega)
theorem ltS_trans {a b c : StepD} (h : ltS a b) (k : ltS b c) : ltS a c := by
  rcases h with h | ⟨e, h | ⟨e2, h⟩⟩
  · rcases k with k | ⟨f, k⟩
    · exact .inl (by omega)
    · exact .inl (by omega)
  · rcases k with k | ⟨f, k | ⟨f2, k⟩⟩
    · exact .inl (by omega)
    · exact .inr ⟨by omega, .inl (List.lt_trans h k)⟩
    · exact .inr ⟨by omega, .inl (by rw [← f2]; exact h)⟩
  · rcases k with k | ⟨f, k | ⟨f2, k⟩⟩
    · exact .inl (by omega)
    · exact .inr ⟨by omega, .inl (by rw [e2]; exact k)⟩
    · exact .inr ⟨by omega, .inr ⟨e2.trans f2, by omega⟩⟩
theorem ltS_tri (a b : StepD) : ltS a b ∨ a = b ∨ ltS b a := by
  rcases Int.lt_trichotomy a.1 b.1 with h | h | h
  · exact .inl (.inl h)
  · by_cases h2 : a.2.1.cps.toList < b.2.1.cps.toList
    · exact .inl (.inr ⟨h, .inl h2⟩)
    · by_cases h3 : b.2.1.cps.toList < a.2.1.cps.toList
      · exact .inr (.inr (.inr ⟨h.symm, .inl h3⟩))
      · have e : a.2.1.cps.toList = b.2.1.cps.toList := List.le_antisymm (List.not_lt.mp h3) (List.not_lt.mp h2)
        have e2 : a.2.1 = b.2.1 := Str.ext' (Array.toList_inj.mp e)
        rcases Int.lt_trichotomy a.2.2 b.2.2 with h4 | h4 | h4
        · exact .inl (.inr ⟨h, .inr ⟨e2, h4⟩⟩)
        · exact .inr (.inl (by
            obtain ⟨x, y, z⟩ := a
            obtain ⟨x', y', z'⟩ := b
            simp only at h e2 h4
            rw [h, e2, h4]))
        · exact .inr (.inr (.inr ⟨h.symm, .inr ⟨e2.symm, h4⟩⟩))
  · exact .inr (.inr (.inl h))
theorem key_inj {n : Int} (hn : n ≤ 200) {a b : StepD} (oa : OkS n a) (ob : OkS n b) (h : keyS a = keyS b) : a = b := by
  rcases ltS_tri a b with k | k | k
  · exact absurd (key_lt hn oa ob k) (by rw [h]; exact List.lt_irrefl _)
  · exact k
  · exact absurd (key_lt hn ob oa k) (by rw [h]; exact List.lt_irrefl _)
/-- two rising rows of the same steps are one -/
theorem rows_eq : ∀ {xs ys : List StepD}, xs.Pairwise ltS → ys.Pairwise ltS → (∀ s, s ∈ xs ↔ s ∈ ys) → xs = ys
  | [], [], _, _, _ => rfl
  | [], y :: ys, _, _, h => absurd ((h y).mpr (List.mem_cons_self ..)) (by simp)
  | x :: xs, [], _, _, h => absurd ((h x).mp (List.mem_cons_self ..)) (by simp)
  | x :: xs, y :: ys, hx, hy, h => by
    rw [List.pairwise_cons] at hx hy
    have e : x = y := by
      rcases List.mem_cons.mp ((h x).mp (List.mem_cons_self ..)) with e | m
      · exact e
      · rcases List.mem_cons.mp ((h y).mpr (List.mem_cons_self ..)) with e | m2
        · exact e.symm
        · exact absurd (ltS_trans (hx.1 y m2) (hy.1 x m)) (ltS_irrefl _)
    subst e
    rw [rows_eq hx.2 hy.2 fun s => ⟨fun m => ?_, fun m => ?_⟩]
    · rcases List.mem_cons.mp ((h s).mp (List.mem_cons_of_mem _ m)) with e | m2
      · subst e
        exact absurd (hx.1 s m) (ltS_irrefl _)
      · exact m2
    · rcases List.mem_cons.mp ((h s).mpr (List.mem_cons_of_mem _ m)) with e | m2
      · subst e
        exact absurd (hy.1 s m) (ltS_irrefl _)
      · exact m2
end AE

set_option Elab.async false
set_option linter.all false
set_option maxRecDepth 100000
namespace AE
open PySem PySem.Spec PyProof.Rows L2 Evl
section
variable {X : Cx}
theorem pe_gi {x : Str} {i : Int} {t : Tok} {pos : Pos} (hg : Gl X x) (hm : X.mg x = some (.int i t)) (hd : (x == ("__debug__" : Str)) = false := by decide) : PE X (.Name x pos) (tC (.int i)) := pe_glob hg hm ⟨t, rfl⟩ hd
def SqA (K : PySem.W.Frag) (H : Hp) (a : Addr) (xs : List V) : Prop := SqL K H a xs ∨ SqT K H a xs
theorem SqA.ex {K : PySem.W.Frag} {H H' : Hp} {a : Addr} {xs : List V} (e : Ex H H') (h : SqA K H a xs) : SqA K H' a xs := h.imp (ex_l e) (ex_t e)
def iSeq (K : PySem.W.Frag) (te : TE) : TI := fun σ H R => iList K te σ H R ∨ iTup K te σ H R
theorem pi_seq {tg l : Expr} {tl : TE} (h : PE X l tl) : PI X tg l (iSeq X.K tl) := by
  refine ⟨fun pins s σ H R I q => ?_⟩
  rcases q with q | q
  · exact (pi_list h).run pins s σ H R I q
  · exact (pi_tup h).run pins s σ H R I q
end
section
variable {K : PySem.W.Frag} {σ : L2.St} {H : Hp} {Q : VK} {D : Ends} {te tk tv : TE} {t : TT} {tz : TS} {g : TG} {i : Nat} {a : Addr} {xs : List V}
/-- a for over the list or tuple in slot i -/
theorem for_seq (h0 : σ[i]? = some (some (.ref a))) (hx : SqA K H a xs) (Pv : Nat → L2.St → Hp → Prop) (hP : Pv 0 σ H) (hl : ∀ j σ' H', j ≤ xs.length → Pv j σ' H' → Ex H H')
    (hs : ∀ j x σ' H', xs[j]? = some x → Pv j σ' H' → g x σ' H' fun σ2 H2 => tz { D with nx := Pv (j + 1), ct := Pv (j + 1), bk := D.nx } σ2 H2)
    (hd : ∀ σ' H', Pv xs.length σ' H' → D.nx σ' H') : tFor (iSeq K (tVar i)) g tz D σ H := by
  rcases hx with hx | hx
  · exact .inl ⟨_, h0, a, rfl, ⟨xs, hx⟩, for_list Pv hP (fun j σ' H' hj p => ex_l (hl j σ' H' hj p) hx) hs hd⟩
  · exact .inr ⟨_, h0, a, rfl, ⟨xs, hx⟩, for_tup Pv hP (fun j σ' H' hj p => ex_t (hl j σ' H' hj p) hx) hs hd⟩
theorem for_t (h0 : σ[i]? = some (some (.ref a))) (hx : SqT K H a xs) (Pv : Nat → L2.St → Hp → Prop) (hP : Pv 0 σ H) (hl : ∀ j σ' H', j ≤ xs.length → Pv j σ' H' → SqT K H' a xs)
    (hs : ∀ j x σ' H', xs[j]? = some x → Pv j σ' H' → g x σ' H' fun σ2 H2 => tz { D with nx := Pv (j + 1), ct := Pv (j + 1), bk := D.nx } σ2 H2)
    (hd : ∀ σ' H', Pv xs.length σ' H' → D.nx σ' H') : tFor (iTup K (tVar i)) g tz D σ H :=
  ⟨_, h0, a, rfl, ⟨xs, hx⟩, for_tup Pv hP hl hs hd⟩
/-- the walk of a dict comprehension, keys ints or texts, over a list or tuple in slot i -/
theorem dc_seq {vs : List Nat} (h0 : σ[i]? = some (some (.ref a))) (hx : SqA K H a xs) (Pv : Addr → Nat → Hp → Prop) (hP : ∀ D, H D = none → Pv D 0 (upd H D (.dK []))) (hl : ∀ D j H', Pv D j H' → Ex H H')
    (hs : ∀ D j x H', xs[j]? = some x → Pv D j H' → g x (wipe σ vs) H' fun σ2 H2 => wipe σ2 vs = wipe σ vs ∧ t σ2 H2 fun b H3 =>
      if b = true then tk σ2 H3 fun y H4 => tv σ2 H4 fun z H5 => ∃ kvs k, y = kV k ∧ H5 D = some (.dK kvs) ∧ kvs.length < sizeLine ∧ Pv D (j + 1) (upd H5 D (.dK (putK kvs k z))) else Pv D (j + 1) H3)
    (hd : ∀ D H', Pv D xs.length H' → Q (.ref D) H') : tDc (iSeq K (tVar i)) g t tk tv vs σ H Q := by
  rcases hx with hx | hx
  · refine .inl ⟨_, h0, a, rfl, ⟨xs, hx⟩, fun D hD => ?_⟩
    refine ⟨fun j m H' => m = xs.length - j ∧ j ≤ xs.length ∧ Pv D j H', ⟨xs.length, by simp, Nat.zero_le _, hP D hD⟩, ?_⟩
    rintro j m H' ⟨rfl, hj, p⟩
    have q := ex_l (hl D j H' p) hx
    by_cases hlt : j < xs.length
    · refine .inr ⟨⟨xs, xs[j], q, by simp [hlt]⟩, Pv D (j + 1), fun H2 p2 => ⟨xs.length - (j + 1), by omega, rfl, hlt, p2⟩, fun x H2 y => ?_⟩
      obtain ⟨e, y⟩ := y
      subst e
      exact hs D j x _ (y xs q) p
    · have e : j = xs.length := by omega
      subst e
      exact .inl ⟨⟨xs, q, Nat.le_refl _⟩, hd D H' p⟩
  · exact .inr ⟨_, h0, a, rfl, ⟨xs, hx⟩, fun D hD => dc_tup (Pv D) (hP D hD) (fun j H' _ p => ex_t (hl D j H' p) hx) (hs D) (hd D)⟩
end
end AE

set_option Elab.async false
set_option linter.all false
set_option maxRecDepth 100000
namespace AE
open PySem PySem.Spec PyProof.Rows L2 Evl
section
variable {K : PySem.W.Frag} {σ : L2.St} {H : Hp} {Q : VK} {ta tb te : TE} {t : TT} {i j : Nat} {a : Addr} {xs : List V} {x y v : V} {J : It} {n : Nat} {G : Hp → Prop}
theorem r_andV (q : ta σ H fun x H1 => ∃ c, x = .bl c ∧ if c = true then tb σ H1 Q else Q (.bl false) H1) : tAndV ta tb σ H Q := q
theorem r_orV (q : ta σ H fun x H1 => ∃ c, x = .bl c ∧ if c = true then Q (.bl true) H1 else tb σ H1 Q) : tOrV ta tb σ H Q := q
theorem r_notV (q : ta σ H fun x H1 => ∃ c, x = .bl c ∧ Q (.bl (!c)) H1) : tNotV ta σ H Q := q
theorem r_ifE (q : t σ H fun c H1 => if c = true then ta σ H1 Q else tb σ H1 Q) : tIf t ta tb σ H Q := q
/-- a comprehension whose tests and items are values: what is made -/
theorem lcp {vs : List Nat} (w : Walk J n G (YAt xs)) (hn : n = xs.length) (hz : xs.length ≤ 1000000) {D : Addr} (hD : H D = none) (hG : ∀ H', Ex H H' → G H') (hw : ∀ x, wipe ((wipe σ vs).set j (some x)) vs = wipe σ vs) (p : V → Bool) (f : V → V)
    (ht : ∀ x ∈ xs, ∀ H1, Ex H H1 → ∀ R : Bool → Hp → Prop, (∀ H2, Ex H1 H2 → R (p x) H2) → t ((wipe σ vs).set j (some x)) H1 R)
    (he : ∀ x ∈ xs, p x = true → ∀ H1, Ex H H1 → ∀ R : VK, (∀ H2, Ex H1 H2 → R (f x) H2) → te ((wipe σ vs).set j (some x)) H1 R)
    {Qd : Hp → Prop} (k : ∀ H1, Ex H H1 → H1 D = some (.lst ((xs.filter p).map f)) → Qd H1) :
    ∃ W : Nat → Nat → Hp → Prop, (∃ m, W 0 m (upd H D (.lst []))) ∧ ∀ i m Ha, W i m Ha →
      (J.stop i Ha ∧ Qd Ha) ∨ (J.go i Ha ∧ ∃ Nx : Hp → Prop, (∀ Hb, Nx Hb → ∃ m', m' < m ∧ W (i + 1) m' Hb) ∧ ∀ x Hb, J.yld i Ha x Hb → gName j x (wipe σ vs) Hb fun σ2 Hc => wipe σ2 vs = wipe σ vs ∧ t σ2 Hc fun b Hd =>
        if b = true then te σ2 Hd fun y He => ∃ acc, He D = some (.lst acc) ∧ acc.length < sizeLine ∧ Nx (upd He D (.lst (acc ++ [y]))) else Nx Hd) := by
  have fl : ∀ m, ((xs.take m).filter p).length ≤ 1000000 := fun m => by
    have := List.length_filter_le p (xs.take m)
    have := List.length_take_le m xs
    have : (xs.take m).length ≤ xs.length := by rw [List.length_take]; omega
    omega
  refine lc_it w (fun m Ha => Ex H Ha ∧ Ha D = some (.lst (((xs.take m).filter p).map f))) ⟨Ex.new hD, upd_same⟩ (fun m Ha _ z => hG Ha z.1) ?_ fun Ha z => ?_
  · rintro m y Ha Hb hm ⟨e1, e2⟩ ⟨rfl, hy⟩
    have hin : y ∈ xs := List.mem_of_getElem? hy
    refine ⟨hw y, ht y hin Hb e1 _ fun Hc e3 => ?_⟩
    have tk : xs.take (m + 1) = xs.take m ++ [y] := by
      rw [List.take_add_one, hy]
      rfl
    cases hp : p y with
    | true =>
      refine ite_t rfl (he y hin hp Hc (e1.trans e3) _ fun Hd e4 => ?_)
      refine ⟨_, e4 _ _ (e3 _ _ e2), by rw [List.length_map]; exact sz_lt' (fl m), ex_upd ((e1.trans e3).trans e4) hD, ?_⟩
      rw [upd_same, tk, List.filter_append, List.filter_cons, if_pos hp, List.map_append]
      rfl
    | false =>
      refine ite_f rfl ⟨e1.trans e3, ?_⟩
      rw [e3 _ _ e2, tk, List.filter_append, List.filter_cons, if_neg (by rw [hp]; decide), List.filter_nil, List.append_nil]
  · refine k Ha z.1 ?_
    rw [z.2, hn, List.take_length]
where
  sz_lt' {n : Nat} (h : n ≤ 1000000) : n < sizeLine := Nat.lt_of_le_of_lt h (by decide)
/-- over a list that is read in slot i -/
theorem lc_l {vs : List Nat} (p : V → Bool) (f : V → V) (hv : ∀ R : VK, R (.ref a) H → ta σ H R) (hx : SqL K H a xs) (hz : xs.length ≤ 1000000) (hw : ∀ x, wipe ((wipe σ vs).set j (some x)) vs = wipe σ vs)
    (ht : ∀ x ∈ xs, ∀ H1, Ex H H1 → ∀ R : Bool → Hp → Prop, (∀ H2, Ex H1 H2 → R (p x) H2) → t ((wipe σ vs).set j (some x)) H1 R)
    (he : ∀ x ∈ xs, p x = true → ∀ H1, Ex H H1 → ∀ R : VK, (∀ H2, Ex H1 H2 → R (f x) H2) → te ((wipe σ vs).set j (some x)) H1 R)
    (k : ∀ D H1, H D = none → Ex H H1 → H1 D = some (.lst ((xs.filter p).map f)) → Q (.ref D) H1) : tLc (iList K ta) (gName j) t te vs σ H Q :=
  hv _ ⟨a, rfl, ⟨xs, hx⟩, fun D hD => lcp (walk_list (K := K) (a := a) (xs := xs)) rfl hz hD (fun _ e => ex_l e hx) hw p f ht he fun H1 e h => k D H1 hD e h⟩
theorem lc_t {vs : List Nat} (p : V → Bool) (f : V → V) (hv : ∀ R : VK, R (.ref a) H → ta σ H R) (hx : SqT K H a xs) (hz : xs.length ≤ 1000000) (hw : ∀ x, wipe ((wipe σ vs).set j (some x)) vs = wipe σ vs)
    (ht : ∀ x ∈ xs, ∀ H1, Ex H H1 → ∀ R : Bool → Hp → Prop, (∀ H2, Ex H1 H2 → R (p x) H2) → t ((wipe σ vs).set j (some x)) H1 R)
    (he : ∀ x ∈ xs, p x = true → ∀ H1, Ex H H1 → ∀ R : VK, (∀ H2, Ex H1 H2 → R (f x) H2) → te ((wipe σ vs).set j (some x)) H1 R)
    (k : ∀ D H1, H D = none → Ex H H1 → H1 D = some (.lst ((xs.filter p).map f)) → Q (.ref D) H1) : tLc (iTup K ta) (gName j) t te vs σ H Q :=
  hv _ ⟨a, rfl, ⟨xs, hx⟩, fun D hD => lcp (walk_tup (K := K) (a := a) (xs := xs)) rfl hz hD (fun _ e => ex_t e hx) hw p f ht he fun H1 e h => k D H1 hD e h⟩
def signsV (z : Str) : List V := z.cps.toList.map fun c => .str ⟨#[c]⟩
theorem lc_s {vs : List Nat} {z : Str} (p : V → Bool) (f : V → V) (hv : ∀ R : VK, R (.str z) H → ta σ H R) (hz : z.length ≤ 1000000) (hw : ∀ x, wipe ((wipe σ vs).set j (some x)) vs = wipe σ vs)
    (ht : ∀ x ∈ signsV z, ∀ H1, Ex H H1 → ∀ R : Bool → Hp → Prop, (∀ H2, Ex H1 H2 → R (p x) H2) → t ((wipe σ vs).set j (some x)) H1 R)
    (he : ∀ x ∈ signsV z, p x = true → ∀ H1, Ex H H1 → ∀ R : VK, (∀ H2, Ex H1 H2 → R (f x) H2) → te ((wipe σ vs).set j (some x)) H1 R)
    (k : ∀ D H1, H D = none → Ex H H1 → H1 D = some (.lst (((signsV z).filter p).map f)) → Q (.ref D) H1) : tLc (iStr ta) (gName j) t te vs σ H Q := by
  have ln : (signsV z).length = z.cps.size := by unfold signsV; rw [List.length_map, Array.length_toList]
  refine hv _ ⟨z, rfl, fun D hD => lcp (xs := signsV z) (walk_str.mono (G' := fun _ => True) (fun _ h => h) fun i Ha x Hb _ _ y => ?_) ln.symm (by rw [ln]; exact hz) hD (fun _ _ => trivial) hw p f ht he fun H1 e h => k D H1 hD e h⟩
  obtain ⟨e, c, hc, rfl⟩ := y
  refine ⟨e, ?_⟩
  unfold signsV
  rw [List.getElem?_map, Array.getElem?_toList, hc]
  rfl
def intsV (n : Nat) : List V := (List.range n).map fun (k : Nat) => V.int (k : Int)
theorem lc_r {vs : List Nat} {tn : TA} {n : Int} (p : V → Bool) (f : V → V) (hv : ∀ R : List V → Hp → Prop, R [.int n] H → tn σ H R) (hz : 0 ≤ n ∧ n ≤ 1000000) (hw : ∀ x, wipe ((wipe σ vs).set j (some x)) vs = wipe σ vs)
    (ht : ∀ x ∈ intsV n.toNat, ∀ H1, Ex H H1 → ∀ R : Bool → Hp → Prop, (∀ H2, Ex H1 H2 → R (p x) H2) → t ((wipe σ vs).set j (some x)) H1 R)
    (he : ∀ x ∈ intsV n.toNat, p x = true → ∀ H1, Ex H H1 → ∀ R : VK, (∀ H2, Ex H1 H2 → R (f x) H2) → te ((wipe σ vs).set j (some x)) H1 R)
    (k : ∀ D H1, H D = none → Ex H H1 → H1 D = some (.lst (((intsV n.toNat).filter p).map f)) → Q (.ref D) H1) : tLc (iRng1 tn) (gName j) t te vs σ H Q := by
  have ln : (intsV n.toNat).length = n.toNat := by unfold intsV; rw [List.length_map, List.length_range]
  refine hv _ ⟨n, rfl, by omega, by omega, fun D hD => lcp (xs := intsV n.toNat) ((walk_range (lo := 0) (n := n.toNat)).mono (G' := fun _ => True) (fun _ h => h) fun i Ha x Hb hi _ y => ?_) ln.symm (by rw [ln]; omega) hD (fun _ _ => trivial) hw p f ht he fun H1 e h => k D H1 hD e h⟩
  obtain ⟨e, rfl⟩ := y
  refine ⟨e, ?_⟩
  unfold intsV
  rw [List.getElem?_map, List.getElem?_range hi]
  show some (V.int (i : Int)) = some (V.int (0 + (i : Int)))
  rw [Int.zero_add]
theorem yes_t {xs : List V} {vs : List Nat} : ∀ x ∈ xs, ∀ H1, Ex H H1 → ∀ R : Bool → Hp → Prop, (∀ H2, Ex H1 H2 → R ((fun _ => true) x) H2) → tYes ((wipe σ vs).set j (some x)) H1 R := fun _ _ H1 _ _ k => k H1 (Ex.refl H1)
theorem filter_yes (l : List V) : l.filter (fun _ => true) = l := List.filter_eq_self.mpr fun _ _ => rfl
end
end AE

set_option Elab.async false
set_option linter.all false
set_option maxRecDepth 100000
namespace AE
open PySem PySem.Spec PyProof.Rows L2 Evl
section
variable {κ : Type} [DecidableEq κ]
theorem keys_put (kvs : List (κ × V)) (k : κ) (v : V) : (putK kvs k v).map (·.1) = if k ∈ kvs.map (·.1) then kvs.map (·.1) else kvs.map (·.1) ++ [k] := by
  unfold putK
  by_cases h : (kvs.any fun kv => decide (kv.1 = k)) = true
  · have m : k ∈ kvs.map (·.1) := by
      obtain ⟨p, hp, e⟩ := List.any_eq_true.mp h
      exact List.mem_map.mpr ⟨p, hp, of_decide_eq_true e⟩
    rw [if_pos h, if_pos m, List.map_map]
    refine List.map_congr_left fun p hp => ?_
    show (if p.1 = k then (p.1, v) else p).1 = p.1
    split <;> rfl
  · have m : ¬ k ∈ kvs.map (·.1) := fun m => by
      obtain ⟨p, hp, e⟩ := List.mem_map.mp m
      exact h (List.any_eq_true.mpr ⟨p, hp, decide_eq_true e⟩)
    rw [if_neg h, if_neg m, List.map_append]
    rfl
theorem nd_put {kvs : List (κ × V)} (k : κ) (v : V) (h : (kvs.map (·.1)).Nodup) : ((putK kvs k v).map (·.1)).Nodup := by
  rw [keys_put]
  split
  · exact h
  · rename_i m
    exact nd_snoc h m
theorem val_some {kvs : List (κ × V)} {k : κ} : (valV kvs k).isSome = true ↔ k ∈ kvs.map (·.1) := by
  rw [← valV_any]
  constructor
  · intro h
    obtain ⟨p, hp, e⟩ := List.any_eq_true.mp h
    exact List.mem_map.mpr ⟨p, hp, of_decide_eq_true e⟩
  · intro h
    obtain ⟨p, hp, e⟩ := List.mem_map.mp h
    exact List.any_eq_true.mpr ⟨p, hp, decide_eq_true e⟩
theorem len_put (kvs : List (κ × V)) (k : κ) (v : V) : (putK kvs k v).length ≤ kvs.length + 1 := length_putK kvs k v
end
theorem tx_dk {H : Hp} {D : Addr} {kvs : List (Key × V)} {o : HO} (h : H D = some (.dK kvs)) : Tx H (upd H D o) := fun a xs e => by
  rw [upd_ne (ne_of e h (by intro z; cases z))]
  exact e
theorem tx_dt {H : Hp} {D : Addr} {kvs : List (List Key × V)} {o : HO} (h : H D = some (.dT kvs)) : Tx H (upd H D o) := fun a xs e => by
  rw [upd_ne (ne_of e h (by intro z; cases z))]
  exact e
theorem tx_lst {H : Hp} {D : Addr} {ys : List V} {o : HO} (h : H D = some (.lst ys)) : Tx H (upd H D o) := fun a xs e => by
  rw [upd_ne (ne_of e h (by intro z; cases z))]
  exact e
section
variable {K : PySem.W.Frag} {σ : L2.St} {H : Hp} {Q : VK} {ta tb te : TE} {t : TT} {i j : Nat} {d : Addr} {kvs : List (Key × V)}
/-- back from under the lock -/
theorem ex_lock {H H1 : Hp} {d : Addr} {od : Obj} {u : HO} (h : H d = some u) (e : Ex (upd H d (.frz od u)) H1) : Ex H (upd H1 d u) := fun a o ha => by
  by_cases z : a = d
  · subst z
    rw [upd_same]
    rw [h] at ha
    exact ha
  · rw [upd_ne z]
    exact e a o (by rw [upd_ne z]; exact ha)
/-- [e for k in d], the items values -/
theorem lc_k {vs : List Nat} (f : V → V) (hv : ∀ H1, ∀ R : VK, R (.ref d) H1 → ta σ H1 R) (hd : H d = some (.dK kvs)) (hz : kvs.length ≤ 1000000) (hw : ∀ x, wipe ((wipe σ vs).set j (some x)) vs = wipe σ vs)
    (he : ∀ x ∈ kvs.map (fun kv => kV kv.1), ∀ H1, ∀ R : VK, R (f x) H1 → te ((wipe σ vs).set j (some x)) H1 R)
    (k : ∀ D H1, H D = none → Ex H H1 → H1 D = some (.lst ((kvs.map fun kv => kV kv.1).map f)) → Q (.ref D) H1) : tLockE (tLc (iKeys ta) (gName j) tYes te vs) σ H Q := by
  refine ⟨d, .dK kvs, hd, trivial, fun od => hv _ _ ⟨d, od, rfl, .inl ⟨kvs, upd_same, fun D hD => ?_⟩⟩⟩
  have hDd : D ≠ d := fun z => by subst z; rw [upd_same] at hD; cases hD
  have hD0 : H D = none := by rw [upd_ne hDd] at hD; exact hD
  refine lcp (H := upd H d (.frz od (.dK kvs))) (xs := kvs.map fun kv => kV kv.1) ((walk_keys (d := d) (o := od) (kvs := kvs)).mono (G' := fun Ha => Ha d = some (.frz od (.dK kvs))) (fun _ h => h) fun i Ha x Hb _ _ y => ?_) (List.length_map ..).symm (by rw [List.length_map]; exact hz) hD
    (fun Ha e => e d _ upd_same) hw (fun _ => true) f yes_t (fun x hx _ H1 e R k => he x hx H1 R (k H1 (Ex.refl H1))) fun H1 e h => ⟨e d _ upd_same, ?_⟩
  · obtain ⟨e, kk, v, hk, rfl⟩ := y
    refine ⟨e, ?_⟩
    rw [List.getElem?_map, hk]
    rfl
  · refine k D _ hD0 (ex_lock hd e) ?_
    rw [upd_ne hDd, h, filter_yes]
end
section
variable {K : PySem.W.Frag} {σ : L2.St} {H : Hp} {Q : VK} {ta tb te : TE} {t : TT} {i j : Nat} {a : Addr} {xs : List V}
theorem js_nil {acc : Str} {R : Str → Hp → Prop} (q : R acc H) : tJs [] acc σ H R := q
theorem yes_q {R : Bool → Hp → Prop} (q : R true H) : tYes σ H R := q
/-- what a comprehension over a list asks once the list is known -/
def LcL (K : PySem.W.Frag) (j : Nat) (t : TT) (te : TE) (vs : List Nat) (σ : L2.St) (Q : VK) : VK := fun x Ha => ∃ a, x = .ref a ∧ (∃ xs, SqL K Ha a xs) ∧ ∀ D, Ha D = none → ∃ W : Nat → Nat → Hp → Prop, (∃ m, W 0 m (upd Ha D (.lst []))) ∧ ∀ i m Hb, W i m Hb →
  ((Itl K a).stop i Hb ∧ Q (.ref D) Hb) ∨ ((Itl K a).go i Hb ∧ ∃ Nx : Hp → Prop, (∀ Hc, Nx Hc → ∃ m', m' < m ∧ W (i + 1) m' Hc) ∧ ∀ x Hc, (Itl K a).yld i Hb x Hc → gName j x (wipe σ vs) Hc fun σ2 Hd => wipe σ2 vs = wipe σ vs ∧ t σ2 Hd fun b He =>
    if b = true then te σ2 He fun y Hf => ∃ acc, Hf D = some (.lst acc) ∧ acc.length < sizeLine ∧ Nx (upd Hf D (.lst (acc ++ [y]))) else Nx He)
theorem r_lcL {vs : List Nat} (q : ta σ H (LcL K j t te vs σ Q)) : tLc (iList K ta) (gName j) t te vs σ H Q := q
theorem lcl_go {vs : List Nat} (p : V → Bool) (f : V → V) (hx : SqL K H a xs) (hz : xs.length ≤ 1000000) (hw : ∀ x, wipe ((wipe σ vs).set j (some x)) vs = wipe σ vs)
    (ht : ∀ x ∈ xs, ∀ H1, Ex H H1 → ∀ R : Bool → Hp → Prop, (∀ H2, Ex H1 H2 → R (p x) H2) → t ((wipe σ vs).set j (some x)) H1 R)
    (he : ∀ x ∈ xs, p x = true → ∀ H1, Ex H H1 → ∀ R : VK, (∀ H2, Ex H1 H2 → R (f x) H2) → te ((wipe σ vs).set j (some x)) H1 R)
    (k : ∀ D H1, H D = none → Ex H H1 → H1 D = some (.lst ((xs.filter p).map f)) → Q (.ref D) H1) : LcL K j t te vs σ Q (.ref a) H :=
  ⟨a, rfl, ⟨xs, hx⟩, fun D hD => lcp (walk_list (K := K) (a := a) (xs := xs)) rfl hz hD (fun _ e => ex_l e hx) hw p f ht he fun H1 e h => k D H1 hD e h⟩
end
/-! strings in order -/
theorem ltCps_eq : ∀ (a b : List Nat), ltCps a b = decide (a < b)
  | [], [] => by simp [ltCps]
  | [], b :: t => by simp [ltCps]
  | a :: r, [] => by simp [ltCps]
  | a :: r, b :: t => by
    unfold ltCps
    rw [ltCps_eq r t]
    by_cases h : a < b
    · simp [h, List.cons_lt_cons_iff]
    · by_cases h2 : a = b
      · subst h2
        simp [List.cons_lt_cons_iff]
      · simp [h, h2, List.cons_lt_cons_iff]
theorem sorted_pw : ∀ {ys : List Str}, sortedS ys = true → ys.Pairwise fun a b => ¬ b.cps.toList < a.cps.toList
  | [], _ => .nil
  | [y], _ => by simp
  | x :: y :: r, h => by
    have h1 : risingS x (y :: r) = true := h
    unfold risingS at h1
    rw [Bool.and_eq_true, ltCps_eq] at h1
    have ih := sorted_pw (ys := y :: r) h1.2
    have h2 : ¬ y.cps.toList < x.cps.toList := by simpa using h1.1
    rw [List.pairwise_cons]
    refine ⟨fun z hz => ?_, ih⟩
    rcases List.mem_cons.mp hz with rfl | hz
    · exact h2
    · rw [List.pairwise_cons] at ih
      exact fun q => List.not_lt.mpr (List.le_trans (List.not_lt.mp h2) (List.not_lt.mp (ih.1 z hz))) q
end AE

set_option Elab.async false
set_option linter.all false
set_option maxRecDepth 100000
namespace AE
open PySem PySem.Spec PyProof.Rows L2 Evl
section
variable {J : It} {n : Nat} {G : Hp → Prop} {Y : Nat → Hp → V → Hp → Prop} {g : TG} {t : TT} {tk tv te : TE} {vs : List Nat} {σ : L2.St} {H : Hp} {D : Addr} {Qd : Hp → Prop}
/-- a dict comprehension over any walk: keys tuples -/
theorem dcT_it (w : Walk J n G Y) (Pv : Nat → Hp → Prop) (h0 : Pv 0 (upd H D (.dT []))) (hG : ∀ i Ha, i ≤ n → Pv i Ha → G Ha)
    (hs : ∀ i x Ha Hb, i < n → Pv i Ha → Y i Ha x Hb → g x (wipe σ vs) Hb fun σ2 Hc => wipe σ2 vs = wipe σ vs ∧ t σ2 Hc fun b Hd =>
      if b = true then tk σ2 Hd fun y He => tv σ2 He fun z Hf => sT D y z Hf (Pv (i + 1)) else Pv (i + 1) Hd) (hd : ∀ Ha, Pv n Ha → Qd Ha) :
    ∃ W : Nat → Nat → Hp → Prop, (∃ m, W 0 m (upd H D (.dT []))) ∧ ∀ i m Ha, W i m Ha →
      (J.stop i Ha ∧ Qd Ha) ∨ (J.go i Ha ∧ ∃ Nx : Hp → Prop, (∀ Hb, Nx Hb → ∃ m1, m1 < m ∧ W (i + 1) m1 Hb) ∧ ∀ x Hb, J.yld i Ha x Hb → g x (wipe σ vs) Hb fun σ2 Hc => wipe σ2 vs = wipe σ vs ∧ t σ2 Hc fun b Hd =>
        if b = true then tk σ2 Hd fun y He => tv σ2 He fun z Hf => sT D y z Hf Nx else Nx Hd) := by
  refine ⟨fun i m Ha => m + i = n ∧ Pv i Ha, ⟨n, by omega, h0⟩, ?_⟩
  rintro i m Ha ⟨hm, p⟩
  have q := hG i Ha (by omega) p
  by_cases hlt : i < n
  · exact .inr ⟨w.goes i Ha hlt q, Pv (i + 1), fun Hb p1 => ⟨m - 1, by omega, by omega, p1⟩, fun x Hb y => hs i x Ha Hb hlt p (w.yields i Ha x Hb hlt q y)⟩
  · obtain rfl : i = n := by omega
    exact .inl ⟨w.stops Ha q, hd Ha p⟩
/-- .. keys ints or texts -/
theorem dcK_it (w : Walk J n G Y) (Pv : Nat → Hp → Prop) (h0 : Pv 0 (upd H D (.dK []))) (hG : ∀ i Ha, i ≤ n → Pv i Ha → G Ha)
    (hs : ∀ i x Ha Hb, i < n → Pv i Ha → Y i Ha x Hb → g x (wipe σ vs) Hb fun σ2 Hc => wipe σ2 vs = wipe σ vs ∧ t σ2 Hc fun b Hd =>
      if b = true then tk σ2 Hd fun y He => tv σ2 He fun z Hf => ∃ kvs k, y = kV k ∧ Hf D = some (.dK kvs) ∧ kvs.length < sizeLine ∧ Pv (i + 1) (upd Hf D (.dK (putK kvs k z))) else Pv (i + 1) Hd) (hd : ∀ Ha, Pv n Ha → Qd Ha) :
    ∃ W : Nat → Nat → Hp → Prop, (∃ m, W 0 m (upd H D (.dK []))) ∧ ∀ i m Ha, W i m Ha →
      (J.stop i Ha ∧ Qd Ha) ∨ (J.go i Ha ∧ ∃ Nx : Hp → Prop, (∀ Hb, Nx Hb → ∃ m1, m1 < m ∧ W (i + 1) m1 Hb) ∧ ∀ x Hb, J.yld i Ha x Hb → g x (wipe σ vs) Hb fun σ2 Hc => wipe σ2 vs = wipe σ vs ∧ t σ2 Hc fun b Hd =>
        if b = true then tk σ2 Hd fun y He => tv σ2 He fun z Hf => ∃ kvs k, y = kV k ∧ Hf D = some (.dK kvs) ∧ kvs.length < sizeLine ∧ Nx (upd Hf D (.dK (putK kvs k z))) else Nx Hd) := by
  refine ⟨fun i m Ha => m + i = n ∧ Pv i Ha, ⟨n, by omega, h0⟩, ?_⟩
  rintro i m Ha ⟨hm, p⟩
  have q := hG i Ha (by omega) p
  by_cases hlt : i < n
  · exact .inr ⟨w.goes i Ha hlt q, Pv (i + 1), fun Hb p1 => ⟨m - 1, by omega, by omega, p1⟩, fun x Hb y => hs i x Ha Hb hlt p (w.yields i Ha x Hb hlt q y)⟩
  · obtain rfl : i = n := by omega
    exact .inl ⟨w.stops Ha q, hd Ha p⟩
end
/-! ### rows grouped -/
/-- a dict of lists: at each key the list of the values that f gives of the row's members with that key -/
structure Grp {κ : Type} [DecidableEq κ] (H0 H : Hp) (kvs : List (κ × V)) (G : κ → List V) : Prop where
  nd : (kvs.map (·.1)).Nodup
  val : ∀ k v, valV kvs k = some v → ∃ l, v = .ref l ∧ H l = some (.lst (G k)) ∧ H0 l = none ∧ G k ≠ []
  has : ∀ k, G k ≠ [] → (valV kvs k).isSome = true
  inj : ∀ k k' l, valV kvs k = some (.ref l) → valV kvs k' = some (.ref l) → k = k'
section
variable {κ : Type} [DecidableEq κ] {H0 H H' : Hp} {kvs : List (κ × V)} {G : κ → List V}
theorem Grp.nil (h : ∀ k, G k = []) : Grp H0 H ([] : List (κ × V)) G := ⟨List.nodup_nil, fun _ _ h => (by cases h), fun k e => absurd (h k) e, fun _ _ _ h => (by cases h)⟩
theorem Grp.mono (g : Grp H0 H kvs G) (e : ∀ l xs, H l = some (.lst xs) → H' l = some (.lst xs)) : Grp H0 H' kvs G :=
  ⟨g.nd, fun k v h => by obtain ⟨l, a, b, c⟩ := g.val k v h; exact ⟨l, a, e l _ b, c⟩, g.has, g.inj⟩
/-- one more at a key that is there -/
theorem Grp.more {k : κ} {l : Addr} {x : V} (g : Grp H0 H kvs G) (h : valV kvs k = some (.ref l)) (e : ∀ a xs, a ≠ l → H a = some (.lst xs) → H' a = some (.lst xs)) (hl : H' l = some (.lst (G k ++ [x]))) : Grp H0 H' kvs fun k' => if k' = k then G k ++ [x] else G k' := by
  obtain ⟨l1, e1, _, h0, _⟩ := g.val k _ h
  cases e1
  refine ⟨g.nd, fun k' v hv => ?_, fun k' hk => ?_, g.inj⟩
  · obtain ⟨l2, rfl, h2, h3, h4⟩ := g.val k' v hv
    by_cases z : k' = k
    · subst z
      rw [h] at hv
      cases hv
      exact ⟨l, rfl, by rw [if_pos rfl]; exact hl, h3, by rw [if_pos rfl]; simp⟩
    · refine ⟨l2, rfl, ?_, h3, by rw [if_neg z]; exact h4⟩
      rw [if_neg z]
      exact e _ _ (fun q => z (g.inj k' k l (by rw [hv, q]) h)) h2
  · by_cases z : k' = k
    · subst z
      rw [h]
      rfl
    · rw [if_neg z] at hk
      exact g.has k' hk
/-- a new key -/
theorem Grp.new {k : κ} {l : Addr} {x : V} (g : Grp H0 H kvs G) (h : valV kvs k = none) (hn : H l = none) (hl0 : H0 l = none) (e : ∀ a xs, a ≠ l → H a = some (.lst xs) → H' a = some (.lst xs)) (hl : H' l = some (.lst [x])) : Grp H0 H' (putK kvs k (.ref l)) fun k' => if k' = k then G k ++ [x] else G k' := by
  have gk : G k = [] := by
    by_cases z : G k = []
    · exact z
    · have := g.has k z
      rw [h] at this
      cases this
  refine ⟨nd_put _ _ g.nd, fun k' v hv => ?_, fun k' hk => ?_, fun a b m ha hb => ?_⟩
  · rw [valV_put] at hv
    by_cases z : k' = k
    · subst z
      rw [if_pos rfl] at hv
      cases hv
      exact ⟨l, rfl, by rw [if_pos rfl, gk]; exact hl, hl0, by rw [if_pos rfl]; simp⟩
    · rw [if_neg z] at hv
      obtain ⟨l2, rfl, h2, h3, h4⟩ := g.val k' v hv
      exact ⟨l2, rfl, by rw [if_neg z]; exact e _ _ (fun q => by rw [q, hn] at h2; cases h2) h2, h3, by rw [if_neg z]; exact h4⟩
  · rw [valV_put]
    by_cases z : k' = k
    · rw [if_pos z]
      rfl
    · rw [if_neg z] at hk ⊢
      exact g.has k' hk
  · have old : ∀ c, valV kvs c = some (.ref m) → m ≠ l := fun c hc q => by
      obtain ⟨l2, e2, h2, _⟩ := g.val c _ hc
      cases e2
      rw [q, hn] at h2
      cases h2
    rw [valV_put] at ha hb
    by_cases za : a = k
    · by_cases zb : b = k
      · rw [za, zb]
      · rw [if_pos za] at ha
        rw [if_neg zb] at hb
        cases ha
        exact absurd rfl (old b hb)
    · rw [if_neg za] at ha
      by_cases zb : b = k
      · rw [if_pos zb] at hb
        cases hb
        exact absurd rfl (old a ha)
      · rw [if_neg zb] at hb
        exact g.inj a b m ha hb
/-- the same, each list a tuple: what a machine keeps -/
def GrpT (H : Hp) (kvs : List (κ × V)) (G : κ → List V) : Prop := ∀ k, (G k = [] → valV kvs k = none) ∧ (G k ≠ [] → ∃ p, valV kvs k = some (.ref p) ∧ H p = some (.tup (G k)))
theorem GrpT.tx {kvs : List (κ × V)} (e : Tx H H') (g : GrpT H kvs G) : GrpT H' kvs G := fun k => ⟨(g k).1, fun h => by obtain ⟨p, a, b⟩ := (g k).2 h; exact ⟨p, a, e _ _ b⟩⟩
end
def endsF (rows : List StepD) (k : List Key) : List V := (rows.filter fun s => decide ([.inl s.1, .inr s.2.1] = k)).map fun s => .int s.2.2
theorem endsF_snoc (rows : List StepD) (s : StepD) (k : List Key) : endsF (rows ++ [s]) k = if k = [.inl s.1, .inr s.2.1] then endsF rows [.inl s.1, .inr s.2.1] ++ [.int s.2.2] else endsF rows k := by
  unfold endsF
  rw [List.filter_append, List.map_append]
  by_cases h : k = [.inl s.1, .inr s.2.1]
  · rw [if_pos h, h, List.filter_cons, if_pos (decide_eq_true rfl)]
    rfl
  · rw [if_neg h, List.filter_cons, if_neg (by rw [decide_eq_false (fun q => h q.symm)]; decide)]
    simp
end AE

set_option Elab.async false
set_option linter.all false
set_option maxRecDepth 100000
namespace AE
open PySem PySem.Spec PyProof.Rows L2 Evl
/-! the rules that speak of the written part, told for a block -/
section
variable {X : Cx} {K : PySem.W.Frag}
theorem opAddK (h : X.K = K := by rfl) : OpR X (binaryOp .Add) (rAddA K) := by subst h; exact opAdd
theorem c_lenK (h : X.K = K := by rfl) : CallR X (.builtin "len") (cLen K) := by subst h; exact c_len
theorem c_listK (h : X.K = K := by rfl) : CallR X (.type "list") (cList K) := by subst h; exact c_list
theorem c_tupleK (h : X.K = K := by rfl) : CallR X (.type "tuple") (cTup K) := by subst h; exact c_tuple
theorem c_isinstanceK (h : X.K = K := by rfl) : CallR X (.builtin "isinstance") (rIsi K) := by subst h; exact c_isinstance
theorem ix_seqK (h : X.K = K := by rfl) : IxR X (rIx K) := by subst h; exact ix_seq
theorem sl_listK (h : X.K = K := by rfl) : SlR X (rSlL K) := by subst h; exact sl_list
theorem op_in_seqK (h : X.K = K := by rfl) : OpR X (compareOp .In) (rIn K false) := by subst h; exact op_in_seq
theorem op_notIn_seqK (h : X.K = K := by rfl) : OpR X (compareOp .NotIn) (rIn K true) := by subst h; exact op_notIn_seq
theorem op_inDK (hu : X.A.units + 65 < cLine) (h : X.K = K := by rfl) : OpR X (compareOp .In) (rInD K) := by subst h; exact op_inD hu
theorem op_eqDK (hu : X.A.units + 64 < cLine) (h : X.K = K := by rfl) : OpR X (compareOp .Eq) (rEqD K) := by subst h; exact op_eqD hu
theorem op_neDK (hu : X.A.units + 64 < cLine) (h : X.K = K := by rfl) : OpR X (compareOp .NotEq) (rNeD K) := by subst h; exact op_neD hu
theorem pe_fldK {e : Expr} {ta : TE} {f : Str} {pos : Pos} (he : PE X e ta) (hb : attributeBase e f X.env (eval e X.env) = eval e X.env) (h : X.K = K := by rfl) : PE X (.Attribute e f pos) (tFld K ta f) := by subst h; exact pe_fld he hb
end
end AE

set_option Elab.async false
set_option linter.all false
set_option maxRecDepth 100000
namespace AE
open PySem PySem.Spec PyProof.Rows L2 Evl
section
variable {K : PySem.W.Frag} {σ : L2.St} {H H0 : Hp} {Q : VK} {d : Addr} {i j : Nat} {vs : List Nat}
theorem grp_tupT {kvs : List (List Key × V)} {G : List Key → List V} (hi : σ[i]? = some (some (.ref d))) (hi2 : ∀ x, ((wipe σ vs).set j (some x))[i]? = some (some (.ref d))) (hj : ∀ x, ((wipe σ vs).set j (some x))[j]? = some (some x))
    (hw : ∀ x, wipe ((wipe σ vs).set j (some x)) vs = wipe σ vs) (hd : H d = some (.dT kvs)) (g : Grp H0 H kvs G) (kl : kvs.length ≤ 1000)
    (k : ∀ p H1, H p = none → Ex H H1 → (∃ k2, H1 p = some (.dT k2) ∧ GrpT H1 k2 G) → Q (.ref p) H1) :
    tLockE (tDcT (iKeys (tVar i)) (gName j) tYes (tVar j) (tCB (cTup K) (tCons (tDGet (tVar i) (tVar j)) tNil)) vs) σ H Q := by
  refine ⟨d, .dT kvs, hd, trivial, fun od => ⟨_, hi, d, od, rfl, .inr ⟨kvs, upd_same, fun D hD => ?_⟩⟩⟩
  have hDd : D ≠ d := fun z => by subst z; rw [upd_same] at hD; cases hD
  have hD0 : H D = none := by rw [upd_ne hDd] at hD; exact hD
  have old : ∀ {Ha : Hp} {a : Addr} {o : HO}, Ex (upd H d (.frz od (.dT kvs))) Ha → a ≠ d → H a = some o → Ha a = some o := fun e z h => e _ _ (by rw [upd_ne z]; exact h)
  refine dcT_it (walk_keysT (d := d) (o := od) (kvs := kvs)) (fun m Ha => Ex (upd H d (.frz od (.dT kvs))) Ha ∧ ∃ k2, Ha D = some (.dT k2) ∧ k2.length ≤ m ∧ (∀ k v, valV k2 k = some v → ∃ p, v = .ref p ∧ Ha p = some (.tup (G k)) ∧ G k ≠ []) ∧ ∀ kv ∈ kvs.take m, (valV k2 kv.1).isSome = true)
    ⟨Ex.new hD, [], upd_same, Nat.le_refl _, fun _ _ h => (by cases h), fun _ h => (by cases h)⟩ (fun m Ha _ p => p.1 d _ upd_same) ?_ ?_
  · rintro m x Ha Hb hm ⟨e, k2, hk2, kl2, val, has⟩ ⟨rfl, kk, v0, q, hkv, rfl, hq⟩
    have fz := e d _ upd_same
    refine ⟨hw _, yes_q (ite_t rfl ⟨_, hj _, ?_⟩)⟩
    obtain ⟨v, hv⟩ := Option.isSome_iff_exists.mp (val_some.mpr (List.mem_map.mpr ⟨(kk, v0), List.mem_of_getElem? hkv, rfl⟩))
    obtain ⟨l, rfl, hl, hl0, ne⟩ := g.val kk v hv
    have ld : l ≠ d := ne_of hl hd (by intro z; cases z)
    refine ⟨_, hi2 _, _, hj _, d, .ref l, rfl, .inr ⟨kvs, kk, q, .inr ⟨od, fz⟩, rfl, hq, hv.symm⟩, l, G kk, rfl, .inl ⟨.inl (.inl (old e ld hl)), fun p hp => ?_⟩⟩
    have hqp : q ≠ p := ne_of_none hq hp
    have hDp : D ≠ p := ne_of_none hk2 hp
    have hk3 : (upd Hb p (.tup (G kk))) D = some (.dT k2) := by rw [upd_ne hDp]; exact hk2
    refine ⟨k2, kk, q, rfl, by rw [upd_ne hqp]; exact hq, hk3, sz_lt (by omega), ex_upd (e.trans (Ex.new hp)) hD, _, upd_same, Nat.le_trans (len_put _ _ _) (by omega), fun k' v' h' => ?_, fun kv hkv' => ?_⟩
    · rw [valV_put] at h'
      by_cases z : k' = kk
      · rw [if_pos z] at h'
        cases h'
        exact ⟨p, rfl, by rw [upd_ne hDp.symm, upd_same, z], by rw [z]; exact ne⟩
      · rw [if_neg z] at h'
        obtain ⟨p', a1, a2, a3⟩ := val k' v' h'
        refine ⟨p', a1, tx_dt hk3 _ _ (Ex.new hp _ _ a2), a3⟩
    · rw [valV_put]
      by_cases z : kv.1 = kk
      · rw [if_pos z]
        rfl
      · rw [if_neg z]
        rw [List.take_add_one, hkv] at hkv'
        rcases List.mem_append.mp hkv' with h | h
        · exact has kv h
        · exact absurd (by rw [List.mem_singleton.mp h]) z
  · rintro Ha ⟨e, k2, hk2, kl2, val, has⟩
    rw [List.take_length] at has
    refine ⟨e d _ upd_same, k D _ hD0 (ex_lock hd e) ⟨k2, by rw [upd_ne hDd]; exact hk2, fun k' => ⟨fun z => ?_, fun z => ?_⟩⟩⟩
    · cases hh : valV k2 k' with
      | none => rfl
      | some v =>
        obtain ⟨_, _, _, n⟩ := val k' v hh
        exact absurd z n
    · obtain ⟨kv, hkv, rfl⟩ := List.mem_map.mp (val_some.mp (g.has k' z))
      obtain ⟨v, hv⟩ := Option.isSome_iff_exists.mp (has kv hkv)
      obtain ⟨p, rfl, hp, _⟩ := val _ v hv
      exact ⟨p, hv, by rw [upd_ne (fun z => by subst z; rw [e _ _ upd_same] at hp; cases hp)]; exact hp⟩
theorem grp_tupK {kvs : List (Key × V)} {G : Key → List V} (hu : True) (hi : σ[i]? = some (some (.ref d))) (hi2 : ∀ x, ((wipe σ vs).set j (some x))[i]? = some (some (.ref d))) (hj : ∀ x, ((wipe σ vs).set j (some x))[j]? = some (some x))
    (hw : ∀ x, wipe ((wipe σ vs).set j (some x)) vs = wipe σ vs) (hd : H d = some (.dK kvs)) (g : Grp H0 H kvs G) (kl : kvs.length ≤ 1000)
    (k : ∀ p H1, H p = none → Ex H H1 → (∃ k2, H1 p = some (.dK k2) ∧ GrpT H1 k2 G) → Q (.ref p) H1) :
    tLockE (tDc (iKeys (tVar i)) (gName j) tYes (tVar j) (tCB (cTup K) (tCons (tDGet (tVar i) (tVar j)) tNil)) vs) σ H Q := by
  refine ⟨d, .dK kvs, hd, trivial, fun od => ⟨_, hi, d, od, rfl, .inl ⟨kvs, upd_same, fun D hD => ?_⟩⟩⟩
  have hDd : D ≠ d := fun z => by subst z; rw [upd_same] at hD; cases hD
  have hD0 : H D = none := by rw [upd_ne hDd] at hD; exact hD
  have old : ∀ {Ha : Hp} {a : Addr} {o : HO}, Ex (upd H d (.frz od (.dK kvs))) Ha → a ≠ d → H a = some o → Ha a = some o := fun e z h => e _ _ (by rw [upd_ne z]; exact h)
  refine dcK_it (walk_keys (d := d) (o := od) (kvs := kvs)) (fun m Ha => Ex (upd H d (.frz od (.dK kvs))) Ha ∧ ∃ k2, Ha D = some (.dK k2) ∧ k2.length ≤ m ∧ (∀ k v, valV k2 k = some v → ∃ p, v = .ref p ∧ Ha p = some (.tup (G k)) ∧ G k ≠ []) ∧ ∀ kv ∈ kvs.take m, (valV k2 kv.1).isSome = true)
    ⟨Ex.new hD, [], upd_same, Nat.le_refl _, fun _ _ h => (by cases h), fun _ h => (by cases h)⟩ (fun m Ha _ p => p.1 d _ upd_same) ?_ ?_
  · rintro m x Ha Hb hm ⟨e, k2, hk2, kl2, val, has⟩ ⟨rfl, kk, v0, hkv, rfl⟩
    have fz := e d _ upd_same
    refine ⟨hw _, yes_q (ite_t rfl ⟨_, hj _, ?_⟩)⟩
    obtain ⟨v, hv⟩ := Option.isSome_iff_exists.mp (val_some.mpr (List.mem_map.mpr ⟨(kk, v0), List.mem_of_getElem? hkv, rfl⟩))
    obtain ⟨l, rfl, hl, hl0, ne⟩ := g.val kk v hv
    have ld : l ≠ d := ne_of hl hd (by intro z; cases z)
    refine ⟨_, hi2 _, _, hj _, d, .ref l, rfl, .inl ⟨kvs, kk, .inr ⟨od, fz⟩, rfl, hv.symm⟩, l, G kk, rfl, .inl ⟨.inl (.inl (old e ld hl)), fun p hp => ?_⟩⟩
    have hDp : D ≠ p := ne_of_none hk2 hp
    have hk3 : (upd Hb p (.tup (G kk))) D = some (.dK k2) := by rw [upd_ne hDp]; exact hk2
    refine ⟨k2, kk, rfl, hk3, sz_lt (by omega), ex_upd (e.trans (Ex.new hp)) hD, _, upd_same, Nat.le_trans (len_put _ _ _) (by omega), fun k' v' h' => ?_, fun kv hkv' => ?_⟩
    · rw [valV_put] at h'
      by_cases z : k' = kk
      · rw [if_pos z] at h'
        cases h'
        exact ⟨p, rfl, by rw [upd_ne hDp.symm, upd_same, z], by rw [z]; exact ne⟩
      · rw [if_neg z] at h'
        obtain ⟨p', a1, a2, a3⟩ := val k' v' h'
        exact ⟨p', a1, tx_dk hk3 _ _ (Ex.new hp _ _ a2), a3⟩
    · rw [valV_put]
      by_cases z : kv.1 = kk
      · rw [if_pos z]
        rfl
      · rw [if_neg z]
        rw [List.take_add_one, hkv] at hkv'
        rcases List.mem_append.mp hkv' with h | h
        · exact has kv h
        · exact absurd (by rw [List.mem_singleton.mp h]) z
  · rintro Ha ⟨e, k2, hk2, kl2, val, has⟩
    rw [List.take_length] at has
    refine ⟨e d _ upd_same, k D _ hD0 (ex_lock hd e) ⟨k2, by rw [upd_ne hDd]; exact hk2, fun k' => ⟨fun z => ?_, fun z => ?_⟩⟩⟩
    · cases hh : valV k2 k' with
      | none => rfl
      | some v =>
        obtain ⟨_, _, _, n⟩ := val k' v hh
        exact absurd z n
    · obtain ⟨kv, hkv, rfl⟩ := List.mem_map.mp (val_some.mp (g.has k' z))
      obtain ⟨v, hv⟩ := Option.isSome_iff_exists.mp (has kv hkv)
      obtain ⟨p, rfl, hp, _⟩ := val _ v hv
      exact ⟨p, hv, by rw [upd_ne (fun z => by subst z; rw [e _ _ upd_same] at hp; cases hp)]; exact hp⟩
end
/-- pairs of a state -/
def pairD (s : StepD) : List V := [.str s.2.1, .int s.2.2]
end AE

set_option Elab.async false
set_option linter.all false
set_option maxRecDepth 100000
namespace AE
open PySem PySem.Spec PyProof.Rows L2 Evl
section
variable {K : PySem.W.Frag} {σ : L2.St} {H : Hp} {Q : VK} {D : Ends} {ta tv : TE} {f : Str} {a C dx : Addr} {fs : List (Str × V)} {v : V} {i : Nat}
def StF (K : PySem.W.Frag) (f : Str) (x y : V) (H : Hp) (R : Hp → Prop) : Prop := ∃ a C dx fs, x = .ref a ∧ H a = some (.ins C dx fs) ∧ Cls K C ∧ NoAttr K C f ∧ fs.length < 1000 ∧ R (upd H a (.ins C dx (putF f y fs)))
theorem r_fld (q : tv σ H fun y H1 => ta σ H1 fun x H2 => StF K f x y H2 (D.nx σ)) : sFld K ta tv f D σ H := q
theorem stf_go {R : Hp → Prop} (h : H a = some (.ins C dx fs)) (c : Cls K C) (n : NoAttr K C f) (l : fs.length < 1000) (q : ∀ H1, Ch a H H1 → H1 a = some (.ins C dx (putF f v fs)) → R H1) : StF K f (.ref a) v H R :=
  ⟨a, C, dx, fs, rfl, h, c, n, l, q _ ch_upd upd_same⟩
def GtF (K : PySem.W.Frag) (f : Str) (x : V) (H : Hp) (Q : VK) : Prop := ∃ a C dx fs v, x = .ref a ∧ H a = some (.ins C dx fs) ∧ Cls K C ∧ NoAttr K C f ∧ fs.lookup f = some v ∧ Q v H
theorem r_get (q : ta σ H fun x H1 => GtF K f x H1 Q) : tFld K ta f σ H Q := q
theorem gtf_go (h : H a = some (.ins C dx fs)) (c : Cls K C) (n : NoAttr K C f) (e : fs.lookup f = some v) (q : Q v H) : GtF K f (.ref a) H Q := ⟨a, C, dx, fs, v, rfl, h, c, n, e, q⟩
theorem r_dget2 {td ty tx : TE} (q : td σ H fun x H1 => ∃ a, x = .ref a ∧ IsD H1 a ∧ ty σ H1 fun y H2 => tx σ H2 fun z H3 => ∃ o, DGet H3 a y o ∧ Q (o.getD z) H3) : tDGet2 td ty tx σ H Q := q
/-- k in d, by what stands there -/
theorem r_din {td ty : TE} (q : ty σ H fun y H1 => td σ H1 fun x H2 => ∃ a o, x = .ref a ∧ DGet H2 a y o ∧ Q (.bl o.isSome) H2) : tDIn ty td σ H Q := q
theorem tup_l {p : Addr} {xs : List V} (h : SqL K H p xs) (q : ∀ l H1, H l = none → Ex H H1 → H1 l = some (.tup xs) → Q (.ref l) H1) : cTup K [.ref p] H Q := ⟨p, xs, rfl, .inl ⟨h, fun l hl => q l _ hl (Ex.new hl) upd_same⟩⟩
theorem list_s {p : Addr} {xs : List V} (h : SqL K H p xs ∨ SqT K H p xs) (q : ∀ l H1, H l = none → Ex H H1 → H1 l = some (.lst xs) → Q (.ref l) H1) : cList K [.ref p] H Q := ⟨p, xs, rfl, h, fun l hl => q l _ hl (Ex.new hl) upd_same⟩
end
end AE

set_option Elab.async false
set_option linter.all false
set_option maxRecDepth 100000
set_option maxHeartbeats 2000000
namespace AE
open PySem PySem.Spec PyProof.Rows L2 Evl
/-! ### own operators -/
section
variable {prog : Program} {w : World} {A : Around} {E : Value → Shared → Prop} {s : Shared} {K : PySem.W.Frag} {x C f : Addr} {ox : Obj} {odd : Option Obj}
theorem truthy_at {M : Model} {Q : Bool → Shared → Prop} (X : K.In s.heap) (I : PySem.W.InstAt s.heap x ox C odd) (hs : PySem.W.findIn K (.ref C) "__bool__" = some (some (.ref f))) (hf : PySem.W.isFn K (.ref f) = true)
    (h : wpAny M A (call (.ref f) [.ref x]) (fun r s1 => ∃ b, r = Value.bool b ∧ Q b s1) E s) : wpAny M A (truthy (.ref x)) Q E s := by
  unfold truthy
  refine wpAny_bind (m := callSpecial? (.ref x) (Str.ofString "__bool__")) (PySem.W.special_fn X I hs (beq_iff_eq.mp hf) (wpAny_mono h (fun r s1 hr => ?_) fun _ _ y => y))
  obtain ⟨b, rfl, q⟩ := hr
  exact wpAny_pure q
/-- bool(x) by an own __bool__ -/
theorem bool_at {Q : Value → Shared → Prop} (X : K.In s.heap) (I : PySem.W.InstAt s.heap x ox C odd) (hs : PySem.W.findIn K (.ref C) "__bool__" = some (some (.ref f))) (hf : PySem.W.isFn K (.ref f) = true)
    (h : wpAny (model prog w) A.in1.in1 (call (.ref f) [.ref x]) (fun r s1 => ∃ b, r = Value.bool b ∧ Q (.bool b) s1) E s) : wpAny (model prog w) A (call (.type "bool") [.ref x]) Q E s := by
  refine callType_codes (T := "bool") (Bi := Builtin.«object.__init__») (Q₁ := fun r s1 => ∃ b, r = Value.bool b ∧ Q r s1) PySem.F.called_bool (PySem.F.typeCall_bool_1 _) PySem.F.entry_object_init ?_ ?_
  · refine codeAny_of_tree ?_
    show wpAny _ A.in1.in1 (do checkBuiltinCall "bool.__new__" ⟨[.type "bool", .ref x], []⟩; again (.builtin "bool.__new__" ⟨[.type "bool", .ref x], []⟩)) _ _ s
    refine wpAny_bind (wpAny_of_eq (PySem.F.newCall_bool_1 _) (wpAny_pure ⟨plainId_quiet (by decide +kernel) _, codeAny_builtin PySem.F.entry_bool_new ?_⟩))
    rw [Around.under_plainId (by decide +kernel) _]
    unfold Builtin.«bool.__new__»
    refine wpAny_bind (wpAny_of_eq (a := true) (by kernel_rfl) ?_)
    refine PySem.W.KFB.if_not rfl ?_
    refine wpAny_bind (wpAny_of_eq (a := true) (by rw [isSubtype_type]; kernel_rfl) ?_)
    refine PySem.W.KFB.if_not rfl ?_
    refine wpAny_bind (wpAny_of_eq (a := [Value.ref x]) (by rfl) ?_)
    refine wpAny_bind (truthy_at X I hs hf (wpAny_mono h (fun r s1 hr => ?_) fun _ _ y => y))
    obtain ⟨b, rfl, q⟩ := hr
    exact ⟨b, rfl, wpAny_pure ⟨b, rfl, q⟩⟩
  · rintro obj s1 ⟨b, rfl, q⟩
    exact ⟨rfl, PySem.F.args_object_init_2 _ _, object_init_meets PySem.F.called_bool.init.lookup PySem.F.called_bool.made (by decide) prog w A.in1 _ s1 ⟨rfl, rfl, q⟩⟩
end
section
variable {X : Cx} {pins : List (Addr × Obj)} {σ : L2.St} {H : Hp} {s : Shared} {f C : Addr} {fd : FuncData} {ps : List Str} {sp : Sp} {CX : CXT} {k : Nat} {Q : VK} {E : XK} {vs : List V} {us : List Value}
/-- a call of a def somewhat deeper -/
theorem run_deep {A : Around} (F : FnOk X.prog X.w X.K X.mg X.base CX k f fd ps sp) (hr : Room k A) (e0 : Env0 X.prog X.w X.K X.mg X.base A X.stack s H) (hb : Binds X.K fd ps []) (hx : Passes CX X E)
    (I : Inv X pins σ H s) (r : Vals vs us) (h : sp vs H Q E) : wpAny (model X.prog X.w) A (call (.ref f) us) (EP X pins σ Q) X.xe s := by
  have hl : (us ++ []).length = ps.length := by
    rw [List.append_nil, ← r.length]
    exact F.len _ _ _ _ h
  have bb := hb s us I.kIn hl
  rw [List.append_nil] at bb
  refine wpAny_call (codeAny_mono (F.run A X.stack s H ⟨us, []⟩ us vs Q E hr e0 bb r h) fun r s' hq => ?_)
  cases r with
  | error e => exact hx pins σ H s e s' I hq
  | ok fl =>
    cases fl with
    | ret u => exact I.after hq
    | next => exact False.elim hq
    | brk => exact False.elim hq
    | cont => exact False.elim hq
theorem inst_in {dx : Addr} {fs : List (Str × V)} {a : Addr} (I : Inv X pins σ H s) (h : H a = some (.ins C dx fs)) : ∃ od, PySem.W.InstAt s.heap a (PySem.W.instObj C dx) C (some od) := by
  obtain ⟨_, _, _, e, mA, hn, _⟩ := I.hok a _ h
  obtain ⟨o, _, _, e2, _⟩ := id hn
  exact ⟨o, e, rfl, rfl, e2⟩
/-- bool(o) -/
def rBoolO (C : Addr) (sp : Sp) (E : XK) : List V → Hp → VK → Prop := fun xs H Q => ∃ a dx fs, xs = [.ref a] ∧ H a = some (.ins C dx fs) ∧ sp [.ref a] H (fun v H1 => ∃ b, v = .bl b ∧ Q (.bl b) H1) E
theorem c_boolO (hs : Meth X.K C "__bool__" f) (F : FnOk X.prog X.w X.K X.mg X.base CX k f fd ps sp) (hr : Room (k + 2) X.A) (hb : Binds X.K fd ps []) (hx : Passes CX X E) : CallR X (.type "bool") (rBoolO C sp E) := by
  rintro pins s σ H xs us Q I r ⟨a, dx, fs, rfl, ha, q⟩
  cases r with
  | cons ra rt =>
    cases rt
    cases ra
    obtain ⟨od, J⟩ := inst_in I ha
    refine bool_at I.kIn J hs.at_ hs.fn (wpAny_mono (run_deep (vs := [.ref a]) F (show Room (k + 1) X.A.in1 from Room.in1 hr).in1 I.env0.in1.in1 hb hx I (.cons rfl .nil) q) (fun r s1 hr => ?_) fun _ _ y => y)
    obtain ⟨v, H1, I1, rv, b, rfl, q1⟩ := hr
    exact ⟨b, rv, .bl b, H1, I1, rfl, q1⟩
/-- o[i] -/
def tIxO (C : Addr) (sp : Sp) (E : XK) (ta tb : TE) : TE := fun σ H Q => ta σ H fun x H1 => tb σ H1 fun y H2 => ∃ a dx fs, x = .ref a ∧ H2 a = some (.ins C dx fs) ∧ sp [.ref a, y] H2 Q E
theorem pe_ixO {a b : Expr} {ta tb : TE} {pos : Pos} (hs : Meth X.K C "__getitem__" f) (hfn : PySem.W.fnIn X.K f = true) (F : FnOk X.prog X.w X.K X.mg X.base CX k f fd ps sp) (hr : Room (k + 1) X.A) (hb : Binds X.K fd ps []) (hx : Passes CX X E)
    (pa : PE X a ta) (pb : PE X b tb) (hsl : ∀ v u, subscripted b true v u = runValue (.builtin "lifetime.subscript" ⟨[v, u], []⟩) := by intro _ _; with_unfolding_all rfl) : PE X (.Subscript a b pos) (tIxO C sp E ta tb) := by
  refine ⟨fun pins s σ H Q I h => Subscript_ (binT pa pb I h fun v u s2 x y H2 I2 rx ry q => ?_)⟩
  obtain ⟨p, dx, fs, rfl, hp, q⟩ := q
  cases rx
  obtain ⟨od, J⟩ := inst_in I2 hp
  obtain ⟨m, hF⟩ := I2.fr
  exact PySem.W.sub_K hF I2.ok.mod.kin J hs.at_ hfn hs.fn (run_deep (vs := [.ref p, y]) F hr.in1 I2.env0.in1 hb hx I2 (.cons rfl (.cons ry .nil)) q) (hsl _ _)
end
end AE

set_option Elab.async false
set_option linter.all false
set_option maxRecDepth 100000
namespace AE
open PySem PySem.Spec PyProof.Rows L2 Evl
/-! slices from the front -/
theorem cutV_to (xs : List V) (k : Nat) : cutV xs none (some (k : Int)) = xs.take k := by
  unfold cutV
  rw [HT.sIx_none, HT.sIx_nat, List.drop_zero, Nat.sub_zero, List.take_eq_take_iff]
  omega
theorem cutV_from (xs : List V) (k : Nat) : cutV xs (some (k : Int)) none = xs.drop k := by
  unfold cutV
  rw [HT.sIx_none, HT.sIx_nat]
  by_cases h : k ≤ xs.length
  · rw [Nat.min_eq_left h]
    exact List.take_of_length_le (by rw [List.length_drop]; omega)
  · rw [Nat.min_eq_right (by omega), List.drop_length, List.drop_of_length_le (by omega), List.take_nil]
theorem cutV_mid (xs : List V) (a b : Nat) : cutV xs (some (a : Int)) (some (b : Int)) = (xs.take b).drop a := by
  unfold cutV
  rw [HT.sIx_nat, HT.sIx_nat, List.drop_take]
  by_cases h : a ≤ xs.length
  · rw [Nat.min_eq_left h, List.take_eq_take_iff, List.length_drop]
    omega
  · rw [List.drop_of_length_le (by omega), List.drop_of_length_le (by omega)]
    simp
theorem cutS_to (z : Str) (k : Nat) : cutS z none (some (k : Int)) = ⟨(z.cps.toList.take k).toArray⟩ := by
  unfold cutS
  have e : z.length = z.cps.toList.length := rfl
  rw [HT.sIx_none, HT.sIx_nat, List.drop_zero, Nat.sub_zero, e]
  congr 2
  rw [List.take_eq_take_iff]
  omega
theorem cutS_mid (z : Str) (a b : Nat) : cutS z (some (a : Int)) (some (b : Int)) = ⟨((z.cps.toList.take b).drop a).toArray⟩ := by
  unfold cutS
  have e : z.length = z.cps.toList.length := rfl
  rw [HT.sIx_nat, HT.sIx_nat, List.drop_take, e]
  congr 2
  by_cases h : a ≤ z.cps.toList.length
  · rw [Nat.min_eq_left h, List.take_eq_take_iff, List.length_drop]
    omega
  · rw [List.drop_of_length_le (by omega), List.drop_of_length_le (by omega)]
    simp
theorem join_signs : ∀ l : List Nat, Txt.join (Str.ofString "") (l.map fun c => ⟨#[c]⟩) = ⟨l.toArray⟩ := by
  have h : ∀ (l : List Nat), Str.join (Str.ofString "") (l.map fun c => (⟨#[c]⟩ : Str)) = ⟨l.toArray⟩ := by
    intro l
    induction l with
    | nil => rfl
    | cons c r ih =>
      cases r with
      | nil => rfl
      | cons d r =>
        have e : Str.join (Str.ofString "") ((c :: d :: r).map fun c => (⟨#[c]⟩ : Str)) = (⟨#[c]⟩ : Str) ++ Str.ofString "" ++ Str.join (Str.ofString "") ((d :: r).map fun c => (⟨#[c]⟩ : Str)) := rfl
        rw [e, ih]
        refine Str.ext' ?_
        rw [Str.cps_append, Str.cps_append]
        simp [Str.ofString]
        rfl
  intro l
  rw [← h l]
  show Builtin.Str.glued _ _ = _
  exact StrLaws.glued_eq_join _ _
end AE

set_option Elab.async false
set_option linter.all false
set_option maxRecDepth 100000
namespace AE
open PySem PySem.Spec PyProof.Rows L2 Evl
/-! ### xs[::2], xs[1::2] -/
def slIdx (lo : Option Int) (n : Nat) : List Nat := sliceRange (sliceBounds lo none (some 2) n).fst (sliceBounds lo none (some 2) n).snd.fst (sliceBounds lo none (some 2) n).snd.snd
def everyL {α : Type} (lo : Option Int) (xs : List α) : List α := (slIdx lo xs.length).filterMap fun i => xs[i]?
theorem every_map {α β : Type} (f : α → β) (lo : Option Int) (xs : List α) : everyL lo (xs.map f) = (everyL lo xs).map f := by
  unfold everyL
  rw [List.length_map, List.map_filterMap]
  congr 1
  funext i
  rw [List.getElem?_map]
theorem idx0 (n : Nat) : slIdx none n = (List.range ((n + 1) / 2)).map fun k => 2 * k := by
  unfold slIdx
  have e : sliceBounds none none (some 2) n = ((0 : Int), (n : Int), (2 : Int)) := rfl
  rw [e]
  unfold sliceRange
  by_cases h : (0 : Int) < n
  · simp only [show ((2 : Int) > 0) from by decide, if_true, h]
    rw [show (((n : Int) - 0 + 2 - 1) / 2).toNat = (n + 1) / 2 by omega]
    apply List.map_congr_left
    intro k hk
    omega
  · have z : n = 0 := by omega
    subst z
    rfl
theorem idx1 (n : Nat) : slIdx (some 1) n = (List.range (n / 2)).map fun k => 2 * k + 1 := by
  by_cases h : 1 ≤ n
  · have e : sliceBounds (some 1) none (some 2) n = ((1 : Int), (n : Int), (2 : Int)) := by
      show (max 0 (min (1 : Int) (n : Int)), ((n : Int), (2 : Int))) = _
      rw [show max 0 (min (1 : Int) (n : Int)) = 1 by omega]
    unfold slIdx
    rw [e]
    unfold sliceRange
    by_cases h2 : (1 : Int) < n
    · simp only [show ((2 : Int) > 0) from by decide, if_true, h2]
      rw [show (((n : Int) - 1 + 2 - 1) / 2).toNat = n / 2 by omega]
      apply List.map_congr_left
      intro k hk
      omega
    · have z : n = 1 := by omega
      subst z
      rfl
  · have z : n = 0 := by omega
    subst z
    rfl
theorem every_mem {α : Type} (xs : List α) (v : α) : v ∈ everyL none xs ++ everyL (some 1) xs ↔ v ∈ xs := by
  unfold everyL
  rw [idx0, idx1, List.mem_append, List.mem_filterMap, List.mem_filterMap]
  constructor
  · rintro (⟨i, _, h⟩ | ⟨i, _, h⟩)
    · exact List.mem_of_getElem? h
    · exact List.mem_of_getElem? h
  · intro h
    obtain ⟨i, hi, e⟩ := List.getElem_of_mem h
    have e' : xs[i]? = some v := by rw [List.getElem?_eq_getElem hi, e]
    by_cases z : i % 2 = 0
    · exact .inl ⟨i, List.mem_map.mpr ⟨i / 2, List.mem_range.mpr (by omega), by omega⟩, e'⟩
    · exact .inr ⟨i, List.mem_map.mpr ⟨i / 2, List.mem_range.mpr (by omega), by omega⟩, e'⟩
theorem every_len0 {α : Type} (xs : List α) : (everyL none xs).length ≤ (xs.length + 1) / 2 := by
  unfold everyL
  refine Nat.le_trans (List.length_filterMap_le _ _) ?_
  rw [idx0, List.length_map, List.length_range]
  exact Nat.le_refl _
theorem every_len1 {α : Type} (xs : List α) : (everyL (some 1) xs).length ≤ xs.length / 2 := by
  unfold everyL
  refine Nat.le_trans (List.length_filterMap_le _ _) ?_
  rw [idx1, List.length_map, List.length_range]
  exact Nat.le_refl _
theorem vals_pick {xs : List V} {its : List Value} (r : Vals xs its) : ∀ l : List Nat, Vals (l.filterMap fun i => xs[i]?) (l.filterMap fun i => its[i]?)
  | [] => .nil
  | i :: l => by
    have t := vals_pick r l
    cases e : xs[i]? with
    | none =>
      have e2 : its[i]? = none := by
        rw [List.getElem?_eq_none_iff] at e ⊢
        rw [← r.length]
        exact e
      rw [List.filterMap_cons_none e, List.filterMap_cons_none e2]
      exact t
    | some v =>
      obtain ⟨u, hu, rv⟩ := r.get e
      rw [List.filterMap_cons_some e, List.filterMap_cons_some hu]
      exact .cons rv t
theorem tups_pick {H : Hp} {us : List V} {xs : List (List V)} (t : Tups H us xs) : ∀ l : List Nat, Tups H (l.filterMap fun i => us[i]?) (l.filterMap fun i => xs[i]?)
  | [] => .nil
  | i :: l => by
    have r := tups_pick t l
    cases e : us[i]? with
    | none =>
      have e2 : xs[i]? = none := by
        rw [List.getElem?_eq_none_iff] at e ⊢
        rw [← t.len]
        exact e
      rw [List.filterMap_cons_none e, List.filterMap_cons_none e2]
      exact r
    | some v =>
      obtain ⟨u, hu, rv⟩ := t.get e
      rw [List.filterMap_cons_some e, List.filterMap_cons_some hu]
      exact .cons rv r
theorem tups_every {H : Hp} {us : List V} {xs : List (List V)} (lo : Option Int) (t : Tups H us xs) : Tups H (everyL lo us) (everyL lo xs) := by
  unfold everyL
  rw [t.len]
  exact tups_pick t _
theorem idx0_len (n : Nat) : (slIdx none n).length ≤ n := by
  rw [idx0, List.length_map, List.length_range]
  omega
theorem idx1_len (n : Nat) : (slIdx (some 1) n).length ≤ n := by
  rw [idx1, List.length_map, List.length_range]
  omega
def tStepL (K : PySem.W.Frag) (lo : Option Int) (te : TE) : TE := fun σ H Q => te σ H fun x H1 => ∃ a xs, x = .ref a ∧ SqL K H1 a xs ∧ ∀ p, H1 p = none → Q (.ref p) (upd H1 p (.lst (everyL lo xs)))
section
variable {X : Cx}
theorem pe_stepL {e : Expr} {te : TE} {k : Nat} {p1 p3 pos : Pos} {lo : Option Expr} {tl : TO} {l0 : Option Int} (he : PE X e te) (hl : PO X lo tl)
    (hl0 : ∀ σ H, tl σ H fun o H2 => o = l0 ∧ H2 = H) (hn : ∀ n, (slIdx l0 n).length ≤ n)
    (hw : ∀ v u : Value, subscripted (.Slice lo none (some (.Constant (.int 2) k p1)) p3) false v u = operate [v, u] (getItem v u) := by intro v u; with_unfolding_all rfl) :
    PE X (.Subscript e (.Slice lo none (some (.Constant (.int 2) k p1)) p3) pos) (tStepL X.K l0 te) := by
  refine ⟨fun pins s σ H Q I h => ?_⟩
  refine Subscript_ (thn (he.run pins s σ H _ I h) fun v s1 ⟨x, H1, I1, r1, q1⟩ => ?_)
  obtain ⟨a, xs, ex, hx, q⟩ := q1
  subst ex
  cases r1
  have hst : PO X (some (.Constant (.int 2) k p1)) (tPart (tC (.int 2))) := po_some pe_int
  refine wpAny_Slice (thn (hl.run pins s1 σ H1 (fun o H2 => o = l0 ∧ H2 = H1) I1 (hl0 σ H1)) fun vl s2 ⟨l, H2, I2, pl, el, e2⟩ => ?_)
  subst el e2
  refine thn (po_none.run pins s2 σ H2 (fun o H3 => o = none ∧ H3 = H2) I2 ⟨rfl, rfl⟩) fun vu s3 ⟨u, H3, I3, pu, eu, e3⟩ => ?_
  subst eu e3
  refine thn (hst.run pins s3 σ H3 (fun o H4 => o = some 2 ∧ H4 = H3) I3 ⟨2, rfl, rfl, rfl⟩) fun vs s4 ⟨o, H4, I4, ps, eo, e4⟩ => ?_
  subst eo e4
  have I5 : Inv X pins σ H4 { s4 with heap := s4.heap.push { cls := .type "slice", data := .fields #[vl, vu, vs] } } := I4.kept (t' := s4.toks) fun b ob q => Heap.get?_push_of_some _ q
  obtain ⟨its, r, ht, hz⟩ := I5.list hx
  have hlen := r.length
  show wpAny (model X.prog X.w) X.A (subscriptTail e (.Slice lo none (some (.Constant (.int 2) k p1)) p3) (.ref a) (.ref s4.heap.objs.size)) (EP X pins σ Q) X.xe { s4 with heap := s4.heap.push { cls := .type "slice", data := .fields #[vl, vu, vs] } }
  refine tail_any (ops := [.ref a, .ref s4.heap.objs.size]) ht.isList.typeIs (PySem.slot_list_getitem.lookup) ?_ (hw _ _)
  refine wpAny_getItem_list_slice ht.isList (Heap.IsSliceOf.new _ vl vu vs) pl pu ps (by decide) ?_ (by rw [List.size_toArray]; omega)
  have pk : slicePick its.toArray l none (some 2) = ((slIdx l xs.length).filterMap fun i => its[i]?).toArray := by
    unfold slicePick slIdx
    rw [List.size_toArray, ← hlen]
    congr 1
    congr 1
    funext i
    simp
  rw [pk]
  have hln : (everyL l xs).length ≤ sizeLine := Nat.le_trans (List.length_filterMap_le _ _) (Nat.le_trans (hn _) hz)
  refine ⟨.ref _, _, I5.laid (t' := s4.toks) (o := .lst (everyL l xs)) (fun b ob q => Heap.get?_push_of_some _ q) (Nat.le_refl _) ?_, rfl, q _ (I5.hok.fresh (Nat.le_refl _))⟩
  exact ⟨hln, _, 0, vals_pick r _, Heap.get?_push_size _ rfl⟩
end
end AE

set_option Elab.async false
set_option linter.all false
set_option maxRecDepth 100000
namespace AE
open PySem PySem.Spec PyProof.Rows L2 Evl
/-! ### a walk over an object whose __iter__ gives a tuple's iterator -/
def ttObj (b : Addr) : Obj := { cls := .type "tuple_iterator", data := .fields #[.ref b, .int 0 0] }
def TtO (b it : Addr) : HO := .ext fun h => h.get? it = some (ttObj b)
theorem ttO_ok {P : Program} {w : World} {H : Hp} {h : Heap} {b it : Addr} (e : h.get? it = some (ttObj b)) : ObjOk P w H h it (TtO b it) := ⟨e, ⟨_, e⟩, fun h1 h2 q k => k _ q⟩
def rIterT (K : PySem.W.Frag) : List V → Hp → VK → Prop := fun xs H Q => ∃ (b : Addr) (zs : List V), xs = [.ref b] ∧ SqT K H b zs ∧ ∀ it, H it = none → (∀ z o, H z = some o → z < it) → Q (.ref it) (upd H it (TtO b it))
section
variable {X : Cx}
theorem call_iterT : CallR X (.builtin "iter") (rIterT X.K) := by
  intro pins s σ H xs us Q I r h
  obtain ⟨l, zs, rfl, hq, q⟩ := h
  obtain rfl := Vals.ref1 r
  obtain ⟨its, rv, p, hz⟩ := I.tuple hq
  refine Calls.call_function_entry (by decide +kernel) (by decide +kernel) PySem.W.kdk_entry_iter (PySem.W.kdk_args_iter _) ?_
  unfold Builtin.«iter»
  refine wpAny_bind (m := someArgs "iter" 1 2 _) (wpAny_of_eq (a := [Value.ref l]) (by first | rfl | kernel_rfl!) ?_)
  show wpAny _ _ (pyIter (.ref l) >>= _) _ _ _
  refine wpAny_bind (wpAny_pyIter_tuple (show s.heap.IsTuple l its.toArray from p) ?_)
  refine wpAny_pure ⟨_, rfl, ?_⟩
  refine ⟨.ref s.heap.objs.size, _, I.laid (t' := s.toks) (o := TtO l s.heap.objs.size) (fun b u e => Heap.get?_push_of_some _ e) (Nat.le_refl _) (ttO_ok (Heap.get?_push_size _ rfl)), rfl, q _ (I.hok.fresh (Nat.le_refl _)) fun z o e => ?_⟩
  exact (I.hok z o e).lt
def cListN (K : PySem.W.Frag) (n : Nat) : List V → Hp → VK → Prop := fun xs H Q => ∃ a zs, xs = [.ref a] ∧ (SqL K H a zs ∨ SqT K H a zs) ∧ ∀ l, H l = none → n ≤ l → Q (.ref l) (upd H l (.lst zs))
/-- list(xs): a thing that is younger than the call -/
theorem c_listN : CallR X (.type "list") (cListN X.K X.s_0.heap.objs.size) := by
  intro pins s σ H xs us Q I r h
  obtain ⟨a, zs, rfl, hq, q⟩ := h
  obtain ⟨w1, rfl, rw1⟩ := vals1 r
  cases rw1
  have done : ∀ (its : List Value), Vals zs its → zs.length ≤ sizeLine → ∀ (h2 : Heap) (n2 : Nat), (∀ b ob, s.heap.get? b = some ob → h2.get? b = some ob) →
      h2.get? s.heap.objs.size = some { cls := .type "list", dict := none, data := .seq its.toArray n2, slots := #[] } → EP X pins σ Q (.ref s.heap.objs.size) { s with heap := h2 } := fun its rz sz h2 n2 keep at2 =>
    ⟨.ref s.heap.objs.size, _, I.laid (t' := s.toks) keep (Nat.le_refl _) (show ObjOk X.prog X.w _ h2 _ (.lst zs) from ⟨sz, its, n2, rz, at2⟩), rfl, q _ (I.hok.fresh (Nat.le_refl _)) I.sz⟩
  rcases hq with hq | hq
  · obtain ⟨its, rz, pl, sz⟩ := I.list hq
    have ln := rz.length
    obtain ⟨ob, h1, h2, m, h3⟩ := pl.isList
    exact call_list_seq a (.inl rfl) h1 h2 h3 (fun h' c' kp e => done its rz sz h' c' kp e) (by rw [List.size_toArray, ← ln]; exact sz)
  · obtain ⟨its, rz, pl, sz⟩ := I.tuple hq
    have ln := rz.length
    obtain ⟨ob, h1, h2, m, h3⟩ := pl
    exact call_list_seq a (.inr rfl) h1 h2 h3 (fun h' c' kp e => done its rz sz h' c' kp e) (by rw [List.size_toArray, ← ln]; exact sz)
structure ItM (K : PySem.W.Frag) (C f : Addr) : Prop where
  it : PySem.W.findIn K (.ref C) "__iter__" = some (some (.ref f))
  fn : PySem.W.isFn K (.ref f) = true
def iOwnT (K : PySem.W.Frag) (C : Addr) (sp : Sp) (E : XK) (n : Nat) (te : TE) : TI := fun σ H R => te σ H fun x H1 => ∃ a dx fs, x = .ref a ∧ H1 a = some (.ins C dx fs) ∧ (∃ z o, H1 z = some o ∧ n ≤ z) ∧
  sp [.ref a] H1 (fun v H2 => ∃ it b, v = .ref it ∧ H2 = upd H1 it (TtO b it) ∧ H1 it = none ∧ (∀ z o, H1 z = some o → z < it) ∧ (∃ xs, SqT K H1 b xs) ∧ R (Itt K b) H1) E
theorem look_tn : typeLookup (.type "tuple_iterator") "__next__" = pure (some (.builtin "tuple_iterator.__next__")) := by rw [typeLookup_type, builtinLookup_eq_fast]; kernel_rfl
theorem pi_ownT {CX : CXT} {k : Nat} {f C : Addr} {fd : FuncData} {ps : List Str} {sp : Sp} {E : XK} {tg e : Expr} {te : TE} (M : ItM X.K C f) (F : FnOk X.prog X.w X.K X.mg X.base CX k f fd ps sp) (hr : Room k X.A) (hb : Binds X.K fd ps []) (hx : Passes CX X E)
    (he : PE X e te) : PI X tg e (iOwnT X.K C sp E X.s_0.heap.objs.size te) := by
  refine ⟨fun pins s σ H R I h => ?_⟩
  refine thn (he.run pins s σ H _ I h) fun v s1 ⟨x, H1, I1, r1, q1⟩ => ?_
  obtain ⟨a, dx, fs, rfl, ha, ⟨z, o, hz, hn⟩, hsp⟩ := q1
  cases r1
  obtain ⟨od, J⟩ := inst_in I1 ha
  obtain ⟨m, hF⟩ := I1.fr
  refine PySem.W.owit_iter hF I1.ok.mod.kin J M.it M.fn ?_
  refine wpAny_mono (run_deep (vs := [.ref a]) F hr I1.env0 hb hx I1 (.cons rfl .nil) hsp) (fun u s2 hq => ?_) fun _ _ z => z
  obtain ⟨y, H2, I2, r2, it, b, rfl, rfl, h0, hlt, hxs, hR⟩ := hq
  cases r2
  have hget : s2.heap.get? it = some (ttObj b) := (I2.hok it _ upd_same).1
  have hT : s2.TypeIs (.ref it) "tuple_iterator" := ⟨_, hget, rfl⟩
  unfold PySem.W.OwitIt
  refine wpAny_specialOf (name := Str.ofString "__next__") hT look_tn ?_
  have hle : X.s_0.heap.objs.size ≤ it := Nat.le_of_lt (Nat.lt_of_le_of_lt hn (hlt z o hz))
  have I3 := ItX.inv_drop I2 upd_same
  have f3 := ItX.inv_fp I2 (u := TtO b it) upd_same hle
  rw [ItX.dropH_upd h0] at I3 f3
  refine ⟨it, [it], _, _, H1, rfl, I3, turn_tuple b it, ⟨_, hget, rfl, rfl⟩, fun c hc => ?_, hR⟩
  have e : c = it := by simpa using hc
  subst e
  exact f3
end
end AE

set_option Elab.async false
set_option linter.all false
set_option maxRecDepth 100000
namespace K01
open PySem PySem.Spec PyProof.Rows L2 Evl AE
def topS (i : Nat) : Stmt := PySem.Challenge.pw_askshanded_k01_machine_parts.main.body.getD i (.Pass ⟨0, 0, 0, 0⟩)
abbrev s__law_cell : Stmt := topS 28
abbrev N__law_cell : List Str := ["_law_script", "_law_k"]
theorem sc__law_cell : FnScope N__law_cell ["_law_script", "_law_k"] (defScope s__law_cell) := ⟨rfl, rfl, rfl, by decide +kernel, rfl, by decide +kernel, by decide +kernel⟩
abbrev s__law_draws : Stmt := topS 29
abbrev N__law_draws : List Str := ["_law_script", "_law_k", "_law_many", "_law_cell_here", "_law_row", "_law_rest", "_law_turn", "_law_seed"]
theorem sc__law_draws : FnScope N__law_draws ["_law_script", "_law_k", "_law_many"] (defScope s__law_draws) := ⟨rfl, rfl, rfl, by decide +kernel, rfl, by decide +kernel, by decide +kernel⟩
abbrev s__law_asks : Stmt := topS 30
abbrev N__law_asks : List Str := ["_law_row", "_law_many", "_law_letters", "_law_word", "_law_digit", "_law_asks_here", "_law_at", "_law_size", "_law_place", "_law_jump", "_law_letter"]
theorem sc__law_asks : FnScope N__law_asks ["_law_row", "_law_many"] (defScope s__law_asks) := ⟨rfl, rfl, rfl, by decide +kernel, rfl, by decide +kernel, by decide +kernel⟩
abbrev s__law_whole : Stmt := topS 31
abbrev N__law_whole : List Str := ["_law_x"]
theorem sc__law_whole : FnScope N__law_whole ["_law_x"] (defScope s__law_whole) := ⟨rfl, rfl, rfl, by decide +kernel, rfl, by decide +kernel, by decide +kernel⟩
abbrev s__law_climb : Stmt := topS 32
abbrev N__law_climb : List Str := ["_law_row", "_law_size", "_law_climbed", "_law_state", "_law_digit"]
theorem sc__law_climb : FnScope N__law_climb ["_law_row", "_law_size"] (defScope s__law_climb) := ⟨rfl, rfl, rfl, by decide +kernel, rfl, by decide +kernel, by decide +kernel⟩
abbrev s__law_shuffled : Stmt := topS 33
abbrev N__law_shuffled : List Str := ["_law_rows", "_law_row", "_law_turned", "_law_shift"]
theorem sc__law_shuffled : FnScope N__law_shuffled ["_law_rows", "_law_row"] (defScope s__law_shuffled) := ⟨rfl, rfl, rfl, by decide +kernel, rfl, by decide +kernel, by decide +kernel⟩
abbrev s__law_parts_hold : Stmt := topS 34
abbrev N__law_parts_hold : List Str := ["_law_machine", "_law_size", "_law_marks", "_law_steps", "_law_here", "_law_mark", "_law_step"]
theorem sc__law_parts_hold : FnScope N__law_parts_hold ["_law_machine", "_law_size", "_law_marks", "_law_steps", "_law_here"] (defScope s__law_parts_hold) := ⟨rfl, rfl, rfl, by decide +kernel, rfl, by decide +kernel, by decide +kernel⟩
abbrev s__law_is_step : Stmt := topS 35
abbrev N__law_is_step : List Str := ["_law_step"]
theorem sc__law_is_step : FnScope N__law_is_step ["_law_step"] (defScope s__law_is_step) := ⟨rfl, rfl, rfl, by decide +kernel, rfl, by decide +kernel, by decide +kernel⟩
abbrev s__law_made : Stmt := topS 36
abbrev N__law_made : List Str := ["_law_choice", "_law_size", "_law_marks", "_law_steps", "_law_here"]
theorem sc__law_made : FnScope N__law_made ["_law_choice", "_law_size", "_law_marks", "_law_steps", "_law_here"] (defScope s__law_made) := ⟨rfl, rfl, rfl, by decide +kernel, rfl, by decide +kernel, by decide +kernel⟩
abbrev s_law : Stmt := topS 37
abbrev N_law : List Str := ["_law_script", "_law_row", "_law_size", "_law_names", "_law_asks_here", "_law_ask", "_law_marks", "_law_states", "_law_digits", "_law_steps", "_law_at", "_law_j", "_law_digit", "_law_end", "_law_here", "_law_first", "_law_second", "_law_kept", "_law_machine"]
theorem sc_law : FnScope N_law ["_law_script"] (defScope s_law) := ⟨rfl, rfl, rfl, by decide +kernel, rfl, by decide +kernel, by decide +kernel⟩
abbrev s_check_size : Stmt := topS 20
abbrev N_check_size : List Str := ["size"]
theorem sc_check_size : FnScope N_check_size ["size"] (defScope s_check_size) := ⟨rfl, rfl, rfl, by decide +kernel, rfl, by decide +kernel, by decide +kernel⟩
abbrev s_check_marks : Stmt := topS 21
abbrev N_check_marks : List Str := ["size", "marks", "mark"]
theorem sc_check_marks : FnScope N_check_marks ["size", "marks"] (defScope s_check_marks) := ⟨rfl, rfl, rfl, by decide +kernel, rfl, by decide +kernel, by decide +kernel⟩
abbrev s_check_steps : Stmt := topS 22
abbrev N_check_steps : List Str := ["size", "steps", "state", "ask", "end"]
theorem sc_check_steps : FnScope N_check_steps ["size", "steps"] (defScope s_check_steps) := ⟨rfl, rfl, rfl, by decide +kernel, rfl, by decide +kernel, by decide +kernel⟩
abbrev s_is_ask : Stmt := topS 23
abbrev N_is_ask : List Str := ["ask", "letter"]
theorem sc_is_ask : FnScope N_is_ask ["ask"] (defScope s_is_ask) := ⟨rfl, rfl, rfl, by decide +kernel, rfl, by decide +kernel, by decide +kernel⟩
abbrev s_ascending : Stmt := topS 24
abbrev N_ascending : List Str := ["steps", "named", "state", "ask", "end", "name"]
theorem sc_ascending : FnScope N_ascending ["steps"] (defScope s_ascending) := ⟨rfl, rfl, rfl, by decide +kernel, rfl, by decide +kernel, by decide +kernel⟩
abbrev s_ends_by_ask : Stmt := topS 25
abbrev N_ends_by_ask : List Str := ["steps", "found", "state", "ask", "end", "place"]
theorem sc_ends_by_ask : FnScope N_ends_by_ask ["steps"] (defScope s_ends_by_ask) := ⟨rfl, rfl, rfl, by decide +kernel, rfl, by decide +kernel, by decide +kernel⟩
abbrev s_pairs_by_state : Stmt := topS 26
abbrev N_pairs_by_state : List Str := ["steps", "found", "state", "ask", "end"]
theorem sc_pairs_by_state : FnScope N_pairs_by_state ["steps"] (defScope s_pairs_by_state) := ⟨rfl, rfl, rfl, by decide +kernel, rfl, by decide +kernel, by decide +kernel⟩
abbrev s_Machine___init__ : Stmt := inClass (topS 16) 0
abbrev N_Machine___init__ : List Str := ["self", "size", "marks", "steps", "now", "rows", "marked", "mark", "state"]
theorem sc_Machine___init__ : FnScope N_Machine___init__ ["self", "size", "marks", "steps", "now"] (defScope s_Machine___init__) := ⟨rfl, rfl, rfl, by decide +kernel, rfl, by decide +kernel, by decide +kernel⟩
abbrev s_Machine___iter__ : Stmt := inClass (topS 16) 1
abbrev N_Machine___iter__ : List Str := ["self"]
theorem sc_Machine___iter__ : FnScope N_Machine___iter__ ["self"] (defScope s_Machine___iter__) := ⟨rfl, rfl, rfl, by decide +kernel, rfl, by decide +kernel, by decide +kernel⟩
/-- a class of machines -/
structure MCls (K : PySem.W.Frag) (C : Addr) : Prop where
  cl : Cls K C
  n1 : NoAttr K C "size"
  n2 : NoAttr K C "marks"
  n3 : NoAttr K C "steps"
  n4 : NoAttr K C "now"
  n5 : NoAttr K C "_ends"
  n6 : NoAttr K C "_pairs"
/-- what isinstance asks of it -/
structure OCls (K : PySem.W.Frag) (C : Addr) : Prop where
  o1 : PySem.W.findIn K (.ref C) "__class__" = some (some (.builtin "object.__class__"))
  o2 : PySem.W.specialIn K (.builtin "object.__class__") "__get__" = some (some (.builtin "getset_descriptor.__get__"))
  o3 : PySem.W.takesIn K (.builtin "object.__class__") = some true
  o4 : PySem.W.mroIn K C (.type "object") = some true
/-- what the top leaves -/
structure Tp (K : PySem.W.Frag) (mg : Str → Option Value) where
  a__law_cell : Addr
  d__law_cell : FuncData
  f__law_cell : Fun K "_law_cell" "_law_cell" s__law_cell a__law_cell d__law_cell
  b__law_cell : Binds K d__law_cell ["_law_script", "_law_k"] []
  g__law_cell : mg "_law_cell" = some (.ref a__law_cell)
  a__law_draws : Addr
  d__law_draws : FuncData
  f__law_draws : Fun K "_law_draws" "_law_draws" s__law_draws a__law_draws d__law_draws
  b__law_draws : Binds K d__law_draws ["_law_script", "_law_k", "_law_many"] []
  g__law_draws : mg "_law_draws" = some (.ref a__law_draws)
  a__law_asks : Addr
  d__law_asks : FuncData
  f__law_asks : Fun K "_law_asks" "_law_asks" s__law_asks a__law_asks d__law_asks
  b__law_asks : Binds K d__law_asks ["_law_row", "_law_many"] []
  g__law_asks : mg "_law_asks" = some (.ref a__law_asks)
  a__law_whole : Addr
  d__law_whole : FuncData
  f__law_whole : Fun K "_law_whole" "_law_whole" s__law_whole a__law_whole d__law_whole
  b__law_whole : Binds K d__law_whole ["_law_x"] []
  g__law_whole : mg "_law_whole" = some (.ref a__law_whole)
  a__law_climb : Addr
  d__law_climb : FuncData
  f__law_climb : Fun K "_law_climb" "_law_climb" s__law_climb a__law_climb d__law_climb
  b__law_climb : Binds K d__law_climb ["_law_row", "_law_size"] []
  g__law_climb : mg "_law_climb" = some (.ref a__law_climb)
  a__law_shuffled : Addr
  d__law_shuffled : FuncData
  f__law_shuffled : Fun K "_law_shuffled" "_law_shuffled" s__law_shuffled a__law_shuffled d__law_shuffled
  b__law_shuffled : Binds K d__law_shuffled ["_law_rows", "_law_row"] []
  g__law_shuffled : mg "_law_shuffled" = some (.ref a__law_shuffled)
  a__law_parts_hold : Addr
  d__law_parts_hold : FuncData
  f__law_parts_hold : Fun K "_law_parts_hold" "_law_parts_hold" s__law_parts_hold a__law_parts_hold d__law_parts_hold
  b__law_parts_hold : Binds K d__law_parts_hold ["_law_machine", "_law_size", "_law_marks", "_law_steps", "_law_here"] []
  g__law_parts_hold : mg "_law_parts_hold" = some (.ref a__law_parts_hold)
  a__law_is_step : Addr
  d__law_is_step : FuncData
  f__law_is_step : Fun K "_law_is_step" "_law_is_step" s__law_is_step a__law_is_step d__law_is_step
  b__law_is_step : Binds K d__law_is_step ["_law_step"] []
  g__law_is_step : mg "_law_is_step" = some (.ref a__law_is_step)
  a__law_made : Addr
  d__law_made : FuncData
  f__law_made : Fun K "_law_made" "_law_made" s__law_made a__law_made d__law_made
  b__law_made : Binds K d__law_made ["_law_choice", "_law_size", "_law_marks", "_law_steps", "_law_here"] []
  g__law_made : mg "_law_made" = some (.ref a__law_made)
  a_law : Addr
  d_law : FuncData
  f_law : Fun K "law" "law" s_law a_law d_law
  b_law : Binds K d_law ["_law_script"] []
  g_law : mg "law" = some (.ref a_law)
  a_check_size : Addr
  d_check_size : FuncData
  f_check_size : Fun K "check_size" "check_size" s_check_size a_check_size d_check_size
  b_check_size : Binds K d_check_size ["size"] []
  g_check_size : mg "check_size" = some (.ref a_check_size)
  a_check_marks : Addr
  d_check_marks : FuncData
  f_check_marks : Fun K "check_marks" "check_marks" s_check_marks a_check_marks d_check_marks
  b_check_marks : Binds K d_check_marks ["size", "marks"] []
  g_check_marks : mg "check_marks" = some (.ref a_check_marks)
  a_check_steps : Addr
  d_check_steps : FuncData
  f_check_steps : Fun K "check_steps" "check_steps" s_check_steps a_check_steps d_check_steps
  b_check_steps : Binds K d_check_steps ["size", "steps"] []
  g_check_steps : mg "check_steps" = some (.ref a_check_steps)
  a_is_ask : Addr
  d_is_ask : FuncData
  f_is_ask : Fun K "is_ask" "is_ask" s_is_ask a_is_ask d_is_ask
  b_is_ask : Binds K d_is_ask ["ask"] []
  g_is_ask : mg "is_ask" = some (.ref a_is_ask)
  a_ascending : Addr
  d_ascending : FuncData
  f_ascending : Fun K "ascending" "ascending" s_ascending a_ascending d_ascending
  b_ascending : Binds K d_ascending ["steps"] []
  g_ascending : mg "ascending" = some (.ref a_ascending)
  a_ends_by_ask : Addr
  d_ends_by_ask : FuncData
  f_ends_by_ask : Fun K "ends_by_ask" "ends_by_ask" s_ends_by_ask a_ends_by_ask d_ends_by_ask
  b_ends_by_ask : Binds K d_ends_by_ask ["steps"] []
  g_ends_by_ask : mg "ends_by_ask" = some (.ref a_ends_by_ask)
  a_pairs_by_state : Addr
  d_pairs_by_state : FuncData
  f_pairs_by_state : Fun K "pairs_by_state" "pairs_by_state" s_pairs_by_state a_pairs_by_state d_pairs_by_state
  b_pairs_by_state : Binds K d_pairs_by_state ["steps"] []
  g_pairs_by_state : mg "pairs_by_state" = some (.ref a_pairs_by_state)
  a_Machine___init__ : Addr
  d_Machine___init__ : FuncData
  f_Machine___init__ : FunD K "__init__" "Machine.__init__" (defArgs s_Machine___init__) (defBody s_Machine___init__) (defScope s_Machine___init__) [.int 0] [] a_Machine___init__ d_Machine___init__
  b_Machine___init__ : Binds K d_Machine___init__ ["self", "size", "marks", "steps", "now"] []
  a_Machine___iter__ : Addr
  d_Machine___iter__ : FuncData
  f_Machine___iter__ : Fun K "__iter__" "Machine.__iter__" s_Machine___iter__ a_Machine___iter__ d_Machine___iter__
  b_Machine___iter__ : Binds K d_Machine___iter__ ["self"] []
  C_Machine : Addr
  g_Machine : mg "Machine" = some (.ref C_Machine)
  C_Service : Addr
  g_Service : mg "Service" = some (.ref C_Service)
  C_Pattern : Addr
  g_Pattern : mg "Pattern" = some (.ref C_Pattern)
  t_MOST_STATES : Tok
  k_MOST_STATES : mg "MOST_STATES" = some (.int 200 t_MOST_STATES)
  t_MOST_STEPS : Tok
  k_MOST_STEPS : mg "MOST_STEPS" = some (.int 600 t_MOST_STEPS)
  t_LONGEST_ASK : Tok
  k_LONGEST_ASK : mg "LONGEST_ASK" = some (.int 8 t_LONGEST_ASK)
  n_len : mg "len" = none
  n_int : mg "int" = none
  n_range : mg "range" = none
  n_isinstance : mg "isinstance" = none
  n_bool : mg "bool" = none
  n_list : mg "list" = none
  n_tuple : mg "tuple" = none
  n_all : mg "all" = none
  n_sorted : mg "sorted" = none
  n_str : mg "str" = none
  n_iter : mg "iter" = none
  cf_Machine : MCls K C_Machine
  mk_Machine : Mk K C_Machine a_Machine___init__
  it_Machine : ItM K C_Machine a_Machine___iter__
  is_Machine : PySem.W.kitOne K (.ref C_Machine) (.ref C_Machine) = some true
  cc_Machine : OCls K C_Machine
  cf_Service : MCls K C_Service
  mk_Service : Mk K C_Service a_Machine___init__
  it_Service : ItM K C_Service a_Machine___iter__
  is_Service : PySem.W.kitOne K (.ref C_Service) (.ref C_Machine) = some true
  cc_Service : OCls K C_Service
  cf_Pattern : MCls K C_Pattern
  mk_Pattern : Mk K C_Pattern a_Machine___init__
  it_Pattern : ItM K C_Pattern a_Machine___iter__
  is_Pattern : PySem.W.kitOne K (.ref C_Pattern) (.ref C_Machine) = some true
  cc_Pattern : OCls K C_Pattern
  e_ds : List Value
  e_vs : Vals [V.int 0] e_ds
  e_b : Binds K d_Machine___init__ ["self", "size", "marks", "steps", "now"] e_ds
  e_kn : KBn K d_Machine___init__ ["self", "size", "marks", "steps", "now"] 4 ["now"] (fun us ws => us ++ ws) (fun vs zs => vs ++ zs)
end K01

set_option Elab.async false
set_option linter.all false
set_option maxRecDepth 100000
namespace K01
open PySem PySem.Spec PyProof.Rows L2 Evl AE
local macro_rules | `(tactic| walk_at "c") => `(tactic| first | exact ⟨by decide, by decide⟩ | exact .inr ⟨by decide, by decide⟩ | exact .inl ⟨by decide, by decide⟩ | exact ⟨by decide, by decide, by decide⟩ | (show (0 : Int) < _; decide))
local macro_rules | `(tactic| walk_at "s") => `(tactic| first
  | (with_reducible refine r_var rfl ?_) | (with_reducible refine r_c ?_) | (with_reducible refine r_op ?_) | (with_reducible refine r_un ?_) | (with_reducible refine r_I0 ?_) | (with_reducible refine r_U ?_)
  | (with_reducible refine r_eq rfl ?_) | (with_reducible refine r_ne rfl ?_) | (with_reducible refine r_chain ?_) | (with_reducible refine r_test ?_) | (with_reducible refine r_tB ?_)
  | (with_reducible refine r_bl ?_) | (with_reducible refine r_and ?_) | (with_reducible refine r_or ?_) | (with_reducible refine r_not ?_) | (with_reducible refine r_nil ?_) | (with_reducible refine r_cons ?_)
  | (with_reducible refine r_tup ?_) | (with_reducible refine r_lst ?_) | (with_reducible refine r_cb ?_) | (with_reducible refine r_call ?_) | (with_reducible refine r_seq ?_) | (with_reducible refine r_set ?_)
  | (with_reducible refine r_drop ?_) | (with_reducible refine r_ret ?_) | (with_reducible refine r_next ?_) | (with_reducible refine r_if ?_) | (with_reducible refine r_sl ?_) | (with_reducible refine r_nop ?_) | (with_reducible refine r_prt ?_) | (with_reducible refine r_some ?_)
  | (with_reducible refine add_int ?_) | (with_reducible refine int_i ?_) | (with_reducible refine r_forR1 ?_) | (with_reducible refine r_forL ?_) | ((with_reducible refine r_I ?_ ?_); (walk_at "c")))
local macro_rules | `(tactic| walk_at "g") => `(tactic| repeat walk_at "s")
section
variable {P : Program} {w : World} {K : PySem.W.Frag} {mg : Str → Option Value} {base : Heap}
def cellF (ns : List Int) (k : Int) : Int := ns.getD k.toNat 0
def sp_cell (K : PySem.W.Frag) : Sp := fun vs H Q _ => ∃ (a : Addr) (ns : List Int) (k : Int), vs = [.ref a, .int k] ∧ SqL K H a (ns.map V.int) ∧ 0 ≤ k ∧ Q (.int (cellF ns k)) H
theorem ok_cell (T : Tp K mg) : FnOk P w K mg base CX0 1 T.a__law_cell T.d__law_cell ["_law_script", "_law_k"] (sp_cell K) := by
  refine T.f__law_cell.ok sc__law_cell (fun vs H Q E h => ?_) (fun cdv A outer s H vs Q E hr h => ?_)
  · obtain ⟨a, ns, k, rfl, _⟩ := h
    rfl
  · obtain ⟨a, ns, k, rfl, hS, hk, q⟩ := h
    refine ⟨_, (pss_cons (ps_if (pt_cmpR op_lt (pv 1) (pe_callB c_len (by rfl) T.n_len (by rfl) (pa_cons (pv 0) pa_nil)) (nomark _)) (pss_one (ps_ret (pe_ix ix_seq (pv 0) (pv 1) (fun _ _ => rfl)))) pss_nil)
      (pss_one (ps_ret pe_int))), ?_⟩
    walk_at "g"
    refine len_l hS ?_
    walk_at "g"
    refine ite_b (fun hb => ?_) (fun hb => ?_)
    · walk_at "g"
      have hb' := of_decide_eq_true hb
      rw [List.length_map] at hb'
      have hk2 : k.toNat < ns.length := by omega
      refine ix_l (v := .int (cellF ns k)) hS ?_ q
      refine at_of (j := k.toNat) (by omega) ?_
      rw [List.getElem?_map, List.getElem?_eq_getElem hk2]
      unfold cellF
      rw [List.getD_eq_getElem?_getD, List.getElem?_eq_getElem hk2]
      rfl
    · walk_at "g"
      have hb' := of_decide_eq_false hb
      rw [List.length_map] at hb'
      have e : cellF ns k = 0 := by
        unfold cellF
        rw [List.getD_eq_getElem?_getD, List.getElem?_eq_none (by omega)]
        rfl
      rw [e] at q
      exact q
def restF : Nat → Int → List Int
  | 0, _ => []
  | n + 1, r => r % 64 :: restF n (r / 64)
def seedF : Nat → Int → Int → List Int
  | 0, _, _ => []
  | n + 1, t, s => (s * 48271 + t + 11) % 2147483647 / 65536 % 64 :: seedF n (t + 1) ((s * 48271 + t + 11) % 2147483647)
def drawsF (ns : List Int) (k many : Int) : List Int :=
  if 10 ^ 18 ≤ cellF ns k then restF many.toNat (cellF ns k - 10 ^ 18)
  else seedF many.toNat 0 ((cellF ns k * 7919 + k * 104729 + 12345) % 2147483647)
theorem restF_len : ∀ n r, (restF n r).length = n
  | 0, _ => rfl
  | n + 1, r => by show (restF n (r / 64)).length + 1 = n + 1; rw [restF_len n]
theorem seedF_len : ∀ n t s, (seedF n t s).length = n
  | 0, _, _ => rfl
  | n + 1, t, s => by show (seedF n _ _).length + 1 = n + 1; rw [seedF_len n]
theorem restF_bd : ∀ n r, ∀ x ∈ restF n r, 0 ≤ x ∧ x < 64
  | 0, _, x, h => by cases h
  | n + 1, r, x, h => by
    rcases List.mem_cons.mp h with rfl | h
    · omega
    · exact restF_bd n _ x h
theorem seedF_bd : ∀ n t s, ∀ x ∈ seedF n t s, 0 ≤ x ∧ x < 64
  | 0, _, _, x, h => by cases h
  | n + 1, t, s, x, h => by
    rcases List.mem_cons.mp h with rfl | h
    · omega
    · exact seedF_bd n _ _ x h
/-- the row after i turns, and the rest of it -/
def restN : Nat → Int → Int
  | 0, r => r
  | n + 1, r => restN n (r / 64)
theorem restF_snoc : ∀ n r, restF (n + 1) r = restF n r ++ [restN n r % 64]
  | 0, _ => rfl
  | n + 1, r => by
    show r % 64 :: restF (n + 1) (r / 64) = r % 64 :: (restF n (r / 64) ++ [restN n (r / 64) % 64])
    rw [restF_snoc n]
theorem restN_snoc : ∀ n r, restN (n + 1) r = restN n r / 64
  | 0, _ => rfl
  | n + 1, r => restN_snoc n (r / 64)
def seedN : Nat → Int → Int → Int
  | 0, _, s => s
  | n + 1, t, s => seedN n (t + 1) ((s * 48271 + t + 11) % 2147483647)
theorem seedN_snoc : ∀ (n : Nat) t s, seedN (n + 1) t s = (seedN n t s * 48271 + (t + n) + 11) % 2147483647
  | 0, t, s => by show (s * 48271 + t + 11) % 2147483647 = (s * 48271 + (t + (0 : Nat)) + 11) % 2147483647; congr 1; omega
  | n + 1, t, s => by
    show seedN (n + 1) (t + 1) _ = (seedN n (t + 1) _ * 48271 + (t + ((n + 1 : Nat) : Int)) + 11) % 2147483647
    rw [seedN_snoc n]
    congr 1
    omega
theorem seedF_snoc : ∀ (n : Nat) t s, seedF (n + 1) t s = seedF n t s ++ [(seedN n t s * 48271 + (t + n) + 11) % 2147483647 / 65536 % 64]
  | 0, t, s => by show [(s * 48271 + t + 11) % 2147483647 / 65536 % 64] = [(s * 48271 + (t + (0 : Nat)) + 11) % 2147483647 / 65536 % 64]; rw [show t + ((0 : Nat) : Int) = t by omega]
  | n + 1, t, s => by
    show _ :: seedF (n + 1) (t + 1) _ = _ :: (seedF n (t + 1) _ ++ [(seedN n (t + 1) _ * 48271 + (t + ((n + 1 : Nat) : Int)) + 11) % 2147483647 / 65536 % 64])
    rw [seedF_snoc n]
    congr 6
    omega
theorem draws_len (ns : List Int) (k many : Int) : (drawsF ns k many).length = many.toNat := by
  unfold drawsF
  split
  · exact restF_len _ _
  · exact seedF_len _ _ _
theorem draws_bd (ns : List Int) (k many : Int) : ∀ x ∈ drawsF ns k many, 0 ≤ x ∧ x < 64 := by
  unfold drawsF
  split
  · exact restF_bd _ _
  · exact seedF_bd _ _ _
def sp_draws (K : PySem.W.Frag) : Sp := fun vs H Q _ => ∃ (a : Addr) (ns : List Int) (k many : Int), vs = [.ref a, .int k, .int many] ∧ SqL K H a (ns.map V.int) ∧ 0 ≤ k ∧ 0 ≤ many ∧ many ≤ 1000 ∧
  ∀ p H', H p = none → Ex H H' → H' p = some (.lst ((drawsF ns k many).map V.int)) → Q (.ref p) H'
theorem ok_draws (T : Tp K mg) : FnOk P w K mg base CX0 2 T.a__law_draws T.d__law_draws ["_law_script", "_law_k", "_law_many"] (sp_draws K) := by
  have G__law_cell : FnOk P w K mg base CX0 1 T.a__law_cell T.d__law_cell ["_law_script", "_law_k"] (sp_cell K) := ok_cell T
  refine T.f__law_draws.ok sc__law_draws (fun vs H Q E h => ?_) (fun cdv A outer s H vs Q E hr h => ?_)
  · obtain ⟨a, ns, k, many, rfl, _⟩ := h
    rfl
  · obtain ⟨a, ns, k, many, rfl, hS, hk, hm, hm2, q⟩ := h
    refine ⟨_, (pss_cons (ps_set (i := 3) sc__law_draws.nd rfl (.inl rfl) (pe_call G__law_cell (hr.mono (by decide)) (by rfl) T.g__law_cell T.f__law_cell.kp T.b__law_cell .nil pass0 (pa_cons (pv 0) (pa_cons (pv 1) pa_nil))))
  (pss_cons (ps_set (i := 4) sc__law_draws.nd rfl (.inl rfl) (pe_lst pa_nil))
  (pss_cons (ps_if (pt_cmpR op_ge (pv 3) (pe_op op_pow pe_int pe_int) (nomark _)) (pss_cons (ps_set (i := 5) sc__law_draws.nd rfl (.inl rfl) (pe_op op_sub (pv 3) (pe_op op_pow pe_int pe_int)))
  (pss_cons (ps_for PassesOwn.never rfl (pi_range1 rfl T.n_range (pa_cons (pv 2) pa_nil)) (pg_name (i := 6) sc__law_draws.nd rfl (.inl rfl))
  (pss_cons (ps_expr (pe_bm PySem.F.plainAttrs_list PySem.F.slot_list_append PySem.F.type_list_append mt_append (pv 4) (pa_cons (pe_op op_mod (pe_callTy c_int (by rfl) T.n_int (by rfl) (pa_cons (pv 5) pa_nil)) pe_int) pa_nil)))
  (pss_one (ps_set (i := 5) sc__law_draws.nd rfl (.inl rfl) (pe_op op_fdiv (pv 5) pe_int)))))
  (pss_one (ps_ret (pv 4))))) pss_nil)
  (pss_cons (ps_set (i := 7) sc__law_draws.nd rfl (.inl rfl) (pe_op op_mod (pe_callTy c_int (by rfl) T.n_int (by rfl) (pa_cons (pe_op opAdd (pe_op opAdd (pe_op op_mul (pv 3) pe_int) (pe_op op_mul (pv 1) pe_int)) pe_int) pa_nil)) pe_int))
  (pss_cons (ps_for PassesOwn.never rfl (pi_range1 rfl T.n_range (pa_cons (pv 2) pa_nil)) (pg_name (i := 6) sc__law_draws.nd rfl (.inl rfl))
  (pss_cons (ps_set (i := 7) sc__law_draws.nd rfl (.inl rfl) (pe_op op_mod (pe_callTy c_int (by rfl) T.n_int (by rfl) (pa_cons (pe_op opAdd (pe_op opAdd (pe_op op_mul (pv 7) pe_int) (pv 6)) pe_int) pa_nil)) pe_int))
  (pss_one (ps_expr (pe_bm PySem.F.plainAttrs_list PySem.F.slot_list_append PySem.F.type_list_append mt_append (pv 4) (pa_cons (pe_op op_mod (pe_callTy c_int (by rfl) T.n_int (by rfl) (pa_cons (pe_op op_fdiv (pv 7) pe_int) pa_nil)) pe_int) pa_nil))))))
  (pss_one (ps_ret (pv 4)))))))), ?_⟩
    walk_at "g"
    refine ⟨a, ns, k, rfl, hS, hk, ?_⟩
    walk_at "g"
    refine ⟨by decide, fun l hl => ?_⟩
    have e1 : Ex H (upd H l (.lst [])) := Ex.new hl
    have l1 : (upd H l (.lst [])) l = some (.lst []) := upd_same
    generalize (upd H l (.lst [])) = H1 at e1 l1
    walk_at "g"
    refine ite_b (fun hb => ?_) (fun hb => ?_)
    · have hb' := of_decide_eq_true hb
      walk_at "g"
      refine lr1_go (fun i σ' H' => ∃ y, σ' = [some (.ref a), some (.int k), some (.int many), some (.int (cellF ns k)), some (.ref l), some (.int (restN i (cellF ns k - 10 ^ 18))), y, none] ∧ Ex H H' ∧ H' l = some (.lst ((restF i (cellF ns k - 10 ^ 18)).map V.int)))
        ⟨none, rfl, e1, l1⟩ ⟨hm, by omega⟩ ?_ ?_
      · rintro i σ' H' hi ⟨y, rfl, e2, l2⟩
        walk_at "g"
        refine r_app rfl l2 ?_
        walk_at "g"
        refine app_l l2 (by rw [List.length_map, restF_len]; exact sz_lt (by omega)) ?_
        walk_at "g"
        refine ⟨some (.int i), ?_, ex_upd e2 hl, ?_⟩
        · rw [restN_snoc]
          rfl
        · rw [upd_same, restF_snoc, List.map_append]
          rfl
      · rintro σ' H' ⟨y, rfl, e2, l2⟩
        walk_at "g"
        refine q l H' hl e2 ?_
        rw [l2]
        unfold drawsF
        rw [if_pos (show (10 : Int) ^ 18 ≤ cellF ns k from hb')]
    · have hb' := of_decide_eq_false hb
      walk_at "g"
      refine lr1_go (fun i σ' H' => ∃ y, σ' = [some (.ref a), some (.int k), some (.int many), some (.int (cellF ns k)), some (.ref l), none, y, some (.int (seedN i 0 ((cellF ns k * 7919 + k * 104729 + 12345) % 2147483647)))] ∧ Ex H H' ∧
        H' l = some (.lst ((seedF i 0 ((cellF ns k * 7919 + k * 104729 + 12345) % 2147483647)).map V.int)))
        ⟨none, rfl, e1, l1⟩ ⟨hm, by omega⟩ ?_ ?_
      · rintro i σ' H' hi ⟨y, rfl, e2, l2⟩
        walk_at "g"
        refine r_app rfl l2 ?_
        walk_at "g"
        refine app_l l2 (by rw [List.length_map, seedF_len]; exact sz_lt (by omega)) ?_
        walk_at "g"
        refine ⟨some (.int i), ?_, ex_upd e2 hl, ?_⟩
        · rw [seedN_snoc, Int.zero_add]
          rfl
        · rw [upd_same, seedF_snoc, List.map_append, Int.zero_add]
          rfl
      · rintro σ' H' ⟨y, rfl, e2, l2⟩
        walk_at "g"
        refine q l H' hl e2 ?_
        rw [l2]
        unfold drawsF
        rw [if_neg (show ¬ (10 : Int) ^ 18 ≤ cellF ns k from hb')]
end
end K01

set_option Elab.async false
set_option linter.all false
set_option maxRecDepth 100000
namespace K01
open PySem PySem.Spec PyProof.Rows L2 Evl AE
local macro_rules | `(tactic| walk_at "c") => `(tactic| first | exact ⟨by decide, by decide⟩ | exact .inr ⟨by decide, by decide⟩ | exact .inl ⟨by decide, by decide⟩ | exact ⟨by decide, by decide, by decide⟩ | (show (0 : Int) < _; decide))
local macro_rules | `(tactic| walk_at "s") => `(tactic| first
  | (with_reducible refine r_var rfl ?_) | (with_reducible refine r_c ?_) | (with_reducible refine r_op ?_) | (with_reducible refine r_un ?_) | (with_reducible refine r_I0 ?_) | (with_reducible refine r_U ?_)
  | (with_reducible refine r_eq rfl ?_) | (with_reducible refine r_ne rfl ?_) | (with_reducible refine r_chain ?_) | (with_reducible refine r_test ?_) | (with_reducible refine r_tB ?_)
  | (with_reducible refine r_bl ?_) | (with_reducible refine r_and ?_) | (with_reducible refine r_or ?_) | (with_reducible refine r_not ?_) | (with_reducible refine r_nil ?_) | (with_reducible refine r_cons ?_)
  | (with_reducible refine r_tup ?_) | (with_reducible refine r_lst ?_) | (with_reducible refine r_cb ?_) | (with_reducible refine r_call ?_) | (with_reducible refine r_seq ?_) | (with_reducible refine r_set ?_)
  | (with_reducible refine r_drop ?_) | (with_reducible refine r_ret ?_) | (with_reducible refine r_next ?_) | (with_reducible refine r_if ?_) | (with_reducible refine r_sl ?_) | (with_reducible refine r_nop ?_) | (with_reducible refine r_prt ?_) | (with_reducible refine r_some ?_)
  | (with_reducible refine add_int ?_) | (with_reducible refine int_i ?_) | (with_reducible refine r_forR1 ?_) | (with_reducible refine r_forL ?_) | (with_reducible refine r_andV ?_) | (with_reducible refine r_orV ?_) | (with_reducible refine r_notV ?_) | (with_reducible refine r_ifE ?_) | ((with_reducible refine r_I ?_ ?_); (walk_at "c")))
local macro_rules | `(tactic| walk_at "g") => `(tactic| repeat walk_at "s")
section
variable {P : Program} {w : World} {K : PySem.W.Frag} {mg : Str → Option Value} {base : Heap}
/-! ### what a machine's parts are held against -/
def sp_size : Sp := fun vs H Q _ => ∃ n : Int, vs = [.int n] ∧ 1 ≤ n ∧ n ≤ 200 ∧ Q .non H
theorem ok_size (T : Tp K mg) : FnOk P w K mg base CX0 1 T.a_check_size T.d_check_size ["size"] sp_size := by
  refine T.f_check_size.ok sc_check_size (fun vs H Q E h => ?_) (fun cdv A outer s H vs Q E hr h => ?_)
  · obtain ⟨n, rfl, _⟩ := h
    rfl
  · obtain ⟨n, rfl, h1, h2, q⟩ := h
    refine ⟨_, (pss_cons (ps_if (pt_cmpR op_lt (pv 0) pe_int (nomark _)) (pss_one ps_never) pss_nil)
  (pss_one (ps_if (pt_cmpR op_gt (pv 0) (pe_gi rfl T.k_MOST_STATES) (nomark _)) (pss_one ps_never) pss_nil))), ?_⟩
    walk_at "g"
    refine ite_f (decide_eq_false (by omega)) ?_
    walk_at "g"
    refine ite_f (decide_eq_false (by omega)) ?_
    walk_at "g"
    exact q
def sp_marks (K : PySem.W.Frag) : Sp := fun vs H Q _ => ∃ (n : Int) (a : Addr) (ms : List Int), vs = [.int n, .ref a] ∧ SqA K H a (ms.map V.int) ∧ (∀ m ∈ ms, 0 ≤ m ∧ m < n) ∧ Q .non H
theorem ok_marks (T : Tp K mg) : FnOk P w K mg base CX0 1 T.a_check_marks T.d_check_marks ["size", "marks"] (sp_marks K) := by
  refine T.f_check_marks.ok sc_check_marks (fun vs H Q E h => ?_) (fun cdv A outer s H vs Q E hr h => ?_)
  · obtain ⟨n, a, ms, rfl, _⟩ := h
    rfl
  · obtain ⟨n, a, ms, rfl, hS, hm, q⟩ := h
    refine ⟨_, (pss_one (ps_for PassesOwn.never rfl (pi_seq (pv 1)) (pg_name (i := 2) sc_check_marks.nd rfl (.inl rfl))
  (pss_one (ps_if (pt_not (pt_chain op_le op_lt pe_int (pv 2) (pv 0))) (pss_one ps_never) pss_nil)))), ?_⟩
    refine for_seq rfl hS (fun i σ' H' => ∃ y, σ' = [some (.int n), some (.ref a), y] ∧ H' = H) ⟨_, rfl, rfl⟩ (fun j σ' H' _ ⟨_, _, e⟩ => by rw [e]; exact Ex.refl H) ?_ ?_
    · rintro j x σ' H' hx ⟨y, rfl, rfl⟩
      obtain ⟨m, hm1, rfl⟩ := List.mem_map.mp (List.mem_of_getElem? hx)
      obtain ⟨m0, m1⟩ := hm m hm1
      show tIfS _ _ _ _ _ _
      walk_at "g"
      refine ite_t (decide_eq_true (by omega)) ?_
      walk_at "g"
      refine ite_f (by rw [decide_eq_true m1]; rfl) ?_
      walk_at "g"
      exact ⟨_, rfl, rfl⟩
    · rintro σ' H' ⟨y, rfl, rfl⟩
      exact q
def sp_ask : Sp := fun vs H Q _ => ∃ x : Str, vs = [.str x] ∧ 1 ≤ x.length ∧ x.length ≤ 8 ∧ (∀ c ∈ x.cps.toList, 97 ≤ c ∧ c ≤ 122) ∧ ∀ H', Ex H H' → Q (.bl true) H'
theorem ok_ask (T : Tp K mg) : FnOk P w K mg base CX0 1 T.a_is_ask T.d_is_ask ["ask"] sp_ask := by
  refine T.f_is_ask.ok sc_is_ask (fun vs H Q E h => ?_) (fun cdv A outer s H vs Q E hr h => ?_)
  · obtain ⟨x, rfl, _⟩ := h
    rfl
  · obtain ⟨x, rfl, h1, h2, hl, q⟩ := h
    refine ⟨_, (pss_one (ps_ret (pe_and (pe_chain op_le op_le pe_int (pe_callB c_len (by rfl) T.n_len (by rfl) (pa_cons (pv 0) pa_nil)) (pe_gi rfl T.k_LONGEST_ASK)) (pe_one (pe_callB (cr_all rfl) (by rfl) T.n_all (by rfl) (pa_cons (pe_lc (own := [("letter", 1)]) (g := gName 1) (tt := tYes) rfl sc_is_ask.nd (pi_str (pv 0)) (blkOk_by (N := N_is_ask) (sc := defScope s_is_ask) (by decide +kernel)) (fun _ _ _ _ _ => (pg_name (i := 1) sc_is_ask.nd rfl (.inl rfl))) (fun _ _ _ _ _ => pts_nil) (fun _ _ _ _ _ => (pe_chain op_le_str op_le_str pe_str (pv 1) pe_str))) pa_nil)))))), ?_⟩
    walk_at "g"
    refine len_s (sz_of (by omega)) ?_
    walk_at "g"
    refine ite_t (decide_eq_true (by omega)) ?_
    walk_at "g"
    refine ite_t (decide_eq_true (by omega)) ?_
    walk_at "g"
    refine lc_s (z := x) (fun _ => true) (fun _ => .bl true) (fun R k => ⟨_, rfl, k⟩) (by omega) (fun _ => rfl) yes_t ?_ fun D H1 hD e1 hl1 => ?_
    · intro y hy _ H1 e1 R k
      obtain ⟨c, hc, rfl⟩ := List.mem_map.mp hy
      obtain ⟨c1, c2⟩ := hl c hc
      walk_at "g"
      refine ⟨_, _, rfl, rfl, _, rfl, ?_⟩
      refine ite_t ?_ ?_
      · show (!decide ([c] < [97])) = true
        rw [decide_eq_false (by rw [List.cons_lt_cons_iff]; simp; omega)]
        rfl
      · walk_at "g"
        refine ⟨_, _, rfl, rfl, ?_⟩
        have z : (!decide ([122] < [c])) = true := by
          rw [decide_eq_false (by rw [List.cons_lt_cons_iff]; simp; omega)]
          rfl
        have k2 := k H1 (Ex.refl H1)
        rw [← z] at k2
        exact k2
    · walk_at "g"
      refine ⟨D, ((signsV x).filter fun _ => true).map fun _ => true, rfl, .inl (.inl ?_), ?_⟩
      · rw [hl1, List.map_map]
        rfl
      · have z : (((signsV x).filter fun _ => true).map fun _ => true).all id = true := by simp
        rw [z]
        exact q H1 e1
def sp_steps (K : PySem.W.Frag) : Sp := fun vs H Q _ => ∃ (n : Int) (a : Addr) (us : List V) (ss : List StepD), vs = [.int n, .ref a] ∧ SqA K H a us ∧ Tups H us (ss.map stepV) ∧ (∀ s ∈ ss, OkS n s) ∧ ∀ H', Ex H H' → Q .non H'
theorem ok_steps (T : Tp K mg) : FnOk P w K mg base CX0 2 T.a_check_steps T.d_check_steps ["size", "steps"] (sp_steps K) := by
  have G_is_ask : FnOk P w K mg base CX0 1 T.a_is_ask T.d_is_ask ["ask"] sp_ask := ok_ask T
  refine T.f_check_steps.ok sc_check_steps (fun vs H Q E h => ?_) (fun cdv A outer s H vs Q E hr h => ?_)
  · obtain ⟨n, a, us, ss, rfl, _⟩ := h
    rfl
  · obtain ⟨n, a, us, ss, rfl, hS, hT, hok, q⟩ := h
    refine ⟨_, (pss_one (ps_for PassesOwn.never rfl (pi_seq (pv 1)) (pg_tup rfl (pgs_cons (pg_name (i := 2) sc_check_steps.nd rfl (.inl rfl)) (pgs_cons (pg_name (i := 3) sc_check_steps.nd rfl (.inl rfl)) (pgs_cons (pg_name (i := 4) sc_check_steps.nd rfl (.inl rfl)) pgs_nil))))
  (pss_one (ps_if (pt_not (PW.pt (pw_and (pt_chain op_le op_lt pe_int (pv 2) (pv 0)) (pw_and (pt_val (pe_call G_is_ask (hr.mono (by decide)) (by rfl) T.g_is_ask T.f_is_ask.kp T.b_is_ask .nil pass0 (pa_cons (pv 3) pa_nil))) (pw_and1 (pt_chain op_le op_lt pe_int (pv 4) (pv 0))))))) (pss_one ps_never) pss_nil)))), ?_⟩
    refine for_seq rfl hS (fun i σ' H' => ∃ y2 y3 y4, σ' = [some (.int n), some (.ref a), y2, y3, y4] ∧ Ex H H') ⟨_, _, _, rfl, Ex.refl H⟩ (fun j σ' H' _ ⟨_, _, _, _, e⟩ => e) ?_ ?_
    · rintro j x σ' H' hx ⟨y2, y3, y4, rfl, e1⟩
      obtain ⟨z, hz, p, rfl, hp⟩ := hT.get hx
      obtain ⟨st, hst, rfl⟩ := List.mem_map.mp (List.mem_of_getElem? hz)
      have o := hok st hst
      refine ⟨p, stepV st, rfl, .inl (.inl (e1 _ _ hp)), rfl, _, _, rfl, _, _, rfl, _, _, rfl, rfl, ?_⟩
      show tIfS _ _ _ _ _ _
      walk_at "g"
      refine ite_t (decide_eq_true o.s0) ?_
      walk_at "g"
      refine ite_t (decide_eq_true o.s1) ?_
      walk_at "g"
      refine ⟨_, rfl, o.a0, o.a1, o.al, fun H2 e2 => ?_⟩
      walk_at "g"
      refine ite_t rfl ?_
      walk_at "g"
      refine ite_t (decide_eq_true o.e0) ?_
      walk_at "g"
      refine ite_f (by rw [decide_eq_true o.e1]; rfl) ?_
      walk_at "g"
      exact ⟨_, _, _, rfl, e1.trans e2⟩
    · rintro σ' H' ⟨y2, y3, y4, rfl, e1⟩
      exact q H' e1
end
end K01

set_option Elab.async false
set_option linter.all false
set_option maxRecDepth 100000
namespace K01
open PySem PySem.Spec PyProof.Rows L2 Evl AE
local macro_rules | `(tactic| walk_at "c") => `(tactic| first | exact ⟨by decide, by decide⟩ | exact .inr ⟨by decide, by decide⟩ | exact .inl ⟨by decide, by decide⟩ | exact ⟨by decide, by decide, by decide⟩ | (show (0 : Int) < _; decide))
local macro_rules | `(tactic| walk_at "s") => `(tactic| first
  | (with_reducible refine r_var rfl ?_) | (with_reducible refine r_c ?_) | (with_reducible refine r_op ?_) | (with_reducible refine r_un ?_) | (with_reducible refine r_I0 ?_) | (with_reducible refine r_U ?_)
  | (with_reducible refine r_eq rfl ?_) | (with_reducible refine r_ne rfl ?_) | (with_reducible refine r_chain ?_) | (with_reducible refine r_test ?_) | (with_reducible refine r_tB ?_)
  | (with_reducible refine r_bl ?_) | (with_reducible refine r_and ?_) | (with_reducible refine r_or ?_) | (with_reducible refine r_not ?_) | (with_reducible refine r_nil ?_) | (with_reducible refine r_cons ?_)
  | (with_reducible refine r_tup ?_) | (with_reducible refine r_lst ?_) | (with_reducible refine r_cb ?_) | (with_reducible refine r_call ?_) | (with_reducible refine r_seq ?_) | (with_reducible refine r_set ?_)
  | (with_reducible refine r_drop ?_) | (with_reducible refine r_ret ?_) | (with_reducible refine r_next ?_) | (with_reducible refine r_if ?_) | (with_reducible refine r_sl ?_) | (with_reducible refine r_nop ?_) | (with_reducible refine r_prt ?_) | (with_reducible refine r_some ?_)
  | (with_reducible refine add_int ?_) | (with_reducible refine int_i ?_) | (with_reducible refine r_forR1 ?_) | (with_reducible refine r_forL ?_) | (with_reducible refine r_andV ?_) | (with_reducible refine r_orV ?_) | (with_reducible refine r_notV ?_) | (with_reducible refine r_ifE ?_) | (with_reducible refine r_lcL ?_) | ((with_reducible refine r_I ?_ ?_); (walk_at "c")))
local macro_rules | `(tactic| walk_at "g") => `(tactic| repeat walk_at "s")
section
variable {P : Program} {w : World} {K : PySem.W.Frag} {mg : Str → Option Value} {base : Heap}
/-! ### the steps in order -/
/-- the names' dict: each name has a step of the row -/
structure Named (H : Hp) (kvs : List (Key × V)) (ss : List StepD) : Prop where
  nd : (kvs.map (·.1)).Nodup
  len : kvs.length ≤ ss.length
  val : ∀ k v, valV kvs k = some v → ∃ s ∈ ss, k = .inr (keyS s) ∧ TupAt H v (stepV s)
  has : ∀ s ∈ ss, Sum.inr (keyS s) ∈ kvs.map (·.1)
theorem Named.nil (H : Hp) : Named H [] [] := ⟨List.nodup_nil, Nat.le_refl _, fun _ _ h => (by cases h), fun _ h => (by cases h)⟩
theorem Named.put {H H' : Hp} {kvs : List (Key × V)} {ss : List StepD} {s : StepD} {v : V} (N : Named H kvs ss) (e : Tx H H') (hv : TupAt H' v (stepV s)) : Named H' (putK kvs (.inr (keyS s)) v) (ss ++ [s]) := by
  refine ⟨nd_put _ _ N.nd, ?_, fun k x h => ?_, fun z hz => ?_⟩
  · rw [List.length_append]
    exact Nat.le_trans (len_put _ _ _) (Nat.succ_le_succ N.len)
  · rw [valV_put] at h
    by_cases hk : k = .inr (keyS s)
    · rw [if_pos hk] at h
      cases h
      exact ⟨s, List.mem_append_right _ (List.mem_singleton.mpr rfl), hk, hv⟩
    · rw [if_neg hk] at h
      obtain ⟨z, hz, ez, tz⟩ := N.val k x h
      exact ⟨z, List.mem_append_left _ hz, ez, tz.tx e⟩
  · rw [keys_put]
    rcases List.mem_append.mp hz with hz | hz
    · split
      · exact N.has z hz
      · exact List.mem_append_left _ (N.has z hz)
    · cases List.mem_singleton.mp hz
      split
      · assumption
      · exact List.mem_append_right _ (List.mem_singleton.mpr rfl)
def unS : V → Str
  | .str y => y
  | _ => Str.empty
/-- what the sorted names lead to -/
theorem rows_of {H : Hp} {kvs : List (Key × V)} {ss : List StepD} {n : Int} (hn : n ≤ 200) (N : Named H kvs ss) (ok : ∀ s ∈ ss, OkS n s) {ys : List Str} (hp : ys.Perm (kvs.map fun kv => unS (kV kv.1))) (hs : sortedS ys = true) :
    ∃ rows : List StepD, rows.Pairwise ltS ∧ (∀ s, s ∈ rows ↔ s ∈ ss) ∧ rows.length ≤ ss.length ∧ ys = rows.map keyS ∧ Tups H (ys.map fun y => (valV kvs (.inr y)).getD .non) (rows.map stepV) := by
  have ks : ∀ k ∈ kvs.map (·.1), ∃ s ∈ ss, k = .inr (keyS s) := fun k hk => by
    obtain ⟨v, hv⟩ := Option.isSome_iff_exists.mp (val_some.mpr hk)
    obtain ⟨s, hs, e, _⟩ := N.val k v hv
    exact ⟨s, hs, e⟩
  have my : ∀ y, y ∈ ys ↔ Sum.inr y ∈ kvs.map (·.1) := fun y => by
    rw [hp.mem_iff, List.mem_map]
    constructor
    · rintro ⟨p, hp, rfl⟩
      obtain ⟨s, _, e⟩ := ks p.1 (List.mem_map.mpr ⟨p, hp, rfl⟩)
      have : Sum.inr (unS (kV p.1)) = p.1 := by rw [e]; rfl
      rw [this]
      exact List.mem_map.mpr ⟨p, hp, rfl⟩
    · intro h
      obtain ⟨p, hp, e⟩ := List.mem_map.mp h
      exact ⟨p, hp, by rw [e]; rfl⟩
  have nd : ys.Nodup := by
    refine (hp.nodup_iff).mpr ?_
    have : (kvs.map fun kv => unS (kV kv.1)) = (kvs.map (·.1)).map fun k => unS (kV k) := by rw [List.map_map]; rfl
    rw [this]
    show List.Pairwise (fun a b => a ≠ b) _
    rw [List.pairwise_map]
    refine List.Pairwise.imp_of_mem (fun {a b} ha hb hne h => hne ?_) N.nd
    obtain ⟨s, _, rfl⟩ := ks a ha
    obtain ⟨s2, _, rfl⟩ := ks b hb
    have h' : keyS s = keyS s2 := h
    rw [h']
  have pw := sorted_pw hs
  have all : ∀ y ∈ ys, ∃ s, s ∈ ss ∧ y = keyS s ∧ TupAt H ((valV kvs (.inr y)).getD .non) (stepV s) := fun y hy => by
    obtain ⟨v, hv⟩ := Option.isSome_iff_exists.mp (val_some.mpr ((my y).mp hy))
    obtain ⟨s, hs, e, tt⟩ := N.val _ v hv
    refine ⟨s, hs, Sum.inr.inj e, ?_⟩
    rw [hv]
    exact tt
  have main : ∀ zs : List Str, zs.Nodup → zs.Pairwise (fun a b => ¬ b.cps.toList < a.cps.toList) → (∀ y ∈ zs, ∃ s, s ∈ ss ∧ y = keyS s ∧ TupAt H ((valV kvs (.inr y)).getD .non) (stepV s)) →
      ∃ rows : List StepD, rows.Pairwise ltS ∧ (∀ s ∈ rows, s ∈ ss ∧ keyS s ∈ zs) ∧ zs = rows.map keyS ∧ Tups H (zs.map fun y => (valV kvs (.inr y)).getD .non) (rows.map stepV) := by
    intro zs
    induction zs with
    | nil => exact fun _ _ _ => ⟨[], .nil, fun _ h => (by cases h), rfl, .nil⟩
    | cons y zs ih =>
      intro nd pw al
      obtain ⟨rows, r1, r2, r3, r4⟩ := ih (List.nodup_cons.mp nd).2 (List.pairwise_cons.mp pw).2 fun z hz => al z (List.mem_cons_of_mem _ hz)
      obtain ⟨s, hs, rfl, tt⟩ := al _ (List.mem_cons_self ..)
      refine ⟨s :: rows, ?_, fun z hz => ?_, by rw [List.map_cons, r3], .cons tt r4⟩
      · rw [List.pairwise_cons]
        refine ⟨fun z hz => ?_, r1⟩
        obtain ⟨z1, z2⟩ := r2 z hz
        rcases ltS_tri s z with h | h | h
        · exact h
        · subst h
          exact absurd z2 (List.nodup_cons.mp nd).1
        · exact absurd (key_lt hn (ok z z1) (ok s hs) h) ((List.pairwise_cons.mp pw).1 _ z2)
      · rcases List.mem_cons.mp hz with rfl | hz
        · exact ⟨hs, List.mem_cons_self ..⟩
        · exact ⟨(r2 z hz).1, List.mem_cons_of_mem _ (r2 z hz).2⟩
  obtain ⟨rows, r1, r2, r3, r4⟩ := main ys nd pw all
  refine ⟨rows, r1, fun s => ⟨fun h => (r2 s h).1, fun h => ?_⟩, ?_, r3, r4⟩
  · have : keyS s ∈ ys := (my _).mpr (N.has s h)
    rw [r3] at this
    obtain ⟨z, hz, e⟩ := List.mem_map.mp this
    have := key_inj hn (ok z (r2 z hz).1) (ok s h) e
    rw [← this]
    exact hz
  · have e1 : rows.length = ys.length := by rw [r3, List.length_map]
    rw [e1, hp.length_eq, List.length_map]
    exact N.len
def sp_asc (K : PySem.W.Frag) : Sp := fun vs H Q _ => ∃ (n : Int) (a : Addr) (us : List V) (ss : List StepD), vs = [.ref a] ∧ SqA K H a us ∧ Tups H us (ss.map stepV) ∧ n ≤ 200 ∧ (∀ s ∈ ss, OkS n s) ∧ ss.length ≤ 1000 ∧
  ∀ (rows : List StepD) (ws : List V) (p : Addr) H', rows.Pairwise ltS → (∀ s, s ∈ rows ↔ s ∈ ss) → rows.length ≤ ss.length → H p = none → Ex H H' → H' p = some (.tup ws) → Tups H' ws (rows.map stepV) → Q (.ref p) H'
theorem ok_asc (T : Tp K mg) : FnOk P w K mg base CX0 1 T.a_ascending T.d_ascending ["steps"] (sp_asc K) := by
  refine T.f_ascending.ok sc_ascending (fun vs H Q E h => ?_) (fun cdv A outer s H vs Q E hr h => ?_)
  · obtain ⟨n, a, us, ss, rfl, _⟩ := h
    rfl
  · obtain ⟨n, a, us, ss, rfl, hS, hT, hn, hok, hl, q⟩ := h
    have hu := hu_of hr
    refine ⟨_, (pss_cons (ps_set (i := 1) sc_ascending.nd rfl (.inr rfl) (pe_dc (own := [("state", 2), ("ask", 3), ("end", 4)]) (g := gTup K 3 (gCons (gName 2) (gCons (gName 3) (gCons (gName 4) gNil)))) (tt := tYes) rfl sc_ascending.nd (pi_seq (pv 0)) (blkOk_by (N := N_ascending) (sc := defScope s_ascending) (by decide +kernel)) (fun _ _ _ _ _ => (pg_tup (by rfl) (pgs_cons (pg_name (i := 2) sc_ascending.nd rfl (.inl rfl)) (pgs_cons (pg_name (i := 3) sc_ascending.nd rfl (.inl rfl)) (pgs_cons (pg_name (i := 4) sc_ascending.nd rfl (.inl rfl)) pgs_nil))))) (fun _ _ _ _ _ => pts_nil) (fun _ _ _ _ _ => (pe_joined (PJ.cons (pe_fmtS_03d (pv 2)) (PJ.cons (pe_fmtS_l8 (pv 3)) (PJ.cons (pe_fmtS_03d (pv 4)) PJ.nil))))) (fun _ _ _ _ _ => (pe_tup (pa_cons (pv 2) (pa_cons (pv 3) (pa_cons (pv 4) pa_nil)))))))
  (pss_one (ps_ret (pe_callTy c_tuple (by rfl) T.n_tuple (by rfl) (pa_cons (pe_lc (own := [("name", 5)]) (g := gName 5) (tt := tYes) rfl sc_ascending.nd (pi_list (pe_callB c_sorted (by rfl) T.n_sorted (by rfl) (pa_cons (pe_lock (pe_lc (own := [("name", 5)]) (g := gName 5) (tt := tYes) rfl sc_ascending.nd (pi_keys (pv 1)) (blkOk_by (N := N_ascending) (sc := defScope s_ascending) (by decide +kernel)) (fun _ _ _ _ _ => (pg_name (i := 5) sc_ascending.nd rfl (.inl rfl))) (fun _ _ _ _ _ => pts_nil) (fun _ _ _ _ _ => (pe_callTy c_str (by rfl) T.n_str (by rfl) (pa_cons (pv 5) pa_nil))))) pa_nil))) (blkOk_by (N := N_ascending) (sc := defScope s_ascending) (by decide +kernel)) (fun _ _ _ _ _ => (pg_name (i := 5) sc_ascending.nd rfl (.inl rfl))) (fun _ _ _ _ _ => pts_nil) (fun _ _ _ _ _ => (pe_dget hu (pv 1) (pv 5) (fun _ _ => rfl)))) pa_nil))))), ?_⟩
    walk_at "g"
    have p3l : ∀ i, (p3 i).length = 3 := fun _ => rfl
    have sl : (sizeLine : Nat) = 16777216 := sizeLine_eq
    refine dc_seq rfl hS (fun D j H' => Ex H H' ∧ H D = none ∧ ∃ kvs, H' D = some (.dK kvs) ∧ Named H' kvs (ss.take j)) (fun D hD => ⟨Ex.new hD, hD, [], upd_same, Named.nil _⟩) (fun D j H' p => p.1) ?_ ?_
    · rintro D j x H' hx ⟨e1, hD, kvs, hk, N⟩
      obtain ⟨z, hz, b, rfl, hb⟩ := hT.get hx
      rw [List.getElem?_map] at hz
      obtain ⟨st, hst, rfl⟩ := Option.map_eq_some_iff.mp hz
      have o := hok st (List.mem_of_getElem? hst)
      have os1 := o.s1; have oe1 := o.e1; have oa1 := o.a1
      have pl : (pad8 st.2.1).length ≤ 8 := by
        show (st.2.1.cps ++ Array.replicate (8 - st.2.1.length) 32).size ≤ 8
        rw [Array.size_append, Array.size_replicate]
        have : st.2.1.cps.size = st.2.1.length := rfl
        omega
      refine ⟨b, stepV st, rfl, .inl (.inl (e1 _ _ hb)), rfl, _, _, rfl, _, _, rfl, _, _, rfl, rfl, rfl, ?_⟩
      refine yes_q (ite_t rfl ?_)
      refine ⟨_, rfl, _, rfl, o.s0, by omega, _, rfl, ?_, _, rfl, _, rfl, oa1, _, rfl, ?_, _, rfl, _, rfl, o.e0, by omega, _, rfl, ?_, ?_⟩
      · rw [Str.length_append]
        show 0 + 3 ≤ sizeLine
        omega
      · rw [Str.length_append, Str.length_append]
        show 0 + 3 + (pad8 st.2.1).length ≤ sizeLine
        omega
      · rw [Str.length_append, Str.length_append, Str.length_append]
        show 0 + 3 + (pad8 st.2.1).length + 3 ≤ sizeLine
        omega
      · refine js_nil ?_
        walk_at "g"
        refine ⟨by show 3 ≤ sizeLine; omega, fun p hp => ?_⟩
        have hpD : D ≠ p := ne_of_none hk hp
        have hk2 : (upd H' p (.tup (stepV st))) D = some (.dK kvs) := by rw [upd_ne hpD]; exact hk
        have tv : TupAt (upd (upd H' p (.tup (stepV st))) D (.dK (putK kvs (.inr (keyS st)) (.ref p)))) (.ref p) (stepV st) := ⟨p, rfl, by rw [upd_ne hpD.symm, upd_same]⟩
        refine ⟨kvs, .inr (keyS st), rfl, hk2, ?_, ex_upd (e1.trans (Ex.new hp)) hD, hD, _, upd_same, ?_⟩
        · have := N.len
          rw [List.length_take] at this
          omega
        · have tk : ss.take (j + 1) = ss.take j ++ [st] := by
            rw [List.take_add_one, hst]
            rfl
          rw [tk]
          exact N.put ((tx_ex (Ex.new hp)).trans (tx_dk hk2)) tv
    · rintro D H' ⟨e1, hD, kvs, hk, N⟩
      have lu : us.length = ss.length := by rw [hT.len, List.length_map]
      rw [lu, List.take_length] at N
      have kl := N.len
      walk_at "g"
      refine lc_k (kvs := kvs) (fun x => x) (fun H1 R k => ⟨_, rfl, k⟩) hk (by omega) (fun _ => rfl) ?_ fun L1 H1 hL1 e2 hl1 => ?_
      · intro x hx H2 R k
        obtain ⟨kv, hkv, rfl⟩ := List.mem_map.mp hx
        obtain ⟨s0, _, e0⟩ : ∃ s ∈ ss, kv.1 = .inr (keyS s) := by
          obtain ⟨v, hv⟩ := Option.isSome_iff_exists.mp (val_some.mpr (List.mem_map.mpr ⟨kv, hkv, rfl⟩))
          obtain ⟨s, hs, e, _⟩ := N.val _ v hv
          exact ⟨s, hs, e⟩
        rw [e0] at k ⊢
        walk_at "g"
        exact ⟨_, rfl, k⟩
      · walk_at "g"
        have kstr : (kvs.map fun kv => kV kv.1).map (fun x => x) = (kvs.map fun kv => unS (kV kv.1)).map V.str := by
          rw [List.map_map, List.map_map]
          refine List.map_congr_left fun kv hkv => ?_
          obtain ⟨v, hv⟩ := Option.isSome_iff_exists.mp (val_some.mpr (List.mem_map.mpr ⟨kv, hkv, rfl⟩))
          obtain ⟨s, hs, e, _⟩ := N.val _ v hv
          show kV kv.1 = V.str (unS (kV kv.1))
          rw [e]
          rfl
        rw [kstr] at hl1
        refine ⟨L1, _, rfl, .inl (.inl hl1), by rw [List.length_map]; omega, fun ys L2 hp hs hL2 => ?_⟩
        obtain ⟨rows, r1, r2, r3, r4, r5⟩ := rows_of hn N hok hp hs
        have e3 := e2.trans (Ex.new (o := .lst (ys.map V.str)) hL2)
        have yl : ys.length = rows.length := by rw [r4, List.length_map]
        refine lcl_go (fun _ => true) (fun x => (valV kvs (.inr (unS x))).getD .non) (.inl (.inl upd_same)) (by rw [List.length_map]; omega) (fun _ => rfl) yes_t ?_ fun L3 H3 hL3 e4 hl3 => ?_
        · intro x hx _ H2 e4 R k
          obtain ⟨y, hy, rfl⟩ := List.mem_map.mp hx
          rw [r4] at hy
          obtain ⟨s, hs, rfl⟩ := List.mem_map.mp hy
          obtain ⟨v, hv⟩ := Option.isSome_iff_exists.mp (val_some.mpr (N.has s ((r2 s).mp hs)))
          have g : DGet H2 D (.str (keyS s)) (some v) := by
            have g := DGet.k (k := Sum.inr (keyS s)) (e4 _ _ (e3 _ _ hk))
            rw [hv] at g
            exact g
          have k2 := k H2 (Ex.refl H2)
          have ev : (valV kvs (.inr (unS (.str (keyS s))))).getD .non = v := by
            show (valV kvs (.inr (keyS s))).getD .non = v
            rw [hv]
            rfl
          rw [ev] at k2
          exact ⟨_, rfl, _, rfl, D, _, rfl, g, k2⟩
        · walk_at "g"
          refine ⟨L3, _, rfl, .inl ⟨.inl (.inl hl3), fun p hp => ?_⟩⟩
          rw [filter_yes, List.map_map]
          refine q rows _ p _ r1 r2 r3 (fresh_back (e1.trans (e3.trans e4)) hp) ((e1.trans (e3.trans e4)).trans (Ex.new hp)) upd_same ?_
          exact r5.tx (tx_ex ((e3.trans e4).trans (Ex.new hp)))
end
end K01

set_option Elab.async false
set_option linter.all false
set_option maxRecDepth 100000
namespace K01
open PySem PySem.Spec PyProof.Rows L2 Evl AE
local macro_rules | `(tactic| walk_at "c") => `(tactic| first | exact ⟨by decide, by decide⟩ | exact .inr ⟨by decide, by decide⟩ | exact .inl ⟨by decide, by decide⟩ | exact ⟨by decide, by decide, by decide⟩ | (show (0 : Int) < _; decide))
local macro_rules | `(tactic| walk_at "s") => `(tactic| first
  | (with_reducible refine r_var rfl ?_) | (with_reducible refine r_c ?_) | (with_reducible refine r_op ?_) | (with_reducible refine r_un ?_) | (with_reducible refine r_I0 ?_) | (with_reducible refine r_U ?_)
  | (with_reducible refine r_eq rfl ?_) | (with_reducible refine r_ne rfl ?_) | (with_reducible refine r_chain ?_) | (with_reducible refine r_test ?_) | (with_reducible refine r_tB ?_)
  | (with_reducible refine r_bl ?_) | (with_reducible refine r_and ?_) | (with_reducible refine r_or ?_) | (with_reducible refine r_not ?_) | (with_reducible refine r_nil ?_) | (with_reducible refine r_cons ?_)
  | (with_reducible refine r_tup ?_) | (with_reducible refine r_lst ?_) | (with_reducible refine r_cb ?_) | (with_reducible refine r_call ?_) | (with_reducible refine r_seq ?_) | (with_reducible refine r_set ?_)
  | (with_reducible refine r_drop ?_) | (with_reducible refine r_ret ?_) | (with_reducible refine r_next ?_) | (with_reducible refine r_if ?_) | (with_reducible refine r_sl ?_) | (with_reducible refine r_nop ?_) | (with_reducible refine r_prt ?_) | (with_reducible refine r_some ?_)
  | (with_reducible refine add_int ?_) | (with_reducible refine int_i ?_) | (with_reducible refine r_forR1 ?_) | (with_reducible refine r_forL ?_) | (with_reducible refine r_andV ?_) | (with_reducible refine r_orV ?_) | (with_reducible refine r_notV ?_) | (with_reducible refine r_ifE ?_) | (with_reducible refine r_lcL ?_) | (with_reducible refine r_fld ?_) | (with_reducible refine r_get ?_) | (with_reducible refine r_din ?_) | (with_reducible refine r_dget2 ?_) | ((with_reducible refine r_I ?_ ?_); (walk_at "c")))
local macro_rules | `(tactic| walk_at "g") => `(tactic| repeat walk_at "s")
section
variable {P : Program} {w : World} {K : PySem.W.Frag} {mg : Str → Option Value} {base : Heap}
def EndsAt (H : Hp) (d : Addr) (rows : List StepD) : Prop := ∃ kvs : List (List Key × V), H d = some (.dT kvs) ∧ GrpT H kvs (endsF rows)
def sp_ends (K : PySem.W.Frag) : Sp := fun vs H Q _ => ∃ (a : Addr) (us : List V) (rows : List StepD), vs = [.ref a] ∧ SqT K H a us ∧ Tups H us (rows.map stepV) ∧ rows.length ≤ 1000 ∧
  ∀ p H', H p = none → Ex H H' → EndsAt H' p rows → Q (.ref p) H'
theorem ok_ends (T : Tp K mg) : FnOk P w K mg base CX0 1 T.a_ends_by_ask T.d_ends_by_ask ["steps"] (sp_ends K) := by
  refine T.f_ends_by_ask.ok sc_ends_by_ask (fun vs H Q E h => ?_) (fun cdv A outer s H vs Q E hr h => ?_)
  · obtain ⟨a, us, rows, rfl, _⟩ := h
    rfl
  · obtain ⟨a, us, rows, rfl, hS, hT, hl, q⟩ := h
    have hu := hu_of hr
    refine ⟨_, (pss_cons (ps_set (i := 1) sc_ends_by_ask.nd rfl (.inr rfl) pe_dnewT)
  (pss_cons (ps_for PassesOwn.never rfl (pi_tup (pv 0)) (pg_tup (by rfl) (pgs_cons (pg_name (i := 2) sc_ends_by_ask.nd rfl (.inl rfl)) (pgs_cons (pg_name (i := 3) sc_ends_by_ask.nd rfl (.inl rfl)) (pgs_cons (pg_name (i := 4) sc_ends_by_ask.nd rfl (.inl rfl)) pgs_nil))))
  (pss_one (ps_expr (pe_bm PySem.F.plainAttrs_list PySem.F.slot_list_append PySem.F.type_list_append mt_append (pe_setdT hu (pv 1) (pe_tup (pa_cons (pv 2) (pa_cons (pv 3) pa_nil))) (pe_lst pa_nil) ⟨rfl, rfl, rfl, rfl⟩) (pa_cons (pv 4) pa_nil)))))
  (pss_one (ps_ret (pe_lock (pe_dcT (own := [("place", 5)]) (g := gName 5) (tt := tYes) (Nat.lt_of_succ_lt hu) rfl sc_ends_by_ask.nd (pi_keys (pv 1)) (blkOk_by (N := N_ends_by_ask) (sc := defScope s_ends_by_ask) (by decide +kernel)) (fun _ _ _ _ _ => (pg_name (i := 5) sc_ends_by_ask.nd rfl (.inl rfl))) (fun _ _ _ _ _ => pts_nil) (fun _ _ _ _ _ => (pv 5)) (fun _ _ _ _ _ => (pe_callTy (c_tupleK (K := K)) (by rfl) T.n_tuple (by rfl) (pa_cons (pe_dget hu (pv 1) (pv 5) (fun _ _ => rfl)) pa_nil))))))))), ?_⟩
    walk_at "g"
    intro d hd
    have e1 : Ex H (upd H d (.dT [])) := Ex.new hd
    have d1 : (upd H d (.dT [])) d = some (.dT []) := upd_same
    generalize (upd H d (.dT [])) = H1 at e1 d1
    walk_at "g"
    refine for_t rfl (ex_t e1 hS) (fun j σ' H' => ∃ y2 y3 y4 kvs, σ' = [some (.ref a), some (.ref d), y2, y3, y4, none] ∧ Ex H H' ∧ H' d = some (.dT kvs) ∧ kvs.length ≤ j ∧ Grp H H' kvs (endsF (rows.take j)))
      ⟨_, _, _, _, rfl, e1, d1, Nat.le_refl _, Grp.nil fun _ => rfl⟩ (fun j σ' H' _ ⟨_, _, _, _, _, e, _⟩ => ex_t e hS) ?_ ?_
    · rintro j x σ' H' hx ⟨y2, y3, y4, kvs, rfl, e2, d2, kl, g⟩
      obtain ⟨z, hz, p, rfl, hp⟩ := hT.get hx
      rw [List.getElem?_map] at hz
      obtain ⟨st, hst, rfl⟩ := Option.map_eq_some_iff.mp hz
      have hj : j < rows.length := (List.getElem?_eq_some_iff.mp hst).1
      have tk : rows.take (j + 1) = rows.take j ++ [st] := by
        rw [List.take_add_one, hst]
        rfl
      refine ⟨p, stepV st, rfl, .inl (.inl (e2 _ _ hp)), rfl, _, _, rfl, _, _, rfl, _, _, rfl, rfl, ?_⟩
      walk_at "g"
      refine ⟨_, rfl, d, rfl, .inr ⟨kvs, .inl d2⟩, ?_⟩
      walk_at "g"
      refine ⟨sz_of (by show 2 ≤ 100000; decide), fun kp hkp => ?_⟩
      walk_at "g"
      refine ⟨sz_of (by show 0 ≤ 100000; decide), fun lp hlp => ?_⟩
      have dk : d ≠ kp := ne_of_none d2 hkp
      have dl : d ≠ lp := ne_of_none (show (upd H' kp _) d = some _ by rw [upd_ne dk]; exact d2) hlp
      have kl' : kp ≠ lp := ne_of_none upd_same hlp
      have hlp' : H' lp = none := by rw [upd_ne kl'.symm] at hlp; exact hlp
      have e3 : Ex H' (upd (upd H' kp (.tup [.int st.1, .str st.2.1])) lp (.lst [])) := (Ex.new hkp).trans (Ex.new hlp)
      refine ⟨kvs, [.inl st.1, .inr st.2.1], kp, e3 _ _ d2, rfl, by rw [upd_ne kl', upd_same]; rfl, sz_lt (by omega), fun v hv => ?_, fun hn => ?_⟩
      · obtain ⟨l, rfl, h2, h3, h4⟩ := g.val _ _ hv
        have ld : l ≠ d := ne_of h2 d2 (by intro z; cases z)
        refine ⟨.inl ⟨rfl, _, .inl (.inl (e3 _ _ h2))⟩, ?_⟩
        walk_at "g"
        refine app_l (e3 _ _ h2) ?_ ?_
        · refine sz_lt ?_
          unfold endsF
          rw [List.length_map]
          have := List.length_filter_le (fun s : StepD => decide ([Sum.inl s.1, Sum.inr s.2.1] = ([.inl st.1, .inr st.2.1] : List Key))) (rows.take j)
          rw [List.length_take] at this
          omega
        · walk_at "g"
          refine ⟨_, _, _, kvs, rfl, ex_upd (e2.trans e3) h3, by rw [upd_ne ld.symm]; exact e3 _ _ d2, by omega, ?_⟩
          have gg := g.more (H' := upd (upd (upd H' kp (.tup [.int st.1, .str st.2.1])) lp (.lst [])) l (.lst (endsF (rows.take j) [.inl st.1, .inr st.2.1] ++ [.int st.2.2]))) hv (fun b xs hb h => by rw [upd_ne hb]; exact e3 _ _ h) upd_same
          have ee : endsF (rows.take (j + 1)) = fun k' => if k' = [.inl st.1, .inr st.2.1] then endsF (rows.take j) [.inl st.1, .inr st.2.1] ++ [.int st.2.2] else endsF (rows.take j) k' := by
            funext k'
            rw [tk, endsF_snoc]
          rw [ee]
          exact gg
      · have hl4 : (upd (upd (upd H' kp (.tup [.int st.1, .str st.2.1])) lp (.lst [])) d (.dT (putK kvs [.inl st.1, .inr st.2.1] (.ref lp)))) lp = some (.lst []) := by rw [upd_ne dl.symm, upd_same]
        refine ⟨.inl ⟨rfl, _, .inl (.inl hl4)⟩, ?_⟩
        walk_at "g"
        refine app_l hl4 (sz_lt (by decide)) ?_
        walk_at "g"
        have hlp0 : H lp = none := fresh_back e2 hlp'
        refine ⟨_, _, _, _, rfl, ex_upd (ex_upd (e2.trans e3) hd) hlp0, by rw [upd_ne dl, upd_same], Nat.le_trans (len_put _ _ _) (by omega), ?_⟩
        have ee : endsF (rows.take (j + 1)) = fun k' => if k' = [.inl st.1, .inr st.2.1] then endsF (rows.take j) [.inl st.1, .inr st.2.1] ++ [.int st.2.2] else endsF (rows.take j) k' := by
          funext k'
          rw [tk, endsF_snoc]
        rw [ee]
        refine g.new hn hlp' hlp0 (fun b xs hb h => ?_) upd_same
        rw [upd_ne hb, upd_ne (ne_of h d2 (by intro z; cases z))]
        exact e3 _ _ h
    · rintro σ' H' ⟨y2, y3, y4, kvs, rfl, e2, d2, kl, g⟩
      have lu : us.length = rows.length := by rw [hT.len, List.length_map]
      rw [lu, List.take_length] at g
      rw [lu] at kl
      walk_at "g"
      refine grp_tupT rfl (fun _ => rfl) (fun _ => rfl) (fun _ => rfl) d2 g (by omega) fun p H2 hp e3 k2 => ?_
      exact q p H2 (fresh_back e2 hp) (e2.trans e3) k2
/-- at each state: tuples of its pairs -/
def pairsF (rows : List StepD) (k : Key) : List StepD := rows.filter fun s => decide (Sum.inl s.1 = k)
def PairsAt (H : Hp) (d : Addr) (rows : List StepD) : Prop := ∃ (kvs : List (Key × V)) (G : Key → List V), H d = some (.dK kvs) ∧ GrpT H kvs G ∧ ∀ k, Tups H (G k) ((pairsF rows k).map pairD)
theorem pairsF_snoc (rows : List StepD) (s : StepD) (k : Key) : pairsF (rows ++ [s]) k = if k = .inl s.1 then pairsF rows (.inl s.1) ++ [s] else pairsF rows k := by
  unfold pairsF
  rw [List.filter_append]
  by_cases h : k = .inl s.1
  · rw [if_pos h, h, List.filter_cons, if_pos (decide_eq_true rfl)]
    rfl
  · rw [if_neg h, List.filter_cons, if_neg (by rw [decide_eq_false (fun q => h q.symm)]; decide)]
    simp
def sp_pairs (K : PySem.W.Frag) : Sp := fun vs H Q _ => ∃ (a : Addr) (us : List V) (rows : List StepD), vs = [.ref a] ∧ SqT K H a us ∧ Tups H us (rows.map stepV) ∧ rows.length ≤ 1000 ∧
  ∀ p H', H p = none → Ex H H' → PairsAt H' p rows → Q (.ref p) H'
theorem ok_pairs (T : Tp K mg) : FnOk P w K mg base CX0 1 T.a_pairs_by_state T.d_pairs_by_state ["steps"] (sp_pairs K) := by
  refine T.f_pairs_by_state.ok sc_pairs_by_state (fun vs H Q E h => ?_) (fun cdv A outer s H vs Q E hr h => ?_)
  · obtain ⟨a, us, rows, rfl, _⟩ := h
    rfl
  · obtain ⟨a, us, rows, rfl, hS, hT, hl, q⟩ := h
    have hu := hu_of hr
    refine ⟨_, (pss_cons (ps_set (i := 1) sc_pairs_by_state.nd rfl (.inr rfl) pe_dnewK)
  (pss_cons (ps_for PassesOwn.never rfl (pi_tup (pv 0)) (pg_tup (by rfl) (pgs_cons (pg_name (i := 2) sc_pairs_by_state.nd rfl (.inl rfl)) (pgs_cons (pg_name (i := 3) sc_pairs_by_state.nd rfl (.inl rfl)) (pgs_cons (pg_name (i := 4) sc_pairs_by_state.nd rfl (.inl rfl)) pgs_nil))))
  (pss_one (ps_expr (pe_bm PySem.F.plainAttrs_list PySem.F.slot_list_append PySem.F.type_list_append mt_append (pe_dsetd (pv 1) (pv 2) (pe_lst pa_nil) ⟨rfl, rfl, rfl, rfl⟩) (pa_cons (pe_tup (pa_cons (pv 3) (pa_cons (pv 4) pa_nil))) pa_nil)))))
  (pss_one (ps_ret (pe_lock (pe_dc (own := [("state", 2)]) (g := gName 2) (tt := tYes) rfl sc_pairs_by_state.nd (pi_keys (pv 1)) (blkOk_by (N := N_pairs_by_state) (sc := defScope s_pairs_by_state) (by decide +kernel)) (fun _ _ _ _ _ => (pg_name (i := 2) sc_pairs_by_state.nd rfl (.inl rfl))) (fun _ _ _ _ _ => pts_nil) (fun _ _ _ _ _ => (pv 2)) (fun _ _ _ _ _ => (pe_callTy (c_tupleK (K := K)) (by rfl) T.n_tuple (by rfl) (pa_cons (pe_dget hu (pv 1) (pv 2) (fun _ _ => rfl)) pa_nil))))))))), ?_⟩
    walk_at "g"
    intro d hd
    have e1 : Ex H (upd H d (.dK [])) := Ex.new hd
    have d1 : (upd H d (.dK [])) d = some (.dK []) := upd_same
    generalize (upd H d (.dK [])) = H1 at e1 d1
    walk_at "g"
    refine for_t rfl (ex_t e1 hS) (fun j σ' H' => ∃ y2 y3 y4 kvs G, σ' = [some (.ref a), some (.ref d), y2, y3, y4] ∧ Ex H H' ∧ H' d = some (.dK kvs) ∧ kvs.length ≤ j ∧ Grp H H' kvs G ∧ ∀ k, Tups H' (G k) ((pairsF (rows.take j) k).map pairD))
      ⟨_, _, _, _, fun _ => [], rfl, e1, d1, Nat.le_refl _, Grp.nil fun _ => rfl, fun _ => .nil⟩ (fun j σ' H' _ ⟨_, _, _, _, _, _, e, _⟩ => ex_t e hS) ?_ ?_
    · rintro j x σ' H' hx ⟨y2, y3, y4, kvs, G, rfl, e2, d2, kl, g, tps⟩
      obtain ⟨z, hz, p, rfl, hp⟩ := hT.get hx
      rw [List.getElem?_map] at hz
      obtain ⟨st, hst, rfl⟩ := Option.map_eq_some_iff.mp hz
      have hj : j < rows.length := (List.getElem?_eq_some_iff.mp hst).1
      have tk : rows.take (j + 1) = rows.take j ++ [st] := by
        rw [List.take_add_one, hst]
        rfl
      have glen : ∀ k, (G k).length ≤ 1000 := fun k => by
        rw [(tps k).len, List.length_map]
        unfold pairsF
        have := List.length_filter_le (fun s : StepD => decide (Sum.inl s.1 = k)) (rows.take j)
        rw [List.length_take] at this
        omega
      refine ⟨p, stepV st, rfl, .inl (.inl (e2 _ _ hp)), rfl, _, _, rfl, _, _, rfl, _, _, rfl, rfl, ?_⟩
      walk_at "g"
      refine ⟨_, rfl, d, rfl, .inl ⟨kvs, .inl d2⟩, ?_⟩
      walk_at "g"
      refine ⟨sz_of (by show 0 ≤ 100000; decide), fun lp hlp => ?_⟩
      have dl : d ≠ lp := ne_of_none d2 hlp
      have e3 : Ex H' (upd H' lp (.lst [])) := Ex.new hlp
      have new : ∀ {H5 : Hp} {G' : List V} {tp : Addr}, Tx H' H5 → H5 tp = some (.tup (pairD st)) → G' = G (.inl st.1) → ∀ k', Tups H5 (if k' = .inl st.1 then G' ++ [.ref tp] else G k') ((pairsF (rows.take (j + 1)) k').map pairD) := fun {H5 G' tp} t5 h5 eg k' => by
        rw [tk, pairsF_snoc]
        by_cases zz : k' = .inl st.1
        · rw [if_pos zz, if_pos zz, List.map_append, eg]
          exact ((tps _).tx t5).snoc ⟨tp, rfl, h5⟩
        · rw [if_neg zz, if_neg zz]
          exact (tps k').tx t5
      refine ⟨kvs, .inl st.1, e3 _ _ d2, rfl, sz_lt (by omega), fun v hv => ?_, fun hn => ?_⟩
      · obtain ⟨l, rfl, h2, h3, h4⟩ := g.val _ _ hv
        have ld : l ≠ d := ne_of h2 d2 (by intro z; cases z)
        refine ⟨.inl ⟨rfl, _, .inl (.inl (e3 _ _ h2))⟩, ?_⟩
        walk_at "g"
        refine ⟨sz_of (by show 2 ≤ 100000; decide), fun tp htp => ?_⟩
        have e4 : Ex H' (upd (upd H' lp (.lst [])) tp (.tup (pairD st))) := e3.trans (Ex.new htp)
        have ltp : l ≠ tp := ne_of_none (e3 _ _ h2) htp
        walk_at "g"
        refine app_l (e4 _ _ h2) (sz_lt (by have := glen (.inl st.1); omega)) ?_
        walk_at "g"
        refine ⟨_, _, _, kvs, _, rfl, ex_upd (e2.trans e4) h3, by rw [upd_ne ld.symm]; exact e4 _ _ d2, by omega, g.more (x := .ref tp) hv (fun b xs hb h => by rw [upd_ne hb]; exact e4 _ _ h) upd_same, ?_⟩
        exact new ((tx_ex e4).trans (tx_lst (e4 _ _ h2))) (by rw [upd_ne ltp.symm, upd_same]; rfl) rfl
      · have hl4 : (upd (upd H' lp (.lst [])) d (.dK (putK kvs (.inl st.1) (.ref lp)))) lp = some (.lst []) := by rw [upd_ne dl.symm, upd_same]
        have hd4 : (upd (upd H' lp (.lst [])) d (.dK (putK kvs (.inl st.1) (.ref lp)))) d = some (.dK (putK kvs (.inl st.1) (.ref lp))) := upd_same
        refine ⟨.inl ⟨rfl, _, .inl (.inl hl4)⟩, ?_⟩
        walk_at "g"
        refine ⟨sz_of (by show 2 ≤ 100000; decide), fun tp htp => ?_⟩
        have hlp0 : H lp = none := fresh_back e2 hlp
        have ltp : lp ≠ tp := ne_of_none hl4 htp
        have dtp : d ≠ tp := ne_of_none hd4 htp
        walk_at "g"
        refine app_l (Ex.new htp _ _ hl4) (sz_lt (by decide)) ?_
        walk_at "g"
        have gk : G (.inl st.1) = [] := by
          by_cases zz : G (.inl st.1) = []
          · exact zz
          · have := g.has _ zz
            rw [hn] at this
            cases this
        refine ⟨_, _, _, _, _, rfl, ex_upd ((ex_upd (e2.trans e3) hd).trans (Ex.new htp)) hlp0, by rw [upd_ne dl]; exact Ex.new htp _ _ hd4, Nat.le_trans (len_put _ _ _) (by omega), g.new (x := .ref tp) hn hlp hlp0 (fun b xs hb h => ?_) upd_same, ?_⟩
        · rw [upd_ne hb]
          refine Ex.new htp _ _ ?_
          rw [upd_ne (ne_of h d2 (by intro z; cases z))]
          exact e3 _ _ h
        · exact new (((tx_ex e3).trans (tx_dk (e3 _ _ d2))).trans ((tx_ex (Ex.new htp)).trans (tx_lst (Ex.new htp _ _ hl4)))) (by rw [upd_ne ltp.symm, upd_same]; rfl) rfl
    · rintro σ' H' ⟨y2, y3, y4, kvs, G, rfl, e2, d2, kl, g, tps⟩
      have lu : us.length = rows.length := by rw [hT.len, List.length_map]
      rw [lu, List.take_length] at tps
      rw [lu] at kl
      walk_at "g"
      refine grp_tupK trivial rfl (fun _ => rfl) (fun _ => rfl) (fun _ => rfl) d2 g (by omega) fun p H2 hp e3 ⟨k2, h2, h3⟩ => ?_
      exact q p H2 (fresh_back e2 hp) (e2.trans e3) ⟨k2, G, h2, h3, fun k => (tps k).tx (tx_ex e3)⟩
end
end K01

set_option Elab.async false
set_option linter.all false
set_option maxRecDepth 100000
namespace K01
open PySem PySem.Spec PyProof.Rows L2 Evl AE
local macro_rules | `(tactic| walk_at "c") => `(tactic| first | exact ⟨by decide, by decide⟩ | exact .inr ⟨by decide, by decide⟩ | exact .inl ⟨by decide, by decide⟩ | exact ⟨by decide, by decide, by decide⟩ | (show (0 : Int) < _; decide))
local macro_rules | `(tactic| walk_at "s") => `(tactic| first
  | (with_reducible refine r_var rfl ?_) | (with_reducible refine r_c ?_) | (with_reducible refine r_op ?_) | (with_reducible refine r_un ?_) | (with_reducible refine r_I0 ?_) | (with_reducible refine r_U ?_)
  | (with_reducible refine r_eq rfl ?_) | (with_reducible refine r_ne rfl ?_) | (with_reducible refine r_chain ?_) | (with_reducible refine r_test ?_) | (with_reducible refine r_tB ?_)
  | (with_reducible refine r_bl ?_) | (with_reducible refine r_and ?_) | (with_reducible refine r_or ?_) | (with_reducible refine r_not ?_) | (with_reducible refine r_nil ?_) | (with_reducible refine r_cons ?_)
  | (with_reducible refine r_tup ?_) | (with_reducible refine r_lst ?_) | (with_reducible refine r_cb ?_) | (with_reducible refine r_call ?_) | (with_reducible refine r_seq ?_) | (with_reducible refine r_set ?_)
  | (with_reducible refine r_drop ?_) | (with_reducible refine r_ret ?_) | (with_reducible refine r_next ?_) | (with_reducible refine r_if ?_) | (with_reducible refine r_sl ?_) | (with_reducible refine r_nop ?_) | (with_reducible refine r_prt ?_) | (with_reducible refine r_some ?_)
  | (with_reducible refine add_int ?_) | (with_reducible refine int_i ?_) | (with_reducible refine r_forR1 ?_) | (with_reducible refine r_forL ?_) | (with_reducible refine r_andV ?_) | (with_reducible refine r_orV ?_) | (with_reducible refine r_notV ?_) | (with_reducible refine r_ifE ?_) | (with_reducible refine r_lcL ?_) | (with_reducible refine r_fld ?_) | (with_reducible refine r_get ?_) | (with_reducible refine r_din ?_) | (with_reducible refine r_dget2 ?_) | ((with_reducible refine r_I ?_ ?_); (walk_at "c")))
local macro_rules | `(tactic| walk_at "g") => `(tactic| repeat walk_at "s")
section
variable {P : Program} {w : World} {K : PySem.W.Frag} {mg : Str → Option Value} {base : Heap}
theorem Ch.trans {x : Addr} {H H1 H2 : Hp} (a : Ch x H H1) (b : Ch x H1 H2) : Ch x H H2 := fun c o n h => b c o n (a c o n h)
theorem ch_ex {x : Addr} {H H1 : Hp} (e : Ex H H1) : Ch x H H1 := fun c o _ h => e c o h
theorem tx_ins {H H' : Hp} {x C dx : Addr} {fs : List (Str × V)} (hx : H x = some (.ins C dx fs)) (c : Ch x H H') : Tx H H' := fun a xs h => c a _ (fun z => by subst z; rw [hx] at h; cases h) h
structure Mach where
  size : Int
  marks : List Int
  rows : List StepD
  now : Int
def marksF (n : Int) (ms : List Int) : List Int := ((List.range n.toNat).map fun (k : Nat) => (k : Int)).filter fun k => decide (k ∈ ms)
def MachAt (H : Hp) (x C : Addr) (m : Mach) : Prop := ∃ (dx pm ps de dp : Addr) (us : List V), H x = some (.ins C dx [("size", .int m.size), ("marks", .ref pm), ("steps", .ref ps), ("now", .int m.now), ("_ends", .ref de), ("_pairs", .ref dp)]) ∧
    H pm = some (.tup (m.marks.map V.int)) ∧ H ps = some (.tup us) ∧ Tups H us (m.rows.map stepV) ∧ EndsAt H de m.rows ∧ PairsAt H dp m.rows
theorem EndsAt.ch {H H' : Hp} {x C dx d : Addr} {fs : List (Str × V)} {rows : List StepD} (hx : H x = some (.ins C dx fs)) (c : Ch x H H') (h : EndsAt H d rows) : EndsAt H' d rows := by
  obtain ⟨kvs, h1, h2⟩ := h
  exact ⟨kvs, c _ _ (ne_of h1 hx (by intro z; cases z)) h1, h2.tx (tx_ins hx c)⟩
theorem PairsAt.ch {H H' : Hp} {x C dx d : Addr} {fs : List (Str × V)} {rows : List StepD} (hx : H x = some (.ins C dx fs)) (c : Ch x H H') (h : PairsAt H d rows) : PairsAt H' d rows := by
  obtain ⟨kvs, G, h1, h2, h3⟩ := h
  exact ⟨kvs, G, c _ _ (ne_of h1 hx (by intro z; cases z)) h1, h2.tx (tx_ins hx c), fun k => (h3 k).tx (tx_ins hx c)⟩
theorem EndsAt.ex {H H' : Hp} {d : Addr} {rows : List StepD} (e : Ex H H') (h : EndsAt H d rows) : EndsAt H' d rows := by
  obtain ⟨kvs, h1, h2⟩ := h
  exact ⟨kvs, e _ _ h1, h2.tx (tx_ex e)⟩
theorem PairsAt.ex {H H' : Hp} {d : Addr} {rows : List StepD} (e : Ex H H') (h : PairsAt H d rows) : PairsAt H' d rows := by
  obtain ⟨kvs, G, h1, h2, h3⟩ := h
  exact ⟨kvs, G, e _ _ h1, h2.tx (tx_ex e), fun k => (h3 k).tx (tx_ex e)⟩
theorem MachAt.ex {H H' : Hp} {x C : Addr} {m : Mach} (e : Ex H H') (h : MachAt H x C m) : MachAt H' x C m := by
  obtain ⟨dx, pm, ps, de, dp, us, h1, h2, h3, h4, h5, h6⟩ := h
  exact ⟨dx, pm, ps, de, dp, us, e _ _ h1, e _ _ h2, e _ _ h3, h4.tx (tx_ex e), h5.ex e, h6.ex e⟩
/-- a machine as it is made from its parts -/
structure Made (n : Int) (ms : List Int) (ss : List StepD) (now : Int) (m : Mach) : Prop where
  size : m.size = n
  marks : m.marks = marksF n ms
  up : m.rows.Pairwise ltS
  mem : ∀ s, s ∈ m.rows ↔ s ∈ ss
  len : m.rows.length ≤ ss.length
  now : m.now = now
def sp_init (K : PySem.W.Frag) : Sp := fun vs H Q _ => ∃ (x C dx am as : Addr) (n now : Int) (ms : List Int) (us : List V) (ss : List StepD), vs = [.ref x, .int n, .ref am, .ref as, .int now] ∧ H x = some (.ins C dx []) ∧ MCls K C ∧ 1 ≤ n ∧ n ≤ 200 ∧
  SqA K H am (ms.map V.int) ∧ (∀ m ∈ ms, 0 ≤ m ∧ m < n) ∧ ms.length ≤ 1000 ∧ SqA K H as us ∧ Tups H us (ss.map stepV) ∧ (∀ s ∈ ss, OkS n s) ∧ ss.length ≤ 600 ∧ 0 ≤ now ∧ now < n ∧
  ∀ m H', Made n ms ss now m → MachAt H' x C m → Ch x H H' → Q .non H'
theorem ok_init (T : Tp K mg) : FnOk P w K mg base CX0 3 T.a_Machine___init__ T.d_Machine___init__ ["self", "size", "marks", "steps", "now"] (sp_init K) := by
  have G_check_size : FnOk P w K mg base CX0 1 T.a_check_size T.d_check_size ["size"] sp_size := ok_size T
  have G_check_marks : FnOk P w K mg base CX0 1 T.a_check_marks T.d_check_marks ["size", "marks"] (sp_marks K) := ok_marks T
  have G_check_steps : FnOk P w K mg base CX0 2 T.a_check_steps T.d_check_steps ["size", "steps"] (sp_steps K) := ok_steps T
  have G_ascending : FnOk P w K mg base CX0 1 T.a_ascending T.d_ascending ["steps"] (sp_asc K) := ok_asc T
  have G_ends_by_ask : FnOk P w K mg base CX0 1 T.a_ends_by_ask T.d_ends_by_ask ["steps"] (sp_ends K) := ok_ends T
  have G_pairs_by_state : FnOk P w K mg base CX0 1 T.a_pairs_by_state T.d_pairs_by_state ["steps"] (sp_pairs K) := ok_pairs T
  refine T.f_Machine___init__.ok sc_Machine___init__ (fun vs H Q E h => ?_) (fun cdv A outer s H vs Q E hr h => ?_)
  · obtain ⟨x, C, dx, am, as, n, now, ms, us, ss, rfl, _⟩ := h
    rfl
  · obtain ⟨x, C, dx, am, as, n, now, ms, us, ss, rfl, hx, mc, n1, n2, hM, hMok, hMl, hS, hT, hok, hSl, w0, w1, q⟩ := h
    have hu := hu_of hr
    refine ⟨_, (pss_cons (ps_expr (pe_call G_check_size (hr.mono (by decide)) (by rfl) T.g_check_size T.f_check_size.kp T.b_check_size .nil pass0 (pa_cons (pv 1) pa_nil)))
  (pss_cons (ps_expr (pe_call G_check_marks (hr.mono (by decide)) (by rfl) T.g_check_marks T.f_check_marks.kp T.b_check_marks .nil pass0 (pa_cons (pv 1) (pa_cons (pv 2) pa_nil))))
  (pss_cons (ps_expr (pe_call G_check_steps (hr.mono (by decide)) (by rfl) T.g_check_steps T.f_check_steps.kp T.b_check_steps .nil pass0 (pa_cons (pv 1) (pa_cons (pv 3) pa_nil))))
  (pss_cons (ps_set (i := 5) sc_Machine___init__.nd rfl (.inl rfl) (pe_call G_ascending (hr.mono (by decide)) (by rfl) T.g_ascending T.f_ascending.kp T.b_ascending .nil pass0 (pa_cons (pv 3) pa_nil)))
  (pss_cons (ps_if (pt_cmpR op_gt (pe_callB c_len (by rfl) T.n_len (by rfl) (pa_cons (pv 5) pa_nil)) (pe_gi rfl T.k_MOST_STEPS) (nomark _)) (pss_one ps_never) pss_nil)
  (pss_cons (ps_if (pt_not (pt_chain op_le op_lt pe_int (pv 4) (pv 1))) (pss_one ps_never) pss_nil)
  (pss_cons (ps_set (i := 6) sc_Machine___init__.nd rfl (.inr rfl) (pe_dc (own := [("mark", 7)]) (g := gName 7) (tt := tYes) rfl sc_Machine___init__.nd (pi_seq (pv 2)) (blkOk_by (N := N_Machine___init__) (sc := defScope s_Machine___init__) (by decide +kernel)) (fun _ _ _ _ _ => (pg_name (i := 7) sc_Machine___init__.nd rfl (.inl rfl))) (fun _ _ _ _ _ => pts_nil) (fun _ _ _ _ _ => (pv 7)) (fun _ _ _ _ _ => pe_bl)))
  (pss_cons (ps_fld (pv 0) (pv 1) rfl)
  (pss_cons (ps_fld (pv 0) (pe_callTy c_tuple (by rfl) T.n_tuple (by rfl) (pa_cons (pe_lc (own := [("state", 8)]) (g := gName 8) rfl sc_Machine___init__.nd (pi_range1 rfl T.n_range (pa_cons (pv 1) pa_nil)) (blkOk_by (N := N_Machine___init__) (sc := defScope s_Machine___init__) (by decide +kernel)) (fun _ _ _ _ _ => (pg_name (i := 8) sc_Machine___init__.nd rfl (.inl rfl))) (fun _ _ _ _ _ => (pts_one (pt_cmp (pc_din hu (pv 8) (pv 6))))) (fun _ _ _ _ _ => (pv 8))) pa_nil)) rfl)
  (pss_cons (ps_fld (pv 0) (pv 5) rfl)
  (pss_cons (ps_fld (pv 0) (pv 4) rfl)
  (pss_cons (ps_fld (pv 0) (pe_call G_ends_by_ask (hr.mono (by decide)) (by rfl) T.g_ends_by_ask T.f_ends_by_ask.kp T.b_ends_by_ask .nil pass0 (pa_cons (pv 5) pa_nil)) rfl)
  (pss_one (ps_fld (pv 0) (pe_call G_pairs_by_state (hr.mono (by decide)) (by rfl) T.g_pairs_by_state T.f_pairs_by_state.kp T.b_pairs_by_state .nil pass0 (pa_cons (pv 5) pa_nil)) rfl)))))))))))))), ?_⟩
    walk_at "g"
    refine ⟨n, rfl, n1, n2, ?_⟩
    walk_at "g"
    refine ⟨n, am, ms, rfl, hM, hMok, ?_⟩
    walk_at "g"
    refine ⟨n, as, us, ss, rfl, hS, hT, hok, fun H1 e1 => ?_⟩
    walk_at "g"
    refine ⟨n, as, us, ss, rfl, hS.ex e1, hT.tx (tx_ex e1), n2, hok, by omega, fun rows ws pr H2 r1 r2 r3 hpr e2 hr2 tr => ?_⟩
    walk_at "g"
    have wl : ws.length = rows.length := by rw [tr.len, List.length_map]
    have e12 := e1.trans e2
    refine len_t (.inl (.inl hr2)) ?_
    walk_at "g"
    refine ite_f (decide_eq_false (by rw [wl]; omega)) ?_
    walk_at "g"
    refine ite_t (decide_eq_true (by omega)) ?_
    walk_at "g"
    refine ite_f (by rw [decide_eq_true w1]; rfl) ?_
    walk_at "g"
    -- marked = {mark: True for mark in marks}
    refine dc_seq rfl (hM.ex e12) (fun D j H3 => Ex H2 H3 ∧ H2 D = none ∧ ∃ kvs, H3 D = some (.dK kvs) ∧ kvs.length ≤ j ∧ ∀ k, (valV kvs k).isSome = true ↔ k ∈ (ms.take j).map Sum.inl)
      (fun D hD => ⟨Ex.new hD, hD, [], upd_same, Nat.le_refl _, fun k => ⟨fun h => (by cases h), fun h => (by cases h)⟩⟩) (fun D j H3 p => p.1) ?_ ?_
    · rintro D j y H3 hy ⟨e3, hD, kvs, h3, kl, ks⟩
      rw [List.getElem?_map] at hy
      obtain ⟨m, hm, rfl⟩ := Option.map_eq_some_iff.mp hy
      have hj : j < ms.length := (List.getElem?_eq_some_iff.mp hm).1
      refine ⟨rfl, yes_q (ite_t rfl ?_)⟩
      walk_at "g"
      refine ⟨kvs, .inl m, rfl, h3, sz_lt (by omega), ex_upd e3 hD, hD, _, upd_same, Nat.le_trans (len_put _ _ _) (by omega), fun k => ?_⟩
      rw [valV_put, List.take_add_one, hm, List.map_append]
      by_cases z : k = .inl m
      · rw [if_pos z, z]
        exact ⟨fun _ => List.mem_append_right _ (List.mem_singleton.mpr rfl), fun _ => rfl⟩
      · rw [if_neg z, ks k]
        exact ⟨fun h => List.mem_append_left _ h, fun h => (List.mem_append.mp h).elim id fun h => absurd (List.mem_singleton.mp h) z⟩
    · rintro D H3 ⟨e3, hD, kvs, h3, kl, ks⟩
      rw [List.length_map, List.take_length] at ks
      have e13 := e12.trans e3
      walk_at "g"
      -- self.size
      refine stf_go (e13 _ _ hx) mc.cl mc.n1 (by show 0 < 1000; decide) fun H4 c4 (x4 : H4 x = some (.ins C dx [("size", .int n)])) => ?_
      have D4 : H4 D = some (.dK kvs) := c4 _ _ (ne_of h3 (e13 _ _ hx) (by intro z; cases z)) h3
      walk_at "g"
      -- self.marks
      refine lc_r (n := n) (fun y => match y with | .int k => decide (k ∈ ms) | _ => false) (fun y => y) (fun R k => ⟨_, rfl, k⟩) ⟨by omega, by omega⟩ (fun _ => rfl) ?_ ?_ fun L5 H5 hL5 e5 l5 => ?_
      · intro y hy H5 e5 R k
        unfold intsV at hy
        obtain ⟨i, hi, rfl⟩ := List.mem_map.mp hy
        walk_at "g"
        refine ⟨D, _, rfl, DGet.k (k := Sum.inl (i : Int)) (e5 _ _ D4), _, rfl, ?_⟩
        have ee : (valV kvs (Sum.inl (i : Int))).isSome = decide ((i : Int) ∈ ms) := by
          rw [Bool.eq_iff_iff, ks, decide_eq_true_iff]
          constructor
          · intro h
            obtain ⟨z, hz, e⟩ := List.mem_map.mp h
            cases e
            exact hz
          · intro h
            exact List.mem_map.mpr ⟨_, h, rfl⟩
        rw [ee]
        exact k H5 (Ex.refl _)
      · intro y hy _ H5 e5 R k
        walk_at "g"
        exact k H5 (Ex.refl _)
      · walk_at "g"
        refine tup_l (.inl (.inl l5)) fun pm H6 hpm e6 t6 => ?_
        have e46 := e5.trans e6
        walk_at "g"
        refine stf_go (e46 _ _ x4) mc.cl mc.n2 (by show 1 < 1000; decide) fun H7 c7 (x7 : H7 x = some (.ins C dx [("size", .int n), ("marks", .ref pm)])) => ?_
        walk_at "g"
        refine stf_go x7 mc.cl mc.n3 (by show 2 < 1000; decide) fun H8 c8 (x8 : H8 x = some (.ins C dx [("size", .int n), ("marks", .ref pm), ("steps", .ref pr)])) => ?_
        walk_at "g"
        refine stf_go x8 mc.cl mc.n4 (by show 3 < 1000; decide) fun H9 c9 (x9 : H9 x = some (.ins C dx [("size", .int n), ("marks", .ref pm), ("steps", .ref pr), ("now", .int now)])) => ?_
        walk_at "g"
        have nx : ∀ {H' : Hp} {a : Addr} {ys : List V} {fs : List (Str × V)}, H' x = some (.ins C dx fs) → H' a = some (.tup ys) → a ≠ x := fun h1 h2 => ne_of h2 h1 (by intro z; cases z)
        have c69 : Ch x H6 H9 := Ch.trans c7 (Ch.trans c8 c9)
        have c29 : Ch x H2 H9 := Ch.trans (ch_ex e3) (Ch.trans c4 (Ch.trans (ch_ex e46) c69))
        have pr9 : H9 pr = some (.tup ws) := c29 _ _ (nx (e12 _ _ hx) hr2) hr2
        have tr9 : Tups H9 ws (rows.map stepV) := tr.tx (tx_ins (e12 _ _ hx) c29)
        refine ⟨pr, ws, rows, rfl, .inl (.inl pr9), tr9, by omega, fun de H10 hde e10 E10 => ?_⟩
        walk_at "g"
        refine stf_go (e10 _ _ x9) mc.cl mc.n5 (by show 4 < 1000; decide) fun H11 c11 (x11 : H11 x = some (.ins C dx [("size", .int n), ("marks", .ref pm), ("steps", .ref pr), ("now", .int now), ("_ends", .ref de)])) => ?_
        walk_at "g"
        have c911 : Ch x H9 H11 := Ch.trans (ch_ex e10) c11
        have pr11 : H11 pr = some (.tup ws) := c911 _ _ (nx x9 pr9) pr9
        have tr11 : Tups H11 ws (rows.map stepV) := tr9.tx (tx_ins x9 c911)
        refine ⟨pr, ws, rows, rfl, .inl (.inl pr11), tr11, by omega, fun dp H12 hdp e12' E12 => ?_⟩
        walk_at "g"
        refine stf_go (e12' _ _ x11) mc.cl mc.n6 (by show 5 < 1000; decide) fun H13 c13 (x13 : H13 x = some (.ins C dx [("size", .int n), ("marks", .ref pm), ("steps", .ref pr), ("now", .int now), ("_ends", .ref de), ("_pairs", .ref dp)])) => ?_
        have c1113 : Ch x H11 H13 := Ch.trans (ch_ex e12') c13
        have c613 : Ch x H6 H13 := Ch.trans c69 (Ch.trans c911 c1113)
        have t6' : H6 pm = some (.tup ((marksF n ms).map V.int)) := by
          rw [t6, List.map_id']
          unfold intsV marksF
          rw [List.filter_map, List.filter_map, List.map_map]
          rfl
        refine q ⟨n, marksF n ms, rows, now⟩ H13 ⟨rfl, rfl, r1, r2, r3, rfl⟩ ⟨dx, pm, pr, de, dp, ws, x13, ?_, ?_, ?_, ?_, ?_⟩ ?_
        · exact c613 _ _ (nx (e46 _ _ x4) t6') t6'
        · exact c1113 _ _ (nx x11 pr11) pr11
        · exact tr11.tx (tx_ins x11 c1113)
        · exact (E10.ch (e10 _ _ x9) c11).ch x11 c1113
        · exact E12.ch (e12' _ _ x11) c13
        · exact Ch.trans (ch_ex e12) (Ch.trans c29 (Ch.trans c911 c1113))
end
end K01

set_option Elab.async false
set_option linter.all false
set_option maxRecDepth 100000
namespace K01
open PySem PySem.Spec PyProof.Rows L2 Evl AE
local macro_rules | `(tactic| walk_at "c") => `(tactic| first | exact ⟨by decide, by decide⟩ | exact .inr ⟨by decide, by decide⟩ | exact .inl ⟨by decide, by decide⟩ | exact ⟨by decide, by decide, by decide⟩ | (show (0 : Int) < _; decide))
local macro_rules | `(tactic| walk_at "s") => `(tactic| first
  | (with_reducible refine r_var rfl ?_) | (with_reducible refine r_c ?_) | (with_reducible refine r_op ?_) | (with_reducible refine r_un ?_) | (with_reducible refine r_I0 ?_) | (with_reducible refine r_U ?_)
  | (with_reducible refine r_eq rfl ?_) | (with_reducible refine r_ne rfl ?_) | (with_reducible refine r_chain ?_) | (with_reducible refine r_test ?_) | (with_reducible refine r_tB ?_)
  | (with_reducible refine r_bl ?_) | (with_reducible refine r_and ?_) | (with_reducible refine r_or ?_) | (with_reducible refine r_not ?_) | (with_reducible refine r_nil ?_) | (with_reducible refine r_cons ?_)
  | (with_reducible refine r_tup ?_) | (with_reducible refine r_lst ?_) | (with_reducible refine r_cb ?_) | (with_reducible refine r_call ?_) | (with_reducible refine r_seq ?_) | (with_reducible refine r_set ?_)
  | (with_reducible refine r_drop ?_) | (with_reducible refine r_ret ?_) | (with_reducible refine r_next ?_) | (with_reducible refine r_if ?_) | (with_reducible refine r_sl ?_) | (with_reducible refine r_nop ?_) | (with_reducible refine r_prt ?_) | (with_reducible refine r_some ?_)
  | (with_reducible refine add_int ?_) | (with_reducible refine int_i ?_) | (with_reducible refine r_forR1 ?_) | (with_reducible refine r_forL ?_) | (with_reducible refine r_andV ?_) | (with_reducible refine r_orV ?_) | (with_reducible refine r_notV ?_) | (with_reducible refine r_ifE ?_) | (with_reducible refine r_lcL ?_) | (with_reducible refine r_fld ?_) | (with_reducible refine r_get ?_) | (with_reducible refine r_din ?_) | (with_reducible refine r_dget2 ?_) | ((with_reducible refine r_I ?_ ?_); (walk_at "c")))
local macro_rules | `(tactic| walk_at "g") => `(tactic| repeat walk_at "s")
section
variable {P : Program} {w : World} {K : PySem.W.Frag} {mg : Str → Option Value} {base : Heap}
/-! ### asks -/
def letC (d : Int) : Nat := 97 + (d % 26).toNat
def wordL (row : List Int) : List Nat := (row.take 8).map letC
def ltrs : Str := "abcdefghijklmnopqrstuvwxyz"
theorem ltrs_at : ∀ i : Fin 26, ltrs.cps.toList[i.val]? = some (97 + i.val) := by decide +kernel
theorem ltrs_len : ltrs.length = 26 := by decide +kernel
theorem ltrs_ix (d : Int) : atI ltrs.cps.toList (d % 26) = some (letC d) := by
  have h1 : (d % 26).toNat < 26 := by omega
  have h0 : d % 26 = (((d % 26).toNat : Nat) : Int) := by omega
  rw [h0]
  exact atI_nat (ltrs_at ⟨_, h1⟩)
def letV : V → V
  | .int d => .str ⟨#[letC d]⟩
  | v => v
theorem let_map : ∀ l : List Int, ((l.map V.int).filter fun _ => true).map letV = ((l.map letC).map fun c => (⟨#[c]⟩ : Str)).map V.str := fun l => by
  rw [filter_yes, List.map_map, List.map_map, List.map_map]
  rfl
theorem sum_signs : ∀ l : List Nat, ((l.map fun c => (⟨#[c]⟩ : Str)).map fun x => x.length).sum = l.length
  | [] => rfl
  | c :: l => by
    rw [List.map_cons, List.map_cons, List.sum_cons, sum_signs l]
    show 1 + l.length = l.length + 1
    omega
/-- the i-th ask of a row -/
def askL (row : List Int) (i : Nat) : List Nat :=
  if row.getD 8 0 % 2 = 0 then (wordL row).take ((row.getD 9 0 + 3 * i) % 8 + 1).toNat
  else (wordL row).take (row.getD 10 0 % (row.getD 9 0 % 8 + 1)).toNat ++ [letC (row.getD 11 0 + (row.getD 12 0 % 6 * 2 + 1) * i)] ++
    ((wordL row).take (row.getD 9 0 % 8 + 1).toNat).drop ((row.getD 10 0 % (row.getD 9 0 % 8 + 1)).toNat + 1)
def asksF (row : List Int) (many : Nat) : List Str := (List.range many).map fun i => ⟨(askL row i).toArray⟩
def AskOk (x : Str) : Prop := 1 ≤ x.length ∧ x.length ≤ 8 ∧ ∀ c ∈ x.cps.toList, 97 ≤ c ∧ c ≤ 122
theorem letC_ok (d : Int) : 97 ≤ letC d ∧ letC d ≤ 122 := by unfold letC; omega
theorem word_ok (row : List Int) : ∀ c ∈ wordL row, 97 ≤ c ∧ c ≤ 122 := fun c hc => by
  obtain ⟨d, _, rfl⟩ := List.mem_map.mp hc
  exact letC_ok d
theorem word_len {row : List Int} (h : 13 ≤ row.length) : (wordL row).length = 8 := by
  unfold wordL
  rw [List.length_map, List.length_take]
  omega
theorem ask_ok {row : List Int} (h : 13 ≤ row.length) (i : Nat) : 1 ≤ (askL row i).length ∧ (askL row i).length ≤ 8 ∧ ∀ c ∈ askL row i, 97 ≤ c ∧ c ≤ 122 := by
  have wl := word_len h
  unfold askL
  by_cases z : row.getD 8 0 % 2 = 0
  · rw [if_pos z]
    refine ⟨by rw [List.length_take]; omega, by rw [List.length_take]; omega, fun c hc => word_ok row c (List.mem_of_mem_take hc)⟩
  · rw [if_neg z]
    have p0 : 0 ≤ row.getD 10 0 % (row.getD 9 0 % 8 + 1) := by
      have : row.getD 9 0 % 8 + 1 ≠ 0 := by omega
      exact Int.emod_nonneg _ this
    have p1 : row.getD 10 0 % (row.getD 9 0 % 8 + 1) < row.getD 9 0 % 8 + 1 := Int.emod_lt_of_pos _ (by omega)
    generalize row.getD 10 0 % (row.getD 9 0 % 8 + 1) = p at p0 p1
    refine ⟨by simp only [List.length_append, List.length_take, List.length_drop, List.length_cons, List.length_nil]; omega, by simp only [List.length_append, List.length_take, List.length_drop, List.length_cons, List.length_nil]; omega, fun c hc => ?_⟩
    rcases List.mem_append.mp hc with hc | hc
    · rcases List.mem_append.mp hc with hc | hc
      · exact word_ok row c (List.mem_of_mem_take hc)
      · rw [List.mem_singleton.mp hc]
        exact letC_ok _
    · exact word_ok row c (List.mem_of_mem_take (List.mem_of_mem_drop hc))
theorem asks_ok {row : List Int} (h : 13 ≤ row.length) (many : Nat) : ∀ x ∈ asksF row many, AskOk x := fun x hx => by
  obtain ⟨i, _, rfl⟩ := List.mem_map.mp hx
  obtain ⟨a, b, c⟩ := ask_ok h i
  exact ⟨by show 1 ≤ (askL row i).toArray.size; rw [List.size_toArray]; exact a, by show (askL row i).toArray.size ≤ 8; rw [List.size_toArray]; exact b, fun d hd => c d (by simpa using hd)⟩
theorem asks_len (row : List Int) (many : Nat) : (asksF row many).length = many := by
  unfold asksF
  rw [List.length_map, List.length_range]
theorem asks_snoc (row : List Int) (n : Nat) : (asksF row (n + 1)).map V.str = (asksF row n).map V.str ++ [.str ⟨(askL row n).toArray⟩] := by
  unfold asksF
  rw [List.range_succ, List.map_append, List.map_append]
  rfl
theorem cutS_toI (z : List Nat) {n : Int} (h : 0 ≤ n) : cutS ⟨z.toArray⟩ none (some n) = ⟨(z.take n.toNat).toArray⟩ := by
  have e : n = (n.toNat : Int) := by omega
  conv => lhs; rw [e]
  exact cutS_to _ _
theorem cutS_midI (z : List Nat) {a b : Int} (h : 0 ≤ a) (h2 : 0 ≤ b) : cutS ⟨z.toArray⟩ (some a) (some b) = ⟨((z.take b.toNat).drop a.toNat).toArray⟩ := by
  have e : a = (a.toNat : Int) := by omega
  have e2 : b = (b.toNat : Int) := by omega
  conv => lhs; rw [e, e2]
  exact cutS_mid _ _ _
theorem app_codes (a b : List Nat) : (⟨a.toArray⟩ : Str) ++ (⟨b.toArray⟩ : Str) = ⟨(a ++ b).toArray⟩ := by
  refine Str.ext' ?_
  rw [Str.cps_append]
  simp
def sp_asks (K : PySem.W.Frag) : Sp := fun vs H Q _ => ∃ (a : Addr) (row : List Int) (many : Int), vs = [.ref a, .int many] ∧ SqL K H a (row.map V.int) ∧ row.length = 13 ∧ (∀ x ∈ row, 0 ≤ x ∧ x < 64) ∧ 0 ≤ many ∧ many ≤ 8 ∧
  ∀ p H', H p = none → Ex H H' → H' p = some (.lst ((asksF row many.toNat).map V.str)) → Q (.ref p) H'
theorem row_at {row : List Int} {j : Nat} (h : j < row.length) : atI (row.map V.int) (j : Int) = some (.int (row.getD j 0)) := by
  refine atI_nat ?_
  rw [List.getElem?_map, List.getElem?_eq_getElem h, List.getD_eq_getElem?_getD, List.getElem?_eq_getElem h]
  rfl
theorem ok_asks (T : Tp K mg) : FnOk P w K mg base CX0 1 T.a__law_asks T.d__law_asks ["_law_row", "_law_many"] (sp_asks K) := by
  refine T.f__law_asks.ok sc__law_asks (fun vs H Q E h => ?_) (fun cdv A outer s H vs Q E hr h => ?_)
  · obtain ⟨a, row, many, rfl, _⟩ := h
    rfl
  · obtain ⟨a, row, many, rfl, hS, hlen, hb, h0, h1, q⟩ := h
    refine ⟨_, (pss_cons (ps_set (i := 2) sc__law_asks.nd rfl (.inr rfl) pe_str)
  (pss_cons (ps_set (i := 3) sc__law_asks.nd rfl (.inl rfl) (pe_join pe_str (pe_lc (own := [("_law_digit", 4)]) (g := gName 4) (tt := tYes) rfl sc__law_asks.nd (pi_list (pe_slice sl_list (pv 0) po_none (po_some pe_int))) (blkOk_by (N := N__law_asks) (sc := defScope s__law_asks) (by decide +kernel)) (fun _ _ _ _ _ => (pg_name (i := 4) sc__law_asks.nd rfl (.inl rfl))) (fun _ _ _ _ _ => pts_nil) (fun _ _ _ _ _ => (pe_ix (ix_seqK (K := K)) (pv 2) (pe_op op_mod (pe_callTy c_int (by rfl) T.n_int (by rfl) (pa_cons (pv 4) pa_nil)) pe_int) (fun _ _ => rfl))))))
  (pss_cons (ps_set (i := 5) sc__law_asks.nd rfl (.inl rfl) (pe_lst pa_nil))
  (pss_cons (ps_for PassesOwn.never rfl (pi_range1 rfl T.n_range (pa_cons (pv 1) pa_nil)) (pg_name (i := 6) sc__law_asks.nd rfl (.inl rfl))
  (pss_cons (ps_set (i := 7) sc__law_asks.nd rfl (.inl rfl) (pe_op opAdd (pe_op op_mod (pe_callTy c_int (by rfl) T.n_int (by rfl) (pa_cons (pe_op opAdd (pe_ix ix_seq (pv 0) pe_int (fun _ _ => rfl)) (pe_op op_mul pe_int (pv 6))) pa_nil)) pe_int) pe_int))
  (pss_one (ps_if (pt_cmpR op_eq (pe_op op_mod (pe_callTy c_int (by rfl) T.n_int (by rfl) (pa_cons (pe_ix ix_seq (pv 0) pe_int (fun _ _ => rfl)) pa_nil)) pe_int) pe_int (nomark _)) (pss_one (ps_expr (pe_bm PySem.F.plainAttrs_list PySem.F.slot_list_append PySem.F.type_list_append mt_append (pv 5) (pa_cons (pe_slice sl_str (pv 3) po_none (po_some (pv 7))) pa_nil)))) (pss_cons (ps_set (i := 7) sc__law_asks.nd rfl (.inl rfl) (pe_op opAdd (pe_op op_mod (pe_callTy c_int (by rfl) T.n_int (by rfl) (pa_cons (pe_ix ix_seq (pv 0) pe_int (fun _ _ => rfl)) pa_nil)) pe_int) pe_int))
  (pss_cons (ps_set (i := 8) sc__law_asks.nd rfl (.inl rfl) (pe_op op_mod (pe_callTy c_int (by rfl) T.n_int (by rfl) (pa_cons (pe_ix ix_seq (pv 0) pe_int (fun _ _ => rfl)) pa_nil)) (pv 7)))
  (pss_cons (ps_set (i := 9) sc__law_asks.nd rfl (.inl rfl) (pe_op opAdd (pe_op op_mul (pe_op op_mod (pe_callTy c_int (by rfl) T.n_int (by rfl) (pa_cons (pe_ix ix_seq (pv 0) pe_int (fun _ _ => rfl)) pa_nil)) pe_int) pe_int) pe_int))
  (pss_cons (ps_set (i := 10) sc__law_asks.nd rfl (.inl rfl) (pe_ix ix_seq (pv 2) (pe_op op_mod (pe_callTy c_int (by rfl) T.n_int (by rfl) (pa_cons (pe_op opAdd (pe_ix ix_seq (pv 0) pe_int (fun _ _ => rfl)) (pe_op op_mul (pv 9) (pv 6))) pa_nil)) pe_int) (fun _ _ => rfl)))
  (pss_one (ps_expr (pe_bm PySem.F.plainAttrs_list PySem.F.slot_list_append PySem.F.type_list_append mt_append (pv 5) (pa_cons (pe_op opAdd (pe_op opAdd (pe_slice sl_str (pv 3) po_none (po_some (pv 8))) (pv 10)) (pe_slice sl_str (pv 3) (po_some (pe_op opAdd (pv 8) pe_int)) (po_some (pv 7)))) pa_nil))))))))))))
  (pss_one (ps_ret (pv 5))))))), ?_⟩
    walk_at "g"
    refine ⟨⟨_, rfl⟩, ?_⟩
    walk_at "g"
    refine sl_l hS fun l8 hl8 => ?_
    rw [show ((8 : Int)) = ((8 : Nat) : Int) from rfl, cutV_to, ← List.map_take]
    refine lcl_go (xs := (row.take 8).map V.int) (fun _ => true) letV (.inl (.inl upd_same)) ?_ (fun _ => rfl) ?_ ?_ ?_
    · rw [List.length_map, List.length_take]; omega
    · exact yes_t
    · intro x hx _ H1 e1 R k
      obtain ⟨d, _, rfl⟩ := List.mem_map.mp hx
      walk_at "g"
      exact ix_s (c := letC d) (by decide) (ltrs_ix d) (k H1 (Ex.refl _))
    · intro D H1 hD e1 hl1
      rw [let_map] at hl1
      refine ⟨_, D, (wordL row).map fun c => ⟨#[c]⟩, rfl, rfl, .inl (.inl (.inl hl1)), ?_, ?_⟩
      · rw [sum_signs, List.length_map, word_len (by omega)]
        decide
      rw [join_signs]
      have e2 : Ex H H1 := (Ex.new hl8).trans e1
      walk_at "g"
      refine ⟨sz_of (by show 0 ≤ 100000; decide), fun l hl => ?_⟩
      have e3 : Ex H (upd H1 l (.lst [])) := e2.trans (Ex.new hl)
      have l3 : (upd H1 l (.lst [])) l = some (.lst []) := upd_same
      have hl0 : H l = none := fresh_back e2 hl
      generalize (upd H1 l (.lst [])) = H3 at e3 l3
      walk_at "g"
      refine lr1_go (fun i σ' H' => ∃ y6 y7 y8 y9 y10, σ' = [some (.ref a), some (.int many), some (.str (Str.ofString "abcdefghijklmnopqrstuvwxyz")), some (.str ⟨(wordL row).toArray⟩), none, some (.ref l), y6, y7, y8, y9, y10] ∧ Ex H H' ∧ H' l = some (.lst ((asksF row i).map V.str)))
        ⟨_, _, _, _, _, rfl, e3, l3⟩ ⟨h0, by omega⟩ ?_ ?_
      · rintro i σ' H' hi ⟨y6, y7, y8, y9, y10, rfl, e4, l4⟩
        walk_at "g"
        refine ix_l (ex_l e4 hS) (row_at (j := 9) (by omega)) ?_
        walk_at "g"
        refine ix_l (ex_l e4 hS) (row_at (j := 8) (by omega)) ?_
        walk_at "g"
        have ln := asks_len row i
        have lz : ((asksF row i).map V.str).length < sizeLine := by rw [List.length_map, ln]; exact sz_lt (by omega)
        have wz : (⟨(wordL row).toArray⟩ : Str).length ≤ sizeLine := by
          show (wordL row).toArray.size ≤ _
          rw [List.size_toArray, word_len (by omega)]
          decide
        refine ite_b (fun hc => ?_) (fun hc => ?_)
        · have z : row.getD 8 0 % 2 = 0 := V.int.inj (of_decide_eq_true hc)
          have ea : askL row i = (wordL row).take ((row.getD 9 0 + 3 * i) % 8 + 1).toNat := by unfold askL; rw [if_pos z]
          refine r_drop (r_app rfl l4 ?_)
          walk_at "g"
          refine sl_s wz ?_
          rw [show ((8 : Nat) : Int) = 8 from rfl, cutS_toI _ (by omega), ← ea]
          refine app_l l4 lz ?_
          walk_at "g"
          exact ⟨_, _, _, _, _, rfl, ex_upd e4 hl0, by rw [upd_same, asks_snoc]⟩
        · have z : ¬ row.getD 8 0 % 2 = 0 := fun q0 => of_decide_eq_false hc (congrArg V.int q0)
          walk_at "g"
          refine ix_l (ex_l e4 hS) (row_at (j := 9) (by omega)) ?_
          walk_at "g"
          refine ix_l (ex_l e4 hS) (row_at (j := 10) (by omega)) ?_
          walk_at "g"
          refine ⟨_, _, rfl, rfl, show (0 : Int) < _ by omega, ?_⟩
          walk_at "g"
          refine ix_l (ex_l e4 hS) (row_at (j := 12) (by omega)) ?_
          walk_at "g"
          refine ix_l (ex_l e4 hS) (row_at (j := 11) (by omega)) ?_
          walk_at "g"
          refine r_I (.inr ⟨by omega, by omega⟩) ?_
          walk_at "g"
          refine ix_s (c := letC (row.getD 11 0 + (row.getD 12 0 % 6 * 2 + 1) * i)) (by decide) (ltrs_ix _) ?_
          walk_at "g"
          refine r_drop (r_app rfl l4 ?_)
          walk_at "g"
          refine sl_s wz ?_
          have p0 : 0 ≤ row.getD 10 0 % (row.getD 9 0 % 8 + 1) := by
            have : row.getD 9 0 % 8 + 1 ≠ 0 := by omega
            exact Int.emod_nonneg _ this
          have p1 : row.getD 10 0 % (row.getD 9 0 % 8 + 1) < row.getD 9 0 % 8 + 1 := Int.emod_lt_of_pos _ (by omega)
          rw [show ((8 : Nat) : Int) = 8 from rfl]
          show tVar 10 _ _ _
          rw [cutS_toI _ p0]
          walk_at "g"
          refine add_str ?_ ?_
          · show (List.toArray _).size + 1 ≤ _
            rw [List.size_toArray, List.length_take, word_len (by omega)]
            have := @sz_of 100 (by decide)
            omega
          walk_at "g"
          refine sl_s wz ?_
          rw [cutS_midI _ (by omega) (by omega), show (⟨#[letC (row.getD 11 0 + (row.getD 12 0 % 6 * 2 + 1) * ↑i)]⟩ : Str) = ⟨[letC (row.getD 11 0 + (row.getD 12 0 % 6 * 2 + 1) * ↑i)].toArray⟩ from rfl, app_codes]
          refine add_str ?_ ?_
          · show (List.toArray _).size + (List.toArray _).size ≤ _
            rw [List.size_toArray, List.size_toArray]
            simp only [List.length_append, List.length_take, List.length_drop, List.length_cons, List.length_nil]
            have := @sz_of 100 (by decide)
            have := word_len (row := row) (by omega)
            omega
          rw [app_codes]
          walk_at "g"
          refine app_l l4 lz ?_
          walk_at "g"
          refine ⟨_, _, _, _, _, rfl, ex_upd e4 hl0, ?_⟩
          rw [upd_same, asks_snoc]
          have ea : askL row i = (wordL row).take (row.getD 10 0 % (row.getD 9 0 % 8 + 1)).toNat ++ [letC (row.getD 11 0 + (row.getD 12 0 % 6 * 2 + 1) * i)] ++
              ((wordL row).take (row.getD 9 0 % 8 + 1).toNat).drop ((row.getD 10 0 % (row.getD 9 0 % 8 + 1)).toNat + 1) := by unfold askL; rw [if_neg z]
          rw [ea, show (row.getD 10 0 % (row.getD 9 0 % 8 + 1) + 1).toNat = (row.getD 10 0 % (row.getD 9 0 % 8 + 1)).toNat + 1 by omega]
      · rintro σ' H' ⟨y6, y7, y8, y9, y10, rfl, e4, l4⟩
        walk_at "g"
        exact q l H' hl0 e4 l4
end
end K01

set_option Elab.async false
set_option linter.all false
set_option maxRecDepth 100000
namespace K01
open PySem PySem.Spec PyProof.Rows L2 Evl AE
local macro_rules | `(tactic| walk_at "c") => `(tactic| first | exact ⟨by decide, by decide⟩ | exact .inr ⟨by decide, by decide⟩ | exact .inl ⟨by decide, by decide⟩ | exact ⟨by decide, by decide, by decide⟩ | (show (0 : Int) < _; decide))
local macro_rules | `(tactic| walk_at "s") => `(tactic| first
  | (with_reducible refine r_var rfl ?_) | (with_reducible refine r_c ?_) | (with_reducible refine r_op ?_) | (with_reducible refine r_un ?_) | (with_reducible refine r_I0 ?_) | (with_reducible refine r_U ?_)
  | (with_reducible refine r_eq rfl ?_) | (with_reducible refine r_ne rfl ?_) | (with_reducible refine r_chain ?_) | (with_reducible refine r_test ?_) | (with_reducible refine r_tB ?_)
  | (with_reducible refine r_bl ?_) | (with_reducible refine r_and ?_) | (with_reducible refine r_or ?_) | (with_reducible refine r_not ?_) | (with_reducible refine r_nil ?_) | (with_reducible refine r_cons ?_)
  | (with_reducible refine r_tup ?_) | (with_reducible refine r_lst ?_) | (with_reducible refine r_cb ?_) | (with_reducible refine r_call ?_) | (with_reducible refine r_seq ?_) | (with_reducible refine r_set ?_)
  | (with_reducible refine r_drop ?_) | (with_reducible refine r_ret ?_) | (with_reducible refine r_next ?_) | (with_reducible refine r_if ?_) | (with_reducible refine r_sl ?_) | (with_reducible refine r_nop ?_) | (with_reducible refine r_prt ?_) | (with_reducible refine r_some ?_)
  | (with_reducible refine add_int ?_) | (with_reducible refine int_i ?_) | (with_reducible refine r_forR1 ?_) | (with_reducible refine r_forL ?_) | (with_reducible refine r_andV ?_) | (with_reducible refine r_orV ?_) | (with_reducible refine r_notV ?_) | (with_reducible refine r_ifE ?_) | (with_reducible refine r_lcL ?_) | (with_reducible refine r_fld ?_) | (with_reducible refine r_get ?_) | (with_reducible refine r_din ?_) | (with_reducible refine r_dget2 ?_) | ((with_reducible refine r_I ?_ ?_); (walk_at "c")))
local macro_rules | `(tactic| walk_at "g") => `(tactic| repeat walk_at "s")
section
variable {P : Program} {w : World} {K : PySem.W.Frag} {mg : Str → Option Value} {base : Heap}
theorem r_gn {i : Nat} {x : V} {σ : L2.St} {H : Hp} {k : L2.St → Hp → Prop} (q : k (σ.set i (some x)) H) : gName i x σ H k := q
/-! ### climbing states -/
def climbS (n : Int) (p : List Int × Int) (d : Int) : List Int × Int := if p.2 < n then (p.1 ++ [p.2], p.2 + 1 + d % 17) else p
def climbDs (row : List Int) : List Int := (row.take (2 + row.getD 1 0 % 13).toNat).drop 2
def climbAt (row : List Int) (n : Int) (i : Nat) : List Int × Int := ((climbDs row).take i).foldl (climbS n) ([], row.getD 0 0 % n)
def climbF (row : List Int) (n : Int) : List Int := (climbAt row n (climbDs row).length).1
theorem climb_snoc {row : List Int} {n : Int} {i : Nat} {d : Int} (h : (climbDs row)[i]? = some d) : climbAt row n (i + 1) = climbS n (climbAt row n i) d := by
  unfold climbAt
  rw [List.take_add_one, h, Option.toList_some, List.foldl_append]
  rfl
def UpTo (n : Int) (l : List Int) : Prop := l.Pairwise (· < ·) ∧ ∀ x ∈ l, 0 ≤ x ∧ x < n
theorem climb_up {n : Int} : ∀ (ds : List Int) (p : List Int × Int), (UpTo n p.1 ∧ 0 ≤ p.2 ∧ ∀ x ∈ p.1, x < p.2) → UpTo n (ds.foldl (climbS n) p).1 ∧ (ds.foldl (climbS n) p).1.length ≤ p.1.length + ds.length
  | [], p, h => ⟨h.1, Nat.le_refl _⟩
  | d :: ds, p, h => by
    have step : (UpTo n (climbS n p d).1 ∧ 0 ≤ (climbS n p d).2 ∧ ∀ x ∈ (climbS n p d).1, x < (climbS n p d).2) ∧ (climbS n p d).1.length ≤ p.1.length + 1 := by
      unfold climbS
      by_cases z : p.2 < n
      · rw [if_pos z]
        refine ⟨⟨⟨?_, ?_⟩, by show 0 ≤ p.2 + 1 + d % 17; omega, ?_⟩, by rw [List.length_append]; exact Nat.le_refl _⟩
        · rw [List.pairwise_append]
          exact ⟨h.1.1, List.pairwise_singleton _ _, fun a ha b hb => by rw [List.mem_singleton.mp hb]; exact h.2.2 a ha⟩
        · intro x hx
          rcases List.mem_append.mp hx with hx | hx
          · exact h.1.2 x hx
          · rw [List.mem_singleton.mp hx]
            exact ⟨h.2.1, z⟩
        · intro x hx
          show x < p.2 + 1 + d % 17
          rcases List.mem_append.mp hx with hx | hx
          · have := h.2.2 x hx
            omega
          · rw [List.mem_singleton.mp hx]
            omega
      · rw [if_neg z]
        exact ⟨h, Nat.le_succ _⟩
    have r := climb_up ds (climbS n p d) step.1
    refine ⟨r.1, Nat.le_trans r.2 ?_⟩
    rw [List.length_cons]
    omega
theorem climb_ok {row : List Int} {n : Int} (n1 : 1 ≤ n) (h : row.length = 15) : UpTo n (climbF row n) ∧ (climbF row n).length ≤ 15 := by
  have r := climb_up (n := n) ((climbDs row).take (climbDs row).length) ([], row.getD 0 0 % n) ⟨⟨.nil, fun x hx => by cases hx⟩, Int.emod_nonneg _ (by omega), fun x hx => by cases hx⟩
  refine ⟨r.1, Nat.le_trans r.2 ?_⟩
  rw [List.length_take]
  unfold climbDs
  rw [List.length_drop, List.length_take]
  simp
  omega
theorem climb_lenAt {row : List Int} {n : Int} (n1 : 1 ≤ n) (i : Nat) : (climbAt row n i).1.length ≤ i := by
  have r := climb_up (n := n) ((climbDs row).take i) ([], row.getD 0 0 % n) ⟨⟨.nil, fun x hx => by cases hx⟩, Int.emod_nonneg _ (by omega), fun x hx => by cases hx⟩
  refine Nat.le_trans r.2 ?_
  rw [List.length_take]
  simp
  omega
theorem cutV_toI (xs : List V) {n : Int} (h : 0 ≤ n) : cutV xs none (some n) = xs.take n.toNat := by
  have e : n = (n.toNat : Int) := by omega
  conv => lhs; rw [e]
  exact cutV_to _ _
theorem cutV_midI (xs : List V) {a b : Int} (h : 0 ≤ a) (h2 : 0 ≤ b) : cutV xs (some a) (some b) = (xs.take b.toNat).drop a.toNat := by
  have e : a = (a.toNat : Int) := by omega
  have e2 : b = (b.toNat : Int) := by omega
  conv => lhs; rw [e, e2]
  exact cutV_mid _ _ _
def sp_climb (K : PySem.W.Frag) : Sp := fun vs H Q _ => ∃ (a : Addr) (row : List Int) (n : Int), vs = [.ref a, .int n] ∧ SqL K H a (row.map V.int) ∧ row.length = 15 ∧ 1 ≤ n ∧ n ≤ 200 ∧
  ∀ p H', H p = none → Ex H H' → H' p = some (.lst ((climbF row n).map V.int)) → Q (.ref p) H'
theorem ok_climb (T : Tp K mg) : FnOk P w K mg base CX0 1 T.a__law_climb T.d__law_climb ["_law_row", "_law_size"] (sp_climb K) := by
  refine T.f__law_climb.ok sc__law_climb (fun vs H Q E h => ?_) (fun cdv A outer s H vs Q E hr h => ?_)
  · obtain ⟨a, row, n, rfl, _⟩ := h
    rfl
  · obtain ⟨a, row, n, rfl, hS, hlen, n1, n2, q⟩ := h
    refine ⟨_, (pss_cons (ps_set (i := 2) sc__law_climb.nd rfl (.inl rfl) (pe_lst pa_nil))
  (pss_cons (ps_set (i := 3) sc__law_climb.nd rfl (.inl rfl) (pe_op op_mod (pe_callTy c_int (by rfl) T.n_int (by rfl) (pa_cons (pe_ix ix_seq (pv 0) pe_int (fun _ _ => rfl)) pa_nil)) (pv 1)))
  (pss_cons (ps_for PassesOwn.never rfl (pi_list (pe_slice sl_list (pv 0) (po_some pe_int) (po_some (pe_op opAdd pe_int (pe_op op_mod (pe_callTy c_int (by rfl) T.n_int (by rfl) (pa_cons (pe_ix ix_seq (pv 0) pe_int (fun _ _ => rfl)) pa_nil)) pe_int))))) (pg_name (i := 4) sc__law_climb.nd rfl (.inl rfl))
  (pss_one (ps_if (pt_cmpR op_lt (pv 3) (pv 1) (nomark _)) (pss_cons (ps_expr (pe_bm PySem.F.plainAttrs_list PySem.F.slot_list_append PySem.F.type_list_append mt_append (pv 2) (pa_cons (pv 3) pa_nil)))
  (pss_one (ps_set (i := 3) sc__law_climb.nd rfl (.inl rfl) (pe_op opAdd (pe_op opAdd (pv 3) pe_int) (pe_op op_mod (pe_callTy c_int (by rfl) T.n_int (by rfl) (pa_cons (pv 4) pa_nil)) pe_int))))) pss_nil)))
  (pss_one (ps_ret (pv 2)))))), ?_⟩
    walk_at "g"
    refine ⟨sz_of (by show 0 ≤ 100000; decide), fun l hl => ?_⟩
    have e1 : Ex H (upd H l (.lst [])) := Ex.new hl
    have l1 : (upd H l (.lst [])) l = some (.lst []) := upd_same
    generalize (upd H l (.lst [])) = H1 at e1 l1
    walk_at "g"
    refine ix_l (ex_l e1 hS) (row_at (j := 0) (by omega)) ?_
    walk_at "g"
    refine ⟨_, _, rfl, rfl, show (0 : Int) < _ by omega, ?_⟩
    walk_at "g"
    refine ix_l (ex_l e1 hS) (row_at (j := 1) (by omega)) ?_
    walk_at "g"
    refine sl_l (ex_l e1 hS) fun l2 hl2 => ?_
    rw [cutV_midI _ (by decide) (by omega), ← List.map_take, ← List.map_drop, show ((2 : Int)).toNat = 2 from rfl, show (row.take (2 + row.getD 1 0 % 13).toNat).drop 2 = climbDs row from rfl]
    have e2 : Ex H (upd H1 l2 (.lst ((climbDs row).map V.int))) := e1.trans (Ex.new hl2)
    have t2 : (upd H1 l2 (.lst ((climbDs row).map V.int))) l = some (.lst []) := (Ex.new hl2) _ _ l1
    have hS2 : SqL K (upd H1 l2 (.lst ((climbDs row).map V.int))) l2 ((climbDs row).map V.int) := .inl (.inl upd_same)
    have nl : l ≠ l2 := ne_of_none l1 hl2
    have dl : (climbDs row).length ≤ 15 := by
      unfold climbDs
      rw [List.length_drop, List.length_take]
      omega
    have u2 : (upd H1 l2 (.lst ((climbDs row).map V.int))) l2 = some (.lst ((climbDs row).map V.int)) := upd_same
    generalize (upd H1 l2 (.lst ((climbDs row).map V.int))) = H2 at e2 t2 hS2 u2
    refine ll_go (xs := (climbDs row).map V.int) hS2 (fun i σ' H' => ∃ y4, σ' = [some (.ref a), some (.int n), some (.ref l), some (.int (climbAt row n i).2), y4] ∧ Ex H H' ∧ H' l = some (.lst ((climbAt row n i).1.map V.int)) ∧ H' l2 = some (.lst ((climbDs row).map V.int)))
      ⟨_, rfl, e2, t2, u2⟩ (fun i σ' H' _ ⟨_, _, _, _, h⟩ => .inl (.inl h)) ?_ ?_
    · rintro i v σ' H' hv ⟨y4, rfl, e3, l3, u3⟩
      rw [List.getElem?_map] at hv
      obtain ⟨d, hd, rfl⟩ := Option.map_eq_some_iff.mp hv
      have sn := climb_snoc (n := n) hd
      have hi : i < (climbDs row).length := (List.getElem?_eq_some_iff.mp hd).1
      have ll := climb_lenAt (row := row) n1 i
      refine r_gn ?_
      walk_at "g"
      refine ite_b (fun hc => ?_) (fun hc => ?_)
      · have z := of_decide_eq_true hc
        unfold climbS at sn
        rw [if_pos z] at sn
        walk_at "g"
        refine r_drop (r_app rfl l3 ?_)
        walk_at "g"
        refine app_l l3 (by rw [List.length_map]; exact sz_lt (by omega)) ?_
        walk_at "g"
        refine ⟨some (.int d), ?_, ex_upd e3 hl, ?_, ?_⟩
        · rw [sn]
          rfl
        · rw [upd_same, sn, List.map_append]
          rfl
        · rw [upd_ne nl.symm]
          exact u3
      · have z := of_decide_eq_false hc
        unfold climbS at sn
        rw [if_neg z] at sn
        walk_at "g"
        refine ⟨some (.int d), ?_, e3, ?_, u3⟩
        · rw [sn]
          rfl
        · rw [sn]
          exact l3
    · rintro σ' H' ⟨y4, rfl, e3, l3, u3⟩
      rw [List.length_map] at l3
      walk_at "g"
      exact q l H' hl e3 l3
/-! ### shuffled rows -/
def turnL {α : Type} (xs : List α) (d : Int) : List α := if 0 < xs.length then xs.drop (d % xs.length).toNat ++ xs.take (d % xs.length).toNat else xs
def mixL {α : Type} (xs : List α) (d : Int) : List α := everyL none (turnL xs d) ++ everyL (some 1) (turnL xs d)
def flipL {α : Type} (xs : List α) (d e : Int) : List α := if e % 2 = 1 then (mixL xs d).reverse else mixL xs d
def shufL {α : Type} (xs : List α) (row : List Int) : List α := flipL xs (row.getD 0 0) (row.getD 1 0) ++ xs.take (row.getD 2 0 % 4).toNat
theorem turn_mem {α : Type} (xs : List α) (d : Int) (v : α) : v ∈ turnL xs d ↔ v ∈ xs := by
  unfold turnL
  split
  · rw [List.mem_append, or_comm, ← List.mem_append, List.take_append_drop]
  · exact Iff.rfl
theorem turn_len {α : Type} (xs : List α) (d : Int) : (turnL xs d).length = xs.length := by
  unfold turnL
  split
  · rw [List.length_append, Nat.add_comm, ← List.length_append, List.take_append_drop]
  · rfl
theorem shuf_mem {α : Type} (xs : List α) (row : List Int) (v : α) : v ∈ shufL xs row ↔ v ∈ xs := by
  have m : v ∈ flipL xs (row.getD 0 0) (row.getD 1 0) ↔ v ∈ xs := by
    unfold flipL
    split
    · rw [List.mem_reverse]
      unfold mixL
      rw [every_mem, turn_mem]
    · unfold mixL
      rw [every_mem, turn_mem]
  unfold shufL
  rw [List.mem_append, m]
  exact ⟨fun h => h.elim id List.mem_of_mem_take, .inl⟩
theorem mix_len {α : Type} (xs : List α) (d : Int) : (mixL xs d).length ≤ xs.length := by
  have a := every_len0 (turnL xs d)
  have b := every_len1 (turnL xs d)
  rw [turn_len] at a b
  unfold mixL
  rw [List.length_append]
  omega
theorem flip_len {α : Type} (xs : List α) (d e : Int) : (flipL xs d e).length ≤ xs.length := by
  unfold flipL
  split
  · rw [List.length_reverse]
    exact mix_len xs d
  · exact mix_len xs d
theorem shuf_len {α : Type} (xs : List α) (row : List Int) : (shufL xs row).length ≤ xs.length + 3 := by
  have := flip_len xs (row.getD 0 0) (row.getD 1 0)
  unfold shufL
  rw [List.length_append, List.length_take]
  omega
theorem turn_map {α β : Type} (f : α → β) (xs : List α) (d : Int) : turnL (xs.map f) d = (turnL xs d).map f := by
  unfold turnL
  rw [List.length_map]
  split
  · rw [List.map_append, List.map_take, List.map_drop]
  · rfl
theorem shuf_map {α β : Type} (f : α → β) (xs : List α) (row : List Int) : shufL (xs.map f) row = (shufL xs row).map f := by
  have m : ∀ d e, flipL (xs.map f) d e = (flipL xs d e).map f := fun d e => by
    unfold flipL mixL
    rw [turn_map, every_map, every_map, ← List.map_append]
    split
    · rw [← List.map_reverse]
    · rfl
  unfold shufL
  rw [m, List.map_append, List.map_take]
theorem tups_drop {H : Hp} : ∀ (n : Nat) {vs : List V} {xs : List (List V)}, Tups H vs xs → Tups H (vs.drop n) (xs.drop n)
  | 0, _, _, t => t
  | _ + 1, _, _, .nil => .nil
  | n + 1, _, _, .cons _ t => tups_drop n t
theorem tups_take {H : Hp} : ∀ (n : Nat) {vs : List V} {xs : List (List V)}, Tups H vs xs → Tups H (vs.take n) (xs.take n)
  | 0, _, _, t => by rw [List.take_zero, List.take_zero]; exact .nil
  | _ + 1, _, _, .nil => .nil
  | n + 1, _, _, .cons h t => .cons h (tups_take n t)
theorem tups_rev {H : Hp} : ∀ {vs : List V} {xs : List (List V)}, Tups H vs xs → Tups H vs.reverse xs.reverse
  | _, _, .nil => .nil
  | _, _, .cons h t => by
    rw [List.reverse_cons, List.reverse_cons]
    exact (tups_rev t).snoc h
theorem tups_shuf {H : Hp} {vs : List V} {xs : List (List V)} (row : List Int) (t : Tups H vs xs) : Tups H (shufL vs row) (shufL xs row) := by
  have tt : ∀ d, Tups H (turnL vs d) (turnL xs d) := fun d => by
    unfold turnL
    rw [t.len]
    split
    · exact (tups_drop _ t).app (tups_take _ t)
    · exact t
  have tm : ∀ d, Tups H (mixL vs d) (mixL xs d) := fun d => (tups_every _ (tt d)).app (tups_every _ (tt d))
  unfold shufL
  refine Tups.app ?_ (tups_take _ t)
  unfold flipL
  split
  · exact tups_rev (tm _)
  · exact tm _
def sp_shuf (K : PySem.W.Frag) : Sp := fun vs H Q _ => ∃ (a b : Addr) (us : List V) (row : List Int), vs = [.ref a, .ref b] ∧ SqL K H a us ∧ us.length ≤ 1000 ∧ SqL K H b (row.map V.int) ∧ row.length = 3 ∧ (∀ x ∈ row, 0 ≤ x) ∧
  ∀ p H', H p = none → Ex H H' → H' p = some (.lst (shufL us row)) → Q (.ref p) H'
theorem ok_shuf (T : Tp K mg) : FnOk P w K mg base CX0 1 T.a__law_shuffled T.d__law_shuffled ["_law_rows", "_law_row"] (sp_shuf K) := by
  refine T.f__law_shuffled.ok sc__law_shuffled (fun vs H Q E h => ?_) (fun cdv A outer s H vs Q E hr h => ?_)
  · obtain ⟨a, b, us, row, rfl, _⟩ := h
    rfl
  · obtain ⟨a, b, us, row, rfl, hS, hlen, hR, rl, rb, q⟩ := h
    refine ⟨_, (pss_cons (ps_set (i := 2) sc__law_shuffled.nd rfl (.inl rfl) (pv 0))
  (pss_cons (ps_if (pt_cmpR op_gt (pe_callB c_len (by rfl) T.n_len (by rfl) (pa_cons (pv 0) pa_nil)) pe_int (nomark _)) (pss_cons (ps_set (i := 3) sc__law_shuffled.nd rfl (.inl rfl) (pe_op op_mod (pe_callTy c_int (by rfl) T.n_int (by rfl) (pa_cons (pe_ix ix_seq (pv 1) pe_int (fun _ _ => rfl)) pa_nil)) (pe_callB c_len (by rfl) T.n_len (by rfl) (pa_cons (pv 0) pa_nil))))
  (pss_one (ps_set (i := 2) sc__law_shuffled.nd rfl (.inl rfl) (pe_op opAdd (pe_slice sl_list (pv 0) (po_some (pv 3)) po_none) (pe_slice sl_list (pv 0) po_none (po_some (pv 3))))))) pss_nil)
  (pss_cons (ps_set (i := 2) sc__law_shuffled.nd rfl (.inl rfl) (pe_op opAdd (pe_stepL (pv 2) po_none (fun _ _ => ⟨rfl, rfl⟩) idx0_len) (pe_stepL (pv 2) (po_some pe_int) (l0 := some 1) (fun _ _ => ⟨1, rfl, rfl, rfl⟩) idx1_len)))
  (pss_cons (ps_if (pt_cmpR op_eq (pe_op op_mod (pe_callTy c_int (by rfl) T.n_int (by rfl) (pa_cons (pe_ix ix_seq (pv 1) pe_int (fun _ _ => rfl)) pa_nil)) pe_int) pe_int (nomark _)) (pss_one (ps_set (i := 2) sc__law_shuffled.nd rfl (.inl rfl) (pe_revL (pv 2)))) pss_nil)
  (pss_one (ps_ret (pe_op opAdd (pv 2) (pe_slice sl_list (pv 0) po_none (po_some (pe_op op_mod (pe_callTy c_int (by rfl) T.n_int (by rfl) (pa_cons (pe_ix ix_seq (pv 1) pe_int (fun _ _ => rfl)) pa_nil)) pe_int)))))))))), ?_⟩
    walk_at "g"
    refine len_l hS ?_
    walk_at "g"
    have z0 : ∀ z, z ≤ 3000 → z ≤ sizeLine := fun z hz => Nat.le_of_lt (sz_lt (by omega))
    refine ite_b (fun hc => ?_) (fun hc => ?_)
    · have z := of_decide_eq_true hc
      walk_at "g"
      refine ix_l hR (row_at (j := 0) (by omega)) ?_
      walk_at "g"
      refine len_l hS ?_
      refine ⟨_, _, rfl, rfl, z, ?_⟩
      walk_at "g"
      refine sl_l hS fun q1 g1 => ?_
      rw [show ((row.getD 0 0 % (us.length : Int))) = (((row.getD 0 0 % (us.length : Int)).toNat : Nat) : Int) by have := Int.emod_nonneg (row.getD 0 0) (show (us.length : Int) ≠ 0 by omega); omega, cutV_from]
      walk_at "g"
      refine sl_l (ex_l (Ex.new g1) hS) fun q2 g2 => ?_
      rw [cutV_toI _ (Int.emod_nonneg _ (by omega))]
      have y1 := Ex.new (o := .lst (us.drop (row.getD 0 0 % (us.length : Int)).toNat)) g1
      have y2 := Ex.new (o := .lst (us.take (row.getD 0 0 % (us.length : Int)).toNat)) g2
      refine add_lst (y2 _ _ upd_same) upd_same (by rw [List.length_take, List.length_drop]; exact z0 _ (by omega)) fun p2 g3 => ?_
      have y3 := Ex.new (o := .lst (turnL us (row.getD 0 0))) g3
      rw [show us.drop (row.getD 0 0 % (us.length : Int)).toNat ++ us.take (row.getD 0 0 % (us.length : Int)).toNat = turnL us (row.getD 0 0) by unfold turnL; rw [if_pos (by omega)]]
      walk_at "g"
      have xc := y1.trans (y2.trans y3)
      have hT : SqL K (upd (upd (upd H q1 (.lst (us.drop (row.getD 0 0 % (us.length : Int)).toNat))) q2 (.lst (us.take (row.getD 0 0 % (us.length : Int)).toNat))) p2 (.lst (turnL us (row.getD 0 0)))) p2 (turnL us (row.getD 0 0)) := .inl (.inl upd_same)
      generalize (upd (upd (upd H q1 (.lst (us.drop (row.getD 0 0 % (us.length : Int)).toNat))) q2 (.lst (us.take (row.getD 0 0 % (us.length : Int)).toNat))) p2 (.lst (turnL us (row.getD 0 0)))) = Hc at xc hT
      refine ⟨_, rfl, p2, turnL us (row.getD 0 0), rfl, hT, fun p3 h3 => ?_⟩
      have x3 := Ex.new (o := .lst (everyL none (turnL us (row.getD 0 0)))) h3
      have t3 : (upd Hc p3 (.lst (everyL none (turnL us (row.getD 0 0))))) p3 = some (.lst (everyL none (turnL us (row.getD 0 0)))) := upd_same
      generalize (upd Hc p3 (.lst (everyL none (turnL us (row.getD 0 0))))) = H3 at x3 t3
      refine ⟨_, rfl, p2, turnL us (row.getD 0 0), rfl, ex_l x3 hT, fun p4 h4 => ?_⟩
      have x4 := Ex.new (o := .lst (everyL (some 1) (turnL us (row.getD 0 0)))) h4
      have t4 : (upd H3 p4 (.lst (everyL (some 1) (turnL us (row.getD 0 0))))) p4 = some (.lst (everyL (some 1) (turnL us (row.getD 0 0)))) := upd_same
      generalize (upd H3 p4 (.lst (everyL (some 1) (turnL us (row.getD 0 0))))) = H4 at x4 t4
      refine add_lst (x4 _ _ t3) t4 (by have a1 := every_len0 (turnL us (row.getD 0 0)); have a2 := every_len1 (turnL us (row.getD 0 0)); rw [turn_len] at a1 a2; exact z0 _ (by omega)) fun p5 h5 => ?_
      have x5 := Ex.new (o := .lst (mixL us (row.getD 0 0))) h5
      have t5 : (upd H4 p5 (.lst (mixL us (row.getD 0 0)))) p5 = some (.lst (mixL us (row.getD 0 0))) := upd_same
      show tSeq _ _ _ _ (upd H4 p5 (.lst (mixL us (row.getD 0 0))))
      generalize (upd H4 p5 (.lst (mixL us (row.getD 0 0)))) = H5 at x5 t5
      have X5 : Ex H H5 := xc.trans (x3.trans (x4.trans x5))
      walk_at "g"
      refine ix_l (ex_l X5 hR) (row_at (j := 1) (by omega)) ?_
      walk_at "g"
      refine ite_b (fun hc2 => ?_) (fun hc2 => ?_)
      · have z2 : row.getD 1 0 % 2 = 1 := V.int.inj (of_decide_eq_true hc2)
        walk_at "g"
        refine ⟨_, rfl, p5, mixL us (row.getD 0 0), rfl, .inl (.inl t5), fun p6 h6 => ?_⟩
        have x6 := Ex.new (o := .lst (mixL us (row.getD 0 0)).reverse) h6
        have t6 : (upd H5 p6 (.lst (mixL us (row.getD 0 0)).reverse)) p6 = some (.lst (mixL us (row.getD 0 0)).reverse) := upd_same
        generalize (upd H5 p6 (.lst (mixL us (row.getD 0 0)).reverse)) = H6 at x6 t6
        have X6 : Ex H H6 := X5.trans x6
        walk_at "g"
        refine ix_l (ex_l (X6) hR) (row_at (j := 2) (by omega)) ?_
        walk_at "g"
        refine sl_l (ex_l (X6) hS) fun p7 h7 => ?_
        rw [cutV_toI _ (by omega)]
        have x7 := Ex.new (o := .lst (us.take (row.getD 2 0 % 4).toNat)) h7
        refine add_lst (x7 _ _ t6) upd_same (by rw [List.length_take]; have := mix_len us (row.getD 0 0); rw [List.length_reverse]; exact z0 _ (by omega)) fun p8 h8 => ?_
        have x8 := Ex.new (o := .lst ((mixL us (row.getD 0 0)).reverse ++ us.take (row.getD 2 0 % 4).toNat)) h8
        have X8 := (X6).trans (x7.trans x8)
        walk_at "g"
        refine q p8 _ (fresh_back ((X6).trans x7) h8) X8 ?_
        rw [upd_same]
        unfold shufL flipL
        rw [if_pos z2]
      · have z2 : ¬ row.getD 1 0 % 2 = 1 := fun q0 => of_decide_eq_false hc2 (congrArg V.int q0)
        walk_at "g"
        refine ix_l (ex_l (X5) hR) (row_at (j := 2) (by omega)) ?_
        walk_at "g"
        refine sl_l (ex_l (X5) hS) fun p7 h7 => ?_
        rw [cutV_toI _ (by omega)]
        have x7 := Ex.new (o := .lst (us.take (row.getD 2 0 % 4).toNat)) h7
        refine add_lst (x7 _ _ t5) upd_same (by rw [List.length_take]; have := mix_len us (row.getD 0 0); skip; exact z0 _ (by omega)) fun p8 h8 => ?_
        have x8 := Ex.new (o := .lst (mixL us (row.getD 0 0) ++ us.take (row.getD 2 0 % 4).toNat)) h8
        have X8 := (X5).trans (x7.trans x8)
        walk_at "g"
        refine q p8 _ (fresh_back ((X5).trans x7) h8) X8 ?_
        rw [upd_same]
        unfold shufL flipL
        rw [if_neg z2]
    · have z := of_decide_eq_false hc
      walk_at "g"
      have xc : Ex H H := Ex.refl H
      have hT : SqL K H a (turnL us (row.getD 0 0)) := by unfold turnL; rw [if_neg (by omega)]; exact hS
      refine ⟨_, rfl, a, turnL us (row.getD 0 0), rfl, hT, fun p3 h3 => ?_⟩
      have x3 := Ex.new (o := .lst (everyL none (turnL us (row.getD 0 0)))) h3
      have t3 : (upd H p3 (.lst (everyL none (turnL us (row.getD 0 0))))) p3 = some (.lst (everyL none (turnL us (row.getD 0 0)))) := upd_same
      generalize (upd H p3 (.lst (everyL none (turnL us (row.getD 0 0))))) = H3 at x3 t3
      refine ⟨_, rfl, a, turnL us (row.getD 0 0), rfl, ex_l x3 hT, fun p4 h4 => ?_⟩
      have x4 := Ex.new (o := .lst (everyL (some 1) (turnL us (row.getD 0 0)))) h4
      have t4 : (upd H3 p4 (.lst (everyL (some 1) (turnL us (row.getD 0 0))))) p4 = some (.lst (everyL (some 1) (turnL us (row.getD 0 0)))) := upd_same
      generalize (upd H3 p4 (.lst (everyL (some 1) (turnL us (row.getD 0 0))))) = H4 at x4 t4
      refine add_lst (x4 _ _ t3) t4 (by have a1 := every_len0 (turnL us (row.getD 0 0)); have a2 := every_len1 (turnL us (row.getD 0 0)); rw [turn_len] at a1 a2; exact z0 _ (by omega)) fun p5 h5 => ?_
      have x5 := Ex.new (o := .lst (mixL us (row.getD 0 0))) h5
      have t5 : (upd H4 p5 (.lst (mixL us (row.getD 0 0)))) p5 = some (.lst (mixL us (row.getD 0 0))) := upd_same
      show tSeq _ _ _ _ (upd H4 p5 (.lst (mixL us (row.getD 0 0))))
      generalize (upd H4 p5 (.lst (mixL us (row.getD 0 0)))) = H5 at x5 t5
      have X5 : Ex H H5 := xc.trans (x3.trans (x4.trans x5))
      walk_at "g"
      refine ix_l (ex_l X5 hR) (row_at (j := 1) (by omega)) ?_
      walk_at "g"
      refine ite_b (fun hc2 => ?_) (fun hc2 => ?_)
      · have z2 : row.getD 1 0 % 2 = 1 := V.int.inj (of_decide_eq_true hc2)
        walk_at "g"
        refine ⟨_, rfl, p5, mixL us (row.getD 0 0), rfl, .inl (.inl t5), fun p6 h6 => ?_⟩
        have x6 := Ex.new (o := .lst (mixL us (row.getD 0 0)).reverse) h6
        have t6 : (upd H5 p6 (.lst (mixL us (row.getD 0 0)).reverse)) p6 = some (.lst (mixL us (row.getD 0 0)).reverse) := upd_same
        generalize (upd H5 p6 (.lst (mixL us (row.getD 0 0)).reverse)) = H6 at x6 t6
        have X6 : Ex H H6 := X5.trans x6
        walk_at "g"
        refine ix_l (ex_l (X6) hR) (row_at (j := 2) (by omega)) ?_
        walk_at "g"
        refine sl_l (ex_l (X6) hS) fun p7 h7 => ?_
        rw [cutV_toI _ (by omega)]
        have x7 := Ex.new (o := .lst (us.take (row.getD 2 0 % 4).toNat)) h7
        refine add_lst (x7 _ _ t6) upd_same (by rw [List.length_take]; have := mix_len us (row.getD 0 0); rw [List.length_reverse]; exact z0 _ (by omega)) fun p8 h8 => ?_
        have x8 := Ex.new (o := .lst ((mixL us (row.getD 0 0)).reverse ++ us.take (row.getD 2 0 % 4).toNat)) h8
        have X8 := (X6).trans (x7.trans x8)
        walk_at "g"
        refine q p8 _ (fresh_back ((X6).trans x7) h8) X8 ?_
        rw [upd_same]
        unfold shufL flipL
        rw [if_pos z2]
      · have z2 : ¬ row.getD 1 0 % 2 = 1 := fun q0 => of_decide_eq_false hc2 (congrArg V.int q0)
        walk_at "g"
        refine ix_l (ex_l (X5) hR) (row_at (j := 2) (by omega)) ?_
        walk_at "g"
        refine sl_l (ex_l (X5) hS) fun p7 h7 => ?_
        rw [cutV_toI _ (by omega)]
        have x7 := Ex.new (o := .lst (us.take (row.getD 2 0 % 4).toNat)) h7
        refine add_lst (x7 _ _ t5) upd_same (by rw [List.length_take]; have := mix_len us (row.getD 0 0); skip; exact z0 _ (by omega)) fun p8 h8 => ?_
        have x8 := Ex.new (o := .lst (mixL us (row.getD 0 0) ++ us.take (row.getD 2 0 % 4).toNat)) h8
        have X8 := (X5).trans (x7.trans x8)
        walk_at "g"
        refine q p8 _ (fresh_back ((X5).trans x7) h8) X8 ?_
        rw [upd_same]
        unfold shufL flipL
        rw [if_neg z2]
end
end K01

set_option Elab.async false
set_option linter.all false
set_option maxRecDepth 100000
namespace K01
open PySem PySem.Spec PyProof.Rows L2 Evl AE
local macro_rules | `(tactic| walk_at "c") => `(tactic| first | exact ⟨by decide, by decide⟩ | exact .inr ⟨by decide, by decide⟩ | exact .inl ⟨by decide, by decide⟩ | exact ⟨by decide, by decide, by decide⟩ | (show (0 : Int) < _; decide))
local macro_rules | `(tactic| walk_at "s") => `(tactic| first
  | (with_reducible refine r_var rfl ?_) | (with_reducible refine r_c ?_) | (with_reducible refine r_op ?_) | (with_reducible refine r_un ?_) | (with_reducible refine r_I0 ?_) | (with_reducible refine r_U ?_)
  | (with_reducible refine r_eq rfl ?_) | (with_reducible refine r_ne rfl ?_) | (with_reducible refine r_chain ?_) | (with_reducible refine r_test ?_) | (with_reducible refine r_tB ?_)
  | (with_reducible refine r_bl ?_) | (with_reducible refine r_and ?_) | (with_reducible refine r_or ?_) | (with_reducible refine r_not ?_) | (with_reducible refine r_nil ?_) | (with_reducible refine r_cons ?_)
  | (with_reducible refine r_tup ?_) | (with_reducible refine r_lst ?_) | (with_reducible refine r_cb ?_) | (with_reducible refine r_call ?_) | (with_reducible refine r_seq ?_) | (with_reducible refine r_set ?_)
  | (with_reducible refine r_drop ?_) | (with_reducible refine r_ret ?_) | (with_reducible refine r_next ?_) | (with_reducible refine r_if ?_) | (with_reducible refine r_sl ?_) | (with_reducible refine r_nop ?_) | (with_reducible refine r_prt ?_) | (with_reducible refine r_some ?_)
  | (with_reducible refine add_int ?_) | (with_reducible refine int_i ?_) | (with_reducible refine r_forR1 ?_) | (with_reducible refine r_forL ?_) | (with_reducible refine r_andV ?_) | (with_reducible refine r_orV ?_) | (with_reducible refine r_notV ?_) | (with_reducible refine r_ifE ?_) | (with_reducible refine r_lcL ?_) | (with_reducible refine r_fld ?_) | (with_reducible refine r_get ?_) | (with_reducible refine r_din ?_) | (with_reducible refine r_dget2 ?_) | ((with_reducible refine r_I ?_ ?_); (walk_at "c")))
local macro_rules | `(tactic| walk_at "g") => `(tactic| repeat walk_at "s")
section
variable {P : Program} {w : World} {K : PySem.W.Frag} {mg : Str → Option Value} {base : Heap}
def sp_whole : Sp := fun vs H Q _ => ∃ k : Int, vs = [.int k] ∧ Q (.bl true) H
theorem ok_whole (T : Tp K mg) : FnOk P w K mg base CX0 1 T.a__law_whole T.d__law_whole ["_law_x"] sp_whole := by
  refine T.f__law_whole.ok sc__law_whole (fun vs H Q E h => ?_) (fun cdv A outer s H vs Q E hr h => ?_)
  · obtain ⟨k, rfl, _⟩ := h
    rfl
  · obtain ⟨k, rfl, q⟩ := h
    refine ⟨_, (pss_one (ps_ret (pe_and (pe_callB c_isinstance (by rfl) T.n_isinstance (by rfl) (pa_cons (pv 0) (pa_cons (pe_bltn (by rfl) T.n_int (by rfl) (show RelV (.ty "int") (.type "int") from rfl)) pa_nil))) (pe_one (pe_not (pe_callB c_isinstance (by rfl) T.n_isinstance (by rfl) (pa_cons (pv 0) (pa_cons (pe_bltn (by rfl) T.n_bool (by rfl) (show RelV (.ty "bool") (.type "bool") from rfl)) pa_nil)))))))), ?_⟩
    walk_at "g"
    refine ⟨_, _, _, _, true, rfl, .ty _, .base (.int k), rfl, ?_⟩
    walk_at "g"
    refine ite_t rfl ?_
    walk_at "g"
    refine ⟨_, _, _, _, false, rfl, .ty _, .base (.int k), rfl, ?_⟩
    walk_at "g"
    exact q
def sp_isstep : Sp := fun vs H Q _ => ∃ (p : Addr) (st : StepD), vs = [.ref p] ∧ H p = some (.tup (stepV st)) ∧ Q (.bl true) H
theorem ok_isstep (T : Tp K mg) : FnOk P w K mg base CX0 2 T.a__law_is_step T.d__law_is_step ["_law_step"] sp_isstep := by
  have G__law_whole : FnOk P w K mg base CX0 1 T.a__law_whole T.d__law_whole ["_law_x"] sp_whole := ok_whole T
  refine T.f__law_is_step.ok sc__law_is_step (fun vs H Q E h => ?_) (fun cdv A outer s H vs Q E hr h => ?_)
  · obtain ⟨p, st, rfl, _⟩ := h
    rfl
  · obtain ⟨p, st, rfl, hp, q⟩ := h
    have hS : SqT K H p (stepV st) := .inl (.inl hp)
    refine ⟨_, (pss_cons (ps_if (PW.pt (pw_or (pt_not (pt_val (pe_callB c_isinstance (by rfl) T.n_isinstance (by rfl) (pa_cons (pv 0) (pa_cons (pe_bltn (by rfl) T.n_tuple (by rfl) (show RelV (.ty "tuple") (.type "tuple") from rfl)) pa_nil))))) (pw_or1 (pt_cmpR op_ne (pe_callB c_len (by rfl) T.n_len (by rfl) (pa_cons (pv 0) pa_nil)) pe_int (nomark _))))) (pss_one (ps_ret pe_bl)) pss_nil)
  (pss_one (ps_ret (pe_and (pe_call G__law_whole (hr.mono (by decide)) (by rfl) T.g__law_whole T.f__law_whole.kp T.b__law_whole .nil pass0 (pa_cons (pe_ix ix_seq (pv 0) pe_int (fun _ _ => rfl)) pa_nil)) (pe_and (pe_callB c_isinstance (by rfl) T.n_isinstance (by rfl) (pa_cons (pe_ix ix_seq (pv 0) pe_int (fun _ _ => rfl)) (pa_cons (pe_bltn (by rfl) T.n_str (by rfl) (show RelV (.ty "str") (.type "str") from rfl)) pa_nil))) (pe_one (pe_call G__law_whole (hr.mono (by decide)) (by rfl) T.g__law_whole T.f__law_whole.kp T.b__law_whole .nil pass0 (pa_cons (pe_ix ix_seq (pv 0) pe_int (fun _ _ => rfl)) pa_nil)))))))), ?_⟩
    walk_at "g"
    refine ⟨_, _, _, _, true, rfl, .ty _, .base (.tup hp), rfl, ?_⟩
    walk_at "g"
    refine ite_f rfl ?_
    walk_at "g"
    refine len_t hS ?_
    walk_at "g"
    refine ite_f (by rw [show (stepV st).length = 3 from rfl]; rfl) ?_
    walk_at "g"
    refine ix_t (v := .int st.1) hS rfl ?_
    walk_at "g"
    refine ⟨st.1, rfl, ?_⟩
    walk_at "g"
    refine ite_t rfl ?_
    walk_at "g"
    refine ix_t (v := .str st.2.1) hS rfl ?_
    walk_at "g"
    refine ⟨_, _, _, _, true, rfl, .ty _, .base (.str _), rfl, ?_⟩
    walk_at "g"
    refine ite_t rfl ?_
    walk_at "g"
    refine ix_t (v := .int st.2.2) hS rfl ?_
    walk_at "g"
    exact ⟨st.2.2, rfl, q⟩
def sp_iter (K : PySem.W.Frag) : Sp := fun vs H Q _ => ∃ (x C dx : Addr) (fs : List (Str × V)) (ps : Addr) (us : List V), vs = [.ref x] ∧ H x = some (.ins C dx fs) ∧ MCls K C ∧ List.lookup ("steps" : Str) fs = some (V.ref ps) ∧ H ps = some (.tup us) ∧
  ∀ it, H it = none → (∀ z o, H z = some o → z < it) → Q (.ref it) (upd H it (TtO ps it))
theorem ok_iter (T : Tp K mg) : FnOk P w K mg base CX0 1 T.a_Machine___iter__ T.d_Machine___iter__ ["self"] (sp_iter K) := by
  refine T.f_Machine___iter__.ok sc_Machine___iter__ (fun vs H Q E h => ?_) (fun cdv A outer s H vs Q E hr h => ?_)
  · obtain ⟨x, C, dx, fs, ps, us, rfl, _⟩ := h
    rfl
  · obtain ⟨x, C, dx, fs, ps, us, rfl, h1, mc, hf, h2, q⟩ := h
    refine ⟨_, (pss_one (ps_ret (pe_callB call_iterT (by rfl) T.n_iter (by rfl) (pa_cons (pe_fld (pv 0) rfl) pa_nil)))), ?_⟩
    walk_at "g"
    refine gtf_go h1 mc.cl mc.n3 (v := .ref ps) hf ?_
    walk_at "g"
    exact ⟨ps, us, rfl, .inl (.inl h2), q⟩
theorem lc_o {H : Hp} {σ : L2.St} {Q : VK} {ta te : TE} {t : TT} {j : Nat} {vs : List Nat} {a dx z b C : Addr} {fs : List (Str × V)} {o : HO} {n : Nat} {sp : Sp} {E : XK} {xs : List V} (p : V → Bool) (f : V → V) (hv : ∀ R : VK, R (.ref a) H → ta σ H R) (ha : H a = some (.ins C dx fs)) (hz0 : H z = some o) (hn : n ≤ z)
    (hsp : ∀ Q' : VK, (∀ it, H it = none → (∀ z o, H z = some o → z < it) → Q' (.ref it) (upd H it (TtO b it))) → sp [.ref a] H Q' E) (hx : SqT K H b xs) (hz : xs.length ≤ 1000000) (hw : ∀ x, wipe ((wipe σ vs).set j (some x)) vs = wipe σ vs)
    (ht : ∀ x ∈ xs, ∀ H1, Ex H H1 → ∀ R : Bool → Hp → Prop, (∀ H2, Ex H1 H2 → R (p x) H2) → t ((wipe σ vs).set j (some x)) H1 R)
    (he : ∀ x ∈ xs, p x = true → ∀ H1, Ex H H1 → ∀ R : VK, (∀ H2, Ex H1 H2 → R (f x) H2) → te ((wipe σ vs).set j (some x)) H1 R)
    (k : ∀ D H1, H D = none → Ex H H1 → H1 D = some (.lst ((xs.filter p).map f)) → Q (.ref D) H1) : tLc (iOwnT K C sp E n ta) (gName j) t te vs σ H Q :=
  hv _ ⟨a, dx, fs, rfl, ha, ⟨z, o, hz0, hn⟩, hsp _ fun it h0 hlt => ⟨it, b, rfl, rfl, h0, hlt, ⟨xs, hx⟩, fun D hD => lcp (walk_tup (K := K) (a := b) (xs := xs)) rfl hz hD (fun _ e => ex_t e hx) hw p f ht he fun H1 e h => k D H1 hD e h⟩⟩
def KC (T : Tp K mg) (C : Addr) : Prop := C = T.C_Machine ∨ C = T.C_Service ∨ C = T.C_Pattern
theorem hu64_of {A : Around} {k : Nat} (hr : Room k A) : A.units + 64 < cLine := by
  have := hr.un
  omega
/-! ### data of rows -/
def stD (s : StepD) : PyData := .tuple ((stepV s).map scD)
theorem ints_dsc (l : List Int) : (l.map V.int).map scD = l.map PyData.int := by rw [List.map_map]; rfl
theorem ints_lay : ∀ l : List Int, PyData.canLayAll0 (l.map PyData.int) = true
  | [] => rfl
  | _ :: r => by simp [PyData.canLayAll0, PyData.canLay0, ints_lay r]
theorem ints_dep : ∀ l : List Int, PyData.depthAll (l.map PyData.int) = 0
  | [] => rfl
  | _ :: r => by simp [PyData.depthAll, PyData.depth, ints_dep r]
theorem ints_shaped (l : List Int) : SeqAt.shaped (.list (l.map PyData.int)) = true := by
  simp [SeqAt.shaped, PyData.canLay0, PyData.depth, ints_lay, ints_dep]
theorem ints_eqv : ∀ l m : List Int, PyData.eqvAll (l.map PyData.int) (m.map PyData.int) = decide (l = m)
  | [], [] => by simp [PyData.eqvAll]
  | [], _ :: _ => by simp [PyData.eqvAll]
  | _ :: _, [] => by simp [PyData.eqvAll]
  | a :: r, b :: t => by
    simp only [List.map_cons, PyData.eqvAll, PyData.eqv, ints_eqv r t]
    by_cases h : a = b <;> by_cases h' : r = t <;> simp [h, h']
theorem stD_lay {s : StepD} (h : PyData.strOk s.2.1 = true) : (stD s).canLay0 = true := by
  simp [stD, stepV, scD, PyData.canLay0, PyData.canLayAll0, h]
theorem stD_dep (s : StepD) : (stD s).depth = 1 := by
  simp [stD, stepV, scD, PyData.depth, PyData.depthAll]
theorem stDs_lay : ∀ l : List StepD, (∀ s ∈ l, PyData.strOk s.2.1 = true) → PyData.canLayAll0 (l.map stD) = true
  | [], _ => rfl
  | s :: r, h => by simp [PyData.canLayAll0, stD_lay (h s (List.mem_cons_self ..)), stDs_lay r fun x hx => h x (List.mem_cons_of_mem _ hx)]
theorem stDs_dep : ∀ l : List StepD, PyData.depthAll (l.map stD) ≤ 1
  | [] => by simp [PyData.depthAll]
  | s :: r => by
    have := stDs_dep r
    simp only [List.map_cons, PyData.depthAll, stD_dep s]
    omega
theorem stD_shaped {s : StepD} (h : PyData.strOk s.2.1 = true) : SeqAt.shaped (stD s) = true := by
  simp [SeqAt.shaped, stD_lay h, stD_dep]
theorem stDs_shaped {l : List StepD} (h : ∀ s ∈ l, PyData.strOk s.2.1 = true) : SeqAt.shaped (.list (l.map stD)) = true := by
  have h1 := stDs_dep l
  have h2 : PyData.depth (.list (l.map stD)) ≤ 64 := by
    simp only [PyData.depth]
    omega
  show (PyData.canLay0 (.list (l.map stD)) && decide (PyData.depth (.list (l.map stD)) ≤ 64)) = true
  rw [Bool.and_eq_true]
  exact ⟨by simp only [PyData.canLay0]; exact stDs_lay l h, decide_eq_true h2⟩
theorem stD_eqv (a b : StepD) : PyData.eqv (stD a) (stD b) = decide (a = b) := by
  obtain ⟨a1, a2, a3⟩ := a
  obtain ⟨b1, b2, b3⟩ := b
  simp only [stD, stepV, scD, List.map_cons, List.map_nil, PyData.eqv, PyData.eqvAll, Prod.mk.injEq]
  by_cases h : a1 = b1 <;> by_cases h2 : a2 = b2 <;> by_cases h3 : a3 = b3 <;> simp [h, h2, h3]
theorem stD_any (l : List StepD) (a : StepD) : ((l.map stD).any fun z => z.eqv (stD a)) = decide (a ∈ l) := by
  rw [List.any_map, Bool.eq_iff_iff, List.any_eq_true, decide_eq_true_iff]
  constructor
  · rintro ⟨y, hy, e⟩
    have e' : PyData.eqv (stD y) (stD a) = true := e
    rw [stD_eqv, decide_eq_true_iff] at e'
    exact e' ▸ hy
  · intro h
    refine ⟨a, h, ?_⟩
    show PyData.eqv (stD a) (stD a) = true
    rw [stD_eqv, decide_eq_true rfl]
theorem rows_dp {K : PySem.W.Frag} {H : Hp} {a : Addr} {us : List V} {rows : List StepD} (h : SqL K H a us) (t : Tups H us (rows.map stepV)) : Dp K H (.ref a) (.list (rows.map stD)) := by
  have d := t.dp (K := K) (fun x hx => by obtain ⟨s, _, rfl⟩ := List.mem_map.mp hx; rfl)
  rw [List.map_map] at d
  exact .lst h d
theorem ints_dp {K : PySem.W.Frag} {H : Hp} {a : Addr} {l : List Int} (h : SqL K H a (l.map V.int)) : Dp K H (.ref a) (.list (l.map PyData.int)) := by
  have d : DpAll K H (l.map V.int) ((l.map V.int).map scD) := dpa_sc (by rw [List.all_map, List.all_eq_true]; exact fun _ _ => rfl)
  rw [ints_dsc] at d
  exact .lst h d

theorem stDs_refl : ∀ l : List StepD, PyData.eqvAll (l.map stD) (l.map stD) = true
  | [] => by simp [PyData.eqvAll]
  | s :: r => by
    simp only [List.map_cons, PyData.eqvAll, stD_eqv, stDs_refl r]
    simp
def sp_parts (T : Tp K mg) : Sp := fun vs H Q _ => ∃ (x C pm ps : Addr) (m : Mach) (us : List V), vs = [.ref x, .int m.size, .ref pm, .ref ps, .int m.now] ∧ KC T C ∧ MachAt H x C m ∧ H pm = some (.lst (m.marks.map V.int)) ∧ H ps = some (.lst us) ∧ Tups H us (m.rows.map stepV) ∧
  (∀ s ∈ m.rows, PyData.strOk s.2.1 = true) ∧ m.marks.length ≤ 1000 ∧ m.rows.length ≤ 1000 ∧ ∀ H', Ex H H' → Q (.bl true) H'
theorem ok_parts (T : Tp K mg) : FnOk P w K mg base CX0 3 T.a__law_parts_hold T.d__law_parts_hold ["_law_machine", "_law_size", "_law_marks", "_law_steps", "_law_here"] (sp_parts T) := by
  have G__law_whole : FnOk P w K mg base CX0 1 T.a__law_whole T.d__law_whole ["_law_x"] sp_whole := ok_whole T
  have G__law_is_step : FnOk P w K mg base CX0 2 T.a__law_is_step T.d__law_is_step ["_law_step"] sp_isstep := ok_isstep T
  have G_iter : FnOk P w K mg base CX0 1 T.a_Machine___iter__ T.d_Machine___iter__ ["self"] (sp_iter K) := ok_iter T
  refine T.f__law_parts_hold.ok sc__law_parts_hold (fun vs H Q E h => ?_) (fun cdv A outer s H vs Q E hr h => ?_)
  · obtain ⟨x, C, pm, ps, m, us, rfl, _⟩ := h
    rfl
  · obtain ⟨x, C, pm, ps, m, us, rfl, kc, hm, tm, ts, tt, sok, ml, rl, q⟩ := h
    have hu := hu_of hr
    have hu64 := hu64_of hr
    have hm' := hm
    obtain ⟨dx, p2, p3, de, dp, ws, h1, h2, h3, h4, h5, h6⟩ := hm'
    have wl : ws.length = m.rows.length := by rw [h4.len, List.length_map]
    rcases kc with rfl | rfl | rfl
    · refine ⟨_, (pss_cons (ps_if (PW.pt (pw_or (pt_not (pt_val (pe_callB c_isinstance (by rfl) T.n_isinstance (by rfl) (pa_cons (pv 0) (pa_cons (pe_glob rfl T.g_Machine (show RelV (.ref T.C_Machine) (.ref T.C_Machine) from rfl)) pa_nil))))) (pw_or (pt_not (pt_val (pe_call G__law_whole (hr.mono (by decide)) (by rfl) T.g__law_whole T.f__law_whole.kp T.b__law_whole .nil pass0 (pa_cons (pe_fld (pv 0) rfl) pa_nil)))) (pw_or1 (pt_cmpR op_ne (pe_fld (pv 0) rfl) (pv 1) (nomark _)))))) (pss_one (ps_ret pe_bl)) pss_nil)
  (pss_cons (ps_if (PW.pt (pw_or (pt_not (pt_val (pe_call G__law_whole (hr.mono (by decide)) (by rfl) T.g__law_whole T.f__law_whole.kp T.b__law_whole .nil pass0 (pa_cons (pe_fld (pv 0) rfl) pa_nil)))) (pw_or1 (pt_cmpR op_ne (pe_fld (pv 0) rfl) (pv 4) (nomark _))))) (pss_one (ps_ret pe_bl)) pss_nil)
  (pss_cons (ps_if (PW.pt (pw_or (pt_not (pt_val (pe_callB c_isinstance (by rfl) T.n_isinstance (by rfl) (pa_cons (pe_fld (pv 0) rfl) (pa_cons (pe_bltn (by rfl) T.n_tuple (by rfl) (show RelV (.ty "tuple") (.type "tuple") from rfl)) pa_nil))))) (pw_or1 (pt_not (pt_val (pe_callB (cr_all rfl) (by rfl) T.n_all (by rfl) (pa_cons (pe_lc (own := [("_law_mark", 5)]) (g := gName 5) (tt := tYes) rfl sc__law_parts_hold.nd (pi_tup (pe_fld (pv 0) rfl)) (blkOk_by (N := N__law_parts_hold) (sc := defScope s__law_parts_hold) (by decide +kernel)) (fun _ _ _ _ _ => (pg_name (i := 5) sc__law_parts_hold.nd rfl (.inl rfl))) (fun _ _ _ _ _ => pts_nil) (fun _ _ _ _ _ => (pe_call G__law_whole (hr.mono (by decide)) (by rfl) T.g__law_whole T.f__law_whole.kp T.b__law_whole .nil pass0 (pa_cons (pv 5) pa_nil)))) pa_nil))))))) (pss_one (ps_ret pe_bl)) pss_nil)
  (pss_cons (ps_if (PW.pt (pw_or (pt_not (pt_val (pe_callB c_isinstance (by rfl) T.n_isinstance (by rfl) (pa_cons (pe_fld (pv 0) rfl) (pa_cons (pe_bltn (by rfl) T.n_tuple (by rfl) (show RelV (.ty "tuple") (.type "tuple") from rfl)) pa_nil))))) (pw_or1 (pt_not (pt_val (pe_callB (cr_all rfl) (by rfl) T.n_all (by rfl) (pa_cons (pe_lc (own := [("_law_step", 6)]) (g := gName 6) (tt := tYes) rfl sc__law_parts_hold.nd (pi_tup (pe_fld (pv 0) rfl)) (blkOk_by (N := N__law_parts_hold) (sc := defScope s__law_parts_hold) (by decide +kernel)) (fun _ _ _ _ _ => (pg_name (i := 6) sc__law_parts_hold.nd rfl (.inl rfl))) (fun _ _ _ _ _ => pts_nil) (fun _ _ _ _ _ => (pe_call G__law_is_step (hr.mono (by decide)) (by rfl) T.g__law_is_step T.f__law_is_step.kp T.b__law_is_step .nil pass0 (pa_cons (pv 6) pa_nil)))) pa_nil))))))) (pss_one (ps_ret pe_bl)) pss_nil)
  (pss_one (ps_ret (pe_and (pe_cmpR (op_eqD hu64) (pe_callTy c_listN (by rfl) T.n_list (by rfl) (pa_cons (pe_fld (pv 0) rfl) pa_nil)) (pv 2) (nomark _)) (pe_and (pe_cmpR (op_eqD hu64) (pe_callTy c_list (by rfl) T.n_list (by rfl) (pa_cons (pe_fld (pv 0) rfl) pa_nil)) (pv 3) (nomark _)) (pe_one (pe_cmpR (op_eqD hu64) (pe_lc (own := [("_law_step", 6)]) (g := gName 6) (tt := tYes) rfl sc__law_parts_hold.nd (pi_ownT T.it_Machine G_iter (hr.mono (by decide)) T.b_Machine___iter__ pass0 (pv 0)) (blkOk_by (N := N__law_parts_hold) (sc := defScope s__law_parts_hold) (by decide +kernel)) (fun _ _ _ _ _ => (pg_name (i := 6) sc__law_parts_hold.nd rfl (.inl rfl))) (fun _ _ _ _ _ => pts_nil) (fun _ _ _ _ _ => (pv 6))) (pv 3) (nomark _))))))))))), ?_⟩
      have mc := T.cf_Machine
      walk_at "g"
      refine ⟨_, _, _, _, true, rfl, .own _, .base (.ins h1 mc.cl (T.cc_Machine).o1 (T.cc_Machine).o2 (T.cc_Machine).o3 (T.cc_Machine).o4), T.is_Machine, ?_⟩
      walk_at "g"
      refine ite_f rfl ?_
      walk_at "g"
      refine gtf_go h1 mc.cl mc.n1 (v := .int m.size) rfl ?_
      walk_at "g"
      refine ⟨m.size, rfl, ?_⟩
      walk_at "g"
      refine ite_f rfl ?_
      walk_at "g"
      refine gtf_go h1 mc.cl mc.n1 (v := .int m.size) rfl ?_
      walk_at "g"
      refine ite_f (by rw [decide_eq_true rfl]; rfl) ?_
      walk_at "g"
      refine gtf_go h1 mc.cl mc.n4 (v := .int m.now) rfl ?_
      walk_at "g"
      refine ⟨m.now, rfl, ?_⟩
      walk_at "g"
      refine ite_f rfl ?_
      walk_at "g"
      refine gtf_go h1 mc.cl mc.n4 (v := .int m.now) rfl ?_
      walk_at "g"
      refine ite_f (by rw [decide_eq_true rfl]; rfl) ?_
      walk_at "g"
      refine gtf_go h1 mc.cl mc.n2 (v := .ref p2) rfl ?_
      walk_at "g"
      refine ⟨_, _, _, _, true, rfl, .ty _, .base (.tup h2), rfl, ?_⟩
      walk_at "g"
      refine ite_f rfl ?_
      walk_at "g"
      refine lc_t (a := p2) (xs := m.marks.map V.int) (fun _ => true) (fun _ => .bl true) ?_ (.inl (.inl h2)) (by rw [List.length_map]; omega) (fun _ => rfl) yes_t ?_ ?_
      · intro R r
        walk_at "g"
        refine gtf_go h1 mc.cl mc.n2 (v := .ref p2) rfl ?_
        exact r
      · intro v hv _ H1 e1 R r
        obtain ⟨k, _, rfl⟩ := List.mem_map.mp hv
        walk_at "g"
        exact ⟨k, rfl, r H1 (Ex.refl _)⟩
      intro D1 K1 hD1 e1 l1
      rw [filter_yes] at l1
      walk_at "g"
      refine ⟨D1, m.marks.map (fun _ => true), rfl, .inl (.inl (by rw [l1, List.map_map, List.map_map]; rfl)), ?_⟩
      rw [show (m.marks.map fun _ => true).all id = true by rw [List.all_map, List.all_eq_true]; exact fun _ _ => rfl]
      walk_at "g"
      refine ite_f rfl ?_
      walk_at "g"
      refine gtf_go (e1 _ _ h1) mc.cl mc.n3 (v := .ref p3) rfl ?_
      walk_at "g"
      refine ⟨_, _, _, _, true, rfl, .ty _, .base (.tup (e1 _ _ h3)), rfl, ?_⟩
      walk_at "g"
      refine ite_f rfl ?_
      walk_at "g"
      refine lc_t (a := p3) (xs := ws) (fun _ => true) (fun _ => .bl true) ?_ (.inl (.inl (e1 _ _ h3))) (by rw [wl]; omega) (fun _ => rfl) yes_t ?_ ?_
      · intro R r
        walk_at "g"
        refine gtf_go (e1 _ _ h1) mc.cl mc.n3 (v := .ref p3) rfl ?_
        exact r
      · intro v hv _ H1 e2 R r
        obtain ⟨i, hi, e⟩ := List.getElem_of_mem hv
        have e' : ws[i]? = some v := by rw [List.getElem?_eq_getElem hi, e]
        obtain ⟨y, hy, ta⟩ := h4.get e'
        rw [List.getElem?_map] at hy
        obtain ⟨st, hst, rfl⟩ := Option.map_eq_some_iff.mp hy
        obtain ⟨b, rfl, hb⟩ := ta
        walk_at "g"
        exact ⟨b, st, rfl, e2 _ _ (e1 _ _ hb), r H1 (Ex.refl _)⟩
      intro D2 K2 hD2 e2 l2
      rw [filter_yes] at l2
      walk_at "g"
      refine ⟨D2, ws.map (fun _ => true), rfl, .inl (.inl (by rw [l2, List.map_map]; rfl)), ?_⟩
      rw [show (ws.map fun _ => true).all id = true by rw [List.all_map, List.all_eq_true]; exact fun _ _ => rfl]
      walk_at "g"
      refine ite_f rfl ?_
      walk_at "g"
      have E2 := e1.trans e2
      refine gtf_go (E2 _ _ h1) mc.cl mc.n2 (v := .ref p2) rfl ?_
      walk_at "g"
      refine ⟨p2, m.marks.map V.int, rfl, .inr (.inl (.inl (E2 _ _ h2))), fun l7 hl7 hn7 => ?_⟩
      have x7 := Ex.new (o := .lst (m.marks.map V.int)) hl7
      have t7 : (upd K2 l7 (.lst (m.marks.map V.int))) l7 = some (.lst (m.marks.map V.int)) := upd_same
      generalize (upd K2 l7 (.lst (m.marks.map V.int))) = K7 at x7 t7
      have E7 := E2.trans x7
      walk_at "g"
      refine ⟨_, _, ints_dp (.inl (.inl t7)), ints_dp (.inl (.inl (E7 _ _ tm))), ints_shaped _, ints_shaped _, ?_⟩
      rw [show (PyData.list (m.marks.map .int)).eqv (PyData.list (m.marks.map .int)) = true by simp only [PyData.eqv]; rw [ints_eqv, decide_eq_true rfl]]
      refine ⟨true, rfl, ite_t rfl ?_⟩
      walk_at "g"
      refine gtf_go (E7 _ _ h1) mc.cl mc.n3 (v := .ref p3) rfl ?_
      walk_at "g"
      refine list_s (.inr (.inl (.inl (E7 _ _ h3)))) fun l8 K8 hl8 x8 t8 => ?_
      have E8 := E7.trans x8
      walk_at "g"
      have rr : (PyData.list (m.rows.map stD)).eqv (PyData.list (m.rows.map stD)) = true := by simp only [PyData.eqv]; exact stDs_refl _
      refine ⟨_, _, rows_dp (.inl (.inl t8)) (h4.tx (tx_ex E8)), rows_dp (.inl (.inl (E8 _ _ ts))) (tt.tx (tx_ex E8)), stDs_shaped sok, stDs_shaped sok, ?_⟩
      rw [rr]
      refine ⟨true, rfl, ite_t rfl ?_⟩
      walk_at "g"
      refine lc_o (a := x) (b := p3) (xs := ws) (fun _ => true) (fun v => v) ?_ (E8 _ _ h1) (x8 _ _ t7) hn7 ?_ (.inl (.inl (E8 _ _ h3))) (by rw [wl]; omega) (fun _ => rfl) yes_t ?_ ?_
      · intro R r
        walk_at "g"
        exact r
      · intro Q' q'
        exact ⟨x, _, dx, _, p3, ws, rfl, E8 _ _ h1, mc, rfl, E8 _ _ h3, q'⟩
      · intro v hv _ H1 e R r
        walk_at "g"
        exact r H1 (Ex.refl _)
      intro D9 K9 hD9 x9 t9
      rw [filter_yes, List.map_id'] at t9
      have E9 := E8.trans x9
      walk_at "g"
      refine ⟨_, _, rows_dp (.inl (.inl t9)) (h4.tx (tx_ex E9)), rows_dp (.inl (.inl (E9 _ _ ts))) (tt.tx (tx_ex E9)), stDs_shaped sok, stDs_shaped sok, ?_⟩
      rw [rr]
      exact q _ E9
    · refine ⟨_, (pss_cons (ps_if (PW.pt (pw_or (pt_not (pt_val (pe_callB c_isinstance (by rfl) T.n_isinstance (by rfl) (pa_cons (pv 0) (pa_cons (pe_glob rfl T.g_Machine (show RelV (.ref T.C_Machine) (.ref T.C_Machine) from rfl)) pa_nil))))) (pw_or (pt_not (pt_val (pe_call G__law_whole (hr.mono (by decide)) (by rfl) T.g__law_whole T.f__law_whole.kp T.b__law_whole .nil pass0 (pa_cons (pe_fld (pv 0) rfl) pa_nil)))) (pw_or1 (pt_cmpR op_ne (pe_fld (pv 0) rfl) (pv 1) (nomark _)))))) (pss_one (ps_ret pe_bl)) pss_nil)
  (pss_cons (ps_if (PW.pt (pw_or (pt_not (pt_val (pe_call G__law_whole (hr.mono (by decide)) (by rfl) T.g__law_whole T.f__law_whole.kp T.b__law_whole .nil pass0 (pa_cons (pe_fld (pv 0) rfl) pa_nil)))) (pw_or1 (pt_cmpR op_ne (pe_fld (pv 0) rfl) (pv 4) (nomark _))))) (pss_one (ps_ret pe_bl)) pss_nil)
  (pss_cons (ps_if (PW.pt (pw_or (pt_not (pt_val (pe_callB c_isinstance (by rfl) T.n_isinstance (by rfl) (pa_cons (pe_fld (pv 0) rfl) (pa_cons (pe_bltn (by rfl) T.n_tuple (by rfl) (show RelV (.ty "tuple") (.type "tuple") from rfl)) pa_nil))))) (pw_or1 (pt_not (pt_val (pe_callB (cr_all rfl) (by rfl) T.n_all (by rfl) (pa_cons (pe_lc (own := [("_law_mark", 5)]) (g := gName 5) (tt := tYes) rfl sc__law_parts_hold.nd (pi_tup (pe_fld (pv 0) rfl)) (blkOk_by (N := N__law_parts_hold) (sc := defScope s__law_parts_hold) (by decide +kernel)) (fun _ _ _ _ _ => (pg_name (i := 5) sc__law_parts_hold.nd rfl (.inl rfl))) (fun _ _ _ _ _ => pts_nil) (fun _ _ _ _ _ => (pe_call G__law_whole (hr.mono (by decide)) (by rfl) T.g__law_whole T.f__law_whole.kp T.b__law_whole .nil pass0 (pa_cons (pv 5) pa_nil)))) pa_nil))))))) (pss_one (ps_ret pe_bl)) pss_nil)
  (pss_cons (ps_if (PW.pt (pw_or (pt_not (pt_val (pe_callB c_isinstance (by rfl) T.n_isinstance (by rfl) (pa_cons (pe_fld (pv 0) rfl) (pa_cons (pe_bltn (by rfl) T.n_tuple (by rfl) (show RelV (.ty "tuple") (.type "tuple") from rfl)) pa_nil))))) (pw_or1 (pt_not (pt_val (pe_callB (cr_all rfl) (by rfl) T.n_all (by rfl) (pa_cons (pe_lc (own := [("_law_step", 6)]) (g := gName 6) (tt := tYes) rfl sc__law_parts_hold.nd (pi_tup (pe_fld (pv 0) rfl)) (blkOk_by (N := N__law_parts_hold) (sc := defScope s__law_parts_hold) (by decide +kernel)) (fun _ _ _ _ _ => (pg_name (i := 6) sc__law_parts_hold.nd rfl (.inl rfl))) (fun _ _ _ _ _ => pts_nil) (fun _ _ _ _ _ => (pe_call G__law_is_step (hr.mono (by decide)) (by rfl) T.g__law_is_step T.f__law_is_step.kp T.b__law_is_step .nil pass0 (pa_cons (pv 6) pa_nil)))) pa_nil))))))) (pss_one (ps_ret pe_bl)) pss_nil)
  (pss_one (ps_ret (pe_and (pe_cmpR (op_eqD hu64) (pe_callTy c_listN (by rfl) T.n_list (by rfl) (pa_cons (pe_fld (pv 0) rfl) pa_nil)) (pv 2) (nomark _)) (pe_and (pe_cmpR (op_eqD hu64) (pe_callTy c_list (by rfl) T.n_list (by rfl) (pa_cons (pe_fld (pv 0) rfl) pa_nil)) (pv 3) (nomark _)) (pe_one (pe_cmpR (op_eqD hu64) (pe_lc (own := [("_law_step", 6)]) (g := gName 6) (tt := tYes) rfl sc__law_parts_hold.nd (pi_ownT T.it_Service G_iter (hr.mono (by decide)) T.b_Machine___iter__ pass0 (pv 0)) (blkOk_by (N := N__law_parts_hold) (sc := defScope s__law_parts_hold) (by decide +kernel)) (fun _ _ _ _ _ => (pg_name (i := 6) sc__law_parts_hold.nd rfl (.inl rfl))) (fun _ _ _ _ _ => pts_nil) (fun _ _ _ _ _ => (pv 6))) (pv 3) (nomark _))))))))))), ?_⟩
      have mc := T.cf_Service
      walk_at "g"
      refine ⟨_, _, _, _, true, rfl, .own _, .base (.ins h1 mc.cl (T.cc_Service).o1 (T.cc_Service).o2 (T.cc_Service).o3 (T.cc_Service).o4), T.is_Service, ?_⟩
      walk_at "g"
      refine ite_f rfl ?_
      walk_at "g"
      refine gtf_go h1 mc.cl mc.n1 (v := .int m.size) rfl ?_
      walk_at "g"
      refine ⟨m.size, rfl, ?_⟩
      walk_at "g"
      refine ite_f rfl ?_
      walk_at "g"
      refine gtf_go h1 mc.cl mc.n1 (v := .int m.size) rfl ?_
      walk_at "g"
      refine ite_f (by rw [decide_eq_true rfl]; rfl) ?_
      walk_at "g"
      refine gtf_go h1 mc.cl mc.n4 (v := .int m.now) rfl ?_
      walk_at "g"
      refine ⟨m.now, rfl, ?_⟩
      walk_at "g"
      refine ite_f rfl ?_
      walk_at "g"
      refine gtf_go h1 mc.cl mc.n4 (v := .int m.now) rfl ?_
      walk_at "g"
      refine ite_f (by rw [decide_eq_true rfl]; rfl) ?_
      walk_at "g"
      refine gtf_go h1 mc.cl mc.n2 (v := .ref p2) rfl ?_
      walk_at "g"
      refine ⟨_, _, _, _, true, rfl, .ty _, .base (.tup h2), rfl, ?_⟩
      walk_at "g"
      refine ite_f rfl ?_
      walk_at "g"
      refine lc_t (a := p2) (xs := m.marks.map V.int) (fun _ => true) (fun _ => .bl true) ?_ (.inl (.inl h2)) (by rw [List.length_map]; omega) (fun _ => rfl) yes_t ?_ ?_
      · intro R r
        walk_at "g"
        refine gtf_go h1 mc.cl mc.n2 (v := .ref p2) rfl ?_
        exact r
      · intro v hv _ H1 e1 R r
        obtain ⟨k, _, rfl⟩ := List.mem_map.mp hv
        walk_at "g"
        exact ⟨k, rfl, r H1 (Ex.refl _)⟩
      intro D1 K1 hD1 e1 l1
      rw [filter_yes] at l1
      walk_at "g"
      refine ⟨D1, m.marks.map (fun _ => true), rfl, .inl (.inl (by rw [l1, List.map_map, List.map_map]; rfl)), ?_⟩
      rw [show (m.marks.map fun _ => true).all id = true by rw [List.all_map, List.all_eq_true]; exact fun _ _ => rfl]
      walk_at "g"
      refine ite_f rfl ?_
      walk_at "g"
      refine gtf_go (e1 _ _ h1) mc.cl mc.n3 (v := .ref p3) rfl ?_
      walk_at "g"
      refine ⟨_, _, _, _, true, rfl, .ty _, .base (.tup (e1 _ _ h3)), rfl, ?_⟩
      walk_at "g"
      refine ite_f rfl ?_
      walk_at "g"
      refine lc_t (a := p3) (xs := ws) (fun _ => true) (fun _ => .bl true) ?_ (.inl (.inl (e1 _ _ h3))) (by rw [wl]; omega) (fun _ => rfl) yes_t ?_ ?_
      · intro R r
        walk_at "g"
        refine gtf_go (e1 _ _ h1) mc.cl mc.n3 (v := .ref p3) rfl ?_
        exact r
      · intro v hv _ H1 e2 R r
        obtain ⟨i, hi, e⟩ := List.getElem_of_mem hv
        have e' : ws[i]? = some v := by rw [List.getElem?_eq_getElem hi, e]
        obtain ⟨y, hy, ta⟩ := h4.get e'
        rw [List.getElem?_map] at hy
        obtain ⟨st, hst, rfl⟩ := Option.map_eq_some_iff.mp hy
        obtain ⟨b, rfl, hb⟩ := ta
        walk_at "g"
        exact ⟨b, st, rfl, e2 _ _ (e1 _ _ hb), r H1 (Ex.refl _)⟩
      intro D2 K2 hD2 e2 l2
      rw [filter_yes] at l2
      walk_at "g"
      refine ⟨D2, ws.map (fun _ => true), rfl, .inl (.inl (by rw [l2, List.map_map]; rfl)), ?_⟩
      rw [show (ws.map fun _ => true).all id = true by rw [List.all_map, List.all_eq_true]; exact fun _ _ => rfl]
      walk_at "g"
      refine ite_f rfl ?_
      walk_at "g"
      have E2 := e1.trans e2
      refine gtf_go (E2 _ _ h1) mc.cl mc.n2 (v := .ref p2) rfl ?_
      walk_at "g"
      refine ⟨p2, m.marks.map V.int, rfl, .inr (.inl (.inl (E2 _ _ h2))), fun l7 hl7 hn7 => ?_⟩
      have x7 := Ex.new (o := .lst (m.marks.map V.int)) hl7
      have t7 : (upd K2 l7 (.lst (m.marks.map V.int))) l7 = some (.lst (m.marks.map V.int)) := upd_same
      generalize (upd K2 l7 (.lst (m.marks.map V.int))) = K7 at x7 t7
      have E7 := E2.trans x7
      walk_at "g"
      refine ⟨_, _, ints_dp (.inl (.inl t7)), ints_dp (.inl (.inl (E7 _ _ tm))), ints_shaped _, ints_shaped _, ?_⟩
      rw [show (PyData.list (m.marks.map .int)).eqv (PyData.list (m.marks.map .int)) = true by simp only [PyData.eqv]; rw [ints_eqv, decide_eq_true rfl]]
      refine ⟨true, rfl, ite_t rfl ?_⟩
      walk_at "g"
      refine gtf_go (E7 _ _ h1) mc.cl mc.n3 (v := .ref p3) rfl ?_
      walk_at "g"
      refine list_s (.inr (.inl (.inl (E7 _ _ h3)))) fun l8 K8 hl8 x8 t8 => ?_
      have E8 := E7.trans x8
      walk_at "g"
      have rr : (PyData.list (m.rows.map stD)).eqv (PyData.list (m.rows.map stD)) = true := by simp only [PyData.eqv]; exact stDs_refl _
      refine ⟨_, _, rows_dp (.inl (.inl t8)) (h4.tx (tx_ex E8)), rows_dp (.inl (.inl (E8 _ _ ts))) (tt.tx (tx_ex E8)), stDs_shaped sok, stDs_shaped sok, ?_⟩
      rw [rr]
      refine ⟨true, rfl, ite_t rfl ?_⟩
      walk_at "g"
      refine lc_o (a := x) (b := p3) (xs := ws) (fun _ => true) (fun v => v) ?_ (E8 _ _ h1) (x8 _ _ t7) hn7 ?_ (.inl (.inl (E8 _ _ h3))) (by rw [wl]; omega) (fun _ => rfl) yes_t ?_ ?_
      · intro R r
        walk_at "g"
        exact r
      · intro Q' q'
        exact ⟨x, _, dx, _, p3, ws, rfl, E8 _ _ h1, mc, rfl, E8 _ _ h3, q'⟩
      · intro v hv _ H1 e R r
        walk_at "g"
        exact r H1 (Ex.refl _)
      intro D9 K9 hD9 x9 t9
      rw [filter_yes, List.map_id'] at t9
      have E9 := E8.trans x9
      walk_at "g"
      refine ⟨_, _, rows_dp (.inl (.inl t9)) (h4.tx (tx_ex E9)), rows_dp (.inl (.inl (E9 _ _ ts))) (tt.tx (tx_ex E9)), stDs_shaped sok, stDs_shaped sok, ?_⟩
      rw [rr]
      exact q _ E9
    · refine ⟨_, (pss_cons (ps_if (PW.pt (pw_or (pt_not (pt_val (pe_callB c_isinstance (by rfl) T.n_isinstance (by rfl) (pa_cons (pv 0) (pa_cons (pe_glob rfl T.g_Machine (show RelV (.ref T.C_Machine) (.ref T.C_Machine) from rfl)) pa_nil))))) (pw_or (pt_not (pt_val (pe_call G__law_whole (hr.mono (by decide)) (by rfl) T.g__law_whole T.f__law_whole.kp T.b__law_whole .nil pass0 (pa_cons (pe_fld (pv 0) rfl) pa_nil)))) (pw_or1 (pt_cmpR op_ne (pe_fld (pv 0) rfl) (pv 1) (nomark _)))))) (pss_one (ps_ret pe_bl)) pss_nil)
  (pss_cons (ps_if (PW.pt (pw_or (pt_not (pt_val (pe_call G__law_whole (hr.mono (by decide)) (by rfl) T.g__law_whole T.f__law_whole.kp T.b__law_whole .nil pass0 (pa_cons (pe_fld (pv 0) rfl) pa_nil)))) (pw_or1 (pt_cmpR op_ne (pe_fld (pv 0) rfl) (pv 4) (nomark _))))) (pss_one (ps_ret pe_bl)) pss_nil)
  (pss_cons (ps_if (PW.pt (pw_or (pt_not (pt_val (pe_callB c_isinstance (by rfl) T.n_isinstance (by rfl) (pa_cons (pe_fld (pv 0) rfl) (pa_cons (pe_bltn (by rfl) T.n_tuple (by rfl) (show RelV (.ty "tuple") (.type "tuple") from rfl)) pa_nil))))) (pw_or1 (pt_not (pt_val (pe_callB (cr_all rfl) (by rfl) T.n_all (by rfl) (pa_cons (pe_lc (own := [("_law_mark", 5)]) (g := gName 5) (tt := tYes) rfl sc__law_parts_hold.nd (pi_tup (pe_fld (pv 0) rfl)) (blkOk_by (N := N__law_parts_hold) (sc := defScope s__law_parts_hold) (by decide +kernel)) (fun _ _ _ _ _ => (pg_name (i := 5) sc__law_parts_hold.nd rfl (.inl rfl))) (fun _ _ _ _ _ => pts_nil) (fun _ _ _ _ _ => (pe_call G__law_whole (hr.mono (by decide)) (by rfl) T.g__law_whole T.f__law_whole.kp T.b__law_whole .nil pass0 (pa_cons (pv 5) pa_nil)))) pa_nil))))))) (pss_one (ps_ret pe_bl)) pss_nil)
  (pss_cons (ps_if (PW.pt (pw_or (pt_not (pt_val (pe_callB c_isinstance (by rfl) T.n_isinstance (by rfl) (pa_cons (pe_fld (pv 0) rfl) (pa_cons (pe_bltn (by rfl) T.n_tuple (by rfl) (show RelV (.ty "tuple") (.type "tuple") from rfl)) pa_nil))))) (pw_or1 (pt_not (pt_val (pe_callB (cr_all rfl) (by rfl) T.n_all (by rfl) (pa_cons (pe_lc (own := [("_law_step", 6)]) (g := gName 6) (tt := tYes) rfl sc__law_parts_hold.nd (pi_tup (pe_fld (pv 0) rfl)) (blkOk_by (N := N__law_parts_hold) (sc := defScope s__law_parts_hold) (by decide +kernel)) (fun _ _ _ _ _ => (pg_name (i := 6) sc__law_parts_hold.nd rfl (.inl rfl))) (fun _ _ _ _ _ => pts_nil) (fun _ _ _ _ _ => (pe_call G__law_is_step (hr.mono (by decide)) (by rfl) T.g__law_is_step T.f__law_is_step.kp T.b__law_is_step .nil pass0 (pa_cons (pv 6) pa_nil)))) pa_nil))))))) (pss_one (ps_ret pe_bl)) pss_nil)
  (pss_one (ps_ret (pe_and (pe_cmpR (op_eqD hu64) (pe_callTy c_listN (by rfl) T.n_list (by rfl) (pa_cons (pe_fld (pv 0) rfl) pa_nil)) (pv 2) (nomark _)) (pe_and (pe_cmpR (op_eqD hu64) (pe_callTy c_list (by rfl) T.n_list (by rfl) (pa_cons (pe_fld (pv 0) rfl) pa_nil)) (pv 3) (nomark _)) (pe_one (pe_cmpR (op_eqD hu64) (pe_lc (own := [("_law_step", 6)]) (g := gName 6) (tt := tYes) rfl sc__law_parts_hold.nd (pi_ownT T.it_Pattern G_iter (hr.mono (by decide)) T.b_Machine___iter__ pass0 (pv 0)) (blkOk_by (N := N__law_parts_hold) (sc := defScope s__law_parts_hold) (by decide +kernel)) (fun _ _ _ _ _ => (pg_name (i := 6) sc__law_parts_hold.nd rfl (.inl rfl))) (fun _ _ _ _ _ => pts_nil) (fun _ _ _ _ _ => (pv 6))) (pv 3) (nomark _))))))))))), ?_⟩
      have mc := T.cf_Pattern
      walk_at "g"
      refine ⟨_, _, _, _, true, rfl, .own _, .base (.ins h1 mc.cl (T.cc_Pattern).o1 (T.cc_Pattern).o2 (T.cc_Pattern).o3 (T.cc_Pattern).o4), T.is_Pattern, ?_⟩
      walk_at "g"
      refine ite_f rfl ?_
      walk_at "g"
      refine gtf_go h1 mc.cl mc.n1 (v := .int m.size) rfl ?_
      walk_at "g"
      refine ⟨m.size, rfl, ?_⟩
      walk_at "g"
      refine ite_f rfl ?_
      walk_at "g"
      refine gtf_go h1 mc.cl mc.n1 (v := .int m.size) rfl ?_
      walk_at "g"
      refine ite_f (by rw [decide_eq_true rfl]; rfl) ?_
      walk_at "g"
      refine gtf_go h1 mc.cl mc.n4 (v := .int m.now) rfl ?_
      walk_at "g"
      refine ⟨m.now, rfl, ?_⟩
      walk_at "g"
      refine ite_f rfl ?_
      walk_at "g"
      refine gtf_go h1 mc.cl mc.n4 (v := .int m.now) rfl ?_
      walk_at "g"
      refine ite_f (by rw [decide_eq_true rfl]; rfl) ?_
      walk_at "g"
      refine gtf_go h1 mc.cl mc.n2 (v := .ref p2) rfl ?_
      walk_at "g"
      refine ⟨_, _, _, _, true, rfl, .ty _, .base (.tup h2), rfl, ?_⟩
      walk_at "g"
      refine ite_f rfl ?_
      walk_at "g"
      refine lc_t (a := p2) (xs := m.marks.map V.int) (fun _ => true) (fun _ => .bl true) ?_ (.inl (.inl h2)) (by rw [List.length_map]; omega) (fun _ => rfl) yes_t ?_ ?_
      · intro R r
        walk_at "g"
        refine gtf_go h1 mc.cl mc.n2 (v := .ref p2) rfl ?_
        exact r
      · intro v hv _ H1 e1 R r
        obtain ⟨k, _, rfl⟩ := List.mem_map.mp hv
        walk_at "g"
        exact ⟨k, rfl, r H1 (Ex.refl _)⟩
      intro D1 K1 hD1 e1 l1
      rw [filter_yes] at l1
      walk_at "g"
      refine ⟨D1, m.marks.map (fun _ => true), rfl, .inl (.inl (by rw [l1, List.map_map, List.map_map]; rfl)), ?_⟩
      rw [show (m.marks.map fun _ => true).all id = true by rw [List.all_map, List.all_eq_true]; exact fun _ _ => rfl]
      walk_at "g"
      refine ite_f rfl ?_
      walk_at "g"
      refine gtf_go (e1 _ _ h1) mc.cl mc.n3 (v := .ref p3) rfl ?_
      walk_at "g"
      refine ⟨_, _, _, _, true, rfl, .ty _, .base (.tup (e1 _ _ h3)), rfl, ?_⟩
      walk_at "g"
      refine ite_f rfl ?_
      walk_at "g"
      refine lc_t (a := p3) (xs := ws) (fun _ => true) (fun _ => .bl true) ?_ (.inl (.inl (e1 _ _ h3))) (by rw [wl]; omega) (fun _ => rfl) yes_t ?_ ?_
      · intro R r
        walk_at "g"
        refine gtf_go (e1 _ _ h1) mc.cl mc.n3 (v := .ref p3) rfl ?_
        exact r
      · intro v hv _ H1 e2 R r
        obtain ⟨i, hi, e⟩ := List.getElem_of_mem hv
        have e' : ws[i]? = some v := by rw [List.getElem?_eq_getElem hi, e]
        obtain ⟨y, hy, ta⟩ := h4.get e'
        rw [List.getElem?_map] at hy
        obtain ⟨st, hst, rfl⟩ := Option.map_eq_some_iff.mp hy
        obtain ⟨b, rfl, hb⟩ := ta
        walk_at "g"
        exact ⟨b, st, rfl, e2 _ _ (e1 _ _ hb), r H1 (Ex.refl _)⟩
      intro D2 K2 hD2 e2 l2
      rw [filter_yes] at l2
      walk_at "g"
      refine ⟨D2, ws.map (fun _ => true), rfl, .inl (.inl (by rw [l2, List.map_map]; rfl)), ?_⟩
      rw [show (ws.map fun _ => true).all id = true by rw [List.all_map, List.all_eq_true]; exact fun _ _ => rfl]
      walk_at "g"
      refine ite_f rfl ?_
      walk_at "g"
      have E2 := e1.trans e2
      refine gtf_go (E2 _ _ h1) mc.cl mc.n2 (v := .ref p2) rfl ?_
      walk_at "g"
      refine ⟨p2, m.marks.map V.int, rfl, .inr (.inl (.inl (E2 _ _ h2))), fun l7 hl7 hn7 => ?_⟩
      have x7 := Ex.new (o := .lst (m.marks.map V.int)) hl7
      have t7 : (upd K2 l7 (.lst (m.marks.map V.int))) l7 = some (.lst (m.marks.map V.int)) := upd_same
      generalize (upd K2 l7 (.lst (m.marks.map V.int))) = K7 at x7 t7
      have E7 := E2.trans x7
      walk_at "g"
      refine ⟨_, _, ints_dp (.inl (.inl t7)), ints_dp (.inl (.inl (E7 _ _ tm))), ints_shaped _, ints_shaped _, ?_⟩
      rw [show (PyData.list (m.marks.map .int)).eqv (PyData.list (m.marks.map .int)) = true by simp only [PyData.eqv]; rw [ints_eqv, decide_eq_true rfl]]
      refine ⟨true, rfl, ite_t rfl ?_⟩
      walk_at "g"
      refine gtf_go (E7 _ _ h1) mc.cl mc.n3 (v := .ref p3) rfl ?_
      walk_at "g"
      refine list_s (.inr (.inl (.inl (E7 _ _ h3)))) fun l8 K8 hl8 x8 t8 => ?_
      have E8 := E7.trans x8
      walk_at "g"
      have rr : (PyData.list (m.rows.map stD)).eqv (PyData.list (m.rows.map stD)) = true := by simp only [PyData.eqv]; exact stDs_refl _
      refine ⟨_, _, rows_dp (.inl (.inl t8)) (h4.tx (tx_ex E8)), rows_dp (.inl (.inl (E8 _ _ ts))) (tt.tx (tx_ex E8)), stDs_shaped sok, stDs_shaped sok, ?_⟩
      rw [rr]
      refine ⟨true, rfl, ite_t rfl ?_⟩
      walk_at "g"
      refine lc_o (a := x) (b := p3) (xs := ws) (fun _ => true) (fun v => v) ?_ (E8 _ _ h1) (x8 _ _ t7) hn7 ?_ (.inl (.inl (E8 _ _ h3))) (by rw [wl]; omega) (fun _ => rfl) yes_t ?_ ?_
      · intro R r
        walk_at "g"
        exact r
      · intro Q' q'
        exact ⟨x, _, dx, _, p3, ws, rfl, E8 _ _ h1, mc, rfl, E8 _ _ h3, q'⟩
      · intro v hv _ H1 e R r
        walk_at "g"
        exact r H1 (Ex.refl _)
      intro D9 K9 hD9 x9 t9
      rw [filter_yes, List.map_id'] at t9
      have E9 := E8.trans x9
      walk_at "g"
      refine ⟨_, _, rows_dp (.inl (.inl t9)) (h4.tx (tx_ex E9)), rows_dp (.inl (.inl (E9 _ _ ts))) (tt.tx (tx_ex E9)), stDs_shaped sok, stDs_shaped sok, ?_⟩
      rw [rr]
      exact q _ E9

end
end K01

set_option Elab.async false
set_option linter.all false
set_option maxRecDepth 100000
namespace K01
open PySem PySem.Spec PyProof.Rows L2 Evl AE
local macro_rules | `(tactic| walk_at "c") => `(tactic| first | exact ⟨by decide, by decide⟩ | exact .inr ⟨by decide, by decide⟩ | exact .inl ⟨by decide, by decide⟩ | exact ⟨by decide, by decide, by decide⟩ | (show (0 : Int) < _; decide))
local macro_rules | `(tactic| walk_at "s") => `(tactic| first
  | (with_reducible refine r_var rfl ?_) | (with_reducible refine r_c ?_) | (with_reducible refine r_op ?_) | (with_reducible refine r_un ?_) | (with_reducible refine r_I0 ?_) | (with_reducible refine r_U ?_)
  | (with_reducible refine r_eq rfl ?_) | (with_reducible refine r_ne rfl ?_) | (with_reducible refine r_chain ?_) | (with_reducible refine r_test ?_) | (with_reducible refine r_tB ?_)
  | (with_reducible refine r_bl ?_) | (with_reducible refine r_and ?_) | (with_reducible refine r_or ?_) | (with_reducible refine r_not ?_) | (with_reducible refine r_nil ?_) | (with_reducible refine r_cons ?_)
  | (with_reducible refine r_tup ?_) | (with_reducible refine r_lst ?_) | (with_reducible refine r_cb ?_) | (with_reducible refine r_call ?_) | (with_reducible refine r_seq ?_) | (with_reducible refine r_set ?_)
  | (with_reducible refine r_drop ?_) | (with_reducible refine r_ret ?_) | (with_reducible refine r_next ?_) | (with_reducible refine r_if ?_) | (with_reducible refine r_sl ?_) | (with_reducible refine r_nop ?_) | (with_reducible refine r_prt ?_) | (with_reducible refine r_some ?_)
  | (with_reducible refine add_int ?_) | (with_reducible refine int_i ?_) | (with_reducible refine r_forR1 ?_) | (with_reducible refine r_forL ?_) | (with_reducible refine r_andV ?_) | (with_reducible refine r_orV ?_) | (with_reducible refine r_notV ?_) | (with_reducible refine r_ifE ?_) | (with_reducible refine r_lcL ?_) | (with_reducible refine r_fld ?_) | (with_reducible refine r_get ?_) | (with_reducible refine r_din ?_) | (with_reducible refine r_dget2 ?_) | ((with_reducible refine r_I ?_ ?_); (walk_at "c")))
local macro_rules | `(tactic| walk_at "g") => `(tactic| repeat walk_at "s")
section
variable {P : Program} {w : World} {K : PySem.W.Frag} {mg : Str → Option Value} {base : Heap}
theorem init_call {C : Addr} (mc : MCls K C) {H : Hp} {Q : VK} {n i : Int} {pS pm x dx : Addr} {us : List V} {ss : List StepD} {ms : List Int} (hx : H x = none) (hdx : H dx = none) (ne : dx ≠ x)
    (h5 : H pS = some (.lst us)) (t5 : Tups H us (ss.map stepV)) (h6 : H pm = some (.lst (ms.map V.int))) (n1 : 1 ≤ n) (n2 : n ≤ 200) (mok : ∀ m ∈ ms, 0 ≤ m ∧ m < n) (ml : ms.length ≤ 1000)
    (sok : ∀ s ∈ ss, OkS n s) (sl : ss.length ≤ 600) (i0 : 0 ≤ i) (i1 : i < n)
    (q : ∀ m H', Ex H H' → Made n ms ss i m → MachAt H' x C m → Q (.ref x) H') :
    sp_init K [.ref x, .int n, .ref pm, .ref pS, .int i] (upd (upd H dx (.own x)) x (.ins C dx [])) (fun v H3 => v = .non ∧ Q (.ref x) H3) E0 := by
  have e3 : Ex H (upd (upd H dx (.own x)) x (.ins C dx [])) := (Ex.new hdx).trans (Ex.new (by rw [upd_ne (fun z => ne z.symm)]; exact hx))
  have t3 : (upd (upd H dx (.own x)) x (.ins C dx [])) x = some (.ins C dx []) := upd_same
  generalize (upd (upd H dx (.own x)) x (.ins C dx [])) = H3 at e3 t3
  refine ⟨x, C, dx, pm, pS, n, i, ms, us, ss, rfl, t3, mc, n1, n2, .inl (.inl (.inl (e3 _ _ h6))), mok, ml, .inl (.inl (.inl (e3 _ _ h5))), t5.tx (tx_ex e3), sok, sl, i0, i1, fun m H' md ma c => ⟨rfl, ?_⟩⟩
  exact q m H' (ex_ch e3 hx c) md ma
def nowF (c i : Int) : Int := if c % 8 < 2 then 0 else i
def sp_made (T : Tp K mg) : Sp := fun vs H Q _ => ∃ (c n i : Int) (pm pS : Addr) (us : List V) (ss : List StepD) (ms : List Int), vs = [.int c, .int n, .ref pm, .ref pS, .int i] ∧ H pS = some (.lst us) ∧ Tups H us (ss.map stepV) ∧ H pm = some (.lst (ms.map V.int)) ∧
  1 ≤ n ∧ n ≤ 200 ∧ (∀ m ∈ ms, 0 ≤ m ∧ m < n) ∧ ms.length ≤ 1000 ∧ (∀ s ∈ ss, OkS n s) ∧ ss.length ≤ 600 ∧ 0 ≤ i ∧ i < n ∧
  ∀ x C m H', Ex H H' → KC T C → Made n ms ss (nowF c i) m → MachAt H' x C m → Q (.ref x) H'
theorem ok_made (T : Tp K mg) : FnOk P w K mg base CX0 5 T.a__law_made T.d__law_made ["_law_choice", "_law_size", "_law_marks", "_law_steps", "_law_here"] (sp_made T) := by
  have G_init : FnOk P w K mg base CX0 3 T.a_Machine___init__ T.d_Machine___init__ ["self", "size", "marks", "steps", "now"] (sp_init K) := ok_init T
  refine T.f__law_made.ok sc__law_made (fun vs H Q E h => ?_) (fun cdv A outer s H vs Q E hr h => ?_)
  · obtain ⟨c, n, i, pm, pS, us, ss, ms, rfl, _⟩ := h
    rfl
  · obtain ⟨c, n, i, pm, pS, us, ss, ms, rfl, h5, t5, h6, n1, n2, mok, ml, sok, sl, i0, i1, q⟩ := h
    refine ⟨_, (pss_cons (ps_if (pt_cmpR op_eq (pe_op op_mod (pe_callTy c_int (by rfl) T.n_int (by rfl) (pa_cons (pv 0) pa_nil)) pe_int) pe_int (nomark _)) (pss_one (ps_ret (pe_make T.mk_Service G_init (hr.mono (by decide)) (by rfl) T.g_Service T.e_b T.e_vs pass0 (pa_cons (pv 1) (pa_cons (pv 2) (pa_cons (pv 3) pa_nil)))))) pss_nil)
  (pss_cons (ps_if (pt_cmpR op_eq (pe_op op_mod (pe_callTy c_int (by rfl) T.n_int (by rfl) (pa_cons (pv 0) pa_nil)) pe_int) pe_int (nomark _)) (pss_one (ps_ret (pe_make T.mk_Pattern G_init (hr.mono (by decide)) (by rfl) T.g_Pattern T.e_b T.e_vs pass0 (pa_cons (pv 1) (pa_cons (pv 2) (pa_cons (pv 3) pa_nil)))))) pss_nil)
  (pss_cons (ps_if (pt_cmpR op_lt (pe_op op_mod (pe_callTy c_int (by rfl) T.n_int (by rfl) (pa_cons (pv 0) pa_nil)) pe_int) pe_int (nomark _)) (pss_one (ps_ret (pe_makeN T.mk_Service G_init (hr.mono (by decide)) (by rfl) T.g_Service T.e_kn pass0 (pa_cons (pv 1) (pa_cons (pv 2) (pa_cons (pv 3) pa_nil))) (pk_cons (pv 4) pk_nil)))) pss_nil)
  (pss_cons (ps_if (pt_cmpR op_lt (pe_op op_mod (pe_callTy c_int (by rfl) T.n_int (by rfl) (pa_cons (pv 0) pa_nil)) pe_int) pe_int (nomark _)) (pss_one (ps_ret (pe_makeN T.mk_Pattern G_init (hr.mono (by decide)) (by rfl) T.g_Pattern T.e_kn pass0 (pa_cons (pv 1) (pa_cons (pv 2) (pa_cons (pv 3) pa_nil))) (pk_cons (pv 4) pk_nil)))) pss_nil)
  (pss_cons (ps_if (pt_cmpR op_eq (pe_op op_mod (pe_callTy c_int (by rfl) T.n_int (by rfl) (pa_cons (pv 0) pa_nil)) pe_int) pe_int (nomark _)) (pss_one (ps_ret (pe_make T.mk_Service G_init (hr.mono (by decide)) (by rfl) T.g_Service T.b_Machine___init__ .nil pass0 (pa_cons (pv 1) (pa_cons (pv 2) (pa_cons (pv 3) (pa_cons (pv 4) pa_nil))))))) pss_nil)
  (pss_one (ps_ret (pe_make T.mk_Machine G_init (hr.mono (by decide)) (by rfl) T.g_Machine T.b_Machine___init__ .nil pass0 (pa_cons (pv 1) (pa_cons (pv 2) (pa_cons (pv 3) (pa_cons (pv 4) pa_nil)))))))))))), ?_⟩
    walk_at "g"
    refine ite_b (fun hc => ?_) (fun hc => ?_)
    · have z : c % 8 = 0 := V.int.inj (of_decide_eq_true hc)
      walk_at "g"
      refine r_cons (r_var rfl (r_cons (r_var rfl (r_cons (r_var rfl (r_nil ?_))))))
      intro x dx hx hdx ne
      exact init_call T.cf_Service hx hdx ne h5 t5 h6 n1 n2 mok ml sok sl (Int.le_refl 0) (by omega) fun m H' e md ma => q x _ m H' e (.inr (.inl rfl)) (by rw [show nowF c i = _ from if_pos (by omega)]; exact md) ma
    have z0 : ¬ c % 8 = 0 := fun q0 => of_decide_eq_false hc (congrArg V.int q0)
    walk_at "g"
    refine ite_b (fun hc => ?_) (fun hc => ?_)
    · have z : c % 8 = 1 := V.int.inj (of_decide_eq_true hc)
      walk_at "g"
      refine r_cons (r_var rfl (r_cons (r_var rfl (r_cons (r_var rfl (r_nil ?_))))))
      intro x dx hx hdx ne
      exact init_call T.cf_Pattern hx hdx ne h5 t5 h6 n1 n2 mok ml sok sl (Int.le_refl 0) (by omega) fun m H' e md ma => q x _ m H' e (.inr (.inr rfl)) (by rw [show nowF c i = _ from if_pos (by omega)]; exact md) ma
    have z1 : ¬ c % 8 = 1 := fun q0 => of_decide_eq_false hc (congrArg V.int q0)
    have z2 : ¬ c % 8 < 2 := by omega
    walk_at "g"
    refine ite_b (fun hc => ?_) (fun hc => ?_)
    · walk_at "g"
      refine r_cons (r_var rfl (r_cons (r_var rfl (r_cons (r_var rfl (r_nil (r_cons (r_var rfl (r_nil ⟨rfl, rfl, ?_⟩))))))))) 
      intro x dx hx hdx ne
      exact init_call T.cf_Service hx hdx ne h5 t5 h6 n1 n2 mok ml sok sl i0 i1 fun m H' e md ma => q x _ m H' e (.inr (.inl rfl)) (by rw [show nowF c i = _ from if_neg (by omega)]; exact md) ma
    walk_at "g"
    refine ite_b (fun hc => ?_) (fun hc => ?_)
    · walk_at "g"
      refine r_cons (r_var rfl (r_cons (r_var rfl (r_cons (r_var rfl (r_nil (r_cons (r_var rfl (r_nil ⟨rfl, rfl, ?_⟩))))))))) 
      intro x dx hx hdx ne
      exact init_call T.cf_Pattern hx hdx ne h5 t5 h6 n1 n2 mok ml sok sl i0 i1 fun m H' e md ma => q x _ m H' e (.inr (.inr rfl)) (by rw [show nowF c i = _ from if_neg (by omega)]; exact md) ma
    walk_at "g"
    refine ite_b (fun hc => ?_) (fun hc => ?_)
    · walk_at "g"
      refine r_cons (r_var rfl (r_cons (r_var rfl (r_cons (r_var rfl (r_cons (r_var rfl (r_nil ?_))))))))
      intro x dx hx hdx ne
      exact init_call T.cf_Service hx hdx ne h5 t5 h6 n1 n2 mok ml sok sl i0 i1 fun m H' e md ma => q x _ m H' e (.inr (.inl rfl)) (by rw [show nowF c i = _ from if_neg (by omega)]; exact md) ma
    walk_at "g"
    refine r_cons (r_var rfl (r_cons (r_var rfl (r_cons (r_var rfl (r_cons (r_var rfl (r_nil ?_))))))))
    intro x dx hx hdx ne
    exact init_call T.cf_Machine hx hdx ne h5 t5 h6 n1 n2 mok ml sok sl i0 i1 fun m H' e md ma => q x _ m H' e (.inl rfl) (by rw [show nowF c i = _ from if_neg (by omega)]; exact md) ma
end
end K01

set_option Elab.async false
set_option linter.all false
set_option maxRecDepth 100000
namespace K01
open PySem PySem.Spec PyProof.Rows L2 Evl AE
local macro_rules | `(tactic| walk_at "c") => `(tactic| first | exact ⟨by decide, by decide⟩ | exact .inr ⟨by decide, by decide⟩ | exact .inl ⟨by decide, by decide⟩ | exact ⟨by decide, by decide, by decide⟩ | (show (0 : Int) < _; decide))
local macro_rules | `(tactic| walk_at "s") => `(tactic| first
  | (with_reducible refine r_var rfl ?_) | (with_reducible refine r_c ?_) | (with_reducible refine r_op ?_) | (with_reducible refine r_un ?_) | (with_reducible refine r_I0 ?_) | (with_reducible refine r_U ?_)
  | (with_reducible refine r_eq rfl ?_) | (with_reducible refine r_ne rfl ?_) | (with_reducible refine r_chain ?_) | (with_reducible refine r_test ?_) | (with_reducible refine r_tB ?_)
  | (with_reducible refine r_bl ?_) | (with_reducible refine r_and ?_) | (with_reducible refine r_or ?_) | (with_reducible refine r_not ?_) | (with_reducible refine r_nil ?_) | (with_reducible refine r_cons ?_)
  | (with_reducible refine r_tup ?_) | (with_reducible refine r_lst ?_) | (with_reducible refine r_cb ?_) | (with_reducible refine r_call ?_) | (with_reducible refine r_seq ?_) | (with_reducible refine r_set ?_)
  | (with_reducible refine r_drop ?_) | (with_reducible refine r_ret ?_) | (with_reducible refine r_next ?_) | (with_reducible refine r_if ?_) | (with_reducible refine r_sl ?_) | (with_reducible refine r_nop ?_) | (with_reducible refine r_prt ?_) | (with_reducible refine r_some ?_)
  | (with_reducible refine add_int ?_) | (with_reducible refine int_i ?_) | (with_reducible refine r_forR1 ?_) | (with_reducible refine r_forL ?_) | (with_reducible refine r_andV ?_) | (with_reducible refine r_orV ?_) | (with_reducible refine r_notV ?_) | (with_reducible refine r_ifE ?_) | (with_reducible refine r_lcL ?_) | (with_reducible refine r_fld ?_) | (with_reducible refine r_get ?_) | (with_reducible refine r_din ?_) | (with_reducible refine r_dget2 ?_) | ((with_reducible refine r_I ?_ ?_); (walk_at "c")))
local macro_rules | `(tactic| walk_at "g") => `(tactic| repeat walk_at "s")
section
variable {P : Program} {w : World} {K : PySem.W.Frag} {mg : Str → Option Value} {base : Heap}
/-! ### the steps of the law -/
def dgF (ds : List Int) (i j : Nat) : Int := ds.getD ((i * 6 + j) % 60) 0
def enF (n d : Int) (i : Nat) : Int := (d * 7 + i) % n
def celF (st : Int) (x : Str) (n d : Int) (i : Nat) : List StepD := (if 0 < d % 3 then [(st, x, enF n d i)] else []) ++ (if d % 3 = 2 ∧ enF n d i < n - 1 then [(st, x, n - 1)] else [])
def rowF (sts : List Int) (asks : List Str) (ds : List Int) (n : Int) (i k : Nat) : List StepD := (List.range k).flatMap fun j => celF (sts.getD i 0) (asks.getD j Str.empty) n (dgF ds i j) i
def allF (sts : List Int) (asks : List Str) (ds : List Int) (n : Int) (k : Nat) : List StepD := (List.range k).flatMap fun i => rowF sts asks ds n i asks.length
theorem row_snoc (sts : List Int) (asks : List Str) (ds : List Int) (n : Int) (i k : Nat) : rowF sts asks ds n i (k + 1) = rowF sts asks ds n i k ++ celF (sts.getD i 0) (asks.getD k Str.empty) n (dgF ds i k) i := by
  unfold rowF
  rw [List.range_succ, List.flatMap_append]
  simp
theorem all_snoc (sts : List Int) (asks : List Str) (ds : List Int) (n : Int) (k : Nat) : allF sts asks ds n (k + 1) = allF sts asks ds n k ++ rowF sts asks ds n k asks.length := by
  unfold allF
  rw [List.range_succ, List.flatMap_append]
  simp
theorem cel_mem {st : Int} {x : Str} {n d : Int} {i : Nat} {s : StepD} (n1 : 1 ≤ n) (h : s ∈ celF st x n d i) : s.1 = st ∧ s.2.1 = x ∧ 0 ≤ s.2.2 ∧ s.2.2 < n := by
  have e0 : 0 ≤ enF n d i := Int.emod_nonneg _ (by omega)
  have e1 : enF n d i < n := Int.emod_lt_of_pos _ (by omega)
  unfold celF at h
  rcases List.mem_append.mp h with h | h
  · split at h
    · rw [List.mem_singleton.mp h]
      exact ⟨rfl, rfl, e0, e1⟩
    · cases h
  · split at h
    · rw [List.mem_singleton.mp h]
      exact ⟨rfl, rfl, by show 0 ≤ n - 1; omega, by show n - 1 < n; omega⟩
    · cases h
theorem cel_up (st : Int) (x : Str) (n d : Int) (i : Nat) : (celF st x n d i).Pairwise ltS := by
  unfold celF
  rw [List.pairwise_append]
  refine ⟨by split; exact List.pairwise_singleton _ _; exact .nil, by split; exact List.pairwise_singleton _ _; exact .nil, fun a ha b hb => ?_⟩
  split at ha
  · split at hb
    · rename_i h2
      rw [List.mem_singleton.mp ha, List.mem_singleton.mp hb]
      exact .inr ⟨rfl, .inr ⟨rfl, h2.2⟩⟩
    · cases hb
  · cases ha
theorem cel_len (st : Int) (x : Str) (n d : Int) (i : Nat) : (celF st x n d i).length ≤ 2 := by
  unfold celF
  rw [List.length_append]
  split <;> split <;> simp
theorem row_len (sts : List Int) (asks : List Str) (ds : List Int) (n : Int) (i : Nat) : ∀ k, (rowF sts asks ds n i k).length ≤ 2 * k
  | 0 => by unfold rowF; simp
  | k + 1 => by
    have a := row_len sts asks ds n i k
    have b := cel_len (sts.getD i 0) (asks.getD k Str.empty) n (dgF ds i k) i
    rw [row_snoc, List.length_append]
    omega
theorem all_len {sts : List Int} {asks : List Str} {ds : List Int} {n : Int} (al : asks.length ≤ 6) : ∀ k, (allF sts asks ds n k).length ≤ 12 * k
  | 0 => by unfold allF; simp
  | k + 1 => by
    have a := all_len (sts := sts) (ds := ds) (n := n) al k
    have b := row_len sts asks ds n k asks.length
    rw [all_snoc, List.length_append]
    omega
theorem range_up : ∀ k : Nat, (List.range k).Pairwise (· < ·)
  | 0 => by rw [List.range_zero]; exact .nil
  | k + 1 => by
    rw [List.range_succ, List.pairwise_append]
    exact ⟨range_up k, List.pairwise_singleton _ _, fun a ha b hb => by rw [List.mem_singleton.mp hb]; exact List.mem_range.mp ha⟩
theorem getD_lt {α : Type} {R : α → α → Prop} {l : List α} {z : α} (h : l.Pairwise R) {i j : Nat} (hij : i < j) (hj : j < l.length) : R (l.getD i z) (l.getD j z) := by
  rw [List.getD_eq_getElem?_getD, List.getD_eq_getElem?_getD, List.getElem?_eq_getElem hj, List.getElem?_eq_getElem (by omega)]
  exact List.pairwise_iff_getElem.mp h i j (by omega) hj hij
theorem getD_mem {α : Type} {l : List α} {z : α} {i : Nat} (hi : i < l.length) : l.getD i z ∈ l := by
  rw [List.getD_eq_getElem?_getD, List.getElem?_eq_getElem hi]
  exact List.getElem_mem hi
def AskLt (a b : Str) : Prop := a.cps.toList < b.cps.toList
theorem row_mem {sts : List Int} {asks : List Str} {ds : List Int} {n : Int} {i k : Nat} {s : StepD} (n1 : 1 ≤ n) (h : s ∈ rowF sts asks ds n i k) : ∃ j, j < k ∧ s.1 = sts.getD i 0 ∧ s.2.1 = asks.getD j Str.empty ∧ 0 ≤ s.2.2 ∧ s.2.2 < n := by
  unfold rowF at h
  obtain ⟨j, hj, h⟩ := List.mem_flatMap.mp h
  obtain ⟨a, b, c, d⟩ := cel_mem n1 h
  exact ⟨j, List.mem_range.mp hj, a, b, c, d⟩
theorem row_up {sts : List Int} {asks : List Str} {ds : List Int} {n : Int} {i : Nat} (n1 : 1 ≤ n) (up : asks.Pairwise AskLt) : (rowF sts asks ds n i asks.length).Pairwise ltS := by
  unfold rowF
  rw [List.pairwise_flatMap]
  refine ⟨fun j _ => cel_up _ _ _ _ _, (range_up _).imp_of_mem fun {a b} ha hb hab x hx y hy => ?_⟩
  obtain ⟨x1, x2, _⟩ := cel_mem n1 hx
  obtain ⟨y1, y2, _⟩ := cel_mem n1 hy
  refine .inr ⟨by rw [x1, y1], .inl ?_⟩
  rw [x2, y2]
  exact getD_lt up hab (List.mem_range.mp hb)
theorem all_up {sts : List Int} {asks : List Str} {ds : List Int} {n : Int} (n1 : 1 ≤ n) (up : asks.Pairwise AskLt) (us : sts.Pairwise (· < ·)) : (allF sts asks ds n sts.length).Pairwise ltS := by
  unfold allF
  rw [List.pairwise_flatMap]
  refine ⟨fun j _ => row_up n1 up, (range_up _).imp_of_mem fun {a b} ha hb hab x hx y hy => ?_⟩
  obtain ⟨_, _, x1, _⟩ := row_mem n1 hx
  obtain ⟨_, _, y1, _⟩ := row_mem n1 hy
  refine .inl ?_
  rw [x1, y1]
  exact getD_lt us hab (List.mem_range.mp hb)
theorem all_ok {sts : List Int} {asks : List Str} {ds : List Int} {n : Int} (n1 : 1 ≤ n) (ak : ∀ x ∈ asks, AskOk x) (so : ∀ x ∈ sts, 0 ≤ x ∧ x < n) : ∀ s ∈ allF sts asks ds n sts.length, OkS n s := fun s h => by
  unfold allF at h
  obtain ⟨i, hi, h⟩ := List.mem_flatMap.mp h
  have hi' := List.mem_range.mp hi
  obtain ⟨j, hj, a, b, c, d⟩ := row_mem n1 h
  have sx := so _ (getD_mem (z := 0) hi')
  have ax := ak _ (getD_mem (z := Str.empty) hj)
  rw [← a] at sx
  rw [← b] at ax
  exact ⟨sx.1, sx.2, ax.1, ax.2.1, ax.2.2, c, d⟩
/-! the asks are different -/
theorem letC_inj {k i j : Nat} {r : Int} (hk : k < 6) (hi : i < 6) (hj : j < 6) (h : letC (r + ((k : Int) * 2 + 1) * i) = letC (r + ((k : Int) * 2 + 1) * j)) : i = j := by
  unfold letC at h
  have e : (r + ((k : Int) * 2 + 1) * i) % 26 = (r + ((k : Int) * 2 + 1) * j) % 26 := by omega
  clear h
  have ki : k = 0 ∨ k = 1 ∨ k = 2 ∨ k = 3 ∨ k = 4 ∨ k = 5 := by omega
  rcases ki with rfl | rfl | rfl | rfl | rfl | rfl <;> omega
theorem askL_inj {row : List Int} (hl : 13 ≤ row.length) (hb : ∀ x ∈ row, 0 ≤ x ∧ x < 64) {i j : Nat} (hi : i < 6) (hj : j < 6) (h : askL row i = askL row j) : i = j := by
  have wl := word_len hl
  unfold askL at h
  by_cases z : row.getD 8 0 % 2 = 0
  · rw [if_pos z, if_pos z] at h
    have e := congrArg List.length h
    rw [List.length_take, List.length_take] at e
    omega
  · rw [if_neg z, if_neg z] at h
    have p0 : 0 ≤ row.getD 10 0 % (row.getD 9 0 % 8 + 1) := by
      have : row.getD 9 0 % 8 + 1 ≠ 0 := by omega
      exact Int.emod_nonneg _ this
    have p1 : row.getD 10 0 % (row.getD 9 0 % 8 + 1) < row.getD 9 0 % 8 + 1 := Int.emod_lt_of_pos _ (by omega)
    generalize row.getD 10 0 % (row.getD 9 0 % 8 + 1) = p at p0 p1 h
    rw [List.append_assoc, List.append_assoc] at h
    have e := (List.cons.inj (List.append_cancel_left h)).1
    refine letC_inj (k := (row.getD 12 0 % 6).toNat) (r := row.getD 11 0) (by omega) hi hj ?_
    rw [show (((row.getD 12 0 % 6).toNat : Nat) : Int) = row.getD 12 0 % 6 by omega]
    exact e
theorem asks_nodup {row : List Int} (hl : 13 ≤ row.length) (hb : ∀ x ∈ row, 0 ≤ x ∧ x < 64) {many : Nat} (hm : many ≤ 6) : (asksF row many).Pairwise (· ≠ ·) := by
  unfold asksF
  rw [List.pairwise_map]
  refine (range_up _).imp_of_mem fun {a b} ha hb2 hab e => ?_
  have e1 : askL row a = askL row b := by
    have e2 := congrArg (fun (z : Str) => z.cps.toList) e
    simpa using e2
  have := askL_inj hl hb (by have := List.mem_range.mp ha; omega) (by have := List.mem_range.mp hb2; omega) e1
  omega
theorem sorted_up {xs ys : List Str} (hp : ys.Perm xs) (hs : sortedS ys = true) (nd : xs.Pairwise (· ≠ ·)) : ys.Pairwise AskLt := by
  have pw := sorted_pw hs
  have nd2 : ys.Pairwise (· ≠ ·) := (hp.pairwise_iff (fun h => Ne.symm h)).mpr nd
  refine List.Pairwise.imp₂ (fun a b h1 h2 => ?_) pw nd2
  by_cases h3 : a.cps.toList < b.cps.toList
  · exact h3
  · exact absurd (Str.ext' (Array.toList_inj.mp (List.le_antisymm (List.not_lt.mp h1) (List.not_lt.mp h3)))) h2
/-! rising marks -/
theorem ints_eq : ∀ {xs ys : List Int}, xs.Pairwise (· < ·) → ys.Pairwise (· < ·) → (∀ s, s ∈ xs ↔ s ∈ ys) → xs = ys
  | [], [], _, _, _ => rfl
  | [], y :: ys, _, _, h => absurd ((h y).mpr (List.mem_cons_self ..)) (by simp)
  | x :: xs, [], _, _, h => absurd ((h x).mp (List.mem_cons_self ..)) (by simp)
  | x :: xs, y :: ys, hx, hy, h => by
    rw [List.pairwise_cons] at hx hy
    have e : x = y := by
      rcases List.mem_cons.mp ((h x).mp (List.mem_cons_self ..)) with e | m
      · exact e
      · rcases List.mem_cons.mp ((h y).mpr (List.mem_cons_self ..)) with e | m2
        · exact e.symm
        · have a := hy.1 x m
          have b := hx.1 y m2
          omega
    subst e
    have t : xs = ys := ints_eq hx.2 hy.2 fun s => by
      constructor
      · intro m
        rcases List.mem_cons.mp ((h s).mp (List.mem_cons_of_mem _ m)) with e | m2
        · have := hx.1 s m
          omega
        · exact m2
      · intro m
        rcases List.mem_cons.mp ((h s).mpr (List.mem_cons_of_mem _ m)) with e | m2
        · have := hy.1 s m
          omega
        · exact m2
    rw [t]
theorem marks_same {n : Int} {ms ks : List Int} (u : UpTo n ms) (h : ∀ s, s ∈ ks ↔ s ∈ ms) : marksF n ks = ms := by
  unfold marksF
  refine ints_eq (List.Pairwise.filter _ ?_) u.1 fun s => ?_
  · rw [List.pairwise_map]
    exact (range_up _).imp fun {a b} h => by omega
  · rw [List.mem_filter, decide_eq_true_iff, h, List.mem_map]
    constructor
    · exact fun q => q.2
    · intro q
      have := u.2 s q
      exact ⟨⟨s.toNat, List.mem_range.mpr (by omega), by omega⟩, q⟩
theorem made_rows {n : Int} {ms ks : List Int} {ss ts : List StepD} {i : Int} {m : Mach} (md : Made n ks ts i m) (u : UpTo n ms) (up : ss.Pairwise ltS) (hm : ∀ s, s ∈ ks ↔ s ∈ ms) (hs : ∀ s, s ∈ ts ↔ s ∈ ss) : m.marks = ms ∧ m.rows = ss :=
  ⟨by rw [md.marks]; exact marks_same u hm, rows_eq md.up up fun s => by rw [md.mem, hs]⟩
end
end K01

set_option Elab.async false
set_option linter.all false
set_option maxRecDepth 100000
set_option maxHeartbeats 2000000
namespace K01
open PySem PySem.Spec PyProof.Rows L2 Evl AE
local macro_rules | `(tactic| walk_at "c") => `(tactic| first | exact ⟨by decide, by decide⟩ | exact .inr ⟨by decide, by decide⟩ | exact .inl ⟨by decide, by decide⟩ | exact ⟨by decide, by decide, by decide⟩ | (show (0 : Int) < _; decide))
local macro_rules | `(tactic| walk_at "s") => `(tactic| first
  | (with_reducible refine r_var rfl ?_) | (with_reducible refine r_c ?_) | (with_reducible refine r_op ?_) | (with_reducible refine r_un ?_) | (with_reducible refine r_I0 ?_) | (with_reducible refine r_U ?_)
  | (with_reducible refine r_eq rfl ?_) | (with_reducible refine r_ne rfl ?_) | (with_reducible refine r_chain ?_) | (with_reducible refine r_test ?_) | (with_reducible refine r_tB ?_)
  | (with_reducible refine r_bl ?_) | (with_reducible refine r_and ?_) | (with_reducible refine r_or ?_) | (with_reducible refine r_not ?_) | (with_reducible refine r_nil ?_) | (with_reducible refine r_cons ?_)
  | (with_reducible refine r_tup ?_) | (with_reducible refine r_lst ?_) | (with_reducible refine r_cb ?_) | (with_reducible refine r_call ?_) | (with_reducible refine r_seq ?_) | (with_reducible refine r_set ?_)
  | (with_reducible refine r_drop ?_) | (with_reducible refine r_ret ?_) | (with_reducible refine r_next ?_) | (with_reducible refine r_if ?_) | (with_reducible refine r_sl ?_) | (with_reducible refine r_nop ?_) | (with_reducible refine r_prt ?_) | (with_reducible refine r_some ?_)
  | (with_reducible refine add_int ?_) | (with_reducible refine int_i ?_) | (with_reducible refine r_forR1 ?_) | (with_reducible refine r_forL ?_) | (with_reducible refine r_andV ?_) | (with_reducible refine r_orV ?_) | (with_reducible refine r_notV ?_) | (with_reducible refine r_ifE ?_) | (with_reducible refine r_lcL ?_) | (with_reducible refine r_fld ?_) | (with_reducible refine r_get ?_) | (with_reducible refine r_din ?_) | (with_reducible refine r_dget2 ?_) | ((with_reducible refine r_I ?_ ?_); (walk_at "c")))
local macro_rules | `(tactic| walk_at "g") => `(tactic| repeat walk_at "s")
section
variable {P : Program} {w : World} {K : PySem.W.Frag} {mg : Str → Option Value} {base : Heap}
theorem ask_strOk {x : Str} (h : ∀ c ∈ x.cps.toList, 97 ≤ c ∧ c ≤ 122) : PyData.strOk x = true := by
  show x.cps.all (fun c => decide (c < 1114112)) = true
  rw [← Array.all_toList, List.all_eq_true]
  intro c hc
  have := h c hc
  exact decide_eq_true (by omega)
theorem strs_at {xs : List Str} {j : Nat} (h : j < xs.length) : atI (xs.map V.str) (j : Int) = some (.str (xs.getD j Str.empty)) := by
  refine atI_nat ?_
  rw [List.getElem?_map, List.getElem?_eq_getElem h, List.getD_eq_getElem?_getD, List.getElem?_eq_getElem h]
  rfl
theorem MachAt.lst {H : Hp} {x C p : Addr} {m : Mach} {ys zs : List V} (hp : H p = some (.lst ys)) (h : MachAt H x C m) : MachAt (upd H p (.lst zs)) x C m := by
  obtain ⟨dx, pm, ps, de, dp, us, h1, h2, h3, h4, ⟨k1, h5, h6⟩, ⟨k2, G, h7, h8, h9⟩⟩ := h
  have t : Tx H (upd H p (.lst zs)) := tx_lst hp
  refine ⟨dx, pm, ps, de, dp, us, ?_, ?_, ?_, h4.tx t, ⟨k1, ?_, h6.tx t⟩, ⟨k2, G, ?_, h8.tx t, fun k => (h9 k).tx t⟩⟩
  · rw [upd_ne (ne_of h1 hp (by intro z; cases z))]; exact h1
  · rw [upd_ne (ne_of h2 hp (by intro z; cases z))]; exact h2
  · rw [upd_ne (ne_of h3 hp (by intro z; cases z))]; exact h3
  · rw [upd_ne (ne_of h5 hp (by intro z; cases z))]; exact h5
  · rw [upd_ne (ne_of h7 hp (by intro z; cases z))]; exact h7
theorem ap_step {H0 H5 : Hp} {l p : Addr} {us : List V} {rows : List StepD} (st : StepD) (hl : H0 l = none) (g1 : Ex H0 H5) (l5 : H5 l = some (.lst us)) (t5 : Tups H5 us (rows.map stepV)) (hp : H5 p = none) :
    Ex H0 (upd (upd H5 p (.tup (stepV st))) l (.lst (us ++ [.ref p]))) ∧ (upd (upd H5 p (.tup (stepV st))) l (.lst (us ++ [.ref p]))) l = some (.lst (us ++ [.ref p])) ∧
      Tups (upd (upd H5 p (.tup (stepV st))) l (.lst (us ++ [.ref p]))) (us ++ [.ref p]) ((rows ++ [st]).map stepV) := by
  have pl : p ≠ l := fun z => by rw [z, l5] at hp; cases hp
  have l6 : (upd H5 p (.tup (stepV st))) l = some (.lst us) := (Ex.new hp) _ _ l5
  refine ⟨ex_upd (g1.trans (Ex.new hp)) hl, upd_same, ?_⟩
  rw [List.map_append]
  refine Tups.snoc ?_ (Tups.tx ((tx_ex (Ex.new hp)).trans (tx_lst l6)) t5)
  exact ⟨p, rfl, by rw [upd_ne pl, upd_same]⟩
def sp_law (K : PySem.W.Frag) : Sp := fun vs H Q _ => ∃ (a : Addr) (ns : List Int), vs = [.ref a] ∧ SqL K H a (ns.map V.int) ∧ ∀ H', Q (.bl true) H'
theorem ok_law (T : Tp K mg) : FnOk P w K mg base CX0 6 T.a_law T.d_law ["_law_script"] (sp_law K) := by
  have G__law_draws : FnOk P w K mg base CX0 2 T.a__law_draws T.d__law_draws ["_law_script", "_law_k", "_law_many"] (sp_draws K) := ok_draws T
  have G__law_asks : FnOk P w K mg base CX0 1 T.a__law_asks T.d__law_asks ["_law_row", "_law_many"] (sp_asks K) := ok_asks T
  have G__law_climb : FnOk P w K mg base CX0 1 T.a__law_climb T.d__law_climb ["_law_row", "_law_size"] (sp_climb K) := ok_climb T
  have G__law_shuffled : FnOk P w K mg base CX0 1 T.a__law_shuffled T.d__law_shuffled ["_law_rows", "_law_row"] (sp_shuf K) := ok_shuf T
  have G__law_parts_hold : FnOk P w K mg base CX0 3 T.a__law_parts_hold T.d__law_parts_hold ["_law_machine", "_law_size", "_law_marks", "_law_steps", "_law_here"] (sp_parts T) := ok_parts T
  have G__law_made : FnOk P w K mg base CX0 5 T.a__law_made T.d__law_made ["_law_choice", "_law_size", "_law_marks", "_law_steps", "_law_here"] (sp_made T) := ok_made T
  refine T.f_law.ok sc_law (fun vs H Q E h => ?_) (fun cdv A outer s H vs Q E hr h => ?_)
  · obtain ⟨a, ns, rfl, _⟩ := h
    rfl
  · obtain ⟨a, ns, rfl, hS, q⟩ := h
    have hu := hu_of hr
    have hu64 := hu64_of hr
    refine ⟨_, (pss_cons (ps_set (i := 1) sc_law.nd rfl (.inl rfl) (pe_call G__law_draws (hr.mono (by decide)) (by rfl) T.g__law_draws T.f__law_draws.kp T.b__law_draws .nil pass0 (pa_cons (pv 0) (pa_cons pe_int (pa_cons pe_int pa_nil)))))
  (pss_cons (ps_set (i := 2) sc_law.nd rfl (.inl rfl) (pe_op opAdd pe_int (pe_op op_mod (pe_callTy c_int (by rfl) T.n_int (by rfl) (pa_cons (pe_op opAdd (pe_op op_mul (pe_ix ix_seq (pv 1) pe_int (fun _ _ => rfl)) pe_int) (pe_ix ix_seq (pv 1) pe_int (fun _ _ => rfl))) pa_nil)) pe_int)))
  (pss_cons (ps_set (i := 3) sc_law.nd rfl (.inl rfl) (pe_call G__law_asks (hr.mono (by decide)) (by rfl) T.g__law_asks T.f__law_asks.kp T.b__law_asks .nil pass0 (pa_cons (pe_call G__law_draws (hr.mono (by decide)) (by rfl) T.g__law_draws T.f__law_draws.kp T.b__law_draws .nil pass0 (pa_cons (pv 0) (pa_cons pe_int (pa_cons pe_int pa_nil)))) (pa_cons (pe_op opAdd pe_int (pe_op op_mod (pe_callTy c_int (by rfl) T.n_int (by rfl) (pa_cons (pe_ix ix_seq (pv 1) pe_int (fun _ _ => rfl)) pa_nil)) pe_int)) pa_nil))))
  (pss_cons (ps_set (i := 4) sc_law.nd rfl (.inl rfl) (pe_callB c_sorted (by rfl) T.n_sorted (by rfl) (pa_cons (pe_lc (own := [("_law_ask", 5)]) (g := gName 5) (tt := tYes) rfl sc_law.nd (pi_list (pv 3)) (blkOk_by (N := N_law) (sc := defScope s_law) (by decide +kernel)) (fun _ _ _ _ _ => (pg_name (i := 5) sc_law.nd rfl (.inl rfl))) (fun _ _ _ _ _ => pts_nil) (fun _ _ _ _ _ => (pe_callTy c_str (by rfl) T.n_str (by rfl) (pa_cons (pv 5) pa_nil)))) pa_nil)))
  (pss_cons (ps_set (i := 6) sc_law.nd rfl (.inl rfl) (pe_call G__law_climb (hr.mono (by decide)) (by rfl) T.g__law_climb T.f__law_climb.kp T.b__law_climb .nil pass0 (pa_cons (pe_call G__law_draws (hr.mono (by decide)) (by rfl) T.g__law_draws T.f__law_draws.kp T.b__law_draws .nil pass0 (pa_cons (pv 0) (pa_cons pe_int (pa_cons pe_int pa_nil)))) (pa_cons (pv 2) pa_nil))))
  (pss_cons (ps_set (i := 7) sc_law.nd rfl (.inl rfl) (pe_call G__law_climb (hr.mono (by decide)) (by rfl) T.g__law_climb T.f__law_climb.kp T.b__law_climb .nil pass0 (pa_cons (pe_call G__law_draws (hr.mono (by decide)) (by rfl) T.g__law_draws T.f__law_draws.kp T.b__law_draws .nil pass0 (pa_cons (pv 0) (pa_cons pe_int (pa_cons pe_int pa_nil)))) (pa_cons (pv 2) pa_nil))))
  (pss_cons (ps_set (i := 8) sc_law.nd rfl (.inl rfl) (pe_call G__law_draws (hr.mono (by decide)) (by rfl) T.g__law_draws T.f__law_draws.kp T.b__law_draws .nil pass0 (pa_cons (pv 0) (pa_cons pe_int (pa_cons pe_int pa_nil)))))
  (pss_cons (ps_set (i := 9) sc_law.nd rfl (.inl rfl) (pe_lst pa_nil))
  (pss_cons (ps_for PassesOwn.never rfl (pi_range1 rfl T.n_range (pa_cons (pe_callB c_len (by rfl) T.n_len (by rfl) (pa_cons (pv 7) pa_nil)) pa_nil)) (pg_name (i := 10) sc_law.nd rfl (.inl rfl))
  (pss_one (ps_for PassesOwn.never rfl (pi_range1 rfl T.n_range (pa_cons (pe_callB c_len (by rfl) T.n_len (by rfl) (pa_cons (pv 4) pa_nil)) pa_nil)) (pg_name (i := 11) sc_law.nd rfl (.inl rfl))
  (pss_cons (ps_set (i := 12) sc_law.nd rfl (.inl rfl) (pe_ix ix_seq (pv 8) (pe_op op_mod (pe_callTy c_int (by rfl) T.n_int (by rfl) (pa_cons (pe_op opAdd (pe_op op_mul (pv 10) pe_int) (pv 11)) pa_nil)) pe_int) (fun _ _ => rfl)))
  (pss_cons (ps_set (i := 13) sc_law.nd rfl (.inl rfl) (pe_op op_mod (pe_callTy c_int (by rfl) T.n_int (by rfl) (pa_cons (pe_op opAdd (pe_op op_mul (pv 12) pe_int) (pv 10)) pa_nil)) (pv 2)))
  (pss_cons (ps_if (pt_cmpR op_gt (pe_op op_mod (pe_callTy c_int (by rfl) T.n_int (by rfl) (pa_cons (pv 12) pa_nil)) pe_int) pe_int (nomark _)) (pss_one (ps_expr (pe_bm PySem.F.plainAttrs_list PySem.F.slot_list_append PySem.F.type_list_append mt_append (pv 9) (pa_cons (pe_tup (pa_cons (pe_ix ix_seq (pv 7) (pv 10) (fun _ _ => rfl)) (pa_cons (pe_ix ix_seq (pv 4) (pv 11) (fun _ _ => rfl)) (pa_cons (pv 13) pa_nil)))) pa_nil)))) pss_nil)
  (pss_one (ps_if (PW.pt (pw_and (pt_cmpR op_eq (pe_op op_mod (pe_callTy c_int (by rfl) T.n_int (by rfl) (pa_cons (pv 12) pa_nil)) pe_int) pe_int (nomark _)) (pw_and1 (pt_cmpR op_lt (pv 13) (pe_op op_sub (pv 2) pe_int) (nomark _))))) (pss_one (ps_expr (pe_bm PySem.F.plainAttrs_list PySem.F.slot_list_append PySem.F.type_list_append mt_append (pv 9) (pa_cons (pe_tup (pa_cons (pe_ix ix_seq (pv 7) (pv 10) (fun _ _ => rfl)) (pa_cons (pe_ix ix_seq (pv 4) (pv 11) (fun _ _ => rfl)) (pa_cons (pe_op op_sub (pv 2) pe_int) pa_nil)))) pa_nil)))) pss_nil))))))))
  (pss_cons (ps_set (i := 14) sc_law.nd rfl (.inl rfl) (pe_op op_mod (pe_callTy c_int (by rfl) T.n_int (by rfl) (pa_cons (pe_op opAdd (pe_op op_mul (pe_ix ix_seq (pv 1) pe_int (fun _ _ => rfl)) pe_int) (pe_ix ix_seq (pv 1) pe_int (fun _ _ => rfl))) pa_nil)) (pv 2)))
  (pss_cons (ps_set (i := 15) sc_law.nd rfl (.inl rfl) (pe_call G__law_shuffled (hr.mono (by decide)) (by rfl) T.g__law_shuffled T.f__law_shuffled.kp T.b__law_shuffled .nil pass0 (pa_cons (pv 6) (pa_cons (pe_slice sl_list (pv 1) (po_some pe_int) (po_some pe_int)) pa_nil))))
  (pss_cons (ps_set (i := 16) sc_law.nd rfl (.inl rfl) (pe_call G__law_shuffled (hr.mono (by decide)) (by rfl) T.g__law_shuffled T.f__law_shuffled.kp T.b__law_shuffled .nil pass0 (pa_cons (pv 9) (pa_cons (pe_slice sl_list (pv 1) (po_some pe_int) (po_some pe_int)) pa_nil))))
  (pss_cons (ps_set (i := 17) sc_law.nd rfl (.inl rfl) (pe_lst (pa_cons (pe_callTy c_list (by rfl) T.n_list (by rfl) (pa_cons (pv 15) pa_nil)) (pa_cons (pe_callTy c_list (by rfl) T.n_list (by rfl) (pa_cons (pv 16) pa_nil)) pa_nil))))
  (pss_cons (ps_set (i := 18) sc_law.nd rfl (.inl rfl) (pe_call G__law_made (hr.mono (by decide)) (by rfl) T.g__law_made T.f__law_made.kp T.b__law_made .nil pass0 (pa_cons (pe_ix ix_seq (pv 1) pe_int (fun _ _ => rfl)) (pa_cons (pv 2) (pa_cons (pv 15) (pa_cons (pv 16) (pa_cons (pv 14) pa_nil)))))))
  (pss_cons (ps_if (pt_cmpR op_lt (pe_op op_mod (pe_callTy c_int (by rfl) T.n_int (by rfl) (pa_cons (pe_ix ix_seq (pv 1) pe_int (fun _ _ => rfl)) pa_nil)) pe_int) pe_int (nomark _)) (pss_one (ps_set (i := 14) sc_law.nd rfl (.inl rfl) pe_int)) pss_nil)
  (pss_cons (ps_if (PW.pt (pw_or (pt_cmpR (op_neD hu64) (pv 15) (pe_ix ix_seq (pv 17) pe_int (fun _ _ => rfl)) (nomark _)) (pw_or1 (pt_cmpR (op_neD hu64) (pv 16) (pe_ix ix_seq (pv 17) pe_int (fun _ _ => rfl)) (nomark _))))) (pss_one (ps_ret pe_bl)) pss_nil)
  (pss_cons (ps_if (pt_not (pt_val (pe_call G__law_parts_hold (hr.mono (by decide)) (by rfl) T.g__law_parts_hold T.f__law_parts_hold.kp T.b__law_parts_hold .nil pass0 (pa_cons (pv 18) (pa_cons (pv 2) (pa_cons (pv 6) (pa_cons (pv 9) (pa_cons (pv 14) pa_nil)))))))) (pss_one (ps_ret pe_bl)) pss_nil)
  (pss_cons (ps_expr (pe_bm PySem.F.plainAttrs_list PySem.F.slot_list_append PySem.F.type_list_append mt_append (pv 15) (pa_cons (pe_op op_sub (pv 2) pe_int) pa_nil)))
  (pss_cons (ps_expr (pe_bm PySem.F.plainAttrs_list PySem.F.slot_list_append PySem.F.type_list_append mt_append (pv 16) (pa_cons (pe_tup (pa_cons pe_int (pa_cons pe_str (pa_cons pe_int pa_nil)))) pa_nil)))
  (pss_one (ps_ret (pe_call G__law_parts_hold (hr.mono (by decide)) (by rfl) T.g__law_parts_hold T.f__law_parts_hold.kp T.b__law_parts_hold .nil pass0 (pa_cons (pv 18) (pa_cons (pv 2) (pa_cons (pv 6) (pa_cons (pv 9) (pa_cons (pv 14) pa_nil))))))))))))))))))))))))))), ?_⟩
    walk_at "g"
    refine ⟨a, ns, 0, 16, rfl, hS, by decide, by decide, by decide, fun pr H1 fr e1 t1 => ?_⟩
    have d0 : (drawsF ns 0 16).length = 16 := draws_len ns 0 16
    have b0 := draws_bd ns 0 16
    have bb : ∀ j, 0 ≤ (drawsF ns 0 16).getD j 0 := fun j => by
      by_cases hj : j < 16
      · exact (b0 _ (getD_mem (by omega))).1
      · rw [List.getD_eq_getElem?_getD, List.getElem?_eq_none (by omega)]
        exact Int.le_refl 0
    walk_at "g"
    refine ix_l (.inl (.inl t1)) (row_at (j := 0) (by omega)) ?_
    walk_at "g"
    refine ix_l (.inl (.inl t1)) (row_at (j := 1) (by omega)) ?_
    walk_at "g"
    generalize hn : 1 + ((drawsF ns 0 16).getD 0 0 * 64 + (drawsF ns 0 16).getD 1 0) % 200 = n
    have n1 : 1 ≤ n := by omega
    have n2 : n ≤ 200 := by omega
    refine ⟨a, ns, 1, 13, rfl, ex_l e1 hS, by decide, by decide, by decide, fun pk H2 fk e2 t2 => ?_⟩
    have d1 : (drawsF ns 1 13).length = 13 := draws_len ns 1 13
    walk_at "g"
    refine ix_l (.inl (.inl (e2 _ _ t1))) (row_at (j := 2) (by omega)) ?_
    walk_at "g"
    generalize hmany : 1 + (drawsF ns 0 16).getD 2 0 % 6 = many
    refine ⟨pk, drawsF ns 1 13, many, rfl, .inl (.inl t2), d1, draws_bd ns 1 13, by omega, by omega, fun pn H3 fn e3 t3 => ?_⟩
    have nl := asks_len (drawsF ns 1 13) many.toNat
    walk_at "g"
    refine lcl_go (xs := (asksF (drawsF ns 1 13) many.toNat).map V.str) (fun _ => true) (fun v => v) (.inl (.inl t3)) (by rw [List.length_map, nl]; omega) (fun _ => rfl) yes_t ?_ ?_
    · intro v hv _ H4 e4 R r
      obtain ⟨x, _, rfl⟩ := List.mem_map.mp hv
      walk_at "g"
      exact ⟨x, rfl, r H4 (Ex.refl _)⟩
    intro pl H4 hl4 e4 t4
    rw [filter_yes, List.map_id'] at t4
    walk_at "g"
    refine ⟨pl, asksF (drawsF ns 1 13) many.toNat, rfl, .inl (.inl t4), by rw [nl]; exact Nat.le_of_lt (sz_lt (by omega)), fun asks ps pp hs hps => ?_⟩
    have up := sorted_up pp hs (asks_nodup (by omega) (draws_bd ns 1 13) (by omega))
    have ak : ∀ x ∈ asks, AskOk x := fun x hx => asks_ok (by omega) _ x (pp.mem_iff.mp hx)
    have al : asks.length ≤ 6 := by rw [pp.length_eq, nl]; omega
    have e5 := Ex.new (o := .lst (asks.map V.str)) hps
    have t5 : (upd H4 ps (.lst (asks.map V.str))) ps = some (.lst (asks.map V.str)) := upd_same
    generalize (upd H4 ps (.lst (asks.map V.str))) = H5 at e5 t5
    have X5 : Ex H H5 := e1.trans (e2.trans (e3.trans (e4.trans e5)))
    have E1 := (e2.trans (e3.trans (e4.trans e5))) _ _ t1
    clear t1 e1 e2 e3 e4 e5 fr fk fn hl4 t2 t3 t4 hps
    walk_at "g"
    refine ⟨a, ns, 2, 15, rfl, ex_l X5 hS, by decide, by decide, by decide, fun pa H6 f6 e6 t6 => ?_⟩
    walk_at "g"
    refine ⟨pa, drawsF ns 2 15, n, rfl, .inl (.inl t6), draws_len ns 2 15, n1, n2, fun pm H7 f7 e7 t7 => ?_⟩
    walk_at "g"
    refine ⟨a, ns, 3, 15, rfl, ex_l (X5.trans (e6.trans e7)) hS, by decide, by decide, by decide, fun pb H8 f8 e8 t8 => ?_⟩
    walk_at "g"
    refine ⟨pb, drawsF ns 3 15, n, rfl, .inl (.inl t8), draws_len ns 3 15, n1, n2, fun pst H9 f9 e9 t9 => ?_⟩
    walk_at "g"
    refine ⟨a, ns, 4, 60, rfl, ex_l (X5.trans (e6.trans (e7.trans (e8.trans e9)))) hS, by decide, by decide, by decide, fun pd H10 f10 e10 t10 => ?_⟩
    walk_at "g"
    refine ⟨sz_of (by show 0 ≤ 100000; decide), fun l hl => ?_⟩
    have e11 := Ex.new (o := .lst ([] : List V)) hl
    have l11 : (upd H10 l (.lst [])) l = some (.lst []) := upd_same
    generalize (upd H10 l (.lst [])) = H11 at e11 l11
    obtain ⟨um, ml⟩ := climb_ok (row := drawsF ns 2 15) n1 (draws_len ns 2 15)
    obtain ⟨ust, sl⟩ := climb_ok (row := drawsF ns 3 15) n1 (draws_len ns 3 15)
    have dl : (drawsF ns 4 60).length = 60 := draws_len ns 4 60
    have db := draws_bd ns 4 60
    generalize climbF (drawsF ns 2 15) n = ms at t7 um ml
    generalize climbF (drawsF ns 3 15) n = sts at t9 ust sl
    generalize drawsF ns 4 60 = ds at t10 dl db
    have F1 := (e6.trans (e7.trans (e8.trans (e9.trans e10)))) _ _ E1
    have F4 := (e6.trans (e7.trans (e8.trans (e9.trans e10)))) _ _ t5
    have F6 := (e8.trans (e9.trans e10)) _ _ t7
    have F7 := e10 _ _ t9
    have F8 := t10
    have X11 : Ex H10 H11 := e11
    have Y : Ex H H10 := X5.trans (e6.trans (e7.trans (e8.trans (e9.trans e10))))
    clear E1 t5 t6 t7 t8 t9 t10 e6 e7 e8 e9 e10 e11 f6 f7 f8 f9 f10
    walk_at "g"
    refine len_l (.inl (.inl (X11 _ _ F7))) ?_
    walk_at "g"
    refine lr1_go (fun i σ' H' => ∃ y10 y11 y12 y13 us, σ' = [some (.ref a), some (.ref pr), some (.int n), some (.ref pn), some (.ref ps), none, some (.ref pm), some (.ref pst), some (.ref pd), some (.ref l), y10, y11, y12, y13, none, none, none, none, none] ∧ Ex H10 H' ∧ H' l = some (.lst us) ∧ us.length ≤ 12 * i ∧ Tups H' us ((allF sts asks ds n i).map stepV))
      ⟨_, _, _, _, _, rfl, X11, l11, Nat.zero_le _, .nil⟩ ⟨by omega, by rw [List.length_map]; omega⟩ ?_ ?_
    · rintro i σ' H' hi ⟨y10, y11, y12, y13, us, rfl, g1, g3, g4, g5⟩
      rw [List.length_map] at hi
      walk_at "g"
      refine len_l (.inl (.inl (g1 _ _ F4))) ?_
      walk_at "g"
      refine lr1_go (fun j σ' H' => ∃ y11 y12 y13 us, σ' = [some (.ref a), some (.ref pr), some (.int n), some (.ref pn), some (.ref ps), none, some (.ref pm), some (.ref pst), some (.ref pd), some (.ref l), some (.int i), y11, y12, y13, none, none, none, none, none] ∧ Ex H10 H' ∧ H' l = some (.lst us) ∧ us.length ≤ 12 * i + 2 * j ∧ Tups H' us ((allF sts asks ds n i ++ rowF sts asks ds n i j).map stepV))
        ⟨_, _, _, _, rfl, g1, g3, g4, by unfold rowF; rw [List.range_zero, List.flatMap_nil, List.append_nil]; exact g5⟩ ⟨by omega, by rw [List.length_map]; omega⟩ ?_ ?_
      · rintro j σ' H' hj ⟨y11, y12, y13, us, rfl, g1, g3, g4, g5⟩
        rw [List.length_map] at hj
        have hj : j < asks.length := by omega
        walk_at "g"
        have ed : ((i : Int) * 6 + (j : Int)) % 60 = (((i * 6 + j) % 60 : Nat) : Int) := by omega
        rw [ed]
        have hd : (i * 6 + j) % 60 < ds.length := by rw [dl]; exact Nat.mod_lt _ (by decide)
        refine ix_l (.inl (.inl (g1 _ _ F8))) (row_at hd) ?_
        rw [show ds.getD ((i * 6 + j) % 60) 0 = dgF ds i j from rfl]
        generalize hdd : dgF ds i j = d
        walk_at "g"
        refine r_I (show (0 : Int) < n by omega) ?_
        generalize hen : (d * 7 + (i : Int)) % n = en
        walk_at "g"
        refine ite_b (fun hc1 => ?_) (fun hc1 => ?_)
        · have z1 : 0 < d % 3 := of_decide_eq_true hc1
          refine r_drop (r_app rfl g3 ?_)
          walk_at "g"
          refine ix_l (.inl (.inl (g1 _ _ F7))) (row_at (j := i) (by omega)) ?_
          walk_at "g"
          refine ix_l (.inl (.inl (g1 _ _ F4))) (strs_at hj) ?_
          walk_at "g"
          refine ⟨sz_of (by show 3 ≤ 100000; decide), fun p hp => ?_⟩
          obtain ⟨v1, v2, v3⟩ := ap_step (sts.getD i 0, asks.getD j Str.empty, en) hl g1 g3 g5 hp
          refine app_l ((Ex.new hp) _ _ g3) (sz_lt (by omega)) ?_
          rw [show stepV (sts.getD i 0, asks.getD j Str.empty, en) = [V.int (sts.getD i 0), V.str (asks.getD j Str.empty), V.int en] from rfl] at v1 v2 v3
          generalize (upd (upd H' p (.tup [V.int (sts.getD i 0), V.str (asks.getD j Str.empty), V.int en])) l (.lst (us ++ [.ref p]))) = H7 at v1 v2 v3
          walk_at "g"
          refine ite_b (fun hc2 => ?_) (fun hc2 => ?_)
          · have z2 : d % 3 = 2 := V.int.inj (of_decide_eq_true hc2)
            walk_at "g"
            refine ite_b (fun hc3 => ?_) (fun hc3 => ?_)
            · have z3 : en < n - 1 := of_decide_eq_true hc3
              refine r_drop (r_app rfl v2 ?_)
              walk_at "g"
              refine ix_l (.inl (.inl (v1 _ _ F7))) (row_at (j := i) (by omega)) ?_
              walk_at "g"
              refine ix_l (.inl (.inl (v1 _ _ F4))) (strs_at hj) ?_
              walk_at "g"
              refine ⟨sz_of (by show 3 ≤ 100000; decide), fun p2 hp2 => ?_⟩
              obtain ⟨w1, w2, w3⟩ := ap_step (sts.getD i 0, asks.getD j Str.empty, n - 1) hl v1 v2 v3 hp2
              refine app_l ((Ex.new hp2) _ _ v2) (sz_lt (by simp only [List.length_append, List.length_cons, List.length_nil]; omega)) ?_
              walk_at "g"
              refine ⟨_, _, _, _, rfl, w1, w2, by simp only [List.length_append, List.length_cons, List.length_nil]; omega, ?_⟩
              rw [row_snoc, ← List.append_assoc, hdd]
              unfold celF
              rw [show enF n d i = en from hen, if_pos z1, if_pos ⟨z2, z3⟩]
              rw [← List.append_assoc]
              exact w3
            · have z3 : ¬ en < n - 1 := of_decide_eq_false hc3
              walk_at "g"
              refine ⟨_, _, _, _, rfl, v1, v2, by simp only [List.length_append, List.length_cons, List.length_nil]; omega, ?_⟩
              rw [row_snoc, ← List.append_assoc, hdd]
              unfold celF
              rw [show enF n d i = en from hen, if_pos z1, if_neg (fun q0 => z3 q0.2), List.append_nil]
              exact v3
          · have z2 : ¬ d % 3 = 2 := fun q0 => of_decide_eq_false hc2 (congrArg V.int q0)
            walk_at "g"
            refine ⟨_, _, _, _, rfl, v1, v2, by simp only [List.length_append, List.length_cons, List.length_nil]; omega, ?_⟩
            rw [row_snoc, ← List.append_assoc, hdd]
            unfold celF
            rw [show enF n d i = en from hen, if_pos z1, if_neg (fun q0 => z2 q0.1), List.append_nil]
            exact v3
        · have z1 : ¬ 0 < d % 3 := of_decide_eq_false hc1
          walk_at "g"
          refine ite_b (fun hc2 => ?_) (fun hc2 => ?_)
          · have z2 : d % 3 = 2 := V.int.inj (of_decide_eq_true hc2)
            walk_at "g"
            refine ite_b (fun hc3 => ?_) (fun hc3 => ?_)
            · have z3 : en < n - 1 := of_decide_eq_true hc3
              refine r_drop (r_app rfl g3 ?_)
              walk_at "g"
              refine ix_l (.inl (.inl (g1 _ _ F7))) (row_at (j := i) (by omega)) ?_
              walk_at "g"
              refine ix_l (.inl (.inl (g1 _ _ F4))) (strs_at hj) ?_
              walk_at "g"
              refine ⟨sz_of (by show 3 ≤ 100000; decide), fun p2 hp2 => ?_⟩
              obtain ⟨w1, w2, w3⟩ := ap_step (sts.getD i 0, asks.getD j Str.empty, n - 1) hl g1 g3 g5 hp2
              refine app_l ((Ex.new hp2) _ _ g3) (sz_lt (by skip; omega)) ?_
              walk_at "g"
              refine ⟨_, _, _, _, rfl, w1, w2, by simp only [List.length_append, List.length_cons, List.length_nil]; omega, ?_⟩
              rw [row_snoc, ← List.append_assoc, hdd]
              unfold celF
              rw [show enF n d i = en from hen, if_neg z1, if_pos ⟨z2, z3⟩]
              rw [List.nil_append]
              exact w3
            · have z3 : ¬ en < n - 1 := of_decide_eq_false hc3
              walk_at "g"
              refine ⟨_, _, _, us, rfl, g1, g3, by skip; omega, ?_⟩
              rw [row_snoc, ← List.append_assoc, hdd]
              unfold celF
              rw [show enF n d i = en from hen, if_neg z1, if_neg (fun q0 => z3 q0.2), List.append_nil, List.append_nil]
              exact g5
          · have z2 : ¬ d % 3 = 2 := fun q0 => of_decide_eq_false hc2 (congrArg V.int q0)
            walk_at "g"
            refine ⟨_, _, _, us, rfl, g1, g3, by skip; omega, ?_⟩
            rw [row_snoc, ← List.append_assoc, hdd]
            unfold celF
            rw [show enF n d i = en from hen, if_neg z1, if_neg (fun q0 => z2 q0.1), List.append_nil, List.append_nil]
            exact g5
      · rintro σ' H' ⟨y11, y12, y13, us, rfl, g1, g3, g4, g5⟩
        rw [show ((List.map V.str asks).length : Int).toNat = asks.length by rw [List.length_map]; omega] at g4 g5
        walk_at "g"
        refine ⟨_, _, _, _, us, rfl, g1, g3, by omega, ?_⟩
        rw [all_snoc]
        exact g5
    · rintro σ' H' ⟨y10, y11, y12, y13, us, rfl, g1, g3, g4, g5⟩
      rw [show ((List.map V.int sts).length : Int).toNat = sts.length by rw [List.length_map]; omega] at g5
      rw [List.length_map] at g4
      have sok := all_ok (asks := asks) (ds := ds) n1 ak ust.2
      have sup := all_up (asks := asks) (ds := ds) n1 up ust.1
      have slen := all_len (sts := sts) (ds := ds) (n := n) al sts.length
      have usl := g5.len
      rw [List.length_map] at usl
      generalize allF sts asks ds n sts.length = ss at g5 sok sup slen usl
      have Y2 : Ex H H' := Y.trans g1
      have A1 := g1 _ _ F1
      have A6 := g1 _ _ F6
      clear F1 F4 F6 F7 F8 g4 X11 l11
      walk_at "g"
      refine ix_l (.inl (.inl A1)) (row_at (j := 3) (by omega)) ?_
      walk_at "g"
      refine ix_l (.inl (.inl A1)) (row_at (j := 4) (by omega)) ?_
      walk_at "g"
      refine r_I (show (0 : Int) < n by omega) ?_
      have w0 : 0 ≤ ((drawsF ns 0 16).getD 3 0 * 64 + (drawsF ns 0 16).getD 4 0) % n := Int.emod_nonneg _ (by omega)
      have w1 : ((drawsF ns 0 16).getD 3 0 * 64 + (drawsF ns 0 16).getD 4 0) % n < n := Int.emod_lt_of_pos _ (by omega)
      generalize ((drawsF ns 0 16).getD 3 0 * 64 + (drawsF ns 0 16).getD 4 0) % n = hh at w0 w1
      walk_at "g"
      refine sl_l (.inl (.inl A1)) fun q1 hq1 => ?_
      rw [cutV_midI _ (by decide) (by decide), ← List.map_take, ← List.map_drop]
      have r1l : (((drawsF ns 0 16).take (8 : Int).toNat).drop (5 : Int).toNat).length = 3 := by rw [List.length_drop, List.length_take, d0]; rfl
      have r1b : ∀ x ∈ ((drawsF ns 0 16).take (8 : Int).toNat).drop (5 : Int).toNat, 0 ≤ x := fun x hx => (b0 x (List.mem_of_mem_take (List.mem_of_mem_drop hx))).1
      generalize ((drawsF ns 0 16).take (8 : Int).toNat).drop (5 : Int).toNat = r1 at r1l r1b
      have k1 := Ex.new (o := .lst (r1.map V.int)) hq1
      have v1 : (upd H' q1 (.lst (r1.map V.int))) q1 = some (.lst (r1.map V.int)) := upd_same
      generalize (upd H' q1 (.lst (r1.map V.int))) = B1 at k1 v1
      walk_at "g"
      refine ⟨pm, q1, ms.map V.int, r1, rfl, .inl (.inl (k1 _ _ A6)), by rw [List.length_map]; omega, .inl (.inl v1), r1l, r1b, fun p1 B2 fp1 k2 v2 => ?_⟩
      rw [shuf_map] at v2
      have x2 := k1.trans k2
      have A1' := x2 _ _ A1
      have A6' := x2 _ _ A6
      have g3' := x2 _ _ g3
      have g5' := g5.tx (tx_ex x2)
      have n61 : pm ≠ p1 := ne_of_none (k1 _ _ A6) fp1
      have nl1 : l ≠ p1 := ne_of_none (k1 _ _ g3) fp1
      clear k1 k2 v1 fp1 x2 A1 A6 g3 g5 g1 hq1 X5 Y Y2 hl
      walk_at "g"
      refine sl_l (.inl (.inl A1')) fun q2 hq2 => ?_
      rw [cutV_midI _ (by decide) (by decide), ← List.map_take, ← List.map_drop]
      have r2l : (((drawsF ns 0 16).take (11 : Int).toNat).drop (8 : Int).toNat).length = 3 := by rw [List.length_drop, List.length_take, d0]; rfl
      have r2b : ∀ x ∈ ((drawsF ns 0 16).take (11 : Int).toNat).drop (8 : Int).toNat, 0 ≤ x := fun x hx => (b0 x (List.mem_of_mem_take (List.mem_of_mem_drop hx))).1
      generalize ((drawsF ns 0 16).take (11 : Int).toNat).drop (8 : Int).toNat = r2 at r2l r2b
      have k1 := Ex.new (o := .lst (r2.map V.int)) hq2
      have v1 : (upd B2 q2 (.lst (r2.map V.int))) q2 = some (.lst (r2.map V.int)) := upd_same
      generalize (upd B2 q2 (.lst (r2.map V.int))) = B3 at k1 v1
      walk_at "g"
      refine ⟨l, q2, us, r2, rfl, .inl (.inl (k1 _ _ g3')), by omega, .inl (.inl v1), r2l, r2b, fun p2 B4 fp2 k2 v4 => ?_⟩
      have x4 := k1.trans k2
      have n62 : pm ≠ p2 := ne_of_none (k1 _ _ A6') fp2
      have nl2 : l ≠ p2 := ne_of_none (k1 _ _ g3') fp2
      have n12 : p1 ≠ p2 := ne_of_none (k1 _ _ v2) fp2
      have C1 := x4 _ _ A1'
      have C6 := x4 _ _ A6'
      have C3 := x4 _ _ g3'
      have C5 := g5'.tx (tx_ex x4)
      have C2 := x4 _ _ v2
      have CT : Tups B4 (shufL us r2) ((shufL ss r2).map stepV) := by rw [← shuf_map]; exact tups_shuf r2 C5
      clear k1 k2 v1 fp2 x4 A1' A6' g3' g5' v2 hq2
      walk_at "g"
      refine list_s (.inl (.inl (.inl C2))) fun k1 B5 hk1 x5 t5 => ?_
      walk_at "g"
      refine list_s (.inl (.inl (.inl (x5 _ _ v4)))) fun k2 B6 hk2 x6 t6 => ?_
      walk_at "g"
      refine ⟨sz_of (by show 2 ≤ 100000; decide), fun kp hkp => ?_⟩
      have x7 := Ex.new (o := .lst [V.ref k1, V.ref k2]) hkp
      have t7 : (upd B6 kp (.lst [V.ref k1, V.ref k2])) kp = some (.lst [V.ref k1, V.ref k2]) := upd_same
      generalize (upd B6 kp (.lst [V.ref k1, V.ref k2])) = B7 at x7 t7
      have x57 := x5.trans (x6.trans x7)
      walk_at "g"
      refine ix_l (.inl (.inl (x57 _ _ C1))) (row_at (j := 11) (by omega)) ?_
      walk_at "g"
      generalize hcc : (drawsF ns 0 16).getD 11 0 = c
      refine ⟨c, n, hh, p1, p2, shufL us r2, shufL ss r2, shufL ms r1, rfl, x57 _ _ v4, CT.tx (tx_ex x57), x57 _ _ C2, n1, n2, fun z hz => um.2 z ((shuf_mem _ _ _).mp hz), by have := shuf_len ms r1; omega,
        fun z hz => sok z ((shuf_mem _ _ _).mp hz), by have := shuf_len ss r2; omega, w0, w1, fun x C m B8 x8 kc md ma => ?_⟩
      obtain ⟨em, er⟩ := made_rows md um sup (fun z => shuf_mem _ _ z) (fun z => shuf_mem _ _ z)
      have sm := md.size
      have nm := md.now
      have x58 := x57.trans x8
      have sok2 : ∀ z ∈ m.rows, PyData.strOk z.2.1 = true := fun z hz => ask_strOk (sok z (by rw [← er]; exact hz)).al
      walk_at "g"
      refine ix_l (.inl (.inl (x58 _ _ C1))) (row_at (j := 11) (by omega)) ?_
      rw [hcc]
      walk_at "g"
      refine ite_b (fun hc9 => ?_) (fun hc9 => ?_)
      · have nv : m.now = 0 := by rw [nm]; exact if_pos (of_decide_eq_true hc9)
        walk_at "g"
        refine ix_l (v := .ref k1) (.inl (.inl (x8 _ _ t7))) rfl ?_
        refine ⟨_, _, ints_dp (.inl (.inl (x58 _ _ C2))), ints_dp (.inl (.inl ((x6.trans (x7.trans x8)) _ _ t5))), ints_shaped _, ints_shaped _, ?_⟩
        rw [show (PyData.list ((shufL ms r1).map .int)).eqv (PyData.list ((shufL ms r1).map .int)) = true by simp only [PyData.eqv]; rw [ints_eqv, decide_eq_true rfl]]
        walk_at "g"
        refine ite_f rfl ?_
        walk_at "g"
        refine ix_l (v := .ref k2) (.inl (.inl (x8 _ _ t7))) rfl ?_
        refine ⟨_, _, rows_dp (.inl (.inl (x58 _ _ v4))) (CT.tx (tx_ex x58)), rows_dp (.inl (.inl ((x7.trans x8) _ _ t6))) (CT.tx (tx_ex x58)), stDs_shaped fun z hz => ask_strOk (sok z ((shuf_mem _ _ _).mp hz)).al, stDs_shaped fun z hz => ask_strOk (sok z ((shuf_mem _ _ _).mp hz)).al, ?_⟩
        rw [show (PyData.list ((shufL ss r2).map stD)).eqv (PyData.list ((shufL ss r2).map stD)) = true by simp only [PyData.eqv]; exact stDs_refl _]
        walk_at "g"
        refine ite_f rfl ?_
        walk_at "g"
        refine ⟨x, C, pm, l, m, us, (by rw [sm, nv]; first | done | rfl), kc, ma, (by rw [em]; exact x58 _ _ C6), x58 _ _ C3, (by rw [er]; exact C5.tx (tx_ex x58)), sok2, by rw [em]; omega, by rw [er]; omega, fun B9 x9 => ?_⟩
        walk_at "g"
        refine ite_f rfl ?_
        walk_at "g"
        have P1 := x9 _ _ (x58 _ _ C2)
        have P2 := x9 _ _ (x58 _ _ v4)
        have P6 := x9 _ _ (x58 _ _ C6)
        have P3 := x9 _ _ (x58 _ _ C3)
        have P5 := C5.tx (tx_ex (x58.trans x9))
        refine r_drop (r_app rfl P1 ?_)
        walk_at "g"
        refine app_l P1 (by rw [List.length_map]; have := shuf_len ms r1; exact sz_lt (by omega)) ?_
        have ma10 := (ma.ex x9).lst (zs := (shufL ms r1).map V.int ++ [V.int (n - 1)]) P1
        have R2 : (upd B9 p1 (.lst ((shufL ms r1).map V.int ++ [V.int (n - 1)]))) p2 = some (.lst (shufL us r2)) := by rw [upd_ne n12.symm]; exact P2
        have R6 : (upd B9 p1 (.lst ((shufL ms r1).map V.int ++ [V.int (n - 1)]))) pm = some (.lst (ms.map V.int)) := by rw [upd_ne n61]; exact P6
        have R3 : (upd B9 p1 (.lst ((shufL ms r1).map V.int ++ [V.int (n - 1)]))) l = some (.lst us) := by rw [upd_ne nl1]; exact P3
        have R5 := P5.tx (tx_lst (o := .lst ((shufL ms r1).map V.int ++ [V.int (n - 1)])) P1)
        generalize (upd B9 p1 (.lst ((shufL ms r1).map V.int ++ [V.int (n - 1)]))) = B10 at ma10 R2 R6 R3 R5
        walk_at "g"
        refine r_drop (r_app rfl R2 ?_)
        walk_at "g"
        refine ⟨sz_of (by show 3 ≤ 100000; decide), fun p hp => ?_⟩
        have y1 := Ex.new (o := .tup [V.int 0, V.str "new", V.int 0]) hp
        refine app_l (y1 _ _ R2) (by have := shuf_len us r2; exact sz_lt (by omega)) ?_
        have ma12 := (ma10.ex y1).lst (zs := shufL us r2 ++ [V.ref p]) (y1 _ _ R2)
        walk_at "g"
        refine ⟨x, C, pm, l, m, us, (by rw [sm, nv]; first | done | rfl), kc, ma12, (by rw [em, upd_ne n62]; exact y1 _ _ R6), (by rw [upd_ne nl2]; exact y1 _ _ R3), (by rw [er]; exact R5.tx ((tx_ex y1).trans (tx_lst (y1 _ _ R2)))), sok2, by rw [em]; omega, by rw [er]; omega, fun B13 _ => ?_⟩
        exact q B13
      · have nv : m.now = hh := by rw [nm]; exact if_neg (of_decide_eq_false hc9)
        walk_at "g"
        refine ix_l (v := .ref k1) (.inl (.inl (x8 _ _ t7))) rfl ?_
        refine ⟨_, _, ints_dp (.inl (.inl (x58 _ _ C2))), ints_dp (.inl (.inl ((x6.trans (x7.trans x8)) _ _ t5))), ints_shaped _, ints_shaped _, ?_⟩
        rw [show (PyData.list ((shufL ms r1).map .int)).eqv (PyData.list ((shufL ms r1).map .int)) = true by simp only [PyData.eqv]; rw [ints_eqv, decide_eq_true rfl]]
        walk_at "g"
        refine ite_f rfl ?_
        walk_at "g"
        refine ix_l (v := .ref k2) (.inl (.inl (x8 _ _ t7))) rfl ?_
        refine ⟨_, _, rows_dp (.inl (.inl (x58 _ _ v4))) (CT.tx (tx_ex x58)), rows_dp (.inl (.inl ((x7.trans x8) _ _ t6))) (CT.tx (tx_ex x58)), stDs_shaped fun z hz => ask_strOk (sok z ((shuf_mem _ _ _).mp hz)).al, stDs_shaped fun z hz => ask_strOk (sok z ((shuf_mem _ _ _).mp hz)).al, ?_⟩
        rw [show (PyData.list ((shufL ss r2).map stD)).eqv (PyData.list ((shufL ss r2).map stD)) = true by simp only [PyData.eqv]; exact stDs_refl _]
        walk_at "g"
        refine ite_f rfl ?_
        walk_at "g"
        refine ⟨x, C, pm, l, m, us, (by rw [sm, nv]; first | done | rfl), kc, ma, (by rw [em]; exact x58 _ _ C6), x58 _ _ C3, (by rw [er]; exact C5.tx (tx_ex x58)), sok2, by rw [em]; omega, by rw [er]; omega, fun B9 x9 => ?_⟩
        walk_at "g"
        refine ite_f rfl ?_
        walk_at "g"
        have P1 := x9 _ _ (x58 _ _ C2)
        have P2 := x9 _ _ (x58 _ _ v4)
        have P6 := x9 _ _ (x58 _ _ C6)
        have P3 := x9 _ _ (x58 _ _ C3)
        have P5 := C5.tx (tx_ex (x58.trans x9))
        refine r_drop (r_app rfl P1 ?_)
        walk_at "g"
        refine app_l P1 (by rw [List.length_map]; have := shuf_len ms r1; exact sz_lt (by omega)) ?_
        have ma10 := (ma.ex x9).lst (zs := (shufL ms r1).map V.int ++ [V.int (n - 1)]) P1
        have R2 : (upd B9 p1 (.lst ((shufL ms r1).map V.int ++ [V.int (n - 1)]))) p2 = some (.lst (shufL us r2)) := by rw [upd_ne n12.symm]; exact P2
        have R6 : (upd B9 p1 (.lst ((shufL ms r1).map V.int ++ [V.int (n - 1)]))) pm = some (.lst (ms.map V.int)) := by rw [upd_ne n61]; exact P6
        have R3 : (upd B9 p1 (.lst ((shufL ms r1).map V.int ++ [V.int (n - 1)]))) l = some (.lst us) := by rw [upd_ne nl1]; exact P3
        have R5 := P5.tx (tx_lst (o := .lst ((shufL ms r1).map V.int ++ [V.int (n - 1)])) P1)
        generalize (upd B9 p1 (.lst ((shufL ms r1).map V.int ++ [V.int (n - 1)]))) = B10 at ma10 R2 R6 R3 R5
        walk_at "g"
        refine r_drop (r_app rfl R2 ?_)
        walk_at "g"
        refine ⟨sz_of (by show 3 ≤ 100000; decide), fun p hp => ?_⟩
        have y1 := Ex.new (o := .tup [V.int 0, V.str "new", V.int 0]) hp
        refine app_l (y1 _ _ R2) (by have := shuf_len us r2; exact sz_lt (by omega)) ?_
        have ma12 := (ma10.ex y1).lst (zs := shufL us r2 ++ [V.ref p]) (y1 _ _ R2)
        walk_at "g"
        refine ⟨x, C, pm, l, m, us, (by rw [sm, nv]; first | done | rfl), kc, ma12, (by rw [em, upd_ne n62]; exact y1 _ _ R6), (by rw [upd_ne nl2]; exact y1 _ _ R3), (by rw [er]; exact R5.tx ((tx_ex y1).trans (tx_lst (y1 _ _ R2)))), sok2, by rw [em]; omega, by rw [er]; omega, fun B13 _ => ?_⟩
        exact q B13
end
end K01

set_option Elab.async false
set_option linter.all false
set_option maxRecDepth 100000
set_option maxHeartbeats 2000000
namespace K01
open PySem PySem.Spec PyProof.Rows L2 Evl AE
theorem all_mk {l : PySem.W.OpenLaw} {w : World} {K : PySem.W.Frag} {h : Heap} {mg : Str → Option Value} {fa C_Machine C_Service C_Pattern f0 f1 f2 f3 f4 f5 f6 f7 f8 f9 f10 f11 f12 f13 f14 f15 f16 f17 D17 f18 : Addr} (X : K.In h) (G : h.Ns mainGlobals mg) (hfa : mg "law" = some (.ref fa))
    {od0 an0 od1 an1 od2 an2 od3 an3 od4 an4 od5 an5 od6 an6 od7 an7 od8 an8 od9 an9 od10 an10 od11 an11 od12 an12 od13 an13 od14 an14 od15 an15 od16 an16 od17 an17 dD17 od18 an18 : Option Addr} {sl0 sl1 sl2 sl3 sl4 sl5 sl6 sl7 sl8 sl9 sl10 sl11 sl12 sl13 sl14 sl15 sl16 sl17 lD17 sl18 : Array (Option Value)} {oc0 kV0 dc0 pm0 cd0 ct0 oc1 kV1 dc1 pm1 cd1 ct1 oc2 kV2 dc2 pm2 cd2 ct2 oc3 kV3 dc3 pm3 cd3 ct3 oc4 kV4 dc4 pm4 cd4 ct4 oc5 kV5 dc5 pm5 cd5 ct5 oc6 kV6 dc6 pm6 cd6 ct6 oc7 kV7 dc7 pm7 cd7 ct7 oc8 kV8 dc8 pm8 cd8 ct8 oc9 kV9 dc9 pm9 cd9 ct9 oc10 kV10 dc10 pm10 cd10 ct10 oc11 kV11 dc11 pm11 cd11 ct11 oc12 kV12 dc12 pm12 cd12 ct12 oc13 kV13 dc13 pm13 cd13 ct13 oc14 kV14 dc14 pm14 cd14 ct14 oc15 kV15 dc15 pm15 cd15 ct15 oc16 kV16 dc16 pm16 cd16 ct16 oc17 kV17 dc17 pm17 cd17 ct17 oD17 oc18 kV18 dc18 pm18 cd18 ct18 : Value} {tD17 tk_MOST_STATES tk_MOST_STEPS tk_LONGEST_ASK : Tok} {nD17 : Nat}
    (qMachine : PySem.W.nsIn K mainGlobals "Machine" = some (some (.ref C_Machine)))
    (qService : PySem.W.nsIn K mainGlobals "Service" = some (some (.ref C_Service)))
    (qPattern : PySem.W.nsIn K mainGlobals "Pattern" = some (some (.ref C_Pattern)))
    (a0 : PySem.W.nsIn K mainGlobals "_law_cell" = some (some (.ref f0)))
    (l0 : K.lookup f0 = some ⟨oc0, od0, .func (PySem.W.fnOf "_law_cell" "_law_cell" (defArgs s__law_cell) (defBody s__law_cell) (defScope s__law_cell) .none kV0 dc0 pm0 an0 cd0 ct0), sl0⟩)
    (c0 : PySem.W.codeIn K cd0 "_law_cell" = true)
    (k0 : PySem.W.keepIn K (.ref f0) = true)
    (a1 : PySem.W.nsIn K mainGlobals "_law_draws" = some (some (.ref f1)))
    (l1 : K.lookup f1 = some ⟨oc1, od1, .func (PySem.W.fnOf "_law_draws" "_law_draws" (defArgs s__law_draws) (defBody s__law_draws) (defScope s__law_draws) .none kV1 dc1 pm1 an1 cd1 ct1), sl1⟩)
    (c1 : PySem.W.codeIn K cd1 "_law_draws" = true)
    (k1 : PySem.W.keepIn K (.ref f1) = true)
    (a2 : PySem.W.nsIn K mainGlobals "_law_asks" = some (some (.ref f2)))
    (l2 : K.lookup f2 = some ⟨oc2, od2, .func (PySem.W.fnOf "_law_asks" "_law_asks" (defArgs s__law_asks) (defBody s__law_asks) (defScope s__law_asks) .none kV2 dc2 pm2 an2 cd2 ct2), sl2⟩)
    (c2 : PySem.W.codeIn K cd2 "_law_asks" = true)
    (k2 : PySem.W.keepIn K (.ref f2) = true)
    (a3 : PySem.W.nsIn K mainGlobals "_law_whole" = some (some (.ref f3)))
    (l3 : K.lookup f3 = some ⟨oc3, od3, .func (PySem.W.fnOf "_law_whole" "_law_whole" (defArgs s__law_whole) (defBody s__law_whole) (defScope s__law_whole) .none kV3 dc3 pm3 an3 cd3 ct3), sl3⟩)
    (c3 : PySem.W.codeIn K cd3 "_law_whole" = true)
    (k3 : PySem.W.keepIn K (.ref f3) = true)
    (a4 : PySem.W.nsIn K mainGlobals "_law_climb" = some (some (.ref f4)))
    (l4 : K.lookup f4 = some ⟨oc4, od4, .func (PySem.W.fnOf "_law_climb" "_law_climb" (defArgs s__law_climb) (defBody s__law_climb) (defScope s__law_climb) .none kV4 dc4 pm4 an4 cd4 ct4), sl4⟩)
    (c4 : PySem.W.codeIn K cd4 "_law_climb" = true)
    (k4 : PySem.W.keepIn K (.ref f4) = true)
    (a5 : PySem.W.nsIn K mainGlobals "_law_shuffled" = some (some (.ref f5)))
    (l5 : K.lookup f5 = some ⟨oc5, od5, .func (PySem.W.fnOf "_law_shuffled" "_law_shuffled" (defArgs s__law_shuffled) (defBody s__law_shuffled) (defScope s__law_shuffled) .none kV5 dc5 pm5 an5 cd5 ct5), sl5⟩)
    (c5 : PySem.W.codeIn K cd5 "_law_shuffled" = true)
    (k5 : PySem.W.keepIn K (.ref f5) = true)
    (a6 : PySem.W.nsIn K mainGlobals "_law_parts_hold" = some (some (.ref f6)))
    (l6 : K.lookup f6 = some ⟨oc6, od6, .func (PySem.W.fnOf "_law_parts_hold" "_law_parts_hold" (defArgs s__law_parts_hold) (defBody s__law_parts_hold) (defScope s__law_parts_hold) .none kV6 dc6 pm6 an6 cd6 ct6), sl6⟩)
    (c6 : PySem.W.codeIn K cd6 "_law_parts_hold" = true)
    (k6 : PySem.W.keepIn K (.ref f6) = true)
    (a7 : PySem.W.nsIn K mainGlobals "_law_is_step" = some (some (.ref f7)))
    (l7 : K.lookup f7 = some ⟨oc7, od7, .func (PySem.W.fnOf "_law_is_step" "_law_is_step" (defArgs s__law_is_step) (defBody s__law_is_step) (defScope s__law_is_step) .none kV7 dc7 pm7 an7 cd7 ct7), sl7⟩)
    (c7 : PySem.W.codeIn K cd7 "_law_is_step" = true)
    (k7 : PySem.W.keepIn K (.ref f7) = true)
    (a8 : PySem.W.nsIn K mainGlobals "_law_made" = some (some (.ref f8)))
    (l8 : K.lookup f8 = some ⟨oc8, od8, .func (PySem.W.fnOf "_law_made" "_law_made" (defArgs s__law_made) (defBody s__law_made) (defScope s__law_made) .none kV8 dc8 pm8 an8 cd8 ct8), sl8⟩)
    (c8 : PySem.W.codeIn K cd8 "_law_made" = true)
    (k8 : PySem.W.keepIn K (.ref f8) = true)
    (a9 : PySem.W.nsIn K mainGlobals "law" = some (some (.ref f9)))
    (l9 : K.lookup f9 = some ⟨oc9, od9, .func (PySem.W.fnOf "law" "law" (defArgs s_law) (defBody s_law) (defScope s_law) .none kV9 dc9 pm9 an9 cd9 ct9), sl9⟩)
    (c9 : PySem.W.codeIn K cd9 "law" = true)
    (k9 : PySem.W.keepIn K (.ref f9) = true)
    (a10 : PySem.W.nsIn K mainGlobals "check_size" = some (some (.ref f10)))
    (l10 : K.lookup f10 = some ⟨oc10, od10, .func (PySem.W.fnOf "check_size" "check_size" (defArgs s_check_size) (defBody s_check_size) (defScope s_check_size) .none kV10 dc10 pm10 an10 cd10 ct10), sl10⟩)
    (c10 : PySem.W.codeIn K cd10 "check_size" = true)
    (k10 : PySem.W.keepIn K (.ref f10) = true)
    (a11 : PySem.W.nsIn K mainGlobals "check_marks" = some (some (.ref f11)))
    (l11 : K.lookup f11 = some ⟨oc11, od11, .func (PySem.W.fnOf "check_marks" "check_marks" (defArgs s_check_marks) (defBody s_check_marks) (defScope s_check_marks) .none kV11 dc11 pm11 an11 cd11 ct11), sl11⟩)
    (c11 : PySem.W.codeIn K cd11 "check_marks" = true)
    (k11 : PySem.W.keepIn K (.ref f11) = true)
    (a12 : PySem.W.nsIn K mainGlobals "check_steps" = some (some (.ref f12)))
    (l12 : K.lookup f12 = some ⟨oc12, od12, .func (PySem.W.fnOf "check_steps" "check_steps" (defArgs s_check_steps) (defBody s_check_steps) (defScope s_check_steps) .none kV12 dc12 pm12 an12 cd12 ct12), sl12⟩)
    (c12 : PySem.W.codeIn K cd12 "check_steps" = true)
    (k12 : PySem.W.keepIn K (.ref f12) = true)
    (a13 : PySem.W.nsIn K mainGlobals "is_ask" = some (some (.ref f13)))
    (l13 : K.lookup f13 = some ⟨oc13, od13, .func (PySem.W.fnOf "is_ask" "is_ask" (defArgs s_is_ask) (defBody s_is_ask) (defScope s_is_ask) .none kV13 dc13 pm13 an13 cd13 ct13), sl13⟩)
    (c13 : PySem.W.codeIn K cd13 "is_ask" = true)
    (k13 : PySem.W.keepIn K (.ref f13) = true)
    (a14 : PySem.W.nsIn K mainGlobals "ascending" = some (some (.ref f14)))
    (l14 : K.lookup f14 = some ⟨oc14, od14, .func (PySem.W.fnOf "ascending" "ascending" (defArgs s_ascending) (defBody s_ascending) (defScope s_ascending) .none kV14 dc14 pm14 an14 cd14 ct14), sl14⟩)
    (c14 : PySem.W.codeIn K cd14 "ascending" = true)
    (k14 : PySem.W.keepIn K (.ref f14) = true)
    (a15 : PySem.W.nsIn K mainGlobals "ends_by_ask" = some (some (.ref f15)))
    (l15 : K.lookup f15 = some ⟨oc15, od15, .func (PySem.W.fnOf "ends_by_ask" "ends_by_ask" (defArgs s_ends_by_ask) (defBody s_ends_by_ask) (defScope s_ends_by_ask) .none kV15 dc15 pm15 an15 cd15 ct15), sl15⟩)
    (c15 : PySem.W.codeIn K cd15 "ends_by_ask" = true)
    (k15 : PySem.W.keepIn K (.ref f15) = true)
    (a16 : PySem.W.nsIn K mainGlobals "pairs_by_state" = some (some (.ref f16)))
    (l16 : K.lookup f16 = some ⟨oc16, od16, .func (PySem.W.fnOf "pairs_by_state" "pairs_by_state" (defArgs s_pairs_by_state) (defBody s_pairs_by_state) (defScope s_pairs_by_state) .none kV16 dc16 pm16 an16 cd16 ct16), sl16⟩)
    (c16 : PySem.W.codeIn K cd16 "pairs_by_state" = true)
    (k16 : PySem.W.keepIn K (.ref f16) = true)
    (aM17 : PySem.W.findIn K (.ref C_Machine) "__init__" = some (some (.ref f17)))
    (aS17 : PySem.W.findIn K (.ref C_Service) "__init__" = some (some (.ref f17)))
    (aP17 : PySem.W.findIn K (.ref C_Pattern) "__init__" = some (some (.ref f17)))
    (i17 : PySem.W.isFn K (.ref f17) = true)
    (l17 : K.lookup f17 = some ⟨oc17, od17, .func (PySem.W.fnOf "__init__" "Machine.__init__" (defArgs s_Machine___init__) (defBody s_Machine___init__) (defScope s_Machine___init__) (.ref D17) kV17 dc17 pm17 an17 cd17 ct17), sl17⟩)
    (c17 : PySem.W.codeIn K cd17 "Machine.__init__" = true)
    (k17 : PySem.W.keepIn K (.ref f17) = true)
    (z17 : K.lookup D17 = some ⟨oD17, dD17, .seq #[.int 0 tD17] nD17, lD17⟩)
    (aM18 : PySem.W.findIn K (.ref C_Machine) "__iter__" = some (some (.ref f18)))
    (aS18 : PySem.W.findIn K (.ref C_Service) "__iter__" = some (some (.ref f18)))
    (aP18 : PySem.W.findIn K (.ref C_Pattern) "__iter__" = some (some (.ref f18)))
    (i18 : PySem.W.isFn K (.ref f18) = true)
    (l18 : K.lookup f18 = some ⟨oc18, od18, .func (PySem.W.fnOf "__iter__" "Machine.__iter__" (defArgs s_Machine___iter__) (defBody s_Machine___iter__) (defScope s_Machine___iter__) .none kV18 dc18 pm18 an18 cd18 ct18), sl18⟩)
    (c18 : PySem.W.codeIn K cd18 "Machine.__iter__" = true)
    (k18 : PySem.W.keepIn K (.ref f18) = true)
    (xMOST_STATES : PySem.W.nsIn K mainGlobals "MOST_STATES" = some (some (.int 200 tk_MOST_STATES)))
    (xMOST_STEPS : PySem.W.nsIn K mainGlobals "MOST_STEPS" = some (some (.int 600 tk_MOST_STEPS)))
    (xLONGEST_ASK : PySem.W.nsIn K mainGlobals "LONGEST_ASK" = some (some (.int 8 tk_LONGEST_ASK)))
    (n_len : PySem.W.nsIn K mainGlobals "len" = some none)
    (n_int : PySem.W.nsIn K mainGlobals "int" = some none)
    (n_range : PySem.W.nsIn K mainGlobals "range" = some none)
    (n_isinstance : PySem.W.nsIn K mainGlobals "isinstance" = some none)
    (n_bool : PySem.W.nsIn K mainGlobals "bool" = some none)
    (n_list : PySem.W.nsIn K mainGlobals "list" = some none)
    (n_tuple : PySem.W.nsIn K mainGlobals "tuple" = some none)
    (n_all : PySem.W.nsIn K mainGlobals "all" = some none)
    (n_sorted : PySem.W.nsIn K mainGlobals "sorted" = some none)
    (n_str : PySem.W.nsIn K mainGlobals "str" = some none)
    (n_iter : PySem.W.nsIn K mainGlobals "iter" = some none)
    (o2 : PySem.W.specialIn K (.builtin "object.__class__") "__get__" = some (some (.builtin "getset_descriptor.__get__")))
    (o3 : PySem.W.takesIn K (.builtin "object.__class__") = some true)
    (pgM : PySem.W.plainGet K C_Machine Str.empty = true)
    (hdM : PySem.W.hasDictIn K C_Machine = true)
    (poM : PySem.W.plainOver K C_Machine = true)
    (saM : PySem.W.findIn K (.ref C_Machine) "__setattr__" = some (some (.builtin "object.__setattr__")))
    (naM0 : PySem.W.findIn K (.ref C_Machine) "size" = some none)
    (naM1 : PySem.W.findIn K (.ref C_Machine) "marks" = some none)
    (naM2 : PySem.W.findIn K (.ref C_Machine) "steps" = some none)
    (naM3 : PySem.W.findIn K (.ref C_Machine) "now" = some none)
    (naM4 : PySem.W.findIn K (.ref C_Machine) "_ends" = some none)
    (naM5 : PySem.W.findIn K (.ref C_Machine) "_pairs" = some none)
    (mkM : PySem.W.makesIn K C_Machine = true)
    (kcM : PySem.W.keepIn K (.ref C_Machine) = true)
    (o1M : PySem.W.findIn K (.ref C_Machine) "__class__" = some (some (.builtin "object.__class__")))
    (o4M : PySem.W.mroIn K C_Machine (.type "object") = some true)
    (pgS : PySem.W.plainGet K C_Service Str.empty = true)
    (hdS : PySem.W.hasDictIn K C_Service = true)
    (poS : PySem.W.plainOver K C_Service = true)
    (saS : PySem.W.findIn K (.ref C_Service) "__setattr__" = some (some (.builtin "object.__setattr__")))
    (naS0 : PySem.W.findIn K (.ref C_Service) "size" = some none)
    (naS1 : PySem.W.findIn K (.ref C_Service) "marks" = some none)
    (naS2 : PySem.W.findIn K (.ref C_Service) "steps" = some none)
    (naS3 : PySem.W.findIn K (.ref C_Service) "now" = some none)
    (naS4 : PySem.W.findIn K (.ref C_Service) "_ends" = some none)
    (naS5 : PySem.W.findIn K (.ref C_Service) "_pairs" = some none)
    (mkS : PySem.W.makesIn K C_Service = true)
    (kcS : PySem.W.keepIn K (.ref C_Service) = true)
    (isS : PySem.W.kitOne K (.ref C_Service) (.ref C_Machine) = some true)
    (o1S : PySem.W.findIn K (.ref C_Service) "__class__" = some (some (.builtin "object.__class__")))
    (o4S : PySem.W.mroIn K C_Service (.type "object") = some true)
    (pgP : PySem.W.plainGet K C_Pattern Str.empty = true)
    (hdP : PySem.W.hasDictIn K C_Pattern = true)
    (poP : PySem.W.plainOver K C_Pattern = true)
    (saP : PySem.W.findIn K (.ref C_Pattern) "__setattr__" = some (some (.builtin "object.__setattr__")))
    (naP0 : PySem.W.findIn K (.ref C_Pattern) "size" = some none)
    (naP1 : PySem.W.findIn K (.ref C_Pattern) "marks" = some none)
    (naP2 : PySem.W.findIn K (.ref C_Pattern) "steps" = some none)
    (naP3 : PySem.W.findIn K (.ref C_Pattern) "now" = some none)
    (naP4 : PySem.W.findIn K (.ref C_Pattern) "_ends" = some none)
    (naP5 : PySem.W.findIn K (.ref C_Pattern) "_pairs" = some none)
    (mkP : PySem.W.makesIn K C_Pattern = true)
    (kcP : PySem.W.keepIn K (.ref C_Pattern) = true)
    (isP : PySem.W.kitOne K (.ref C_Pattern) (.ref C_Machine) = some true)
    (o1P : PySem.W.findIn K (.ref C_Pattern) "__class__" = some (some (.builtin "object.__class__")))
    (o4P : PySem.W.mroIn K C_Pattern (.type "object") = some true) :
    ∃ fd : FuncData, (∀ (s : Shared) (v : Value), BindsTo s fd ⟨[v], []⟩ [("_law_script", v)]) ∧ ∀ base : Heap, K.In base → base.Ns mainGlobals mg → FnOk l.prog w K mg base CX0 6 fa fd ["_law_script"] (sp_law K) := by
  have e := hfa.symm.trans (PySem.W.mg_of X G a9)
  cases e
  have F0 := fun_mk (st := s__law_cell) l0 c0 k0
  have B0 := F0.binds (ps := ["_law_script", "_law_k"]) fun _ _ _ _ _ _ us hl => match us, hl with | [_, _], _ => rfl
  have F1 := fun_mk (st := s__law_draws) l1 c1 k1
  have B1 := F1.binds (ps := ["_law_script", "_law_k", "_law_many"]) fun _ _ _ _ _ _ us hl => match us, hl with | [_, _, _], _ => rfl
  have F2 := fun_mk (st := s__law_asks) l2 c2 k2
  have B2 := F2.binds (ps := ["_law_row", "_law_many"]) fun _ _ _ _ _ _ us hl => match us, hl with | [_, _], _ => rfl
  have F3 := fun_mk (st := s__law_whole) l3 c3 k3
  have B3 := F3.binds (ps := ["_law_x"]) fun _ _ _ _ _ _ us hl => match us, hl with | [_], _ => rfl
  have F4 := fun_mk (st := s__law_climb) l4 c4 k4
  have B4 := F4.binds (ps := ["_law_row", "_law_size"]) fun _ _ _ _ _ _ us hl => match us, hl with | [_, _], _ => rfl
  have F5 := fun_mk (st := s__law_shuffled) l5 c5 k5
  have B5 := F5.binds (ps := ["_law_rows", "_law_row"]) fun _ _ _ _ _ _ us hl => match us, hl with | [_, _], _ => rfl
  have F6 := fun_mk (st := s__law_parts_hold) l6 c6 k6
  have B6 := F6.binds (ps := ["_law_machine", "_law_size", "_law_marks", "_law_steps", "_law_here"]) fun _ _ _ _ _ _ us hl => match us, hl with | [_, _, _, _, _], _ => rfl
  have F7 := fun_mk (st := s__law_is_step) l7 c7 k7
  have B7 := F7.binds (ps := ["_law_step"]) fun _ _ _ _ _ _ us hl => match us, hl with | [_], _ => rfl
  have F8 := fun_mk (st := s__law_made) l8 c8 k8
  have B8 := F8.binds (ps := ["_law_choice", "_law_size", "_law_marks", "_law_steps", "_law_here"]) fun _ _ _ _ _ _ us hl => match us, hl with | [_, _, _, _, _], _ => rfl
  have F9 := fun_mk (st := s_law) l9 c9 k9
  have B9 := F9.binds (ps := ["_law_script"]) fun _ _ _ _ _ _ us hl => match us, hl with | [_], _ => rfl
  have F10 := fun_mk (st := s_check_size) l10 c10 k10
  have B10 := F10.binds (ps := ["size"]) fun _ _ _ _ _ _ us hl => match us, hl with | [_], _ => rfl
  have F11 := fun_mk (st := s_check_marks) l11 c11 k11
  have B11 := F11.binds (ps := ["size", "marks"]) fun _ _ _ _ _ _ us hl => match us, hl with | [_, _], _ => rfl
  have F12 := fun_mk (st := s_check_steps) l12 c12 k12
  have B12 := F12.binds (ps := ["size", "steps"]) fun _ _ _ _ _ _ us hl => match us, hl with | [_, _], _ => rfl
  have F13 := fun_mk (st := s_is_ask) l13 c13 k13
  have B13 := F13.binds (ps := ["ask"]) fun _ _ _ _ _ _ us hl => match us, hl with | [_], _ => rfl
  have F14 := fun_mk (st := s_ascending) l14 c14 k14
  have B14 := F14.binds (ps := ["steps"]) fun _ _ _ _ _ _ us hl => match us, hl with | [_], _ => rfl
  have F15 := fun_mk (st := s_ends_by_ask) l15 c15 k15
  have B15 := F15.binds (ps := ["steps"]) fun _ _ _ _ _ _ us hl => match us, hl with | [_], _ => rfl
  have F16 := fun_mk (st := s_pairs_by_state) l16 c16 k16
  have B16 := F16.binds (ps := ["steps"]) fun _ _ _ _ _ _ us hl => match us, hl with | [_], _ => rfl
  have F17 : FunD K "__init__" "Machine.__init__" (defArgs s_Machine___init__) (defBody s_Machine___init__) (defScope s_Machine___init__) [.int 0] [] f17 (PySem.W.fnOf "__init__" "Machine.__init__" (defArgs s_Machine___init__) (defBody s_Machine___init__) (defScope s_Machine___init__) (.ref D17) kV17 dc17 pm17 an17 cd17 ct17) := ⟨⟨_, _, _, _, _, _, _, _, _, _, rfl, l17, c17, .inr ⟨(by intro z; cases z), _, _, [.int 0 tD17], nD17, rfl, z17, rfl, .cons ⟨tD17, rfl⟩ .nil⟩, .inl rfl⟩, k17⟩
  have B17 : Binds K (PySem.W.fnOf "__init__" "Machine.__init__" (defArgs s_Machine___init__) (defBody s_Machine___init__) (defScope s_Machine___init__) (.ref D17) kV17 dc17 pm17 an17 cd17 ct17) ["self", "size", "marks", "steps", "now"] [] := by
    obtain ⟨ds, v, b⟩ := F17.binds1 (ps := ["self", "size", "marks", "steps", "now"]) 5 1 (by intro z; cases z) rfl fun T kV doc pm an cdv ct us its hu hi => by
      obtain ⟨u1, u2, u3, u4, u5, rfl⟩ : ∃ u1 u2 u3 u4 u5, us = [u1, u2, u3, u4, u5] := match us, hu with | [u1, u2, u3, u4, u5], _ => ⟨u1, u2, u3, u4, u5, rfl⟩
      obtain ⟨v1, rfl⟩ : ∃ v1, its = [v1] := match its, hi with | [v1], _ => ⟨v1, rfl⟩
      exact ⟨_, rfl, rfl⟩
    cases v
    exact b
  obtain ⟨eds, evs, eb⟩ := F17.binds1 (ps := ["self", "size", "marks", "steps", "now"]) 4 0 (by intro z; cases z) rfl fun T kV doc pm an cdv ct us its hu hi => by
      obtain ⟨u1, u2, u3, u4, rfl⟩ : ∃ u1 u2 u3 u4, us = [u1, u2, u3, u4] := match us, hu with | [u1, u2, u3, u4], _ => ⟨u1, u2, u3, u4, rfl⟩
      obtain ⟨v1, rfl⟩ : ∃ v1, its = [v1] := match its, hi with | [v1], _ => ⟨v1, rfl⟩
      exact ⟨_, rfl, rfl⟩
  obtain ⟨_, ekn⟩ := FunD.kbindsD F17 (ps := ["self", "size", "marks", "steps", "now"]) 4 ["now"] (fun us _ ws => us ++ ws) (by intro z; cases z) (fun r1 _ r2 => r1.append r2) fun T kV doc pm an cdv ct us its ws hu hi hw => by
      obtain ⟨u1, u2, u3, u4, rfl⟩ : ∃ u1 u2 u3 u4, us = [u1, u2, u3, u4] := match us, hu with | [u1, u2, u3, u4], _ => ⟨u1, u2, u3, u4, rfl⟩
      obtain ⟨v1, rfl⟩ : ∃ v1, its = [v1] := match its, hi with | [v1], _ => ⟨v1, rfl⟩
      obtain ⟨w1, rfl⟩ : ∃ w1, ws = [w1] := match ws, hw with | [w1], _ => ⟨w1, rfl⟩
      exact ⟨_, rfl, rfl⟩
  have F18 := fun_mk (st := s_Machine___iter__) l18 c18 k18
  have B18 := F18.binds (ps := ["self"]) fun _ _ _ _ _ _ us hl => match us, hl with | [_], _ => rfl
  obtain ⟨T, T1, T2⟩ : ∃ T : Tp K mg, T.a_law = fa ∧ T.d_law = PySem.W.fnOf "law" "law" (defArgs s_law) (defBody s_law) (defScope s_law) .none kV9 dc9 pm9 an9 cd9 ct9 := ⟨{ C_Machine := C_Machine, g_Machine := PySem.W.mg_of X G qMachine, C_Service := C_Service, g_Service := PySem.W.mg_of X G qService, C_Pattern := C_Pattern, g_Pattern := PySem.W.mg_of X G qPattern, a__law_cell := f0, d__law_cell := PySem.W.fnOf "_law_cell" "_law_cell" (defArgs s__law_cell) (defBody s__law_cell) (defScope s__law_cell) .none kV0 dc0 pm0 an0 cd0 ct0, f__law_cell := F0, b__law_cell := B0, g__law_cell := PySem.W.mg_of X G a0, a__law_draws := f1, d__law_draws := PySem.W.fnOf "_law_draws" "_law_draws" (defArgs s__law_draws) (defBody s__law_draws) (defScope s__law_draws) .none kV1 dc1 pm1 an1 cd1 ct1, f__law_draws := F1, b__law_draws := B1, g__law_draws := PySem.W.mg_of X G a1, a__law_asks := f2, d__law_asks := PySem.W.fnOf "_law_asks" "_law_asks" (defArgs s__law_asks) (defBody s__law_asks) (defScope s__law_asks) .none kV2 dc2 pm2 an2 cd2 ct2, f__law_asks := F2, b__law_asks := B2, g__law_asks := PySem.W.mg_of X G a2, a__law_whole := f3, d__law_whole := PySem.W.fnOf "_law_whole" "_law_whole" (defArgs s__law_whole) (defBody s__law_whole) (defScope s__law_whole) .none kV3 dc3 pm3 an3 cd3 ct3, f__law_whole := F3, b__law_whole := B3, g__law_whole := PySem.W.mg_of X G a3, a__law_climb := f4, d__law_climb := PySem.W.fnOf "_law_climb" "_law_climb" (defArgs s__law_climb) (defBody s__law_climb) (defScope s__law_climb) .none kV4 dc4 pm4 an4 cd4 ct4, f__law_climb := F4, b__law_climb := B4, g__law_climb := PySem.W.mg_of X G a4, a__law_shuffled := f5, d__law_shuffled := PySem.W.fnOf "_law_shuffled" "_law_shuffled" (defArgs s__law_shuffled) (defBody s__law_shuffled) (defScope s__law_shuffled) .none kV5 dc5 pm5 an5 cd5 ct5, f__law_shuffled := F5, b__law_shuffled := B5, g__law_shuffled := PySem.W.mg_of X G a5, a__law_parts_hold := f6, d__law_parts_hold := PySem.W.fnOf "_law_parts_hold" "_law_parts_hold" (defArgs s__law_parts_hold) (defBody s__law_parts_hold) (defScope s__law_parts_hold) .none kV6 dc6 pm6 an6 cd6 ct6, f__law_parts_hold := F6, b__law_parts_hold := B6, g__law_parts_hold := PySem.W.mg_of X G a6, a__law_is_step := f7, d__law_is_step := PySem.W.fnOf "_law_is_step" "_law_is_step" (defArgs s__law_is_step) (defBody s__law_is_step) (defScope s__law_is_step) .none kV7 dc7 pm7 an7 cd7 ct7, f__law_is_step := F7, b__law_is_step := B7, g__law_is_step := PySem.W.mg_of X G a7, a__law_made := f8, d__law_made := PySem.W.fnOf "_law_made" "_law_made" (defArgs s__law_made) (defBody s__law_made) (defScope s__law_made) .none kV8 dc8 pm8 an8 cd8 ct8, f__law_made := F8, b__law_made := B8, g__law_made := PySem.W.mg_of X G a8, a_law := fa, d_law := PySem.W.fnOf "law" "law" (defArgs s_law) (defBody s_law) (defScope s_law) .none kV9 dc9 pm9 an9 cd9 ct9, f_law := F9, b_law := B9, g_law := PySem.W.mg_of X G a9, a_check_size := f10, d_check_size := PySem.W.fnOf "check_size" "check_size" (defArgs s_check_size) (defBody s_check_size) (defScope s_check_size) .none kV10 dc10 pm10 an10 cd10 ct10, f_check_size := F10, b_check_size := B10, g_check_size := PySem.W.mg_of X G a10, a_check_marks := f11, d_check_marks := PySem.W.fnOf "check_marks" "check_marks" (defArgs s_check_marks) (defBody s_check_marks) (defScope s_check_marks) .none kV11 dc11 pm11 an11 cd11 ct11, f_check_marks := F11, b_check_marks := B11, g_check_marks := PySem.W.mg_of X G a11, a_check_steps := f12, d_check_steps := PySem.W.fnOf "check_steps" "check_steps" (defArgs s_check_steps) (defBody s_check_steps) (defScope s_check_steps) .none kV12 dc12 pm12 an12 cd12 ct12, f_check_steps := F12, b_check_steps := B12, g_check_steps := PySem.W.mg_of X G a12, a_is_ask := f13, d_is_ask := PySem.W.fnOf "is_ask" "is_ask" (defArgs s_is_ask) (defBody s_is_ask) (defScope s_is_ask) .none kV13 dc13 pm13 an13 cd13 ct13, f_is_ask := F13, b_is_ask := B13, g_is_ask := PySem.W.mg_of X G a13, a_ascending := f14, d_ascending := PySem.W.fnOf "ascending" "ascending" (defArgs s_ascending) (defBody s_ascending) (defScope s_ascending) .none kV14 dc14 pm14 an14 cd14 ct14, f_ascending := F14, b_ascending := B14, g_ascending := PySem.W.mg_of X G a14, a_ends_by_ask := f15, d_ends_by_ask := PySem.W.fnOf "ends_by_ask" "ends_by_ask" (defArgs s_ends_by_ask) (defBody s_ends_by_ask) (defScope s_ends_by_ask) .none kV15 dc15 pm15 an15 cd15 ct15, f_ends_by_ask := F15, b_ends_by_ask := B15, g_ends_by_ask := PySem.W.mg_of X G a15, a_pairs_by_state := f16, d_pairs_by_state := PySem.W.fnOf "pairs_by_state" "pairs_by_state" (defArgs s_pairs_by_state) (defBody s_pairs_by_state) (defScope s_pairs_by_state) .none kV16 dc16 pm16 an16 cd16 ct16, f_pairs_by_state := F16, b_pairs_by_state := B16, g_pairs_by_state := PySem.W.mg_of X G a16, e_ds := eds, e_vs := evs, e_b := eb, e_kn := ekn, a_Machine___init__ := f17, d_Machine___init__ := PySem.W.fnOf "__init__" "Machine.__init__" (defArgs s_Machine___init__) (defBody s_Machine___init__) (defScope s_Machine___init__) (.ref D17) kV17 dc17 pm17 an17 cd17 ct17, f_Machine___init__ := F17, b_Machine___init__ := B17, a_Machine___iter__ := f18, d_Machine___iter__ := PySem.W.fnOf "__iter__" "Machine.__iter__" (defArgs s_Machine___iter__) (defBody s_Machine___iter__) (defScope s_Machine___iter__) .none kV18 dc18 pm18 an18 cd18 ct18, f_Machine___iter__ := F18, b_Machine___iter__ := B18, t_MOST_STATES := tk_MOST_STATES, k_MOST_STATES := PySem.W.mg_of X G xMOST_STATES, t_MOST_STEPS := tk_MOST_STEPS, k_MOST_STEPS := PySem.W.mg_of X G xMOST_STEPS, t_LONGEST_ASK := tk_LONGEST_ASK, k_LONGEST_ASK := PySem.W.mg_of X G xLONGEST_ASK, n_len := PySem.W.mg_none_of X G n_len, n_int := PySem.W.mg_none_of X G n_int, n_range := PySem.W.mg_none_of X G n_range, n_isinstance := PySem.W.mg_none_of X G n_isinstance, n_bool := PySem.W.mg_none_of X G n_bool, n_list := PySem.W.mg_none_of X G n_list, n_tuple := PySem.W.mg_none_of X G n_tuple, n_all := PySem.W.mg_none_of X G n_all, n_sorted := PySem.W.mg_none_of X G n_sorted, n_str := PySem.W.mg_none_of X G n_str, n_iter := PySem.W.mg_none_of X G n_iter, cf_Machine := ⟨⟨pgM, hdM, poM, saM⟩, naM0, naM1, naM2, naM3, naM4, naM5⟩, mk_Machine := ⟨mkM, aM17, i17, kcM⟩, it_Machine := ⟨aM18, i18⟩, is_Machine := if_pos (beq_self_eq_true _), cc_Machine := ⟨o1M, o2, o3, o4M⟩, cf_Service := ⟨⟨pgS, hdS, poS, saS⟩, naS0, naS1, naS2, naS3, naS4, naS5⟩, mk_Service := ⟨mkS, aS17, i17, kcS⟩, it_Service := ⟨aS18, i18⟩, is_Service := isS, cc_Service := ⟨o1S, o2, o3, o4S⟩, cf_Pattern := ⟨⟨pgP, hdP, poP, saP⟩, naP0, naP1, naP2, naP3, naP4, naP5⟩, mk_Pattern := ⟨mkP, aP17, i17, kcP⟩, it_Pattern := ⟨aP18, i18⟩, is_Pattern := isP, cc_Pattern := ⟨o1P, o2, o3, o4P⟩ }, rfl, rfl⟩
  refine ⟨PySem.W.fnOf "law" "law" (defArgs s_law) (defBody s_law) (defScope s_law) .none kV9 dc9 pm9 an9 cd9 ct9, fun s v => .of_eq rfl, fun base _ _ => ?_⟩
  have z := ok_law (P := l.prog) (w := w) (base := base) T
  rw [T1, T2] at z
  exact z
theorem walk {l : PySem.W.OpenLaw} {q : Program} {loose : List Str} {XP : (Str → Option Value) → Heap → Prop} {YP : World → Heap → Prop} {d : DefRec} {K : Params → PySem.W.Frag} (hn : l.most = some 63) (hdf : d.params.defaults = [])
    (hY : ∀ (w : World) (h : Heap), YP w h → (K w.params).In h)
    (F : ∀ (w : World) (mg : Str → Option Value) (fa : Addr) (h : Heap), (K w.params).In h → h.Ns mainGlobals mg → mg d.name = some (.ref fa) →
      ∃ fd : FuncData, (∀ (s : Shared) (u : Value), BindsTo s fd ⟨[u], []⟩ [("_law_script", u)]) ∧ ∀ base : Heap, (K w.params).In base → base.Ns mainGlobals mg → FnOk l.prog w (K w.params) mg base CX0 6 fa fd ["_law_script"] (sp_law (K w.params))) :
    PySem.W.WalkO q loose XP YP l.row.toRowW d [] (fun f vs => PySem.call f vs) :=
  L2.walk_of (n := 63) (k := 6) (x := "_law_script") (CX := fun _ => CX0) (sp := fun w => sp_law (K w.params)) hn (by decide) hdf ⟨rfl, by decide, by decide⟩ hY F (fun _ _ a ns hl _ hS => ⟨a, ns, rfl, hS, fun _ => rfl⟩) fun _ _ _ _ _ z => z
end K01

set_option Elab.async false
set_option linter.all false
open PySem PySem.W PyProof.Rows
set_option maxRecDepth 100000 in
set_option maxHeartbeats 0 in
theorem PySem.Challenge.cw_askshanded_k01_machine_parts_holds : PySem.Challenge.rw_askshanded_k01_machine_parts.Holds := by
  w_on; o_law; k_head; (case hw => w_witness2)
  k_fill
  refine K01.walk (l := PySem.Challenge.rw_askshanded_k01_machine_parts) rfl rfl (fun w h Y => PySem.W.kIn_of Y) ?F
  case F =>
    intro w mg fa h KX G hmg
    refine' K01.all_mk KX G hmg ?qMachine ?qService ?qPattern ?a0 ?l0 ?c0 ?k0 ?a1 ?l1 ?c1 ?k1 ?a2 ?l2 ?c2 ?k2 ?a3 ?l3 ?c3 ?k3 ?a4 ?l4 ?c4 ?k4 ?a5 ?l5 ?c5 ?k5 ?a6 ?l6 ?c6 ?k6 ?a7 ?l7 ?c7 ?k7 ?a8 ?l8 ?c8 ?k8 ?a9 ?l9 ?c9 ?k9 ?a10 ?l10 ?c10 ?k10 ?a11 ?l11 ?c11 ?k11 ?a12 ?l12 ?c12 ?k12 ?a13 ?l13 ?c13 ?k13 ?a14 ?l14 ?c14 ?k14 ?a15 ?l15 ?c15 ?k15 ?a16 ?l16 ?c16 ?k16 ?aM17 ?aS17 ?aP17 ?i17 ?l17 ?c17 ?k17 ?z17 ?aM18 ?aS18 ?aP18 ?i18 ?l18 ?c18 ?k18 ?xMOST_STATES ?xMOST_STEPS ?xLONGEST_ASK ?n_len ?n_int ?n_range ?n_isinstance ?n_bool ?n_list ?n_tuple ?n_all ?n_sorted ?n_str ?n_iter ?o2 ?o3 ?pgM ?hdM ?poM ?saM ?naM0 ?naM1 ?naM2 ?naM3 ?naM4 ?naM5 ?mkM ?kcM ?o1M ?o4M ?pgS ?hdS ?poS ?saS ?naS0 ?naS1 ?naS2 ?naS3 ?naS4 ?naS5 ?mkS ?kcS ?isS ?o1S ?o4S ?pgP ?hdP ?poP ?saP ?naP0 ?naP1 ?naP2 ?naP3 ?naP4 ?naP5 ?mkP ?kcP ?isP ?o1P ?o4P
    (case qMachine => k_is); (case qService => k_is); (case qPattern => k_is); (case a0 => k_is); (case l0 => k_is); (case c0 => k_is); (case k0 => k_is); (case a1 => k_is)
    (case l1 => k_is); (case c1 => k_is); (case k1 => k_is); (case a2 => k_is); (case l2 => k_is); (case c2 => k_is); (case k2 => k_is); (case a3 => k_is)
    (case l3 => k_is); (case c3 => k_is); (case k3 => k_is); (case a4 => k_is); (case l4 => k_is); (case c4 => k_is); (case k4 => k_is); (case a5 => k_is)
    (case l5 => k_is); (case c5 => k_is); (case k5 => k_is); (case a6 => k_is); (case l6 => k_is); (case c6 => k_is); (case k6 => k_is); (case a7 => k_is)
    (case l7 => k_is); (case c7 => k_is); (case k7 => k_is); (case a8 => k_is); (case l8 => k_is); (case c8 => k_is); (case k8 => k_is); (case a9 => k_is)
    (case l9 => k_is); (case c9 => k_is); (case k9 => k_is); (case a10 => k_is); (case l10 => k_is); (case c10 => k_is); (case k10 => k_is); (case a11 => k_is)
    (case l11 => k_is); (case c11 => k_is); (case k11 => k_is); (case a12 => k_is); (case l12 => k_is); (case c12 => k_is); (case k12 => k_is); (case a13 => k_is)
    (case l13 => k_is); (case c13 => k_is); (case k13 => k_is); (case a14 => k_is); (case l14 => k_is); (case c14 => k_is); (case k14 => k_is); (case a15 => k_is)
    (case l15 => k_is); (case c15 => k_is); (case k15 => k_is); (case a16 => k_is); (case l16 => k_is); (case c16 => k_is); (case k16 => k_is); (case aM17 => k_is)
    (case aS17 => k_is); (case aP17 => k_is); (case i17 => k_is); (case l17 => k_is); (case c17 => k_is); (case k17 => k_is); (case z17 => k_is); (case aM18 => k_is)
    (case aS18 => k_is); (case aP18 => k_is); (case i18 => k_is); (case l18 => k_is); (case c18 => k_is); (case k18 => k_is); (case xMOST_STATES => k_is); (case xMOST_STEPS => k_is)
    (case xLONGEST_ASK => k_is); (case n_len => k_is); (case n_int => k_is); (case n_range => k_is); (case n_isinstance => k_is); (case n_bool => k_is); (case n_list => k_is); (case n_tuple => k_is)
    (case n_all => k_is); (case n_sorted => k_is); (case n_str => k_is); (case n_iter => k_is); (case o2 => k_is); (case o3 => k_is); (case pgM => k_is); (case hdM => k_is)
    (case poM => k_is); (case saM => k_is); (case naM0 => k_is); (case naM1 => k_is); (case naM2 => k_is); (case naM3 => k_is); (case naM4 => k_is); (case naM5 => k_is)
    (case mkM => k_is); (case kcM => k_is); (case o1M => k_is); (case o4M => k_is); (case pgS => k_is); (case hdS => k_is); (case poS => k_is); (case saS => k_is)
    (case naS0 => k_is); (case naS1 => k_is); (case naS2 => k_is); (case naS3 => k_is); (case naS4 => k_is); (case naS5 => k_is); (case mkS => k_is); (case kcS => k_is)
    (case isS => kit_is); (case o1S => k_is); (case o4S => k_is); (case pgP => k_is); (case hdP => k_is); (case poP => k_is); (case saP => k_is); (case naP0 => k_is)
    (case naP1 => k_is); (case naP2 => k_is); (case naP3 => k_is); (case naP4 => k_is); (case naP5 => k_is); (case mkP => k_is); (case kcP => k_is); (case isP => kit_is)
    (case o1P => k_is); (case o4P => k_is)
